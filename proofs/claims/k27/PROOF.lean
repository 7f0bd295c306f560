import PyProof.Rows.All
import Wide.All
import OpenK.AllK
import Wide.FinOn
import Lean
import KE.KTryMore
import KE.KSortTup
import KE.KRevIter
import KE.KMinKey
import KE.KLam
import KE.KIntText
import PyProof.EqAt
import PyProof.EqKinds
import PyProof.TupleCall
import PySem.Challenge.RW_trellisway_k27_whole_distance_is_least
set_option Elab.async false
set_option linter.all false
set_option maxRecDepth 100000
set_option maxHeartbeats 4000000
abbrev au:=PySem.W.Frag
abbrev zlw:PySem.Str:="law_trellisway_k27_whole_distance_is_least"
namespace H27
open PySem PySem.W
abbrev zr:=Challenge.rw_trellisway_k27_whole_distance_is_least
abbrev zp:=Challenge.pw_trellisway_k27_whole_distance_is_least
def p6(tb:String->Option Builtin)(p:Program)(w:World)(n₀:Nat)(ann:Option Value):Nat->SharedT->Thread->Option SharedT
 |0,_,_=>none
 | n+1,s,t=>match through t with
  |true=>some s
  | false=>match stepOk n₀ ann t with
   |false=>none
   | true=>match stepT (denote tb) p w s t with
    |some (s',t')=>p6 tb p w n₀ ann n s' t'
    |none=>none
theorem Gc{tb:String->Option Builtin}{p:Program}{w:World}{n₀:Nat}{ann:Option Value}:∀{n:Nat} {s s':SharedT} {t:Thread},p6 tb p w n₀ ann n s t=some s'->topRun tb p w n₀ ann n s.abs t=some s'.abs
 |0,_,_,_,h=>by cases h
 | n+1,s,s',t,h=>by
  unfold p6 at h;unfold topRun;split at h
  ·rename_i q;rw[q];cases h;rfl
  ·rename_i q;rw[q];split at h
   ·cases h
   ·rename_i q2;dsimp only;rw[q2];split at h
    ·rename_i s1 t1 q3;dsimp only;rw[stepT_spec q3];exact Gc h
    ·cases h
def Dl:List Obj->Nat->BT->BT
 |[],_,t=>t
 |o::r,n,t=>Dl r (n+1) (t.ins n o)
noncomputable def u7(P:Params)(os:OsState):SharedT:=⟨Dl (boot_heap P).objs.toList 0 .nil,(boot_heap P).objs.size,(boot_heap P).life,Array.mk [],boot_drawn,boot_toks,os⟩
theorem qiw(P:Params)(os:OsState):(u7 P os).abs=⟨boot_heap P,Array.mk [],boot_drawn,boot_toks,os⟩:=by kernel_rfl
theorem qhz{p q:Program}{loose:List Str}{Xt:Shared->Bool}{α:Type}{Yf:Shared->α}{Ya:World->α}{N m₀:Nat}{ann:Option Value}(e:opening p=plainProg p.main.scope.names)(hN:Nat.ble 600 N=true)(f:∀s,fenceModules? p s=some s)
 (size:∀P:Params,((boot_heap P).isNs mainGlobals,(boot_heap P).objs.size,(boot_heap P).nsMap mainGlobals "__annotations__")=(true,m₀,ann))
 (run:∀(w:World) (os:OsState),(p6 treeTable p w m₀ ann N (u7 w.params os) (topStub p)).map (λs=>(staticsOk (importedModules p.main.body) (boot_heap w.params) s.abs.heap&&namesBound p s.abs.heap&&gensDone s.abs&&laidKept (boot_heap w.params) s.abs.heap,
   openSeen q loose (importedModules p.main.body) Xt true s.abs,Yf s.abs))=some (true,openGood q loose,Ya w)):LeftO p q loose Xt Yf Ya N:=λw=>by
 obtain⟨⟨h,gs,d,k,os⟩,e,e'⟩:=Option.map_eq_some_iff.mp (boot_open e hN f w);obtain⟨rfl,rfl,rfl,rfl⟩:h=boot_heap w.params/\gs=Array.mk []/\d=boot_drawn/\k=boot_toks:=by simpa using e'
 obtain⟨z1,z2,z3⟩:_/\_/\_:=by simpa only[Prod.mk.injEq]using size w.params
 obtain⟨s,r,l⟩:=Option.map_eq_some_iff.mp (run w os);obtain⟨l1,l2,l3⟩:_/\_/\_:=by simpa only[Prod.mk.injEq]using l
 have r:=Gc r;rw[qiw]at r;have t:topFrom treeTable p w N ⟨boot_heap w.params,Array.mk [],boot_drawn,boot_toks,os⟩=some s.abs:=by unfold topFrom;dsimp only;rw[z1,z2,z3,r];show(match staticsOk (importedModules p.main.body) (boot_heap w.params) s.abs.heap&&namesBound p s.abs.heap&&gensDone s.abs&&laidKept (boot_heap w.params) s.abs.heap with|true=>_|false=>_)=_;rw[l1]
 unfold openEnds;rw[e];show(topFrom treeTable p w N _).map _=_;rw[t];exact congrArg some (Prod.ext l2 l3)
def tp(i:Nat):Stmt:=zp.main.body.getD i (.Pass ⟨0,0,0,0⟩)
def ic(s:Stmt)(j:Nat):Stmt:=match s with
 |.ClassDef _ _ _ b _ _ _ _ _ _ _=>b.getD j (.Pass ⟨0,0,0,0⟩)
 |_=>.Pass ⟨0,0,0,0⟩
def dA(s:Stmt):Arguments:=match s with
 |.FunctionDef _ a _ _ _ _ _ _ _ _=>a
 |_=>{posonlyargs:=[],args:=[],vararg:=none,kwonlyargs:=[],kw_defaults:=[],kwarg:=none,defaults:=[]}
def dB(s:Stmt):List Stmt:=match s with
 |.FunctionDef _ _ b _ _ _ _ _ _ _=>b
 |_=>[]
def dS(s:Stmt):Scope:=match s with
 |.FunctionDef _ _ _ _ _ _ sc _ _ _=>sc
 |_=>{kind:=.function,names:=[],isGenerator:=false,isCoroutine:=false}
def V:Program:={zp with main:={zp.main with body:=[tp 1,tp 2,tp 3,tp 5,tp 6,tp 7,tp 8,tp 9,tp 11,tp 12,tp 13,tp 14,tp 15,tp 16,tp 18,tp 19,tp 20,tp 21,tp 22,tp 24,tp 25,tp 26,tp 27,tp 28,tp 29,tp 30,tp 31,tp 32,tp 33,tp 35,tp 37,tp 38,tp 39,tp 40,tp 41,tp 44,tp 46,tp 47,tp 48,tp 49,tp 50,tp 51,tp 52,tp 53,tp 54,tp 55,tp 56,tp 57,tp 58,tp 59]}}
abbrev zm0:Value:=.str zlw 625
abbrev zm1:Value:=.str "trellisway.schemes" 239
abbrev zm2:Value:=.str "trellisway.sending" 276
abbrev zm3:Value:=.str "trellisway.signs" 326
abbrev zm4:Value:=.str "trellisway.costs" 468
abbrev zm5:Value:=.str "trellisway.few" 564
def eS(P:Params)(x:Str)(t:Nat)(v:Value):DictEntry:=⟨PyData.keyHash P x,.str x t,v⟩
def fO(x:Str)(s:Stmt)(pm:Value)(cd:Nat):Obj:=⟨.type "function",none,.func (W.fnOf x x (dA s) (dB s) (dS s) .none .none .none pm none (.ref cd) .none),#[]⟩
def eR(P:Params)(x:Str)(t:Nat)(n:Addr):DictEntry:=eS P x t (.ref n)
def cN(x:Str)(t:Nat)(y:Str)(u a2 a3 a4 a7 a8 a10 a11 a15 a16 a17 a18:Nat):Obj:=⟨.type "code",none,.fields #[.str x t,.str y u,.str "/claim/cut.py" a2,.int a3 0,.int a4 0,.int 0 0,.int 0 0,.int a7 0,.ref a8,.bool true,.int a10 0,.ref a11,.none,.none,.none,.ref a15,.int a16 0,.int a17 0,.str "/claim/cut.py" a18],#[]⟩
def cO(x:Str)(t:Nat)(y:Str)(u a2 a3 a4 a7 a8 a10 a11 a13 a14 a15 a16 a17 a18:Nat):Obj:=⟨.type "code",none,.fields #[.str x t,.str y u,.str "/claim/cut.py" a2,.int a3 0,.int a4 0,.int 0 0,.int 0 0,.int a7 0,.ref a8,.bool true,.int a10 0,.ref a11,.none,.ref a13,.ref a14,.ref a15,.int a16 0,.int a17 0,.str "/claim/cut.py" a18],#[]⟩
def KH(P:Params):W.Frag:=[(3,⟨.type "dict",none,.dict #[eS P "__name__" 165 zm0,eS P "__doc__" 166 (.none),eS P "__package__" 167 (.none),eS P "__loader__" 168 (.builtin "__main__.__loader__#opaque"),eS P "__spec__" 169 (.none),eR P "__annotations__" 170 6,eR P "__builtins__" 171 4,eS P "__file__" 173 (.str "/claim/cut.py" 172),eS P "__cached__" 174 (.none),eR P "WayError" 206 24,eR P "NoWord" 222 37,eR P "NoSigns" 238 49,eR P "rooms_at" 247 58,eR P "rooms" 254 65,eR P "parity" 263 72,eR P "step" 269 77,eR P "sent_at" 275 82,eR P "is_ring" 284 89,eR P "check_size" 292 96,eR P "bits_behind" 299 103,eR P "first_rooms" 306 110,eR P "steps_of" 314 117,eR P "places_of" 325 124,eR P "Sign" 347 134,eR P "Clear" 387 169,eR P "Gap" 418 195,eR P "Soft" 460 228,eR P "sign_of" 467 237,eR P "check_heard" 479 244,eR P "signs_cost" 485 249,eR P "signs_by_step" 491 254,eR P "move" 503 261,eR P "moves_from" 509 266,eR P "moves" 515 271,eR P "end_costs" 521 276,eR P "cost_by" 530 283,eR P "least_by" 536 288,eR P "ahead_by" 542 293,eR P "ahead" 553 301,eR P "ahead_by_start" 563 308,eR P "cost_of_track" 575 315,eR P "beginning" 581 320,eR P "track_on" 591 327,eR P "beginning_on" 597 332,eR P "first_ones" 605 339,eR P "few" 612 345,eR P "apart" 624 352,eR P "_law_cell_at" 634 359,eR P "_law_state" 642 366,eR P "_law_next" 650 373,eR P "_law_scheme" 656 378,eR P "_law_odd" 664 385,eR P "_law_step" 670 390,eR P "_law_start" 680 397,eR P "_law_sent" 693 404,eR P "_law_whole" 700 411,eR P "_law_is_word" 706 416,eR P "_law_from" 720 423,eR P "_law_leaving" 726 428,eR P "_law_none_less" 732 433,eR P "law" 738 438] 61,#[]⟩),
 (4,⟨.type "module",(some 0),.plain,#[]⟩),
 (23,⟨.type "dict",none,.dict #[eS P "__module__" 196 (.str "trellisway.errors" 187),eS P "__firstlineno__" 200 (.int 2 199),eR P "__static_attributes__" 201 22,eR P "__weakref__" 203 25,eS P "__doc__" 204 (.none)] 3,#[]⟩),
 (24,⟨.type "type",none,.cls ⟨"WayError",[.type "ValueError"],[.ref 24,.type "ValueError",.type "Exception",.type "BaseException",.type "object"],23,"WayError",true,[],[.ref 37,.ref 49],false,none,false⟩,#[some (.ref 15),none,some (.str "WayError" 189),some (.str "WayError" 197),some (.builtin "ValueError.__new__"),some (.bool true)]⟩),
 (36,⟨.type "dict",none,.dict #[eS P "__module__" 214 (.str "trellisway.errors" 187),eS P "__firstlineno__" 218 (.int 4 217),eR P "__static_attributes__" 219 35,eS P "__doc__" 220 (.none)] 2,#[]⟩),
 (37,⟨.type "type",none,.cls ⟨"NoWord",[.ref 24],[.ref 37,.ref 24,.type "ValueError",.type "Exception",.type "BaseException",.type "object"],36,"NoWord",true,[],[],false,none,false⟩,#[some (.ref 28),none,some (.str "NoWord" 207),some (.str "NoWord" 215),some (.builtin "ValueError.__new__"),some (.bool true)]⟩),
 (48,⟨.type "dict",none,.dict #[eS P "__module__" 230 (.str "trellisway.errors" 187),eS P "__firstlineno__" 234 (.int 6 233),eR P "__static_attributes__" 235 47,eS P "__doc__" 236 (.none)] 2,#[]⟩),
 (49,⟨.type "type",none,.cls ⟨"NoSigns",[.ref 24],[.ref 49,.ref 24,.type "ValueError",.type "Exception",.type "BaseException",.type "object"],48,"NoSigns",true,[],[],false,none,false⟩,#[some (.ref 40),none,some (.str "NoSigns" 223),some (.str "NoSigns" 231),some (.builtin "ValueError.__new__"),some (.bool true)]⟩),
 (57,cO "rooms_at" 241 "rooms_at" 242 243 9 1 3 52 181 53 54 55 56 245 9 246),
 (58,fO "rooms_at" (tp 5) zm1 57),
 (64,cO "rooms" 248 "rooms" 249 250 11 1 3 59 181 60 61 62 63 252 11 253),
 (65,fO "rooms" (tp 6) zm1 64),
 (71,cO "parity" 255 "parity" 256 257 13 1 3 66 181 67 68 69 70 261 13 262),
 (72,fO "parity" (tp 7) zm1 71),
 (76,cN "step" 264 "step" 265 266 20 3 3 73 181 74 75 267 20 268),
 (77,fO "step" (tp 8) zm1 76),
 (81,cN "sent_at" 270 "sent_at" 271 272 24 3 3 78 181 79 80 273 24 274),
 (82,fO "sent_at" (tp 9) zm1 81),
 (88,cO "is_ring" 278 "is_ring" 279 280 29 1 3 83 181 84 85 86 87 282 29 283),
 (89,fO "is_ring" (tp 11) zm2 88),
 (95,cO "check_size" 285 "check_size" 286 287 31 2 3 90 181 91 92 93 94 290 31 291),
 (96,fO "check_size" (tp 12) zm2 95),
 (102,cO "bits_behind" 293 "bits_behind" 294 295 34 1 3 97 181 98 99 100 101 297 34 298),
 (103,fO "bits_behind" (tp 13) zm2 102),
 (109,cO "first_rooms" 300 "first_rooms" 301 302 36 1 3 104 181 105 106 107 108 304 36 305),
 (110,fO "first_rooms" (tp 14) zm2 109),
 (116,cO "steps_of" 307 "steps_of" 308 309 38 2 3 111 181 112 113 114 115 312 38 313),
 (117,fO "steps_of" (tp 15) zm2 116),
 (123,cO "places_of" 315 "places_of" 316 317 41 2 3 118 181 119 120 121 122 323 41 324),
 (124,fO "places_of" (tp 16) zm2 123),
 (133,⟨.type "dict",none,.dict #[eS P "__module__" 335 zm3,eS P "__firstlineno__" 339 (.int 48 338),eR P "__static_attributes__" 340 132,eR P "__dict__" 342 135,eR P "__weakref__" 344 136,eS P "__doc__" 345 (.none)] 4,#[]⟩),
 (134,⟨.type "type",none,.cls ⟨"Sign",[.type "object"],[.ref 134,.type "object"],133,"Sign",true,[],[.ref 169,.ref 195,.ref 228],false,none,false⟩,#[none,none,some (.str "Sign" 328),some (.str "Sign" 336),some (.builtin "object.__new__"),some (.bool true)]⟩),
 (151,cO "__init__" 360 "Clear.__init__" 361 362 52 2 3 146 181 147 148 149 150 365 52 366),
 (152,⟨.type "function",none,.func (W.fnOf "__init__" "Clear.__init__" (dA (ic (tp 19) 0)) (dB (ic (tp 19) 0)) (dS (ic (tp 19) 0)) (.none) (.none) (.none) zm3 none (.ref 151) (.none)),#[]⟩),
 (158,cO "told" 368 "Clear.told" 369 370 55 1 3 153 181 154 155 156 157 372 55 373),
 (159,⟨.type "function",none,.func (W.fnOf "told" "Clear.told" (dA (ic (tp 19) 1)) (dB (ic (tp 19) 1)) (dS (ic (tp 19) 1)) (.none) (.none) (.none) zm3 none (.ref 158) (.none)),#[]⟩),
 (165,cO "cost" 375 "Clear.cost" 376 377 58 2 3 160 181 161 162 163 164 380 58 381),
 (166,⟨.type "function",none,.func (W.fnOf "cost" "Clear.cost" (dA (ic (tp 19) 2)) (dB (ic (tp 19) 2)) (dS (ic (tp 19) 2)) (.none) (.none) (.none) zm3 none (.ref 165) (.none)),#[]⟩),
 (168,⟨.type "dict",none,.dict #[eS P "__module__" 355 zm3,eS P "__firstlineno__" 359 (.int 50 358),eR P "__init__" 367 152,eR P "told" 374 159,eR P "cost" 382 166,eR P "__static_attributes__" 384 167,eS P "__doc__" 385 (.none)] 2,#[]⟩),
 (169,⟨.type "type",none,.cls ⟨"Clear",[.ref 134],[.ref 169,.ref 134,.type "object"],168,"Clear",true,[],[],false,none,false⟩,#[some (.ref 139),none,some (.str "Clear" 348),some (.str "Clear" 356),some (.builtin "object.__new__"),some (.bool true)]⟩),
 (184,cO "told" 400 "Gap.told" 401 402 62 1 3 179 181 180 181 182 183 404 62 405),
 (185,⟨.type "function",none,.func (W.fnOf "told" "Gap.told" (dA (ic (tp 20) 0)) (dB (ic (tp 20) 0)) (dS (ic (tp 20) 0)) (.none) (.none) (.none) zm3 none (.ref 184) (.none)),#[]⟩),
 (191,cO "cost" 407 "Gap.cost" 408 409 65 2 3 186 181 187 188 189 190 412 65 413),
 (192,⟨.type "function",none,.func (W.fnOf "cost" "Gap.cost" (dA (ic (tp 20) 1)) (dB (ic (tp 20) 1)) (dS (ic (tp 20) 1)) (.none) (.none) (.none) zm3 none (.ref 191) (.none)),#[]⟩),
 (194,⟨.type "dict",none,.dict #[eS P "__module__" 395 zm3,eS P "__firstlineno__" 399 (.int 60 398),eR P "told" 406 185,eR P "cost" 414 192,eR P "__static_attributes__" 415 193,eS P "__doc__" 416 (.none)] 2,#[]⟩),
 (195,⟨.type "type",none,.cls ⟨"Gap",[.ref 134],[.ref 195,.ref 134,.type "object"],194,"Gap",true,[],[],false,none,false⟩,#[some (.ref 172),none,some (.str "Gap" 388),some (.str "Gap" 396),some (.builtin "object.__new__"),some (.bool true)]⟩),
 (210,cO "__init__" 431 "Soft.__init__" 432 433 69 3 3 205 181 206 207 208 209 437 69 438),
 (211,⟨.type "function",none,.func (W.fnOf "__init__" "Soft.__init__" (dA (ic (tp 21) 0)) (dB (ic (tp 21) 0)) (dS (ic (tp 21) 0)) (.none) (.none) (.none) zm3 none (.ref 210) (.none)),#[]⟩),
 (217,cO "told" 440 "Soft.told" 441 442 73 1 3 212 181 213 214 215 216 444 73 445),
 (218,⟨.type "function",none,.func (W.fnOf "told" "Soft.told" (dA (ic (tp 21) 1)) (dB (ic (tp 21) 1)) (dS (ic (tp 21) 1)) (.none) (.none) (.none) zm3 none (.ref 217) (.none)),#[]⟩),
 (224,cO "cost" 447 "Soft.cost" 448 449 76 2 3 219 181 220 221 222 223 452 76 453),
 (225,⟨.type "function",none,.func (W.fnOf "cost" "Soft.cost" (dA (ic (tp 21) 2)) (dB (ic (tp 21) 2)) (dS (ic (tp 21) 2)) (.none) (.none) (.none) zm3 none (.ref 224) (.none)),#[]⟩),
 (227,⟨.type "dict",none,.dict #[eS P "__module__" 426 zm3,eS P "__firstlineno__" 430 (.int 67 429),eR P "__init__" 439 211,eR P "told" 446 218,eR P "cost" 454 225,eR P "__static_attributes__" 457 226,eS P "__doc__" 458 (.none)] 2,#[]⟩),
 (228,⟨.type "type",none,.cls ⟨"Soft",[.ref 134],[.ref 228,.ref 134,.type "object"],227,"Soft",true,[],[],false,none,false⟩,#[some (.ref 198),none,some (.str "Soft" 419),some (.str "Soft" 427),some (.builtin "object.__new__"),some (.bool true)]⟩),
 (236,cO "sign_of" 461 "sign_of" 462 463 78 1 3 231 181 232 233 234 235 465 78 466),
 (237,fO "sign_of" (tp 22) zm3 236),
 (243,cO "check_heard" 470 "check_heard" 471 472 85 3 3 238 181 239 240 241 242 477 85 478),
 (244,fO "check_heard" (tp 24) zm4 243),
 (248,cN "signs_cost" 480 "signs_cost" 481 482 89 2 3 245 181 246 247 483 89 484),
 (249,fO "signs_cost" (tp 25) zm4 248),
 (253,cN "signs_by_step" 486 "signs_by_step" 487 488 91 3 3 250 181 251 252 489 91 490),
 (254,fO "signs_by_step" (tp 26) zm4 253),
 (260,cO "move" 492 "move" 493 494 96 5 3 255 181 256 257 258 259 501 96 502),
 (261,fO "move" (tp 27) zm4 260),
 (265,cN "moves_from" 504 "moves_from" 505 506 99 5 3 262 181 263 264 507 99 508),
 (266,fO "moves_from" (tp 28) zm4 265),
 (270,cN "moves" 510 "moves" 511 512 101 3 3 267 181 268 269 513 101 514),
 (271,fO "moves" (tp 29) zm4 270),
 (275,cN "end_costs" 516 "end_costs" 517 518 108 2 3 272 181 273 274 519 108 520),
 (276,fO "end_costs" (tp 30) zm4 275),
 (282,cO "cost_by" 522 "cost_by" 523 524 113 2 3 277 181 278 279 280 281 528 113 529),
 (283,fO "cost_by" (tp 31) zm4 282),
 (287,cN "least_by" 531 "least_by" 532 533 116 2 3 284 181 285 286 534 116 535),
 (288,fO "least_by" (tp 32) zm4 287),
 (292,cN "ahead_by" 537 "ahead_by" 538 539 119 2 3 289 181 290 291 540 119 541),
 (293,fO "ahead_by" (tp 33) zm4 292),
 (294,⟨.type "tuple",none,.seq #[.int 0 543] 0,#[]⟩),
 (300,cO "ahead" 544 "ahead" 545 546 125 4 3 295 181 296 297 298 299 551 125 552),
 (301,⟨.type "function",none,.func (W.fnOf "ahead" "ahead" (dA (tp 34)) (dB (tp 34)) (dS (tp 34)) (.ref 294) (.none) (.none) zm4 none (.ref 300) (.none)),#[]⟩),
 (307,cO "ahead_by_start" 554 "ahead_by_start" 555 556 127 2 3 302 181 303 304 305 306 561 127 562),
 (308,fO "ahead_by_start" (tp 35) zm4 307),
 (314,cO "cost_of_track" 566 "cost_of_track" 567 568 133 3 3 309 181 310 311 312 313 573 133 574),
 (315,fO "cost_of_track" (tp 37) zm5 314),
 (319,cN "beginning" 576 "beginning" 577 578 136 3 3 316 181 317 318 579 136 580),
 (320,fO "beginning" (tp 38) zm5 319),
 (326,cO "track_on" 582 "track_on" 583 584 140 3 3 321 181 322 323 324 325 589 140 590),
 (327,fO "track_on" (tp 39) zm5 326),
 (331,cN "beginning_on" 592 "beginning_on" 593 594 143 4 3 328 181 329 330 595 143 596),
 (332,fO "beginning_on" (tp 40) zm5 331),
 (338,cO "first_ones" 598 "first_ones" 599 600 146 2 3 333 181 334 335 336 337 603 146 604),
 (339,fO "first_ones" (tp 41) zm5 338),
 (340,⟨.type "tuple",none,.seq #[.int 2 606] 0,#[]⟩),
 (344,cN "few" 607 "few" 608 609 148 4 3 341 181 342 343 610 148 611),
 (345,⟨.type "function",none,.func (W.fnOf "few" "few" (dA (tp 42)) (dB (tp 42)) (dS (tp 42)) (.ref 340) (.none) (.none) zm5 none (.ref 344) (.none)),#[]⟩),
 (351,cO "apart" 615 "apart" 616 617 160 2 3 346 181 347 348 349 350 622 160 623),
 (352,fO "apart" (tp 44) (.str "trellisway.apart" 613) 351),
 (358,cO "_law_cell_at" 627 "_law_cell_at" 628 629 165 2 3 353 181 354 355 356 357 632 165 633),
 (359,fO "_law_cell_at" (tp 46) zm0 358),
 (365,cO "_law_state" 635 "_law_state" 636 637 169 2 3 360 181 361 362 363 364 640 169 641),
 (366,fO "_law_state" (tp 47) zm0 365),
 (372,cO "_law_next" 643 "_law_next" 644 645 171 2 3 367 181 368 369 370 371 648 171 649),
 (373,fO "_law_next" (tp 48) zm0 372),
 (377,cN "_law_scheme" 651 "_law_scheme" 652 653 174 3 3 374 181 375 376 654 174 655),
 (378,fO "_law_scheme" (tp 49) zm0 377),
 (384,cO "_law_odd" 657 "_law_odd" 658 659 181 1 3 379 181 380 381 382 383 662 181 663),
 (385,fO "_law_odd" (tp 50) zm0 384),
 (389,cN "_law_step" 665 "_law_step" 666 667 187 4 3 386 181 387 388 668 187 669),
 (390,fO "_law_step" (tp 51) zm0 389),
 (396,cO "_law_start" 671 "_law_start" 672 673 192 2 3 391 181 392 393 394 395 678 192 679),
 (397,fO "_law_start" (tp 52) zm0 396),
 (403,cO "_law_sent" 681 "_law_sent" 682 683 198 2 3 398 181 399 400 401 402 691 198 692),
 (404,fO "_law_sent" (tp 53) zm0 403),
 (410,cO "_law_whole" 694 "_law_whole" 695 696 208 1 3 405 181 406 407 408 409 698 208 699),
 (411,fO "_law_whole" (tp 54) zm0 410),
 (415,cN "_law_is_word" 701 "_law_is_word" 702 703 210 2 3 412 181 413 414 704 210 705),
 (416,fO "_law_is_word" (tp 55) zm0 415),
 (422,cO "_law_from" 707 "_law_from" 708 709 214 4 3 417 181 418 419 420 421 718 214 719),
 (423,fO "_law_from" (tp 56) zm0 422),
 (427,cN "_law_leaving" 721 "_law_leaving" 722 723 223 1 3 424 181 425 426 724 223 725),
 (428,fO "_law_leaving" (tp 57) zm0 427),
 (432,cN "_law_none_less" 727 "_law_none_less" 728 729 229 4 3 429 181 430 431 730 229 731),
 (433,fO "_law_none_less" (tp 58) zm0 432),
 (437,cN "law" 733 "law" 734 735 243 1 3 434 181 435 436 736 243 737),
 (438,fO "law" (tp 59) zm0 437)]
def KHP(P:Params):W.Frag:=KH P++[(334,⟨.none,none,.fields #[],#[]⟩)]
def KA:List Addr:=[3,4,23,24,36,37,48,49,57,58,64,65,71,72,76,77,81,82,88,89,95,96,102,103,109,110,116,117,123,124,133,134,151,152,158,159,165,166,168,169,184,185,191,192,194,195,210,211,217,218,224,225,227,228,236,237,243,244,248,249,253,254,260,261,265,266,270,271,275,276,282,283,287,288,292,293,294,300,301,307,308,314,315,319,320,326,327,331,332,338,339,340,344,345,351,352,358,359,365,366,372,373,377,378,384,385,389,390,396,397,403,404,410,411,415,416,422,423,427,428,432,433,437,438,334]
theorem ka_eq:∀P,KA=(KHP P).map (·.1):=λ_=>rfl
theorem run(w:World)(os:OsState):(p6 treeTable zp w 11 (some (.ref 6)) 6278 (u7 w.params os) (topStub zp)).map (λs=>(staticsOk (importedModules zp.main.body) (boot_heap w.params) s.abs.heap&&namesBound zp s.abs.heap&&gensDone s.abs&&laidKept (boot_heap w.params) s.abs.heap,
 openSeen V ["ahead","few"] (importedModules zp.main.body) (λs=>xlAt V [] s&&recOk (RowW.records (OpenRow.toRowW zr.row)) s) true s.abs,Hook.obs (kHook KHP KA ka_eq) s.abs))=some (true,openGood V ["ahead","few"],Hook.val (kHook KHP KA ka_eq) w):=by kernel_rfl
theorem left:LeftO zp V ["ahead","few"] (λs=>xlAt V [] s&&recOk (RowW.records (OpenRow.toRowW zr.row)) s) (Hook.obs (kHook KHP KA ka_eq)) (Hook.val (kHook KHP KA ka_eq)) 6278:=qhz (by kernel_rfl) (by kernel_rfl) (λs=>by kernel_rfl) (λP=>by kernel_rfl) run
theorem qnp:(OpenRow.toRowW zr.row).prog=zp:=by kernel_rfl
theorem leftR:LeftO (OpenRow.toRowW zr.row).prog V ["ahead","few"] (λs=>xlAt V [] s&&recOk (RowW.records (OpenRow.toRowW zr.row)) s) (Hook.obs (kHook KHP KA ka_eq)) (Hook.val (kHook KHP KA ka_eq)) 6278:=by rw[qnp];exact left
end H27
abbrev j0:=@PySem.wpAny_bind
abbrev j3:=@List.length_map
abbrev j4:=@PySem.wpAny_pure
abbrev j5:=@PySem.Heap.lt_size
abbrev j6:=@PySem.Heap.get?_push_of_some
abbrev j7:=@Nat.le_refl
abbrev j8:=@List.getElem?_eq_getElem
abbrev j9:=@List.mem_cons_of_mem
abbrev ja:=@List.mem_cons_self
abbrev jb:=@Option.some.inj
abbrev jc:=@List.getD_eq_getElem?_getD
abbrev jd:=@List.getElem?_map
abbrev je:=@List.length_append
abbrev jf:=@List.getElem?_set_ne
abbrev jg:=@List.map_map
abbrev jh:=@Nat.ne_of_lt
abbrev ji:=@List.length_replicate
abbrev jj:=@PySem.Heap.get?_push_size
abbrev jl:=@List.length_cons
abbrev jn:=@Nat.lt_of_lt_of_le
abbrev jo:=@List.map_cons
abbrev jq:=@Int.toNat_natCast
abbrev jr:=@Nat.le_trans
abbrev jt:=@List.size_toArray
abbrev ju:=@List.mem_append_right
abbrev jv:=@Nat.zero_add
abbrev jw:=@List.getElem?_eq_none
abbrev jx:=@List.map_append
abbrev jy:=@List.getElem?_set_self
abbrev jz:=@List.length_take
abbrev x6:=@List.length_set
abbrev x8:=@PySem.PassesOwn.never
abbrev x9:=@Nat.lt_irrefl
abbrev xf:=@PySem.wpAny_field
abbrev xg:=@PySem.Heap.size_push
abbrev xh:=@PySem.wpAny_Call_Name_kw
abbrev xi:=@List.mem_of_getElem?
abbrev xj:=@List.length_drop
abbrev xk:=@List.getElem_mem
abbrev xl:=@PySem.wpAny_seqItems
abbrev xm:=@List.getElem?_range
abbrev xn:=@PySem.wpAny_mono
abbrev xo:=@List.getElem?_append_right
abbrev xp:=@PySem.wpAny_holding
abbrev xq:=@PySem.wpAny_newObj_type
abbrev xr:=@List.getElem?_replicate
abbrev xu:=@PySem.wpAny_call_entry
abbrev xv:=@List.getElem?_append_left
abbrev xw:=@PySem.wpAny_callSpecial?_slot
abbrev xx:=@PySem.Heap.get?_update_other
abbrev xy:=@List.length_zip
abbrev k6:=@PySem.wpAny_truthy_bool
abbrev k7:=@PySem.wpAny_passesOwn
abbrev k8:=@PySem.Heap.get?_update_self
abbrev k9:=@List.drop_eq_getElem_cons
abbrev ka:=@PySem.plainId_quiet
abbrev kb:=@PySem.F.plain_min_loop
abbrev kc:=@Nat.min_le_left
abbrev ke:=@PySem.wpAny_setField_rec
abbrev kf:=@PySem.Calls.spliced_cons
abbrev kg:=@PySem.Heap.SameBut.update
abbrev kh:=@PySem.Around.under_plainId
abbrev ki:=@PySem.F.slot_tuple_iterator_next
abbrev kj:=@PySem.F.slot_dict_keyiterator_next
abbrev kl:=@PySem.wpAny_typeNameOfWhole_keyiter
namespace L2
open PySem PySem.Spec PyProof.Rows
abbrev br:=Sum Int Str
def sg:br->Value->Bool
 |.inl k,v=>Value.isInt k v
 |.inr x,v=>Value.isStrOf x v
def Am(w:World):br->Int
 |.inl k=>hashInt k
 |.inr x=>hashStr w x
theorem jX:∀{k:br} {v:Value},sg k v=true->(∃i t,k=Sum.inl i/\v=Value.int i t)∨(∃x t,k=Sum.inr x/\v=Value.str x t)
 | .inl i,v,h=>by obtain⟨t,e⟩:=Value.isInt_shape (k:=i) (v:=v) h;exact .inl ⟨i,t,rfl,e⟩
 | .inr x,v,h=>by obtain⟨t,e⟩:=Value.isStrOf_shape (x:=x) (v:=v) h;exact .inr ⟨x,t,rfl,e⟩
theorem qi3(i:Int)(t:Tok):sg (.inl i) (.int i t)=true:=by simp[sg,Value.isInt]
theorem qu2(a b:Int):decide ((Sum.inl a:br)=Sum.inl b)=(a==b):=by
 by_cases e:a=b
 ·subst e;simp
 ·have h:¬(Sum.inl a:br)=Sum.inl b:=λq=>e (Sum.inl.inj q);rw[decide_eq_false h];exact(beq_eq_false_iff_ne.mpr e).symm
theorem qty(a b:Str):decide ((Sum.inr a:br)=Sum.inr b)=decide (a=b):=by
 by_cases e:a=b
 ·subst e;simp
 ·have h:¬(Sum.inr a:br)=Sum.inr b:=λq=>e (Sum.inr.inj q);rw[decide_eq_false h,decide_eq_false e]
theorem qu1(a:Int)(b:Str):decide ((Sum.inl a:br)=Sum.inr b)=false:=decide_eq_false (λq=>nomatch q)
theorem qtz(a:Str)(b:Int):decide ((Sum.inr a:br)=Sum.inl b)=false:=decide_eq_false (λq=>nomatch q)
def pZ(prog:Program)(w:World):PySem.KeyKind prog w br where
 is:=sg
 hash:=Am w
 inj:=λv a b ha hb=>by
  rcases jX ha with⟨i,t,rfl,rfl⟩|⟨x,t,rfl,rfl⟩
  ·rcases jX hb with⟨j,u,rfl,e⟩|⟨y,u,rfl,e⟩
   ·injection e with e1 _;rw[e1]
   ·exact nomatch e
  ·rcases jX hb with⟨j,u,rfl,e⟩|⟨y,u,rfl,e⟩
   ·exact nomatch e
   ·injection e with e1 _;rw[e1]
 byValue:=λk v h=>by rcases jX h with⟨i,t,rfl,rfl⟩|⟨x,t,rfl,rfl⟩<;>rfl
 pyHash:=λhv h=>by
  rcases jX hv with⟨i,t,rfl,rfl⟩|⟨x,t,rfl,rfl⟩
  ·exact wpAny_pyHash_int h
  ·exact wpAny_pyHash_str h
 eqBool:=λhu hv h=>by
  rcases jX hu with⟨i,t,rfl,rfl⟩|⟨x,t,rfl,rfl⟩
  ·rcases jX hv with⟨j,u,rfl,rfl⟩|⟨y,u,rfl,rfl⟩
   ·rw[qu2]at h;exact wpAny_eqBool_int h
   ·rw[qu1]at h;exact SeqAt.EqAt.int_str i t y u _ _ _ _ h
  ·rcases jX hv with⟨j,u,rfl,rfl⟩|⟨y,u,rfl,rfl⟩
   ·rw[qtz]at h;exact SeqAt.EqAt.str_int x t j u _ _ _ _ h
   ·rw[qty]at h;exact wpAny_eqBool_str h
 «strs»:=λk x t v h=>by
  rcases jX h with⟨i,u,rfl,e⟩|⟨y,u,rfl,e⟩
  ·exact nomatch e
  ·injection e with e1 _;subst e1;cases v<;>rfl
theorem Gk{prog:Program}{w:World}(i:Int)(t:Tok):(pZ prog w).is (.inl i) (.int i t)=true:=qi3 i t
inductive V where
 |non|bl (b:Bool)|int (i:Int)|str (x:Str)|byt (b:Array UInt8)|flt (b:UInt64)|ref (a:Addr)|ty (n:String)
 deriving DecidableEq
def RelV:V->Value->Prop
 |.non,u=>u=Value.none
 |.bl b,u=>u=Value.bool b
 |.int i,u=>∃t,u=Value.int i t
 |.str x,u=>∃t,u=Value.str x t
 |.byt b,u=>∃t,u=Value.bytes b t
 |.flt b,u=>∃t,u=Value.float b t
 |.ref a,u=>u=Value.ref a
 |.ty n,u=>u=Value.type n
abbrev Vals:List V->List Value->Prop:=Paired RelV
theorem Vals.length{xs:List V}{us:List Value}(r:Vals xs us):xs.length=us.length:=Paired.length r
theorem Vals.get:∀{xs:List V} {us:List Value} {i:Nat} {x:V},Vals xs us->xs[i]? =some x->∃u,us[i]? =some u/\RelV x u
 |_,_,_,_,.nil,e=>by simp at e
 |_,_,0,_,.cons r _,e=>by simp at e;subst e;exact⟨_,rfl,r⟩
 | _,_,i+1,x,.cons _ t,e=>by obtain⟨u,h1,h2⟩:=Vals.get (i:=i) (x:=x) t (by simpa using e);exact⟨u,by simpa using h1,h2⟩
theorem Vals.set{x:V}{u:Value}(r:RelV x u):∀{xs:List V} {us:List Value} (i:Nat),Vals xs us->Vals (xs.set i x) (us.set i u)
 |_,_,_,.nil=>.nil
 |_,_,0,.cons _ t=>.cons r t
 |_,_,i+1,.cons q t=>.cons q (Vals.set r i t)
theorem Vals.append:∀{xs ys:List V} {us ws:List Value},Vals xs us->Vals ys ws->Vals (xs++ys) (us++ws)
 |_,_,_,_,.nil,s=>s
 |_,_,_,_,.cons r t,s=>.cons r (Vals.append t s)
theorem Vals.take:∀{xs:List V} {us:List Value} (n:Nat),Vals xs us->Vals (xs.take n) (us.take n)
 |_,_,0,_=>.nil
 |_,_,_+1,.nil=>.nil
 |_,_,n+1,.cons r t=>.cons r (Vals.take n t)
theorem Vals.drop:∀{xs:List V} {us:List Value} (n:Nat),Vals xs us->Vals (xs.drop n) (us.drop n)
 |_,_,0,r=>r
 |_,_,_+1,.nil=>.nil
 |_,_,n+1,.cons _ t=>Vals.drop n t
def RelO:Option V->Option Value->Prop
 |some v,some u=>RelV v u
 |none,none=>True
 |_,_=>False
def KV{κ:Type}:List (κ×V)->List (κ×Value)->Prop:=Paired λ(p:κ×V) (q:κ×Value)=>p.1=q.1/\RelV p.2 q.2
def kV:br->V
 |.inl i=>.int i
 |.inr x=>.str x
inductive HO where
 |lst (xs:List V)
 |tup (xs:List V)
 |dK (kvs:List (br×V))|dT (kvs:List (List br×V))
 |set (S:Int->Bool) (n:Nat)
 |ins (C dx:Addr) (fs:List (Str×V))
 |own (x:Addr)
 |xd (fs:List (Str×V))
 |met (f x:Addr)
 |rng (lo hi:Int)
 |frz (o:Obj) (u:HO)
 |tbl (ps:Array Value)
 |lam (pos:Pos) (q:Str)
 |ext (φ:Heap->Prop)
abbrev Hp:=Addr->Option HO
def aP(H:Hp)(a:Addr)(o:HO):Hp:=λb=>if b=a then some o else H b
theorem cM{H:Hp}{a:Addr}{o:HO}:aP H a o a=some o:=by unfold aP;rw[if_pos rfl]
theorem aU{H:Hp}{a b:Addr}{o:HO}(h:b≠a):aP H a o b=H b:=by unfold aP;rw[if_neg h]
theorem Ew{H:Hp}{a:Addr}{o u:HO}:aP (aP H a o) a u=aP H a u:=by funext b;unfold aP;split<;>rfl
theorem gp{H:Hp}{a b:Addr}{o:HO}(h:H a=some o)(h':H b=none):a≠b:=by intro e;subst e;rw[h]at h';cases h'
def TupN(h:Heap)(a:Addr)(items:Array Value):Prop:=∃o,h.get? a=some o/\(o.cls=.type "tuple"/\∃n,o.data=.seq items n)/\o.dict=none
theorem TupN.tup{h:Heap}{a:Addr}{items:Array Value}(x:TupN h a items):IsTup h a items:=let ⟨o,e,c,_⟩:=x;⟨o,e,c⟩
theorem TupN.lt{h:Heap}{a:Addr}{items:Array Value}(x:TupN h a items):a<h.objs.size:=let ⟨_,e,_⟩:=x;j5 e
theorem TupN.new(h:Heap)(items:Array Value):TupN (h.push {cls:=.type "tuple",data:=.seq items}) h.objs.size items:=⟨_,jj _ rfl,⟨rfl,_,rfl⟩,rfl⟩
def DictN{P:Program}{w:World}{κ:Type}[DecidableEq κ](knd:KeyKind P w κ)(h:Heap)(a:Addr)(kvs:List (κ×Value))(n:Nat):Prop:=∃o es,h.get? a=some o/\o.ExactDict/\o.data=.dict es n/\KeysOf knd es/\Pairs knd es.toList kvs/\(kvs.map (·.1)).Nodup
theorem DictN.of{P:Program}{w:World}{κ:Type}[DecidableEq κ]{knd:KeyKind P w κ}{h:Heap}{a:Addr}{kvs:List (κ×Value)}{n:Nat}(x:DictN knd h a kvs n):h.DictOf knd a kvs:=let ⟨o,es,r⟩:=x;⟨o,es,n,r⟩
section
variable(P:Program)(w:World)
def ObjOk(H:Hp)(h:Heap)(a:Addr):HO->Prop
 |.lst xs=>xs.length<=sizeLine/\∃(its:List Value) (n:Nat),Vals xs its/\h.get? a=some {cls:=.type "list",data:=.seq its.toArray n}
 |.tup xs=>xs.length<=sizeLine/\∃its:List Value,Vals xs its/\TupN h a its.toArray
 |.dK kvs=>kvs.length<=sizeLine/\(a==sysModules)=false/\∃vs,KV kvs vs/\DictN (pZ P w) h a vs kvs.length
 |.dT kvs=>kvs.length<=sizeLine/\(a==sysModules)=false/\∃xs:List (List br×Addr×Value),
  Paired (λ(p:List br×V) (q:List br×Addr×Value)=>p.1=q.1/\H q.2.1=some (.tup (p.1.map kV))/\RelV p.2 q.2.2) kvs xs/\
  ∃o es ep,h.get? a=some o/\o.ExactDict/\o.data=.dict es ep/\es.toList=xs.map (entryOfKey (tupleKind (pZ P w)))/\(xs.map (·.1)).Nodup/\ep=kvs.length
 |.set S n=>h.SetOf (intKind P w) a S n
 |.ins C dx fs=>H dx=some (.own a)/\fs.length<=1000/\dx≠a/\h.get? a=some (W.instObj C dx)/\
  ∃mA,h.Ns1 dx mA/\(∀f,RelO (fs.lookup f) (mA f))/\PySem.Within mA (fs.map (·.1))
 |.own _=>∃o,h.get? a=some o
 |.xd fs=>∃mA,h.Ns1 a mA/\∀f,RelO (fs.lookup f) (mA f)
 |.rng lo hi=>∃t u v,h.get? a=some {cls:=.type "range",data:=.fields #[.int lo t,.int hi u,.int 1 v]}
 |.frz o u=>h.get? a=some o/\ObjOk H h a u
 |.tbl ps=>h.get? a=some {cls:=.none,data:=.fields ps}
 |.lam pos q=>∃ps:Array Value,h.get? a=some {cls:=.none,data:=.fields ps}/\TriplesOk ps.toList/\(codeAmong pos ps.toList=none∨∃c',codeAmong pos ps.toList=some (.ref c')/\H c'=some (.own a)/\h.CodeRec (.ref c') q)
 |.met f x=>h.get? a=some (W.methodObj (.ref f) (.ref x))
 |.ext φ=>φ h/\(∃o,h.get? a=some o)/\∀h1 h2:Heap,φ h1->(∀o,h1.get? a=some o->h2.get? a=some o)->φ h2
def HOk(H:Hp)(h:Heap):Prop:=∀a o,H a=some o->ObjOk P w H h a o
end
section
variable{P:Program}{w:World}{H H':Hp}{h h':Heap}{a:Addr}{o:HO}
theorem ObjOk.lt(x:ObjOk P w H h a o):a<h.objs.size:=by
 cases o with
 |lst xs=>obtain⟨_,_,_,_,e⟩:=x;exact j5 e
 |tup xs=>obtain⟨_,_,_,p⟩:=x;exact p.lt
 |dK kvs=>obtain⟨_,_,_,_,o,_,e,_⟩:=x;exact j5 e
 |dT kvs=>obtain⟨_,_,_,_,o,_,_,e,_⟩:=x;exact j5 e
 |set S n=>obtain⟨o,_,_,_,e,_⟩:=x;exact j5 e
 |ins C dx fs=>obtain⟨_,_,_,e,_⟩:=x;exact j5 e
 |own y=>obtain⟨_,e⟩:=x;exact j5 e
 |xd fs=>obtain⟨_,⟨_,_,_,e,_⟩,_⟩:=x;exact j5 e
 |rng lo hi=>obtain⟨_,_,_,e⟩:=x;exact j5 e
 |frz ob u=>obtain⟨e,_⟩:=x;exact j5 e
 |tbl ps=>exact j5 (show h.get? a=some _ from x)
 |lam pos q=>obtain⟨_,e,_⟩:=x;exact j5 e
 |met f y=>exact j5 (show h.get? a=some _ from x)
 |ext φ=>obtain⟨_,⟨_,e⟩,_⟩:=x;exact j5 e
theorem Paired.mapP{α β:Type}{F G:α->β->Prop}:∀{l₁:List α} {l₂:List β},Paired F l₁ l₂->(∀a b,F a b->G a b)->Paired G l₁ l₂
 |_,_,.nil,_=>.nil
 |_,_,.cons r t,f=>.cons (f _ _ r) (Paired.mapP t f)
theorem ObjOk.stay(x:ObjOk P w H h a o)(k:∀b u,(b=a∨H b=some (.own a))->h.get? b=some u->h'.get? b=some u)
 (ho:∀b,H b=some (.own a)->H' b=some (.own a)) (ht:∀b xs,H b=some (.tup xs)->H' b=some (.tup xs)):ObjOk P w H' h' a o:=by
 induction o with
 |lst xs=>obtain⟨z,its,n,r,e⟩:=x;exact⟨z,its,n,r,k _ _ (.inl rfl) e⟩
 |tup xs=>obtain⟨z,its,r,ob,e,c⟩:=x;exact⟨z,its,r,ob,k _ _ (.inl rfl) e,c⟩
 |dK kvs=>obtain⟨z,y,vs,r,ob,es,e,c⟩:=x;exact⟨z,y,vs,r,ob,es,k _ _ (.inl rfl) e,c⟩
 | dT kvs=>
  obtain⟨z,y,xs,r,ob,es,ep,e,c⟩:=x;exact⟨z,y,xs,Paired.mapP r λp q z=>⟨z.1,ht _ _ z.2.1,z.2.2⟩,ob,es,ep,k _ _ (.inl rfl) e,c⟩
 |set S n=>obtain⟨ob,es,ep,t,e,c⟩:=x;exact⟨ob,es,ep,t,k _ _ (.inl rfl) e,c⟩
 | ins C dx fs=>
  obtain⟨d,z,ne,e,mA,⟨od,es,ep,e2,c⟩,r⟩:=x;exact⟨ho _ d,z,ne,k _ _ (.inl rfl) e,mA,⟨od,es,ep,k _ _ (.inr d) e2,c⟩,r⟩
 |own y=>obtain⟨ob,e⟩:=x;exact⟨ob,k _ _ (.inl rfl) e⟩
 |xd fs=>obtain⟨mA,⟨od,es,ep,e,c⟩,r⟩:=x;exact⟨mA,⟨od,es,ep,k _ _ (.inl rfl) e,c⟩,r⟩
 |rng lo hi=>obtain⟨t,u,v,e⟩:=x;exact⟨t,u,v,k _ _ (.inl rfl) e⟩
 |frz ob u ih=>obtain⟨e,q⟩:=x;exact⟨k _ _ (.inl rfl) e,ih q⟩
 | tbl ps=>
  have e:h.get? a=some {cls:=.none,data:=.fields ps}:=x;show h'.get? a=some {cls:=.none,data:=.fields ps};exact k a _ (.inl rfl) e
 | lam pos q=>
  obtain⟨ps,e,t,r⟩:=x;refine⟨ps,k _ _ (.inl rfl) e,t,?_⟩;rcases r with r|⟨c',r1,r2,c,oc,vs,tq,hc,hoc,hd,hq⟩
  ·exact .inl r
  ·cases hc;exact .inr ⟨c',r1,ho _ r2,c',oc,vs,tq,rfl,k _ _ (.inr r2) hoc,hd,hq⟩
 | met f y=>
  have e:h.get? a=some (W.methodObj (.ref f) (.ref y)):=x;show h'.get? a=some (W.methodObj (.ref f) (.ref y));exact k a _ (.inl rfl) e
 |ext φ=>obtain⟨p,⟨o,e⟩,st⟩:=x;exact⟨st _ _ p λo q=>k _ _ (.inl rfl) q,⟨o,k _ _ (.inl rfl) e⟩,st⟩
theorem HOk.lt(x:HOk P w H h)(e:H a=some o):a<h.objs.size:=(x a o e).lt
theorem HOk.fresh(x:HOk P w H h)(e:h.objs.size<=a):H a=none:=by
 cases q:H a with
 |none=>rfl
 |some u=>exact absurd (jn (x.lt q) e) (x9 _)
theorem HOk.kept(x:HOk P w H h)(k:∀b u,h.get? b=some u->h'.get? b=some u):HOk P w H h':=λa o e=>
 (x a o e).stay (λb u _ q=>k b u q) (λ_ q=>q) λ_ _ q=>q
theorem HOk.laid(x:HOk P w H h)(k:∀b u,h.get? b=some u->h'.get? b=some u)(hp:h.objs.size<=a)(new:ObjOk P w (aP H a o) h' a o):HOk P w (aP H a o) h':=λb u e=>by
 have hn:=x.fresh hp;by_cases hb:b=a
 ·subst hb;rw[cM]at e;cases e;exact new
 ·rw[aU hb]at e;exact(x b u e).stay (λc v _ q=>k c v q) (λc q=>by rw[aU (gp q hn)];exact q) λc xs q=>by rw[aU (gp q hn)];exact q
end
def Rd(H:Hp)(a:Addr)(u:HO):Prop:=H a=some u∨∃o,H a=some (.frz o u)
theorem Rd.ok{P:Program}{w:World}{H:Hp}{h:Heap}{a:Addr}{u:HO}(r:Rd H a u)(x:HOk P w H h):ObjOk P w H h a u:=by
 rcases r with r|⟨o,r⟩
 ·exact x a u r
 ·obtain⟨_,q⟩:=x a _ r;exact q
def ud:Option HO->Prop
 |some (.lst _)=>True
 |some (.dK _)=>True
 |some (.dT _)=>True
 |some (.set _ _)=>True
 |some (.ins _ _ _)=>True
 |some (.ext _)=>True
 |some (.lam _ _)=>True
 |_=>False
section
variable{P:Program}{w:World}{H:Hp}{h h':Heap}{x e:Addr}{o':HO}
theorem HOk.write(ok:HOk P w H h)(mu:ud (H x))(he:e=x∨H e=some (.own x))(k:∀b u,b≠e->h.get? b=some u->h'.get? b=some u)(heo:∃u,h'.get? e=some u)
 (new:ObjOk P w (aP H x o') h' x o'):HOk P w (aP H x o') h':=λb u q=>by
 have nown:∀c y,H c=some (.own y)->c≠x:=λc y r z=>by subst z;rw[r]at mu;exact mu
 have ntup:∀c xs,H c=some (.tup xs)->c≠x:=λc xs r z=>by subst z;rw[r]at mu;exact mu
 by_cases hb:b=x
 ·subst hb;rw[cM]at q;cases q;exact new
 ·rw[aU hb]at q;by_cases hbe:b=e
  ·have q':H b=some (.own x):=by
    rcases he with z|z
    ·exact absurd (hbe.trans z) hb
    ·rw[hbe];exact z
   rw[q]at q';cases q';obtain⟨v,hv⟩:=heo;exact⟨v,by rw[hbe];exact hv⟩
  ·refine(ok b u q).stay (λc v hc r=>k c v ?_ r) (λc r=>by rw[aU (nown c b r)];exact r) λc xs r=>by rw[aU (ntup c xs r)];exact r
   rcases hc with rfl|hc
   ·exact hbe
   ·rintro rfl;rcases he with z|z
    ·exact nown c b hc z
    ·rw[hc]at z;cases z;exact hb rfl
end
structure Un(fs ex:List Addr)(H H':Hp)(h h':Heap):Prop where
 keep:∀b o,h.get? b=some o->H b=none->b∉fs->b∉ex->h'.get? b=some o
 slot:∀b o,h.get? b=some o->H b=none->b∈fs->b∉ex->∃sl,h'.get? b=some {o with slots:=sl}
 free:∀b o,h.get? b=some o->H b=none->b∉ex->H' b=none
 there:∀b o,h.get? b=some o->b∉ex->∃o',h'.get? b=some o'
 tups:∀b xs,H b=some (.tup xs)->H' b=some (.tup xs)
 frzs:∀b o u,H b=some (.frz o u)->H' b=some (.frz o u)
 tbls:∀b ps,H b=some (.tbl ps)->∃more,H' b=some (.tbl (ps++more))
section
variable{fs fs' ex ex':List Addr}{H H1 H2:Hp}{h h1 h2 h':Heap}{a x e:Addr}{o:HO}
theorem Un.any(u:Un fs ex H H1 h h1){b:Addr}{ob:Obj}(q:h.get? b=some ob)(n:H b=none)(hx:b∉ex):∃sl,h1.get? b=some {ob with slots:=sl}:=by
 by_cases hb:b∈fs
 ·exact u.slot b ob q n hb hx
 ·exact⟨ob.slots,u.keep b ob q n hb hx⟩
theorem Un.trans(a:Un fs ex H H1 h h1)(b:Un fs ex H1 H2 h1 h2):Un fs ex H H2 h h2 where
 keep:=λc ob q n hc hx=>b.keep c ob (a.keep c ob q n hc hx) (a.free c ob q n hx) hc hx
 slot:=λc ob q n hc hx=>by obtain⟨sl,e1⟩:=a.slot c ob q n hc hx;obtain⟨sl',e2⟩:=b.slot c _ e1 (a.free c ob q n hx) hc hx;exact⟨sl',e2⟩
 free:=λc ob q n hx=>by obtain⟨o',e1⟩:=a.there c ob q hx;exact b.free c o' e1 (a.free c ob q n hx) hx
 there:=λc ob q hx=>by obtain⟨o',e1⟩:=a.there c ob q hx;exact b.there c o' e1 hx
 tups:=λc xs q=>b.tups c xs (a.tups c xs q)
 frzs:=λc ob xs q=>b.frzs c ob xs (a.frzs c ob xs q)
 tbls:=λc ps q=>by obtain⟨m1,e1⟩:=a.tbls c ps q;obtain⟨m2,e2⟩:=b.tbls c _ e1;exact⟨m1++m2,by rw[e2,Array.append_assoc]⟩
theorem Un.kept(k:∀b u,h.get? b=some u->h'.get? b=some u):Un fs ex H H h h':=
 ⟨λb ob q _ _ _=>k b ob q,λb ob q _ _ _=>⟨ob.slots,k b ob q⟩,λ_ _ _ n _=>n,λb ob q _=>⟨ob,k b ob q⟩,λ_ _ q=>q,λ_ _ _ q=>q,λ_ ps q=>⟨#[],by rw[q];simp⟩⟩
theorem Un.refl:Un fs ex H H h h:=Un.kept λ_ _ q=>q
theorem Un.laid(k:∀b u,h.get? b=some u->h'.get? b=some u)(hp:h.objs.size<=a)(hn:H a=none):Un fs ex H (aP H a o) h h' where
 keep:=λb u q _ _ _=>k b u q
 slot:=λb u q _ _ _=>⟨u.slots,k b u q⟩
 free:=λb u q n _=>by rw[aU (jh (jn (j5 q) hp))];exact n
 there:=λb u q _=>⟨u,k b u q⟩
 tups:=λb xs q=>by rw[aU (gp q hn)];exact q
 frzs:=λb u xs q=>by rw[aU (gp q hn)];exact q
 tbls:=λb ps q=>⟨#[],by rw[aU (gp q hn),q];simp⟩
theorem Un.write(mu:ud (H x))(he:e=x∨H e=some (.own x))(k:∀b u,b≠e->h.get? b=some u->h'.get? b=some u)(heo:∃u,h'.get? e=some u):Un fs ex H (aP H x o) h h':=by
 have hx:∀b,H b=none->b≠x:=λb n z=>by subst z;rw[n]at mu;exact mu
 have hb:∀b,H b=none->b≠e:=λb n z=>by
  subst z;rcases he with r|r
  ·exact hx b n r
  ·rw[n]at r;cases r
 have hm:∀b u,H b=some u->¬ud (some u)->b≠x:=λb u q nm z=>by subst z;rw[q]at mu;exact nm mu
 refine⟨λb u q n _ _=>k b u (hb b n) q,λb u q n _ _=>⟨u.slots,k b u (hb b n) q⟩,λb u q n _=>by rw[aU (hx b n)];exact n,λb u q _=>?_,
  λb xs q=>by rw[aU (hm b _ q λz=>z)];exact q,λb u xs q=>by rw[aU (hm b _ q λz=>z)];exact q,λb ps q=>⟨#[],by rw[aU (hm b _ q λz=>z),q];simp⟩⟩
 by_cases hbe:b=e
 ·subst hbe;exact heo
 ·exact⟨u,k b u hbe q⟩
theorem Un.mono(u:Un fs ex H H1 h h1)(hs:∀b∈fs,b∈fs')(hx:∀b∈ex,b∈ex'):Un fs' ex' H H1 h h1:=
 ⟨λb ob q n hb he=>u.keep b ob q n (λz=>hb (hs b z)) λz=>he (hx b z),λ_ _ q n _ he=>u.any q n λz=>he (hx _ z),λb ob q n he=>u.free b ob q n λz=>he (hx b z),λb ob q he=>u.there b ob q λz=>he (hx b z),u.tups,u.frzs,u.tbls⟩
end
def rS(h:Heap)(H:Hp):List Addr:=(List.range h.objs.size).filter λa=>(H a).isSome
def fW(h:Heap)(H:Hp):Heap:=W.hideAll h (rS h H)
theorem qi9{h:Heap}{H:Hp}:(fW h H).objs.size=h.objs.size:=W.hideAll_size _ _
theorem qko{h:Heap}{H:Hp}{b:Addr}{o:Obj}(e:h.get? b=some o)(n:H b=none):(fW h H).get? b=some o:=
 W.hideAll_get _ e λhm=>by have q:(H b).isSome=true:=(List.mem_filter.mp hm).2;rw[n]at q;simp at q
theorem qo5{h:Heap}{H:Hp}{b:Addr}{o:Obj}(e:(fW h H).get? b=some o):h.get? b=some o/\H b=none:=by
 have e':h.get? b=some o:=W.of_hideAll (rS h H) e;refine⟨e',?_⟩;cases q:H b with
 |none=>rfl
 | some x=>
  have hm:b∈rS h H:=List.mem_filter.mpr ⟨List.mem_range.mpr (j5 e'),by simp[q]⟩;have z:(fW h H).get? b=none:=W.hideAll_none (rS h H) hm;rw[z]at e;cases e
def qq8(g h:Heap)(L:Addr):List (Addr×Obj):=(List.range h.objs.size).filterMap λa=>if a=L∨(g.get? a).isSome=true then none else(h.get? a).map λo=>(a,o)
def rest(g h:Heap)(L d:Addr):List (Addr×Obj):=(qq8 g h L).filter λp=>decide (p.1≠d)
structure Mod(K:au)(mg:Str->Option Value)(base:Heap):Prop where
 kin:K.In base
 glob:base.Ns mainGlobals mg
 blt:∃mb,base.Ns builtinsNs mb/\∀x:Str,x≠"__name__"->mb x=bootBuiltins x
 nolimit:base.NoLimit
structure Cx where
 prog:Program
 w:World
 K:W.Frag
 mg:Str->Option Value
 base:Heap
 A:Around
 N:List Str
 s₀:Shared
 H₀:Hp
 env:Env
 outer:List Env
 stack:List Env
 ex:List Addr
 fn:Str->Bool
 calm:Bool
 pn:List (Addr×Obj)
 xe:Value->Shared->Prop
def gP(l:List Env):List Addr:=l.filterMap (·.frame)
abbrev Cx.fs(X:Cx):List Addr:=gP X.outer
def km(sc:Scope)(x:Str):Prop:=sc.names.lookup x=some .local∨sc.names.lookup x=some .cell∨sc.names.lookup x=some .free
def mV(sc:Scope)(x:Str):Prop:=sc.names.lookup x=some .local∨sc.names.lookup x=some .cell
def AU(env:Env)(h:Heap)(m:Str->Option Value)(x:Str)(u:Value):Prop:=
 (env.kindOf x=some .local/\m x=some u)∨((env.kindOf x=some .cell∨env.kindOf x=some .free)/\∃c,env.cells.lookup x=some c/\h.IsCell c (some u))
structure Cx.Ok(X:Cx):Prop where
 mod:Mod X.K X.mg X.base
 kind:X.env.scope.kind=.function
 glob:X.env.globals=mainGlobals
 blt:X.env.builtins=builtinsNs
 above:X.s₀.heap.objs.size<=X.env.locals
 inj:∀x y c,X.env.cells.lookup x=some c->X.env.cells.lookup y=some c->x=y
 has:∀x,(X.env.kindOf x=some .cell∨X.env.kindOf x=some .free)->∃c,X.env.cells.lookup x=some c
 cab:∀x c,X.fn x=true->X.env.cells.lookup x=some c->X.s₀.heap.objs.size<=c
 hd:X.calm=true->X.A.handled=none
 frames:X.A.frames=some X.stack
 stk:X.stack=X.outer∨(X.stack=X.env::X.outer/\X.env.frame=some X.env.locals)
 exf:∀b∈X.ex,b≠X.env.locals/\∀x c,X.env.cells.lookup x=some c->c≠b
 bs:∀b o,X.base.get? b=some o->X.s₀.heap.get? b=some o/\X.H₀ b=none
 bsz:X.base.objs.size<=X.s₀.heap.objs.size
 noex:∀b o,X.base.get? b=some o->b∉X.ex
 exfs:∀b∈X.ex,b∉X.fs
 funs:X.s₀.heap.FunFrames X.base X.outer
 frf:∀b∈X.fs,X.H₀ b=none
structure Inv(X:Cx)(z5:List (Addr×Obj))(σ:List (Option V))(H:Hp)(s:Shared):Prop where
 ok:X.Ok
 os:s.os=X.s₀.os
 bare:AllBare s.gens
 base:Un X.fs X.ex X.H₀ H X.s₀.heap s.heap
 loc:∃m,s.heap.Ns X.env.locals m/\∀(i:Nat) (x:Str) (v:V),X.N[i]? =some x->σ[i]? =some (some v)->km X.env.scope x->∃u,RelV v u/\AU X.env s.heap m x u
 cell:∀x c,X.env.cells.lookup x=some c->∃v,s.heap.IsCell c v
 free:H X.env.locals=none
 freeC:∀x c,X.env.cells.lookup x=some c->H c=none
 pin:∀p∈X.pn++z5,s.heap.get? p.1=some p.2/\H p.1=none/\p.1≠X.env.locals/\p.1∉X.fs/\∀v,p.2.data≠.cell v
 hok:HOk X.prog X.w H s.heap
 len:σ.length=X.N.length
section
variable{X:Cx}{z5:List (Addr×Obj)}{σ:List (Option V)}{H H':Hp}{s:Shared}{h':Heap}
theorem Cx.Ok.nofr(ok:X.Ok){b:Addr}{o:Obj}(e:X.base.get? b=some o):b∉X.fs:=λhb=>by have:=(ok.funs.mem hb).1;rw[e]at this;cases this
theorem Inv.bs(I:Inv X z5 σ H s):∀b o,X.base.get? b=some o->s.heap.get? b=some o/\H b=none:=λb o e=>
 ⟨I.base.keep b o (I.ok.bs b o e).1 (I.ok.bs b o e).2 (I.ok.nofr e) (I.ok.noex b o e),I.base.free b o (I.ok.bs b o e).1 (I.ok.bs b o e).2 (I.ok.noex b o e)⟩
theorem Inv.bk(I:Inv X z5 σ H s):∀b o,X.base.get? b=some o->s.heap.get? b=some o:=λb o e=>(I.bs b o e).1
theorem Inv.mod(I:Inv X z5 σ H s):Mod X.K X.mg X.base:=I.ok.mod
theorem Inv.kIn(I:Inv X z5 σ H s):X.K.In s.heap:=I.ok.mod.kin.keeps I.bk
theorem Inv.fr(I:Inv X z5 σ H s):∃m,Fr X.base X.env.locals s.heap m:=
 let ⟨m,hn,_⟩:=I.loc
 ⟨m,hn,I.bk,jr I.ok.bsz I.ok.above⟩
theorem Inv.lt(I:Inv X z5 σ H s):X.env.locals<s.heap.objs.size:=let ⟨_,hn,_⟩:=I.loc;hn.lt
theorem Inv.sz(I:Inv X z5 σ H s):X.s₀.heap.objs.size<=s.heap.objs.size:=jr I.ok.above (Nat.le_of_lt I.lt)
theorem Inv.nofs(I:Inv X z5 σ H s){a:Addr}(h:s.heap.objs.size<=a):a∉X.fs:=λhb=>by obtain⟨_,o,ho,_⟩:=I.ok.funs.mem hb;exact absurd (jn (j5 ho) (jr I.sz h)) (x9 _)
theorem Inv.cne(I:Inv X z5 σ H s):∀x c,X.env.cells.lookup x=some c->c≠X.env.locals:=λx c e z=>by obtain⟨v,o,ho,hd⟩:=I.cell x c e;obtain⟨m,⟨o',es,ep,ho',hd',_⟩,_⟩:=I.loc;rw[z,ho']at ho;cases ho;rw[hd']at hd;cases hd
theorem Inv.funs(I:Inv X z5 σ H s):s.heap.FunFrames X.base X.outer:=by
 have all:∀(l:List Env),(∀b∈gP l,b∈X.fs)->X.s₀.heap.FunFrames X.base l->s.heap.FunFrames X.base l:=by
  intro l;induction l with
  |nil=>intro _ _;trivial
  | cons env r ih=>
   intro hs hl;obtain⟨hk,⟨L,o,hf,hn,ho,hd⟩,hr⟩:=hl;have hL:L∈X.fs:=hs L (by unfold gP;rw[List.filterMap_cons,hf];exact ja);obtain⟨sl,e⟩:=I.base.slot L o ho (I.ok.frf L hL) hL λz=>I.ok.exfs L z hL;exact⟨hk,⟨L,_,hf,hn,e,hd⟩,ih (λb hb=>hs b (by unfold gP;rw[List.filterMap_cons,hf];exact j9 _ hb)) hr⟩
 exact all X.outer (λ_ hb=>hb) I.ok.funs
theorem Inv.stack(I:Inv X z5 σ H s):s.heap.FunFrames X.base X.stack:=by
 rcases I.ok.stk with e|⟨e,hf⟩
 ·rw[e];exact I.funs
 ·rw[e];obtain⟨m,hn,_⟩:=I.loc;refine .cons (by rw[I.ok.kind];decide) hf hn ?_ I.funs;exact Heap.get?_none_of_le (jr I.ok.bsz I.ok.above)
theorem Inv.stkSub(I:Inv X z5 σ H s):∀b∈gP X.stack,b∈X.env.locals::X.fs:=λb hb=>by
 rcases I.ok.stk with e|⟨e,hf⟩
 ·rw[e]at hb;exact j9 _ hb
 ·rw[e]at hb;unfold gP at hb;rw[List.filterMap_cons,hf]at hb;exact hb
theorem Inv.stkFree(I:Inv X z5 σ H s):∀b∈gP X.stack,H b=none:=λb hb=>by
 rcases List.mem_cons.mp (I.stkSub b hb)with e|hb
 ·rw[e];exact I.free
 ·obtain⟨_,o,ho,_⟩:=I.ok.funs.mem hb;exact I.base.free b o ho (I.ok.frf b hb) λz=>I.ok.exfs b z hb
theorem Inv.step{g':Array GenState}{t':Nat}{d':Drawn}{ch:List Addr}(I:Inv X z5 σ H s)
 (hch:∀b∈ch,(b∈X.ex∨X.s₀.heap.objs.size<=b)/\b≠X.env.locals/\(∀x c,X.env.cells.lookup x=some c->c≠b)/\∀p∈X.pn++z5,p.1≠b)
 (keep:∀b o,b≠X.env.locals->b∉X.fs->b∉ch->s.heap.get? b=some o->H b=none->h'.get? b=some o)
 (slot:∀b o,b≠X.env.locals->b∈X.fs->b∉ch->s.heap.get? b=some o->H b=none->∃sl,h'.get? b=some {o with slots:=sl}) (free:∀b o,b∉ch->s.heap.get? b=some o->H b=none->H' b=none)
 (there:∀b o,b∉ch->s.heap.get? b=some o->∃o',h'.get? b=some o')
 (tups:∀b xs,H b=some (.tup xs)->H' b=some (.tup xs)) (frzs:∀b o u,H b=some (.frz o u)->H' b=some (.frz o u)) (tbls:∀b ps,H b=some (.tbl ps)->∃more,H' b=some (.tbl (ps++more)))
 (ns:∀m,s.heap.Ns X.env.locals m->h'.Ns X.env.locals m) (hok:HOk X.prog X.w H' h') (hg:AllBare g'):
 Inv X z5 σ H' {s with heap:=h',gens:=g',drawn:=d',toks:=t'}:=by
 have neL:∀b o,X.s₀.heap.get? b=some o->b≠X.env.locals:=λb o e=>jh (jn (j5 e) I.ok.above);have neC:∀b o,X.s₀.heap.get? b=some o->b∉X.ex->b∉ch:=λb o e hx hb=>by
  rcases(hch b hb).1 with z|z
  ·exact hx z
  ·exact absurd (jn (j5 e) z) (x9 _)
 have cellK:∀x c,X.env.cells.lookup x=some c->∀v,s.heap.IsCell c v->h'.IsCell c v:=λx c e v ⟨o,ho,hd⟩=>by
  have nch:c∉ch:=λz=>(hch c z).2.2.1 x c e rfl;by_cases hc:c∈X.fs
  ·obtain⟨sl,q⟩:=slot c o (I.cne x c e) hc nch ho (I.freeC x c e);exact⟨_,q,hd⟩
  ·exact⟨o,keep c o (I.cne x c e) hc nch ho (I.freeC x c e),hd⟩
 refine⟨I.ok,I.os,hg,⟨λb o e n hb hx=>?_,λb o e n hb hx=>?_,λb o e n hx=>?_,λb o e hx=>?_,λb xs e=>tups b xs (I.base.tups b xs e),λb o xs e=>frzs b o xs (I.base.frzs b o xs e),λb ps e=>?_⟩,?_,λx c e=>?_,?_,λx c e=>?_,λp hp=>?_,hok,I.len⟩
 ·exact keep b o (neL b o e) hb (neC b o e hx) (I.base.keep b o e n hb hx) (I.base.free b o e n hx)
 ·obtain⟨sl,e1⟩:=I.base.slot b o e n hb hx;obtain⟨sl',e2⟩:=slot b _ (neL b o e) hb (neC b o e hx) e1 (I.base.free b o e n hx);exact⟨sl',e2⟩
 ·obtain⟨o',e1⟩:=I.base.there b o e hx;exact free b o' (neC b o e hx) e1 (I.base.free b o e n hx)
 ·obtain⟨o',e1⟩:=I.base.there b o e hx;exact there b o' (neC b o e hx) e1
 ·obtain⟨m1,e1⟩:=I.base.tbls b ps e;obtain⟨m2,e2⟩:=tbls b _ e1;exact⟨m1++m2,by rw[e2,Array.append_assoc]⟩
 ·obtain⟨m,hn,hl⟩:=I.loc;refine⟨m,ns m hn,λi x v e1 e2 e3=>?_⟩;obtain⟨u,r,l⟩:=hl i x v e1 e2 e3;refine⟨u,r,?_⟩;rcases l with l|⟨k,c,e,z⟩
  ·exact .inl l
  ·exact .inr ⟨k,c,e,cellK x c e _ z⟩
 ·obtain⟨v,z⟩:=I.cell x c e;exact⟨v,cellK x c e v z⟩
 ·obtain⟨m,⟨o,_,_,ho,_⟩,_⟩:=I.loc;exact free _ o (λz=>(hch _ z).2.1 rfl) ho I.free
 ·obtain⟨v,o,ho,hd⟩:=I.cell x c e;exact free c o (λz=>(hch c z).2.2.1 x c e rfl) ho (I.freeC x c e)
 ·obtain⟨e,n,ne,nf,d⟩:=I.pin p hp;have nch:p.1∉ch:=λz=>(hch p.1 z).2.2.2 p hp rfl;exact⟨keep p.1 p.2 ne nf nch e n,free p.1 p.2 nch e n,ne,nf,d⟩
theorem Inv.un{t':Nat}(I:Inv X z5 σ H s)(u:Un X.fs [] H H' s.heap h')(hok:HOk X.prog X.w H' h'):Inv X z5 σ H' {s with heap:=h',toks:=t'}:=by
 obtain⟨m,⟨o,es,ep,ho,r⟩,_⟩:=id I.loc;obtain⟨sl,hL⟩:=u.any ho I.free (by simp);exact I.step (g':=s.gens) (d':=s.drawn) (ch:=[]) (λ_ z=>nomatch z) (λb o _ hb _ e n=>u.keep b o e n hb (by simp)) (λb o _ hb _ e n=>u.slot b o e n hb (by simp)) (λb o _ e n=>u.free b o e n (by simp)) (λb o _ e=>u.there b o e (by simp)) u.tups u.frzs u.tbls (λm' hm=>by obtain⟨o',es',ep',ho',r'⟩:=hm;rw[ho]at ho';cases ho';exact⟨_,es',ep',hL,r'⟩) hok I.bare
theorem Inv.call{g':Array GenState}{t':Nat}{d':Drawn}{ch:List Addr}(I:Inv X z5 σ H s)(u:Un (gP X.stack) ch H H' s.heap h')(hok:HOk X.prog X.w H' h')(hg:AllBare g')
 (hch:∀b∈ch,(b∈X.ex∨X.s₀.heap.objs.size<=b)/\b≠X.env.locals/\(∀x c,X.env.cells.lookup x=some c->c≠b)/\∀p∈X.pn++z5,p.1≠b):
 Inv X z5 σ H' {s with heap:=h',gens:=g',drawn:=d',toks:=t'}:=by
 obtain⟨m,⟨o,es,ep,ho,r⟩,_⟩:=id I.loc;obtain⟨sl,hL⟩:=u.any ho I.free λz=>(hch _ z).2.1 rfl;exact I.step (ch:=ch) hch (λb o hL hb hc e n=>u.keep b o e n (λz=>(List.mem_cons.mp (I.stkSub b z)).elim hL hb) hc) (λb o _ _ hc e n=>u.any e n hc) (λb o hc e n=>u.free b o e n hc) (λb o hc e=>u.there b o e hc) u.tups u.frzs u.tbls (λm' hm=>by obtain⟨o',es',ep',ho',r'⟩:=hm;rw[ho]at ho';cases ho';exact⟨_,es',ep',hL,r'⟩) hok hg
theorem Inv.turned{t':Nat}{it:Addr}(I:Inv X z5 σ H s)(k:∀b o,b≠it->s.heap.get? b=some o->h'.get? b=some o)(hn:H it=none)(hL:it≠X.env.locals)
 (h1:it∈X.ex∨X.s₀.heap.objs.size<=it) (h2:∀x c,X.env.cells.lookup x=some c->c≠it) (h3:∀p∈X.pn++z5,p.1≠it):Inv X z5 σ H {s with heap:=h',toks:=t'}:=by
 have nit:∀b u,H b=some u->b≠it:=λb u e z=>by rw[z,hn]at e;cases e
 refine I.step (g':=s.gens) (d':=s.drawn) (ch:=[it]) (λb hb=>?_) (λb o _ _ hc e _=>k b o (λz=>hc (by simp[z])) e) (λb o _ _ hc e _=>⟨o.slots,k b o (λz=>hc (by simp[z])) e⟩) (λ_ _ _ _ n=>n)
  (λb o hc e=>⟨o,k b o (λz=>hc (by simp[z])) e⟩) (λ_ _ e=>e) (λ_ _ _ e=>e) (λb ps e=>⟨#[],by rw[e];simp⟩) (λm hm=>?_) (λb u e=>?_) I.bare
 ·have e:b=it:=by simpa using hb
  subst e;exact⟨h1,hL,h2,h3⟩
 ·obtain⟨o,es,ep,ho,r⟩:=hm;exact⟨o,es,ep,k _ o (Ne.symm hL) ho,r⟩
 ·refine(I.hok b u e).stay (λc v hc q=>k c v ?_ q) (λ_ q=>q) λ_ _ q=>q;rcases hc with z|z
  ·rw[z];exact nit b u e
  ·exact nit c _ z
theorem Inv.tok(I:Inv X z5 σ H s)(t:Nat):Inv X z5 σ H {s with toks:=t}:=I.un (h':=s.heap) (t':=t) Un.refl I.hok
theorem Inv.kept{t':Nat}(I:Inv X z5 σ H s)(k:∀b u,s.heap.get? b=some u->h'.get? b=some u):Inv X z5 σ H {s with heap:=h',toks:=t'}:=I.un (Un.kept k) (I.hok.kept k)
theorem Inv.laid{a:Addr}{o:HO}{t':Nat}(I:Inv X z5 σ H s)(k:∀b u,s.heap.get? b=some u->h'.get? b=some u)(hp:s.heap.objs.size<=a)(new:ObjOk X.prog X.w (aP H a o) h' a o):
 Inv X z5 σ (aP H a o) {s with heap:=h',toks:=t'}:=I.un (Un.laid k hp (I.hok.fresh hp)) (I.hok.laid k hp new)
theorem Inv.write{x e:Addr}{o:HO}{t':Nat}(I:Inv X z5 σ H s)(mu:ud (H x))(he:e=x∨H e=some (.own x))(k:∀b u,b≠e->s.heap.get? b=some u->h'.get? b=some u)(heo:∃u,h'.get? e=some u)
 (new:ObjOk X.prog X.w (aP H x o) h' x o):Inv X z5 σ (aP H x o) {s with heap:=h',toks:=t'}:=I.un (Un.write mu he k heo) (I.hok.write mu he k heo new)
theorem Inv.weak{σ':List (Option V)}(I:Inv X z5 σ H s)(hl:σ'.length=σ.length)(w:∀(i:Nat) v,σ'[i]? =some (some v)->σ[i]? =some (some v)):Inv X z5 σ' H s:=
 ⟨I.ok,I.os,I.bare,I.base,let ⟨m,hn,hl'⟩:=I.loc;⟨m,hn,λi x v e1 e2 e3=>hl' i x v e1 (w i v e2) e3⟩,I.cell,I.free,I.freeC,I.pin,I.hok,hl.trans I.len⟩
theorem Inv.pins_of{pins':List (Addr×Obj)}(I:Inv X z5 σ H s)(h:∀p∈pins',s.heap.get? p.1=some p.2/\H p.1=none/\p.1≠X.env.locals/\p.1∉X.fs/\∀v,p.2.data≠.cell v):Inv X pins' σ H s:=
 ⟨I.ok,I.os,I.bare,I.base,I.loc,I.cell,I.free,I.freeC,λp hp=>(List.mem_append.mp hp).elim (λz=>I.pin p (List.mem_append_left _ z)) (h p),I.hok,I.len⟩
theorem EU{N:List Str}(hN:N.Nodup){i j:Nat}{x:Str}(a:N[i]? =some x)(b:N[j]? =some x):i=j:=by obtain⟨h1,e1⟩:=List.getElem?_eq_some_iff.mp a;obtain⟨h2,e2⟩:=List.getElem?_eq_some_iff.mp b;exact(List.getElem_inj hN).mp (e1.trans e2.symm)
theorem qfp{M:Model}{A:Around}{E:Value->Shared->Prop}{i:Nat}{x:Str}{v:V}{u:Value}{Q:Unit->Shared->Prop}(I:Inv X z5 σ H s)(hN:X.N.Nodup)(hi:X.N[i]? =some x)(hx:mV X.env.scope x)(r:RelV v u)
 (h:∀s',Inv X z5 (σ.set i (some v)) H s'->(∃a,Heap.SameBut a s.heap s'.heap/\(a=X.env.locals∨X.env.cells.lookup x=some a))->Q () s') (hf:X.fn x=true∨X.env.scope.names.lookup x=some .local:=by first|exact .inl rfl|exact .inr rfl|assumption):wpAny M A (storeName X.env x u) Q E s:=by
 obtain⟨m,hn,hl⟩:=id I.loc;have hcls:(X.env.scope.kind==.class||(X.env.scope.kind==.module&&X.env.locals !=X.env.globals))=false:=by rw[I.ok.kind];rfl
 have hiσ:i<σ.length:=by rw[I.len];exact(List.getElem?_eq_some_iff.mp hi).1
 have cne:=I.cne;have tracked:∀{a:Addr} {h':Heap},(∃o,s.heap.get? a=some o/\H a=none)->Heap.SameBut a s.heap h'->HOk X.prog X.w H h':=λ{a h'} ha hs b ob e=>by
  obtain⟨_,_,hfree⟩:=ha;refine(I.hok b ob e).stay (λc w' hc q=>(hs.2 c ?_).trans q) (λ_ q=>q) λ_ _ q=>q;rintro rfl;rcases hc with rfl|hc
  ·rw[hfree]at e;cases e
  ·rw[hfree]at hc;cases hc
 rcases hx with hk|hk
 ·refine wpAny_storeName_local hk hn (λh' hn' hs=>?_) hcls;obtain⟨oL,_,_,hoL,_⟩:=id hn;refine h _ ⟨I.ok,I.os,I.bare,⟨λb o e n hb hx=>?_,λb o e n hb hx=>?_,I.base.free,λb o e hx=>?_,I.base.tups,I.base.frzs,I.base.tbls⟩,⟨_,hn',λj y v' e1 e2 e3=>?_⟩,λy c e=>?_,I.free,I.freeC,λp hp=>?_,tracked ⟨oL,hoL,I.free⟩ hs,by simpa using I.len⟩ ⟨_,hs,.inl rfl⟩
  ·exact(hs.2 b (jh (jn (j5 e) I.ok.above))).trans (I.base.keep b o e n hb hx)
  ·obtain⟨sl,e1⟩:=I.base.slot b o e n hb hx;exact⟨sl,(hs.2 b (jh (jn (j5 e) I.ok.above))).trans e1⟩
  ·obtain⟨o',e1⟩:=I.base.there b o e hx;exact⟨o',(hs.2 b (jh (jn (j5 e) I.ok.above))).trans e1⟩
  ·by_cases hj:j=i
   ·subst hj;rw[hi]at e1;cases e1;rw[jy hiσ]at e2;cases e2;exact⟨u,r,.inl ⟨hk,by simp⟩⟩
   ·rw[jf (Ne.symm hj)]at e2;obtain⟨u',r',q⟩:=hl j y v' e1 e2 e3;refine⟨u',r',?_⟩;rcases q with⟨k,e⟩|⟨k,c,e,z⟩
    ·refine .inl ⟨k,?_⟩;have:y≠x:=λe=>hj (EU hN e1 (e▸hi));simp[this,e]
    ·exact .inr ⟨k,c,e,z.sameBut hs (cne y c e)⟩
  ·obtain⟨w',z⟩:=I.cell y c e;exact⟨w',z.sameBut hs (cne y c e)⟩
  ·obtain⟨e,n,ne,nf,d⟩:=I.pin p hp;exact⟨(hs.2 p.1 ne).trans e,n,ne,nf,d⟩
 ·have hfn:X.fn x=true:=by
   rcases hf with z|z
   ·exact z
   ·rw[z]at hk;cases hk
  obtain⟨c,hc⟩:=I.ok.has x (.inl hk);obtain⟨w',z⟩:=I.cell x c hc;refine wpAny_storeName_cell I.ok.kind hk hc z (λh' hc' hs=>?_);obtain⟨oc,hoc,hocd⟩:=id z;refine h {s with heap:=h'} ⟨I.ok,I.os,I.bare,⟨λb o e n hb hx=>?_,λb o e n hb hx=>?_,I.base.free,λb o e hx=>?_,I.base.tups,I.base.frzs,I.base.tbls⟩,⟨m,hn.sameBut hs (Ne.symm (cne x c hc)),λj y v' e1 e2 e3=>?_⟩,λy c' e=>?_,I.free,I.freeC,λp hp=>?_,tracked ⟨oc,hoc,I.freeC x c hc⟩ hs,by simpa using I.len⟩ ⟨c,hs,.inr hc⟩
  ·exact(hs.2 b (jh (jn (j5 e) (I.ok.cab x c hfn hc)))).trans (I.base.keep b o e n hb hx)
  ·obtain⟨sl,e1⟩:=I.base.slot b o e n hb hx;exact⟨sl,(hs.2 b (jh (jn (j5 e) (I.ok.cab x c hfn hc)))).trans e1⟩
  ·obtain⟨o',e1⟩:=I.base.there b o e hx;exact⟨o',(hs.2 b (jh (jn (j5 e) (I.ok.cab x c hfn hc)))).trans e1⟩
  ·by_cases hj:j=i
   ·subst hj;rw[hi]at e1;cases e1;rw[jy hiσ]at e2;cases e2;exact⟨u,r,.inr ⟨.inl hk,c,hc,hc'⟩⟩
   ·rw[jf (Ne.symm hj)]at e2;obtain⟨u',r',q⟩:=hl j y v' e1 e2 e3;refine⟨u',r',?_⟩;rcases q with q|⟨k,c',e,z'⟩
    ·exact .inl q
    ·refine .inr ⟨k,c',e,z'.sameBut hs ?_⟩;rintro rfl;exact hj (EU hN e1 (I.ok.inj _ _ _ e hc▸hi))
  ·by_cases hcc:c'=c
   ·subst hcc;exact⟨_,hc'⟩
   ·obtain⟨w2,z2⟩:=I.cell y c' e;exact⟨w2,z2.sameBut hs hcc⟩
  ·obtain⟨e,n,ne,nf,d⟩:=I.pin p hp;refine⟨(hs.2 p.1 ?_).trans e,n,ne,nf,d⟩;intro q;rw[q,hoc]at e;have q':oc=p.2:=jb e;exact d w' (by rw[<-q'];exact hocd)
theorem xV{M:Model}{A:Around}{E:Value->Shared->Prop}{i:Nat}{x:Str}{v:V}{u:Value}{Q:Unit->Shared->Prop}(I:Inv X z5 σ H s)(hN:X.N.Nodup)(hi:X.N[i]? =some x)(hx:mV X.env.scope x)(r:RelV v u)
 (h:∀s',Inv X z5 (σ.set i (some v)) H s'->Q () s') (hf:X.fn x=true∨X.env.scope.names.lookup x=some .local:=by first|exact .inl rfl|exact .inr rfl|assumption):wpAny M A (storeName X.env x u) Q E s:=
 qfp I hN hi hx r (λs' I' _=>h s' I') hf
theorem Inv.call'{s':Shared}{ch:List Addr}(I:Inv X z5 σ H s)(ho:s'.os=s.os)(u:Un (gP X.stack) ch H H' s.heap s'.heap)(hok:HOk X.prog X.w H' s'.heap)(hg:AllBare s'.gens)
 (hch:∀b∈ch,(b∈X.ex∨X.s₀.heap.objs.size<=b)/\b≠X.env.locals/\(∀x c,X.env.cells.lookup x=some c->c≠b)/\∀p∈X.pn++z5,p.1≠b):Inv X z5 σ H' s':=by
 obtain⟨h',g',d',t',o'⟩:=s';have e:o'=s.os:=ho;subst e;exact I.call (g':=g') (t':=t') (d':=d') u hok hg hch
end
abbrev XK:=Value->Option Addr->Hp->Prop
abbrev St:=List (Option V)
abbrev VK:=V->Hp->Prop
abbrev TE:=St->Hp->VK->Prop
abbrev TT:=St->Hp->(Bool->Hp->Prop)->Prop
abbrev TA:=St->Hp->(List V->Hp->Prop)->Prop
structure Ends where
 nx:St->Hp->Prop
 rt:VK
 bk:St->Hp->Prop:=λ_ _=>False
 ct:St->Hp->Prop:=λ_ _=>False
abbrev TS:=Ends->St->Hp->Prop
def EP(X:Cx)(z5:List (Addr×Obj))(σ:St)(Q:VK)(u:Value)(s':Shared):Prop:=∃v H',Inv X z5 σ H' s'/\RelV v u/\Q v H'
def TP(X:Cx)(z5:List (Addr×Obj))(σ:St)(Q:Bool->Hp->Prop)(b:Bool)(s':Shared):Prop:=∃H',Inv X z5 σ H' s'/\Q b H'
def AP(X:Cx)(z5:List (Addr×Obj))(σ:St)(Q:List V->Hp->Prop)(us:List Value)(s':Shared):Prop:=∃vs H',Inv X z5 σ H' s'/\Vals vs us/\Q vs H'
def SP(X:Cx)(z5:List (Addr×Obj))(D:Ends)(f:Flow)(s':Shared):Prop:=
 match f with
 |.next=>∃σ' H',Inv X z5 σ' H' s'/\D.nx σ' H'
 |.brk=>∃σ' H',Inv X z5 σ' H' s'/\D.bk σ' H'
 |.cont=>∃σ' H',Inv X z5 σ' H' s'/\D.ct σ' H'
 |.ret u=>∃v σ' H',Inv X z5 σ' H' s'/\RelV v u/\D.rt v H'
def PE(X:Cx)(e:Expr)(t:TE):Prop:=
 ∀(z5:List (Addr×Obj)) (s:Shared) (σ:St) (H:Hp) (Q:VK),Inv X z5 σ H s->t σ H Q->wpAny (model X.prog X.w) X.A (eval e X.env) (EP X z5 σ Q) X.xe s
def PT(X:Cx)(e:Expr)(t:TT):Prop:=
 ∀(z5:List (Addr×Obj)) (s:Shared) (σ:St) (H:Hp) (Q:Bool->Hp->Prop),Inv X z5 σ H s->t σ H Q->wpAny (model X.prog X.w) X.A (isTrue e X.env (eval e X.env)) (TP X z5 σ Q) X.xe s
def PW(X:Cx)(e:Expr)(t:TT):Prop:=
 ∀(zu:Sem Value) (z5:List (Addr×Obj)) (s:Shared) (σ:St) (H:Hp) (Q:Bool->Hp->Prop),Inv X z5 σ H s->t σ H Q->wpAny (model X.prog X.w) X.A (isTrue e X.env zu) (TP X z5 σ Q) X.xe s
theorem PW.pt{X:Cx}{e:Expr}{t:TT}(h:PW X e t):PT X e t:=h _
def PA(X:Cx)(es:List Expr)(t:TA):Prop:=
 ∀(pos:Pos) (z5:List (Addr×Obj)) (s:Shared) (σ:St) (H:Hp) (Q:List V->Hp->Prop),Inv X z5 σ H s->t σ H Q->wpAny (model X.prog X.w) X.A (spliced (backTo pos (starEach es X.env))) (AP X z5 σ Q) X.xe s
def PS(X:Cx)(st:Stmt)(t:TS):Prop:=
 ∀(z5:List (Addr×Obj)) (s:Shared) (σ:St) (H:Hp) (D:Ends),Inv X z5 σ H s->t D σ H->wpAny (model X.prog X.w) X.A (exec st X.env) (SP X z5 D) X.xe s
def PSs(X:Cx)(st:List Stmt)(t:TS):Prop:=
 ∀(z5:List (Addr×Obj)) (s:Shared) (σ:St) (H:Hp) (D:Ends),Inv X z5 σ H s->t D σ H->wpAny (model X.prog X.w) X.A (execs st X.env) (SP X z5 D) X.xe s
theorem bd{α:Type}{t:Sem α}{Q Q':α->Shared->Prop}{M:Model}{A:Around}{E:Value->Shared->Prop}{s:Shared}(h:wpAny M A t Q E s)(hQ:∀a s,Q a s->Q' a s):wpAny M A t Q' E s:=xn h hQ λ_ _ x=>x
section
variable{X:Cx}
def dJ(i:Nat):TE:=λσ H Q=>∃v,σ[i]? =some (some v)/\Q v H
def tC(v:V):TE:=λ_ H Q=>Q v H
theorem qrz{i:Nat}{x:Str}{pos:Pos}(hN:X.N[i]? =some x)(hv:km X.env.scope x)(hd:(x==("__debug__":Str))=false:=by decide)(hcd:(x==("__classdict__":Str))=false:=by decide):PE X (.Name x pos) (dJ i):=by
 intro z5 s σ H Q I h;obtain⟨v,e,h⟩:=h;obtain⟨m,hn,hl⟩:=I.loc;obtain⟨u,r,l⟩:=hl i x v hN e hv;have fin:EP X z5 σ Q u s:=⟨v,H,I,r,h⟩;rcases l with⟨hk,hm⟩|⟨hk,c,hc,zo⟩
 ·exact wpAny_Name (wpAny_loadName_local I.ok.kind hk hn hm fin) hd
 ·rcases hk with hk|hk
  ·exact wpAny_Name (wpAny_loadName_cell I.ok.kind hk hc zo fin) hd
  ·exact wpAny_Name (wpAny_loadName_free I.ok.kind hk hc zo fin hcd) hd
theorem aC{i j pos}:PE X (.Constant (.int i) j pos) (tC (.int i)):=λ_ _ _ H _ I h=>wpAny_Constant_int ⟨.int i,H,I.tok _,⟨_,rfl⟩,h⟩
theorem mq{b j pos}:PE X (.Constant (.bool b) j pos) (tC (.bl b)):=λ_ _ _ H _ I h=>Constant_bool ⟨.bl b,H,I,rfl,h⟩
theorem iZ{j pos}:PE X (.Constant .none j pos) (tC .non):=λ_ _ _ H _ I h=>Constant_none ⟨.non,H,I,rfl,h⟩
theorem gg{x j pos}:PE X (.Constant (.str x) j pos) (tC (.str x)):=λ_ _ _ H _ I h=>Calls.Constant_str ⟨.str x,H,I.tok _,⟨_,rfl⟩,h⟩
def Gl(X:Cx)(x:Str):Prop:=X.env.kindOf x=some .globalImplicit
theorem wK{E:Value->Shared->Prop}{z5:List (Addr×Obj)}{s:Shared}{σ:St}{H:Hp}{x:Str}{u:Value}{pos:Pos}{Q:Value->Shared->Prop}(I:Inv X z5 σ H s)(hg:Gl X x)(hm:X.mg x=some u)(h:Q u s)
 (hd:(x==("__debug__":Str))=false:=by decide):wpAny (model X.prog X.w) X.A (eval (.Name x pos) X.env) Q E s:=
 Calls.Name_function_global I.ok.kind hg (Calls.loadGlobal_global (by rw[I.ok.glob];exact I.mod.glob.keeps I.bk) hm h) hd
theorem iw{E:Value->Shared->Prop}{z5:List (Addr×Obj)}{s:Shared}{σ:St}{H:Hp}{x:Str}{u:Value}{pos:Pos}{Q:Value->Shared->Prop}(I:Inv X z5 σ H s)(hg:Gl X x)(hm:X.mg x=none)(hv:bootBuiltins x=some u)(h:Q u s)
 (hn:x≠"__name__":=by decide) (hd:(x==("__debug__":Str))=false:=by decide):wpAny (model X.prog X.w) X.A (eval (.Name x pos) X.env) Q E s:=by
 obtain⟨mb,h1,h2⟩:=I.mod.blt;exact Calls.Name_function_global I.ok.kind hg (Calls.loadGlobal_builtin (by rw[I.ok.glob];exact I.mod.glob.keeps I.bk) hm (by rw[I.ok.blt];exact h1.keeps I.bk) ((h2 x hn).trans hv) h) hd
theorem tx{x:Str}{v:V}{u:Value}{pos:Pos}(hg:Gl X x)(hm:X.mg x=none)(hv:bootBuiltins x=some u)(r:RelV v u)(hn:x≠"__name__":=by decide)(hd:(x==("__debug__":Str))=false:=by decide):PE X (.Name x pos) (tC v):=
 λ_ _ _ H _ I h=>iw I hg hm hv ⟨v,H,I,r,h⟩ hn hd
variable{a b:Expr}{ta tb:TE}{pos:Pos}
def tB(t:TE):TT:=λσ H Q=>t σ H λx H1=>∃c,x=.bl c/\Q c H1
theorem mI{e:Expr}{t:TE}(h:PE X e t)(he:∀zu,isTrue e X.env zu=(do let v <-zu;standAt e.pos;holding [v] (truthy v)):=by intro _;rfl):PT X e (tB t):=by intro z5 s σ H Q I hw;refine isTrue_plain (bd (h z5 s σ H _ I hw) λv s1 ⟨x,H1,I1,r1,q1⟩=>?_) (he _);obtain⟨d,rfl,q⟩:=q1;cases r1;exact k6 ⟨H1,I1,q⟩
variable{tA tB':TT}{rest:List Expr}
def qz(t u:TT):TT:=λσ H Q=>t σ H λc H1=>if c=true then u σ H1 Q else Q false H1
def B7(t u:TT):TT:=λσ H Q=>t σ H λc H1=>if c=true then Q true H1 else u σ H1 Q
def qx(t:TT):TT:=λσ H Q=>t σ H λc H1=>Q (!c) H1
theorem dW(ha:PT X a tA):PW X (.BoolOp .And [a] pos) tA:=by
 intro wh z5 s σ H Q I h;refine isTrue_and (bd (ha z5 s σ H Q I h) λc s1 e=>?_);cases c with
 |true=>exact isTrue_and_nil e
 |false=>exact e
theorem gY(ha:PT X a tA):PW X (.BoolOp .Or [a] pos) tA:=by
 intro wh z5 s σ H Q I h;refine isTrue_or (bd (ha z5 s σ H Q I h) λc s1 e=>?_);cases c with
 |false=>exact isTrue_or_nil e
 |true=>exact e
theorem e8(ha:PT X a tA)(hb:PW X (.BoolOp .And (b::rest) pos) tB'):PW X (.BoolOp .And (a::b::rest) pos) (qz tA tB'):=by
 intro wh z5 s σ H Q I h;refine isTrue_and (bd (ha z5 s σ H _ I h) λc s1 ⟨H1,I1,q1⟩=>?_);cases c with
 |true=>exact hb wh z5 s1 σ H1 Q I1 q1
 |false=>exact⟨H1,I1,q1⟩
theorem gz(ha:PT X a tA)(hb:PW X (.BoolOp .Or (b::rest) pos) tB'):PW X (.BoolOp .Or (a::b::rest) pos) (B7 tA tB'):=by
 intro wh z5 s σ H Q I h;refine isTrue_or (bd (ha z5 s σ H _ I h) λc s1 ⟨H1,I1,q1⟩=>?_);cases c with
 |true=>exact⟨H1,I1,q1⟩
 |false=>exact hb wh z5 s1 σ H1 Q I1 q1
theorem sV(ha:PT X a tA):PT X (.UnaryOp .Not a pos) (qx tA):=by intro z5 s σ H Q I h;exact isTrue_not (ha z5 s σ H (λc H1=>Q (!c) H1) I h)
def CQ(ta tb:TE):TE:=λσ H Q=>ta σ H λx H1=>∃c,x=.bl c/\if c=true then tb σ H1 Q else Q (.bl false) H1
def C0(ta:TE):TE:=λσ H Q=>ta σ H λx H1=>∃c,x=.bl c/\Q (.bl (!c)) H1
theorem DG{op}{t:TE}(h:PE X a t):PE X (.BoolOp op [a] pos) t:=λz5 s σ H Q I hw=>BoolOp_one (h z5 s σ H Q I hw)
theorem DF(ha:PE X a ta)(hb:PE X (.BoolOp .And (b::rest) pos) tb):PE X (.BoolOp .And (a::b::rest) pos) (CQ ta tb):=by
 intro z5 s σ H Q I h;refine BoolOp_and (bd (ha z5 s σ H _ I h) λv s1 ⟨x,H1,I1,r1,q1⟩=>?_);obtain⟨c,rfl,q1⟩:=q1;cases r1;refine k6 ?_;cases c with
 |true=>exact hb z5 s1 σ H1 Q I1 q1
 |false=>exact⟨.bl false,H1,I1,rfl,q1⟩
theorem qs0(ha:PE X a ta):PE X (.UnaryOp .Not a pos) (C0 ta):=by intro z5 s σ H Q I h;refine UnaryOp_ (bd (ha z5 s σ H _ I h) λv s1 ⟨x,H1,I1,r1,q1⟩=>?_);obtain⟨c,rfl,q1⟩:=q1;cases r1;exact not_of (k6 ⟨.bl (!c),H1,I1,rfl,q1⟩)
def uZ(t:TT)(ta tb:TE):TE:=λσ H Q=>t σ H λc H1=>if c=true then ta σ H1 Q else tb σ H1 Q
theorem jT{c:Expr}(hc:PT X c tA)(ha:PE X a ta)(hb:PE X b tb):PE X (.IfExp c a b pos) (uZ tA ta tb):=by
 intro z5 s σ H Q I h;refine wpAny_IfExp (bd (hc z5 s σ H _ I h) λd s1 ⟨H1,I1,q1⟩=>?_);cases d with
 |true=>exact ha z5 s1 σ H1 Q I1 q1
 |false=>exact hb z5 s1 σ H1 Q I1 q1
end
def SqL(K:au)(H:Hp)(a:Addr)(xs:List V):Prop:=
 Rd H a (.lst xs)∨
  ∃(o:Obj) (its:Array Value) (n:Nat),K.lookup a=some o/\o.cls=.type "list"/\o.dict=none/\o.data=.seq its n/\its.size<=sizeLine/\Vals xs its.toList
def SqT(K:au)(H:Hp)(a:Addr)(xs:List V):Prop:=
 Rd H a (.tup xs)∨
  ∃(o:Obj) (its:Array Value) (n:Nat),K.lookup a=some o/\o.cls=.type "tuple"/\o.dict=none/\o.data=.seq its n/\its.size<=sizeLine/\Vals xs its.toList
def AT:Value->Option V
 |.none=>some .non
 |.bool b=>some (.bl b)
 |.int i _=>some (.int i)
 |.str x _=>some (.str x)
 |.bytes b _=>some (.byt b)
 |.float b _=>some (.flt b)
 |.ref a=>some (.ref a)
 |.type n=>some (.ty n)
 |_=>none
theorem RelV.abs{x:V}{u:Value}(r:RelV x u):AT u=some x:=by
 cases x with
 |non=>cases r;rfl
 |bl _=>cases r;rfl
 |int _=>obtain⟨t,rfl⟩:=r;rfl
 |str _=>obtain⟨t,rfl⟩:=r;rfl
 |byt _=>obtain⟨t,rfl⟩:=r;rfl
 |flt _=>obtain⟨t,rfl⟩:=r;rfl
 |ref _=>cases r;rfl
 |ty _=>cases r;rfl
theorem RelV.inj{x y:V}{u:Value}(r:RelV x u)(q:RelV y u):x=y:=jb (r.abs.symm.trans q.abs)
theorem Vals.inj:∀{xs ys:List V} {us:List Value},Vals xs us->Vals ys us->xs=ys
 |_,_,_,.nil,.nil=>rfl
 |_,_,_,.cons r t,.cons r' t'=>by rw[r.inj r',Vals.inj t t']
section
variable{X:Cx}{z5:List (Addr×Obj)}{σ:St}{H:Hp}{s:Shared}{a:Addr}{xs ys:List V}
theorem SqL.of{K:au}(h:H a=some (.lst xs)):SqL K H a xs:=.inl (.inl h)
theorem SqT.of{K:au}(h:H a=some (.tup xs)):SqT K H a xs:=.inl (.inl h)
theorem Inv.list(I:Inv X z5 σ H s)(h:SqL X.K H a xs):∃its:List Value,Vals xs its/\PlainL s.heap a its.toArray/\xs.length<=sizeLine:=by
 rcases h with h|⟨o,its,n,hk,hc,hd,hs,hz,r⟩
 ·obtain⟨z,its,n,r,e⟩:=h.ok I.hok;exact⟨its,r,⟨_,n,e,rfl,rfl,rfl⟩,z⟩
 ·refine⟨its.toList,r,⟨o,n,I.kIn a o hk,hc,hd,by simpa using hs⟩,?_⟩;have e:=r.length;simp only[Array.length_toList]at e;omega
theorem Inv.tupN(I:Inv X z5 σ H s)(h:SqT X.K H a xs):∃its:List Value,Vals xs its/\TupN s.heap a its.toArray/\xs.length<=sizeLine:=by
 rcases h with h|⟨o,its,n,hk,hc,hd,hs,hz,r⟩
 ·obtain⟨z,its,r,p⟩:=h.ok I.hok;exact⟨its,r,p,z⟩
 ·refine⟨its.toList,r,⟨o,I.kIn a o hk,⟨hc,n,by simpa using hs⟩,hd⟩,?_⟩;have e:=r.length;simp only[Array.length_toList]at e;omega
theorem Inv.tuple(I:Inv X z5 σ H s)(h:SqT X.K H a xs):∃its:List Value,Vals xs its/\IsTup s.heap a its.toArray/\xs.length<=sizeLine:=let ⟨its,r,p,z⟩:=I.tupN h;⟨its,r,p.tup,z⟩
theorem Inv.list_inj(I:Inv X z5 σ H s)(h:SqL X.K H a xs)(h':SqL X.K H a ys):xs=ys:=by
 obtain⟨its,r,⟨o,n,e,_,_,d⟩,_⟩:=I.list h;obtain⟨its',r',⟨o',n',e',_,_,d'⟩,_⟩:=I.list h';rw[e]at e';cases e';rw[d]at d';injection d' with d1 _;have:its=its':=by simpa using congrArg Array.toList d1
 subst this;exact r.inj r'
theorem Inv.tuple_inj(I:Inv X z5 σ H s)(h:SqT X.K H a xs)(h':SqT X.K H a ys):xs=ys:=by
 obtain⟨its,r,⟨o,e,_,n,d⟩,_⟩:=I.tuple h;obtain⟨its',r',⟨o',e',_,n',d'⟩,_⟩:=I.tuple h';rw[e]at e';cases e';rw[d]at d';injection d' with d1 _;have:its=its':=by simpa using congrArg Array.toList d1
 subst this;exact r.inj r'
end
abbrev Cx.wish(X:Cx)(E:Value->Shared->Prop):Cx:={X with xe:=E}
abbrev Cx.nox(X:Cx):Cx:=X.wish λ_ _=>False
theorem Cx.Ok.wish{X:Cx}(ok:X.Ok)(E:Value->Shared->Prop):(X.wish E).Ok:=
 ⟨ok.mod,ok.kind,ok.glob,ok.blt,ok.above,ok.inj,ok.has,ok.cab,ok.hd,ok.frames,ok.stk,ok.exf,ok.bs,ok.bsz,ok.noex,ok.exfs,ok.funs,ok.frf⟩
theorem Cx.Ok.unwish{X:Cx}{E:Value->Shared->Prop}(ok:(X.wish E).Ok):X.Ok:=
 ⟨ok.mod,ok.kind,ok.glob,ok.blt,ok.above,ok.inj,ok.has,ok.cab,ok.hd,ok.frames,ok.stk,ok.exf,ok.bs,ok.bsz,ok.noex,ok.exfs,ok.funs,ok.frf⟩
section
variable{X:Cx}{z5:List (Addr×Obj)}{σ:St}{H:Hp}{s:Shared}{E:Value->Shared->Prop}
theorem Inv.wish(I:Inv X z5 σ H s)(E:Value->Shared->Prop):Inv (X.wish E) z5 σ H s:=⟨I.ok.wish E,I.os,I.bare,I.base,I.loc,I.cell,I.free,I.freeC,I.pin,I.hok,I.len⟩
theorem Inv.unwish(I:Inv (X.wish E) z5 σ H s):Inv X z5 σ H s:=⟨I.ok.unwish,I.os,I.bare,I.base,I.loc,I.cell,I.free,I.freeC,I.pin,I.hok,I.len⟩
theorem SP.unwish{D:Ends}{f:Flow}{s':Shared}(h:SP (X.wish E) z5 D f s'):SP X z5 D f s':=by
 cases f with
 |next=>obtain⟨σ',H',I,q⟩:=h;exact⟨σ',H',I.unwish,q⟩
 |brk=>obtain⟨σ',H',I,q⟩:=h;exact⟨σ',H',I.unwish,q⟩
 |cont=>obtain⟨σ',H',I,q⟩:=h;exact⟨σ',H',I.unwish,q⟩
 |ret u=>obtain⟨v,σ',H',I,r,q⟩:=h;exact⟨v,σ',H',I.unwish,r,q⟩
theorem PSs.nox{st:List Stmt}{t:TS}(h:PSs X.nox st t):PSs X st t:=λz5 s σ H D I hw=>
 xn (h z5 s σ H D (I.wish _) hw) (λ_ _ q=>q.unwish) λ_ _ z=>False.elim z
end
section
variable{X:Cx}{st:Stmt}{rest:List Stmt}{t u:TS}{e:Expr}{te:TE}{pos:Pos}
def CZ:TS:=λD σ H=>D.nx σ H
def kR(t u:TS):TS:=λD σ H=>t {D with nx:=u D} σ H
theorem gh:PSs X [] CZ:=λ_ _ σ H _ I h=>wpAny_execs_nil ⟨σ,H,I,h⟩
theorem aQ(h1:PS X st t)(h2:PSs X rest u):PSs X (st::rest) (kR t u):=by
 intro z5 s σ H D I h;refine wpAny_execs_cons (bd (h1 z5 s σ H {D with nx:=u D} I h) λf s1 q=>?_);cases f with
 | next=>
  obtain⟨σ',H',I',q⟩:=q;exact h2 z5 s1 σ' H' D I' q
 |ret v=>exact q
 |brk=>exact q
 |cont=>exact q
theorem aW(h1:PS X st t):PSs X [st] t:=by
 intro z5 s σ H D I h;refine wpAny_execs_cons (bd (h1 z5 s σ H D I h) λf s1 q=>?_);cases f with
 |next=>exact wpAny_execs_nil q
 |ret v=>exact q
 |brk=>exact q
 |cont=>exact q
theorem Inv.quiet{z5:List (Addr×Obj)}{σ:St}{H:Hp}{s:Shared}(I:Inv X z5 σ H s):interactive X.env=false:=by simp[interactive,I.ok.kind]
def pE(te:TE):TS:=λD σ H=>te σ H λ_ H1=>D.nx σ H1
theorem jS(he:PE X e te)(hs:swapsWith e none pos.line X.env=pure false:=by rfl):PS X (.Expr e pos) (pE te):=by intro z5 s σ H D I h;exact wpAny_Expr_any (bd (he z5 s σ H _ I h) λv s1 ⟨x,H1,I1,r1,q1⟩=>⟨σ,H1,I1,q1⟩) I.quiet hs
def iE(te:TE):TS:=λD σ H=>te σ H D.rt
theorem bU(he:PE X e te):PS X (.Return (some e) pos) (iE te):=by intro z5 s σ H D I h;exact wpAny_Return_some (bd (he z5 s σ H _ I h) λv s1 ⟨x,H1,I1,r1,q1⟩=>⟨x,σ,H1,I1,r1,q1⟩)
def qy(c:TT)(t u:TS):TS:=λD σ H=>c σ H λb H1=>if b=true then t D σ H1 else u D σ H1
theorem f9{c:Expr}{a b:List Stmt}{tc:TT}(hc:PT X c tc)(ha:PSs X a t)(hb:PSs X b u):PS X (.If c a b pos) (qy tc t u):=by
 intro z5 s σ H D I h;refine wpAny_If (bd (hc z5 s σ H _ I h) λd s1 ⟨H1,I1,q1⟩=>?_);cases d with
 |true=>exact ha z5 s1 σ H1 D I1 q1
 |false=>exact hb z5 s1 σ H1 D I1 q1
def DT:TS:=λ_ _ _=>False
theorem EZ:PS X st DT:=λ_ _ _ _ _ _ h=>h.elim
end
abbrev TG:=V->St->Hp->(St->Hp->Prop)->Prop
abbrev kn:=List V->St->Hp->(St->Hp->Prop)->Prop
def PG(X:Cx)(zh:Expr)(t:TG):Prop:=
 ∀(z5:List (Addr×Obj)) (s:Shared) (σ:St) (H:Hp) (v:V) (u:Value) (Q:St->Hp->Prop),Inv X z5 σ H s->RelV v u->t v σ H Q->
   wpAny (model X.prog X.w) X.A (assign zh X.env u) (λ_ s'=>∃σ' H',Inv X z5 σ' H' s'/\Q σ' H') X.xe s
def qo(X:Cx)(ts:List Expr)(t:kn):Prop:=
 ∀(z5:List (Addr×Obj)) (s:Shared) (σ:St) (H:Hp) (vs:List V) (us:List Value) (Q:St->Hp->Prop),Inv X z5 σ H s->Vals vs us->t vs σ H Q->
   wpAny (model X.prog X.w) X.A (assignInOrder ((assignEach ts X.env).map (·.2)) us) (λ_ s'=>∃σ' H',Inv X z5 σ' H' s'/\Q σ' H') X.xe s
abbrev nR:=V->V->V->Hp->(Hp->Prop)->Prop
def nS(X:Cx)(t:nR):Prop:=
 ∀(z5:List (Addr×Obj)) (s:Shared) (σ:St) (H:Hp) (o i v:V) (ov iv u:Value) (Q:Hp->Prop),Inv X z5 σ H s->RelV o ov->RelV i iv->RelV v u->t o i v H Q->
   wpAny (model X.prog X.w) X.A (setItem ov iv u) (λ_ s'=>∃H',Inv X z5 σ H' s'/\Q H') X.xe s
section
variable{X:Cx}{pos:Pos}
def gZ(i:Nat):TG:=λv σ H Q=>Q (σ.set i (some v)) H
theorem dQ{i:Nat}{x:Str}(hN:X.N.Nodup)(hi:X.N[i]? =some x)(hx:mV X.env.scope x)(hf:X.fn x=true∨X.env.scope.names.lookup x=some .local:=by first|exact .inl rfl|exact .inr rfl|assumption):PG X (.Name x pos) (gZ i):=by intro z5 s σ H v u Q I r h;exact wpAny_assign_Name (xV I hN hi hx r (λs' I'=>⟨_,H,I',h⟩) hf)
theorem fm(i:Nat){x:Str}(hN:X.N.Nodup)(hi:X.N[i]? =some x:=by rfl)(hx:mV X.env.scope x:=by first|exact .inl rfl|exact .inr rfl)(hf:X.fn x=true∨X.env.scope.names.lookup x=some .local:=by first|exact .inl rfl|exact .inr rfl|assumption):PG X (.Name x pos) (gZ i):=dQ hN hi hx hf
def nA:kn:=λvs σ H Q=>vs=[]/\Q σ H
def r9(t:TG)(u:kn):kn:=λvs σ H Q=>∃v r,vs=v::r/\t v σ H λσ' H'=>u r σ' H' Q
theorem mO:qo X [] nA:=by intro z5 s σ H vs us Q I r h;obtain⟨e,h⟩:=h;subst e;cases r;exact assignInOrder_nil ⟨σ,H,I,h⟩
theorem hX{e:Expr}{es:List Expr}{t:TG}{u:kn}(h1:PG X e t)(h2:qo X es u)
 (hs:(assignEach (e::es) X.env).map (·.2)=assign e X.env::(assignEach es X.env).map (·.2):=by rfl):qo X (e::es) (r9 t u):=by
 intro z5 s σ H vs us Q I r h;obtain⟨v,vr,e1,h⟩:=h;subst e1;cases r with
 | cons r rr=>
  rw[hs];refine assignInOrder_cons (bd (h1 z5 s σ H _ _ _ I r h) λ_ s1 ⟨σ1,H1,I1,q1⟩=>?_);exact h2 z5 s1 σ1 H1 _ _ Q I1 rr q1
def lA(K:au)(n:Nat)(t:kn):TG:=λv σ H Q=>∃a xs,v=.ref a/\SqT K H a xs/\xs.length=n/\t xs σ H Q
theorem qry{es:List Expr}{k:Nat}{t:kn}{n:Nat}(hc:X.calm=true)(h:qo X es t)
 (hn:(assignEach es X.env).length=n:=by rfl) (hst:(assignEach es X.env).findIdx? (·.1)=none:=by rfl):PG X (.Tuple es k pos) (lA X.K n t):=by
 intro z5 s σ H v u Q I r hw;obtain⟨a,xs,e1,hq,hl,hw⟩:=hw;subst e1;cases r;obtain⟨its,rv,ht,hz⟩:=I.tuple hq;refine assign_Tuple_tuple (I.ok.hd hc) ht (by simp[hn,<-hl,rv.length]) hst λh' hx=>?_;have I1:Inv X z5 σ H {s with heap:=h'}:=I.kept (t':=s.toks) λb o e=>hx b o (jh (j5 e)) e;exact h z5 _ σ H xs _ Q I1 (by simpa using rv) hw
def ny(to ti:TE)(t:nR):TG:=λv σ H Q=>to σ H λo H1=>ti σ H1 λi H2=>t o i v H2 λH3=>Q σ H3
theorem DH{o i:Expr}{to ti:TE}{t:nR}(ho:PE X o to)(hi:PE X i ti)(hs:nS X t)
 (ha:∀v,assign (.Subscript o i pos) X.env v=(do
   let ov <-holding [v] (eval o X.env)
   let iv <-holding [v,ov] (eval i X.env)
   standAt pos
   holding [v,ov,iv] (setItem ov iv v)
   release [v,ov,iv] []):=by intro _;rfl):PG X (.Subscript o i pos) (ny to ti t):=by
 intro z5 s σ H v u Q I r h;rw[ha];refine j0 (xp (bd (ho z5 s σ H _ I h) λov s1 ⟨x,H1,I1,r1,q1⟩=>?_));refine j0 (xp (bd (hi z5 s1 σ H1 _ I1 q1) λiv s2 ⟨y,H2,I2,r2,q2⟩=>?_));refine j0 (wpAny_standAt (j0 (xp (bd (hs z5 s2 σ H2 x y v ov iv u _ I2 r1 r2 r q2) λ_ s3 ⟨H3,I3,q3⟩=>?_))));exact wpAny_release ⟨σ,H3,I3,q3⟩
def fz(te:TE)(g:TG):TS:=λD σ H=>te σ H λx H1=>g x σ H1 D.nx
theorem sU{tg e:Expr}{te:TE}{g:TG}(he:PE X e te)(hg:PG X tg g)(hs:swapsWithSole [tg] e pos.line X.env=pure false:=by rfl)(hw:swappedStores [tg] e X.env=pure none:=by rfl)
 (h1:(assignEach [tg] X.env).map (·.2)=[assign tg X.env]:=by rfl):PS X (.Assign [tg] e pos) (fz te g):=by
 intro z5 s σ H D I h;refine wpAny_Assign_stores (bd (he z5 s σ H _ I h) λv s1 ⟨x,H1,I1,r1,q1⟩=>?_) hs hw;rw[h1];exact bd (hg z5 s1 σ H1 x v _ I1 r1 q1) λ_ s2 q=>q
theorem q0v{i:Nat}{x:Str}{e:Expr}{te:TE}{zx:Pos}(hN:X.N.Nodup)(hi:X.N[i]? =some x)(hx:mV X.env.scope x)(he:PE X e te)(hs:swapsWith e (some (.Name x zx)) pos.line X.env=pure false:=by rfl)(hf:X.fn x=true∨X.env.scope.names.lookup x=some .local:=by first|exact .inl rfl|exact .inr rfl|assumption):
 PS X (.Assign [.Name x zx] e pos) (fz te (gZ i)):=by
 intro z5 s σ H D I h;refine wpAny_Assign_Name (bd (he z5 s σ H _ I h) λv s1 ⟨y,H1,I1,r1,q1⟩=>?_) hs;exact xV I1 hN hi hx r1 (λs2 I2=>⟨_,H1,I2,q1⟩) hf
theorem bK(i:Nat){x:Str}{e:Expr}{te:TE}{zx:Pos}(hN:X.N.Nodup)(he:PE X e te)(hi:X.N[i]? =some x:=by rfl)(hx:mV X.env.scope x:=by first|exact .inl rfl|exact .inr rfl)(hs:swapsWith e (some (.Name x zx)) pos.line X.env=pure false:=by rfl)(hf:X.fn x=true∨X.env.scope.names.lookup x=some .local:=by first|exact .inl rfl|exact .inr rfl|assumption): PS X (.Assign [.Name x zx] e pos) (fz te (gZ i)):=q0v hN hi hx he hs hf
end
section
variable{X:Cx}{pos:Pos}
def DW(c:TT)(tb:TS):TS:=λD σ H=>∃W:Nat->St->Hp->Prop,(∃m,W m σ H)/\∀m σ H,W m σ H->
 c σ H λb H1=>if b=true then∃N:St->Hp->Prop,(∀σ' H',N σ' H'->∃m',m'<m/\W m' σ' H')/\tb {D with nx:=N,ct:=N,bk:=D.nx} σ H1 else D.nx σ H1
theorem E1{c:Expr}{body:List Stmt}{tc:TT}{tb:TS}(hp:PassesOwn (model X.prog X.w) X.A X.env X.xe)(hc:PT X c tc)(hb:PSs X body tb):PS X (.While c body [] pos) (DW tc tb):=by
 intro z5 s σ H D I h;obtain⟨W,⟨m0,w0⟩,turn⟩:=h;refine wpAny_While (codeAny_whileLoop (λn s'=>∃σ' H',Inv X z5 σ' H' s'/\W n σ' H') ?_ m0 ⟨σ,H,I,w0⟩);rintro n s1 ⟨σ1,H1,I1,w1⟩;refine k7 hp (bd (hc z5 s1 σ1 H1 _ I1 (turn n σ1 H1 w1)) λb s2 ⟨H2,I2,q2⟩=>?_);cases b with
 | true=>
  obtain⟨N,hN,q2⟩:=q2;rw[if_pos rfl];refine k7 hp (bd (hb z5 s2 σ1 H2 _ I2 q2) λf s3 q3=>?_);cases f with
  | next=>
   obtain⟨σ3,H3,I3,n3⟩:=q3;obtain⟨m',hm,w3⟩:=hN σ3 H3 n3;exact⟨m',hm,σ3,H3,I3,w3⟩
  | cont=>
   obtain⟨σ3,H3,I3,n3⟩:=q3;obtain⟨m',hm,w3⟩:=hN σ3 H3 n3;exact⟨m',hm,σ3,H3,I3,w3⟩
  |brk=>exact q3
  |ret v=>exact q3
 | false=>
  rw[if_neg Bool.false_ne_true];exact wpAny_execs_nil ⟨σ1,H2,I2,q2⟩
end
structure It where
 go:Nat->Hp->Prop
 yld:Nat->Hp->V->Hp->Prop
 stop:Nat->Hp->Prop
def gy(X:Cx)(z5:List (Addr×Obj))(H:Hp)(b:Addr):Prop:=
 H b=none/\b≠X.env.locals/\b∉X.fs/\(b∈X.ex∨X.s₀.heap.objs.size<=b)/\(∀x c,X.env.cells.lookup x=some c->c≠b)/\∀p∈X.pn++z5,p.1≠b
theorem Inv.fpOk{X:Cx}{z5:List (Addr×Obj)}{σ:St}{H H':Hp}{s:Shared}{b:Addr}(I:Inv X z5 σ H s)(hb:s.heap.objs.size<=b)(hn:H' b=none):gy X z5 H' b:=by
 refine⟨hn,Nat.ne_of_gt (jn I.lt hb),I.nofs hb,.inr (jr I.sz hb),λx c e z=>?_,λp hp z=>?_⟩
 ·obtain⟨v,q⟩:=I.cell x c e;exact absurd (jn q.lt (by rw[z];exact hb)) (x9 _)
 ·exact absurd (jn (j5 (I.pin p hp).1) (by rw[z];exact hb)) (x9 _)
structure Turn(P:Program)(w:World)(K:au)(tg:Expr)(J:It)(fp:List Addr)(it:Addr)(tn:Nat->Heap->Prop):Prop where
 mem:it∈fp
 obj:∀i h,tn i h->∀b∈fp,∃o,h.get? b=some o/\∀v,o.data≠.cell v
 keep:∀i h h',tn i h->(∀b∈fp,∀o,h.get? b=some o->h'.get? b=some o)->tn i h'
 item:∀(X:Cx),X.prog=P->X.w=w->X.K=K->X.calm=true->∀(i:Nat) (z5:List (Addr×Obj)) (s:Shared) (σ:St) (H:Hp) (E:Value->Shared->Prop),Inv X z5 σ H s->(∀b∈fp,gy X z5 H b)->tn i s.heap->J.go i H->
  wpAny (model P w) X.A (pyNext (.ref it)) (λr s1=>∃u,r=some u/\
   wpAny (model P w) X.A (letOwnedTupleGo tg (.ref it) u) (λ_ s2=>∃x H',Inv X z5 σ H' s2/\RelV x u/\J.yld i H x H'/\tn (i+1) s2.heap/\∀b∈fp,H' b=none) E s1) E s
 done:∀(X:Cx),X.prog=P->X.w=w->X.K=K->X.calm=true->∀(i:Nat) (z5:List (Addr×Obj)) (s:Shared) (σ:St) (H:Hp) (E:Value->Shared->Prop),Inv X z5 σ H s->(∀b∈fp,gy X z5 H b)->tn i s.heap->J.stop i H->
  wpAny (model P w) X.A (pyNext (.ref it)) (λr s1=>r=none/\Inv X z5 σ H s1) E s
 self:∀(A:Around) (i:Nat) (s:Shared) (Q:Value->Shared->Prop) (E:Value->Shared->Prop),tn i s.heap->Q (.ref it) s->wpAny (model P w) A (pyIter (.ref it)) Q E s
abbrev TI:=St->Hp->(It->Hp->Prop)->Prop
def GB(X:Cx)(z5:List (Addr×Obj))(σ:St)(tg:Expr)(R:It->Hp->Prop)(itv:Value)(s2:Shared):Prop:=
 ∃(it:Addr) (fp:List Addr) (tn:Nat->Heap->Prop) (J:It) (H':Hp),itv=.ref it/\Inv X z5 σ H' s2/\Turn X.prog X.w X.K tg J fp it tn/\tn 0 s2.heap/\(∀b∈fp,gy X z5 H' b)/\R J H'
def PI(X:Cx)(tg zd:Expr)(wi:TI):Prop:=
 ∀(z5:List (Addr×Obj)) (s:Shared) (σ:St) (H:Hp) (R:It->Hp->Prop),Inv X z5 σ H s->wi σ H R->
   wpAny (model X.prog X.w) X.A (eval zd X.env) (λv s1=>wpAny (model X.prog X.w) X.A (pyIter v) (GB X z5 σ tg R) X.xe s1) X.xe s
theorem o9{M:Model}{A:Around}{E:Value->Shared->Prop}{s:Shared}{tg:Expr}{it:Addr}{u:Value}{o:Obj}{n:String}{vs:Array Value}{Q:Unit->Shared->Prop}(ho:s.heap.get? it=some o)(hc:o.cls=.type n)(hd:o.data=.fields vs)
 (hn:["enumerate","zip","dict_itemiterator","dict_reverseitemiterator","odict_iterator","itertools.zip_longest","itertools.pairwise"].contains n=false) (hQ:Q () s):wpAny M A (letOwnedTupleGo tg (.ref it) u) Q E s:=by
 unfold letOwnedTupleGo;cases tg<;>first
  |exact j4 hQ
  |(cases u<;>first
     |exact j4 hQ
     | (refine j0 (wpAny_load ho ?_)
        rw[hc,hd];show wpAny M A (if(["enumerate","zip","dict_itemiterator","dict_reverseitemiterator","odict_iterator","itertools.zip_longest","itertools.pairwise"].contains n&&vs[0]? ==some (rawInt _))=true then _ else _) Q E s;rw[if_neg (by intro h;rw[hn,Bool.false_and]at h;cases h)];exact j4 hQ))
def yH(K:au)(a:Addr):It:=
 ⟨λi H=>∃xs x,SqL K H a xs/\xs[i]? =some x,λi H x H'=>H'=H/\∀xs,SqL K H a xs->xs[i]? =some x,λi H=>∃xs,SqL K H a xs/\xs.length<=i⟩
def yG(K:au)(a:Addr):It:=
 ⟨λi H=>∃xs x,SqT K H a xs/\xs[i]? =some x,λi H x H'=>H'=H/\∀xs,SqT K H a xs->xs[i]? =some x,λi H=>∃xs,SqT K H a xs/\xs.length<=i⟩
def ug(lo:Int)(n:Nat):It:=⟨λi _=>i<n,λi H x H'=>H'=H/\x=.int (lo+i),λi _=>n<=i⟩
theorem qfk{P:Program}{w:World}{K:au}{tg:Expr}(a it:Addr):Turn P w K tg (yH K a) [it] it (λi h=>h.IsListIter it a i) where
 mem:=by simp
 obj:=λi h st b hb=>by
  have e:b=it:=by simpa using hb
  subst e;obtain⟨o,e,c,d⟩:=st;exact⟨o,e,λv z=>by rw[d]at z;cases z⟩
 keep:=λi h h' st k=>st.at λo e=>k it (by simp) o e
 item:=by intro X hP hw hK hc i z5 s σ H E I hf st hg;subst hP hw hK;obtain⟨xs,x,hq,hx⟩:=hg;obtain⟨its,rv,p,hz⟩:=I.list hq;obtain⟨u,hu,ru⟩:=rv.get hx;obtain⟨f0,f1,f2,f3,f4,f5⟩:=hf it (by simp);refine wpAny_pyNext_list_item st p.isList (x:=u) (by simpa using hu) λh' st' sb=>?_;have I1:Inv X z5 σ H {s with heap:=h'}:=I.turned (t':=s.toks) (λb o hb e=>(sb.2 b hb).trans e) f0 f1 f3 f4 f5;obtain⟨o,e,c,d⟩:=id st';exact⟨u,rfl,o9 (s:={s with heap:=h'}) e c d (by decide) ⟨x,H,I1,ru,⟨rfl,λys hy=>by rw[I.list_inj hy hq];exact hx⟩,st',λb hb=>(hf b hb).1⟩⟩
 done:=by intro X hP hw hK hc i z5 s σ H E I hf st hg;subst hP hw hK;obtain⟨xs,hq,hx⟩:=hg;obtain⟨its,rv,p,hz⟩:=I.list hq;obtain⟨f0,f1,f2,f3,f4,f5⟩:=hf it (by simp);have hl:=rv.length;exact wpAny_pyNext_list_end (I.ok.hd hc) st p.isList (by simp;omega) λh' eb=>⟨rfl,I.turned (t':=s.toks) (λb o hb e=>eb b o hb e) f0 f1 f3 f4 f5⟩
 self:=λ_ _ _ _ _ st h=>wpAny_pyIter_listiter st h
theorem qe1{P:Program}{w:World}{K:au}{tg:Expr}(a it:Addr):Turn P w K tg (yG K a) [it] it (λi h=>h.IsTupleIter it a i) where
 mem:=by simp
 obj:=λi h st b hb=>by
  have e:b=it:=by simpa using hb
  subst e;obtain⟨o,e,c,d⟩:=st;exact⟨o,e,λv z=>by rw[d]at z;cases z⟩
 keep:=λi h h' st k=>st.at λo e=>k it (by simp) o e
 item:=by intro X hP hw hK hc i z5 s σ H E I hf st hg;subst hP hw hK;obtain⟨xs,x,hq,hx⟩:=hg;obtain⟨its,rv,p,hz⟩:=I.tuple hq;obtain⟨u,hu,ru⟩:=rv.get hx;obtain⟨f0,f1,f2,f3,f4,f5⟩:=hf it (by simp);refine wpAny_pyNext_tuple_item st (show s.heap.IsTuple a its.toArray from p) (x:=u) (by simpa using hu) λh' st' sb=>?_;have I1:Inv X z5 σ H {s with heap:=h'}:=I.turned (t':=s.toks) (λb o hb e=>(sb.2 b hb).trans e) f0 f1 f3 f4 f5;obtain⟨o,e,c,d⟩:=id st';exact⟨u,rfl,o9 (s:={s with heap:=h'}) e c d (by decide) ⟨x,H,I1,ru,⟨rfl,λys hy=>by rw[I.tuple_inj hy hq];exact hx⟩,st',λb hb=>(hf b hb).1⟩⟩
 done:=by intro X hP hw hK hc i z5 s σ H E I hf st hg;subst hP hw hK;obtain⟨xs,hq,hx⟩:=hg;obtain⟨its,rv,p,hz⟩:=I.tuple hq;obtain⟨f0,f1,f2,f3,f4,f5⟩:=hf it (by simp);have hl:=rv.length;exact wpAny_pyNext_tuple_end (I.ok.hd hc) st (show s.heap.IsTuple a its.toArray from p) (by simp;omega) λh' eb=>⟨rfl,I.turned (t':=s.toks) (λb o hb e=>eb b o hb e) f0 f1 f3 f4 f5⟩
 self:=λ_ _ _ _ _ st h=>wpAny_pyIter_tupleiter st h
theorem qe2{P:Program}{w:World}{K:au}{tg:Expr}{it:Addr}(lo:Int)(n:Nat):Turn P w K tg (ug lo n) [it] it (λi h=>IsRangeIter h it (lo+(i:Nat)*1) ((n:Int)-(i:Nat)) 1) where
 mem:=by simp
 obj:=λi h st b hb=>by
  have e:b=it:=by simpa using hb
  subst e;exact⟨_,st,λv z=>by have z':Data.fields _=Data.cell v:=z;cases z'⟩
 keep:=λi h h' st k=>k it (by simp) _ st
 item:=by intro X hP hw hK hc i z5 s σ H E I hf st hg;subst hP hw hK;obtain⟨f0,f1,f2,f3,f4,f5⟩:=hf it (by simp);have W:=Walks.range (prog:=X.prog) (w:=X.w) (I.ok.hd hc) it lo 1 n;refine W.item i s _ _ hg st λv h' tk hv st' kk=>?_;obtain⟨t,rfl⟩:=hv;have I1:Inv X z5 σ H {s with heap:=h',toks:=tk}:=I.turned (λb o hb e=>kk b o (by simpa using hb) e) f0 f1 f3 f4 f5;refine⟨_,rfl,o9 (s:={s with heap:=h',toks:=tk}) (n:="range_iterator") st' rfl rfl (by decide) ⟨.int (lo+i),H,I1,⟨t,?_⟩,⟨rfl,rfl⟩,st',λb hb=>(hf b hb).1⟩⟩;rw[Int.mul_one]
 done:=by intro X hP hw hK hc i z5 s σ H E I hf st hg;subst hP hw hK;obtain⟨f0,f1,f2,f3,f4,f5⟩:=hf it (by simp);exact wpAny_pyNext_range_end (I.ok.hd hc) st (by have:n<=i:=hg;omega) λh' eb=>⟨rfl,I.turned (t':=s.toks) (λb o hb e=>eb b o hb e) f0 f1 f3 f4 f5⟩
 self:=λ_ _ _ _ _ st h=>wpAny_pyIter_rangeiter st h
section
variable{X:Cx}{tg:Expr}
def u9(K:au)(tl:TE):TI:=λσ H R=>tl σ H λx H1=>∃a,x=.ref a/\(∃xs,SqL K H1 a xs)/\R (yH K a) H1
def nw(K:au)(tl:TE):TI:=λσ H R=>tl σ H λx H1=>∃a,x=.ref a/\(∃xs,SqT K H1 a xs)/\R (yG K a) H1
theorem qnr{l:Expr}{tl:TE}(hl:PE X l tl):PI X tg l (u9 X.K tl):=by
 intro z5 s σ H R I h;refine bd (hl z5 s σ H _ I h) λv s1 ⟨x,H1,I1,r1,q1⟩=>?_;obtain⟨a,e,⟨xs,hq⟩,q⟩:=q1;subst e;cases r1;obtain⟨its,rv,p,hz⟩:=I1.list hq;refine wpAny_pyIter_list p.isList ?_;refine⟨s1.heap.objs.size,[s1.heap.objs.size],_,_,H1,rfl,I1.kept (t':=s1.toks) λb o e=>j6 _ e,qfk a _,⟨_,jj _ rfl,rfl,rfl⟩,λb hb=>?_,q⟩;have e:b=s1.heap.objs.size:=by simpa using hb
 subst e;exact I1.fpOk (j7 _) (I1.hok.fresh (j7 _))
theorem qrw{l:Expr}{tl:TE}(hl:PE X l tl):PI X tg l (nw X.K tl):=by
 intro z5 s σ H R I h;refine bd (hl z5 s σ H _ I h) λv s1 ⟨x,H1,I1,r1,q1⟩=>?_;obtain⟨a,e,⟨xs,hq⟩,q⟩:=q1;subst e;cases r1;obtain⟨its,rv,p,hz⟩:=I1.tuple hq;refine wpAny_pyIter_tuple (show s1.heap.IsTuple a its.toArray from p) ?_;refine⟨s1.heap.objs.size,[s1.heap.objs.size],_,_,H1,rfl,I1.kept (t':=s1.toks) λb o e=>j6 _ e,qe1 a _,⟨_,jj _ rfl,rfl,rfl⟩,λb hb=>?_,q⟩;have e:b=s1.heap.objs.size:=by simpa using hb
 subst e;exact I1.fpOk (j7 _) (I1.hok.fresh (j7 _))
theorem qjq{z5:List (Addr×Obj)}{σ:St}{H:Hp}{s:Shared}{R:It->Hp->Prop}{E:Value->Shared->Prop}{lo hi:Int}{t u v:Tok}{tk:Nat}(I:Inv X z5 σ H s)(h1: -(2^62)<=lo)(h2:lo<2^62)(h3: -(2^62)<=hi)(h4:hi<2^62)
 (q:R (ug lo (hi-lo).toNat) H):wpAny (model X.prog X.w) X.A (pyIter (.ref s.heap.objs.size)) (GB X z5 σ tg R) E {s with heap:=s.heap.push {cls:=.type "range",data:=.fields #[.int lo t,.int hi u,.int 1 v]},toks:=tk}:=by
 refine wpAny_pyIter_range (IsRange.new ..) (small_one h1 h2 h3 h4) ?_;have I1:Inv X z5 σ H {s with heap:=s.heap.push {cls:=.type "range",data:=.fields #[.int lo t,.int hi u,.int 1 v]},toks:=tk}:=I.kept λb o e=>j6 _ e;refine⟨(s.heap.push {cls:=.type "range",data:=.fields #[.int lo t,.int hi u,.int 1 v]}).objs.size,[(s.heap.push {cls:=.type "range",data:=.fields #[.int lo t,.int hi u,.int 1 v]}).objs.size],_,_,H,rfl,
  I1.kept (t':=tk) λb o e=>j6 _ e,qe2 lo (hi-lo).toNat,?_,λb hb=>?_,q⟩
 ·have e1:lo+((0:Nat):Int)*1=lo:=by simp
  have e2:(((hi-lo).toNat:Nat):Int)-((0:Nat):Int)=Builtin.Range.rangeSize lo hi 1:=by rw[rangeSize_one];split<;>omega
  show IsRangeIter _ _ (lo+((0:Nat):Int)*1) ((((hi-lo).toNat:Nat):Int)-((0:Nat):Int)) 1;rw[e1,e2];exact jj _ rfl
 ·have e:b=(s.heap.push {cls:=.type "range",data:=.fields #[.int lo t,.int hi u,.int 1 v]}).objs.size:=by simpa using hb
  subst e;exact I1.fpOk (j7 _) (I1.hok.fresh (j7 _))
def Cg(ta:TA):TI:=λσ H R=>ta σ H λvs H1=>∃j:Int,vs=[.int j]/\ -(2^62)<=j/\j<2^62/\R (ug 0 j.toNat) H1
theorem iC{a:Expr}{ta:TA}{p pos:Pos}(hg:Gl X "range")(hm:X.mg "range"=none)(ha:PA X [a] ta)(hs:starEach [a] X.env=[(false,eval a X.env)]:=by rfl):PI X tg (.Call (.Name "range" p) [a] [] pos) (Cg ta):=by
 intro z5 s σ H R I h;refine Call_ (iw I hg hm boot_range (PyProof.Rows.callWith_type1 (bd (ha pos z5 s σ H _ I h) λus s1 ⟨vs,H1,I1,r1,q1⟩=>?_) hs rfl));obtain⟨j,e,q1,q2,q⟩:=q1;subst e;cases r1 with
 | cons r rr=>
  cases rr;obtain⟨t,rfl⟩:=r;exact call_range_1 (qjq I1 (by omega) (by omega) q1 q2 (by simpa using q))
def mX(wi:TI)(g:TG)(tb:TS):TS:=λD σ H=>wi σ H λJ H1=>∃W:Nat->Nat->St->Hp->Prop,(∃m,W 0 m σ H1)/\∀i m σ H,W i m σ H->
 (J.stop i H/\D.nx σ H)∨(J.go i H/\∃N:St->Hp->Prop,(∀σ' H',N σ' H'->∃m',m'<m/\W (i+1) m' σ' H')/\∀x H',J.yld i H x H'->g x σ H' λσ2 H2=>tb {D with nx:=N,ct:=N,bk:=D.nx} σ2 H2)
def pU(fp:List Addr)(h:Heap):List (Addr×Obj):=fp.filterMap λb=>(h.get? b).map λo=>(b,o)
theorem t6{fp:List Addr}{h:Heap}{b:Addr}{o:Obj}(hb:b∈fp)(e:h.get? b=some o):(b,o)∈pU fp h:=List.mem_filterMap.mpr ⟨b,hb,by rw[e];rfl⟩
theorem qhf{fp:List Addr}{h:Heap}{p:Addr×Obj}(hp:p∈pU fp h):p.1∈fp/\h.get? p.1=some p.2:=by
 obtain⟨b,hb,e⟩:=List.mem_filterMap.mp hp;cases q:h.get? b with
 |none=>rw[q]at e;cases e
 | some o=>
  rw[q]at e;have e':(b,o)=p:=jb e;subst e';exact⟨hb,q⟩
theorem Inv.pinned{z5:List (Addr×Obj)}{σ:St}{H:Hp}{s:Shared}{fp:List Addr}(I:Inv X z5 σ H s)(hf:∀b∈fp,gy X z5 H b)(ho:∀b∈fp,∃o,s.heap.get? b=some o/\∀v,o.data≠.cell v):Inv X (z5++pU fp s.heap) σ H s:=
 I.pins_of λp hp=>(List.mem_append.mp hp).elim (λz=>I.pin p (ju _ z)) λz=>by obtain⟨hb,e⟩:=qhf z;obtain⟨f0,f1,f2,_⟩:=hf p.1 hb;obtain⟨o,e',d⟩:=ho p.1 hb;rw[e]at e';cases e';exact⟨e,f0,f1,f2,d⟩
theorem Inv.unpinned{z5 pl:List (Addr×Obj)}{σ:St}{H:Hp}{s:Shared}(I:Inv X (z5++pl) σ H s):Inv X z5 σ H s:=I.pins_of λp hp=>I.pin p (ju _ (List.mem_append_left _ hp))
theorem gL{zd:Expr}{body:List Stmt}{wi:TI}{g:TG}{tb:TS}{pos:Pos}(hp:PassesOwn (model X.prog X.w) X.A X.env X.xe)(hc:X.calm=true)(hi:PI X tg zd wi)(hg:PG X tg g)(hb:PSs X body tb)
 (hs:∀x,foldedSetIterable zd X.env x=pure x:=by intro _;rfl):PS X (.For tg zd body [] pos) (mX wi g tb):=by
 intro z5 s σ H D I h;refine wpAny_For (bd (hi z5 s σ H _ I h) λv s1 h1=>bd h1 λitv s2 h2=>?_) hs;obtain⟨it,fp,tn,J,H2,e,I2,T,st2,f2,W,⟨m0,w0⟩,turn⟩:=h2;subst e
 -- what stays true of the iterator's objects through the loop
 have stat:∀{H':Hp},(∀b∈fp,H' b=none)->∀b∈fp,gy X z5 H' b:=λhn b hb=>⟨hn b hb,(f2 b hb).2⟩;refine codeAny_forLoop_any (λn s'=>∃i σ' H',Inv X z5 σ' H' s'/\tn i s'.heap/\(∀b∈fp,H' b=none)/\W i n σ' H') ?_ m0 ⟨0,σ,H2,I2,st2,λb hb=>(f2 b hb).1,w0⟩;rintro n s3 ⟨i,σ3,H3,I3,st3,fr3,w3⟩;rcases turn i n σ3 H3 w3 with⟨stop,qn⟩|⟨go,N,hN,step⟩
 ·refine k7 hp (bd (T.done X rfl rfl rfl hc i z5 s3 σ3 H3 X.xe I3 (stat fr3) st3 stop) λr s4 ⟨hr,I4⟩=>?_);subst hr;exact wpAny_execs_nil ⟨σ3,H3,I4,qn⟩
 ·refine k7 hp (bd (T.item X rfl rfl rfl hc i z5 s3 σ3 H3 X.xe I3 (stat fr3) st3 go) λr s4 ⟨u,hr,h4⟩=>?_);subst hr;refine k7 hp (bd h4 λ_ s5 ⟨x,H5,I5,r5,y5,st5,fr5⟩=>?_);have I5':=I5.pinned (stat fr5) (T.obj _ _ st5);refine k7 hp (bd (hg _ s5 σ3 H5 x u _ I5' r5 (step x H5 y5)) λ_ s6 ⟨σ6,H6,I6,q6⟩=>?_);refine k7 hp (bd (hb _ s6 σ6 H6 _ I6 q6) λf s7 q7=>?_);have again:∀{σ7:St} {H7:Hp},Inv X (z5++pU fp s5.heap) σ7 H7 s7->N σ7 H7->∃m,m<n/\∃i σ' H',Inv X z5 σ' H' s7/\tn i s7.heap/\(∀b∈fp,H' b=none)/\W i m σ' H':=λ{σ7 H7} I7 n7=>by
   obtain⟨m',hm,w7⟩:=hN σ7 H7 n7;refine⟨m',hm,i+1,σ7,H7,I7.unpinned,T.keep _ _ _ st5 λb hb o e=>(I7.pin (b,o) (ju _ (ju _ (t6 hb e)))).1,λb hb=>?_,w7⟩;obtain⟨o,e,d⟩:=T.obj _ _ st5 b hb;exact(I7.pin (b,o) (ju _ (ju _ (t6 hb e)))).2.1
  cases f with
  |next=>obtain⟨σ7,H7,I7,n7⟩:=q7;exact again I7 n7
  |cont=>obtain⟨σ7,H7,I7,n7⟩:=q7;exact again I7 n7
  |brk=>obtain⟨σ7,H7,I7,q7⟩:=q7;exact⟨σ7,H7,I7.unpinned,q7⟩
  |ret v=>obtain⟨x7,σ7,H7,I7,r7,q7⟩:=q7;exact⟨x7,σ7,H7,I7.unpinned,r7,q7⟩
end
abbrev R2:=V->V->Hp->VK->Prop
def OpR(X:Cx)(f:Value->Value->Sem Value)(r:R2):Prop:=
 ∀(z5:List (Addr×Obj)) (s:Shared) (σ:St) (H:Hp) (x y:V) (v u:Value) (Q:VK),Inv X z5 σ H s->RelV x v->RelV y u->r x y H Q->
   wpAny (model X.prog X.w) X.A (f v u) (EP X z5 σ Q) X.xe s
def yE(X:Cx)(f:Value->Sem Value)(r:V->Hp->VK->Prop):Prop:=
 ∀(z5:List (Addr×Obj)) (s:Shared) (σ:St) (H:Hp) (x:V) (v:Value) (Q:VK),Inv X z5 σ H s->RelV x v->r x H Q->
   wpAny (model X.prog X.w) X.A (f v) (EP X z5 σ Q) X.xe s
def gB(X:Cx)(f:Value)(r:List V->Hp->VK->Prop):Prop:=
 ∀(z5:List (Addr×Obj)) (s:Shared) (σ:St) (H:Hp) (xs:List V) (us:List Value) (Q:VK),Inv X z5 σ H s->Vals xs us->r xs H Q->
   wpAny (model X.prog X.w) X.A (call f us) (EP X z5 σ Q) X.xe s
def jJ(r:R2)(ta tb:TE):TE:=λσ H Q=>ta σ H λx H1=>tb σ H1 λy H2=>r x y H2 Q
def B6(r:V->Hp->VK->Prop)(ta:TE):TE:=λσ H Q=>ta σ H λx H1=>r x H1 Q
def rI(C:Int->Int->Prop)(g:Int->Int->V):R2:=λx y H Q=>∃i j,x=.int i/\y=.int j/\C i j/\Q (g i j) H
def ip(g:Int->Int->V):R2:=λx y H Q=>∃i j,x=.int i/\y=.int j/\Q (g i j) H
def rU(g:Int->V):V->Hp->VK->Prop:=λx H Q=>∃i,x=.int i/\Q (g i) H
section
variable{X:Cx}{a b c:Expr}{ta tb tc:TE}{pos:Pos}
theorem nC(ha:PE X a ta)(hb:PE X b tb){z5:List (Addr×Obj)}{s:Shared}{σ:St}{H:Hp}{R:V->V->Hp->Prop}(I:Inv X z5 σ H s)
 (h:ta σ H λx H1=>tb σ H1 λy H2=>R x y H2) {Q:Value->Shared->Prop} {f:Value->Value->Sem Value}
 (hf:∀v u s2 x y H2,Inv X z5 σ H2 s2->RelV x v->RelV y u->R x y H2->wpAny (model X.prog X.w) X.A (f v u) Q X.xe s2):
 wpAny (model X.prog X.w) X.A (eval a X.env) (λv s₁=>wpAny (model X.prog X.w) X.A (eval b X.env) (λu s₂=>wpAny (model X.prog X.w) X.A (f v u) Q X.xe s₂) X.xe s₁) X.xe s:=by
 refine bd (ha z5 s σ H _ I h) λv s1 ⟨x,H1,I1,r1,q1⟩=>?_;refine bd (hb z5 s1 σ H1 _ I1 q1) λu s2 ⟨y,H2,I2,r2,q2⟩=>?_;exact hf v u s2 x y H2 I2 r1 r2 q2
theorem bQ{op:Operator}{r:R2}(ho:OpR X (binaryOp op) r)(ha:PE X a ta)(hb:PE X b tb):PE X (.BinOp a op b pos) (jJ r ta tb):=by intro z5 s σ H Q I h;exact wpAny_BinOp (nC ha hb I h λv u s2 x y H2 I2 rx ry q=>ho z5 s2 σ H2 x y v u Q I2 rx ry q)
theorem qvs{op:UnaryOp}{r:V->Hp->VK->Prop}(ho:yE X (unaryOp op) r)(ha:PE X a ta):PE X (.UnaryOp op a pos) (B6 r ta):=by intro z5 s σ H Q I h;exact UnaryOp_ (bd (ha z5 s σ H _ I h) λv s1 ⟨x,H1,I1,r1,q1⟩=>ho z5 s1 σ H1 x v Q I1 r1 q1)
theorem qj{f:Value->Value->Sem Value}{C:Int->Int->Prop}{g:Int->Int->Int}
 (rule:∀(i j:Int) (t u:Tok) (s:Shared) (Q:Value->Shared->Prop) (E:Value->Shared->Prop),C i j->Q (.int (g i j) s.toks) {s with toks:=s.toks+1}->wpAny (model X.prog X.w) X.A (f (.int i t) (.int j u)) Q E s):
 OpR X f (rI C λi j=>.int (g i j)):=by
 intro z5 s σ H x y v u Q I rx ry h;obtain⟨i,j,rfl,rfl,hc,q⟩:=h;obtain⟨t,rfl⟩:=rx;obtain⟨t',rfl⟩:=ry;exact rule i j t t' s _ _ hc ⟨.int (g i j),H,I.tok _,⟨_,rfl⟩,q⟩
theorem nj{f:Value->Value->Sem Value}{g:Int->Int->Int}
 (rule:∀(i j:Int) (t u:Tok) (s:Shared) (Q:Value->Shared->Prop) (E:Value->Shared->Prop),Q (.int (g i j) s.toks) {s with toks:=s.toks+1}->wpAny (model X.prog X.w) X.A (f (.int i t) (.int j u)) Q E s):
 OpR X f (ip λi j=>.int (g i j)):=by
 intro z5 s σ H x y v u Q I rx ry h;obtain⟨i,j,rfl,rfl,q⟩:=h;obtain⟨t,rfl⟩:=rx;obtain⟨t',rfl⟩:=ry;exact rule i j t t' s _ _ ⟨.int (g i j),H,I.tok _,⟨_,rfl⟩,q⟩
theorem nq{f:Value->Value->Sem Value}{g:Int->Int->Bool}
 (rule:∀(i j:Int) (t u:Tok) (s:Shared) (Q:Value->Shared->Prop) (E:Value->Shared->Prop),Q (.bool (g i j)) s->wpAny (model X.prog X.w) X.A (f (.int i t) (.int j u)) Q E s):
 OpR X f (ip λi j=>.bl (g i j)):=by
 intro z5 s σ H x y v u Q I rx ry h;obtain⟨i,j,rfl,rfl,q⟩:=h;obtain⟨t,rfl⟩:=rx;obtain⟨t',rfl⟩:=ry;exact rule i j t t' s _ _ ⟨.bl (g i j),H,I,rfl,q⟩
def rj(i j:Int):Prop:=0<j/\j<1073741824
def lG(i j:Int):Prop:=0<=j/\j<=1000000/\i.natAbs<2^64
def CMul(i j:Int):Prop:=(-(2^64)<i/\i<2^64)∨(-(2^64)<j/\j<2^64)
theorem CMul.ok{i j:Int}(h:CMul i j):IntMulOk i j:=by
 rcases h with⟨h1,h2⟩|⟨h1,h2⟩
 ·exact .of_left (intBits_le_64 h1 h2)
 ·exact .of_right (intBits_le_64 h1 h2)
theorem op_add:OpR X (binaryOp .Add) (ip λi j=>.int (i+j)):=nj λ_ _ _ _ _ _ _ q=>add_int q
theorem wQ:OpR X (binaryOp .FloorDiv) (rI rj λi j=>.int (i / j)):=qj λi j _ _ _ _ _ hc q=>by have h1:(0:Int)<j:=hc.1;have h2:j<1073741824:=hc.2;exact floordiv_int (by omega) (by rw[Int.fdiv_eq_ediv_of_nonneg i (by omega)];exact q) (.inl (PyProof.noPylong_small (by omega)))
theorem iY:OpR X (binaryOp .Mod) (rI (λ_ j=>0<j) λi j=>.int (i % j)):=qj λi j _ _ _ _ _ hc q=>by have h1:(0:Int)<j:=hc;exact mod_int' (by omega) (by rw[Int.fmod_eq_emod_of_nonneg i (by omega)];exact q)
theorem DD:OpR X (binaryOp .Pow) (rI lG λi j=>.int (i^j.toNat)):=qj λ_ _ _ _ _ _ _ hc q=>pow_int_small hc.1 hc.2.1 hc.2.2 q
theorem pT:OpR X (binaryOp .LShift) (rI lG λi j=>.int (i*2^j.toNat)):=qj λ_ _ _ _ _ _ _ hc q=>lshift_int_small hc.1 hc.2.1 hc.2.2 q
theorem vV:OpR X (binaryOp .BitAnd) (ip λi j=>.int (Builtin.bitAnd i j)):=nj λ_ _ _ _ _ _ _ q=>and_int q
theorem vX:OpR X (binaryOp .BitXor) (ip λi j=>.int (Builtin.bitXor i j)):=nj λ_ _ _ _ _ _ _ q=>xor_int q
theorem unI{f:Value->Sem Value}{g:Int->Int}
 (rule:∀(i:Int) (t:Tok) (s:Shared) (Q:Value->Shared->Prop) (E:Value->Shared->Prop),Q (.int (g i) s.toks) {s with toks:=s.toks+1}->wpAny (model X.prog X.w) X.A (f (.int i t)) Q E s):
 yE X f (rU λi=>.int (g i)):=by
 intro z5 s σ H x v Q I rx h;obtain⟨i,rfl,q⟩:=h;obtain⟨t,rfl⟩:=rx;exact rule i t s _ _ ⟨.int (g i),H,I.tok _,⟨_,rfl⟩,q⟩
theorem qqe:yE X (unaryOp .USub) (rU λi=>.int (-i)):=unI λ_ _ _ _ _ q=>neg_int q
end
section
variable{X:Cx}{a b c:Expr}{ta tb tc:TE}{pos:Pos}
theorem Dj{z5:List (Addr×Obj)}{σ:St}{H:Hp}{s:Shared}{Q:VK}{k k':Bool}(I:Inv X z5 σ H s)(q:Q (.bl k) H)(e:k=k'):EP X z5 σ Q (.bool k') s:=by subst e;exact⟨.bl k,H,I,rfl,q⟩
theorem pi:OpR X (compareOp .Lt) (ip λi j=>.bl (decide (i<j))):=nq λ_ _ _ _ _ _ _ q=>lt_int q
theorem CD:OpR X (compareOp .LtE) (ip λi j=>.bl (decide (i<=j))):=nq λ_ _ _ _ _ _ _ q=>le_int q
theorem si:OpR X (compareOp .Gt) (ip λi j=>.bl (decide (j<i))):=nq λ_ _ _ _ _ _ _ q=>gt_int q
theorem vW:OpR X (compareOp .Is) (λx y H Q=>y=.non/\Q (.bl (decide (x=.non))) H):=by
 intro z5 s σ H x y v u Q I rx ry h;obtain⟨rfl,q⟩:=h;cases ry;refine is_none_gen (Dj I q ?_);cases x<;>first
  |(cases rx;rfl)
  |(obtain⟨t,rfl⟩:=rx;rfl)
theorem wR:OpR X (compareOp .IsNot) (λx y H Q=>y=.non/\Q (.bl (!decide (x=.non))) H):=by
 intro z5 s σ H x y v u Q I rx ry h;obtain⟨rfl,q⟩:=h;cases ry;refine isnot_none_gen (Dj I q ?_);cases x<;>first
  |(cases rx;rfl)
  |(obtain⟨t,rfl⟩:=rx;rfl)
theorem OpR.or{f:Value->Value->Sem Value}{r r':R2}(h:OpR X f r)(h':OpR X f r'):OpR X f (λx y H Q=>r x y H Q∨r' x y H Q):=by
 intro z5 s σ H x y v u Q I rx ry q;rcases q with q|q
 ·exact h z5 s σ H x y v u Q I rx ry q
 ·exact h' z5 s σ H x y v u Q I rx ry q
theorem c8{b:Expr}{op:CmpOp}(h:op≠.In:=by decide)(h2:op≠.NotIn:=by decide):behindInMarks op b=false:=by
 have e1:(op==CmpOp.In)=false:=by cases op<;>first|rfl|exact absurd rfl h
 have e2:(op==CmpOp.NotIn)=false:=by cases op<;>first|rfl|exact absurd rfl h2
 cases b<;>simp[behindInMarks,e1,e2]
theorem wW{op:CmpOp}{r:R2}(ho:OpR X (compareOp op) r)(ha:PE X a ta)(hb:PE X b tb)(hm:behindInMarks op b=false):PE X (.Compare a [op] [b] pos) (jJ r ta tb):=by intro z5 s σ H Q I h;exact wpAny_Compare1 (nC ha hb I h λv u s2 x y H2 I2 rx ry q=>ho z5 s2 σ H2 x y v u Q I2 rx ry q) hm
def C1(t:TE):TT:=λσ H Q=>t σ H λx H'=>∃k,x=.bl k/\Q k H'
theorem df{op:CmpOp}{r:R2}(ho:OpR X (compareOp op) r)(ha:PE X a ta)(hb:PE X b tb)(hm:behindInMarks op b=false):PT X (.Compare a [op] [b] pos) (C1 (jJ r ta tb)):=by
 intro z5 s σ H Q I h;refine wpAny_isTrue_Compare1 (bd (ha z5 s σ H _ I h) λv s1 ⟨x,H1,I1,r1,q1⟩=>bd (hb z5 s1 σ H1 _ I1 q1) λu s2 ⟨y,H2,I2,r2,q2⟩=>
  bd (ho z5 s2 σ H2 x y v u _ I2 r1 r2 q2) λc s3 ⟨z,H3,I3,r3,k,e,q3⟩=>?_) hm
 subst e;cases r3;exact k6 ⟨H3,I3,q3⟩
def DQ(r r':R2)(ta tb tc:TE):TE:=λσ H Q=>ta σ H λx H1=>tb σ H1 λy H2=>r x y H2 λz H3=>∃k,z=.bl k/\
 (if k=true then tc σ H3 λw' H4=>r' y w' H4 Q else Q (.bl false) H3)
theorem qjw{op op':CmpOp}{r r':R2}(ho:OpR X (compareOp op) r)(ho':OpR X (compareOp op') r')(ha:PE X a ta)(hb:PE X b tb)(hc:PE X c tc)
 (hm:lastMarks [op,op'] [b,c]=false:=by with_unfolding_all rfl):PE X (.Compare a [op,op'] [b,c] pos) (DQ r r' ta tb tc):=by
 intro z5 s σ H Q I h;refine Compare_chain (bd (ha z5 s σ H _ I h) λv s1 ⟨x,H1,I1,r1,q1⟩=>chain_link (bd (hb z5 s1 σ H1 _ I1 q1) λu s2 ⟨y,H2,I2,r2,q2⟩=>
  bd (ho z5 s2 σ H2 x y v u _ I2 r1 r2 q2) λd s3 ⟨z,H3,I3,r3,k,e,q3⟩=>?_)) hm
 subst e;cases r3;refine k6 ?_;cases k with
 |false=>exact ite_ff ⟨.bl false,H3,I3,rfl,q3⟩
 |true=>exact ite_tt (chain_last (bd (hc z5 s3 σ H3 _ I3 q3) λw' s4 ⟨z',H4,I4,r4,q4⟩=>ho' z5 s4 σ H4 y z' u w' Q I4 r2 r4 q4))
theorem pO:(sizeLine:Nat)<2^63:=by rw[sizeLine_eq];decide
theorem qeo:OpR X (binaryOp .Add) (λx y H Q=>∃i j,x=.str i/\y=.str j/\i.length+j.length<=sizeLine/\Q (.str (i++j)) H):=by intro z5 s σ H x y v u Q I rx ry h;obtain⟨i,j,rfl,rfl,hz,q⟩:=h;obtain⟨t,rfl⟩:=rx;obtain⟨t',rfl⟩:=ry;exact add_str (λt' tk=>⟨.str (i++j),H,I.tok _,⟨_,rfl⟩,q⟩) hz
theorem cQ{x:V}{us:List Value}(r:Vals [x] us):∃u,us=[u]/\RelV x u:=by
 cases r with
 |cons r1 r2=>cases r2;exact⟨_,rfl,r1⟩
theorem fM{x y:V}{us:List Value}(r:Vals [x,y] us):∃u w',us=[u,w']/\RelV x u/\RelV y w':=by
 cases r with
 | cons r1 r2=>
  cases r2 with
  |cons r3 r4=>cases r4;exact⟨_,_,rfl,r1,r3⟩
theorem qit(hc:X.calm=true):gB X (.builtin "max") (λxs H Q=>∃i j,xs=[.int i,.int j]/\Q (.int (if j>i then j else i)) H):=by
 intro z5 s σ H xs us Q I r h;obtain⟨i,j,rfl,q⟩:=h;obtain⟨u,w',rfl,⟨t,rfl⟩,⟨t',rfl⟩⟩:=fM r;refine max_two_ints (I.ok.hd hc) λh' tk k=>⟨_,H,I.kept k,?_,q⟩;by_cases hj:j>i
 ·rw[if_pos hj,if_pos hj];exact⟨_,rfl⟩
 ·rw[if_neg hj,if_neg hj];exact⟨_,rfl⟩
theorem Fm(hc:X.calm=true):gB X (.builtin "min") (λxs H Q=>∃i j,xs=[.int i,.int j]/\Q (.int (if j<i then j else i)) H):=by
 intro z5 s σ H xs us Q I r h;obtain⟨i,j,rfl,q⟩:=h;obtain⟨u,w',rfl,⟨t,rfl⟩,⟨t',rfl⟩⟩:=fM r;refine min_two_ints (I.ok.hd hc) λh' tk k=>⟨_,H,I.kept k,?_,q⟩;by_cases hj:j<i
 ·rw[if_pos hj,if_pos hj];exact⟨_,rfl⟩
 ·rw[if_neg hj,if_neg hj];exact⟨_,rfl⟩
theorem Fl:gB X (.type "int") (λxs H Q=>(∃i,xs=[.int i]/\Q (.int i) H)∨∃k,xs=[.bl k]/\Q (.int (if k then 1 else 0)) H):=by
 intro z5 s σ H xs us Q I r h;rcases h with⟨i,rfl,q⟩|⟨k,rfl,q⟩
 ·obtain⟨u,rfl,t,rfl⟩:=cQ r;exact call_int_int ⟨.int i,H,I,⟨_,rfl⟩,q⟩
 ·obtain⟨u,rfl,r1⟩:=cQ r;cases r1;exact call_int_bool ⟨.int (if k then 1 else 0),H,I.tok _,⟨_,rfl⟩,q⟩
end
structure ObjM(h:Heap)(x dx C:Addr)(mA:Str->Option Value):Prop where
 obj:h.get? x=some (W.instObj C dx)
 ns:h.Ns1 dx mA
 ne:dx≠x
theorem qhy{h:Heap}{dx:Addr}{mA:Str->Option Value}(n:h.Ns1 dx mA):∃od,h.get? dx=some od/\∀name,W.lookIn name od=some (mA name):=by
 obtain⟨o,es,ep,ho,hd,hk,_,hm⟩:=n;refine⟨o,ho,λname=>?_⟩;have e:=hm name;unfold nsFind findBy at e;rw[<-Array.find?_toList]at e;unfold W.lookIn;rw[hd];dsimp only;split
 ·rename_i y q;rw[q]at e;exact congrArg some e
 ·rename_i q;rw[q]at e;have a:es.toList.any (·.refKey)=false:=by
   rw[List.any_eq_false];intro y hy;obtain⟨z,t,hkey⟩:=hk y (Array.mem_toList_iff.mp hy);simp[DictEntry.refKey,hkey]
  have a':¬es.toList.any (·.refKey)=true:=by rw[a];exact Bool.false_ne_true
  rw[if_neg a'];exact congrArg some e
theorem ObjM.look{h:Heap}{x dx C:Addr}{mA:Str->Option Value}(I:ObjM h x dx C mA):∃od,W.InstAt h x (W.instObj C dx) C (some od)/\∀name,W.lookIn name od=some (mA name):=
 let ⟨od,ho,hl⟩:=qhy I.ns
 ⟨od,⟨I.obj,rfl,rfl,ho⟩,hl⟩
section
variable{prog:Program}{w:World}{A:Around}{E:Value->Shared->Prop}{s:Shared}{K:au}{x dx C f:Addr}{mA:Str->Option Value}{name:Str}{v:Value}
theorem lK{expr:Bool}{Q:Value->Shared->Prop}(X:K.In s.heap)(I:ObjM s.heap x dx C mA)(hg:W.plainGet K C name=true)(hh:W.hasDictIn K C=true)
 (ha:W.findIn K (.ref C) name=some none) (hv:mA name=some v) (hv':W.handedIn v=true) (h:Q v {s with toks:=s.toks+1}):
 wpAny (model prog w) A (getAttr (.ref x) name expr) Q E s:=by
 obtain⟨od,J,hl⟩:=I.look;exact W.get_value X J (W.plainGet_of hg).1 (W.findObj_own hh ha rfl (by rw[hl,hv])) hv' h
theorem qkp{pl:Sem Bool}{Q:Value×List Value->Shared->Prop}(X:K.In s.heap)(I:ObjM s.heap x dx C mA)(hg:W.plainGet K C name=true)
 (hf:W.findIn K (.ref C) name=some (some (.ref f))) (ht:W.isFn K (.ref f)=true) (hv:mA name=none) (h:Q (.ref f,[.ref x]) s):
 wpAny (model prog w) A (getMethod (.ref x) name pl) Q E s:=by
 obtain⟨od,J,hl⟩:=I.look;exact W.method_fn X J (W.plainGet_of hg).1 (W.plainGet_of hg).2 hf (beq_iff_eq.mp ht) (by show(W.lookIn name od).map (·.isSome)=some false;rw[hl,hv];rfl) h
theorem qni{ns:List Str}{Q:Unit->Shared->Prop}(X:K.In s.heap)(I:ObjM s.heap x dx C mA)
 (hs:W.findIn K (.ref C) "__setattr__"=some (some (.builtin "object.__setattr__"))) (hp:W.plainOver K C=true) (ht:W.takerIn K C name=some none) (hh:W.hasDictIn K C=true)
 (hw:PySem.Within mA ns) (hsz:ns.length<=sizeLine)
 (h:∀h',ObjM h' x dx C (λy=>if y=name then some v else mA y)->Heap.SameBut dx s.heap h'->Q () {s with heap:=h',toks:=s.toks+2}):
 wpAny (model prog w) A (setAttr (.ref x) name v) Q E s:=by
 obtain⟨od,J,hl⟩:=I.look;refine W.set_plain X J hs (W.osa_open (s:={s with toks:=s.toks+1}) (r:=none) X J hp ht λb=>?_);obtain⟨cd,hc,hd'⟩:=W.any_some hh;have hx:s.heap.get? x=some ⟨.ref C,some dx,.plain,#[]⟩:=I.obj;refine j0 (j4 (j0 (j0 (wpAny_loadPart hx (j0 (W.Looks.here (s:={s with toks:=s.toks+1}) (W.looks_clsIn X hc) ?_))))));rw[hd'];refine j4 (a:=some dx) (j0 (j4 (j0 ?_)));refine wpAny_nsSet1 (s:={s with toks:=s.toks+1}) I.ns λh' hn2 hs2=>?_;obtain⟨oD,esD,epD,hoD,hdD,hcD⟩:=hn2.count (PySem.Within.cons name v hw);refine j0 (wpAny_lookBehind hoD (by rw[hdD];exact pastItsLine_dict (jr hcD (by rw[jl];omega))) ?_);exact j4 (h _ ⟨(hs2.2 _ (Ne.symm I.ne)).trans I.obj,hn2,I.ne⟩ hs2)
theorem qkb{R:Result->Shared->Prop}{vs:List Value}{kw:List (Str×Value)}(X:K.In s.heap)(hm:W.makesIn K C=true)
 (hi:W.findIn K (.ref C) "__init__"=some (some (.ref f))) (hf:W.typeIn K (.ref f)=some (.type "function"))
 (h:codeAny (model prog w) (A.under (.builtin "type.__call__" ⟨.ref C::vs,kw⟩)) (.call (.ref f) ⟨.ref (s.heap.objs.size+1)::vs,kw⟩) (W.InitBack (s.heap.objs.size+1) R)
   {s with heap:=(s.heap.push W.emptyDict).push (W.instObj C s.heap.objs.size)}):
 codeAny (model prog w) A (.call (.ref C) ⟨vs,kw⟩) R s:=by
 obtain⟨hh,g,d,t,os⟩:=s;exact W.make_core (W.makes_of X hm) (W.looks_findIn X hi) (λself=>W.bind_fn X self hf) (.inl rfl) h
theorem qht{R:Result->Shared->Prop}(X:K.In s.heap)(hm:W.makesIn K C=true)
 (hi:W.findIn K (.ref C) "__init__"=some (some (.builtin "object.__init__")))
 (hb:∀self,W.Looks (model prog w) s.heap (bindSpecial (.builtin "object.__init__") self) (.builtin "object.__init__",[self]))
 (h:codeAny (model prog w) (A.under (.builtin "type.__call__" ⟨[.ref C],[]⟩)) (.call (.builtin "object.__init__") ⟨[.ref (s.heap.objs.size+1)],[]⟩) (W.InitBack (s.heap.objs.size+1) R)
   {s with heap:=(s.heap.push W.emptyDict).push (W.instObj C s.heap.objs.size)}):
 codeAny (model prog w) A (.call (.ref C) ⟨[],[]⟩) R s:=by
 obtain⟨hh,g,d,t,os⟩:=s;exact W.make_core (W.makes_of X hm) (W.looks_findIn X hi) hb (.inr ⟨rfl,rfl⟩) h
end
def da(f:Str)(v:V):List (Str×V)->List (Str×V)
 |[]=>[(f,v)]
 |(g,x)::r=>if g=f then(g,v)::r else(g,x)::da f v r
theorem Gj(f g:Str)(v:V):∀fs:List (Str×V),(da f v fs).lookup g=if g=f then some v else fs.lookup g
 | []=>by
  show List.lookup g [(f,v)]=_;by_cases h:g=f
  ·have hb:(g==f)=true:=beq_iff_eq.mpr h;simp only[List.lookup,hb,if_pos h]
  ·have hb:(g==f)=false:=beq_eq_false_iff_ne.mpr h;simp only[List.lookup,hb,if_neg h]
 | (k,x)::r=>by
  have ih:=Gj f g v r;rw[show da f v ((k,x)::r)=(if k=f then(k,v)::r else(k,x)::da f v r)from rfl];by_cases hk:k=f
  ·rw[if_pos hk];by_cases h:g=k
   ·have hb:(g==k)=true:=beq_iff_eq.mpr h;simp only[List.lookup,hb,if_pos (h.trans hk)]
   ·have hb:(g==k)=false:=beq_eq_false_iff_ne.mpr h;simp only[List.lookup,hb,if_neg (λe:g=f=>h (e.trans hk.symm))]
  ·rw[if_neg hk];by_cases h:g=k
   ·have hb:(g==k)=true:=beq_iff_eq.mpr h;simp only[List.lookup,hb,if_neg (λe:g=f=>hk (h.symm.trans e))]
   ·have hb:(g==k)=false:=beq_eq_false_iff_ne.mpr h;simp only[List.lookup,hb];exact ih
theorem yd(f:Str)(v:V):∀fs:List (Str×V),f∈(da f v fs).map (·.1)/\∀g,g∈fs.map (·.1)->g∈(da f v fs).map (·.1)
 |[]=>⟨by simp[da],λg h=>by simp at h⟩
 | (k,x)::r=>by
  obtain⟨i1,i2⟩:=yd f v r;rw[show da f v ((k,x)::r)=(if k=f then(k,v)::r else(k,x)::da f v r)from rfl];by_cases hk:k=f
  ·rw[if_pos hk];subst hk;exact⟨by simp,λg h=>by simpa using h⟩
  ·rw[if_neg hk];refine⟨?_,λg h=>?_⟩
   ·rw[jo];exact j9 _ i1
   ·rw[jo]at h ⊢;rcases List.mem_cons.mp h with e|e
    ·exact List.mem_cons.mpr (.inl e)
    ·exact j9 _ (i2 g e)
theorem Gi(f:Str)(v:V):∀fs:List (Str×V),(da f v fs).length<=fs.length+1
 |[]=>by simp[da]
 | (k,x)::r=>by
  have ih:=Gi f v r;rw[show da f v ((k,x)::r)=(if k=f then(k,v)::r else(k,x)::da f v r)from rfl];by_cases hk:k=f
  ·rw[if_pos hk,jl,jl];omega
  ·rw[if_neg hk,jl,jl];omega
theorem RelO.some_of{v:V}{o:Option Value}(r:RelO (some v) o):∃u,o=some u/\RelV v u:=by
 cases o with
 |none=>exact(show False from r).elim
 |some u=>exact⟨u,rfl,r⟩
theorem RelO.none_of{o:Option Value}(r:RelO none o):o=none:=by
 cases o with
 |none=>rfl
 |some u=>exact(show False from r).elim
theorem qia{v:V}{u:Value}(r:RelV v u):W.handedIn u=true:=by
 cases v with
 |non=>cases(show u=Value.none from r);rfl
 |bl b=>cases(show u=Value.bool b from r);rfl
 |int i=>obtain⟨t,e⟩:=(show∃t,u=Value.int i t from r);cases e;rfl
 |str x=>obtain⟨t,e⟩:=(show∃t,u=Value.str x t from r);cases e;rfl
 |byt b=>obtain⟨t,e⟩:=(show∃t,u=Value.bytes b t from r);cases e;rfl
 |flt b=>obtain⟨t,e⟩:=(show∃t,u=Value.float b t from r);cases e;rfl
 |ref a=>cases(show u=Value.ref a from r);rfl
 |ty n=>cases(show u=Value.type n from r);rfl
section
variable{P:Program}{w:World}{H H':Hp}{h h':Heap}{a C dx:Addr}{fs fs':List (Str×V)}
theorem tu(hok:HOk P w H h)(e:H a=some (.ins C dx fs)):∃mA,ObjM h a dx C mA/\(∀f,RelO (fs.lookup f) (mA f))/\PySem.Within mA (fs.map (·.1))/\fs.length<=1000/\H dx=some (.own a):=by obtain⟨d,z,ne,ob,mA,n,r,q⟩:=(show ObjOk P w H h a (.ins C dx fs)from hok a _ e);exact⟨mA,⟨ob,n,ne⟩,r,q,z,d⟩
end
structure Cls(K:au)(C:Addr):Prop where
 pg:W.plainGet K C Str.empty=true
 hd:W.hasDictIn K C=true
 po:W.plainOver K C=true
 sa:W.findIn K (.ref C) "__setattr__"=some (some (.builtin "object.__setattr__"))
theorem Cls.get{K:au}{C:Addr}(c:Cls K C)(f:Str):W.plainGet K C f=true:=c.pg
def NoAttr(K:au)(C:Addr)(f:Str):Prop:=W.findIn K (.ref C) f=some none
theorem NoAttr.taker{K:au}{C:Addr}{f:Str}(n:NoAttr K C f):W.takerIn K C f=some none:=by unfold W.takerIn;rw[show W.findIn K (.ref C) f=some none from n];rfl
structure Con(K:au)(C:Addr)(f:Str)(v:V)(u:Value):Prop where
 at_:W.findIn K (.ref C) f=some (some u)
 rel:RelV v u
 get:W.specialIn K u "__get__"=some none
 cp:W.copiedNames.contains f=false
structure Meth(K:au)(C:Addr)(m:Str)(f:Addr):Prop where
 at_:W.findIn K (.ref C) m=some (some (.ref f))
 fn:W.isFn K (.ref f)=true
 kp:W.keepIn K (.ref f)=true
section
variable{X:Cx}{z5:List (Addr×Obj)}{σ:St}{H:Hp}{s:Shared}{a C dx:Addr}{fs:List (Str×V)}{f:Str}{v:V}{A:Around}{E:Value->Shared->Prop}
theorem qf1{b:Bool}{Q:Value->Shared->Prop}(I:Inv X z5 σ H s)(e:H a=some (.ins C dx fs))(c:Cls X.K C)(n:NoAttr X.K C f)(l:fs.lookup f=some v)
 (h:∀u s',Inv X z5 σ H s'->RelV v u->Q u s'):wpAny (model X.prog X.w) A (getAttr (.ref a) f b) Q E s:=by
 obtain⟨mA,O,r,_,_,_⟩:=tu I.hok e;obtain⟨u,hu,ru⟩:=RelO.some_of (v:=v) (o:=mA f) (by rw[<-l];exact r f);exact lK I.kIn O (c.get f) c.hd n hu (qia ru) (h u _ (I.tok _) ru)
theorem qf0{m:Str}{g:Addr}{pl:Sem Bool}{Q:Value×List Value->Shared->Prop}(I:Inv X z5 σ H s)(e:H a=some (.ins C dx fs))(c:Cls X.K C)(k:Meth X.K C m g)(l:fs.lookup m=none)
 (h:Q (.ref g,[.ref a]) s):wpAny (model X.prog X.w) A (getMethod (.ref a) m pl) Q E s:=by
 obtain⟨mA,O,r,_,_,_⟩:=tu I.hok e;have hn:mA m=none:=RelO.none_of (by rw[<-l];exact r m);exact qkp I.kIn O (c.get m) k.at_ k.fn hn h
theorem qe7{y:V}{u:Value}{Q:Unit->Shared->Prop}(I:Inv X z5 σ H s)(e:H a=some (.ins C dx fs))(c:Cls X.K C)(n:NoAttr X.K C f)(hl:fs.length<1000)(ry:RelV y u)
 (h:∀s',Inv X z5 σ (aP H a (.ins C dx (da f y fs))) s'->Q () s'):wpAny (model X.prog X.w) A (setAttr (.ref a) f u) Q E s:=by
 obtain⟨mA,O,r,wi,_,ho⟩:=tu I.hok e;have hz:(fs.map (·.1)).length<=sizeLine:=by rw[j3,sizeLine_eq];omega
 refine qni I.kIn O c.sa c.po n.taker c.hd wi hz λh' O' sb=>h _ ?_;have hd:∃o,h'.get? dx=some o:=let ⟨o,_,_,e',_⟩:=O'.ns;⟨o,e'⟩
 refine I.write (x:=a) (e:=dx) (by rw[e];exact True.intro) (.inr ho) (λb q hb z=>(sb.2 b hb).trans z) hd ?_;refine⟨by rw[aU O.ne];exact ho,?_,O.ne,O'.obj,_,O'.ns,λg=>?_,λg hg=>?_⟩
 ·have:=Gi f y fs;omega
 ·show RelO ((da f y fs).lookup g) (if g=f then some u else mA g);rw[Gj];by_cases q:g=f
  ·rw[if_pos q,if_pos q];exact ry
  ·rw[if_neg q,if_neg q];exact r g
 ·by_cases q:g=f
  ·rw[q];exact(yd f y fs).1
  ·refine(yd f y fs).2 g (wi g λz=>hg ?_);show(if g=f then some u else mA g)=none;rw[if_neg q];exact z
theorem Inv.made(I:Inv X z5 σ H s):Inv X z5 σ (aP (aP H s.heap.objs.size (.own (s.heap.objs.size+1))) (s.heap.objs.size+1) (.ins C s.heap.objs.size []))
 {s with heap:=(s.heap.push W.emptyDict).push (W.instObj C s.heap.objs.size)}:=by
 have e1:(s.heap.push W.emptyDict).get? s.heap.objs.size=some W.emptyDict:=jj s.heap rfl;have e2:((s.heap.push W.emptyDict).push (W.instObj C s.heap.objs.size)).get? (s.heap.objs.size+1)=some (W.instObj C s.heap.objs.size):=by
  have:=jj (s.heap.push W.emptyDict) (o:=W.instObj C s.heap.objs.size) rfl
  rwa [xg]at this
 have e3:(s.heap.push W.emptyDict).Ns s.heap.objs.size (λ_=>none):=⟨W.emptyDict,#[],_,e1,rfl,(λe he=>absurd he (by simp)),λ_=>rfl⟩;have I1:=I.laid (a:=s.heap.objs.size) (o:=.own (s.heap.objs.size+1)) (h':=s.heap.push W.emptyDict) (t':=s.toks) (λb u q=>j6 _ q) (j7 _) ⟨_,e1⟩;refine I1.laid (a:=s.heap.objs.size+1) (o:=.ins C s.heap.objs.size []) (t':=s.toks) (λb u q=>j6 _ q) (Nat.le_of_eq (xg _ _)) ?_;have ne:s.heap.objs.size≠s.heap.objs.size+1:=jh (Nat.lt_succ_self _);refine⟨by rw[aU ne,cM],Nat.zero_le _,ne,e2,λ_=>none,(Heap.Ns1.of_empty e3).at λo q=>j6 _ q,λ_=>True.intro,λy hy=>absurd rfl hy⟩
theorem qq3{prog:Program}{w:World}{env:Env}{e:Expr}{f:Str}{pos:Pos}{s:Shared}{Q:Value->Shared->Prop}(hb:attributeBase e f env (eval e env)=eval e env)
 (h:wpAny (model prog w) A (eval e env) (λo s₁=>wpAny (model prog w) A (getAttr o f true) Q E s₁) E s):wpAny (model prog w) A (eval (.Attribute e f pos) env) Q E s:=
 Attribute_any_ h (by rw[arm_eval_Attribute,hb])
end
def mY(K:au)(ta:TE)(f:Str):TE:=λσ H Q=>ta σ H λx H1=>∃a C dx fs v,x=.ref a/\H1 a=some (.ins C dx fs)/\Cls K C/\NoAttr K C f/\fs.lookup f=some v/\Q v H1
def zB(K:au)(ta tv:TE)(f:Str):TS:=λD σ H=>tv σ H λy H1=>ta σ H1 λx H2=>∃a C dx fs,x=.ref a/\H2 a=some (.ins C dx fs)/\Cls K C/\NoAttr K C f/\fs.length<1000/\
 D.nx σ (aP H2 a (.ins C dx (da f y fs)))
section
variable{X:Cx}{o e value:Expr}{f:Str}{pos zx tpos:Pos}{ta tv:TE}
theorem qs1(he:PE X e ta)(hb:attributeBase e f X.env (eval e X.env)=eval e X.env):PE X (.Attribute e f pos) (mY X.K ta f):=by intro z5 s σ H Q I h;refine qq3 hb (bd (he z5 s σ H _ I h) λu s1 ⟨x,H1,I1,rx,a,C,dx,fs,v,ex,ea,c,n,l,q⟩=>?_);subst ex;obtain rfl:u=Value.ref a:=rx;exact qf1 I1 ea c n l λu' s2 I2 ru=>⟨v,H1,I2,ru,q⟩
theorem v0(ha:PE X o ta)(hv:PE X value tv)(hs:swapsWith value (some (.Attribute o f zx)) pos.line X.env=pure false):PS X (.Assign [.Attribute o f zx] value pos) (zB X.K ta tv f):=by intro z5 s σ H D I h;refine plainObj_wpAny_Assign_Attribute (bd (hv z5 s σ H _ I h) λu s1 ⟨y,H1,I1,ry,q⟩=>bd (ha z5 s1 σ H1 _ I1 q) λov s2 ⟨x,H2,I2,rx,a,C,dx,fs,ex,ea,c,n,l,q2⟩=>?_) hs;subst ex;obtain rfl:ov=Value.ref a:=rx;exact qe7 I2 ea c n l ry λs3 I3=>⟨σ,_,I3,q2⟩
end
section
variable{X:Cx}{z5:List (Addr×Obj)}{σ:St}{H:Hp}{s:Shared}{A:Around}{E:Value->Shared->Prop}{Q:Value->Shared->Prop}{c:Value}{b:Bool}
inductive TyOf(K:au)(H:Hp):V->Value->Prop where
 |non:TyOf K H .non (.type "NoneType")
 |bl (x:Bool):TyOf K H (.bl x) (.type "bool")
 |int (i:Int):TyOf K H (.int i) (.type "int")
 |str (x:Str):TyOf K H (.str x) (.type "str")
 |flt (x:UInt64):TyOf K H (.flt x) (.type "float")
 |lst {a:Addr} {xs:List V} (e:H a=some (.lst xs)):TyOf K H (.ref a) (.type "list")
 |frz {a:Addr} {o:Obj} {xs:List V} (e:H a=some (.frz o (.lst xs))):TyOf K H (.ref a) (.type "list")
 |tup {a:Addr} {xs:List V} (e:H a=some (.tup xs)):TyOf K H (.ref a) (.type "tuple")
 |dK {a:Addr} {kvs:List (br×V)} (e:H a=some (.dK kvs)):TyOf K H (.ref a) (.type "dict")
 |dT {a:Addr} {kvs:List (List br×V)} (e:H a=some (.dT kvs)):TyOf K H (.ref a) (.type "dict")
 |ins {a C dx:Addr} {fs:List (Str×V)} (e:H a=some (.ins C dx fs)) (cl:Cls K C) (ha:W.findIn K (.ref C) "__class__"=some (some (.builtin "object.__class__")))
  (hn:W.specialIn K (.builtin "object.__class__") "__get__"=some (some (.builtin "getset_descriptor.__get__"))) (htk:W.takesIn K (.builtin "object.__class__")=some true)
  (hm:W.mroIn K C (.type "object")=some true):TyOf K H (.ref a) (.ref C)
theorem qi5{x:V}{u t:Value}(I:Inv X z5 σ H s)(rx:RelV x u)(ty:TyOf X.K H x t)(e:W.kitOne X.K t c=some b)(h:∀tk,Q (.bool b) {s with toks:=tk}):
 wpAny (model X.prog X.w) A (call (.builtin "isinstance") [u,c]) Q E s:=by
 cases ty with
 |non=>cases(show u=Value.none from rx);exact W.kia_one W.kitx_none I.kIn True.intro e (λz=>nomatch z) h
 |bl y=>cases(show u=Value.bool y from rx);exact W.kia_one W.kitx_bool I.kIn True.intro e (λz=>nomatch z) h
 |int i=>obtain⟨t,q⟩:=(show∃t,u=Value.int i t from rx);cases q;exact W.kia_one W.kitx_int I.kIn True.intro e (λz=>nomatch z) h
 |str y=>obtain⟨t,q⟩:=(show∃t,u=Value.str y t from rx);cases q;exact W.kia_one W.kitx_str I.kIn True.intro e (λz=>nomatch z) h
 |flt y=>obtain⟨t,q⟩:=(show∃t,u=Value.float y t from rx);cases q;exact W.kia_one W.kitx_float I.kIn True.intro e (λz=>nomatch z) h
 | @lst a xs ea=>
  cases(show u=Value.ref a from rx);obtain⟨_,_,n,_,h1⟩:=(show ObjOk X.prog X.w H s.heap a (.lst xs)from I.hok a _ ea);exact W.kia_one W.kitx_list I.kIn ⟨_,h1,rfl⟩ e (λz=>nomatch z) h
 | @frz a ob xs ea=>
  cases(show u=Value.ref a from rx);obtain⟨_,_,_,n,_,h1⟩:=(show ObjOk X.prog X.w H s.heap a (.frz ob (.lst xs))from I.hok a _ ea);exact W.kia_one W.kitx_list I.kIn ⟨_,h1,rfl⟩ e (λz=>nomatch z) h
 | @tup a xs ea=>
  cases(show u=Value.ref a from rx);obtain⟨_,_,_,p⟩:=(show ObjOk X.prog X.w H s.heap a (.tup xs)from I.hok a _ ea);obtain⟨o,h1,⟨h2,_⟩,_⟩:=p;exact W.kia_one W.kitx_tuple I.kIn ⟨o,h1,h2⟩ e (λz=>nomatch z) h
 | @dK a kvs ea=>
  cases(show u=Value.ref a from rx);obtain⟨_,_,vs,_,p⟩:=(show ObjOk X.prog X.w H s.heap a (.dK kvs)from I.hok a _ ea);obtain⟨o,es,h1,h2,_⟩:=p;exact W.kia_one W.kitx_dict I.kIn ⟨o,h1,h2.1⟩ e (λz=>nomatch z) h
 | @dT a kvs ea=>
  cases(show u=Value.ref a from rx);obtain⟨_,_,xs,_,o,es,ep,h1,h2,_⟩:=(show ObjOk X.prog X.w H s.heap a (.dT kvs)from I.hok a _ ea);exact W.kia_one W.kitx_dict I.kIn ⟨o,h1,h2.1⟩ e (λz=>nomatch z) h
 | @ins a C dx fs ea cl ha hn htk hm=>
  cases(show u=Value.ref a from rx);obtain⟨mA,O,_⟩:=tu I.hok ea;obtain⟨od,J,_⟩:=O.look;exact W.kia_one (W.kitx_own (cl.get _) cl.hd ha hn htk hm) I.kIn J e (λz=>nomatch z) h
end
structure Room(k:Nat)(A:Around):Prop where
 hd:A.handled=none
 dp:A.depth+3*k+5<recursionLimit
 un:A.units+16*k+200<cLine
theorem Room.mono{j k:Nat}{A:Around}(r:Room k A)(h:j<=k):Room j A:=⟨r.hd,by have:=r.dp;omega,by have:=r.un;omega⟩
theorem Room.m{j k:Nat}{A:Around}(r:Room k A)(h:j<=k:=by decide):Room j A:=r.mono h
theorem Room.deeper{k:Nat}{A:Around}(r:Room (k+1) A)(env:Env):Room k (A.deeper env):=
 ⟨r.hd,by have:=r.dp;show A.depth+1+3*k+5<_;omega,by have:=r.un;show A.units+3+16*k+200<_;omega⟩
theorem Room.in1{k:Nat}{A:Around}(r:Room (k+1) A):Room k A.in1:=
 ⟨r.hd,by have:=r.dp;show A.depth+3*k+5<_;omega,by have:=r.un;show A.units+1+16*k+200<_;omega⟩
theorem qev{A:Around}{C:Addr}{us:List Value}{kw:List (Str×Value)}:(A.under (.builtin "type.__call__" ⟨.ref C::us,kw⟩)).depth=A.depth+1:=by first|rfl|simp[Around.under,Code.weight,Code.isCreation,Code.isGuard,Code.isCaller,Code.frames,Code.isFrame,guardIds]
theorem qeu{A:Around}{C:Addr}{us:List Value}{kw:List (Str×Value)}:(A.under (.builtin "type.__call__" ⟨.ref C::us,kw⟩)).units=A.units+1:=by first|rfl|simp[Around.under,Code.cUnits,Code.frames,Code.isFrame]
theorem Room.make{k:Nat}{A:Around}(r:Room (k+1) A)(C:Addr)(us:List Value)(kw:List (Str×Value)):Room k (A.under (.builtin "type.__call__" ⟨.ref C::us,kw⟩)):=
 ⟨r.hd,by have:=r.dp;rw[qev];omega,by have:=r.un;rw[qeu];omega⟩
theorem Room.depth{k:Nat}{A:Around}(r:Room k A):A.depth<recursionLimit:=by have:=r.dp;omega
theorem Room.units{k:Nat}{A:Around}(r:Room k A):A.units+64<cLine:=by have:=r.un;omega
def gr:TA:=λ_ H Q=>Q [] H
def jL(ta:TE)(tr:TA):TA:=λσ H Q=>ta σ H λx H1=>tr σ H1 λxs H2=>Q (x::xs) H2
section
variable{X:Cx}{e:Expr}{es:List Expr}{te:TE}{t:TA}{pos:Pos}
theorem ay:PA X [] gr:=λ_ _ _ _ H Q I h=>Calls.spliced_nil ⟨[],H,I,.nil,h⟩
theorem aj(ha:PE X e te)(hr:PA X es t)(hs:starEach (e::es) X.env=(false,eval e X.env)::starEach es X.env:=by rfl):PA X (e::es) (jL te t):=by intro pos z5 s σ H Q I h;rw[hs];show wpAny _ _ (spliced ((false,eval e X.env)::backTo pos (starEach es X.env))) _ _ s;refine kf (bd (ha z5 s σ H _ I h) λu s1 ⟨x,H1,I1,r1,q1⟩=>?_);exact bd (hr pos z5 s1 σ H1 _ I1 q1) λus s2 ⟨xs,H2,I2,r2,q2⟩=>⟨x::xs,H2,I2,.cons r1 r2,q2⟩
def qw(t:TA):TE:=λσ H Q=>t σ H λxs H1=>xs.length<=sizeLine/\∀p,H1 p=none->Q (.ref p) (aP H1 p (.tup xs))
def mW(t:TA):TE:=λσ H Q=>t σ H λxs H1=>xs.length<=sizeLine/\∀p,H1 p=none->Q (.ref p) (aP H1 p (.lst xs))
theorem iy{x1}(h:PA X es t):PE X (.Tuple es x1 pos) (qw t):=by intro z5 s σ H Q I hq;refine wpAny_Tuple_spliced (bd (h pos z5 s σ H _ I hq) λus s1 ⟨xs,H1,I1,r,z,q⟩=>⟨by rw[<-r.length];exact z,?_⟩);have hf:H1 s1.heap.objs.size=none:=I1.hok.fresh (j7 _);refine⟨.ref s1.heap.objs.size,aP H1 s1.heap.objs.size (.tup xs),I1.laid (t':=s1.toks) (λb u e=>j6 _ e) (j7 _) ?_,rfl,q _ hf⟩;exact⟨z,us,r,⟨_,jj _ rfl,⟨rfl,_,rfl⟩,rfl⟩⟩
theorem fv(h:PA X es t):PE X (.List es pos) (mW t):=by intro z5 s σ H Q I hq;refine wpAny_List_spliced (bd (h pos z5 s σ H _ I hq) λus s1 ⟨xs,H1,I1,r,z,q⟩=>⟨by rw[<-r.length];exact z,?_⟩);have hf:H1 s1.heap.objs.size=none:=I1.hok.fresh (j7 _);refine⟨.ref s1.heap.objs.size,aP H1 s1.heap.objs.size (.lst xs),I1.laid (t':=s1.toks) (λb u e=>j6 _ e) (j7 _) ?_,rfl,q _ hf⟩;exact⟨z,us,0,r,jj _ rfl⟩
end
abbrev Sp:=List V->Hp->VK->XK->Prop
abbrev il:=List Env->Hp->Shared->XK->Value->Shared->Prop
structure Env0(P:Program)(w:World)(K:au)(mg:Str->Option Value)(base:Heap)(A:Around)(outer:List Env)(s:Shared)(H:Hp):Prop where
 frames:A.frames=some outer
 mod:Mod K mg base
 bs:∀b o,base.get? b=some o->s.heap.get? b=some o/\H b=none
 bsz:base.objs.size<=s.heap.objs.size
 funs:s.heap.FunFrames base outer
 frf:∀b∈gP outer,H b=none
 hok:HOk P w H s.heap
 bare:AllBare s.gens
def CE(outer:List Env)(P:Program)(w:World)(H:Hp)(s:Shared)(Q:VK)(u:Value)(s':Shared):Prop:=
 ∃v H',s'.os=s.os/\AllBare s'.gens/\Un (gP outer) [] H H' s.heap s'.heap/\HOk P w H' s'.heap/\RelV v u/\Q v H'
def CR(CX:il)(outer:List Env)(P:Program)(w:World)(H:Hp)(s:Shared)(Q:VK)(E:XK)(r:Result)(s':Shared):Prop:=
 match r with
 |.ok (.ret u)=>CE outer P w H s Q u s'
 |.ok _=>False
 |.error e=>CX outer H s E e s'
structure FnOk(P:Program)(w:World)(K:au)(mg:Str->Option Value)(base:Heap)(CX:il)(k:Nat)(f:Addr)(fd:FuncData)(ps:List Str)(sp:Sp):Prop where
 len:∀vs H Q E,sp vs H Q E->vs.length=ps.length
 run:∀(A:Around) (outer:List Env) (s:Shared) (H:Hp) (args:Args) (us:List Value) (vs:List V) (Q:VK) (E:XK),Room k A->Env0 P w K mg base A outer s H->BindsTo s fd args (ps.zip us)->Vals vs us->sp vs H Q E->
  codeAny (model P w) A (.call (.ref f) args) (CR CX outer P w H s Q E) s
theorem FnOk.mono{P:Program}{w:World}{K:au}{mg:Str->Option Value}{base:Heap}{CX:il}{j k:Nat}{f:Addr}{fd:FuncData}{ps:List Str}{sp:Sp}(F:FnOk P w K mg base CX j f fd ps sp)(h:j<=k):
 FnOk P w K mg base CX k f fd ps sp:=⟨F.len,λA outer s H args us vs Q E hr=>F.run A outer s H args us vs Q E (hr.mono h)⟩
theorem FnOk.imp{P:Program}{w:World}{K:au}{mg:Str->Option Value}{base:Heap}{CX:il}{k:Nat}{f:Addr}{fd:FuncData}{ps:List Str}{sp sp':Sp}(F:FnOk P w K mg base CX k f fd ps sp)
 (h:∀vs H Q E,sp' vs H Q E->sp vs H Q E):FnOk P w K mg base CX k f fd ps sp':=
 ⟨λvs H Q E q=>F.len vs H Q E (h _ _ _ _ q),λA outer s H args us vs Q E hr he hb hv hs=>F.run A outer s H args us vs Q E hr he hb hv (h _ _ _ _ hs)⟩
theorem Env0.make{P:Program}{w:World}{K:au}{mg:Str->Option Value}{base:Heap}{A:Around}{outer:List Env}{s:Shared}{H:Hp}(e:Env0 P w K mg base A outer s H)(C:Addr)(us:List Value)(kw:List (Str×Value)):
 Env0 P w K mg base (A.under (.builtin "type.__call__" ⟨.ref C::us,kw⟩)) outer s H:=⟨by first|exact e.frames|(simpa[Around.under,Code.envs,Code.isFrame,pushEnvs]using e.frames),e.mod,e.bs,e.bsz,e.funs,e.frf,e.hok,e.bare⟩
theorem Env0.in1{P:Program}{w:World}{K:au}{mg:Str->Option Value}{base:Heap}{A:Around}{outer:List Env}{s:Shared}{H:Hp}(e:Env0 P w K mg base A outer s H):
 Env0 P w K mg base A.in1 outer s H:=⟨e.frames,e.mod,e.bs,e.bsz,e.funs,e.frf,e.hok,e.bare⟩
section
variable{X:Cx}{z5:List (Addr×Obj)}{σ:St}{H:Hp}{s s':Shared}
theorem Inv.env0(I:Inv X z5 σ H s):Env0 X.prog X.w X.K X.mg X.base X.A X.stack s H:=
 ⟨I.ok.frames,I.ok.mod,I.bs,jr I.ok.bsz I.sz,I.stack,I.stkFree,I.hok,I.bare⟩
theorem Inv.after{Q:VK}{u:Value}(I:Inv X z5 σ H s)(h:CE X.stack X.prog X.w H s Q u s'):EP X z5 σ Q u s':=by obtain⟨v,H',os,bare,un,hok,r,q⟩:=h;obtain⟨hh,g,d,t,os'⟩:=s';obtain rfl:os'=s.os:=os;exact⟨v,H',I.call (h':=hh) (g':=g) (d':=d) (t':=t) (ch:=[]) un hok bare (λb z=>absurd z (by simp)),r,q⟩
end
def mh(sp:Sp)(dvs:List V)(E:XK)(t:TA):TE:=λσ H Q=>t σ H λvs H1=>sp (vs++dvs) H1 Q E
def CV(C:Addr)(m:Str)(sp:Sp)(dvs:List V)(E:XK)(ta:TE)(t:TA):TE:=λσ H Q=>ta σ H λx H1=>∃a dx fs,x=.ref a/\H1 a=some (.ins C dx fs)/\fs.lookup m=none/\
 t σ H1 λvs H2=>sp (x::(vs++dvs)) H2 Q E
def CU(C:Addr)(sp:Sp)(dvs:List V)(E:XK)(t:TA):TE:=λσ H Q=>t σ H λvs H1=>∀x dx,H1 x=none->H1 dx=none->dx≠x->
 sp (.ref x::(vs++dvs)) (aP (aP H1 dx (.own x)) x (.ins C dx [])) (λv H2=>v=.non/\Q (.ref x) H2) E
def Binds(K:au)(fd:FuncData)(ps:List Str)(ds:List Value):Prop:=
 ∀(s:Shared) (us:List Value),K.In s.heap->(us++ds).length=ps.length->BindsTo s fd ⟨us,[]⟩ (ps.zip (us++ds))
theorem Binds.all{K:au}{fd:FuncData}{ps:List Str}(h:∀us:List Value,us.length=ps.length->bindArgs fd ⟨us,[]⟩=pure (ps.zip us)):Binds K fd ps []:=λs us _ hl=>by rw[List.append_nil]at hl ⊢;exact .of_eq (h us hl)
def ox(CX:il)(X:Cx)(E:XK):Prop:=∀(z5:List (Addr×Obj)) (σ:St) (H:Hp) (s:Shared) (e:Value) (s':Shared),Inv X z5 σ H s->CX X.stack H s E e s'->X.xe e s'
section
variable{X:Cx}{CX:il}{k:Nat}{f C:Addr}{fd:FuncData}{ps:List Str}{sp:Sp}{dvs:List V}{ds:List Value}{E:XK}{x m:Str}{p pos zt:Pos}{e o:Expr}{es:List Expr}{ta:TE}{t:TA}
theorem DO{z5:List (Addr×Obj)}{σ:St}{H:Hp}{s:Shared}{Q:VK}{us:List Value}{vs:List V}(F:FnOk X.prog X.w X.K X.mg X.base CX k f fd ps sp)(hr:Room k X.A)(hb:Binds X.K fd ps ds)(hd:Vals dvs ds)(hx:ox CX X E)
 (I:Inv X z5 σ H s) (r:Vals vs us) (h:sp (vs++dvs) H Q E):wpAny (model X.prog X.w) X.A (call (.ref f) us) (EP X z5 σ Q) X.xe s:=by
 have r2:Vals (vs++dvs) (us++ds):=r.append hd;have hl:(us++ds).length=ps.length:=by rw[<-r2.length];exact F.len _ _ _ _ h
 refine wpAny_call (codeAny_mono (F.run X.A X.stack s H ⟨us,[]⟩ (us++ds) (vs++dvs) Q E hr I.env0 (hb s us I.kIn hl) r2 h) λr s' hq=>?_);cases r with
 |error e=>exact hx z5 σ H s e s' I hq
 | ok fl=>
  cases fl with
  |ret u=>exact I.after hq
  |next=>exact False.elim hq
  |brk=>exact False.elim hq
  |cont=>exact False.elim hq
theorem yC(F:FnOk X.prog X.w X.K X.mg X.base CX k f fd ps sp)(hr:Room k X.A)(hg:Gl X x)(hm:X.mg x=some (.ref f))(hk:W.keepIn X.K (.ref f)=true)(hb:Binds X.K fd ps ds)(hd:Vals dvs ds)(hx:ox CX X E)
 (ha:PA X (e::es) t) (hdb:(x==("__debug__":Str))=false:=by decide) (he:starEach (e::es) X.env=(false,eval e X.env)::starEach es X.env:=by rfl) (hpl:(backTo pos (starEach es X.env)).any (·.1)=false:=by rfl):
 PE X (.Call (.Name x p) (e::es) [] pos) (mh sp dvs E t):=by
 intro z5 s σ H Q I h;refine xh (wK I hg hm ?_ hdb);refine W.callWith_K (h₀:=X.base) I.ok.mod.kin hk (bd (ha pos z5 s σ H _ I h) λus s1 ⟨vs,H1,I1,r,q⟩=>⟨I1.kIn,?_⟩) he hpl;exact DO F hr hb hd hx I1 r q
theorem wY{pl:Sem Bool}(he:PE X o ta)(c:Cls X.K C)(hm:Meth X.K C m f)(F:FnOk X.prog X.w X.K X.mg X.base CX k f fd ps sp)(hr:Room k X.A)(hb:Binds X.K fd ps ds)(hd:Vals dvs ds)(hx:ox CX X E)(ha:PA X (e::es) t)
 (hst:starEach (e::es) X.env=(false,eval e X.env)::starEach es X.env:=by rfl) (hpl:(backTo pos (starEach es X.env)).any (·.1)=false:=by rfl)
 (ht:eval (.Call (.Attribute o m zt) (e::es) [] pos) X.env=(do
   let ov <-eval o X.env
   standAt zt.atName
   let (f,first) <-holding [ov] (getMethod ov m pl)
   callWith pos f first (backTo pos (starEach (e::es) X.env)) (backToKw pos (keywordEach [] X.env))):=by rfl):
 PE X (.Call (.Attribute o m zt) (e::es) [] pos) (CV C m sp dvs E ta t):=by
 intro z5 s σ H Q I h;refine W.methodCall_KW (pl:=pl) (bd (he z5 s σ H _ I h) λu s1 ⟨x,H1,I1,rx,a,dx,fs,ex,ea,l,q⟩=>?_) ht;subst ex;obtain rfl:u=Value.ref a:=rx;refine qf0 I1 ea c hm l ?_;refine W.callWith_K (first:=[.ref a]) (h₀:=X.base) I.ok.mod.kin hm.kp (bd (ha pos z5 s1 σ H1 _ I1 q) λus s2 ⟨vs,H2,I2,r,q2⟩=>⟨I2.kIn,?_⟩) hst hpl;exact DO (us:=.ref a::us) (vs:=.ref a::vs) F hr hb hd hx I2 (.cons rfl r) q2
structure Mk(K:au)(C f:Addr):Prop where
 makes:W.makesIn K C=true
 init:W.findIn K (.ref C) "__init__"=some (some (.ref f))
 fn:W.isFn K (.ref f)=true
 kp:W.keepIn K (.ref C)=true
theorem qjp{z5:List (Addr×Obj)}{σ:St}{H:Hp}{s:Shared}{Q:VK}{us:List Value}{vs:List V}(M:Mk X.K C f)(F:FnOk X.prog X.w X.K X.mg X.base CX k f fd ps sp)(hr:Room (k+1) X.A)(hb:Binds X.K fd ps ds)(hd:Vals dvs ds)
 (hx:ox CX X E) (I:Inv X z5 σ H s) (r:Vals vs us)
 (h:∀x dx,H x=none->H dx=none->dx≠x->sp (.ref x::(vs++dvs)) (aP (aP H dx (.own x)) x (.ins C dx [])) (λv H2=>v=.non/\Q (.ref x) H2) E):
 wpAny (model X.prog X.w) X.A (call (.ref C) us) (EP X z5 σ Q) X.xe s:=by
 have hq:=h (s.heap.objs.size+1) s.heap.objs.size (I.hok.fresh (Nat.le_succ _)) (I.hok.fresh (j7 _)) (jh (Nat.lt_succ_self _));have I2:=Inv.made (C:=C) I;have r2:Vals (V.ref (s.heap.objs.size+1)::(vs++dvs)) (Value.ref (s.heap.objs.size+1)::(us++ds)):=.cons rfl (r.append hd);have hl:(Value.ref (s.heap.objs.size+1)::us++ds).length=ps.length:=by have e:=r2.length;rw[F.len _ _ _ _ hq]at e;exact e.symm
 refine wpAny_call (qkb (f:=f) I.kIn M.makes M.init (beq_iff_eq.mp M.fn) (codeAny_mono (F.run _ X.stack _ _ ⟨Value.ref (s.heap.objs.size+1)::us,[]⟩ (Value.ref (s.heap.objs.size+1)::(us++ds)) _ _ E (hr.make C us [])
  (I2.env0.make C us []) (hb _ (Value.ref (s.heap.objs.size+1)::us) I2.kIn hl) r2 hq) λr s' hq'=>?_))
 cases r with
 |error e=>exact hx z5 σ _ _ e s' I2 hq'
 | ok fl=>
  cases fl with
  | ret u=>
   obtain⟨v,H',I3,rv,ev,q3⟩:=I2.after hq';subst ev;exact⟨rv,⟨V.ref (s.heap.objs.size+1),H',I3,rfl,q3⟩⟩
  |next=>exact False.elim hq'
  |brk=>exact False.elim hq'
  |cont=>exact False.elim hq'
theorem El(M:Mk X.K C f)(F:FnOk X.prog X.w X.K X.mg X.base CX k f fd ps sp)(hr:Room (k+1) X.A)(hg:Gl X x)(hm:X.mg x=some (.ref C))(hb:Binds X.K fd ps ds)(hd:Vals dvs ds)(hx:ox CX X E)
 (ha:PA X (e::es) t) (hdb:(x==("__debug__":Str))=false:=by decide) (he:starEach (e::es) X.env=(false,eval e X.env)::starEach es X.env:=by rfl) (hpl:(backTo pos (starEach es X.env)).any (·.1)=false:=by rfl):
 PE X (.Call (.Name x p) (e::es) [] pos) (CU C sp dvs E t):=by
 intro z5 s σ H Q I h;refine xh (wK I hg hm ?_ hdb);refine W.callWith_K (h₀:=X.base) I.ok.mod.kin M.kp (bd (ha pos z5 s σ H _ I h) λus s1 ⟨vs,H1,I1,r,q⟩=>⟨I1.kIn,?_⟩) he hpl;exact qjp M F hr hb hd hx I1 r q
end
section
variable{X:Cx}{CX:il}{k:Nat}{f C:Addr}{fd:FuncData}{ps ks:List Str}{sp:Sp}{E:XK}{x m:Str}{p pos zt kpos:Pos}{e o:Expr}{es:List Expr}{kws:List Keyword}{te ta:TE}{t tk:TA}{nm:Option Str}
structure qx9(K:au)(fd:FuncData)(ps ks:List Str)(g:List Value->List Value->List Value)(gV:List V->List V->List V):Prop where
 to:∀(s:Shared) (us ws:List Value),K.In s.heap->(g us ws).length=ps.length->BindsTo s fd ⟨us,ks.zip ws⟩ (ps.zip (g us ws))
 rel:∀{vs:List V} {us:List Value} {zs:List V} {ws:List Value},Vals vs us->Vals zs ws->Vals (gV vs zs) (g us ws)
variable{g:List Value->List Value->List Value}{gV:List V->List V->List V}
end
structure q0n(N P:List Str)(sc:Scope):Prop where
 kind:sc.kind=.function
 co:sc.isCoroutine=false
 gen:sc.isGenerator=false
 nd:N.Nodup
 pre:N.take P.length=P
 par:∀x∈P,sc.names.lookup x=some .local∨sc.names.lookup x=some .cell
 nofree:∀y∈sc.names,y.2≠.free
theorem Fk{kindOf:Str->Option NameKind}{x:Str}:∀{zr:List (Str×Value)} {m:Str->Option Value},(∀v,(x,v)∉zr)->bindL kindOf zr m x=m x
 |[],_,_=>rfl
 | (n,v)::r,m,h=>by
  unfold bindL;rw[Fk λw hw=>h w (j9 _ hw)];split
  ·have:x≠n:=by rintro rfl;exact h v ja
   simp[this]
  ·rfl
theorem Fi{kindOf:Str->Option NameKind}{x:Str}:∀{zr:List (Str×Value)} {m:Str->Option Value},(∀v,(x,v)∉zr)->bindC kindOf zr m x=m x
 |[],_,_=>rfl
 | (n,v)::r,m,h=>by
  unfold bindC;rw[Fi λw hw=>h w (j9 _ hw)];split
  ·rfl
  ·have:x≠n:=by rintro rfl;exact h v ja
   simp[this]
theorem Fj{kindOf:Str->Option NameKind}{x:Str}{v:Value}:∀{P:List Str} {vs:List Value} {i:Nat} {m:Str->Option Value},P.Nodup->P[i]? =some x->vs[i]? =some v->kindOf x=some .local->
 bindL kindOf (P.zip vs) m x=some v
 |[],_,_,_,_,h,_,_=>by simp at h
 |_::_,[],_,_,_,_,h,_=>by simp at h
 | p::P,w::vs,0,m,nd,h1,h2,hk=>by simp at h1 h2;subst h1;subst h2;show bindL kindOf ((p,w)::P.zip vs) m p=_;unfold bindL;rw[Fk λv hv=>(List.nodup_cons.mp nd).1 (List.of_mem_zip hv).1,if_pos hk];simp
 | p::P,w::vs,i+1,m,nd,h1,h2,hk=>by show bindL kindOf ((p,w)::P.zip vs) m x=_;unfold bindL;exact Fj (i:=i) (List.nodup_cons.mp nd).2 (by simpa using h1) (by simpa using h2) hk
theorem Fh{kindOf:Str->Option NameKind}{x:Str}{v:Value}:∀{P:List Str} {vs:List Value} {i:Nat} {m:Str->Option Value},P.Nodup->P[i]? =some x->vs[i]? =some v->kindOf x≠some .local->
 bindC kindOf (P.zip vs) m x=some v
 |[],_,_,_,_,h,_,_=>by simp at h
 |_::_,[],_,_,_,_,h,_=>by simp at h
 | p::P,w::vs,0,m,nd,h1,h2,hk=>by simp at h1 h2;subst h1;subst h2;show bindC kindOf ((p,w)::P.zip vs) m p=_;unfold bindC;rw[Fi λv hv=>(List.nodup_cons.mp nd).1 (List.of_mem_zip hv).1,if_neg hk];simp
 | p::P,w::vs,i+1,m,nd,h1,h2,hk=>by show bindC kindOf ((p,w)::P.zip vs) m x=_;unfold bindC;exact Fh (i:=i) (List.nodup_cons.mp nd).2 (by simpa using h1) (by simpa using h2) hk
def aZ(N:List Str)(vs:List V):St:=vs.map some++List.replicate (N.length-vs.length) none
def eY(CX:il)(P:Program)(w:World)(K:au)(mg:Str->Option Value)(base:Heap)(N:List Str)(qual:Str)(scope:Scope)(f:Addr)(cd:Value)(A:Around)(outer:List Env)(s:Shared)(H:Hp)(E:XK):Cx where
 prog:=P
 w:=w
 K:=K
 mg:=mg
 base:=base
 A:=A.deeper (envOfC qual scope s.heap.objs.size f cd)
 N:=N
 s₀:=s
 H₀:=H
 env:=envOfC qual scope s.heap.objs.size f cd
 outer:=outer
 stack:=envOfC qual scope s.heap.objs.size f cd::outer
 ex:=[]
 calm:=true
 fn:=λ_=>true
 pn:=[]
 xe:=λe s'=>wpAny (model P w) (A.deeper (envOfC qual scope s.heap.objs.size f cd)) (leaving (envOfC qual scope s.heap.objs.size f cd) e) (λ_ s''=>CX outer H s E e s'') (λe' s''=>CX outer H s E e' s'') s'
theorem EA{sc:Scope}{n:Nat}{x:Str}(h:sc.names.lookup x=some .cell):∃c,(cellsFrom n sc.names []).lookup x=some c:=by have q:=W.cellsFrom_some sc.names n [] (.inl h);exact Option.isSome_iff_exists.mp q
theorem qi7{CX:il}{P:Program}{w:World}{K:au}{mg:Str->Option Value}{base:Heap}{N ps:List Str}{qual:Str}{scope:Scope}{f:Addr}{cd:Value}{A:Around}{outer:List Env}{s s1:Shared}{H:Hp}{E:XK}{us:List Value}{vs:List V}
 (S:q0n N ps scope) (hd:A.handled=none) (e0:Env0 P w K mg base A outer s H) (hl:vs.length=ps.length) (r:Vals vs us)
 (x:InCallC s s.heap.objs.size (bindL (envOfC qual scope s.heap.objs.size f cd).kindOf (ps.zip us) λ_=>none) (cellsFrom (s.heap.objs.size+1) scope.names []) (bindC (envOfC qual scope s.heap.objs.size f cd).kindOf (ps.zip us) λ_=>none) s1):
 Inv (eY CX P w K mg base N qual scope f cd A outer s H E) [] (aZ N vs) H s1:=by
 have hpl:ps.length<=N.length:=by have:=congrArg List.length S.pre;rw[jz]at this;omega
 obtain⟨h1,tk,rfl,hk⟩:=x.done;have noA:∀b:Addr,b∉(eY CX P w K mg base N qual scope f cd A outer s H E).ex:=λb z=>absurd (show b∈([]:List Addr)from z) (by simp);refine⟨⟨e0.mod,S.kind,rfl,rfl,j7 _,λy z c h1 h2=>?_,λy hy=>?_,λy c _ h=>?_,λ_=>hd,Around.frames_deeper e0.frames,.inr ⟨rfl,rfl⟩,λb z=>absurd z (noA b),e0.bs,e0.bsz,λb _ _=>noA b,λb z=>absurd z (noA b),e0.funs,e0.frf⟩,
  rfl,e0.bare,Un.kept hk,⟨_,x.toInCall.ns,λi y v h1 h2 h3=>?_⟩,λy c h=>⟨_,x.cell y c h⟩,e0.hok.fresh (j7 _),λy c h=>?_,λp hp=>absurd (show p∈([]:List (Addr×Obj))from hp) (by simp),e0.hok.kept hk,?_⟩
 ·exact name_of_addr x.apart (PySem.mem_of_lookup h1) (PySem.mem_of_lookup h2)
 ·have hy:scope.names.lookup y=some .cell∨scope.names.lookup y=some .free:=hy;rcases hy with hy|hy
  ·exact EA hy
  ·exact absurd rfl (S.nofree _ (PySem.mem_of_lookup hy))
 ·exact Nat.le_of_lt (x.above y c (PySem.mem_of_lookup h))
 ·have hi:i<vs.length:=by
   unfold aZ at h2;by_cases hi:i<vs.length
   ·exact hi
   ·rw[xo (by simpa using hi)]at h2;rw[xr]at h2;split at h2<;>cases h2
  have ha:vs[i]? =some v:=by
   unfold aZ at h2;rw[xv (by simpa using hi),jd]at h2;cases e:vs[i]? with
   |none=>rw[e]at h2;cases h2
   |some a=>rw[e]at h2;cases h2;rfl
  obtain⟨u,hu,rv⟩:=r.get ha;have hp:ps[i]? =some y:=by rw[<-S.pre,List.getElem?_take_of_lt (by omega)];exact h1
  have ndP:ps.Nodup:=by rw[<-S.pre];exact S.nd.sublist (List.take_sublist _ _)
  refine⟨u,rv,?_⟩;rcases S.par y (xi hp)with k|k
  ·exact .inl ⟨k,Fj ndP hp hu k⟩
  ·obtain⟨c,e⟩:=EA (n:=s.heap.objs.size+1) k;refine .inr ⟨.inl k,c,e,?_⟩;have q:=x.cell y c e;rw[Fh ndP hp hu (by show scope.names.lookup y≠_;rw[k];decide)]at q;exact q
 ·exact e0.hok.fresh (Nat.le_of_lt (x.above y c (PySem.mem_of_lookup h)))
 ·unfold aZ;show _=N.length;rw[je,j3,ji];omega
theorem u8{CX:il}{P:Program}{w:World}{K:au}{mg:Str->Option Value}{base:Heap}{k:Nat}{f:Addr}{name qual:Str}{params:Arguments}{body:List Stmt}{scope:Scope}{dV kV doc pm cdv ct oc:Value}{an od:Option Addr}
 {osl:Array (Option Value)} {N ps:List Str} {sp:Sp} (lk:K.lookup f=some ⟨oc,od,.func (W.fnOf name qual params body scope dV kV doc pm an cdv ct),osl⟩) (hcd:W.codeIn K cdv qual=true) (S:q0n N ps scope)
 (len:∀vs H Q E,sp vs H Q E->vs.length=ps.length)
 (ze:∀(A:Around) (outer:List Env) (s:Shared) (H:Hp) (vs:List V) (Q:VK) (E:XK),Room k (A.deeper (envOfC qual scope s.heap.objs.size f cdv))->sp vs H Q E->
   ∃t,PSs (eY CX P w K mg base N qual scope f cdv A outer s H E) body t/\t {nx:=λ_ H'=>Q .non H',rt:=Q} (aZ N vs) H):
 FnOk P w K mg base CX (k+1) f (W.fnOf name qual params body scope dV kV doc pm an cdv ct) ps sp:=by
 refine⟨len,λA outer s H args us vs Q E hr e0 hb r hsp=>?_⟩;have hl:=len _ _ _ _ hsp;have KX:K.In s.heap:=e0.mod.kin.keeps λb o e=>(e0.bs b o e).1;have lim:s.heap.NoLimit:=e0.mod.nolimit.keeps λb o e=>(e0.bs b o e).1;have zg:∀y∈ps.zip us,scope.names.lookup y.1=some .local∨(scope.names.lookup y.1=some .cell/\((cellsFrom (s.heap.objs.size+1) scope.names []).lookup y.1).isSome=true):=λ⟨n,v⟩ hy=>by
  rcases S.par n (List.of_mem_zip hy).1 with q|q
  ·exact .inl q
  ·exact .inr ⟨q,W.cellsFrom_some _ _ _ (.inl q)⟩
 refine codeAny_call_function hr.depth (KX _ _ lk) rfl S.co S.gen rfl (W.codeRec_of KX hcd) (hb _ _ _ _ ?_);refine wpAny_newFunctionEnv_cells S.kind zg λenv he s1 x=>?_;subst he;refine⟨lim.keeps x.toInCall.keep,codeAny_func ?_⟩;obtain⟨t,ht,hq⟩:=ze A outer s H vs Q E (hr.deeper _) hsp;have I:Inv (eY CX P w K mg base N qual scope f cdv A outer s H E) [] (aZ N vs) H s1:=qi7 S hr.hd e0 hl r x;refine xn (ht [] s1 (aZ N vs) H _ I hq) (λfl s' hs=>?_) λe s' hs=>hs;have fin:∀{σ':St} {H':Hp} {v:V} {u:Value},Inv (eY CX P w K mg base N qual scope f cdv A outer s H E) [] σ' H' s'->RelV v u->Q v H'->CE outer P w H s Q u s':=
  λ{σ' H' v u} J rv q=>⟨v,H',J.os,J.bare,J.base,J.hok,rv,q⟩
 cases fl with
 | ret u=>
  obtain⟨v,σ',H',J,rv,q⟩:=hs;exact fin J rv q
 | next=>
  obtain⟨σ',H',J,q⟩:=hs;exact fin (v:=V.non) (u:=Value.none) J rfl q
 | brk=>
  obtain⟨_,_,_,q⟩:=hs;exact False.elim q
 | cont=>
  obtain⟨_,_,_,q⟩:=hs;exact False.elim q
section
variable{X:Cx}{x:Str}{p pos:Pos}{e:Expr}{es:List Expr}{t:TA}{id T:String}{r:List V->Hp->VK->Prop}
def md(r:List V->Hp->VK->Prop)(t:TA):TE:=λσ H Q=>t σ H λvs H1=>r vs H1 Q
theorem dg(hc:gB X (.builtin id) r)(hg:Gl X x)(hm:X.mg x=none)(hv:bootBuiltins x=some (.builtin id))(ha:PA X (e::es) t)(hn:x≠"__name__":=by decide)(hdb:(x==("__debug__":Str))=false:=by decide)
 (he:starEach (e::es) X.env=(false,eval e X.env)::starEach es X.env:=by rfl) (hpl:(backTo pos (starEach es X.env)).any (·.1)=false:=by rfl):PE X (.Call (.Name x p) (e::es) [] pos) (md r t):=by
 intro z5 s σ H Q I h;refine xh (iw I hg hm hv ?_ hn hdb);exact PyProof.Rows.callWith_builtin1 (bd (ha pos z5 s σ H _ I h) λus s1 ⟨vs,H1,I1,r1,q1⟩=>hc z5 s1 σ H1 vs us Q I1 r1 q1) he hpl
theorem kL(hc:gB X (.type T) r)(hg:Gl X x)(hm:X.mg x=none)(hv:bootBuiltins x=some (.type T))(ha:PA X (e::es) t)(hn:x≠"__name__":=by decide)(hdb:(x==("__debug__":Str))=false:=by decide)
 (he:starEach (e::es) X.env=(false,eval e X.env)::starEach es X.env:=by rfl) (hpl:(backTo pos (starEach es X.env)).any (·.1)=false:=by rfl):PE X (.Call (.Name x p) (e::es) [] pos) (md r t):=by
 intro z5 s σ H Q I h;refine xh (iw I hg hm hv ?_ hn hdb);exact PyProof.Rows.callWith_type1 (bd (ha pos z5 s σ H _ I h) λus s1 ⟨vs,H1,I1,r1,q1⟩=>hc z5 s1 σ H1 vs us Q I1 r1 q1) he hpl
end
end L2
namespace HT
open PySem PyProof.Rows
def lexLt:List Int->List Int->Bool
 |[],[]=>false
 |[],_::_=>true
 |_::_,[]=>false
 |x::xs,y::ys=>if x=y then lexLt xs ys else decide (x<y)
theorem lexLt_cons(x y:Int)(xs ys:List Int):lexLt (x::xs) (y::ys)=if x=y then lexLt xs ys else decide (x<y):=rfl
theorem eqAt_int(A:Around)(s:Shared)(a:Int)(t:Tok)(c:Int)(u:Tok):∃e,SeqAt.EqAt A s (.int a t) (.int c u) e/\(e=true↔a=c):=
 ⟨(a==c),SeqAt.EqAt.int_int a t c u,by simp⟩
theorem rcLt_int(A:Around)(s:Shared)(a:Int)(t:Tok)(c:Int)(u:Tok)(prog:Program)(w:World)(E:Value->Shared->Prop)(Q:Value->Shared->Prop)(h:Q (.bool (decide (a<c))) s):
 wpAny (model prog w) A (richCompare .Lt (.int a t) (.int c u)) Q E s:=
 (PyProof.Rows.lt_int h:wpAny (model prog w) A (compareOp .Lt (.int a t) (.int c u)) Q E s)
section
open PySem.SeqAt
open PySem.AutoSeq1 (wpAny_loadPart')
open PySem.MeetsSeq PySem.MeetsSeq2 PySem.MeetsSeq3
end
section
variable{prog:Program}{w:World}{A:Around}{E:Value->Shared->Prop}{s:Shared}
def sIx(n d:Nat):Option Int->Nat
 |none=>d
 |some v=>if v<0 then(v+(n:Int)).toNat else min v.toNat n
theorem sIx_none(n d:Nat):sIx n d none=d:=rfl
theorem qri{n d:Nat}(hd:d<=n)(o:Option Int):sIx n d o<=n:=by
 cases o with
 |none=>exact hd
 | some v=>
  show(if v<0 then(v+(n:Int)).toNat else min v.toNat n)<=n;by_cases hv:v<0
  ·rw[if_pos hv];omega
  ·rw[if_neg hv];exact Nat.min_le_right _ _
theorem D3(v:Int)(n d:Nat):(if v<0 then max (v+(n:Int)) 0 else min v (n:Int))=((sIx n d (some v):Nat):Int):=by
 show(if v<0 then max (v+(n:Int)) 0 else min v (n:Int))=(((if v<0 then(v+(n:Int)).toNat else min v.toNat n):Nat):Int);by_cases hv:v<0
 ·simp only[if_pos hv];omega
 ·simp only[if_neg hv];omega
theorem qfd(lo hi:Option Int)(n:Nat):Builtin.Slice.sliceAdjust lo hi 1 (n:Int)=(((sIx n 0 lo:Nat):Int),((sIx n n hi:Nat):Int)):=by
 have h1:¬((1:Int)<0):=by omega
 unfold Builtin.Slice.sliceAdjust;simp only[h1,if_false];refine Prod.ext ?_ ?_
 ·cases lo with
  |none=>rfl
  |some v=>exact D3 v n 0
 ·cases hi with
  |none=>rfl
  |some v=>exact D3 v n n
theorem qel(i j:Nat):Builtin.Slice.slicePlaces (i:Int) (j:Int) 1=j-i:=by
 unfold Builtin.Slice.slicePlaces;have h1:(1:Int)>0:=by omega
 simp only[h1,if_true,Int.ediv_one];split<;>omega
theorem Gb{v:Value}{o:Option Int}{Q:Option Int->Shared->Prop}(p:IsPart v o)(h:Q o s):wpAny (model prog w) A (Builtin.Slice.slicePartIndex v) Q E s:=by
 cases p with
 |none=>exact slicePart_none h
 |int i t=>exact slicePart_int h
theorem q6h{sl:Addr}{vl vu:Value}{lo hi:Option Int}{n:Nat}{Q:Int×Int×Nat->Shared->Prop}(hs:s.heap.IsSliceOf sl vl vu .none)(pl:IsPart vl lo)(pu:IsPart vu hi)
 (h:Q (((sIx n 0 lo:Nat):Int),1,sIx n n hi-sIx n 0 lo) s):wpAny (model prog w) A (Builtin.Slice.sliceApplied (.ref sl) (pure (n:Int))) Q E s:=by
 obtain⟨os,hos,hcs,hds⟩:=id hs;unfold Builtin.Slice.sliceApplied Builtin.Slice.sliceFields;refine j0 (j0 (xf hos hds (x:=vl) rfl (j0 (xf hos hds (x:=vu) rfl (j0 (xf hos hds (x:=.none) rfl (j4 ?_)))))));refine j0 (slicePart_none ?_);show wpAny _ _ (if((1:Int)==0)=true then _ else _) _ _ s;rw[if_neg (by decide)];refine j0 (Gb pl (j0 (Gb pu (j0 (j4 ?_)))));show wpAny _ _ (match Builtin.Slice.sliceAdjust lo hi 1 (n:Int)with|(lo,hi)=>pure (lo,(1:Int),Builtin.Slice.slicePlaces lo hi 1)) _ _ s;rw[qfd lo hi n];show wpAny _ _ (pure (((sIx n 0 lo:Nat):Int),(1:Int),Builtin.Slice.slicePlaces ((sIx n 0 lo:Nat):Int) ((sIx n n hi:Nat):Int) 1)) _ _ s;rw[qel];exact j4 h
theorem qjs(xs:Array Value)(i k:Nat):((List.range k).filterMap λ(m:Nat)=>xs[((i:Int)+(m:Int)*1).toNat]?).toArray=((xs.toList.drop i).take k).toArray:=by
 have e:(λ(m:Nat)=>xs[((i:Int)+(m:Int)*1).toNat]?)=λm=>xs[i+m]? :=by
  funext m;have:((i:Int)+(m:Int)*1).toNat=i+m:=by omega
  rw[this]
 rw[e];have:=pick_run xs i k;rw[List.filterMap_map]at this;have e2:((λx=>xs[x]?)∘λx=>i+x)=λm=>xs[i+m]? :=rfl;rw[e2]at this;rw[this]
theorem getItem_tuple_cut{t sl:Addr}{items:Array Value}{vl vu:Value}{lo hi:Option Int}{Q:Value->Shared->Prop}(ht:IsTup s.heap t items)(hs:s.heap.IsSliceOf sl vl vu .none)(pl:IsPart vl lo)(pu:IsPart vu hi)
 (hw:¬(sIx items.size 0 lo=0/\sIx items.size items.size hi=items.size))
 (h:Q (.ref s.heap.objs.size) {s with heap:=s.heap.push {cls:=.type "tuple",data:=.seq ((items.toList.drop (sIx items.size 0 lo)).take (sIx items.size items.size hi-sIx items.size 0 lo)).toArray}})
 (hsz:items.size<=sizeLine):wpAny (model prog w) A (getItem (.ref t) (.ref sl)) Q E s:=by
 have htake:sizeOk (.seq ((items.toList.drop (sIx items.size 0 lo)).take (sIx items.size items.size hi-sIx items.size 0 lo)).toArray):=by show((items.toList.drop (sIx items.size 0 lo)).take (sIx items.size items.size hi-sIx items.size 0 lo)).toArray.size<=sizeLine;rw[jt,jz,xj,Array.length_toList];omega
 have hj:sIx items.size items.size hi<=items.size:=qri (j7 _) hi;obtain⟨os,hos,hcs,hds⟩:=id hs;have hTs:s.TypeIs (.ref sl) "slice":=⟨os,hos,hcs⟩;unfold getItem
 try with_reducible refine xp ?_
 first|refine j0 (j4 ?_)|skip
 refine j0 (wpAny_sequenceKey ht.typeIs (by decide) ?_);refine j0 (xw (name:=Str.ofString "__getitem__") ht.typeIs PyProof.Rows.slot_tuple_getitem
  (xu PyProof.Rows.slot_tuple_getitem ht.typeIs entry_tuple_getitem ?_ (args_tuple_getitem _ _)))
 show wpAny _ _ (Builtin.Tuple.tupleItemsOf (.ref t) >>= _) _ _ s;refine j0 (tupleItemsOf_ ht ?_);refine j0 (wpAny_typeOf hTs ?_);rw[if_pos (by decide)];refine j0 (q6h hs pl pu ?_);have hno:¬((((sIx items.size 0 lo:Nat):Int)==0&&(1:Int)==1&&(sIx items.size items.size hi-sIx items.size 0 lo)==items.size)=true):=by intro q;rw[Bool.and_eq_true,Bool.and_eq_true]at q;have q1:((sIx items.size 0 lo:Nat):Int)=0:=eq_of_beq q.1.1;have q2:sIx items.size items.size hi-sIx items.size 0 lo=items.size:=eq_of_beq q.2;exact hw ⟨by omega,by omega⟩
 show wpAny _ _ (if(((sIx items.size 0 lo:Nat):Int)==0&&(1:Int)==1&&(sIx items.size items.size hi-sIx items.size 0 lo)==items.size)=true then _ else _) _ _ s;rw[if_neg hno,qjs]
 first
  |exact j0 (m:=Builtin.Tuple.tupleExact _) (xq (j4 ⟨_,rfl,j4 h⟩) htake)
  |exact j0 (m:=Builtin.Tuple.tupleExact _) (xq (j0 (j4 (j4 ⟨_,rfl,j4 h⟩))) htake)
  |exact j0 (j0 (m:=Builtin.Tuple.tupleExact _) (xq (j4 (j4 ⟨_,rfl,j4 h⟩)) htake))
  |exact j0 (j0 (m:=Builtin.Tuple.tupleExact _) (xq (j4 ⟨_,rfl,j4 h⟩) htake))
end
end HT
namespace L2
open PySem PySem.Spec PyProof.Rows
abbrev TO:=St->Hp->(Option Int->Hp->Prop)->Prop
def PO(X:Cx)(e:Option Expr)(t:TO):Prop:=
 ∀(z5:List (Addr×Obj)) (s:Shared) (σ:St) (H:Hp) (Q:Option Int->Hp->Prop),Inv X z5 σ H s->t σ H Q->
   wpAny (model X.prog X.w) X.A (evalPart e X.env) (λu s'=>∃o H',Inv X z5 σ H' s'/\IsPart u o/\Q o H') X.xe s
def xB:TO:=λ_ H Q=>Q none H
def vo(t:TE):TO:=λσ H Q=>t σ H λx H1=>∃i,x=.int i/\Q (some i) H1
theorem dN{ns:List Int}:∀{us:List Value},Vals (ns.map V.int) us->IntsAre us ns:=by
 induction ns with
 |nil=>intro us r;rw[List.map_nil]at r;cases r;exact .nil
 | cons n ns ih=>
  intro us r;rw[jo]at r;cases r with
  | cons r1 r2=>
   obtain⟨t,e⟩:=r1;subst e;exact .cons n t (ih r2)
section
variable{X:Cx}{e:Expr}{te:TE}{lo hi:Option Expr}{tl th:TO}{pos p2:Pos}
theorem tF:PO X none xB:=by intro z5 s σ H Q I h;rw[evalPart_none];exact j4 ⟨none,H,I,.none,h⟩
theorem tG(h:PE X e te):PO X (some e) (vo te):=by intro z5 s σ H Q I hw;rw[evalPart_some];refine bd (h z5 s σ H _ I hw) λu s1 ⟨x,H1,I1,r1,q1⟩=>?_;obtain⟨i,rfl,q⟩:=q1;obtain⟨t,rfl⟩:=r1;exact⟨some i,H1,I1,.int i t,q⟩
def SlR(X:Cx)(r:V->Option Int->Option Int->Hp->VK->Prop):Prop:=
 ∀(z5:List (Addr×Obj)) (s:Shared) (σ:St) (H:Hp) (x:V) (v vl vu:Value) (lo hi:Option Int) (sl:Addr) (Q:VK),Inv X z5 σ H s->RelV x v->s.heap.IsSliceOf sl vl vu .none->IsPart vl lo->IsPart vu hi->r x lo hi H Q->
   ∃T id,typeLookup (.type T) "__getitem__"=pure (some (.builtin id))/\s.TypeIs v T/\wpAny (model X.prog X.w) X.A (getItem v (.ref sl)) (EP X z5 σ Q) X.xe s
theorem SlR.or{r r':V->Option Int->Option Int->Hp->VK->Prop}(h:SlR X r)(h':SlR X r'):SlR X (λx lo hi H Q=>r x lo hi H Q∨r' x lo hi H Q):=by
 intro z5 s σ H x v vl vu lo hi sl Q I rx hs pl pu q;rcases q with q|q
 ·exact h z5 s σ H x v vl vu lo hi sl Q I rx hs pl pu q
 ·exact h' z5 s σ H x v vl vu lo hi sl Q I rx hs pl pu q
def uY(r:V->Option Int->Option Int->Hp->VK->Prop)(te:TE)(tl th:TO):TE:=λσ H Q=>te σ H λx H1=>tl σ H1 λl H2=>th σ H2 λu H3=>r x l u H3 Q
theorem tP{r:V->Option Int->Option Int->Hp->VK->Prop}(hr:SlR X r)(he:PE X e te)(hl:PO X lo tl)(hu:PO X hi th):PE X (.Subscript e (.Slice lo hi none p2) pos) (uY r te tl th):=by intro z5 s σ H Q I h;refine Subscript_ (bd (he z5 s σ H _ I h) λv s1 ⟨x,H1,I1,r1,q1⟩=>?_);refine wpAny_Slice (bd (hl z5 s1 σ H1 _ I1 q1) λvl s2 ⟨l,H2,I2,pl,q2⟩=>bd (hu z5 s2 σ H2 _ I2 q2) λvu s3 ⟨u,H3,I3,pu,q3⟩=>?_);rw[evalPart_none];refine j4 ?_;have I4:Inv X z5 σ H3 {s3 with heap:=s3.heap.push {cls:=.type "slice",data:=.fields #[vl,vu,.none]}}:=I3.kept (t':=s3.toks) λb ob q=>j6 _ q;obtain⟨T,id,hT,ht,hg⟩:=hr z5 {s3 with heap:=s3.heap.push {cls:=.type "slice",data:=.fields #[vl,vu,.none]}} σ H3 x v vl vu l u s3.heap.objs.size Q I4 r1 (Heap.IsSliceOf.new ..) pl pu q3;show wpAny (model X.prog X.w) X.A (subscriptTail e (.Slice lo hi none p2) v (.ref s3.heap.objs.size)) (EP X z5 σ Q) X.xe {s3 with heap:=s3.heap.push {cls:=.type "slice",data:=.fields #[vl,vu,.none]}};exact tail_any (ops:=[.ref s3.heap.objs.size,v]) ht hT hg (by with_unfolding_all rfl)
def eZ(xs:List V)(lo hi:Option Int):List V:=(xs.drop (HT.sIx xs.length 0 lo)).take (HT.sIx xs.length xs.length hi-HT.sIx xs.length 0 lo)
theorem Gf(xs:List V)(lo hi:Option Int):(eZ xs lo hi).length<=xs.length:=by unfold eZ;rw[jz,xj];omega
def qG(K:au):V->Option Int->Option Int->Hp->VK->Prop:=λx lo hi H Q=>∃a xs,x=.ref a/\SqT K H a xs/\
 ¬(HT.sIx xs.length 0 lo=0/\HT.sIx xs.length xs.length hi=xs.length)/\∀p,H p=none->Q (.ref p) (aP H p (.tup (eZ xs lo hi)))
theorem qqx:SlR X (qG X.K):=by
 intro z5 s σ H x v vl vu lo hi sl Q I rx hs pl pu h;obtain⟨a,xs,rfl,hx,hw,q⟩:=h;cases rx;obtain⟨its,r,ht,hz⟩:=I.tuple hx;have za:its.toArray.size=xs.length:=by rw[jt];exact r.length.symm
 refine⟨"tuple",_,PyProof.Rows.slot_tuple_getitem.lookup,ht.typeIs,?_⟩;refine HT.getItem_tuple_cut ht hs pl pu (by rw[za];exact hw) ?_ (by rw[za];exact hz);rw[za];refine⟨.ref s.heap.objs.size,_,I.laid (t':=s.toks) (o:=.tup (eZ xs lo hi)) (λb ob q=>j6 _ q) (j7 _) ?_,rfl,q _ (I.hok.fresh (j7 _))⟩;exact⟨jr (Gf xs lo hi) hz,_,(r.drop (HT.sIx xs.length 0 lo)).take (HT.sIx xs.length xs.length hi-HT.sIx xs.length 0 lo),TupN.new _ _⟩
theorem Vals.nil_iff{xs:List V}{us:List Value}(r:Vals xs us):us=[]↔xs=[]:=by
 cases r with
 |nil=>simp
 |cons _ _=>simp
end
def fK(n:Nat)(i:Int):Option Nat:=if 0<=i then(if i<n then some i.toNat else none)else if -(n:Int)<=i then some (i+n).toNat else none
def bO{α:Type}(xs:List α)(i:Int):Option α:=(fK xs.length i).bind λj=>xs[j]?
theorem Ea{n:Nat}{i:Int}{j:Nat}(h:fK n i=some j):seqIndex? i n=some j/\j<n/\ -(n:Int)<=i/\i<n:=by
 unfold fK at h;by_cases h0:0<=i
 ·rw[if_pos h0]at h;by_cases h1:i<n
  ·rw[if_pos h1]at h;have e:i.toNat=j:=jb h;exact⟨by rw[seqIndex_of h0 h1,e],by omega,by omega,h1⟩
  ·rw[if_neg h1]at h;cases h
 ·rw[if_neg h0]at h;by_cases h1: -(n:Int)<=i
  ·rw[if_pos h1]at h;have e:(i+n).toNat=j:=jb h;exact⟨by rw[seqIndex_neg (by omega) h1,e],by omega,h1,by omega⟩
  ·rw[if_neg h1]at h;cases h
theorem wB{α:Type}{xs:List α}{i:Int}{v:α}(h:bO xs i=some v):∃j,seqIndex? i xs.length=some j/\xs[j]? =some v/\j<xs.length/\ -(xs.length:Int)<=i/\i<xs.length:=by
 unfold bO at h;cases e:fK xs.length i with
 |none=>rw[e]at h;cases h
 | some j=>
  rw[e]at h;obtain⟨h1,h2,h3,h4⟩:=Ea e;exact⟨j,h1,h,h2,h3,h4⟩
theorem wC{α:Type}{xs:List α}{j:Nat}{v:α}(h:xs[j]? =some v):bO xs (j:Int)=some v:=by
 have hj:j<xs.length:=(List.getElem?_eq_some_iff.mp h).1;have e:fK xs.length (j:Int)=some j:=by unfold fK;rw[if_pos (by omega),if_pos (by omega)];simp
 unfold bO;rw[e];exact h
def qqa(b:Expr):Prop:=∀o i,subscripted b false o i=operate [o,i] (getItem o i)
def IxR(X:Cx)(r:R2):Prop:=
 ∀(value zf:Expr) (z5:List (Addr×Obj)) (s:Shared) (σ:St) (H:Hp) (x y:V) (v u:Value) (Q:VK),Inv X z5 σ H s->RelV x v->RelV y u->r x y H Q->
   subscripted zf false v u=operate [v,u] (getItem v u)->wpAny (model X.prog X.w) X.A (subscriptTail value zf v u) (EP X z5 σ Q) X.xe s
def MtR(X:Cx)(id:String)(r:V->List V->Hp->VK->Prop):Prop:=
 ∀(z5:List (Addr×Obj)) (s:Shared) (σ:St) (H:Hp) (x:V) (xs:List V) (v:Value) (us:List Value) (Q:VK),Inv X z5 σ H s->RelV x v->Vals xs us->r x xs H Q->
   wpAny (model X.prog X.w) X.A (call (.builtin id) (v::us)) (EP X z5 σ Q) X.xe s
section
variable{X:Cx}{a b:Expr}{ta tb:TE}{pos:Pos}
theorem IxR.or{r r':R2}(h:IxR X r)(h':IxR X r'):IxR X (λx y H Q=>r x y H Q∨r' x y H Q):=by
 intro value zf z5 s σ H x y v u Q I rx ry q hs;rcases q with q|q
 ·exact h value zf z5 s σ H x y v u Q I rx ry q hs
 ·exact h' value zf z5 s σ H x y v u Q I rx ry q hs
theorem bc{r:R2}(hr:IxR X r)(ha:PE X a ta)(hb:PE X b tb)(hs:qqa b:=by exact λ_ _=>rfl):PE X (.Subscript a b pos) (jJ r ta tb):=by intro z5 s σ H Q I h;exact Subscript_ (nC ha hb I h λv u s2 x y H2 I2 rx ry q=>hr a b z5 s2 σ H2 x y v u Q I2 rx ry q (hs _ _))
def qN(K:au):R2:=λx y H Q=>∃p xs i v,x=.ref p/\y=.int i/\SqL K H p xs/\bO xs i=some v/\Q v H
def qL(K:au):R2:=λx y H Q=>∃p xs i v,x=.ref p/\y=.int i/\SqT K H p xs/\bO xs i=some v/\Q v H
def qM:R2:=λx y H Q=>∃z i c,x=.str z/\y=.int i/\z.length<=sizeLine/\bO z.cps.toList i=some c/\Q (.str ⟨#[c]⟩) H
theorem ix_list:IxR X (qN X.K):=by
 intro value zf z5 s σ H x y v u Q I rx ry h hs;obtain⟨p,xs,i,z,rfl,rfl,hq,he,q⟩:=h;cases rx;obtain⟨t,rfl⟩:=ry;obtain⟨its,r,pl,hz⟩:=I.list hq;obtain⟨j,h1,h2,h3,h4,h5⟩:=wB he;obtain⟨w,ew,rw'⟩:=r.get h2;have hl:=r.length;have hn:=pO;have fin:EP X z5 σ Q w s:=⟨z,H,I,rw',q⟩;by_cases h0:0<=i
 ·have hj:i.toNat=j:=by
   rw[seqIndex_of h0 h5]at h1;exact jb h1
  exact item_listR pl.isList h0 (by omega) (by rw[hj];simpa using ew) fin hs
 ·have hj:(i+(its.toArray.size:Int)).toNat=j:=by
   rw[seqIndex_neg (by omega) h4]at h1;rw[jt,<-hl];exact jb h1
  exact subscriptTail_builtinR (x:=w) pl.isList.typeIs slot_list_getitem.lookup
   (wpAny_getItem_list_neg (Q:=λr s'=>r=w/\EP X z5 σ Q r s') pl.isList (by omega) (by rw[jt]<;>omega) (by omega) (by rw[hj];simpa using ew) ⟨rfl,fin⟩) hs
theorem ix_tup:IxR X (qL X.K):=by
 intro value zf z5 s σ H x y v u Q I rx ry h hs;obtain⟨p,xs,i,z,rfl,rfl,hq,he,q⟩:=h;cases rx;obtain⟨t,rfl⟩:=ry;obtain⟨its,r,pl,hz⟩:=I.tuple hq;obtain⟨j,h1,h2,h3,h4,h5⟩:=wB he;obtain⟨w,ew,rw'⟩:=r.get h2;have hl:=r.length;have hn:=pO;have fin:EP X z5 σ Q w s:=⟨z,H,I,rw',q⟩;exact subscriptTail_builtinR (x:=w) pl.typeIs slot_tuple_getitem.lookup
  (getItem_tuple (j:=j) (Q:=λr s'=>r=w/\EP X z5 σ Q r s') pl (by omega) (by omega) (by rw[jt,<-hl];exact h1) (by simpa using ew) ⟨rfl,fin⟩) hs
theorem qu3:IxR X qM:=by
 intro value zf z5 s σ H x y v u Q I rx ry h hs;obtain⟨z,i,c,rfl,rfl,hz,he,q⟩:=h;obtain⟨t,rfl⟩:=rx;obtain⟨t',rfl⟩:=ry;obtain⟨j,h1,h2,h3,h4,h5⟩:=wB he;have hl:z.cps.toList.length=z.length:=by simp[Str.length]
 rw[hl]at h1 h4 h5;have hn:=pO;exact tail_any (typeIs_str s z t) slot_str_getitem.lookup (getItem_str (c:=c) (by have e1:decide (i< -(2^63:Int))=false:=decide_eq_false (by omega);have e2:decide (i≥2^63)=false:=decide_eq_false (by omega);rw[e1,e2,Bool.or_false]) (by rw[h1];simpa using h2) ⟨.str ⟨#[c]⟩,H,I.tok _,⟨_,rfl⟩,q⟩) hs
def o6(K:au):R2:=λx y H Q=>qN K x y H Q∨qL K x y H Q∨qM x y H Q
theorem qu4:IxR X (o6 X.K):=ix_list.or (ix_tup.or qu3)
theorem qet(its:List Value)(n j:Nat)(u:Value):Obj.mapSeq (·.setIfInBounds j u) {cls:=.type "list",data:=.seq its.toArray n}={cls:=.type "list",data:=.seq (its.set j u).toArray n}:=by simp[Obj.mapSeq]
theorem Inv.lst{z5:List (Addr×Obj)}{σ:St}{H:Hp}{s:Shared}{p:Addr}{xs:List V}(I:Inv X z5 σ H s)(h:H p=some (.lst xs)):
 ∃(its:List Value) (n:Nat),Vals xs its/\s.heap.get? p=some {cls:=.type "list",data:=.seq its.toArray n}/\xs.length<=sizeLine:=by
 obtain⟨z,its,n,r,e⟩:=I.hok p _ h;exact⟨its,n,r,e,z⟩
theorem Inv.lstUpd{z5:List (Addr×Obj)}{σ:St}{H:Hp}{s:Shared}{p:Addr}{xs ys:List V}{its its':List Value}{n n':Nat}{f:Obj->Obj}(I:Inv X z5 σ H s)(h:H p=some (.lst xs))
 (ho:s.heap.get? p=some {cls:=.type "list",data:=.seq its.toArray n}) (hf:f {cls:=.type "list",data:=.seq its.toArray n}={cls:=.type "list",data:=.seq its'.toArray n'}) (r:Vals ys its') (hz:ys.length<=sizeLine) (t:Nat):
 Inv X z5 σ (aP H p (.lst ys)) {s with heap:=s.heap.update p f,toks:=t}:=by
 have e:(s.heap.update p f).get? p=some {cls:=.type "list",data:=.seq its'.toArray n'}:=by rw[k8 f ho (by rw[hf]<;>rfl),hf]
 refine I.write (x:=p) (e:=p) (by rw[h];trivial) (.inl rfl) (λb u hb q=>(xx _ _ (Ne.symm hb)).trans q) ⟨_,e⟩ ?_;exact⟨hz,its',n',r,e⟩
def CO:V->V->V->Hp->(Hp->Prop)->Prop:=λo i v H Q=>∃p xs k j,o=.ref p/\i=.int k/\H p=some (.lst xs)/\fK xs.length k=some j/\Q (aP H p (.lst (xs.set j v)))
theorem jD:nS X CO:=by
 intro z5 s σ H o i v ov iv u Q I ro ri rv h;obtain⟨p,xs,k,j,rfl,rfl,hp,hj,q⟩:=h;cases ro;obtain⟨t,rfl⟩:=ri;obtain⟨its,n,r,ho,hz⟩:=I.lst hp;obtain⟨h1,h2,h3,h4⟩:=Ea hj;have hl:=r.length;have hn:=pO;have I':Inv X z5 σ (aP H p (.lst (xs.set j v))) {s with heap:=s.heap.update p (Obj.mapSeq (·.setIfInBounds j u))}:=
  I.lstUpd hp ho (qet its n j u) (r.set rv j) (by rw[x6];exact hz) s.toks
 by_cases h0:0<=k
 ·have hk:k.toNat=j:=by
   rw[seqIndex_of h0 h4]at h1;exact jb h1
  exact W.ki_setAt ho h0 (by omega) (by rw[jt,<-hl];exact h4) (by rw[hk];exact⟨_,I',q⟩)
 ·have hk:(k+(its.toArray.size:Int)).toNat=j:=by
   rw[seqIndex_neg (by omega) h3]at h1;rw[jt,<-hl];exact jb h1
  exact W.ki_setBack ho (by omega) (by rw[jt,<-hl];exact h3) (by omega) (by rw[hk];exact⟨_,I',q⟩)
theorem qa2(lo hi:Option Int)(n:Nat):(sliceBounds lo hi none n).1=((HT.sIx n 0 lo:Nat):Int)/\(sliceBounds lo hi none n).2.1=((HT.sIx n n hi:Nat):Int)/\(sliceBounds lo hi none n).2.2=1:=by
 refine⟨?_,?_,rfl⟩
 ·cases lo with
  |none=>simp[sliceBounds,HT.sIx]
  | some i=>
   simp only[sliceBounds,HT.sIx,Option.getD_none,show(1:Int)>0 by decide,if_true];by_cases h:i<0
   ·simp only[h,if_true]<;>omega
   ·simp only[h,if_false]<;>omega
 ·cases hi with
  |none=>simp[sliceBounds,HT.sIx]
  | some i=>
   simp only[sliceBounds,HT.sIx,Option.getD_none,show(1:Int)>0 by decide,if_true];by_cases h:i<0
   ·simp only[h,if_true]<;>omega
   ·simp only[h,if_false]<;>omega
theorem q8s(its:List Value)(lo hi:Option Int):slicePick its.toArray lo hi none=((its.drop (HT.sIx its.length 0 lo)).take (HT.sIx its.length its.length hi-HT.sIx its.length 0 lo)).toArray:=by obtain⟨h1,h2,h3⟩:=qa2 lo hi its.toArray.size;unfold slicePick;rw[h1,h2,h3];simp only[sliceRange_one,pick_run,List.size_toArray]<;>rfl
def qH(K:au):V->Option Int->Option Int->Hp->VK->Prop:=λx lo hi H Q=>∃a xs,x=.ref a/\SqL K H a xs/\∀p,H p=none->Q (.ref p) (aP H p (.lst (eZ xs lo hi)))
theorem sl_list:SlR X (qH X.K):=by intro z5 s σ H x v vl vu lo hi sl Q I rx hs pl pu h;obtain⟨a,xs,rfl,hx,q⟩:=h;cases rx;obtain⟨its,r,ht,hz⟩:=I.list hx;have za:=r.length;refine⟨"list",_,slot_list_getitem.lookup,ht.isList.typeIs,?_⟩;refine wpAny_getItem_list_slice ht.isList hs pl pu .none (by simp) ?_ (by rw[List.size_toArray]<;>omega);rw[q8s,<-za];refine⟨.ref s.heap.objs.size,_,I.laid (t':=s.toks) (o:=.lst (eZ xs lo hi)) (λb ob q=>j6 _ q) (j7 _) ?_,rfl,q _ (I.hok.fresh (j7 _))⟩;exact⟨jr (Gf xs lo hi) hz,_,0,(r.drop (HT.sIx xs.length 0 lo)).take (HT.sIx xs.length xs.length hi-HT.sIx xs.length 0 lo),jj _ rfl⟩
theorem qax:gB X (.builtin "len") (λxs H Q=>∃p ys,xs=[.ref p]/\(SqL X.K H p ys∨SqT X.K H p ys)/\Q (.int ys.length) H):=by
 intro z5 s σ H xs us Q I r h;obtain⟨p,ys,rfl,hq,q⟩:=h;obtain⟨u,rfl,rx⟩:=cQ r;cases rx;have hn:=pO;rcases hq with hq|hq
 ·obtain⟨its,r',pl,hz⟩:=I.list hq;have za:=r'.length;exact Calls.call_len_list pl.isList (by simp only[List.size_toArray]<;>omega) ⟨.int ys.length,H,I.tok _,⟨s.toks+1,by rw[jt,za]⟩,q⟩
 ·obtain⟨its,r',pl,hz⟩:=I.tuple hq;have za:=r'.length;exact len_tuple pl (by simp only[List.size_toArray]<;>omega) ⟨.int ys.length,H,I.tok _,⟨s.toks+1,by rw[jt,za]⟩,q⟩
theorem qaw:gB X (.type "list") (λxs H Q=>∃p ys,xs=[.ref p]/\(SqL X.K H p ys∨SqT X.K H p ys)/\∀l,H l=none->Q (.ref l) (aP H l (.lst ys))):=by
 intro z5 s σ H xs us Q I r h;obtain⟨p,ys,rfl,hq,q⟩:=h;obtain⟨u,rfl,rx⟩:=cQ r;cases rx;have fin:∀(its:List Value),Vals ys its->ys.length<=sizeLine->∀(h':Heap) (c':Nat),(∀b o',s.heap.get? b=some o'->h'.get? b=some o')->
  h'.get? s.heap.objs.size=some {cls:=.type "list",dict:=none,data:=.seq its.toArray c',slots:=#[]}->EP X z5 σ Q (.ref s.heap.objs.size) {s with heap:=h'}:=λits r' hz h' c' kp e=>
  ⟨.ref s.heap.objs.size,_,I.laid (t':=s.toks) kp (j7 _) (show ObjOk X.prog X.w _ h' _ (.lst ys)from⟨hz,its,c',r',e⟩),rfl,q _ (I.hok.fresh (j7 _))⟩
 rcases hq with hq|hq
 ·obtain⟨its,r',pl,hz⟩:=I.list hq;have za:=r'.length;obtain⟨o,ho,hc,n,hd⟩:=pl.isList;exact call_list_seq p (.inl rfl) ho hc hd (λh' c' kp e=>fin its r' hz h' c' kp e) (by simp only[List.size_toArray]<;>omega)
 ·obtain⟨its,r',pl,hz⟩:=I.tuple hq;have za:=r'.length;obtain⟨o,ho,hc,n,hd⟩:=pl;exact call_list_seq p (.inr rfl) ho hc hd (λh' c' kp e=>fin its r' hz h' c' kp e) (by simp only[List.size_toArray]<;>omega)
theorem q9n:gB X (.type "tuple") (λxs H Q=>∃p ys,xs=[.ref p]/\((SqL X.K H p ys/\∀l,H l=none->Q (.ref l) (aP H l (.tup ys)))∨(SqT X.K H p ys/\Q (.ref p) H))):=by
 intro z5 s σ H xs us Q I r h;obtain⟨p,ys,rfl,h⟩:=h;obtain⟨u,rfl,rx⟩:=cQ r;cases rx;rcases h with⟨hq,q⟩|⟨hq,q⟩
 ·obtain⟨its,r',pl,hz⟩:=I.list hq;have za:=r'.length;refine call_tuple_list pl.isList (λh' kp=>?_) (by simp only[List.size_toArray]<;>omega);have I1:Inv X z5 σ H {s with heap:=h'}:=I.kept (t':=s.toks) kp;have I2:Inv X z5 σ (aP H h'.objs.size (.tup ys)) {s with heap:=h'.push {cls:=.type "tuple",data:=.seq its.toArray}}:=
   I1.laid (t':=s.toks) (λb o e=>j6 _ e) (j7 _) (show ObjOk X.prog X.w _ _ _ (.tup ys)from⟨hz,its,r',TupN.new _ _⟩)
  exact⟨.ref h'.objs.size,_,I2,rfl,q _ (I1.hok.fresh (j7 _))⟩
 ·obtain⟨its,r',pl,hz⟩:=I.tuple hq;exact call_tuple_same pl ⟨.ref p,H,I,rfl,q⟩
def B5(K:au)(T:String)(x:V)(H:Hp):Prop:=match x with
 |.str _=>T="str"
 |.int _=>T="int"
 |.ref p=>(T="list"/\∃xs,SqL K H p xs)∨(T="tuple"/\∃o,K.lookup p=some o/\o.cls=.type "tuple"/\o.dict=none)∨
  (T="dict"/\((∃kvs,H p=some (.dK kvs))∨∃kvs,H p=some (.dT kvs)))∨(T="set"/\∃S n,H p=some (.set S n))
 |_=>False
theorem qqf{z5:List (Addr×Obj)}{σ:St}{H:Hp}{s:Shared}{T:String}{x:V}{v:Value}(I:Inv X z5 σ H s)(r:RelV x v)(ty:B5 X.K T x H):
 s.TypeIs v T/\∀a,v=.ref a->∃ob,s.heap.get? a=some ob/\ob.dict=none:=by
 cases x with
 | str z=>
  obtain⟨t,rfl⟩:=r;cases(show T="str" from ty);exact⟨typeIs_str s z t,λ_ e=>nomatch e⟩
 | int i=>
  obtain⟨t,rfl⟩:=r;cases(show T="int" from ty);exact⟨typeIs_int s i t,λ_ e=>nomatch e⟩
 | ref p=>
  cases r;rcases ty with⟨rfl,xs,hq⟩|⟨rfl,o,hk,hc,hd⟩|⟨rfl,hk⟩|⟨rfl,S,n,hk⟩
  ·obtain⟨its,_,pl,_⟩:=I.list hq;refine⟨pl.isList.typeIs,λa e=>?_⟩;cases e;obtain⟨o,n,e,c,hd,_⟩:=pl;exact⟨o,e,hd⟩
  ·refine⟨⟨o,I.kIn p o hk,hc⟩,λa e=>?_⟩;cases e;exact⟨o,I.kIn _ o hk,hd⟩
  ·have z:∃o,s.heap.get? p=some o/\o.ExactDict:=by
    rcases hk with⟨kvs,hk⟩|⟨kvs,hk⟩
    ·obtain⟨_,_,_,_,o,_,e,ex,_⟩:=I.hok p _ hk;exact⟨o,e,ex⟩
    ·obtain⟨_,_,_,_,o,_,_,e,ex,_⟩:=I.hok p _ hk;exact⟨o,e,ex⟩
   obtain⟨o,e,ex⟩:=z;refine⟨⟨o,e,ex.1⟩,λa e2=>?_⟩;cases e2;exact⟨o,e,ex.2.1⟩
  ·obtain⟨o,_,_,_,e,ex,_⟩:=I.hok p _ hk;refine⟨⟨o,e,ex.1⟩,λa e2=>?_⟩;cases e2;exact⟨o,e,ex.2.1⟩
 |_=>exact False.elim ty
def rV(K:au)(T:String)(r:V->List V->Hp->VK->Prop)(to:TE)(t:TA):TE:=λσ H Q=>to σ H λx H1=>B5 K T x H1/\t σ H1 λxs H2=>r x xs H2 Q
variable{o e:Expr}{es:List Expr}{to:TE}{t:TA}{name:Str}{zt zm:Pos}{T id:String}{r:V->List V->Hp->VK->Prop}
theorem lO(pa:PlainAttrs T)(slot:Slot T name id)(hty:typeOf (.builtin id)=pure (.type "method_descriptor"))(hm:MtR X id r)(ho:PE X o to)(ha:PA X (e::es) t)
 (hbase:attributeBase o name X.env (eval o X.env)=eval o X.env:=by rfl)
 (hfew:((backTo zm (starEach (e::es) X.env)).all (λx=>!x.1)&&(backToKw zm (keywordEach [] X.env)).all (λx=>x.1.isSome)
   &&decide ((e::es).length+([]:List Keyword).length+(if([]:List Keyword).isEmpty then 0 else 1)<30))=true:=by rfl)
 (hline:(zt.endLine==zm.line)=true:=by rfl) (hs:starEach (e::es) X.env=(false,eval e X.env)::starEach es X.env:=by rfl) (hplain:(backTo zm (starEach es X.env)).any (·.1)=false:=by rfl):
 PE X (.Call (.Attribute o name zt) (e::es) [] zm) (rV X.K T r to t):=by
 intro z5 s σ H Q I h;refine wpAny_Call_method_late hbase hfew hline rfl (bd (ho z5 s σ H _ I h) λv s1 ⟨x,H1,I1,r1,ty,q1⟩=>?_);obtain⟨h1,h2⟩:=qqf I1 r1 ty;refine⟨T,id,pa,slot,hty,h1,h2,?_⟩;have hA:=ha zm z5 s1 σ H1 _ I1 q1;rw[hs]at hA ⊢;refine Calls.callWith_builtin (by show(false||(backTo zm (starEach es X.env)).any (·.1))=false;rw[hplain]<;>rfl) (Calls.evalArgs_plain ?_);exact bd hA λus s2 ⟨vs,H2,I2,r2,q2⟩=>hm z5 s2 σ H2 x vs v us Q I2 r1 r2 q2
end
def GD(X:Cx)(id:String)(r:V->List V->Hp->VK->Prop):Prop:=
 ∀(z5:List (Addr×Obj)) (s:Shared) (σ:St) (H:Hp) (x:V) (xs:List V) (v:Value) (us:List Value) (Q:VK),Inv X z5 σ H s->RelV x v->Vals xs us->r x xs H Q->
   wpAny (model X.prog X.w) X.A (call (.builtin id) (v::us)) (EP X z5 σ Q) X.xe s
theorem Vals.one:∀{x:V} {us:List Value},Vals [x] us->∃u,us=[u]/\RelV x u
 |_,_,.cons r .nil=>⟨_,rfl,r⟩
theorem Vals.reverse{xs:List V}{us:List Value}(h:Vals xs us):Vals xs.reverse us.reverse:=by
 induction h with
 |nil=>exact .nil
 |cons r t ih=>rw[List.reverse_cons,List.reverse_cons];exact Vals.append ih (.cons r .nil)
theorem Vals.rep{xs:List V}{us:List Value}(h:Vals xs us):∀k:Nat,Vals (List.replicate k xs).flatten (List.replicate k us).flatten
 |0=>.nil
 | k+1=>by rw[List.replicate_succ,List.replicate_succ,List.flatten_cons,List.flatten_cons];exact Vals.append h (Vals.rep h k)
theorem d7(its:List Value):∀(k:Nat) (acc:List Value),
 List.foldl (λx1 x2=>x1++x2) acc.toArray (List.replicate k its.toArray)=(acc++(List.replicate k its).flatten).toArray
 |0,acc=>by simp
 | k+1,acc=>by
  have e:acc.toArray++its.toArray=(acc++its).toArray:=by simp
  have e2:(acc++its)++(List.replicate k its).flatten=acc++(List.replicate (k+1) its).flatten:=by rw[List.replicate_succ,List.flatten_cons,List.append_assoc]
  rw[<-e2,<-d7 its k (acc++its),<-e,List.replicate_succ,List.foldl_cons]
section
variable{X:Cx}{z5:List (Addr×Obj)}{σ:St}{H:Hp}{s:Shared}{l b:Addr}{xs ys zs:List V}
theorem Inv.lset{its its':List Value}{n:Nat}{f:Array Value->Array Value}{t':Nat}(I:Inv X z5 σ H s)(hH:H l=some (.lst xs))
 (e:s.heap.get? l=some {cls:=.type "list",data:=.seq its.toArray n}) (hf:f its.toArray=its'.toArray) (hv:Vals ys its') (hz:ys.length<=sizeLine):
 Inv X z5 σ (aP H l (.lst ys)) {s with heap:=s.heap.update l (Obj.mapSeq f),toks:=t'}:=by
 have q:=PySem.IsL.update e f;rw[hf]at q;refine I.write (x:=l) (e:=l) (by rw[hH];exact trivial) (.inl rfl) (λb' u hb hu=>(xx s.heap (Obj.mapSeq f) (Ne.symm hb)).trans hu) ⟨_,q⟩ ?_;exact⟨hz,its',_,hv,q⟩
theorem Inv.lnew{its:List Value}{t':Nat}(I:Inv X z5 σ H s)(hv:Vals ys its)(hz:ys.length<=sizeLine):
 Inv X z5 σ (aP H s.heap.objs.size (.lst ys)) {s with heap:=s.heap.push {cls:=.type "list",data:=.seq its.toArray},toks:=t'}:=
 I.laid (λ_ _ q=>j6 _ q) (j7 _) ⟨hz,its,0,hv,jj _ rfl⟩
theorem Inv.fresh(I:Inv X z5 σ H s):H s.heap.objs.size=none:=I.hok.fresh (j7 _)
theorem Inv.lstM(I:Inv X z5 σ H s)(hH:H l=some (.lst xs)):xs.length<=sizeLine/\∃(its:List Value) (n:Nat),Vals xs its/\xs.length=its.length/\s.heap.get? l=some {cls:=.type "list",data:=.seq its.toArray n}:=by obtain⟨z,its,n,r,e⟩:=I.hok l _ hH;exact⟨z,its,n,r,r.length,e⟩
theorem EV{n:Nat}(h:n<=sizeLine):Builtin.List.listTooLong n=false:=by unfold Builtin.List.listTooLong;exact decide_eq_false (by omega)
end
section
variable{X:Cx}
def wZ:V->List V->Hp->VK->Prop:=λx vs H Q=>∃l xs y,x=.ref l/\vs=[y]/\H l=some (.lst xs)/\xs.length<sizeLine/\Q .non (aP H l (.lst (xs++[y])))
theorem mT:GD X "list.append" wZ:=by intro z5 s σ H x vs v us Q I rx rv h;obtain⟨l,xs,y,rfl,rfl,hH,hz,q⟩:=h;cases rx;obtain⟨u,rfl,ru⟩:=rv.one;obtain⟨z,its,n,r,hl,e⟩:=I.lstM hH;refine call_meets F.slot_list_append ⟨_,e,rfl⟩ F.entry_list_append (F.args_list_append_2 _ _) (PySem.list_append l its.toArray n u (by rw[jt];omega)) ⟨e,?_⟩;refine⟨.non,_,I.lset (its':=its++[u]) hH e (by simp) (r.append (.cons ru .nil)) ?_,rfl,q⟩;rw[je,List.length_singleton];omega
def Em:V->List V->Hp->VK->Prop:=λx vs H Q=>∃l b xs zs,x=.ref l/\vs=[.ref b]/\H l=some (.lst xs)/\H b=some (.lst zs)/\xs.length+zs.length<=sizeLine/\Q .non (aP H l (.lst (xs++zs)))
theorem qhj:GD X "list.extend" Em:=by
 intro z5 s σ H x vs v us Q I rx rv h;obtain⟨l,b,xs,zs,rfl,rfl,hH,hB,hz,q⟩:=h;cases rx;obtain⟨u,rfl,ru⟩:=rv.one;cases ru;obtain⟨z,its,n,r,hl,e⟩:=I.lstM hH;obtain⟨z2,its2,n2,r2,hl2,e2⟩:=I.lstM hB;have hsz:its.toArray.size+its2.toArray.size<=sizeLine:=by rw[jt,jt];omega
 have hlong:¬(!its.toArray.isEmpty&&Builtin.List.listTooLong (its.toArray.size+its2.toArray.size))=true:=by rw[EV hsz,Bool.and_false];exact Bool.false_ne_true
 refine call_meets F.slot_list_extend ⟨_,e,rfl⟩ F.entry_list_extend (F.args_list_extend_2 _ _)
  (AutoSeq1.list_extend_list_list_0 l its.toArray n b its2.toArray n2 hlong (by rw[jt];omega) (by omega)) ⟨e,e2,?_⟩
 refine⟨.non,_,I.lset (its':=its++its2) hH e (by simp) (r.append r2) ?_,rfl,q⟩;rw[je];omega
def qI:R2:=λx y H Q=>∃l k xs,x=.ref l/\y=.int k/\H l=some (.lst xs)/\ -(2^63)<=k/\k<2^63/\xs.length*k.toNat<=sizeLine/\
 ∀p,H p=none->Q (.ref p) (aP H p (.lst (List.replicate k.toNat xs).flatten))
theorem im{α:Type}(xs:List α)(k:Nat):(List.replicate k xs).flatten.length=k*xs.length:=by
 induction k with
 |zero=>simp
 |succ k ih=>rw[List.replicate_succ,List.flatten_cons,je,ih,Nat.succ_mul,Nat.add_comm]
theorem sS:OpR X (binaryOp .Mult) qI:=by
 intro z5 s σ H x y v u Q I rx ry h;obtain⟨l,k,xs,rfl,rfl,hH,h1,h2,hz,q⟩:=h;cases rx;obtain⟨t,rfl⟩:=ry;obtain⟨z,its,n,r,hl,e⟩:=I.lstM hH;have za:its.toArray.size*k.toNat<=sizeLine:=by rw[jt,<-hl];exact hz
 have hcap:¬its.toArray.size*k.toNat>(2^63-1) / 8:=by
  have:(sizeLine:Nat)<=(2^63-1) / 8:=by decide
  omega
 have hfit:¬(!Builtin.List.listFitsIndex k)=true:=by rw[fitsIndex_both h1 h2];exact Bool.false_ne_true
 have hlong:¬Builtin.List.listTooLong (its.toArray.size*k.toNat)=true:=by rw[EV za];exact Bool.false_ne_true
 have hnew:List.foldl (λx1 x2=>x1++x2) #[] (List.replicate (if its.toArray.isEmpty=true then 0 else k.toNat) its.toArray)=(List.replicate k.toNat its).flatten.toArray:=by
  have f0:∀m:Nat,List.foldl (λx1 x2=>x1++x2) #[] (List.replicate m its.toArray)=(List.replicate m its).flatten.toArray:=λm=>by have:=d7 its m [];rw[List.nil_append]at this;exact this
  rw[f0];cases its with
  |nil=>simp
  |cons a r'=>rw[if_neg (by simp)]
 refine wpAny_binaryOp_repeat_ref (T:="list") (U:="int") (by decide) ⟨_,e,rfl⟩ (λs'=>typeIs_int s' k t) noFill_list_mul F.fills_int_mul F.slot_int_rmul repeat_list F.slot_int_index.lookup
  (call_meets F.slot_int_rmul (typeIs_int s k t) F.entry_int_rmul (F.args_int_rmul_2 _ _) (int___rmul___int_list k t l its.toArray n)
    ⟨e,rfl,⟨_,e,rfl⟩,call_meets F.slot_list_mul ⟨_,e,rfl⟩ F.entry_list_mul (F.args_list_mul_2 _ _) (AutoListH.list___mul___list_int_3 l its.toArray n k t hfit hcap hlong) ⟨e,?_⟩⟩)
 rw[hnew];exact⟨.ref _,_,I.lnew (t':=s.toks) (r.rep k.toNat) (by rw[im,Nat.mul_comm];exact hz),rfl,q _ I.fresh⟩
end
section
variable{prog:Program}{w:World}{A:Around}{E:Value->Shared->Prop}{s:Shared}
end
section
variable{X:Cx}
end
end L2
namespace Att
open PySem PySem.W PySem.Calls PyProof.Rows
theorem q7m{P:Params}{h:Heap}:∀(ns:List Int) (vs:List Value),WellAll P h vs (ns.map WData.int)->IntsAre vs ns:=by
 intro ns;induction ns with
 | nil=>
  intro vs w;rw[List.map_nil]at w;cases w;exact .nil
 | cons n ns ih=>
  intro vs w;rw[jo]at w;cases w with
  | cons a b=>
   cases a;exact .cons _ _ (ih _ b)
theorem qfw{l:OpenLaw}{n:Nat}(hn:l.most=some n){P:Params}{h:Heap}{args:List WData}{vals:List Value}
 (hpre:l.row.toRowW.claim.pre args=true) (hwl:WellAll P h vals args):
 ∃a vs ns,vals=[Value.ref a]/\args=[WData.list (ns.map WData.int)]/\h.get? a=some {cls:=.type "list",data:=.seq vs.toArray}/\IntsAre vs ns/\ns.length<=n:=by
 have hsh:WShape.hasAll [] args [.list .int]=true:=(pre_splitW hpre).1;have hc:l.pre.holds [] {args:=args}=true:=(pre_splitW hpre).2;obtain⟨d,r,rfl,h1,h2⟩:=hasAllW_cons hsh;obtain rfl:=hasAllW_nil h2;obtain⟨xs,rfl,h3⟩:=hasW_list h1;obtain⟨ns,rfl⟩:=items_int h3;have za:ns.length<=n:=by
  unfold OpenLaw.pre at hc;have h4:(WTm.not (.lt (.lit (.int (n:Int))) (.len (.arg 0)))).holds [] {args:=[.list (ns.map .int)]}=true:=by have h4:=(holds_andW hc).1;rw[hn]at h4;exact h4
  have h5:=condW_of h4 (w_not (w_lt w_lit (w_len_list (w_arg rfl))));rw[j3]at h5;refine Nat.le_of_not_lt λq=>?_;have q':(n:Int)<((ns.length:Nat):Int):=by omega
  first
   |(rw[decide_eq_true q']at h5;exact absurd h5 (by decide))
   |(simp at h5;omega)
 cases hwl with
 | cons w1 w2=>
  cases w2;cases w1 with
  |list ho hall=>exact⟨_,_,ns,rfl,rfl,ho,q7m ns _ hall,za⟩
theorem qgv(l:OpenLaw)(args:List WData):l.row.toRowW.claim.post args (.bool true) args=true:=
 postW_of (r:=l.row.toRowW) (X:=(true==true))
  (show WShape.has [] (.bool true) .bool=true by first|rfl|decide|simp[WShape.has,WShape.arms,WShape.armsAll])
  (show(WTm.eq .res (.lit (.bool true))).value [] {args:=args,res:=some (.bool true),after:=args}=some (.bool (true==true))from w_eq_bool (w_res rfl) w_lit) rfl
theorem attach_call{l:OpenLaw}{n:Nat}{q:Program}{loose:List Str}{XP:(Str->Option Value)->Heap->Prop}{YP:World->Heap->Prop}{d:DefRec}
 (hn:l.most=some n) (hdf:d.params.defaults=[])
 (call:∀(w:World) (s₀ s₁:Shared) (mg mb:Str->Option Value) (fa:Addr) (o:Obj) (pm cd doc:Value) (a:Addr) (vs:List Value) (ns:List Int),
   Ground q loose [] XP w s₀ mg mb s₁.heap->YP w s₁.heap->
   s₁.heap.get? fa=some o->o.data=.func (docDef d.name d.params d.body d.scope pm cd doc)->s₁.heap.CodeRec cd d.name->mg d.name=some (.ref fa)->
   s₁.heap.get? a=some {cls:=.type "list",data:=.seq vs.toArray}->IntsAre vs ns->ns.length<=n->s₁.gens=#[]->
   codeAny (model l.prog w) callerA (.call (.ref fa) ⟨[.ref a],[]⟩) (λr s'=>r=.ok (.ret (.bool true))/\OldK s₁.heap s'.heap/\s'.os=s₁.os/\AllBare s'.gens) s₁):
 WalkO q loose XP YP l.row.toRowW d [] (λf vs=>PySem.call f vs):=by
 intro w s₀ s₁ mg mb G Y fa o pm cd doc dV kV ho hd hcd hD hmg hg args vals as hpre hlay hrd hwl hlo;obtain rfl:dV=.none:=Dflts.none hD hdf;obtain rfl:kV=.none:=Dflts.noKw hD;obtain⟨a,vs,ns,rfl,rfl,hobj,zy,za⟩:=qfw hn hpre hwl;refine enter_call (codeAny_mono (call w s₀ s₁ mg mb fa o pm cd doc a vs ns G Y ho (fd_plain hd) hcd hmg hobj zy za hg) λr s' hq=>?_);obtain⟨rfl,h2,h3,h4⟩:=hq;exact⟨.inl ⟨.bool true,.bool true,[],rfl,λ_=>rfl,.bool true,qgv l _,λ_=>⟨List.Pairwise.nil,λ_ hm=>(nomatch hm)⟩⟩,h2,h3,h4⟩
section
variable{prog:Program}{w:World}{A:Around}{E:Value->Shared->Prop}{s:Shared}{K:Frag}
end
end Att
namespace L2
open PySem PySem.Spec PyProof.Rows
theorem FM:∀{vs:List Value} {ns:List Int},IntsAre vs ns->Vals (ns.map V.int) vs
 |_,_,.nil=>.nil
 |_,_,.cons n t h=>.cons ⟨t,rfl⟩ (FM h)
def dX(s:Stmt)(j:Nat):Stmt:=match s with
 |.ClassDef _ _ _ body _ _ _ _ _ _ _=>body.getD j (.Pass ⟨0,0,0,0⟩)
 |_=>.Pass ⟨0,0,0,0⟩
def ie(s:Stmt):Arguments:=match s with
 |.FunctionDef _ a _ _ _ _ _ _ _ _=>a
 |_=>{posonlyargs:=[],args:=[],vararg:=none,kwonlyargs:=[],kw_defaults:=[],kwarg:=none,defaults:=[]}
def fJ(s:Stmt):List Stmt:=match s with
 |.FunctionDef _ _ b _ _ _ _ _ _ _=>b
 |_=>[]
def aN(s:Stmt):Scope:=match s with
 |.FunctionDef _ _ _ _ _ _ sc _ _ _=>sc
 |_=>{kind:=.function,names:=[],isGenerator:=false,isCoroutine:=false}
abbrev bB:il:=λ_ _ _ _ _ _=>False
abbrev E0:XK:=λ_ _ _=>False
theorem lX{X:Cx}:ox bB X E0:=λ_ _ _ _ _ _ _ h=>h.elim
structure Fun(K:au)(x qual:Str)(st:Stmt)(f:Addr)(fd:FuncData):Prop where
 ex:∃(oc:Value) (od:Option Addr) (kV doc pm:Value) (an:Option Addr) (cdv ct:Value) (osl:Array (Option Value)),
  fd=W.fnOf x qual (ie st) (fJ st) (aN st) .none kV doc pm an cdv ct/\K.lookup f=some ⟨oc,od,.func fd,osl⟩/\W.codeIn K cdv qual=true
 kp:W.keepIn K (.ref f)=true
section
variable{P:Program}{w:World}{K:au}{mg:Str->Option Value}{base:Heap}
theorem Fun.ok{x qual:Str}{st:Stmt}{f:Addr}{fd:FuncData}{N ps:List Str}{k:Nat}{sp:Sp}(F:Fun K x qual st f fd)(S:q0n N ps (aN st))(len:∀vs H Q E,sp vs H Q E->vs.length=ps.length)
 (ze:∀(cdv:Value) (A:Around) (outer:List Env) (s:Shared) (H:Hp) (vs:List V) (Q:VK) (E:XK),Room k (A.deeper (envOfC qual (aN st) s.heap.objs.size f cdv))->sp vs H Q E->
   ∃t,PSs (eY bB P w K mg base N qual (aN st) f cdv A outer s H E).nox (fJ st) t/\t {nx:=λ_ H'=>Q .non H',rt:=Q} (aZ N vs) H):FnOk P w K mg base bB (k+1) f fd ps sp:=by
 obtain⟨oc,od,kV,doc,pm,an,cdv,ct,osl,rfl,lk,hcd⟩:=F.ex;refine u8 lk hcd S len λA outer s H vs Q E hr hsp=>?_;obtain⟨t,h,q⟩:=ze cdv A outer s H vs Q E hr hsp;exact⟨t,h.nox,q⟩
theorem quc{x qual:Str}{st:Stmt}{f:Addr}{oc:Value}{od an:Option Addr}{osl:Array (Option Value)}{kV doc pm cdv ct:Value}(l:K.lookup f=some ⟨oc,od,.func (W.fnOf x qual (ie st) (fJ st) (aN st) .none kV doc pm an cdv ct),osl⟩)
 (c:W.codeIn K cdv qual=true) (k:W.keepIn K (.ref f)=true):Fun K x qual st f (W.fnOf x qual (ie st) (fJ st) (aN st) .none kV doc pm an cdv ct):=⟨⟨oc,od,kV,doc,pm,an,cdv,ct,osl,rfl,l,c⟩,k⟩
end
section
variable{X:Cx}
theorem pv(i:Nat){x:Str}{pos:Pos}(hN:X.N[i]? =some x:=by rfl)(hv:km X.env.scope x:=by first|exact Or.inl rfl|exact Or.inr (Or.inl rfl)|exact Or.inr (Or.inr rfl))(hd:(x==("__debug__":Str))=false:=by decide)
 (hcd:(x==("__classdict__":Str))=false:=by decide):PE X (.Name x pos) (dJ i):=qrz hN hv hd hcd
end
theorem fV{A B:Prop}(h:B):if false=true then A else B:=by rw[if_neg Bool.false_ne_true];exact h
theorem fU{A B:Prop}(h:A):if true=true then A else B:=by rw[if_pos rfl];exact h
def Same(H H':Hp):Prop:=∀b o,H b=some o->H' b=some o
theorem Same.refl(H:Hp):Same H H:=λ_ _ h=>h
theorem Same.trans{H H1 H2:Hp}(a:Same H H1)(b:Same H1 H2):Same H H2:=λc o h=>b c o (a c o h)
theorem Same.free{H H':Hp}(e:Same H H'){l:Addr}(h:H' l=Option.none):H l=Option.none:=by
 cases q:H l with
 |none=>rfl
 | some o=>
  rw[e l o q]at h;cases h
section
variable{X:Cx}{z5:List (Addr×Obj)}{σ:St}{H:Hp}{s:Shared}
theorem Inv.track{d:Addr}{o:HO}(I:Inv X z5 σ H s)(hn:H d=none)(hy:X.s₀.heap.objs.size<=d)(hL:d≠X.env.locals)(hc:∀x c,X.env.cells.lookup x=some c->c≠d)
 (hp:∀p∈X.pn++z5,p.1≠d) (new:ObjOk X.prog X.w (aP H d o) s.heap d o):Inv X z5 σ (aP H d o) s:=by
 have old:∀b ob,X.s₀.heap.get? b=some ob->b≠d:=λb ob e=>jh (jn (j5 e) hy);have was:∀b u,H b=some u->b≠d:=λb u e=>gp e hn;refine⟨I.ok,I.os,I.bare,⟨I.base.keep,I.base.slot,λb ob e n hx=>?_,I.base.there,λb xs e=>?_,λb ob u e=>?_,λb ps e=>?_⟩,I.loc,I.cell,?_,λx c e=>?_,λp z=>?_,λb u e=>?_,I.len⟩
 ·rw[aU (old b ob e)];exact I.base.free b ob e n hx
 ·have q:=I.base.tups b xs e;rw[aU (was b _ q)];exact q
 ·have q:=I.base.frzs b ob u e;rw[aU (was b _ q)];exact q
 ·obtain⟨m,q⟩:=I.base.tbls b ps e;exact⟨m,by rw[aU (was b _ q)];exact q⟩
 ·rw[aU (Ne.symm hL)];exact I.free
 ·rw[aU (hc x c e)];exact I.freeC x c e
 ·obtain⟨e,n,r⟩:=I.pin p z;exact⟨e,by rw[aU (hp p z)];exact n,r⟩
 ·by_cases hb:b=d
  ·subst hb;rw[cM]at e;cases e;exact new
  ·rw[aU hb]at e;refine(I.hok b u e).stay (λc v _ q=>q) (λc q=>?_) λc xs q=>?_
   ·rw[aU (was c _ q)];exact q
   ·rw[aU (was c _ q)];exact q
end
theorem yt{env:Env}:∀(names:List (Str×NameKind)) (acc:List (Str×Addr)),(∀y∈names,y.2=.free->∃c,env.cells.lookup y.1=some c)->
 ∃cl,(forIn names acc λ(p:Str×NameKind) (cs:List (Str×Addr))=>(if(p.2==NameKind.free)=true then do let c <-cellOf env p.1;pure (ForInStep.yield ((p.1,c)::cs))else pure (ForInStep.yield cs):Sem (ForInStep (List (Str×Addr)))))=pure cl/\
  (∀x c,cl.lookup x=some c->acc.lookup x=some c∨env.cells.lookup x=some c)/\(∀x c,acc.lookup x=some c->∃c',cl.lookup x=some c')/\∀y∈names,y.2=.free->∃c,cl.lookup y.1=some c
 |[],acc,_=>⟨acc,rfl,λ_ _ h=>.inl h,λ_ c h=>⟨c,h⟩,λ_ h=>nomatch h⟩
 | (n,k)::r,acc,hh=>by
  by_cases hk:k=.free
  ·subst hk;obtain⟨c,hc⟩:=hh (n,.free) ja rfl;obtain⟨cl,e,h1,h2,h3⟩:=yt (env:=env) r ((n,c)::acc) λy hy=>hh y (j9 _ hy);have ec:cellOf env n=pure c:=by
    unfold cellOf;rw[hc]
   have here:∃c',cl.lookup n=some c':=h2 n c (by simp[List.lookup_cons]);refine⟨cl,?_,λx d q=>?_,λx d q=>?_,λy hy hf=>?_⟩
   ·rw[List.forIn_cons];simp only[beq_self_eq_true,if_true,ec,pure_bind];exact e
   ·rcases h1 x d q with z|z
    ·rw[List.lookup_cons]at z;by_cases hx:x=n
     ·subst hx;simp only[beq_self_eq_true]at z;cases z;exact .inr hc
     ·rw[beq_eq_false_iff_ne.mpr hx]at z;exact .inl z
    ·exact .inr z
   ·by_cases hx:x=n
    ·subst hx;exact here
    ·exact h2 x d (by rw[List.lookup_cons,beq_eq_false_iff_ne.mpr hx];exact q)
   ·rcases List.mem_cons.mp hy with rfl|hy
    ·exact here
    ·exact h3 y hy hf
  ·obtain⟨cl,e,h1,h2,h3⟩:=yt (env:=env) r acc λy hy=>hh y (j9 _ hy);refine⟨cl,?_,h1,h2,λy hy hf=>?_⟩
   ·rw[List.forIn_cons];have hb:(k==NameKind.free)=false:=by simpa using hk
    simp only[hb,Bool.false_eq_true,if_false,pure_bind];exact e
   ·rcases List.mem_cons.mp hy with rfl|hy
    ·exact absurd hf hk
    ·exact h3 y hy hf
theorem Go{env:Env}{scope:Scope}(hh:∀y∈scope.names,y.2=.free->∃c,env.cells.lookup y.1=some c):
 ∃cl,closureFor scope env=pure cl/\(∀x c,cl.lookup x=some c->env.cells.lookup x=some c)/\∀y∈scope.names,y.2=.free->∃c,cl.lookup y.1=some c:=by
 obtain⟨cl,e,h1,_,h3⟩:=yt (env:=env) scope.names [] hh;refine⟨cl,?_,λx c q=>(h1 x c q).elim (λz=>by simp at z) id,h3⟩;unfold closureFor;simp only[bind_pure];exact e
def eW(X:Cx)(N:List Str)(scope:Scope)(s:Shared)(H:Hp)(C:Addr)(cl:List (Str×Addr))(fp:List Addr):Cx where
 prog:=X.prog
 w:=X.w
 K:=X.K
 mg:=X.mg
 base:=X.base
 A:=X.A
 N:=N
 s₀:=s
 H₀:=H
 env:=compEnvC scope cl C X.env
 outer:=X.stack
 stack:=X.stack
 ex:=fp
 fn:=λ_=>false
 calm:=X.calm
 pn:=[]
 xe:=λ_ _=>False
def dj(n:Nat)(js:List Nat)(σ:St):St:=List.replicate n none++js.map λj=>(σ[j]?).join
def qp(n:Nat)(g:TG):Prop:=∀v σ H Q,g v σ H Q->g v σ H λσ2 H2=>Q σ2 H2/\σ2.length=σ.length/\∀i,n<=i->σ2[i]? =σ[i]?
theorem ff{n i:Nat}(h:i<n):qp n (gZ i):=λv σ H Q q=>⟨q,by simp,λj hj=>by rw[List.getElem?_set_ne (by omega)]⟩
theorem xQ{K:au}{n i j:Nat}(hi:i<n)(hj:j<n):qp n (lA K 2 (r9 (gZ i) (r9 (gZ j) nA))):=λv σ H Q q=>by obtain⟨a,xs,e,h,hl,x,r,e1,y,r2,e2,e3,q⟩:=q;exact⟨a,xs,e,h,hl,x,r,e1,y,r2,e2,e3,q,by simp,λk hk=>by rw[List.getElem?_set_ne (by omega),List.getElem?_set_ne (by omega)]⟩
def qm(X:Cx)(ifs:List Expr)(t:TT):Prop:=
 ∀(z5:List (Addr×Obj)) (s:Shared) (σ:St) (H:Hp) (Q:Bool->Hp->Prop),Inv X z5 σ H s->t σ H Q->
   wpAny (model X.prog X.w) X.A (forIn ifs true λc r=>if r=true then do let ok <-isTrue c X.env (eval c X.env);pure (ForInStep.yield ok)else pure (ForInStep.yield r)) (TP X z5 σ Q) X.xe s
def kQ:TT:=λ_ H Q=>Q true H
theorem fw{X:Cx}:qm X [] kQ:=λ_ _ _ H _ I h=>wpAny_tests_nil ⟨H,I,h⟩
theorem tD{X:Cx}{c:Expr}{t:TT}(hc:PT X c t):qm X [c] t:=λz5 s σ H Q I h=>wpAny_tests_one (hc z5 s σ H Q I h)
def ua(g:TG)(tt:TT)(te:TE)(σ0:St)(Fin:List V->Hp->Prop)(J:It)(H1:Hp):Prop:=
 ∃W:Nat->Nat->List V->Hp->Prop,(∃m,W 0 m [] H1)/\∀i m ys H2,W i m ys H2->
  (J.stop i H2/\ys.length<=sizeLine/\Fin ys H2)∨
  (J.go i H2/\ys.length<sizeLine/\∃N:List V->Hp->Prop,(∀ys' H',N ys' H'->∃m',m'<m/\W (i+1) m' ys' H')/\∀x H3,J.yld i H2 x H3->g x σ0 H3 λσ4 H4=>tt σ4 H4 λb H5=>
    if b=true then te σ4 H5 λy H6=>N (ys++[y]) H6 else N ys H5)
def sj(n:Nat)(js:List Nat)(wi:TI)(g:TG)(tt:TT)(te:TE):TE:=λσ H Q=>
 wi σ H (ua g tt te (dj n js σ) λys H2=>∀D,H2 D=none->Q (.ref D) (aP H2 D (.lst ys)))
def vm(k n:Nat)(js:List Nat)(wi:TI)(g:TG)(tt:TT)(te:TE):TS:=λE σ H=>
 wi σ H (ua g tt te (dj n js σ) λys H2=>∀D,H2 D=none->E.nx (σ.set k (some (.ref D))) (aP H2 D (.lst ys)))
theorem qim{prog:Program}{w:World}{A:Around}{R:Result->Shared->Prop}{s:Shared}{elt zh zd:Expr}{ifs:List Expr}{scope:Scope}{pos:Pos}{it acc:Value}{env:Env}(I:Nat->Shared->Prop)
 (turn:∀n s,I n s->wpAny (model prog w) A (pyNext it) (λr s₁=>(r=none/\R (.ok .next) s₁)∨∃v,r=some v/\wpAny (model prog w) A (letOwnedTupleGo zh it v) (λ_ s₀=>
   wpAny (model prog w) A (assign zh env v) (λ_ s₂=>
    wpAny (model prog w) A (forIn ifs true λc r=>if r=true then do let ok <-isTrue c env (eval c env);pure (ForInStep.yield ok)else pure (ForInStep.yield r)) (λok s₃=>
     if ok=true then wpAny (model prog w) A (eval elt env) (λx s₄=>wpAny (model prog w) A (call (.builtin "list.append") [acc,x]) (λ_ s₅=>∃m,m<n/\I m s₅) (λ_ _=>False) s₄) (λ_ _=>False) s₃
     else∃m,m<n/\I m s₃) (λ_ _=>False) s₂) (λ_ _=>False) s₀) (λ_ _=>False) s₁) (λ_ _=>False) s)
 (n:Nat) (h:I n s):codeAny (model prog w) A (.compLoop (.ListComp elt [⟨zh,zd,ifs,0⟩] scope pos) 0 it acc env) R s:=by
 have no:∀{E:Value->Shared->Prop} (x:Value) (z:Shared),False->E x z:=λ_ _ f=>f.elim;refine codeAny_loop rfl I (λn s hI=>?_) n h;show wpAny _ A ((compTurn (.ListComp elt [⟨zh,zd,ifs,0⟩] scope pos) 0 it acc env).onRaise (λx=>do noteFrame x env;theTreesLotGoes x)) _ _ s;refine wpAny_noted ?_;rw[compTurn_list];refine j0 (wpAny_standAt (j0 (xn (turn n s hI) (λr s₁ h₁=>?_) no)));rcases h₁ with⟨e,h₁⟩|⟨v,e,h₁⟩
 ·subst e;exact j4 h₁
 ·subst e;refine j0 (xn h₁ (λ_ s₀ h₀=>j0 (xn h₀ (λ_ s₂ h₂=>j0 (xn h₂ (λok s₃ h₃=>?_) no)) no)) no);cases ok with
  |false=>exact j4 ⟨rfl,h₃⟩
  | true=>
   have q:wpAny (model prog w) A (eval elt env) _ _ s₃:=h₃;exact j0 (j0 (xn q (λx s₄ h₄=>j0 (xn h₄ (λ_ s₅ h₅=>j4 (j4 ⟨rfl,h₅⟩)) no)) no))
def dD(sc:Scope)(N0 N:List Str)(n:Nat)(js:List Nat)(scope:Scope):Bool:=
 decide (scope.kind=.function)&&scope.names.all (λy=>decide (y.2≠.cell))&&scope.names.all (λy=>decide (y.2≠.free)||decide (sc.names.lookup y.1=some .cell)||decide (sc.names.lookup y.1=some .free))&&
 scope.names.all (λy=>decide (y.2≠.local)||decide (scope.names.lookup y.1=some .local))&&decide (js.map (λj=>N0[j]?)=(N.drop n).map some)&&
 (N.drop n).all (λx=>decide (sc.names.lookup x=some .cell)||decide (sc.names.lookup x=some .free))&&(N.drop n).all (λx=>decide (scope.names.lookup x=some .free))&&decide (n+js.length=N.length)
theorem Gq{env:Env}:∀{names:List (Str×NameKind)} {x:Str},(names.map λ(n,k)=>if(k==NameKind.free&&env.scope.kind==.function&&env.kindOf n==some .cell)then(n,NameKind.cell)else(n,k)).lookup x=some .cell∨
 (names.map λ(n,k)=>if(k==NameKind.free&&env.scope.kind==.function&&env.kindOf n==some .cell)then(n,NameKind.cell)else(n,k)).lookup x=some .free->(∀y∈names,y.2≠.cell)->∃y∈names,y.1=x/\y.2=.free
 |[],_,h,_=>by rcases h with h|h<;>simp at h
 | (n,k)::r,x,h,hc=>by
  have ih:=@Gq env r x;by_cases hx:x=n
  ·subst hx;refine⟨(x,k),ja,rfl,?_⟩;have hk:k≠.cell:=hc (x,k) ja;by_cases hf:k=.free
   ·exact hf
   ·exfalso;have hb:(k==NameKind.free)=false:=by simpa using hf
    simp only[List.map_cons,hb,Bool.false_and,Bool.false_eq_true,if_false,List.lookup_cons,beq_self_eq_true]at h;rcases h with h|h
    ·exact hk (jb h)
    ·exact hf (jb h)
  ·have hb:(x==n)=false:=beq_eq_false_iff_ne.mpr hx;have step:∀(q:Str×NameKind) (l:List (Str×NameKind)),q.1=n->List.lookup x (q::l)=List.lookup x l:=λq l e=>by
    obtain⟨a,b⟩:=q;have e':a=n:=e;subst e';rw[List.lookup_cons,hb]
   have nm:(if(k==NameKind.free&&env.scope.kind==.function&&env.kindOf n==some .cell)then(n,NameKind.cell)else(n,k)).1=n:=by split<;>rfl
   rw[jo,step _ _ nm]at h;obtain⟨y,hy,r1,r2⟩:=ih h λy hy=>hc y (j9 _ hy);exact⟨y,j9 _ hy,r1,r2⟩
theorem mem_of_lookup{x:Str}{k:NameKind}:∀{l:List (Str×NameKind)},l.lookup x=some k->(x,k)∈l
 |[],h=>by simp at h
 | (a,b)::r,h=>by
  rw[List.lookup_cons]at h;by_cases hx:x=a
  ·subst hx;simp only[beq_self_eq_true]at h;cases h;exact ja
  ·rw[beq_eq_false_iff_ne.mpr hx]at h;exact j9 _ (mem_of_lookup h)
theorem Gs{env:Env}{x:Str}:∀(l:List (Str×NameKind)),l.lookup x=some .free->(l.map λ(n,k)=>if(k==NameKind.free&&env.scope.kind==.function&&env.kindOf n==some .cell)then(n,NameKind.cell)else(n,k)).lookup x≠some .local
 |[],q=>by simp at q
 | (a,b)::r,q=>λz=>by
  rw[List.lookup_cons]at q;by_cases hx:x=a
  ·subst hx;simp only[beq_self_eq_true]at q;cases q;rw[jo]at z;dsimp only at z;split at z
   ·simp[List.lookup_cons]at z
   ·simp[List.lookup_cons]at z
  ·rw[beq_eq_false_iff_ne.mpr hx]at q;refine Gs (env:=env) r q ?_;by_cases hc:(b==NameKind.free&&env.scope.kind==.function&&env.kindOf a==some .cell)=true
   ·simp only[List.map_cons,if_pos hc,List.lookup_cons,beq_eq_false_iff_ne.mpr hx]at z;exact z
   ·simp only[List.map_cons,if_neg hc,List.lookup_cons,beq_eq_false_iff_ne.mpr hx]at z;exact z
theorem Ey(n:Nat)(js:List Nat)(σ:St):(dj n js σ).length=n+js.length:=by simp[dj]
theorem Ez{n:Nat}{js:List Nat}{σ:St}{i:Nat}(h:i<n):(dj n js σ)[i]? =some none:=by unfold dj;rw[xv (by simpa using h),xr,if_pos h]
theorem ql7{n:Nat}{js:List Nat}{σ:St}{i:Nat}{v:V}(h:n<=i)(e:(dj n js σ)[i]? =some (some v)):∃j,js[i-n]? =some j/\σ[j]? =some (some v):=by
 unfold dj at e;rw[xo (by simpa using h),ji,jd]at e;cases q:js[i-n]? with
 |none=>rw[q]at e;cases e
 | some j=>
  rw[q]at e;refine⟨j,rfl,?_⟩;have e':(σ[j]?).join=some v:=jb e;cases z:σ[j]? with
  |none=>rw[z]at e';cases e'
  |some o=>rw[z]at e';exact congrArg some e'
section
variable{X:Cx}{tg elt zd:Expr}{ifs:List Expr}{scope:Scope}{pos:Pos}{N N0:List Str}{n:Nat}{js:List Nat}{sc:Scope}{g:TG}{tt:TT}{te:TE}
theorem FV{z5:List (Addr×Obj)}{σ:St}{H:Hp}{s:Shared}{it:Addr}{fp:List Addr}{tn:Nat->Heap->Prop}{J:It}{cl:List (Str×Addr)}{Fin:List V->Hp->Prop}{RR:Value->Addr->Result->Shared->Prop}{E:Value->Shared->Prop}
 (hc:X.calm=true) (hsc:X.env.scope=sc) (hN0:X.N=N0) (ok:dD sc N0 N n js scope=true)
 (hg:∀s H C cl fp,PG (eW X N scope s H C cl fp) tg g) (hgo:qp n g) (ht:∀s H C cl fp,qm (eW X N scope s H C cl fp) ifs tt) (he:∀s H C cl fp,PE (eW X N scope s H C cl fp) elt te)
 (I:Inv X z5 σ H s) (T:Turn X.prog X.w X.K tg J fp it tn) (st:tn 0 s.heap) (fo:∀b∈fp,gy X z5 H b)
 (hcl:∀x c,cl.lookup x=some c->X.env.cells.lookup x=some c) (hcl2:∀y∈scope.names,y.2=.free->∃c,cl.lookup y.1=some c)
 (G:ua g tt te (dj n js σ) Fin J H)
 (k:∀(D C:Addr) (oC:Obj) (m:Str->Option Value) (ys:List V) (H':Hp) (s':Shared),Inv X (z5++[(C,oC)]) σ (aP H' D (.lst ys)) s'->H' D=none->s'.heap.Ns C m->X.s₀.heap.objs.size<=C->C≠X.env.locals->(∀x c,X.env.cells.lookup x=some c->c≠C)->
   (∀p∈X.pn++z5,p.1≠C)->aP H' D (.lst ys) C=none->Fin ys H'->RR (.ref D) C (.ok .next) s'):
 wpAny (model X.prog X.w) X.A (newList []) (λacc s₃=>wpAny (model X.prog X.w) X.A (newFunctionEnv scope X.env.globals cl [] X.env.qual none .none (some X.env)) (λcenv s₄=>
  codeAny (model X.prog X.w) X.A (.compStart (.ListComp elt [⟨tg,zd,ifs,0⟩] scope pos) 0 (.ref it) acc {cenv with scope:=relabel scope X.env}) (RR acc cenv.locals) s₄) E s₃) E s:=by
 simp only[dD,Bool.and_eq_true,decide_eq_true_eq,List.all_eq_true,Bool.or_eq_true]at ok;obtain⟨⟨⟨⟨⟨⟨⟨kind,cell⟩,free⟩,nms⟩,cap⟩,lc⟩,lf⟩,len⟩:=ok;subst hN0 hsc;refine xq (wpAny_newFunctionEnv cell (by intro y hy;simp at hy) (λh1 ns1 sb1=>?_) kind);dsimp only at ns1 sb1 ⊢;generalize eG:s.heap.push {cls:=.type "list",dict:=none,data:=.seq ([]:List Value).toArray}=G2 at ns1 sb1 ⊢;have eC:G2.objs.size=s.heap.objs.size+1:=by rw[<-eG,xg]
 generalize eCC:G2.objs.size=C at ns1 sb1 eC ⊢;generalize eD:s.heap.objs.size=D at eC ⊢;have ltD:∀b o,s.heap.get? b=some o->b<D:=λb o e=>eD▸j5 e;have DC:D≠C:=by rw[eC];exact jh (Nat.lt_succ_self _)
 have bC:∀b:Nat,b<D->b≠C:=λb hb z=>by rw[z,eC]at hb;exact absurd hb (Nat.not_lt.mpr (Nat.le_succ _))
 have old:∀b o,s.heap.get? b=some o->h1.get? b=some o:=λb o e=>by have hb:=ltD b o e;refine sb1.extBut b o (bC b hb) (j6 _ ?_);rw[<-eG];exact j6 _ e
 have accD:h1.get? D=some {cls:=.type "list",data:=.seq ([]:List Value).toArray 0}:=by refine sb1.extBut _ _ DC (j6 _ ?_);rw[<-eG,<-eD];exact jj _ rfl
 have freeD:H D=none:=I.hok.fresh (by rw[eD];exact j7 _);have freeC:H C=none:=I.hok.fresh (by rw[eD,eC];exact Nat.le_succ _);have fpD:∀b∈fp,b<D:=λb hb=>let ⟨o,e,_⟩:=T.obj 0 _ st b hb;ltD b o e
 have cellD:∀x c,X.env.cells.lookup x=some c->c<D:=λx c e=>let ⟨v,o,ho,_⟩:=I.cell x c e;ltD c o ho
 have pinD:∀p∈X.pn++z5,p.1<D:=λp hp=>ltD _ _ (I.pin p hp).1;have stkD:∀b∈gP X.stack,b<D:=λb hb=>by
  rcases List.mem_cons.mp (I.stkSub b hb)with e|z
  ·subst e;rw[<-eD];exact I.lt
  ·obtain⟨_,o,ho,_⟩:=I.ok.funs.mem z;rw[<-eD];exact jn (j5 ho) I.sz
 have fpS:∀b∈fp,b∉gP X.stack:=λb hb z=>by
  obtain⟨_,f1,f2,_⟩:=fo b hb;rcases List.mem_cons.mp (I.stkSub b z)with e|q
  ·exact f1 e
  ·exact f2 q
 have kindB:(compEnvC scope cl C X.env).scope.kind=.function:=kind;have okB:(eW X N scope s H C cl fp).Ok:={
  mod:=I.ok.mod
  kind:=kind
  glob:=I.ok.glob
  blt:=I.ok.blt
  above:=by show s.heap.objs.size<=C;rw[eD,eC];exact Nat.le_succ _
  inj:=λx y c e1 e2=>I.ok.inj x y c (hcl x c e1) (hcl y c e2)
  has:=λx hx=>by obtain⟨y,hy,e,f⟩:=Gq (env:=X.env) (names:=scope.names) (x:=x) hx cell;subst e;exact hcl2 y hy f
  cab:=λx c z=>by cases z
  hd:=I.ok.hd
  frames:=I.ok.frames
  stk:=.inl rfl
  exf:=λb hb=>⟨bC b (fpD b hb),λx c e=>(fo b hb).2.2.2.2.1 x c (hcl x c e)⟩
  bs:=λb o e=>I.bs b o e
  bsz:=jr I.ok.bsz I.sz
  noex:=λb o e hb=>by
   rcases(fo b hb).2.2.2.1 with z|z
   ·exact I.ok.noex b o e z
   ·exact absurd (jn (j5 e) (jr I.ok.bsz z)) (x9 _)
  exfs:=fpS
  funs:=I.stack
  frf:=I.stkFree}
 have upH:∀b o,s.heap.get? b=some o->h1.get? b=some o:=old;have IB:Inv (eW X N scope s H C cl fp) [(D,{cls:=.type "list",data:=.seq ([]:List Value).toArray 0})] (dj n js σ) H {s with heap:=h1,toks:=s.toks+([]:List (Str×Value)).length}:=by
  refine⟨okB,rfl,I.bare,Un.kept old,⟨_,ns1,λi x v e1 e2 e3=>?_⟩,λx c e=>?_,freeC,λx c e=>I.freeC x c (hcl x c e),λp hp=>?_,I.hok.kept old,?_⟩
  ·have hi:n<=i:=by
    by_cases hlt:i<n
    ·rw[Ez hlt]at e2;cases e2
    ·omega
   obtain⟨j,ej,ev⟩:=ql7 hi e2;have hxN:(N.drop n)[i-n]? =some x:=by rw[List.getElem?_drop,show n+(i-n)=i by omega];exact e1
   have hxm:x∈N.drop n:=xi hxN;have eN:X.N[j]? =some x:=by
    have q:(js.map λj=>X.N[j]?)[i-n]? =some (X.N[j]?):=by rw[jd,ej];rfl
    rw[cap,jd,hxN]at q;exact(jb q).symm
   obtain⟨m0,_,hl⟩:=I.loc;have kx:=lc x hxm;have vis:km X.env.scope x:=by
    rcases kx with z|z
    ·exact .inr (.inl z)
    ·exact .inr (.inr z)
   obtain⟨u,r,lk⟩:=hl j x v eN ev vis;refine⟨u,r,?_⟩;rcases lk with⟨q,_⟩|⟨_,c,ec,o,ho,hd⟩
   ·exfalso;have q':X.env.scope.names.lookup x=some .local:=q;rcases kx with z|z
    ·rw[z]at q';cases q'
    ·rw[z]at q';cases q'
   ·have fx:scope.names.lookup x=some .free:=lf x hxm;obtain⟨c',ec'⟩:∃c',cl.lookup x=some c':=by
     have hm:(x,NameKind.free)∈scope.names:=mem_of_lookup fx;exact hcl2 _ hm rfl
    have ecc:c'=c:=by have z:=hcl x c' ec';rw[ec]at z;exact(jb z).symm
    subst ecc;refine .inr ⟨?_,c',ec',o,old _ _ ho,hd⟩;rcases e3 with z|z|z
    ·exfalso;have z':(relabel scope X.env).names.lookup x=some .local:=z;exact Gs _ fx z'
    ·exact .inl z
    ·exact .inr z
  ·obtain⟨v,o,ho,hd⟩:=I.cell x c (hcl x c e);exact⟨v,o,old _ _ ho,hd⟩
  ·have e:p=(D,{cls:=.type "list",data:=.seq ([]:List Value).toArray 0}):=by simpa[eW]using hp
   subst e;exact⟨accD,freeD,DC,λz=>absurd (stkD D z) (x9 _),λv=>by intro z;cases z⟩
  ·show(dj n js σ).length=N.length;rw[Ey];exact len
 -- what stays true of the iterator's records
 have stat:∀{H':Hp} {oD:Obj},(∀b∈fp,H' b=none)->∀b∈fp,gy (eW X N scope s H C cl fp) [(D,oD)] H' b:=λ{H' oD} hn b hb=>
  ⟨hn b hb,bC b (fpD b hb),fpS b hb,.inl hb,λx c e=>(fo b hb).2.2.2.2.1 x c (hcl x c e),λp hp=>by
    have e:p=(D,oD):=by simpa[eW]using hp
    subst e;exact Nat.ne_of_gt (fpD b hb)⟩
 obtain⟨W,⟨m0,w0⟩,turn⟩:=G;have loop:codeAny (model X.prog X.w) X.A (.compLoop (.ListComp elt [⟨tg,zd,ifs,0⟩] scope pos) 0 (.ref it) (.ref D) (compEnvC scope cl C X.env)) (RR (.ref D) C) {s with heap:=h1,toks:=s.toks+([]:List (Str×Value)).length}:=by
  refine qim (λm s'=>∃(i:Nat) (ys:List V) (its:List Value) (kk:Nat) (σ':St) (H':Hp),Inv (eW X N scope s H C cl fp) [(D,{cls:=.type "list",data:=.seq its.toArray kk})] σ' H' s'/\Vals ys its/\(σ'.length=(dj n js σ).length/\∀i,n<=i->σ'[i]? =(dj n js σ)[i]?)/\
   tn i s'.heap/\(∀b∈fp,H' b=none)/\W i m ys H') ?_ m0 ⟨0,[],[],0,_,H,IB,.nil,⟨rfl,λ_ _=>rfl⟩,T.keep _ _ _ st λb hb o e=>old b o e,λb hb=>(fo b hb).1,w0⟩
  rintro m s3 ⟨i,ys,its,kk,σ3,H3,I3,r3,⟨l3,a3⟩,st3,fr3,w3⟩;have I3':Inv (eW X N scope s H C cl fp) [(D,{cls:=.type "list",data:=.seq its.toArray kk})] (dj n js σ) H3 s3:=I3.weak l3.symm λj v e=>by
   by_cases hj:j<n
   ·rw[Ez hj]at e;cases e
   ·rw[a3 j (by omega)];exact e
  rcases turn i m ys H3 w3 with⟨stop,hz,fin⟩|⟨go,hz,Nn,hNn,step⟩
  ·refine xn (T.done (eW X N scope s H C cl fp) rfl rfl rfl hc i _ s3 _ H3 (λ_ _=>False) I3' (stat fr3) st3 stop) (λr s4 h4=>?_) λ_ _ z=>z;obtain⟨hr,I4⟩:=h4;refine .inl ⟨hr,?_⟩;have pD:=I4.pin (D,{cls:=.type "list",data:=.seq its.toArray kk}) (by simp[eW]);obtain⟨mC,nsC,_⟩:=I4.loc;obtain⟨oC,es,ep,hoC,dC,rC⟩:=id nsC;have J4:Inv X z5 σ H3 s4:=I.call' (s':=s4) I4.os (ch:=fp) I4.base I4.hok I4.bare λb hb=>by
    obtain⟨_,f1,f2,f3,f4,f5⟩:=fo b hb;exact⟨f3,f1,f4,f5⟩
   have fC:H3 C=none:=I4.free;have ltL:X.env.locals<D:=eD▸I.lt;have cL:C≠X.env.locals:=(bC _ ltL).symm;have cC:∀x c,X.env.cells.lookup x=some c->c≠C:=λx c e=>bC c (cellD x c e);have cP:∀p∈X.pn++z5,p.1≠C:=λp hp=>bC p.1 (pinD p hp);have cS:X.s₀.heap.objs.size<=C:=jr I.sz (by rw[eD,eC];exact Nat.le_succ _);have dS:X.s₀.heap.objs.size<=D:=by have:=I.sz;rw[eD]at this;exact this
   have cF:C∉X.fs:=λz=>by obtain⟨_,o,ho,_⟩:=I.ok.funs.mem z;exact x9 _ (jn (j5 ho) cS)
   have J5:Inv X (z5++[(C,oC)]) σ H3 s4:=J4.pins_of λp hp=>(List.mem_append.mp hp).elim (λz=>J4.pin p (ju _ z)) λz=>by
    have e:p=(C,oC):=by simpa using z
    subst e;exact⟨hoC,fC,cL,cF,λv z=>by have z':oC.data=.cell v:=z;rw[dC]at z';cases z'⟩
   refine k D C oC mC ys H3 s4 (J5.track pD.2.1 dS (Nat.ne_of_gt ltL) (λx c e=>jh (cellD x c e)) (λp hp=>?_) ?_) pD.2.1 nsC cS cL cC cP ?_ fin
   ·rcases List.mem_append.mp hp with z|z
    ·exact jh (pinD p (List.mem_append_left _ z))
    ·rcases List.mem_append.mp z with z|z
     ·exact jh (pinD p (ju _ z))
     ·have e:p=(C,oC):=by simpa using z
      subst e;exact Ne.symm DC
   ·exact⟨hz,its,kk,r3,pD.1⟩
   ·rw[aU (Ne.symm DC)];exact fC
  ·refine xn (T.item (eW X N scope s H C cl fp) rfl rfl rfl hc i _ s3 _ H3 (λ_ _=>False) I3' (stat fr3) st3 go) (λr s4 h4=>?_) λ_ _ z=>z;obtain⟨u,hr,h4⟩:=h4;refine .inr ⟨u,hr,?_⟩;refine bd h4 λ_ s5 h5=>?_;obtain⟨x,H5,I5,r5,y5,st5,fr5⟩:=h5;have I5':=I5.pinned (stat fr5) (T.obj _ _ st5);refine bd (hg s H C cl fp _ s5 _ H5 x u _ I5' r5 (hgo _ _ _ _ (step x H5 y5))) λ_ s6 h6=>?_;obtain⟨σ6,H6,I6,q6,l6,a6⟩:=h6;refine bd (ht s H C cl fp _ s6 σ6 H6 _ I6 q6) λok s7 h7=>?_;obtain⟨H7,I7,q7⟩:=h7;have stays:∀{H8:Hp} {s8:Shared},Inv (eW X N scope s H C cl fp) ([(D,{cls:=.type "list",data:=.seq its.toArray kk})]++pU fp s5.heap) σ6 H8 s8->(∀b∈fp,∀o,s5.heap.get? b=some o->s8.heap.get? b=some o)/\∀b∈fp,H8 b=none:=λ{H8 s8} I8=>
    ⟨λb hb o e=>(I8.pin (b,o) (ju _ (ju _ (t6 hb e)))).1,λb hb=>by obtain⟨o,e,d⟩:=T.obj _ _ st5 b hb;exact(I8.pin (b,o) (ju _ (ju _ (t6 hb e)))).2.1⟩
   cases ok with
   | false=>
    obtain⟨m',hm,w7⟩:=hNn ys H7 (show Nn ys H7 from q7);obtain⟨z1,z2⟩:=stays I7;exact⟨m',hm,i+1,ys,its,kk,σ6,H7,I7.unpinned,r3,⟨l6,a6⟩,T.keep _ _ _ st5 z1,z2,w7⟩
   | true=>
    show wpAny _ _ (eval elt _) _ _ s7;refine bd (he s H C cl fp _ s7 σ6 H7 _ I7 q7) λy s8 h8=>?_;obtain⟨vy,H8,I8,ry,n8⟩:=h8;obtain⟨m',hm,w8⟩:=hNn _ _ n8;obtain⟨z1,z2⟩:=stays I8;have pD:=I8.pin (D,{cls:=.type "list",data:=.seq its.toArray kk}) (by simp[eW]);have lenits:its.length<sizeLine:=by rw[<-r3.length];exact hz
    refine append_at pD.1 (λh9 hs9 hD9=>?_) (by simpa using Nat.le_of_lt lenits);have keep9:∀b o,b≠D->s8.heap.get? b=some o->h9.get? b=some o:=λb o hb e=>hs9.extBut b o hb e;have I9:Inv (eW X N scope s H C cl fp) [] σ6 H8 {s8 with heap:=h9}:=(I8.pins_of (pins':=[]) λp hp=>nomatch hp).turned (it:=D) keep9 pD.2.1 DC (.inr (by show s.heap.objs.size<=D;rw[eD];exact j7 _))
     (λx c e=>jh (cellD x c (hcl x c e))) λp hp=>by simp[eW]at hp
    refine⟨m',hm,i+1,ys++[vy],its++[y],kk+1,σ6,H8,I9.pins_of λp hp=>?_,r3.append (.cons ry .nil),⟨l6,a6⟩,T.keep _ _ _ st5 λb hb o e=>keep9 b o (jh (fpD b hb)) (z1 b hb o e),z2,w8⟩;have e:p=(D,{cls:=.type "list",data:=.seq (its++[y]).toArray (kk+1)}):=by simpa using hp
    subst e;refine⟨?_,pD.2.1,DC,λz=>absurd (stkD D z) (x9 _),λv z=>by cases z⟩;show h9.get? D=_;rw[hD9,List.push_toArray]
 exact codeAny_compStart_list loop (T.self _ 0 _ _ _ (T.keep _ _ _ st λb hb o e=>old b o e) loop)
end
section
variable{X:Cx}{tg elt zd:Expr}{ifs:List Expr}{scope:Scope}{pos:Pos}{N N0:List Str}{n:Nat}{js:List Nat}{sc:Scope}{wi:TI}{g:TG}{tt:TT}{te:TE}
theorem EB{z5:List (Addr×Obj)}{σ:St}{H:Hp}{s:Shared}(I:Inv X z5 σ H s)(hsc:X.env.scope=sc)(ok:dD sc N0 N n js scope=true):∀y∈scope.names,y.2=.free->∃c,X.env.cells.lookup y.1=some c:=by
 simp only[dD,Bool.and_eq_true,decide_eq_true_eq,List.all_eq_true,Bool.or_eq_true]at ok;obtain⟨⟨⟨⟨⟨⟨⟨kind,cell⟩,free⟩,nms⟩,cap⟩,lc⟩,lf⟩,len⟩:=ok;subst hsc;intro y hy hf;rcases free y hy with(z|z)|z
 ·exact absurd hf z
 ·exact I.ok.has y.1 (.inl z)
 ·exact I.ok.has y.1 (.inr z)
theorem FW(ok:dD sc N0 N n js scope=true):scope.kind=.function/\∀x∈scope.names,x.2=.local->scope.names.lookup x.1=some .local:=by
 simp only[dD,Bool.and_eq_true,decide_eq_true_eq,List.all_eq_true,Bool.or_eq_true]at ok;obtain⟨⟨⟨⟨⟨⟨⟨kind,cell⟩,free⟩,nms⟩,cap⟩,lc⟩,lf⟩,len⟩:=ok;refine⟨kind,λx hx hl=>?_⟩;rcases nms x hx with z|z
 ·exact absurd hl z
 ·exact z
theorem Inv.butC{z5:List (Addr×Obj)}{σ:St}{H:Hp}{s:Shared}{C:Addr}{oC:Obj}{h':Heap}(I:Inv X (z5++[(C,oC)]) σ H s)(hs:Heap.SameBut C s.heap h')(h1:X.s₀.heap.objs.size<=C)(h2:C≠X.env.locals)
 (h3:∀x c,X.env.cells.lookup x=some c->c≠C) (h4:∀p∈X.pn++z5,p.1≠C) (h5:H C=none):Inv X z5 σ H {s with heap:=h'}:=
 I.unpinned.turned (it:=C) (t':=s.toks) (λb o hb e=>hs.extBut b o hb e) h5 h2 (.inr h1) h3 h4
theorem gM(hc:X.calm=true)(hsc:X.env.scope=sc)(hN0:X.N=N0)(ok:dD sc N0 N n js scope=true)(hi:PI X tg zd wi)
 (hg:∀s H C cl fp,PG (eW X N scope s H C cl fp) tg g) (hgo:qp n g) (ht:∀s H C cl fp,qm (eW X N scope s H C cl fp) ifs tt) (he:∀s H C cl fp,PE (eW X N scope s H C cl fp) elt te)
 (hs:∀x,foldedSetIterable zd X.env x=pure x:=by intro _;rfl):PE X (.ListComp elt [⟨tg,zd,ifs,0⟩] scope pos) (sj n js wi g tt te):=by
 intro z5 s σ H Q I h;obtain⟨cl,hclos,c1,c2⟩:=Go (EB I hsc ok);obtain⟨kd,nm⟩:=FW ok;rw[eval_ListComp];refine wpAny_comprehension_free (use:=none) rfl hs hclos kd nm ?_;refine bd (hi z5 s σ H _ I h) λv s1 h1=>bd h1 λitv s2 h2=>?_;obtain⟨it,fp,tn,J,H2,e,I2,T,st2,f2,G⟩:=h2;subst e;refine FV (RR:=λacc C=>compPost (model X.prog X.w) X.A X.xe none (EP X z5 σ Q) acc C) hc hsc hN0 ok hg hgo ht he I2 T st2 f2 c1 c2 G ?_;intro D C oC m ys H' s' I' hD ns k1 k2 k3 k4 k5 fin;exact⟨m,ns,λh' hs'=>⟨.ref D,_,I'.butC hs' k1 k2 k3 k4 k5,rfl,fin D hD⟩⟩
theorem jR{k:Nat}{y:Str}{py spos:Pos}(hc:X.calm=true)(hsc:X.env.scope=sc)(hN0:X.N=N0)(ok:dD sc N0 N n js scope=true)(hN:X.N.Nodup)(hk:X.N[k]? =some y)(hy:mV X.env.scope y)
 (hi:PI X tg zd wi) (hg:∀s H C cl fp,PG (eW X N scope s H C cl fp) tg g) (hgo:qp n g) (ht:∀s H C cl fp,qm (eW X N scope s H C cl fp) ifs tt) (he:∀s H C cl fp,PE (eW X N scope s H C cl fp) elt te)
 (hsw:swapsWith (.ListComp elt [⟨tg,zd,ifs,0⟩] scope pos) (some (.Name y py)) spos.line X.env=pure true:=by rfl) (hs:∀x,foldedSetIterable zd X.env x=pure x:=by intro _;rfl)
 (hf:X.fn y=true∨X.env.scope.names.lookup y=some .local:=by first|exact .inl rfl|exact .inr rfl):PS X (.Assign [.Name y py] (.ListComp elt [⟨tg,zd,ifs,0⟩] scope pos) spos) (vm k n js wi g tt te):=by
 intro z5 s σ H D0 I h;obtain⟨cl,hclos,c1,c2⟩:=Go (EB I hsc ok);obtain⟨kd,nm⟩:=FW ok;rw[exec_Assign_Name_used _ _ _ _ hsw];refine j0 (wpAny_standAt (j0 ?_));show wpAny _ X.A (comprehension (.ListComp elt [⟨tg,zd,ifs,0⟩] scope pos) scope X.env _ (newList []) false (eval zd X.env) (some (assign (.Name y py) X.env)) >>= λ_=>pure ()) _ _ s;refine j0 (xn (wpAny_comprehension_free (use:=some (assign (.Name y py) X.env)) (Q:=λ_ s'=>SP X z5 D0 .next s') rfl hs hclos kd nm ?_) (λ_ s' q=>j4 (j4 q)) λ_ _ z=>z);refine bd (hi z5 s σ H _ I h) λv s1 h1=>bd h1 λitv s2 h2=>?_;obtain⟨it,fp,tn,J,H2,e,I2,T,st2,f2,G⟩:=h2;subst e;refine FV (RR:=λacc C=>compPost (model X.prog X.w) X.A X.xe (some (assign (.Name y py) X.env)) (λ_ s'=>SP X z5 D0 .next s') acc C) hc hsc hN0 ok hg hgo ht he I2 T st2 f2 c1 c2 G ?_;intro D C oC m ys H' s' I' hD ns k1 k2 k3 k4 k5 fin;show wpAny _ X.A (assign (.Name y py) X.env (.ref D)) _ _ s';refine wpAny_assign_Name (xV I' hN hk hy (v:=.ref D) rfl (λs'' I''=>?_) hf);have pc:=I''.pin (C,oC) (ju _ (ju _ ja));obtain⟨o,es,ep,ho,r⟩:=ns;have pc':=I'.pin (C,oC) (ju _ (ju _ ja));have eo:o=oC:=by have z:=pc'.1;rw[ho]at z;exact jb z
 subst eo;exact⟨m,⟨o,es,ep,pc.1,r⟩,λh' hs'=>⟨_,_,I''.butC hs' k1 k2 k3 k4 k5,fin D hD⟩⟩
end
theorem Same.new{H:Hp}{l:Addr}{o:HO}(h:H l=none):Same H (aP H l o):=λb u e=>by rw[aU (gp e h)];exact e
theorem Same.tup{K:au}{H H':Hp}{a:Addr}{xs:List V}(e:Same H H')(h:SqT K H a xs):SqT K H' a xs:=by
 rcases h with(h|⟨o,h⟩)|h
 ·exact .inl (.inl (e _ _ h))
 ·exact .inl (.inr ⟨o,e _ _ h⟩)
 ·exact .inr h
section
variable{X:Cx}{K:au}
theorem bf(h:X.K=K):IxR X (o6 K):=h▸qu4
theorem fy(h:X.K=K):gB X (.builtin "len") (λxs H Q=>∃p ys,xs=[.ref p]/\(SqL K H p ys∨SqT K H p ys)/\Q (.int ys.length) H):=by subst h;exact qax
theorem FU(h:X.K=K):gB X (.type "list") (λxs H Q=>∃p ys,xs=[.ref p]/\(SqL K H p ys∨SqT K H p ys)/\∀l,H l=none->Q (.ref l) (aP H l (.lst ys))):=by subst h;exact qaw
theorem qh(h:X.K=K):gB X (.type "tuple") (λxs H Q=>∃p ys,xs=[.ref p]/\((SqL K H p ys/\∀l,H l=none->Q (.ref l) (aP H l (.tup ys)))∨(SqT K H p ys/\Q (.ref p) H))):=by subst h;exact q9n
theorem qjt{tg l:Expr}{tl:TE}(h:X.K=K)(hl:PE X l tl):PI X tg l (u9 K tl):=h▸qnr hl
theorem qnq{tg l:Expr}{tl:TE}(h:X.K=K)(hl:PE X l tl):PI X tg l (nw K tl):=h▸qrw hl
theorem mN{es:List Expr}{k:Nat}{t:kn}{n:Nat}{pos:Pos}(hK:X.K=K)(hc:X.calm=true)(h:qo X es t)(hn:(assignEach es X.env).length=n:=by rfl)(hst:(assignEach es X.env).findIdx? (·.1)=none:=by rfl):PG X (.Tuple es k pos) (lA K n t):=hK▸qry hc h hn hst
theorem wX{e:Expr}{f:Str}{pos:Pos}{ta:TE}(hK:X.K=K)(he:PE X e ta)(hb:attributeBase e f X.env (eval e X.env)=eval e X.env):PE X (.Attribute e f pos) (mY K ta f):=hK▸qs1 he hb
end
theorem PE.or{X:Cx}{e:Expr}{t u:TE}(h:PE X e t)(k:PE X e u):PE X e λσ H Q=>t σ H Q∨u σ H Q:=λz5 s σ H Q I q=>by
 rcases q with q|q
 ·exact h z5 s σ H Q I q
 ·exact k z5 s σ H Q I q
def rg:V->Option Value
 |.ref a=>some (.ref a)
 |.ty n=>some (.type n)
 |_=>none
def zC(K:au):List V->Hp->VK->Prop:=λxs H Q=>∃x y t c b,xs=[x,y]/\rg y=some c/\TyOf K H x t/\W.kitOne K t c=some b/\Q (.bl b) H
section
variable{X:Cx}
theorem qla{K:au}(hK:X.K=K):gB X (.builtin "isinstance") (zC K):=by
 subst hK;intro z5 s σ H xs us Q I r h;obtain⟨x,y,t,c,b,rfl,hc,ty,e,q⟩:=h;obtain⟨u,w,rfl,ru,rw'⟩:=fM r;have ew:w=c:=by
  cases y with
  | ref a=>
   have z:w=Value.ref a:=rw';rw[z];exact jb hc
  | ty n=>
   have z:w=Value.type n:=rw';rw[z];exact jb hc
  |_=>cases hc
 subst ew;exact qi5 I ru ty e λtk=>⟨.bl b,H,I.tok tk,rfl,q⟩
theorem q6s{K:au}{v:Value}:W.kitOne K v v=some true:=by unfold W.kitOne;rw[if_pos (beq_self_eq_true v)]
theorem q2k{K:au}{T U:String}{b:Bool}(hm:W.kitMeta U=true)(h3:W.subIn K (.type T) (.type U)=some b)(hn:Value.type T≠.type U):W.kitOne K (.type T) (.type U)=some b:=by unfold W.kitOne;rw[if_neg (λz=>hn (eq_of_beq z))];unfold W.kitCls;dsimp only;rw[if_pos hm];exact h3
theorem Gd:∀{bs:List Bool} {us:List Value},Vals (bs.map V.bl) us->us=bs.map Value.bool
 |[],us,r=>by cases r;rfl
 | b::bs,us,r=>by
  cases r with
  | cons h t=>
   have e:_=Value.bool b:=h;rw[e,Gd t];rfl
theorem iS{α:Type}(l:List α)(f:α->Bool)(tr:Nat->Bool)(h:∀i x,l[i]? =some x->tr i=f x):(List.range l.length).all tr=l.all f:=by
 induction l generalizing tr with
 |nil=>rfl
 | cons a l ih=>
  rw[jl,List.range_succ_eq_map,List.all_cons,List.all_map,List.all_cons,h 0 a rfl];congr 1;exact ih (λi=>tr (i+1)) λi x e=>h (i+1) x (by simpa using e)
theorem qlb{K:au}(hK:X.K=K)(hc:X.calm=true):gB X (.builtin "all") (λxs H Q=>∃(p:Addr) (bs:List Bool),xs=[.ref p]/\SqL K H p (bs.map V.bl)/\Q (.bl (bs.all id)) H):=by
 subst hK;intro z5 s σ H xs us Q I r h;obtain⟨p,bs,rfl,hq,q⟩:=h;obtain⟨u,rfl,ru⟩:=cQ r;cases ru;obtain⟨its,rv,pl,hz⟩:=I.list hq;have hh:X.A.in1.handled=none:=I.ok.hd hc;have eits:=Gd rv;have hl:=pl.isList;have hlt:p<s.heap.objs.size:=by obtain⟨_,e,_⟩:=hl;exact j5 e
 refine call_all_walk (wpAny_pyIter_list hl ?_);refine⟨_,_,_,_,_,_,λi=>bs.getD i false,rfl,Walks.list hh s.heap.objs.size p (jh hlt) its.toArray,⟨⟨_,jj _ rfl,rfl,rfl⟩,hl.push _⟩,λi v s' Q' E' hP hQ=>?_,λh' tk hk=>?_⟩
 ·have e:(bs.map Value.bool)[i]? =some v:=by rw[<-eits];simpa using hP
  rw[jd]at e;cases z:bs[i]? with
  |none=>rw[z]at e;cases e
  | some b=>
   rw[z]at e;have e':v=Value.bool b:=(jb e).symm;subst e';refine k6 ?_;have:bs.getD i false=b:=by rw[jc,z];rfl
   dsimp only at hQ;rw[this]at hQ;exact hQ
 ·have len:its.toArray.size=bs.length:=by rw[eits];simp
  refine⟨.bl (bs.all id),H,I.kept (t':=tk) λb o e=>hk b o (λz=>?_) (j6 _ e),?_,q⟩
  ·have:=j5 e;rw[List.mem_singleton.mp z]at this;exact x9 _ this
  ·show Value.bool _=Value.bool _;rw[len,iS bs id];intro i x e;rw[jc,e];rfl
mutual
inductive DV(K:au)(H:Hp):V->PyData->Prop
 |non:DV K H .non .none
 |bl (b:Bool):DV K H (.bl b) (.bool b)
 |int (i:Int):DV K H (.int i) (.int i)
 |str (x:Str):DV K H (.str x) (.str x)
 |lst {a:Addr} {xs:List V} {ds:List PyData}:SqL K H a xs->DVs K H xs ds->DV K H (.ref a) (.list ds)
 |tup {a:Addr} {xs:List V} {ds:List PyData}:SqT K H a xs->DVs K H xs ds->DV K H (.ref a) (.tuple ds)
inductive DVs(K:au)(H:Hp):List V->List PyData->Prop
 |nil:DVs K H [] []
 |cons {x:V} {xs:List V} {d:PyData} {ds:List PyData}:DV K H x d->DVs K H xs ds->DVs K H (x::xs) (d::ds)
end
mutual
theorem p9{z5:List (Addr×Obj)}{σ:St}{H:Hp}{s:Shared}(I:Inv X z5 σ H s):∀{x:V} {d:PyData} {u:Value},DV X.K H x d->RelV x u->∃as,Reads s.heap u d as
 |_,_,u,.non,r=>by cases(show u=Value.none from r);exact⟨_,.none⟩
 |_,_,u,.bl b,r=>by cases(show u=Value.bool b from r);exact⟨_,.bool b⟩
 |_,_,u,.int i,r=>by obtain⟨t,e⟩:=(show∃t,u=Value.int i t from r);cases e;exact⟨_,.int i t⟩
 |_,_,u,.str x,r=>by obtain⟨t,e⟩:=(show∃t,u=Value.str x t from r);cases e;exact⟨_,.str x t⟩
 | _,_,u,.lst (a:=a) hq hs,r=>by cases(show u=Value.ref a from r);obtain⟨its,rv,pl,_⟩:=I.list hq;obtain⟨o,e,c,n,dd⟩:=pl.isList;obtain⟨as,q⟩:=yz I hs rv;exact⟨_,reads_list_at e c dd (by simpa using q)⟩
 | _,_,u,.tup (a:=a) hq hs,r=>by cases(show u=Value.ref a from r);obtain⟨its,rv,pl,_⟩:=I.tuple hq;obtain⟨o,e,c,n,dd⟩:=pl;obtain⟨as,q⟩:=yz I hs rv;exact⟨_,reads_tuple_at e c dd (by simpa using q)⟩
theorem yz{z5:List (Addr×Obj)}{σ:St}{H:Hp}{s:Shared}(I:Inv X z5 σ H s):∀{xs:List V} {ds:List PyData} {us:List Value},DVs X.K H xs ds->Vals xs us->∃as,ReadsAll s.heap us ds as
 |_,_,_,.nil,.nil=>⟨_,.nil⟩
 | _,_,_,.cons h t,.cons r rs=>by obtain⟨as,q⟩:=p9 I h r;obtain⟨bs,p⟩:=yz I t rs;exact⟨_,.cons q p⟩
end
def qQ(K:au):R2:=λx y H Q=>∃d e,DV K H x d/\DV K H y e/\SeqAt.shaped d=true/\SeqAt.shaped e=true/\Q (.bl (PyData.eqv d e)) H
def qJ(K:au):R2:=λx y H Q=>∃d e,DV K H x d/\DV K H y e/\SeqAt.shaped d=true/\SeqAt.shaped e=true/\Q (.bl (!PyData.eqv d e)) H
theorem fP{K:au}(hK:X.K=K)(hu:X.A.units+64<cLine):OpR X (compareOp .Eq) (qQ K):=by subst hK;intro z5 s σ H x y v u Q I rx ry h;obtain⟨d,e,hd,he,sd,se,q⟩:=h;obtain⟨as,ra⟩:=p9 I hd rx;obtain⟨bs,rb⟩:=p9 I he ry;exact eq_dataH ra rb sd se hu ⟨.bl _,H,I,rfl,q⟩
theorem pR{K:au}(hK:X.K=K)(hu:X.A.units+64<cLine):OpR X (compareOp .NotEq) (qJ K):=by subst hK;intro z5 s σ H x y v u Q I rx ry h;obtain⟨d,e,hd,he,sd,se,q⟩:=h;obtain⟨as,ra⟩:=p9 I hd rx;obtain⟨bs,rb⟩:=p9 I he ry;exact ne_dataH ra rb sd se hu ⟨.bl _,H,I,rfl,q⟩
structure MkN(K:au)(C:Addr):Prop where
 makes:PySem.W.makesIn K C=true
 init:PySem.W.findIn K (.ref C) "__init__"=some (some (.builtin "object.__init__"))
 kp:PySem.W.keepIn K (.ref C)=true
def DS(C:Addr):TE:=λ_ H Q=>∀x dx,H x=none->H dx=none->dx≠x->Q (.ref x) (aP (aP H dx (.own x)) x (.ins C dx []))
theorem qgo{C:Addr}{z5:List (Addr×Obj)}{σ:St}{H:Hp}{s:Shared}{Q:VK}(M:MkN X.K C)(I:Inv X z5 σ H s)
 (h:∀x dx,H x=none->H dx=none->dx≠x->Q (.ref x) (aP (aP H dx (.own x)) x (.ins C dx []))):wpAny (model X.prog X.w) X.A (call (.ref C) []) (EP X z5 σ Q) X.xe s:=by
 have hq:=h (s.heap.objs.size+1) s.heap.objs.size (I.hok.fresh (Nat.le_succ _)) (I.hok.fresh (j7 _)) (jh (Nat.lt_succ_self _));have I2:=Inv.made (C:=C) I;refine wpAny_call (qht I.kIn M.makes M.init (λself=>PySem.W.Looks.of_pure (PySem.W.oi_bind self)) ?_);have Y:=PySem.W.makes_of (M:=model X.prog X.w) I.kIn M.makes;have g1:((s.heap.push PySem.W.emptyDict).push (PySem.W.instObj C s.heap.objs.size)).get? (s.heap.objs.size+1)=some (PySem.W.instObj C s.heap.objs.size):=by
  have z:=jj (o:=PySem.W.instObj C s.heap.objs.size) (s.heap.push PySem.W.emptyDict) rfl
  rwa [xg]at z
 have t1:PySem.W.Looks (model X.prog X.w) ((s.heap.push PySem.W.emptyDict).push (PySem.W.instObj C s.heap.objs.size)) (typeOf (.ref (s.heap.objs.size+1))) (.ref C):=(PySem.W.Looks.ld g1).andThen .now;have t2:PySem.W.Looks (model X.prog X.w) ((s.heap.push PySem.W.emptyDict).push (PySem.W.instObj C s.heap.objs.size)) (isInstance (.ref (s.heap.objs.size+1)) (.type "object")) true:=
  t1.andThen (Y.top.keeps λb o e=>j6 _ (j6 _ e))
 refine codeAny_call_builtin PySem.W.oi_plain PySem.W.entry_oi (PySem.W.check_slot PySem.W.oi_kind PySem.W.oi_split t2 (PySem.W.oi_args _) ?_);rw[PySem.W.oi_run];exact j4 ⟨rfl,⟨.ref (s.heap.objs.size+1),_,I2,rfl,hq⟩⟩
theorem qjv{C:Addr}{x:Str}{p pos:Pos}(M:MkN X.K C)(hg:Gl X x)(hm:X.mg x=some (.ref C))(hdb:(x==("__debug__":Str))=false:=by decide):PE X (.Call (.Name x p) [] [] pos) (DS C):=by intro z5 s σ H Q I h;refine xh (wK I hg hm ?_ hdb);exact PySem.W.callWith_K0 I.kIn M.kp (qgo M I h)
end
def seqIs(b:Bool)(h:Heap)(l:Addr)(xs:Array Value):Prop:=match b with
 |true=>h.IsList l xs
 |false=>h.IsTuple l xs
def iterIs(b:Bool)(h:Heap)(i l:Addr)(k:Nat):Prop:=match b with
 |true=>h.IsListIter i l k
 |false=>h.IsTupleIter i l k
def mK(b:Bool)(l:Addr):Obj:={cls:=.type (if b then "list_iterator" else "tuple_iterator"),data:=.fields #[.ref l,.int 0 0]}
theorem seqIs.at_{b:Bool}{h h':Heap}{l:Addr}{xs:Array Value}(q:seqIs b h l xs)(e:∀o,h.get? l=some o->h'.get? l=some o):seqIs b h' l xs:=by
 cases b
 ·obtain⟨o,z,r⟩:=(show h.IsTuple l xs from q);exact(show h'.IsTuple l xs from⟨o,e o z,r⟩)
 ·obtain⟨o,z,r⟩:=(show h.IsList l xs from q);exact(show h'.IsList l xs from⟨o,e o z,r⟩)
theorem iterIs.at_{b:Bool}{h h':Heap}{i l:Addr}{k:Nat}(q:iterIs b h i l k)(e:∀o,h.get? i=some o->h'.get? i=some o):iterIs b h' i l k:=by
 cases b
 ·obtain⟨o,z,r⟩:=(show h.IsTupleIter i l k from q);exact(show h'.IsTupleIter i l k from⟨o,e o z,r⟩)
 ·obtain⟨o,z,r⟩:=(show h.IsListIter i l k from q);exact(show h'.IsListIter i l k from⟨o,e o z,r⟩)
theorem iterIs.obj{b:Bool}{h:Heap}{i l:Addr}{k:Nat}(q:iterIs b h i l k):∃o,h.get? i=some o/\∀v,o.data≠.cell v:=by
 cases b
 ·obtain⟨o,z,_,d⟩:=(show h.IsTupleIter i l k from q);exact⟨o,z,λv e=>by rw[d]at e;cases e⟩
 ·obtain⟨o,z,_,d⟩:=(show h.IsListIter i l k from q);exact⟨o,z,λv e=>by rw[d]at e;cases e⟩
theorem iterIs.mk_{b:Bool}{h:Heap}{i l:Addr}(q:h.get? i=some (mK b l)):iterIs b h i l 0:=by
 cases b
 ·exact(show h.IsTupleIter i l 0 from⟨_,q,rfl,rfl⟩)
 ·exact(show h.IsListIter i l 0 from⟨_,q,rfl,rfl⟩)
section
variable{prog:Program}{w:World}{A:Around}{E:Value->Shared->Prop}{s:Shared}
theorem F9{b:Bool}{l:Addr}{xs:Array Value}{Q:Value->Shared->Prop}(q:seqIs b s.heap l xs)(h:Q (.ref s.heap.objs.size) {s with heap:=s.heap.push (mK b l)}):wpAny (model prog w) A (pyIter (.ref l)) Q E s:=by
 cases b
 ·exact wpAny_pyIter_tuple (show s.heap.IsTuple l xs from q) h
 ·exact wpAny_pyIter_list (show s.heap.IsList l xs from q) h
theorem qah{i l:Addr}{k:Nat}{xs:Array Value}{x:Value}{Q:Value->Shared->Prop}(st:s.heap.IsTupleIter i l k)(tp:s.heap.IsTuple l xs)(e:xs[k]? =some x)
 (h:∀h',h'.IsTupleIter i l (k+1)->Heap.SameBut i s.heap h'->Q x {s with heap:=h'}):wpAny (model prog w) A (Builtin.SmallTypes.nextOf (.ref i)) Q E s:=by
 obtain⟨oi,gi,ci,di⟩:=id st;obtain⟨ot,gt,_,nt,dt⟩:=tp;unfold Builtin.SmallTypes.nextOf;refine j0 (xw (name:=Str.ofString "__next__") st.typeIs ki (xu ki st.typeIs F.entry_tuple_iterator_next ?_ (F.args_tuple_iterator_next_1 _)));show wpAny _ _ (field (.ref i) 0 >>= _) _ _ s;refine j0 (xf gi di (x:=.ref l) rfl ?_);show wpAny _ _ (if(Value.ref l==Value.none)=true then _ else _) _ _ s;rw[if_neg (by exact Bool.false_ne_true:¬((Value.ref l==Value.none)=true))];show wpAny _ _ (field (.ref i) 1 >>= _) _ _ s;refine j0 (xf gi di (x:=.int k 0) rfl ?_);show wpAny _ _ (seqItems? (.ref l) >>= _) _ _ s;refine j0 (xl gt dt ?_);simp only[Int.toNat_natCast,e];refine j0 (wpAny_setField gi di (by simp) (j4 ⟨x,rfl,j4 (h _ ?_ (kg ..))⟩));refine⟨_,k8 _ gi (Obj.isFreed_of_fields (Obj.data_mapFields di _)),(Obj.cls_mapFields ..).trans ci,?_⟩;rw[Obj.data_mapFields di];simp[rawInt]
theorem q6l{i l:Addr}{k:Nat}{xs:Array Value}{Q:Value->Shared->Prop}(hh:A.handled=none)(st:s.heap.IsTupleIter i l k)(tp:s.heap.IsTuple l xs)(e:xs[k]? =none)
 (h:∀h' x,Heap.ExtBut i s.heap h'->(∃o,h'.get? x=some o/\o.cls=.type "StopIteration")->E (.ref x) {s with heap:=h'}):wpAny (model prog w) A (Builtin.SmallTypes.nextOf (.ref i)) Q E s:=by
 obtain⟨oi,gi,ci,di⟩:=id st;obtain⟨ot,gt,_,nt,dt⟩:=tp;unfold Builtin.SmallTypes.nextOf;refine j0 (xw (name:=Str.ofString "__next__") st.typeIs ki (xu ki st.typeIs F.entry_tuple_iterator_next ?_ (F.args_tuple_iterator_next_1 _)));show wpAny _ _ (field (.ref i) 0 >>= _) _ _ s;refine j0 (xf gi di (x:=.ref l) rfl ?_);show wpAny _ _ (if(Value.ref l==Value.none)=true then _ else _) _ _ s;rw[if_neg (by exact Bool.false_ne_true:¬((Value.ref l==Value.none)=true))];show wpAny _ _ (field (.ref i) 1 >>= _) _ _ s;refine j0 (xf gi di (x:=.int k 0) rfl ?_);show wpAny _ _ (seqItems? (.ref l) >>= _) _ _ s;refine j0 (xl gt dt ?_);simp only[Int.toNat_natCast,e];refine j0 (wpAny_rule (j0 (wpAny_setField gi di (by simp) ?_)));show wpAny _ _ (newExc (.type "StopIteration") [] >>= _) _ _ _;refine j0 ?_;simp only[newExc,newTuple];refine j0 (xq ?_ (by size_fits));refine j0 (m:=firstArgMember _ _) (wpAny_of_eq (a:=Value.none) (by first|rfl|(simp only[firstArgMember]<;>rfl)) ?_);refine xq ?_ (by size_fits);simp only[raiseNew];refine j0 (wpAny_handled ?_)
 first|rw[(hh:A.in1.handled=none)]|rw[hh]
 refine j0 (j4 (wpAny_throw ?_));exact h _ _ (((kg ..).extBut.push _).push _) ⟨_,jj _ rfl,rfl⟩
theorem yv{b:Bool}{i l:Addr}{k:Nat}{xs:Array Value}{x:Value}{Q:Value->Shared->Prop}(st:iterIs b s.heap i l k)(tp:seqIs b s.heap l xs)(e:xs[k]? =some x)
 (h:∀h',iterIs b h' i l (k+1)->Heap.SameBut i s.heap h'->Q x {s with heap:=h'}):wpAny (model prog w) A (Builtin.SmallTypes.nextOf (.ref i)) Q E s:=by
 cases b
 ·exact qah st tp e h
 ·exact wpAny_nextOf_list_item st tp e h
theorem Gr{b:Bool}{i l:Addr}{k:Nat}{xs:Array Value}{Q:Value->Shared->Prop}(hh:A.handled=none)(st:iterIs b s.heap i l k)(tp:seqIs b s.heap l xs)(e:xs[k]? =none)
 (h:∀h' x,Heap.ExtBut i s.heap h'->(∃o,h'.get? x=some o/\o.cls=.type "StopIteration")->E (.ref x) {s with heap:=h'}):wpAny (model prog w) A (Builtin.SmallTypes.nextOf (.ref i)) Q E s:=by
 cases b
 ·exact q6l hh st tp e h
 ·exact wpAny_nextOf_list_end hh st tp e h
theorem qj8{z TI TO i1 i2 l1 l2:Addr}{b1 b2:Bool}{k1 k2:Nat}{xs ys:Array Value}{x y a b:Value}{Q:Option Value->Shared->Prop}(D:ZipApart z TI TO i1 i2 l1 l2)
 (hz:IsZip s.heap z TI TO .none) (hTI:IsPair s.heap TI (.ref i1) (.ref i2)) (hTO:IsPair s.heap TO a b) (h1:iterIs b1 s.heap i1 l1 k1) (h2:iterIs b2 s.heap i2 l2 k2) (q1:seqIs b1 s.heap l1 xs) (q2:seqIs b2 s.heap l2 ys) (hx:xs[k1]? =some x) (hy:ys[k2]? =some y)
 (hQ:∀h',IsZip h' z TI TO (rawInt s.heap.objs.size)->IsPair h' TO x y->iterIs b1 h' i1 l1 (k1+1)->iterIs b2 h' i2 l2 (k2+1)->IsPair h' s.heap.objs.size x y->
   (∀c o,c≠z->c≠TO->c≠i1->c≠i2->s.heap.get? c=some o->h'.get? c=some o)->Q (some (.ref s.heap.objs.size)) {s with heap:=h'}):wpAny (model prog w) A (pyNext (.ref z)) Q E s:=by
 have ty:s.TypeIs (.ref z) "zip":=⟨_,hz,rfl⟩;unfold pyNext;refine j0 (wpAny_attempt (xw (name:=Str.ofString "__next__") ty F.slot_zip_next (xu F.slot_zip_next ty F.entry_zip_next ?_ (F.args_zip_next_1 _))));show wpAny _ _ (field (.ref z) 2 >>= _) _ _ _;refine j0 (xf hz rfl (x:=.bool false) rfl ?_);show wpAny _ _ (field (.ref z) 3 >>= _) _ _ _;refine j0 (xf hz rfl (x:=.ref TI) rfl (j0 (xl hTI rfl ?_)));show wpAny _ _ (Builtin.SmallTypes.ownedTupleIsFree (.ref z) >>= _) _ _ _;refine j0 ?_;unfold Builtin.SmallTypes.ownedTupleIsFree;refine j0 (xf hz rfl (x:=.none) rfl (j4 ?_));simp only[if_true];refine j0 (wpAny_rule (j0 (xf hz rfl (x:=.ref TO) rfl (j0 (ke hz (by simp) λg1 z1 s1=>?_)))));have Z1:IsZip g1 z TI TO .ellipsis:=z1;refine j0 ?_;simp only[List.zipIdx_cons,List.zipIdx_nil,List.forIn_cons,List.forIn_nil];refine j0 (j0 (wpAny_onRaise ?_));show wpAny _ _ (Builtin.SmallTypes.nextOf (.ref i1) >>= _) _ _ _;refine j0 (yv (h1.at_ λo e=>s1.extBut _ o D.i1z e) (q1.at_ λo e=>s1.extBut _ o D.l1z e) hx λg2 n2 s2=>j4 ?_);have P2:IsPair g2 TO a b:=s2.extBut _ _ D.TOi1 (s1.extBut _ _ D.TOz hTO);refine j0 (xl P2 rfl (j0 (wpAny_updateSeq_pair P2 λg3 p3 s3=>j0 (wpAny_letGo (j4 ?_)))));have P3:IsPair g3 TO x b:=p3;refine j0 (j0 (wpAny_onRaise ?_));show wpAny _ _ (Builtin.SmallTypes.nextOf (.ref i2) >>= _) _ _ _;refine j0 (yv (h2.at_ λo e=>s3.extBut _ o D.TOi2.symm (s2.extBut _ o D.i12.symm (s1.extBut _ o D.i2z e))) (q2.at_ λo e=>s3.extBut _ o D.l2TO (s2.extBut _ o D.l2i1 (s1.extBut _ o D.l2z e))) hy λg4 n4 s4=>j4 ?_);have P4:IsPair g4 TO x b:=s4.extBut _ _ D.TOi2 P3;refine j0 (xl P4 rfl (j0 (wpAny_updateSeq_pair P4 λg5 p5 s5=>j0 (wpAny_letGo (j4 (j4 ?_))))));have P5:IsPair g5 TO x y:=p5;refine j0 (xl P5 rfl (j0 (wpAny_newTuple ?_)));have sz:g5.objs.size=s.heap.objs.size:=by rw[s5.1,s4.1,s3.1,s2.1,s1.1]
 have Z5:IsZip g5 z TI TO .ellipsis:=s5.extBut _ _ D.TOz.symm (s4.extBut _ _ D.i2z.symm (s3.extBut _ _ D.TOz.symm (s2.extBut _ _ D.i1z.symm Z1)));have K5:∀c o,c≠z->c≠TO->c≠i1->c≠i2->s.heap.get? c=some o->g5.get? c=some o:=λc o c1 c2 c3 c4 e=>s5.extBut _ _ c2 (s4.extBut _ _ c4 (s3.extBut _ _ c2 (s2.extBut _ _ c3 (s1.extBut _ _ c1 e))));have N1:iterIs b1 g5 i1 l1 (k1+1):=n2.at_ λo e=>s5.extBut _ o D.TOi1.symm (s4.extBut _ o D.i12 (s3.extBut _ o D.TOi1.symm e));have N2:iterIs b2 g5 i2 l2 (k2+1):=n4.at_ λo e=>s5.extBut _ o D.TOi2.symm e;have zlt:z<g5.objs.size:=j5 Z5;show wpAny _ _ (Builtin.SmallTypes.ownedTupleHandOut (.ref z) (.ref g5.objs.size) >>= _) _ _ _;refine j0 ?_;unfold Builtin.SmallTypes.ownedTupleHandOut;have Z6:IsZip (g5.push {cls:=.type "tuple",data:=.seq #[x,y]}) z TI TO .ellipsis:=j6 _ Z5;refine j0 (ke Z6 (by simp) λg7 z7 s7=>?_);have Z7:IsZip g7 z TI TO (rawInt g5.objs.size):=z7;refine ke Z7 (by simp) λg8 z8 s8=>?_;have Z8:IsZip g8 z TI TO (rawInt g5.objs.size):=z8;have up:∀c o,c≠z->g5.get? c=some o->g8.get? c=some o:=λc o c1 e=>s8.extBut _ _ c1 (s7.extBut _ _ c1 (j6 _ e));have T8:IsPair g8 g5.objs.size x y:=s8.extBut _ _ (Nat.ne_of_gt zlt) (s7.extBut _ _ (Nat.ne_of_gt zlt) (jj _ rfl));rw[sz]at Z8 T8;refine j4 ⟨_,rfl,j4 ?_⟩;show Q (some (.ref g5.objs.size)) _;rw[sz];exact hQ g8 Z8 (up _ _ D.TOz P5) (N1.at_ λo e=>up _ o D.i1z e) (N2.at_ λo e=>up _ o D.i2z e) T8 λc o c1 c2 c3 c4 e=>up c o c1 (K5 c o c1 c2 c3 c4 e)
theorem qna{z TI TO i1 i2 l1 l2:Addr}{b1 b2:Bool}{k1 k2:Nat}{xs ys:Array Value}{a b:Value}{Q:Option Value->Shared->Prop}(hh:A.handled=none)(D:ZipApart z TI TO i1 i2 l1 l2)
 (hz:IsZip s.heap z TI TO .none) (hTI:IsPair s.heap TI (.ref i1) (.ref i2)) (hTO:IsPair s.heap TO a b) (h1:iterIs b1 s.heap i1 l1 k1) (h2:iterIs b2 s.heap i2 l2 k2) (q1:seqIs b1 s.heap l1 xs) (q2:seqIs b2 s.heap l2 ys) (hend:xs[k1]? =none∨ys[k2]? =none)
 (hQ:∀h',(∀c o,c≠z->c≠TO->c≠i1->c≠i2->s.heap.get? c=some o->h'.get? c=some o)->Q none {s with heap:=h'}):wpAny (model prog w) A (pyNext (.ref z)) Q E s:=by
 have ty:s.TypeIs (.ref z) "zip":=⟨_,hz,rfl⟩;have fin:∀(h':Heap) (e:Addr),(∀c o,c≠z->c≠TO->c≠i1->c≠i2->s.heap.get? c=some o->h'.get? c=some o)->(∃o,h'.get? e=some o/\o.cls=.type "StopIteration")->
  wpAny (model prog w) A (isInstance (.ref e) (.type "StopIteration") >>= λr=>if r=true then pure none else throw (.ref e)) Q E {s with heap:=h'}:=λh' e hk ⟨o,ho,hc⟩=>
  j0 (wpAny_isInstance (T:="StopIteration") (b:=true) ⟨o,ho,hc⟩ isSubtype_stop (j4 (hQ _ hk)))
 unfold pyNext;refine j0 (wpAny_attempt (xw (name:=Str.ofString "__next__") ty F.slot_zip_next (xu F.slot_zip_next ty F.entry_zip_next ?_ (F.args_zip_next_1 _))));show wpAny _ _ (field (.ref z) 2 >>= _) _ _ _;refine j0 (xf hz rfl (x:=.bool false) rfl ?_);show wpAny _ _ (field (.ref z) 3 >>= _) _ _ _;refine j0 (xf hz rfl (x:=.ref TI) rfl (j0 (xl hTI rfl ?_)));show wpAny _ _ (Builtin.SmallTypes.ownedTupleIsFree (.ref z) >>= _) _ _ _;refine j0 ?_;unfold Builtin.SmallTypes.ownedTupleIsFree;refine j0 (xf hz rfl (x:=.none) rfl (j4 ?_));simp only[if_true];refine j0 (wpAny_rule (j0 (xf hz rfl (x:=.ref TO) rfl (j0 (ke hz (by simp) λg1 z1 s1=>?_)))));have Z1:IsZip g1 z TI TO .ellipsis:=z1;refine j0 ?_;simp only[List.zipIdx_cons,List.zipIdx_nil,List.forIn_cons,List.forIn_nil];refine j0 (j0 (wpAny_onRaise ?_));show wpAny _ _ (Builtin.SmallTypes.nextOf (.ref i1) >>= _) _ _ _;have I1:iterIs b1 g1 i1 l1 k1:=h1.at_ λo e=>s1.extBut _ o D.i1z e;have L1:seqIs b1 g1 l1 xs:=q1.at_ λo e=>s1.extBut _ o D.l1z e;cases ex:xs[k1]? with
 | none=>
  refine j0 (Gr hh I1 L1 ex λg2 e s2 he=>?_);obtain⟨oe,he,ce⟩:=he;have Z2:IsZip g2 z TI TO .ellipsis:=s2 _ _ D.i1z.symm Z1;have nez:e≠z:=λq=>by subst q;rw[Z2]at he;cases he;simp at ce
  exact ke Z2 (by simp) λg3 _ s3=>fin g3 e (λc o c1 _ c3 _ q=>s3.extBut _ _ c1 (s2 _ _ c3 (s1.extBut _ _ c1 q))) ⟨oe,s3.extBut _ _ nez he,ce⟩
 | some x=>
  have ey:ys[k2]? =none:=by
   rcases hend with q|q
   ·rw[ex]at q;cases q
   ·exact q
  refine j0 (yv I1 L1 ex λg2 n2 s2=>j4 ?_);have P2:IsPair g2 TO a b:=s2.extBut _ _ D.TOi1 (s1.extBut _ _ D.TOz hTO);refine j0 (xl P2 rfl (j0 (wpAny_updateSeq_pair P2 λg3 p3 s3=>j0 (wpAny_letGo (j4 ?_)))));refine j0 (j0 (wpAny_onRaise ?_));show wpAny _ _ (Builtin.SmallTypes.nextOf (.ref i2) >>= _) _ _ _;refine j0 (Gr hh (h2.at_ λo e=>s3.extBut _ o D.TOi2.symm (s2.extBut _ o D.i12.symm (s1.extBut _ o D.i2z e))) (q2.at_ λo e=>s3.extBut _ o D.l2TO (s2.extBut _ o D.l2i1 (s1.extBut _ o D.l2z e))) ey λg4 e s4 he=>?_);obtain⟨oe,he,ce⟩:=he;have Z4:IsZip g4 z TI TO .ellipsis:=s4 _ _ D.i2z.symm (s3.extBut _ _ D.TOz.symm (s2.extBut _ _ D.i1z.symm Z1));have nez:e≠z:=λq=>by subst q;rw[Z4]at he;cases he;simp at ce
  exact ke Z4 (by simp) λg5 _ s5=>fin g5 e (λc o c1 c2 c3 c4 q=>s5.extBut _ _ c1 (s4 _ _ c4 (s3.extBut _ _ c2 (s2.extBut _ _ c3 (s1.extBut _ _ c1 q))))) ⟨oe,s5.extBut _ _ nez he,ce⟩
abbrev rB(b1:Bool)(h:Heap)(l1:Addr):Heap:=h.push (mK b1 l1)
abbrev rA(b1 b2:Bool)(h:Heap)(l1 l2:Addr):Heap:=(rB b1 h l1).push (mK b2 l2)
abbrev rq(b1 b2:Bool)(h:Heap)(l1 l2:Addr):Heap:=(rA b1 b2 h l1 l2).push {cls:=.type "tuple",data:=.seq #[.ref h.objs.size,.ref (rB b1 h l1).objs.size]}
abbrev rm(b1 b2:Bool)(h:Heap)(l1 l2:Addr):Heap:=(rq b1 b2 h l1 l2).push {cls:=.type "tuple",data:=.seq #[.none,.none]}
abbrev nV(b1 b2:Bool)(h:Heap)(l1 l2:Addr):Heap:=(rm b1 b2 h l1 l2).push {cls:=.type "zip",data:=.fields #[.none,.bool false,.bool false,.ref (rA b1 b2 h l1 l2).objs.size,.ref (rq b1 b2 h l1 l2).objs.size]}
theorem qn9(b1 b2:Bool)(l1 l2:Addr)(xs ys:Array Value):Meets (Builtin.«zip.__new__» ⟨[.type "zip",.ref l1,.ref l2],[]⟩) (λ_ R s=>seqIs b1 s.heap l1 xs/\seqIs b2 s.heap l2 ys/\
 R (.ok (.ret (.ref (rm b1 b2 s.heap l1 l2).objs.size))) {s with heap:=nV b1 b2 s.heap l1 l2}):=by
 refine .of_wp λprog w A R s q=>?_;obtain⟨hp,g,d,tk,os⟩:=s;obtain⟨q1,q2,q⟩:=q;have sub:=sub_zip;have L1:seqIs b1 (Shared.heap ⟨hp,g,d,tk,os⟩) l1 xs:=q1;have L2':seqIs b2 (Shared.heap ⟨hp.push (mK b1 l1),g,d,tk,os⟩) l2 ys:=q2.at_ λo z=>j6 _ z
 wp_walk using F9 L1,F9 L2'
 exact⟨_,rfl,q⟩
theorem ql9{b1 b2:Bool}{l1 l2:Addr}{xs ys:Array Value}{Q:Value->Shared->Prop}(q1:seqIs b1 s.heap l1 xs)(q2:seqIs b2 s.heap l2 ys)
 (h:∀h',IsZip h' (s.heap.objs.size+4) (s.heap.objs.size+2) (s.heap.objs.size+3) .none->IsPair h' (s.heap.objs.size+2) (.ref s.heap.objs.size) (.ref (s.heap.objs.size+1))->IsPair h' (s.heap.objs.size+3) .none .none->
   iterIs b1 h' s.heap.objs.size l1 0->iterIs b2 h' (s.heap.objs.size+1) l2 0->(∀c o,s.heap.get? c=some o->h'.get? c=some o)->Q (.ref (s.heap.objs.size+4)) {s with heap:=h'}):
 wpAny (model prog w) A (call (.type "zip") [.ref l1,.ref l2]) Q E s:=by
 refine callType_new F.called_zip (by decide) (F.typeCall_zip_2 _ _) (F.newCall_zip_2 _ _) (λobj=>F.args_object_init_3 obj _ _) F.entry_zip_new (qn9 b1 b2 l1 l2 xs ys) ⟨q1,q2,?_⟩;have y1:(rB b1 s.heap l1).objs.size=s.heap.objs.size+1:=xg ..;have y2:(rA b1 b2 s.heap l1 l2).objs.size=s.heap.objs.size+2:=by rw[xg,y1]
 have y3:(rq b1 b2 s.heap l1 l2).objs.size=s.heap.objs.size+3:=by rw[xg,y2]
 have y4:(rm b1 b2 s.heap l1 l2).objs.size=s.heap.objs.size+4:=by rw[xg,y3]
 have k5:(nV b1 b2 s.heap l1 l2).get? (rm b1 b2 s.heap l1 l2).objs.size=some _:=jj _ rfl;have k4:(nV b1 b2 s.heap l1 l2).get? (rq b1 b2 s.heap l1 l2).objs.size=some _:=j6 _ (jj _ rfl);have k3:(nV b1 b2 s.heap l1 l2).get? (rA b1 b2 s.heap l1 l2).objs.size=some _:=j6 _ (j6 _ (jj _ rfl));have k2:(nV b1 b2 s.heap l1 l2).get? (rB b1 s.heap l1).objs.size=some (mK b2 l2):=j6 _ (j6 _ (j6 _ (jj _ (by cases b2<;>rfl))));have k1:(nV b1 b2 s.heap l1 l2).get? s.heap.objs.size=some (mK b1 l1):=j6 _ (j6 _ (j6 _ (j6 _ (jj _ (by cases b1<;>rfl)))));show _/\_;rw[y2,y3,y4]at k5;rw[y1,y2]at k3;rw[y3]at k4;rw[y1]at k2;rw[y4];exact⟨⟨_,k5,rfl⟩,h _ k5 k3 k4 (iterIs.mk_ k1) (iterIs.mk_ k2) λc o x=>j6 _ (j6 _ (j6 _ (j6 _ (j6 _ x))))⟩
end
def SqB(K:au)(b:Bool)(H:Hp)(p:Addr)(xs:List V):Prop:=match b with
 |true=>SqL K H p xs
 |false=>SqT K H p xs
section
variable{X:Cx}{z5:List (Addr×Obj)}{σ:St}{H:Hp}{s:Shared}{b b1 b2:Bool}{p p1 p2:Addr}{xs ys:List V}
theorem Inv.seqB(I:Inv X z5 σ H s)(h:SqB X.K b H p xs):∃its:List Value,Vals xs its/\seqIs b s.heap p its.toArray/\xs.length<=sizeLine:=by
 cases b
 ·obtain⟨its,r,q,hz⟩:=I.tuple (show SqT X.K H p xs from h);exact⟨its,r,(show s.heap.IsTuple p its.toArray from q),hz⟩
 ·obtain⟨its,r,q,hz⟩:=I.list (show SqL X.K H p xs from h);exact⟨its,r,(show s.heap.IsList p its.toArray from q.isList),hz⟩
theorem Inv.seqB_inj(I:Inv X z5 σ H s)(h:SqB X.K b H p xs)(h':SqB X.K b H p ys):xs=ys:=by
 cases b
 ·exact I.tuple_inj h h'
 ·exact I.list_inj h h'
end
def yF(K:au)(b1 b2:Bool)(p1 p2:Addr):It:=
 ⟨λi H=>∃xs ys x y,SqB K b1 H p1 xs/\SqB K b2 H p2 ys/\xs[i]? =some x/\ys[i]? =some y,
  λi H v H'=>∃T x y,v=.ref T/\H T=none/\H'=aP H T (.tup [x,y])/\(∀xs,SqB K b1 H p1 xs->xs[i]? =some x)/\∀ys,SqB K b2 H p2 ys->ys[i]? =some y,
  λi H=>∃xs ys,SqB K b1 H p1 xs/\SqB K b2 H p2 ys/\(xs.length<=i∨ys.length<=i)⟩
def qvg(b1 b2:Bool)(p1 p2 z TI TO i1 i2:Addr)(i:Nat)(h:Heap):Prop:=IsZip h z TI TO .none/\IsPair h TI (.ref i1) (.ref i2)/\(∃a b,IsPair h TO a b)/\iterIs b1 h i1 p1 i/\iterIs b2 h i2 p2 i
theorem qje{P:Program}{w:World}{K:au}{zk:List Expr}{x1:Nat}{pos:Pos}(b1 b2:Bool){p1 p2 z TI TO i1 i2:Addr}(D:ZipApart z TI TO i1 i2 p1 p2):
 Turn P w K (.Tuple zk x1 pos) (yF K b1 b2 p1 p2) [z,TI,TO,i1,i2] z (qvg b1 b2 p1 p2 z TI TO i1 i2) where
 mem:=by simp
 obj:=λi h st c hc=>by
  obtain⟨hz,hI,⟨a,b,hO⟩,j1,j2⟩:=st;simp only[List.mem_cons,List.not_mem_nil,or_false]at hc;rcases hc with rfl|rfl|rfl|rfl|rfl
  ·exact⟨_,hz,λv e=>by cases e⟩
  ·exact⟨_,hI,λv e=>by cases e⟩
  ·exact⟨_,hO,λv e=>by cases e⟩
  ·exact j1.obj
  ·exact j2.obj
 keep:=λi h h' st k=>by obtain⟨hz,hI,⟨a,b,hO⟩,j1,j2⟩:=st;exact⟨k z (by simp) _ hz,k TI (by simp) _ hI,⟨a,b,k TO (by simp) _ hO⟩,j1.at_ λo e=>k i1 (by simp) o e,j2.at_ λo e=>k i2 (by simp) o e⟩
 item:=by
  intro X hP hw hK hc i z5 s σ H E I hf st hg;subst hP hw hK;obtain⟨xs,ys,x,y,q1,q2,ex,ey⟩:=hg;obtain⟨it1,r1,t1,_⟩:=I.seqB q1;obtain⟨it2,r2,t2,_⟩:=I.seqB q2;obtain⟨u,eu,ru⟩:=r1.get ex;obtain⟨v,ev,rv⟩:=r2.get ey;obtain⟨hz,hI,⟨a,b,hO⟩,j1,j2⟩:=st;refine qj8 D hz hI hO j1 j2 t1 t2 (x:=u) (y:=v) (by simpa using eu) (by simpa using ev) λh' z' o' n1 n2 tp kk=>?_;refine⟨_,rfl,?_⟩;refine wpAny_letOwnedTupleGo_zip z' λh'' z'' s''=>?_;have fresh:H s.heap.objs.size=none:=I.hok.fresh (j7 _);have zne:s.heap.objs.size≠z:=λe=>by have:=j5 hz;rw[<-e]at this;exact x9 _ this
  have keep:∀c o,c∉[z,TI,TO,i1,i2]->s.heap.get? c=some o->h''.get? c=some o:=λc o hc e=>by simp only[List.mem_cons,List.not_mem_nil,or_false,not_or]at hc;exact s''.extBut c o hc.1 (kk c o hc.1 hc.2.2.1 hc.2.2.2.1 hc.2.2.2.2 e)
  have tp':h''.get? s.heap.objs.size=some {cls:=.type "tuple",data:=.seq #[u,v]}:=s''.extBut _ _ zne tp;have I':Inv X z5 σ (aP H s.heap.objs.size (.tup [x,y])) {s with heap:=h'',toks:=s.toks}:=by
   refine I.step (g':=s.gens) (d':=s.drawn) (ch:=[z,TI,TO,i1,i2]) (λc hc=>?_) (λc o _ _ hc e _=>keep c o hc e) (λc o _ _ hc e _=>⟨o.slots,keep c o hc e⟩) (λc o _ e n=>?_) (λc o hc e=>⟨o,keep c o hc e⟩)
    (λc zs e=>?_) (λc o w' e=>?_) (λc ps e=>⟨#[],?_⟩) (λm hm=>?_) (λc o e=>?_) I.bare
   ·obtain⟨_,f1,f2,f3,f4,f5⟩:=hf c hc;exact⟨f3,f1,f4,f5⟩
   ·rw[aU (jh (j5 e))];exact n
   ·rw[aU (gp e fresh)];exact e
   ·rw[aU (gp e fresh)];exact e
   ·rw[aU (gp e fresh),e];simp
   ·obtain⟨o,es,ep,ho,r⟩:=hm;exact⟨o,es,ep,keep _ o (λq=>(hf _ q).2.1 rfl) ho,r⟩
   ·by_cases hb:c=s.heap.objs.size
    ·subst hb;rw[cM]at e;cases e;exact⟨by show 2<=sizeLine;decide,[u,v],.cons ru (.cons rv .nil),⟨_,tp',⟨rfl,_,rfl⟩,rfl⟩⟩
    ·rw[aU hb]at e;refine(I.hok c o e).stay (λd w' hd q=>keep d w' (λm=>?_) q) (λd q=>?_) λd zs q=>?_
     ·have n:=(hf d m).1;rcases hd with rfl|hd
      ·rw[n]at e;cases e
      ·rw[n]at hd;cases hd
     ·rw[aU (gp q fresh)];exact q
     ·rw[aU (gp q fresh)];exact q
  refine⟨.ref s.heap.objs.size,_,I',rfl,⟨_,x,y,rfl,fresh,rfl,λzs q=>by rw[I.seqB_inj q q1];exact ex,λzs q=>by rw[I.seqB_inj q q2];exact ey⟩,?_,λc hc=>?_⟩
  ·refine⟨z'',s''.extBut _ _ D.TIz (kk _ _ D.TIz D.TITO D.TIi1 D.TIi2 hI),⟨u,v,s''.extBut _ _ D.TOz o'⟩,n1.at_ λo e=>s''.extBut _ o D.i1z e,n2.at_ λo e=>s''.extBut _ o D.i2z e⟩
  ·have lt:c<s.heap.objs.size:=by
    simp only[List.mem_cons,List.not_mem_nil,or_false]at hc;rcases hc with rfl|rfl|rfl|rfl|rfl
    ·exact j5 hz
    ·exact j5 hI
    ·exact j5 hO
    ·obtain⟨o,e,_⟩:=j1.obj;exact j5 e
    ·obtain⟨o,e,_⟩:=j2.obj;exact j5 e
   rw[aU (jh lt)];exact(hf c hc).1
 done:=by
  intro X hP hw hK hc i z5 s σ H E I hf st hg;subst hP hw hK;obtain⟨xs,ys,q1,q2,hl⟩:=hg;obtain⟨it1,r1,t1,_⟩:=I.seqB q1;obtain⟨it2,r2,t2,_⟩:=I.seqB q2;obtain⟨hz,hI,⟨a,b,hO⟩,j1,j2⟩:=st;have l1:=r1.length;have l2:=r2.length;refine qna (I.ok.hd hc) D hz hI hO j1 j2 t1 t2 (by rcases hl with h|h;exact .inl (by simp;omega);exact .inr (by simp;omega)) λh' kk=>⟨rfl,?_⟩;have keep:∀c o,c∉[z,TI,TO,i1,i2]->s.heap.get? c=some o->h'.get? c=some o:=λc o hc e=>by simp only[List.mem_cons,List.not_mem_nil,or_false,not_or]at hc;exact kk c o hc.1 hc.2.2.1 hc.2.2.2.1 hc.2.2.2.2 e
  show Inv X z5 σ H {s with heap:=h',toks:=s.toks};refine I.step (g':=s.gens) (d':=s.drawn) (ch:=[z,TI,TO,i1,i2]) (λc hc=>?_) (λc o _ _ hc e _=>keep c o hc e) (λc o _ _ hc e _=>⟨o.slots,keep c o hc e⟩) (λc o _ e n=>n) (λc o hc e=>⟨o,keep c o hc e⟩)
   (λc zs e=>e) (λc o w' e=>e) (λc ps e=>⟨#[],by rw[e];simp⟩) (λm hm=>?_) (λc o e=>?_) I.bare
  ·obtain⟨_,f1,f2,f3,f4,f5⟩:=hf c hc;exact⟨f3,f1,f4,f5⟩
  ·obtain⟨o,es,ep,ho,r⟩:=hm;exact⟨o,es,ep,keep _ o (λq=>(hf _ q).2.1 rfl) ho,r⟩
  ·refine(I.hok c o e).stay (λd w' hd q=>keep d w' (λm=>?_) q) (λd q=>q) λd zs q=>q;have n:=(hf d m).1;rcases hd with rfl|hd
   ·rw[n]at e;cases e
   ·rw[n]at hd;cases hd
 self:=λ_ _ _ _ _ st h=>wpAny_pyIter_zip st.1 h
section
variable{X:Cx}{a b:Expr}{ta:TA}{p pos:Pos}{zk:List Expr}{x1:Nat}{tp:Pos}
def iN(K:au)(b1 b2:Bool)(ta:TA):TI:=λσ H R=>ta σ H λvs H1=>∃p1 p2,vs=[.ref p1,.ref p2]/\(∃xs,SqB K b1 H1 p1 xs)/\(∃ys,SqB K b2 H1 p2 ys)/\R (yF K b1 b2 p1 p2) H1
theorem sT{K:au}(b1 b2:Bool)(hK:X.K=K)(hg:Gl X "zip")(hm:X.mg "zip"=none)(ha:PA X [a,b] ta)(he:starEach [a,b] X.env=(false,eval a X.env)::starEach [b] X.env:=by rfl)(hpl:(backTo pos (starEach [b] X.env)).any (·.1)=false:=by rfl):
 PI X (.Tuple zk x1 tp) (.Call (.Name "zip" p) [a,b] [] pos) (iN K b1 b2 ta):=by
 subst hK;intro z5 s σ H R I h;refine xh (iw I hg hm (u:=.type "zip") (by rfl) ?_);refine PyProof.Rows.callWith_type1 (bd (ha pos z5 s σ H _ I h) λus s1 h1=>?_) he hpl;obtain⟨vs,H1,I1,r1,p1,p2,rfl,⟨xs,q1⟩,⟨ys,q2⟩,k⟩:=h1;obtain⟨u,w',rfl,ru,rw'⟩:=fM r1;cases(show u=Value.ref p1 from ru);cases(show w'=Value.ref p2 from rw');obtain⟨it1,r1,t1,_⟩:=I1.seqB q1;obtain⟨it2,r2,t2,_⟩:=I1.seqB q2;have lt:∀{c:Addr} {b:Bool} {zs:Array Value},seqIs b s1.heap c zs->c<s1.heap.objs.size:=λ{c b zs} q=>by
  cases b
  ·obtain⟨o,e,_⟩:=(show s1.heap.IsTuple c zs from q);exact j5 e
  ·obtain⟨o,e,_⟩:=(show s1.heap.IsList c zs from q);exact j5 e
 refine ql9 t1 t2 λh' hz hI hO j1 j2 kk=>wpAny_pyIter_zip hz ?_;have D:=zipApart_new (lt t1) (lt t2);have I2:Inv X z5 σ H1 {s1 with heap:=h',toks:=s1.toks}:=I1.kept kk;refine⟨_,_,_,_,H1,rfl,I2,qje b1 b2 D,⟨hz,hI,⟨_,_,hO⟩,j1,j2⟩,λc hc=>?_,k⟩;have le:s1.heap.objs.size<=c:=by simp only[List.mem_cons,List.not_mem_nil,or_false]at hc;rcases hc with rfl|rfl|rfl|rfl|rfl<;>first|exact j7 _|exact Nat.le_add_right _ _
 exact I1.fpOk le (I1.hok.fresh le)
end
theorem qe6{xs:List PyData}(h:PyData.canLayAll0 xs=true)(d:PyData.depthAll xs<=60):SeqAt.shaped (.list xs)=true:=by
 unfold SeqAt.shaped;rw[Bool.and_eq_true];refine⟨?_,decide_eq_true ?_⟩
 ·simpa only[PyData.canLay0]using h
 ·simp only[PyData.depth];omega
theorem EM:∀xs:List Int,PyData.canLayAll0 (xs.map PyData.int)=true
 |[]=>by simp[PyData.canLayAll0]
 |x::xs=>by simp[PyData.canLayAll0,PyData.canLay0,EM xs]
theorem Fp:∀xs:List Int,PyData.depthAll (xs.map PyData.int)<=60
 |[]=>by simp[PyData.depthAll]
 | x::xs=>by have:=Fp xs;simp[PyData.depthAll,PyData.depth];omega
theorem Gn(xs:List Int):SeqAt.shaped (.list (xs.map PyData.int))=true:=qe6 (EM xs) (Fp xs)
section
variable{X:Cx}
theorem Gm:∀(ns:List Int) (k:Nat),k<=ns.length->preSum (λi=>ns.getD i 0) k=(ns.take k).sum
 |ns,0,_=>by simp[preSum]
 | ns,k+1,h=>by
  have hk:k<ns.length:=h;rw[preSum,Gm ns k (Nat.le_of_lt hk),List.take_add_one,j8 hk,List.sum_append];have e:ns.getD k 0=ns[k]:=by rw[jc,j8 hk];rfl
  rw[e];simp
theorem lW:∀{ns:List Int} {us:List Value} {i:Nat} {v:Value},Vals (ns.map V.int) us->us[i]? =some v->∃t,v=.int (ns.getD i 0) t
 |[],us,i,v,r,e=>by cases r;simp at e
 | n::ns,us,0,v,r,e=>by
  cases r with
  | cons h t=>
   obtain⟨tk,q⟩:=h;simp at e;exact⟨tk,by rw[<-e,q];rfl⟩
 | n::ns,us,i+1,v,r,e=>by
  cases r with
  | cons h t=>
   obtain⟨tk,q⟩:=lW (i:=i) t (by simpa using e);exact⟨tk,by rw[q];rfl⟩
theorem mP{K:au}(hK:X.K=K)(hc:X.calm=true):gB X (.builtin "sum") (λxs H Q=>∃(p:Addr) (ns:List Int),xs=[.ref p]/\SqL K H p (ns.map V.int)/\Q (.int ns.sum) H):=by
 subst hK;intro z5 s σ H xs us Q I r h;obtain⟨p,ns,rfl,hq,q⟩:=h;obtain⟨u,rfl,ru⟩:=cQ r;cases ru;obtain⟨its,rv,pl,hz⟩:=I.list hq;have hh:X.A.in1.handled=none:=I.ok.hd hc;have hl:=pl.isList;have hlt:p<s.heap.objs.size:=by obtain⟨_,e,_⟩:=hl;exact j5 e
 refine call_sum_walkG (wpAny_pyIter_list hl ?_);refine⟨_,_,_,_,_,_,λi=>ns.getD i 0,rfl,Walks.list hh s.heap.objs.size p (jh hlt) its.toArray,⟨⟨_,jj _ rfl,rfl,rfl⟩,hl.push _⟩,λb hb=>?_,λi v hP=>lW rv (by simpa using hP),λh' tk t' hk=>?_⟩
 ·show b<(s.heap.push _).objs.size;rw[xg];rcases List.mem_cons.mp hb with rfl|hb
  ·exact Nat.lt_succ_self _
  ·rw[List.mem_singleton.mp hb];exact Nat.lt_succ_of_lt hlt
 ·have len:its.toArray.size=ns.length:=by have:=rv.length;simp at this;simp;omega
  refine⟨.int ns.sum,H,I.kept (t':=tk) λb o e=>hk b o (λz=>?_) (j6 _ e),⟨t',?_⟩,q⟩
  ·have:=j5 e;rw[List.mem_singleton.mp z]at this;exact x9 _ this
  ·rw[len,Gm ns _ (j7 _),List.take_length]
end
def Exc(B:Heap)(e:Addr)(cls fl:Value)(h:Heap):Prop:=
 ∃oe vs T oT ts,h.get? e=some oe/\oe.cls=cls/\oe.dict=none/\oe.data=.fields vs/\vs[1]? =some (.ref T)/\B.get? T=none/\T≠e/\h.get? T=some oT/\oT.data=.fields ts/\ts[3]? =some fl
structure FlyD(B:Heap)(l:List Env)(e:Addr)(cls fl:Value)(h:Heap):Prop where
 st:B.StaysIn h
 new:B.get? e=none
 fr:h.FunFrames B l
 ex:Exc B e cls fl h
section
variable{M:Model}{A:Around}{E:Value->Shared->Prop}{s:Shared}{B:Heap}{env:Env}{outer l:List Env}{L e:Addr}{cls fl:Value}{Q:Unit->Shared->Prop}
theorem qx1{h:Heap}(hl:h.FunFrames B l){b:Addr}{o:Obj}{vs:Array Value}(ho:h.get? b=some o)(hd:o.data=.fields vs):b∉l.filterMap (·.frame):=λhb=>by obtain⟨_,o1,e1,d1⟩:=hl.mem hb;rw[ho]at e1;cases e1;exact d1 vs hd
end
structure Flies(P:Program)(w:World)(l:List Env)(H:Hp)(s:Shared)(cls:Value)(e:Addr)(H':Hp)(s':Shared):Prop where
 os:s'.os=s.os
 bare:AllBare s'.gens
 un:Un (gP l) [] H H' s.heap s'.heap
 hok:HOk P w H' s'.heap
 fly:∃B,FlyD B l e cls .none s'.heap/\∀b o,s'.heap.get? b=some o->b∉gP l->(H' b≠none∨∃o',s.heap.get? b=some o')->B.get? b=some o
theorem ObjOk.there{P:Program}{w:World}{H:Hp}{h:Heap}{a:Addr}{o:HO}(x:ObjOk P w H h a o):∃u,h.get? a=some u:=by
 cases o with
 |lst xs=>obtain⟨_,_,_,_,e⟩:=x;exact⟨_,e⟩
 |tup xs=>obtain⟨_,_,_,ob,e,_⟩:=x;exact⟨_,e⟩
 |dK kvs=>obtain⟨_,_,_,_,o,_,e,_⟩:=x;exact⟨_,e⟩
 |dT kvs=>obtain⟨_,_,_,_,o,_,_,e,_⟩:=x;exact⟨_,e⟩
 |set S n=>obtain⟨o,_,_,_,e,_⟩:=x;exact⟨_,e⟩
 |ins C dx fs=>obtain⟨_,_,_,e,_⟩:=x;exact⟨_,e⟩
 |own y=>exact x
 |xd fs=>obtain⟨_,⟨_,_,_,e,_⟩,_⟩:=x;exact⟨_,e⟩
 |rng lo hi=>obtain⟨_,_,_,e⟩:=x;exact⟨_,e⟩
 |frz ob u=>obtain⟨e,_⟩:=x;exact⟨_,e⟩
 |tbl ps=>exact⟨_,(show h.get? a=some _ from x)⟩
 |lam pos q=>obtain⟨_,e,_⟩:=x;exact⟨_,e⟩
 |met f y=>exact⟨_,(show h.get? a=some _ from x)⟩
 |ext φ=>obtain⟨_,⟨_,e⟩,_⟩:=x;exact⟨_,e⟩
section
variable{X:Cx}{z5:List (Addr×Obj)}{σ:St}{H H':Hp}{s:Shared}
end
section
variable{P:Program}{w:World}{K:au}{mg:Str->Option Value}{base:Heap}{N:List Str}{qual:Str}{scope:Scope}{f:Addr}{cd:Value}{A:Around}{outer:List Env}{s₀:Shared}{H₀:Hp}{E:XK}
end
section
variable{X:Cx}{x:Str}{C:Addr}{bmB:List Value}{B newId initId:String}{np zm pos:Pos}{e:Expr}{es:List Expr}{t:TA}{E:XK}
end
def rd(e:Addr)(cls:Value):HO:=.ext λh=>∃oe vs,h.get? e=some oe/\oe.cls=cls/\oe.dict=none/\oe.data=.fields vs
section
variable{X:Cx}{z5:List (Addr×Obj)}{σ:St}{H H':Hp}{s s1:Shared}{e:Addr}{cls fl:Value}
theorem Flies.fresh{l:List Env}{P:Program}{w:World}(F:Flies P w l H s cls e H' s1):s.heap.get? e=none/\H' e=none:=by
 obtain⟨B,fl,cond⟩:=F.fly;obtain⟨oe,vs,T,oT,ts,he,hc,hdn,hd,_⟩:=fl.ex;have nf:=qx1 fl.fr he hd;have no:¬(H' e≠none∨∃o',s.heap.get? e=some o'):=λz=>by have q:=cond e oe he nf z;rw[fl.new]at q;cases q
 constructor
 ·cases q:s.heap.get? e with
  |none=>rfl
  |some o=>exact absurd (.inr ⟨o,q⟩) no
 ·cases q:H' e with
  |none=>rfl
  |some o=>exact absurd (.inl (by rw[q];exact λz=>nomatch z)) no
end
section
variable{X:Cx}{z5:List (Addr×Obj)}{σ:St}{H H':Hp}{s s1:Shared}{e:Addr}{cls c:Value}{i:Nat}{x n:Str}{np pos hpos:Pos}{b₀:Stmt}{suite:List Stmt}{ts:TS}{D:Ends}
end
section
variable{X:Cx}{z5:List (Addr×Obj)}{σ:St}{CX:il}{k:Nat}{f:Addr}{fd:FuncData}{ps:List Str}{sp:Sp}{dvs:List V}{ds:List Value}{E:XK}{x:Str}{p pos zm:Pos}{e c:Expr}{es:List Expr}{t:TA}{te:TE}{tc:TT}{st:Stmt}{a b:List Stmt}{ta tb u:TS}
end
section
variable{X:Cx}{c:Value}{i:Nat}{x n:Str}{np pos hpos:Pos}{body:List Stmt}{b₀:Stmt}{suite:List Stmt}{ts:TS}{tb:XK->TS}
end
section
variable{P:Program}{w:World}{K:au}{mg:Str->Option Value}{base:Heap}
end
section
variable{prog:Program}{w:World}{A:Around}{E:Value->Shared->Prop}{s:Shared}{K:au}{e C:Addr}{oe:Obj}
end
structure ExcK(K:au)(C:Addr):Prop where
 cls:PySem.W.isClsIn K C=true
 ty:PySem.W.typeIn K (.ref C)=some (.type "type")
 sf:PySem.W.subIn K (.ref C) (.ref C)=some true
 ga:PySem.W.findIn K (.ref C) "__getattribute__"=some (some (.builtin "BaseException.__getattribute__"))
 gt:PySem.W.findIn K (.ref C) "__getattr__"=some none
 bs:PySem.W.subIn K (.ref C) (.type "BaseException")=some true
 ha:PySem.W.findIn K (.ref C) "__class__"=some (some (.builtin "object.__class__"))
 hn:PySem.W.specialIn K (.builtin "object.__class__") "__get__"=some (some (.builtin "getset_descriptor.__get__"))
 tk:PySem.W.takesIn K (.builtin "object.__class__")=some true
 hm:PySem.W.mroIn K C (.type "object")=some true
section
variable{X:Cx}{z5:List (Addr×Obj)}{σ:St}{H:Hp}{s:Shared}{A:Around}{E:Value->Shared->Prop}{Q:Value->Shared->Prop}{c:Value}{b:Bool}{a C:Addr}
end
inductive D where
 |non
 |bl (b:Bool)
 |int (i:Int)
 |str (x:Str)
 |lst (xs:List D)
 |tup (xs:List D)
 |obj (x:Str) (fs:List (Str×D))
 |dct (kvs:List (br×D))
 |dit (kvs:List (List br×D))
 |exc (x:Str)
 |fn (x:Str)
 |tab (P:Addr) (pos:Pos) (q:Str)
mutual
inductive Rp(K:au)(R:Hp):V->D->Prop
 |non:Rp K R .non .non
 |bl (b:Bool):Rp K R (.bl b) (.bl b)
 |int (i:Int):Rp K R (.int i) (.int i)
 |str (x:Str):Rp K R (.str x) (.str x)
 |lst {a:Addr} {xs:List V} {ds:List D}:SqL K R a xs->Rps K R xs ds->Rp K R (.ref a) (.lst ds)
 |tup {a:Addr} {xs:List V} {ds:List D}:R a=some (.tup xs)->Rps K R xs ds->Rp K R (.ref a) (.tup ds)
 |obj {a C dx:Addr} {x:Str} {fs:List (Str×V)} {gs:List (Str×D)}:PySem.W.nsIn K mainGlobals x=some (some (.ref C))->R a=some (.ins C dx fs)->Rfs K R fs gs->Rp K R (.ref a) (.obj x gs)
 |dct {a:Addr} {kvs:List (br×V)} {gs:List (br×D)}:R a=some (.dK kvs)->Rkk K R kvs gs->Rp K R (.ref a) (.dct gs)
 |dit {a:Addr} {kvs:List (List br×V)} {gs:List (List br×D)}:R a=some (.dT kvs)->Rkt K R kvs gs->Rp K R (.ref a) (.dit gs)
 |exc {a C:Addr} {x:Str}:PySem.W.nsIn K mainGlobals x=some (some (.ref C))->ExcK K C->R a=some (rd a (.ref C))->Rp K R (.ref a) (.exc x)
 |fn {l:Addr} {x:Str}:PySem.W.nsIn K mainGlobals x=some (some (.ref l))->Rp K R (.ref l) (.fn x)
 |tab {P:Addr} {pos:Pos} {q:Str}:R P=some (.lam pos q)->Rp K R (.ref P) (.tab P pos q)
inductive Rps(K:au)(R:Hp):List V->List D->Prop
 |nil:Rps K R [] []
 |cons {x:V} {xs:List V} {d:D} {ds:List D}:Rp K R x d->Rps K R xs ds->Rps K R (x::xs) (d::ds)
inductive Rfs(K:au)(R:Hp):List (Str×V)->List (Str×D)->Prop
 |nil:Rfs K R [] []
 |cons {f:Str} {x:V} {xs:List (Str×V)} {d:D} {ds:List (Str×D)}:Rp K R x d->Rfs K R xs ds->Rfs K R ((f,x)::xs) ((f,d)::ds)
inductive Rkk(K:au)(R:Hp):List (br×V)->List (br×D)->Prop
 |nil:Rkk K R [] []
 |cons {f:br} {x:V} {xs:List (br×V)} {d:D} {ds:List (br×D)}:Rp K R x d->Rkk K R xs ds->Rkk K R ((f,x)::xs) ((f,d)::ds)
inductive Rkt(K:au)(R:Hp):List (List br×V)->List (List br×D)->Prop
 |nil:Rkt K R [] []
 |cons {f:List br} {x:V} {xs:List (List br×V)} {d:D} {ds:List (List br×D)}:Rp K R x d->Rkt K R xs ds->Rkt K R ((f,x)::xs) ((f,d)::ds)
end
section
variable{K:au}{R:Hp}
theorem Rp.isI{x:V}{i:Int}(h:Rp K R x (.int i)):x=.int i:=by cases h;rfl
theorem Rp.isS{x:V}{i:Str}(h:Rp K R x (.str i)):x=.str i:=by cases h;rfl
theorem Rp.isB{x:V}{i:Bool}(h:Rp K R x (.bl i)):x=.bl i:=by cases h;rfl
theorem Rp.isN{x:V}(h:Rp K R x .non):x=.non:=by cases h;rfl
def qx7:D->Option V
 |.int i=>some (.int i)
 |.str i=>some (.str i)
 |.bl i=>some (.bl i)
 |.non=>some .non
 |_=>none
theorem Rp.isA{x v:V}:{d:D}->Rp K R x d->qx7 d=some v->x=v
 |.int _,h,e=>h.isI.trans (jb e)
 |.str _,h,e=>h.isS.trans (jb e)
 |.bl _,h,e=>h.isB.trans (jb e)
 |.non,h,e=>h.isN.trans (jb e)
theorem Rp.isL{x:V}{ds:List D}(h:Rp K R x (.lst ds)):∃a xs,x=.ref a/\SqL K R a xs/\Rps K R xs ds:=by
 cases h with
 |@lst a xs ds h r=>exact⟨a,xs,rfl,h,r⟩
theorem Rp.isT{x:V}{ds:List D}(h:Rp K R x (.tup ds)):∃a xs,x=.ref a/\R a=some (.tup xs)/\Rps K R xs ds:=by
 cases h with
 |@tup a xs ds h r=>exact⟨a,xs,rfl,h,r⟩
theorem Rps.isC{xs:List V}{d:D}{ds:List D}(h:Rps K R xs (d::ds)):∃x ys,xs=x::ys/\Rp K R x d/\Rps K R ys ds:=by
 cases h with
 |@cons x ys d ds h r=>exact⟨x,ys,rfl,h,r⟩
end
abbrev aB:=List (Option D)
abbrev aT:=aB->Option (List D×aB)
abbrev aJ:=aB->Option (D×aB)
abbrev dP:=aB->Option (Bool×aB)
abbrev eH:=D->aB->Option aB
theorem Same.sqL{K:au}{H H':Hp}{a:Addr}{xs:List V}(e:Same H H')(h:SqL K H a xs):SqL K H' a xs:=by
 rcases h with(h|⟨o,h⟩)|h
 ·exact .inl (.inl (e _ _ h))
 ·exact .inl (.inr ⟨o,e _ _ h⟩)
 ·exact .inr h
section
variable{K:au}{R R':Hp}
theorem Rp.mono(s:Same R R'){v:V}{d:D}(h:Rp K R v d):Rp K R' v d:=
 Rp.rec (motive_1:=λv d _=>Rp K R' v d) (motive_2:=λxs ds _=>Rps K R' xs ds) (motive_3:=λxs ds _=>Rfs K R' xs ds) (motive_4:=λxs ds _=>Rkk K R' xs ds) (motive_5:=λxs ds _=>Rkt K R' xs ds)
  .non .bl .int .str (λh _ r=>.lst (s.sqL h) r) (λh _ r=>.tup (s _ _ h) r) (λn h _ r=>.obj n (s _ _ h) r) (λh _ r=>.dct (s _ _ h) r) (λh _ r=>.dit (s _ _ h) r) (λn k h=>.exc n k (s _ _ h)) (λn=>.fn n) (λh=>.tab (s _ _ h))
  .nil (λ_ _ h r=>.cons h r) .nil (λ_ _ h r=>.cons h r) .nil (λ_ _ h r=>.cons h r) .nil (λ_ _ h r=>.cons h r) h
theorem Rps.mono(s:Same R R'){xs:List V}{ds:List D}(h:Rps K R xs ds):Rps K R' xs ds:=
 Rps.rec (motive_1:=λv d _=>Rp K R' v d) (motive_2:=λxs ds _=>Rps K R' xs ds) (motive_3:=λxs ds _=>Rfs K R' xs ds) (motive_4:=λxs ds _=>Rkk K R' xs ds) (motive_5:=λxs ds _=>Rkt K R' xs ds)
  .non .bl .int .str (λh _ r=>.lst (s.sqL h) r) (λh _ r=>.tup (s _ _ h) r) (λn h _ r=>.obj n (s _ _ h) r) (λh _ r=>.dct (s _ _ h) r) (λh _ r=>.dit (s _ _ h) r) (λn k h=>.exc n k (s _ _ h)) (λn=>.fn n) (λh=>.tab (s _ _ h))
  .nil (λ_ _ h r=>.cons h r) .nil (λ_ _ h r=>.cons h r) .nil (λ_ _ h r=>.cons h r) .nil (λ_ _ h r=>.cons h r) h
theorem Rfs.mono(s:Same R R'){xs:List (Str×V)}{ds:List (Str×D)}(h:Rfs K R xs ds):Rfs K R' xs ds:=
 Rfs.rec (motive_1:=λv d _=>Rp K R' v d) (motive_2:=λxs ds _=>Rps K R' xs ds) (motive_3:=λxs ds _=>Rfs K R' xs ds) (motive_4:=λxs ds _=>Rkk K R' xs ds) (motive_5:=λxs ds _=>Rkt K R' xs ds)
  .non .bl .int .str (λh _ r=>.lst (s.sqL h) r) (λh _ r=>.tup (s _ _ h) r) (λn h _ r=>.obj n (s _ _ h) r) (λh _ r=>.dct (s _ _ h) r) (λh _ r=>.dit (s _ _ h) r) (λn k h=>.exc n k (s _ _ h)) (λn=>.fn n) (λh=>.tab (s _ _ h))
  .nil (λ_ _ h r=>.cons h r) .nil (λ_ _ h r=>.cons h r) .nil (λ_ _ h r=>.cons h r) .nil (λ_ _ h r=>.cons h r) h
theorem Rkk.mono(s:Same R R'){xs:List (br×V)}{ds:List (br×D)}(h:Rkk K R xs ds):Rkk K R' xs ds:=
 Rkk.rec (motive_1:=λv d _=>Rp K R' v d) (motive_2:=λxs ds _=>Rps K R' xs ds) (motive_3:=λxs ds _=>Rfs K R' xs ds) (motive_4:=λxs ds _=>Rkk K R' xs ds) (motive_5:=λxs ds _=>Rkt K R' xs ds)
  .non .bl .int .str (λh _ r=>.lst (s.sqL h) r) (λh _ r=>.tup (s _ _ h) r) (λn h _ r=>.obj n (s _ _ h) r) (λh _ r=>.dct (s _ _ h) r) (λh _ r=>.dit (s _ _ h) r) (λn k h=>.exc n k (s _ _ h)) (λn=>.fn n) (λh=>.tab (s _ _ h))
  .nil (λ_ _ h r=>.cons h r) .nil (λ_ _ h r=>.cons h r) .nil (λ_ _ h r=>.cons h r) .nil (λ_ _ h r=>.cons h r) h
theorem Rkt.mono(s:Same R R'){xs:List (List br×V)}{ds:List (List br×D)}(h:Rkt K R xs ds):Rkt K R' xs ds:=
 Rkt.rec (motive_1:=λv d _=>Rp K R' v d) (motive_2:=λxs ds _=>Rps K R' xs ds) (motive_3:=λxs ds _=>Rfs K R' xs ds) (motive_4:=λxs ds _=>Rkk K R' xs ds) (motive_5:=λxs ds _=>Rkt K R' xs ds)
  .non .bl .int .str (λh _ r=>.lst (s.sqL h) r) (λh _ r=>.tup (s _ _ h) r) (λn h _ r=>.obj n (s _ _ h) r) (λh _ r=>.dct (s _ _ h) r) (λh _ r=>.dit (s _ _ h) r) (λn k h=>.exc n k (s _ _ h)) (λn=>.fn n) (λh=>.tab (s _ _ h))
  .nil (λ_ _ h r=>.cons h r) .nil (λ_ _ h r=>.cons h r) .nil (λ_ _ h r=>.cons h r) .nil (λ_ _ h r=>.cons h r) h
theorem Rps.length:∀{xs:List V} {ds:List D},Rps K R xs ds->xs.length=ds.length
 |_,_,.nil=>rfl
 |_,_,.cons _ r=>by rw[jl,jl,Rps.length r]
theorem Rps.get:∀{xs:List V} {ds:List D} {i:Nat} {d:D},Rps K R xs ds->ds[i]? =some d->∃v,xs[i]? =some v/\Rp K R v d
 |_,_,_,_,.nil,e=>by simp at e
 |_,_,0,_,.cons h _,e=>by simp at e;subst e;exact⟨_,rfl,h⟩
 | _,_,i+1,d,.cons _ r,e=>by obtain⟨v,h1,h2⟩:=Rps.get (i:=i) (d:=d) r (by simpa using e);exact⟨v,by simpa using h1,h2⟩
theorem Rps.get':∀{xs:List V} {ds:List D} {i:Nat} {v:V},Rps K R xs ds->xs[i]? =some v->∃d,ds[i]? =some d/\Rp K R v d
 |_,_,_,_,.nil,e=>by simp at e
 |_,_,0,_,.cons h _,e=>by simp at e;subst e;exact⟨_,rfl,h⟩
 | _,_,i+1,v,.cons _ r,e=>by obtain⟨d,h1,h2⟩:=Rps.get' (i:=i) (v:=v) r (by simpa using e);exact⟨d,by simpa using h1,h2⟩
theorem Rps.append:∀{xs ys:List V} {ds es:List D},Rps K R xs ds->Rps K R ys es->Rps K R (xs++ys) (ds++es)
 |_,_,_,_,.nil,s=>s
 |_,_,_,_,.cons r t,s=>.cons r (Rps.append t s)
theorem Rps.take:∀{xs:List V} {ds:List D} (n:Nat),Rps K R xs ds->Rps K R (xs.take n) (ds.take n)
 |_,_,0,_=>.nil
 |_,_,_+1,.nil=>.nil
 |_,_,n+1,.cons r t=>.cons r (Rps.take n t)
theorem Rps.drop:∀{xs:List V} {ds:List D} (n:Nat),Rps K R xs ds->Rps K R (xs.drop n) (ds.drop n)
 |_,_,0,r=>r
 |_,_,_+1,.nil=>.nil
 |_,_,n+1,.cons _ t=>Rps.drop n t
theorem Rps.set{x:V}{d:D}(r:Rp K R x d):∀{xs:List V} {ds:List D} (i:Nat),Rps K R xs ds->Rps K R (xs.set i x) (ds.set i d)
 |_,_,_,.nil=>.nil
 |_,_,0,.cons _ t=>.cons r t
 |_,_,i+1,.cons q t=>.cons q (Rps.set r i t)
theorem Rps.one{x:V}{d:D}(r:Rp K R x d):Rps K R [x] [d]:=.cons r .nil
theorem Rps.ints:∀ns:List Int,Rps K R (ns.map V.int) (ns.map D.int)
 |[]=>.nil
 |n::ns=>.cons (.int n) (Rps.ints ns)
theorem Rps.snoc{xs:List V}{ds:List D}{x:V}{d:D}(h:Rps K R xs ds)(r:Rp K R x d):Rps K R (xs++[x]) (ds++[d]):=h.append (.one r)
end
inductive Sc:V->D->Prop
 |non:Sc .non .non
 |bl (b:Bool):Sc (.bl b) (.bl b)
 |int (i:Int):Sc (.int i) (.int i)
 |str (x:Str):Sc (.str x) (.str x)
theorem Sc.rp{K:au}{R:Hp}{v:V}{d:D}(h:Sc v d):Rp K R v d:=by
 cases h with
 |non=>exact .non
 |bl b=>exact .bl b
 |int i=>exact .int i
 |str x=>exact .str x
def Frh(H:Hp)(a:Addr):Prop:=H a=none∨∃xs,H a=some (.tup xs)
def Liv(H H':Hp)(a:Addr):Prop:=H' a≠none/\∀xs,H' a=some (.tup xs)->H a=some (.tup xs)
theorem Liv.refl{H:Hp}{a:Addr}(h:H a≠none):Liv H H a:=⟨h,λ_ e=>e⟩
theorem Liv.trans{H H1 H2:Hp}{a:Addr}(x:Liv H H1 a)(y:Liv H1 H2 a):Liv H H2 a:=⟨y.1,λxs e=>x.2 xs (y.2 xs e)⟩
theorem Frh.back{H H1:Hp}{a:Addr}(h:H a≠none->Liv H H1 a)(z:Frh H1 a):Frh H a:=by
 cases q:H a with
 |none=>exact .inl q
 | some o=>
  have v:=h (by rw[q];exact λz=>nomatch z);rcases z with z|⟨xs,z⟩
  ·exact absurd z v.1
  ·exact .inr ⟨xs,v.2 xs z⟩
structure Ext(H R H' R':Hp):Prop where
 h:Same H H'
 r:Same R R'
 s:∀a o,R' a=some o->H' a=some o
 n:∀a,R' a≠none->R a≠none∨Frh H a
theorem Ext.refl{H R:Hp}(s:∀a o,R a=some o->H a=some o):Ext H R H R:=⟨Same.refl _,Same.refl _,s,λ_ h=>.inl h⟩
theorem Same.some{H H':Hp}(s:Same H H'){a:Addr}(h:H a≠none):H' a≠none:=by
 cases q:H a with
 |none=>exact absurd q h
 |some o=>rw[s a o q];exact λz=>nomatch z
theorem Same.liv{H H':Hp}(s:Same H H'){a:Addr}(h:H a≠none):Liv H H' a:=⟨s.some h,λxs e=>by
 cases q:H a with
 |none=>exact absurd q h
 |some o=>rw[s a o q]at e;exact e⟩
theorem Ext.trans{H R H1 R1 H2 R2:Hp}(x:Ext H R H1 R1)(y:Ext H1 R1 H2 R2):Ext H R H2 R2:=by
 refine⟨x.h.trans y.h,x.r.trans y.r,y.s,λa h=>?_⟩;rcases y.n a h with z|z
 ·exact x.n a z
 ·exact .inr (z.back x.h.liv)
theorem Ext.new{H R:Hp}{a:Addr}{o:HO}(s:∀a o,R a=some o->H a=some o)(h:H a=none):Ext H R (aP H a o) (aP R a o):=by
 have hr:R a=none:=by
  cases q:R a with
  |none=>rfl
  |some u=>rw[s a u q]at h;cases h
 refine⟨Same.new h,Same.new hr,λb u e=>?_,λb e=>?_⟩
 ·by_cases hb:b=a
  ·subst hb;rw[cM]at e ⊢;exact e
  ·rw[aU hb]at e ⊢;exact s b u e
 ·by_cases hb:b=a
  ·subst hb;exact .inr (.inl h)
  ·rw[aU hb]at e;exact .inl e
theorem Ext.hid{H R:Hp}{a:Addr}{o:HO}(s:∀a o,R a=some o->H a=some o)(h:H a=none):Ext H R (aP H a o) R:=
 ⟨Same.new h,Same.refl _,λb u e=>Same.new h _ _ (s b u e),λ_ e=>.inl e⟩
structure Anc where
 H0:Hp
 R0:Hp
 L:Addr->Prop
 P:List Nat
inductive Ob(K:au)(R:Hp):HO->D->Prop
 |lst {vs:List V} {ds:List D}:Rps K R vs ds->Ob K R (.lst vs) (.lst ds)
 |dct {kvs:List (br×V)} {gs:List (br×D)}:Rkk K R kvs gs->Ob K R (.dK kvs) (.dct gs)
 |dit {kvs:List (List br×V)} {gs:List (List br×D)}:Rkt K R kvs gs->Ob K R (.dT kvs) (.dit gs)
theorem Ob.isL{K:au}{R:Hp}{o:HO}{ds:List D}(h:Ob K R o (.lst ds)):∃vs,o=.lst vs/\Rps K R vs ds:=by
 cases h with
 |lst r=>exact⟨_,rfl,r⟩
theorem Ob.mono{K:au}{R R':Hp}{o:HO}{d:D}(s:Same R R')(h:Ob K R o d):Ob K R' o d:=by
 cases h with
 |lst r=>exact .lst (r.mono s)
 |dct r=>exact .dct (r.mono s)
 |dit r=>exact .dit (r.mono s)
theorem Ob.noF{K:au}{H R:Hp}{o:HO}{d:D}{l:Addr}(h:Ob K R o d)(e:H l=some o)(z:Frh H l):False:=by
 rcases z with z|⟨xs,z⟩
 ·rw[e]at z;cases z
 ·rw[e]at z;cases z;cases h
theorem Ob.rp{K:au}{R:Hp}{o:HO}{d:D}{l:Addr}(h:Ob K R o d)(e:R l=some o):Rp K R (.ref l) d:=by
 cases h with
 |lst r=>exact .lst (SqL.of e) r
 |dct r=>exact .dct e r
 |dit r=>exact .dit e r
structure StR(K:au)(Z:Anc)(O:List Nat)(σ:St)(H R:Hp)(ρ:aB):Prop where
 sub:∀a o,R a=some o->H a=some o
 len:σ.length=ρ.length
 env:∀i d,i∉O->ρ[i]? =some (some d)->∃v,σ[i]? =some (some v)/\Rp K R v d
 own:∀i,i∈O->∃l vs ds,ρ[i]? =some (some ds)/\σ[i]? =some (some (.ref l))/\H l=some vs/\R l=none/\Ob K R vs ds
 dis:∀i j,i∈O->j∈O->i≠j->∀l,σ[i]? =some (some (.ref l))->σ[j]? ≠some (some (.ref l))
 ah:∀a o,Z.H0 a=some o->¬Z.L a->H a=some o
 ar:Same Z.R0 R
 an:∀a,R a≠none->Z.R0 a≠none∨Frh Z.H0 a
 ad:∀a,Z.H0 a≠none->Liv Z.H0 H a
 ao:∀i,i∈O->i∉Z.P->∀l,σ[i]? =some (some (.ref l))->Z.H0 l=none
 ap:∀i,i∈O->i∈Z.P->∀l,σ[i]? =some (some (.ref l))->Z.L l
structure Stp(O:List Nat)(σ:St)(H R H' R':Hp):Prop where
 r:Same R R'
 h:∀a o,H a=some o->(∀i,i∈O->σ[i]? ≠some (some (.ref a)))->H' a=some o
 n:∀a,R' a≠none->R a≠none∨Frh H a
 d:∀a,H a≠none->Liv H H' a
theorem Stp.refl(O:List Nat)(σ:St)(H R:Hp):Stp O σ H R H R:=⟨Same.refl _,λ_ _ e _=>e,λ_ h=>.inl h,λ_ h=>.refl h⟩
theorem Stp.trans{O:List Nat}{σ:St}{H R H1 R1 H2 R2:Hp}(x:Stp O σ H R H1 R1)(y:Stp O σ H1 R1 H2 R2):Stp O σ H R H2 R2:=by
 refine⟨x.r.trans y.r,λa o e n=>y.h a o (x.h a o e n) n,λa h=>?_,λa h=>(x.d a h).trans (y.d a (x.d a h).1)⟩;rcases y.n a h with z|z
 ·exact x.n a z
 ·exact .inr (z.back (x.d a))
theorem Ext.stp{O:List Nat}{σ:St}{H R H' R':Hp}(x:Ext H R H' R'):Stp O σ H R H' R':=⟨x.r,λa o e _=>x.h a o e,x.n,λ_ h=>x.h.liv h⟩
section
variable{K:au}{Z:Anc}{O O':List Nat}{σ σ':St}{H R H' R':Hp}{ρ ρ':aB}
theorem StR.ext(S:StR K Z O σ H R ρ)(x:Ext H R H' R'):StR K Z O σ H' R' ρ:=by
 refine⟨x.s,S.len,λi d hi e=>?_,λi hi=>?_,S.dis,λa o e n=>x.h a o (S.ah a o e n),S.ar.trans x.r,λa h=>?_,λa h=>(S.ad a h).trans (x.h.liv (S.ad a h).1),S.ao,S.ap⟩
 ·obtain⟨v,h1,h2⟩:=S.env i d hi e;exact⟨v,h1,h2.mono x.r⟩
 ·obtain⟨l,vs,ds,h1,h2,h3,h4,h5⟩:=S.own i hi;refine⟨l,vs,ds,h1,h2,x.h _ _ h3,?_,h5.mono x.r⟩;cases q:R' l with
  |none=>rfl
  | some o=>
   rcases x.n l (by rw[q];exact λz=>nomatch z)with z|z
   ·exact absurd h4 z
   ·exact(h5.noF h3 z).elim
 ·rcases x.n a h with z|z
  ·exact S.an a z
  ·exact .inr (z.back (S.ad a))
noncomputable def du(O O':List Nat)(σ:St)(H R:Hp):Hp:=λa=>open Classical in if∃i,i∈O/\i∉O'/\σ[i]? =some (some (.ref a))then H a else R a
theorem StR.freeze(S:StR K Z O σ H R ρ)(hs:∀i,i∈O'->i∈O)(hp:∀i,i∈Z.P->i∈O->i∈O'):StR K Z O' σ H (du O O' σ H R) ρ/\Same R (du O O' σ H R):=by
 have same:Same R (du O O' σ H R):=λa o e=>by
  unfold du;split
  ·exact S.sub a o e
  ·exact e
 refine⟨⟨λa o e=>?_,S.len,λi d hi e=>?_,λi hi=>?_,λi j hi hj=>S.dis i j (hs i hi) (hs j hj),S.ah,S.ar.trans same,λa h=>?_,S.ad,λi hi=>S.ao i (hs i hi),λi hi=>S.ap i (hs i hi)⟩,same⟩
 ·unfold du at e;split at e
  ·exact e
  ·exact S.sub a o e
 ·by_cases hO:i∈O
  ·obtain⟨l,vs,ds,h1,h2,h3,h4,h5⟩:=S.own i hO;rw[e]at h1;have ed:d=ds:=jb (jb h1);subst ed;refine⟨.ref l,h2,(h5.mono same).rp ?_⟩;unfold du;rw[if_pos ⟨i,hO,hi,h2⟩];exact h3
  ·obtain⟨v,h1,h2⟩:=S.env i d hO e;exact⟨v,h1,h2.mono same⟩
 ·obtain⟨l,vs,ds,h1,h2,h3,h4,h5⟩:=S.own i (hs i hi);refine⟨l,vs,ds,h1,h2,h3,?_,h5.mono same⟩;unfold du;rw[if_neg ?_]
  ·exact h4
  ·rintro⟨j,hj,hj',e⟩;exact S.dis j i hj (hs i hi) (λz=>hj' (z▸hi)) l e h2
 ·unfold du at h;split at h
  ·rename_i z;obtain⟨j,hj,hj',e⟩:=z;exact .inr (.inl (S.ao j hj (λz=>hj' (hp j z hj)) a e))
  ·exact S.an a h
theorem StR.set(S:StR K Z O σ H R ρ){i:Nat}{v:V}{d:D}(hi:i∉O)(r:Rp K R v d):StR K Z O (σ.set i (some v)) H R (ρ.set i (some d)):=by
 have ne:∀j,j∈O->i≠j:=λj hj z=>hi (z▸hj);refine⟨S.sub,by rw[x6,x6];exact S.len,λj e hj q=>?_,λj hj=>?_,λj k hj hk n l e=>?_,S.ah,S.ar,S.an,S.ad,λj hj hp l e=>?_,λj hj hp l e=>?_⟩
 ·by_cases hij:i=j
  ·subst hij;have hl:i<ρ.length:=by
    have:=(List.getElem?_eq_some_iff.mp q).1
    rwa [x6]at this
   rw[jy hl]at q;have e':d=e:=jb (jb q);subst e';exact⟨v,by rw[jy (by rw[S.len];exact hl)],r⟩
  ·rw[jf hij]at q;obtain⟨w,h1,h2⟩:=S.env j e hj q;exact⟨w,by rw[jf hij];exact h1,h2⟩
 ·obtain⟨l,vs,ds,h1,h2,h3,h4,h5⟩:=S.own j hj;exact⟨l,vs,ds,by rw[jf (ne j hj)];exact h1,by rw[jf (ne j hj)];exact h2,h3,h4,h5⟩
 ·rw[jf (ne j hj)]at e;rw[jf (ne k hk)];exact S.dis j k hj hk n l e
 ·rw[jf (ne j hj)]at e;exact S.ao j hj hp l e
 ·rw[jf (ne j hj)]at e;exact S.ap j hj hp l e
theorem StR.write(S:StR K Z O σ H R ρ){i:Nat}{l:Addr}{vs:HO}{ds:D}(hi:i∈O)(hl:σ[i]? =some (some (.ref l)))(r:Ob K R vs ds):StR K Z O σ (aP H l vs) R (ρ.set i (some ds)):=by
 obtain⟨l0,vs0,ds0,h1,h2,h3,h4,h5⟩:=S.own i hi;rw[hl]at h2;cases h2;have other:∀j,j∈O->i≠j->∀k,σ[j]? =some (some (.ref k))->k≠l:=λj hj n k e z=>by subst z;exact S.dis i j hi hj n k hl e
 refine⟨λa o e=>?_,by rw[x6];exact S.len,λj d hj q=>?_,λj hj=>?_,S.dis,λa o e n=>?_,S.ar,S.an,λa h=>?_,S.ao,S.ap⟩
 ·have ne:a≠l:=λz=>by subst z;rw[h4]at e;cases e
  rw[aU ne];exact S.sub a o e
 ·have n:i≠j:=λz=>hj (z▸hi);rw[jf n]at q;exact S.env j d hj q
 ·by_cases n:i=j
  ·subst n;have za:i<ρ.length:=(List.getElem?_eq_some_iff.mp h1).1;exact⟨l,vs,ds,by rw[jy za],hl,cM,h4,r⟩
  ·obtain⟨k,vs',ds',g1,g2,g3,g4,g5⟩:=S.own j hj;exact⟨k,vs',ds',by rw[jf n];exact g1,g2,by rw[aU (other j hj n k g2)];exact g3,g4,g5⟩
 ·have ne:a≠l:=λz=>by
   subst z;by_cases hp:i∈Z.P
   ·exact n (S.ap i hi hp a hl)
   ·rw[S.ao i hi hp a hl]at e;cases e
  rw[aU ne];exact S.ah a o e n
 ·by_cases ha:a=l
  ·subst ha;exact⟨by rw[cM];exact(λz=>(nomatch z)),λxs e=>by rw[cM]at e;cases e;cases r⟩
  ·exact⟨by rw[aU ha];exact(S.ad a h).1,λxs e=>by rw[aU ha]at e;exact(S.ad a h).2 xs e⟩
theorem StR.take(S:StR K Z O σ H R ρ){i:Nat}{l:Addr}{vs:HO}{ds:D}(hi:i∉O)(hin:i∈O')(hO:∀j,j∈O'->j=i∨j∈O)(hp:i∉Z.P)(za:i<ρ.length)(h0:Z.H0 l=none)(hH:H l=some vs)(hR:R l=none)(hn:∀j,j∈O->σ[j]? ≠some (some (.ref l)))(hs:∀j,j∈O->j∈O')(r:Ob K R vs ds):
 StR K Z O' (σ.set i (some (.ref l))) H R (ρ.set i (some ds)):=by
 have ne:∀j,j∈O->i≠j:=λj hj z=>hi (z▸hj);have hl:i<σ.length:=by rw[S.len];exact za
 refine⟨S.sub,by rw[x6,x6];exact S.len,λj e hj q=>?_,λj hj=>?_,λj k hj hk n m e=>?_,S.ah,S.ar,S.an,S.ad,λj hj hp l e=>?_,λj hj hp' l e=>?_⟩
 ·by_cases hij:i=j
  ·subst hij;rw[jy za]at q;have e':ds=e:=jb (jb q);subst e';exact absurd hin hj
  ·rw[jf hij]at q;obtain⟨w,h1,h2⟩:=S.env j e (λz=>hj (hs j z)) q;exact⟨w,by rw[jf hij];exact h1,h2⟩
 ·rcases hO j hj with rfl|hj'
  ·exact⟨l,vs,ds,by rw[jy za],by rw[jy hl],hH,hR,r⟩
  ·obtain⟨k,vs',ds',g1,g2,g3,g4,g5⟩:=S.own j hj';exact⟨k,vs',ds',by rw[jf (ne j hj')];exact g1,by rw[jf (ne j hj')];exact g2,g3,g4,g5⟩
 ·rcases hO j hj with rfl|hj'
  ·rw[jy hl]at e;cases e;rcases hO k hk with rfl|hk'
   ·exact absurd rfl n
   ·rw[jf (ne k hk')];exact hn k hk'
  ·rw[jf (ne j hj')]at e;rcases hO k hk with rfl|hk'
   ·rw[jy hl];intro z;cases z;exact hn j hj' e
   ·rw[jf (ne k hk')];exact S.dis j k hj' hk' n m e
 ·rcases hO j hj with rfl|hj'
  ·rw[jy hl]at e;cases e;exact h0
  ·rw[jf (ne j hj')]at e;exact S.ao j hj' hp l e
 ·rcases hO j hj with rfl|hj'
  ·exact absurd hp' hp
  ·rw[jf (ne j hj')]at e;exact S.ap j hj' hp' l e
end
def bV{α β:Type}(a:aB->Option (α×aB))(k:α->aB->Option (β×aB)):aB->Option (β×aB):=λρ=>match a ρ with
 |none=>none
 |some (x,ρ1)=>k x ρ1
def ae{α:Type}(x:α):aB->Option (α×aB):=λρ=>some (x,ρ)
def dz{α:Type}(o:Option α):aB->Option (α×aB):=λρ=>match o with
 |none=>none
 |some x=>some (x,ρ)
theorem bS{α β:Type}{a:aB->Option (α×aB)}{k:α->aB->Option (β×aB)}{ρ:aB}{r:β×aB}(h:bV a k ρ=some r):∃x ρ1,a ρ=some (x,ρ1)/\k x ρ1=some r:=by
 unfold bV at h;cases e:a ρ with
 |none=>rw[e]at h;cases h
 |some p=>rw[e]at h;exact⟨p.1,p.2,rfl,h⟩
theorem dk{α:Type}{o:Option α}{ρ:aB}{x:α}{ρ':aB}(h:dz o ρ=some (x,ρ')):o=some x/\ρ'=ρ:=by
 unfold dz at h;cases o with
 |none=>cases h
 |some y=>cases h;exact⟨rfl,rfl⟩
def aa(i:Nat):aJ:=λρ=>match ρ[i]? with
 |some (some d)=>some (d,ρ)
 |_=>none
theorem yf{i:Nat}{ρ ρ':aB}{d:D}(h:aa i ρ=some (d,ρ')):ρ[i]? =some (some d)/\ρ'=ρ:=by
 unfold aa at h;cases e:ρ[i]? with
 |none=>rw[e]at h;cases h
 | some o=>
  rw[e]at h;cases o with
  |none=>cases h
  |some y=>cases h;exact⟨rfl,rfl⟩
section
variable(K:au)(O:List Nat)
def ME(t:TE)(f:aJ):Prop:=∀(Z:Anc) (σ:St) (H R:Hp) (ρ:aB) (d:D) (ρ':aB) (Q:VK),StR K Z O σ H R ρ->f ρ=some (d,ρ')->(∀v H' R',StR K Z O σ H' R' ρ'->Stp O σ H R H' R'->Rp K R' v d->Q v H')->t σ H Q
def MB(t:TE)(f:aJ):Prop:=∀(Z:Anc) (σ:St) (H R:Hp) (ρ:aB) (d:D) (ρ':aB) (Q:VK),StR K Z O σ H R ρ->f ρ=some (d,ρ')->(∀v H' R',StR K Z O σ H' R' ρ'->Stp O σ H R H' R'->Rp K H' v d->Q v H')->t σ H Q
def MT(t:TT)(f:dP):Prop:=∀(Z:Anc) (σ:St) (H R:Hp) (ρ:aB) (b:Bool) (ρ':aB) (Q:Bool->Hp->Prop),StR K Z O σ H R ρ->f ρ=some (b,ρ')->(∀H' R',StR K Z O σ H' R' ρ'->Stp O σ H R H' R'->Q b H')->t σ H Q
def MA(t:TA)(f:aT):Prop:=∀(Z:Anc) (σ:St) (H R:Hp) (ρ:aB) (ds:List D) (ρ':aB) (Q:List V->Hp->Prop),StR K Z O σ H R ρ->f ρ=some (ds,ρ')->(∀vs H' R',StR K Z O σ H' R' ρ'->Stp O σ H R H' R'->Rps K R' vs ds->Q vs H')->t σ H Q
def MN(t:TE)(f:aT):Prop:=∀(Z:Anc) (σ:St) (H R:Hp) (ρ:aB) (ds:List D) (ρ':aB) (Q:VK),StR K Z O σ H R ρ->f ρ=some (ds,ρ')->(∀l vs H' R',StR K Z O σ H' R' ρ'->Stp O σ H R H' R'->H l=none->H' l=some (.lst vs)->R' l=none->Rps K R' vs ds->Q (.ref l) H')->t σ H Q
end
section
variable{K:au}{Z:Anc}{O:List Nat}{t ta tb tc:TE}{tA tB':TT}{tr:TA}
theorem StR.same{σ:St}{H R:Hp}{ρ:aB}(S:StR K Z O σ H R ρ):Same R H:=S.sub
theorem ME.mb{f:aJ}(h:ME K O t f):MB K O t f:=λZ σ H R ρ d ρ' Q S e k=>h Z σ H R ρ d ρ' Q S e λv H' R' S' st r=>k v H' R' S' st (r.mono S'.same)
theorem StR.notnew{σ:St}{H R:Hp}{ρ:aB}(S:StR K Z O σ H R ρ){l:Addr}(h:H l=none):∀j,j∈O->σ[j]? ≠some (some (.ref l)):=λj hj e=>by
 obtain⟨k,vs,ds,_,h2,h3,_⟩:=S.own j hj;rw[e]at h2
 (first|obtain rfl:=h2.isA rfl|cases h2)
 rw[h]at h3
 (first|obtain rfl:=h3.isA rfl|cases h3)
theorem StR.know{σ:St}{H R:Hp}{ρ:aB}{l:Addr}{vs:HO}(S:StR K Z O σ H R ρ)(h0:Z.H0 l=none)(hH:H l=some vs)(hR:R l=none)(hn:∀j,j∈O->σ[j]? ≠some (some (.ref l))):StR K Z O σ H (aP R l vs) ρ:=by
 have same:Same R (aP R l vs):=Same.new hR;refine⟨λa o e=>?_,S.len,λi d hi e=>?_,λi hi=>?_,S.dis,S.ah,S.ar.trans same,λa h=>?_,S.ad,S.ao,S.ap⟩
 ·by_cases ha:a=l
  ·subst ha;rw[cM]at e;rw[hH,e]
  ·rw[aU ha]at e;exact S.sub a o e
 ·obtain⟨v,h1,h2⟩:=S.env i d hi e;exact⟨v,h1,h2.mono same⟩
 ·obtain⟨k,ws,ds,h1,h2,h3,h4,h5⟩:=S.own i hi;refine⟨k,ws,ds,h1,h2,h3,?_,h5.mono same⟩;rw[aU (λz=>hn i hi (by rw[<-z];exact h2))];exact h4
 ·by_cases ha:a=l
  ·subst ha;exact .inr (.inl h0)
  ·rw[aU ha]at h;exact S.an a h
theorem StR.new0{σ:St}{H R:Hp}{ρ:aB}{l:Addr}(S:StR K Z O σ H R ρ)(h:H l=none):Z.H0 l=none:=by
 cases q:Z.H0 l with
 |none=>rfl
 |some o=>exact absurd h (S.ad l (by rw[q];exact λz=>nomatch z)).1
theorem Stp.know{σ:St}{H R H' R':Hp}{l:Addr}{o:HO}(x:Stp O σ H R H' R')(h:H l=none)(hr:R' l=none):Stp O σ H R H' (aP R' l o):=by
 refine⟨x.r.trans (Same.new hr),x.h,λb e=>?_,x.d⟩;by_cases hb:b=l
 ·subst hb;exact .inr (.inl h)
 ·rw[aU hb]at e;exact x.n b e
theorem MN.me{f:aT}(h:MN K O t f):ME K O t (bV f λds=>ae (.lst ds)):=λZ σ H R ρ d ρ' Q S e k=>by obtain⟨ds,ρ1,e1,e2⟩:=bS e;cases e2;refine h Z σ H R ρ ds _ Q S e1 λl vs H' R' S' st h0 hH hR r=>?_;refine k _ H' (aP R' l (.lst vs)) (S'.know (S.new0 h0) hH hR ?_) (st.know h0 hR) (.lst (SqL.of cM) (r.mono (Same.new hR)));exact S.notnew h0
theorem ak{i:Nat}(hi:i∉O:=by decide):ME K O (dJ i) (aa i):=λZ σ H R ρ d ρ' Q S e k=>by obtain⟨e1,rfl⟩:=yf e;obtain⟨v,h1,h2⟩:=S.env i d hi e1;exact⟨v,h1,k v H R S (Stp.refl _ _ _ _) h2⟩
theorem eB{i:Nat}:MB K O (dJ i) (aa i):=λZ σ H R ρ d ρ' Q S e k=>by
 obtain⟨e1,rfl⟩:=yf e;by_cases hi:i∈O
 ·obtain⟨l,vs,ds,h1,h2,h3,h4,h5⟩:=S.own i hi;rw[e1]at h1
  (first|obtain rfl:=h1.isA rfl|cases h1)
  exact⟨.ref l,h2,k _ H R S (Stp.refl _ _ _ _) ((h5.mono S.same).rp h3)⟩
 ·obtain⟨v,h1,h2⟩:=S.env i d hi e1;exact⟨v,h1,k v H R S (Stp.refl _ _ _ _) (h2.mono S.same)⟩
theorem kZ{v:V}{d:D}(h:Sc v d):ME K O (tC v) (ae d):=λZ σ H R ρ e ρ' Q S q k=>by
 (first|obtain rfl:=q.isA rfl|cases q)
 exact k v H R S (Stp.refl _ _ _ _) h.rp
theorem me_int{i:Int}:ME K O (tC (.int i)) (ae (.int i)):=kZ (.int i)
theorem me_str{x:Str}:ME K O (tC (.str x)) (ae (.str x)):=kZ (.str x)
theorem mm{b:Bool}:ME K O (tC (.bl b)) (ae (.bl b)):=kZ (.bl b)
theorem me_non:ME K O (tC .non) (ae .non):=kZ .non
def af(g:D->D->Option D)(fa fb:aJ):aJ:=bV fa λx=>bV fb λy=>dz (g x y)
def OpS(K:au)(r:R2)(g:D->D->Option D):Prop:=∀(H:Hp) (x y:V) (d e u:D) (Q:VK),Rp K H x d->Rp K H y e->g d e=some u->(∀v,Sc v u->Q v H)->r x y H Q
def ii(K:au)(r:R2)(g:D->D->Option D):Prop:=∀(H R:Hp) (x y:V) (d e u:D) (Q:VK),(∀a o,R a=some o->H a=some o)->Rp K R x d->Rp K R y e->g d e=some u->(∀v H' R',Ext H R H' R'->Rp K R' v u->Q v H')->r x y H Q
theorem OpS.g{r:R2}{g:D->D->Option D}(h:OpS K r g):ii K r g:=λH R x y d e u Q s rx ry q k=>
 h H x y d e u Q (rx.mono s) (ry.mono s) q λv z=>k v H R (Ext.refl s) z.rp
theorem aG{r:R2}{g:D->D->Option D}{fa fb:aJ}(h:ii K r g)(ha:ME K O ta fa)(hb:ME K O tb fb):ME K O (jJ r ta tb) (af g fa fb):=λZ σ H R ρ d ρ' Q S e k=>by obtain⟨x,ρ1,e1,e⟩:=bS e;obtain⟨y,ρ2,e2,e⟩:=bS e;obtain⟨e3,rfl⟩:=dk e;refine ha Z σ H R ρ x ρ1 _ S e1 λv H1 R1 S1 st1 r1=>hb Z σ H1 R1 ρ1 y _ _ S1 e2 λw H2 R2 S2 st2 r2=>?_;exact h H2 R2 v w x y d Q S2.sub (r1.mono st2.r) r2 e3 λz H3 R3 x3 r3=>k z H3 R3 (S2.ext x3) ((st1.trans st2).trans x3.stp) r3
theorem c7{r:R2}{g:D->D->Option D}{fa fb:aJ}(h:OpS K r g)(ha:ME K O ta fa)(hb:MB K O tb fb):ME K O (jJ r ta tb) (af g fa fb):=λZ σ H R ρ d ρ' Q S e k=>by obtain⟨x,ρ1,e1,e⟩:=bS e;obtain⟨y,ρ2,e2,e⟩:=bS e;obtain⟨e3,rfl⟩:=dk e;refine ha Z σ H R ρ x ρ1 _ S e1 λv H1 R1 S1 st1 r1=>hb Z σ H1 R1 ρ1 y _ _ S1 e2 λw H2 R2 S2 st2 r2=>?_;exact h H2 v w x y d Q ((r1.mono st2.r).mono S2.same) r2 e3 λz q=>k z H2 R2 S2 (st1.trans st2) q.rp
def iL(i:Nat)(fb:aJ):aJ:=bV fb λy=>bV (aa i) λx=>dz (match x,y with
 |.lst xs,.int j=>bO xs j
 |_,_=>none)
theorem wF{R:Hp}{xs:List V}{ds:List D}{i:Int}{d:D}(r:Rps K R xs ds)(h:bO ds i=some d):∃v,bO xs i=some v/\Rp K R v d:=by
 unfold bO at h ⊢;rw[r.length];cases e:fK ds.length i with
 |none=>rw[e]at h;cases h
 | some j=>
  rw[e]at h;exact r.get h
theorem vQ{i:Nat}{fb:aJ}(hi:i∈O)(hb:ME K O tb fb):ME K O (jJ (o6 K) (dJ i) tb) (iL i fb):=λZ σ H R ρ d ρ' Q S e k=>by
 obtain⟨y,ρ1,e1,e⟩:=bS e;obtain⟨x,ρ2,e2,e⟩:=bS e;obtain⟨e3,rfl⟩:=dk e;obtain⟨e4,rfl⟩:=yf e2;obtain⟨l,vs,ds,h1,h2,h3,_⟩:=S.own i hi;refine⟨.ref l,h2,hb Z σ H R ρ y _ _ S e1 λw H1 R1 S1 st1 r1=>?_⟩;obtain⟨l',vs',ds',g1,g2,g3,g4,g5⟩:=S1.own i hi;rw[h2]at g2;cases g2;rw[e4]at g1;cases g1;split at e3
 ·obtain rfl:=r1.isA rfl;obtain⟨us,rfl,q5⟩:=g5.isL;obtain⟨v,q1,q2⟩:=wF q5 e3;exact .inl ⟨l,_,_,v,rfl,rfl,SqL.of g3,q1,k v H1 R1 S1 st1 q2⟩
 ·cases e3
def bj:D->D->Option D
 |.lst xs,.int i=>bO xs i
 |.tup xs,.int i=>bO xs i
 |.str z,.int i=>if z.length<=sizeLine then(bO z.cps.toList i).map λc=>.str ⟨#[c]⟩else none
 |_,_=>none
theorem bq:ii K (o6 K) bj:=λH R x y d e u Q s rx ry q k=>by
 unfold bj at q;split at q
 ·rename_i xs i
  (first|obtain rfl:=ry.isA rfl|cases ry)
  obtain⟨_,_,rfl,h,r⟩:=rx.isL;obtain⟨v,q1,q2⟩:=wF r q;exact .inl ⟨_,_,i,v,rfl,rfl,Same.sqL s h,q1,k v H R (Ext.refl s) q2⟩
 ·rename_i xs i
  (first|obtain rfl:=ry.isA rfl|cases ry)
  obtain⟨_,_,rfl,h,r⟩:=rx.isT;obtain⟨v,q1,q2⟩:=wF r q;exact .inr (.inl ⟨_,_,i,v,rfl,rfl,SqT.of (s _ _ h),q1,k v H R (Ext.refl s) q2⟩)
 ·rename_i z i
  (first|obtain rfl:=ry.isA rfl|cases ry)
  (first|obtain rfl:=rx.isA rfl|cases rx)
  split at q
  ·rename_i hz;cases e':bO z.cps.toList i with
   |none=>rw[e']at q;cases q
   | some c=>
    rw[e']at q
    (first|obtain rfl:=q.isA rfl|cases q)
    exact .inr (.inr ⟨z,i,c,rfl,rfl,hz,e',k _ H R (Ext.refl s) (.str _)⟩)
  ·(first|obtain rfl:=q.isA rfl|cases q)
 ·(first|obtain rfl:=q.isA rfl|cases q)
def kP(C:Int->Int->Bool)(g:Int->Int->Int):D->D->Option D
 |.int i,.int j=>if C i j=true then some (.int (g i j))else none
 |_,_=>none
theorem kY{C:Int->Int->Bool}{P:Int->Int->Prop}{g:Int->Int->Int}(hc:∀i j,C i j=true->P i j):ii K (rI P λi j=>.int (g i j)) (kP C g):=λH R x y d e u Q s rx ry q k=>by
 unfold kP at q;split at q
 ·rename_i i j;split at q
  ·rename_i h
   (first|obtain rfl:=q.isA rfl|cases q)
   (first|obtain rfl:=rx.isA rfl|cases rx)
   (first|obtain rfl:=ry.isA rfl|cases ry)
   exact⟨i,j,rfl,rfl,hc i j h,k _ H R (Ext.refl s) (.int _)⟩
  ·(first|obtain rfl:=q.isA rfl|cases q)
 ·(first|obtain rfl:=q.isA rfl|cases q)
def qk(g:Int->Int->Int):D->D->Option D
 |.int i,.int j=>some (.int (g i j))
 |_,_=>none
theorem CC{g:Int->Int->Int}:ii K (ip λi j=>.int (g i j)) (qk g):=λH R x y d e u Q s rx ry q k=>by
 unfold qk at q;split at q
 ·rename_i i j
  (first|obtain rfl:=q.isA rfl|cases q)
  (first|obtain rfl:=rx.isA rfl|cases rx)
  (first|obtain rfl:=ry.isA rfl|cases ry)
  exact⟨i,j,rfl,rfl,k _ H R (Ext.refl s) (.int _)⟩
 ·(first|obtain rfl:=q.isA rfl|cases q)
def oR(g:Int->Int->Bool):D->D->Option D
 |.int i,.int j=>some (.bl (g i j))
 |_,_=>none
end
section
variable{K:au}{Z:Anc}{O:List Nat}{t ta tb tc:TE}{tA tB':TT}{tr:TA}{fa fb fc:aJ}{ga gb:dP}{fs:aT}
def bz(f:aJ):dP:=bV f λd=>dz (match d with
 |.bl b=>some b
 |_=>none)
theorem de(h:ME K O t fa):MT K O (C1 t) (bz fa):=λZ σ H R ρ b ρ' Q S e k=>by
 obtain⟨d,ρ1,e1,e⟩:=bS e;obtain⟨e2,rfl⟩:=dk e;refine h Z σ H R ρ d _ _ S e1 λv H' R' S' st r=>?_
 (first|split at e2)
 ·obtain rfl:=r.isA rfl;cases e2;exact⟨_,rfl,k H' R' S' st⟩
 ·cases e2
theorem mH(h:ME K O t fa):MT K O (tB t) (bz fa):=λZ σ H R ρ b ρ' Q S e k=>by
 obtain⟨d,ρ1,e1,e⟩:=bS e;obtain⟨e2,rfl⟩:=dk e;refine h Z σ H R ρ d _ _ S e1 λv H' R' S' st r=>?_
 (first|split at e2)
 ·obtain rfl:=r.isA rfl;cases e2;exact⟨_,rfl,k H' R' S' st⟩
 ·cases e2
def gS(f:dP):dP:=bV f λb=>ae (!b)
theorem sQ(h:MT K O tA ga):MT K O (qx tA) (gS ga):=λZ σ H R ρ b ρ' Q S e k=>by obtain⟨c,ρ1,e1,e⟩:=bS e;cases e;exact h Z σ H R ρ c _ _ S e1 λH' R' S' st=>k H' R' S' st
def dM(f g:dP):dP:=bV f λb=>if b=true then g else ae false
def lY(f g:dP):dP:=bV f λb=>if b=true then ae true else g
theorem pP(h:MT K O tA ga)(h2:MT K O tB' gb):MT K O (qz tA tB') (dM ga gb):=λZ σ H R ρ b ρ' Q S e k=>by
 obtain⟨c,ρ1,e1,e⟩:=bS e;refine h Z σ H R ρ c _ _ S e1 λH' R' S' st=>?_;cases c with
 |true=>exact fU (h2 Z σ H' R' ρ1 b ρ' Q S' e λH2 R2 S2 st2=>k H2 R2 S2 (st.trans st2))
 |false=>cases e;exact fV (k H' R' S' st)
theorem ph(h:MT K O tA ga)(h2:MT K O tB' gb):MT K O (B7 tA tB') (lY ga gb):=λZ σ H R ρ b ρ' Q S e k=>by
 obtain⟨c,ρ1,e1,e⟩:=bS e;refine h Z σ H R ρ c _ _ S e1 λH' R' S' st=>?_;cases c with
 |true=>cases e;exact fU (k H' R' S' st)
 |false=>exact fV (h2 Z σ H' R' ρ1 b ρ' Q S' e λH2 R2 S2 st2=>k H2 R2 S2 (st.trans st2))
def pH(f g:aJ):aJ:=bV (bz f) λb=>if b=true then g else ae (.bl false)
def sh(f:aJ):aJ:=bV (bz f) λb=>ae (.bl (!b))
theorem Dp(h:ME K O ta fa)(h2:ME K O tb fb):ME K O (CQ ta tb) (pH fa fb):=λZ σ H R ρ d ρ' Q S e k=>by
 obtain⟨c,ρ1,e1,e⟩:=bS e;obtain⟨x,ρ2,e1,e2⟩:=bS e1;obtain⟨e2,rfl⟩:=dk e2;refine h Z σ H R ρ x _ _ S e1 λv H' R' S' st r=>?_
 (first|split at e2)
 ·obtain rfl:=r.isA rfl;cases e2;refine⟨_,rfl,?_⟩;cases c with
  |true=>exact fU (h2 Z σ H' R' _ d ρ' Q S' e λv H2 R2 S2 st2 r2=>k v H2 R2 S2 (st.trans st2) r2)
  |false=>cases e;exact fV (k _ H' R' S' st (.bl false))
 ·cases e2
theorem qtr(h:ME K O ta fa):ME K O (C0 ta) (sh fa):=λZ σ H R ρ d ρ' Q S e k=>by
 obtain⟨c,ρ1,e1,e⟩:=bS e;obtain⟨x,ρ2,e1,e2⟩:=bS e1;obtain⟨e2,rfl⟩:=dk e2;refine h Z σ H R ρ x _ _ S e1 λv H' R' S' st r=>?_
 (first|split at e2)
 ·obtain rfl:=r.isA rfl;cases e2;cases e;exact⟨_,rfl,k _ H' R' S' st (.bl _)⟩
 ·cases e2
def i3(f:dP)(g h:aJ):aJ:=bV f λb=>if b=true then g else h
theorem kt(h:MT K O tA ga)(h1:ME K O ta fa)(h2:ME K O tb fb):ME K O (uZ tA ta tb) (i3 ga fa fb):=λZ σ H R ρ d ρ' Q S e k=>by
 obtain⟨c,ρ1,e1,e⟩:=bS e;refine h Z σ H R ρ c _ _ S e1 λH' R' S' st=>?_;cases c with
 |true=>exact fU (h1 Z σ H' R' ρ1 d ρ' Q S' e λv H2 R2 S2 st2 r2=>k v H2 R2 S2 (st.trans st2) r2)
 |false=>exact fV (h2 Z σ H' R' ρ1 d ρ' Q S' e λv H2 R2 S2 st2 r2=>k v H2 R2 S2 (st.trans st2) r2)
def ag:aT:=ae []
def am(f:aJ)(g:aT):aT:=bV f λx=>bV g λxs=>ae (x::xs)
theorem aD:MA K O gr ag:=λZ σ H R ρ ds ρ' Q S e k=>by cases e;exact k [] H R S (Stp.refl _ _ _ _) .nil
theorem aq(h:ME K O t fa)(h2:MA K O tr fs):MA K O (jL t tr) (am fa fs):=λZ σ H R ρ ds ρ' Q S e k=>by obtain⟨x,ρ1,e1,e⟩:=bS e;obtain⟨xs,ρ2,e2,e⟩:=bS e;cases e;refine h Z σ H R ρ x _ _ S e1 λv H1 R1 S1 st1 r1=>h2 Z σ H1 R1 ρ1 xs _ _ S1 e2 λvs H2 R2 S2 st2 r2=>?_;exact k (v::vs) H2 R2 S2 (st1.trans st2) (.cons (r1.mono st2.r) r2)
def cc(f:aT):aJ:=bV f λxs=>dz (if xs.length<=sizeLine then some (.tup xs)else none)
theorem ix(h:MA K O tr fs):ME K O (qw tr) (cc fs):=λZ σ H R ρ d ρ' Q S e k=>by
 obtain⟨xs,ρ1,e1,e⟩:=bS e;obtain⟨e2,rfl⟩:=dk e;refine h Z σ H R ρ xs _ _ S e1 λvs H1 R1 S1 st1 r1=>?_;split at e2
 ·rename_i hz;cases e2;refine⟨by rw[r1.length];exact hz,λp np=>?_⟩;have x:=Ext.new (o:=.tup vs) S1.sub np;exact k _ _ _ (S1.ext x) (st1.trans x.stp) (.tup cM (r1.mono x.r))
 ·cases e2
def aY(f:aT):aT:=bV f λxs=>dz (if xs.length<=sizeLine then some xs else none)
theorem StR.out{σ:St}{H R:Hp}{ρ:aB}{l:Addr}(S:StR K Z O σ H R ρ)(h:H l=none):R l=none:=by
 cases q:R l with
 |none=>rfl
 |some o=>rw[S.sub l o q]at h;cases h
theorem Stp.new{σ:St}{H R H' R':Hp}{l:Addr}(x:Stp O σ H R H' R')(h:H' l=none):H l=none:=by
 cases q:H l with
 |none=>rfl
 |some o=>exact absurd h (x.d l (by rw[q];exact λz=>nomatch z)).1
theorem fF(h:MA K O tr fs):MN K O (mW tr) (aY fs):=λZ σ H R ρ ds ρ' Q S e k=>by
 obtain⟨xs,ρ1,e1,e⟩:=bS e;obtain⟨e2,rfl⟩:=dk e;refine h Z σ H R ρ xs _ _ S e1 λvs H1 R1 S1 st1 r1=>?_;split at e2
 ·rename_i hz;cases e2;refine⟨by rw[r1.length];exact hz,λp np=>?_⟩;have x:=Ext.hid (o:=.lst vs) S1.sub np;exact k p vs _ _ (S1.ext x) (st1.trans x.stp) (st1.new np) cM (S1.out np) r1
 ·cases e2
def oa(K:au)(r:List V->Hp->VK->Prop)(g:D->Option D):Prop:=∀(H:Hp) (x:V) (d u:D) (Q:VK),Rp K H x d->g d=some u->(∀v,Sc v u->Q v H)->r [x] H Q
def aH(g:D->Option D)(f:aJ):aJ:=bV f λx=>dz (g x)
theorem dH{r:List V->Hp->VK->Prop}{g:D->Option D}(h:oa K r g)(ha:MB K O t fa):ME K O (md r (jL t gr)) (aH g fa):=λZ σ H R ρ d ρ' Q S e k=>by obtain⟨x,ρ1,e1,e⟩:=bS e;obtain⟨e2,rfl⟩:=dk e;refine ha Z σ H R ρ x _ _ S e1 λv H1 R1 S1 st1 r1=>?_;exact h H1 v x d Q r1 e2 λw z=>k w H1 R1 S1 st1 z.rp
def bI:D->Option D
 |.lst xs=>some (.int xs.length)
 |.tup xs=>some (.int xs.length)
 |_=>none
theorem fu:oa K (λxs H Q=>∃p ys,xs=[.ref p]/\(SqL K H p ys∨SqT K H p ys)/\Q (.int ys.length) H) bI:=λH x d u Q r e k=>by
 (first|split at e|(unfold bI at e;split at e))
 ·obtain⟨_,_,rfl,h,q⟩:=r.isL;cases e;refine⟨_,_,rfl,.inl h,?_⟩;rw[q.length];exact k _ (.int _)
 ·obtain⟨_,_,rfl,h,q⟩:=r.isT;cases e;refine⟨_,_,rfl,.inr (SqT.of h),?_⟩;rw[q.length];exact k _ (.int _)
 ·cases e
def iQ:D->Option D
 |.int i=>some (.int i)
 |.bl b=>some (.int (if b then 1 else 0))
 |_=>none
theorem Dd:oa K (λxs H Q=>(∃i,xs=[.int i]/\Q (.int i) H)∨∃k,xs=[.bl k]/\Q (.int (if k then 1 else 0)) H) iQ:=λH x d u Q r e k=>by
 (first|split at e|(unfold iQ at e;split at e))
 ·rename_i i;obtain rfl:=r.isA rfl;cases e;exact .inl ⟨i,rfl,k _ (.int _)⟩
 ·rename_i b;obtain rfl:=r.isA rfl;cases e;exact .inr ⟨b,rfl,k _ (.int _)⟩
 ·cases e
def eF:List D->Option (List Int)
 |[]=>some []
 |.int i::r=>(eF r).map (i:: ·)
 |_=>none
def i8:List D->Option (List Bool)
 |[]=>some []
 |.bl i::r=>(i8 r).map (i:: ·)
 |_=>none
theorem mS{R:Hp}:∀{xs:List V} {ds:List D} {ns:List Int},Rps K R xs ds->eF ds=some ns->xs=ns.map V.int
 |_,_,ns,.nil,e=>by cases e;rfl
 | _,_,ns,.cons (d:=d) h r,e=>by
  cases h with
  | int i=>
   unfold eF at e;cases q:eF _ with
   |none=>rw[q]at e;cases e
   |some ms=>rw[q]at e;cases e;rw[mS r q];rfl
  |_=>cases e
theorem FS{R:Hp}:∀{xs:List V} {ds:List D} {ns:List Bool},Rps K R xs ds->i8 ds=some ns->xs=ns.map V.bl
 |_,_,ns,.nil,e=>by cases e;rfl
 | _,_,ns,.cons (d:=d) h r,e=>by
  cases h with
  | bl i=>
   unfold i8 at e;cases q:i8 _ with
   |none=>rw[q]at e;cases e
   |some ms=>rw[q]at e;cases e;rw[FS r q];rfl
  |_=>cases e
theorem gN:∀ns:List Int,eF (ns.map D.int)=some ns
 |[]=>rfl
 |n::ns=>by rw[jo,eF,gN ns];rfl
theorem FQ:∀ns:List Bool,i8 (ns.map D.bl)=some ns
 |[]=>rfl
 |n::ns=>by rw[jo,i8,FQ ns];rfl
def fX:D->Option D
 |.lst xs=>(eF xs).map λns=>.int ns.sum
 |_=>none
theorem mz:oa K (λxs H Q=>∃(p:Addr) (ns:List Int),xs=[.ref p]/\SqL K H p (ns.map V.int)/\Q (.int ns.sum) H) fX:=λH x d u Q r e k=>by
 cases r with
 | lst h q=>
  rename_i ds;have e':(eF ds).map (λns=>D.int ns.sum)=some u:=e;cases z:eF ds with
  |none=>rw[z]at e';cases e'
  | some ns=>
   rw[z]at e';cases e';have ex:=mS q z;subst ex;exact⟨_,ns,rfl,h,k _ (.int _)⟩
 |_=>cases e
def lD:D->Option D
 |.lst xs=>(i8 xs).map λbs=>.bl (bs.all id)
 |_=>none
theorem qv1:oa K (λxs H Q=>∃(p:Addr) (bs:List Bool),xs=[.ref p]/\SqL K H p (bs.map V.bl)/\Q (.bl (bs.all id)) H) lD:=λH x d u Q r e k=>by
 cases r with
 | lst h q=>
  rename_i ds;have e':(i8 ds).map (λbs=>D.bl (bs.all id))=some u:=e;cases z:i8 ds with
  |none=>rw[z]at e';cases e'
  | some ns=>
   rw[z]at e';cases e';have ex:=FS q z;subst ex;exact⟨_,ns,rfl,h,k _ (.bl _)⟩
 |_=>cases e
end
def ItOk(K:au)(J:It)(R:Hp)(ds:List D):Prop:=∀(H' R':Hp),Same R R'->(∀a o,R' a=some o->H' a=some o)->∀i:Nat,(i=ds.length->J.stop i H')/\∀d,ds[i]? =some d->J.go i H'/\∀x H'',J.yld i H' x H''->∃R'',Ext H' R' H'' R''/\Rp K R'' x d
theorem ItOk.mono{K:au}{J:It}{R R1:Hp}{ds:List D}(h:ItOk K J R ds)(s:Same R R1):ItOk K J R1 ds:=λH' R' s' b=>h H' R' (s.trans s') b
def MI(K:au)(O:List Nat)(wi:TI)(f:aT):Prop:=∀(Z:Anc) (σ:St) (H R:Hp) (ρ:aB) (ds:List D) (ρ':aB) (Q:It->Hp->Prop),StR K Z O σ H R ρ->f ρ=some (ds,ρ')->(∀J H' R',StR K Z O σ H' R' ρ'->Stp O σ H R H' R'->ItOk K J R' ds->Q J H')->wi σ H Q
def q8(K:au)(tl:TE):TI:=λσ H R=>u9 K tl σ H R∨nw K tl σ H R
theorem fI{X:Cx}{K:au}{tg l:Expr}{tl:TE}(h:X.K=K)(hl:PE X l tl):PI X tg l (q8 K tl):=λz5 s σ H R I q=>by
 rcases q with q|q
 ·exact qjt h hl z5 s σ H R I q
 ·exact qnq h hl z5 s σ H R I q
def bD(f:aJ):aT:=bV f λd=>dz (match d with
 |.lst xs=>some xs
 |.tup xs=>some xs
 |_=>none)
section
variable{K:au}{O:List Nat}{t:TE}{tr:TA}{fa:aJ}{fs:aT}
theorem qos{R:Hp}{a:Addr}{xs:List V}{ds:List D}(h:SqL K R a xs)(r:Rps K R xs ds):ItOk K (yH K a) R ds:=λH' R' s b i=>by have q:SqL K H' a xs:=Same.sqL b (Same.sqL s h);refine⟨λe=>⟨xs,q,by rw[r.length];omega⟩,λd e=>?_⟩;obtain⟨v,h1,h2⟩:=r.get e;refine⟨⟨xs,v,q,h1⟩,λx H'' y=>?_⟩;obtain⟨rfl,y⟩:=y;have ex:=y xs q;rw[h1]at ex;cases ex;exact⟨R',Ext.refl b,h2.mono s⟩
theorem qu7{R:Hp}{a:Addr}{xs:List V}{ds:List D}(h:SqT K R a xs)(r:Rps K R xs ds):ItOk K (yG K a) R ds:=λH' R' s b i=>by have q:SqT K H' a xs:=Same.tup b (Same.tup s h);refine⟨λe=>⟨xs,q,by rw[r.length];omega⟩,λd e=>?_⟩;obtain⟨v,h1,h2⟩:=r.get e;refine⟨⟨xs,v,q,h1⟩,λx H'' y=>?_⟩;obtain⟨rfl,y⟩:=y;have ex:=y xs q;rw[h1]at ex;cases ex;exact⟨R',Ext.refl b,h2.mono s⟩
theorem fE(h:ME K O t fa):MI K O (q8 K t) (bD fa):=λZ σ H R ρ ds ρ' Q S e k=>by
 obtain⟨d,ρ1,e1,e⟩:=bS e;obtain⟨e2,rfl⟩:=dk e;cases d with
 | lst xs=>
  cases e2;refine .inl (h Z σ H R ρ _ _ _ S e1 λv H1 R1 S1 st1 r1=>?_);obtain⟨_,_,rfl,q,r⟩:=r1.isL;exact⟨_,rfl,⟨_,Same.sqL S1.same q⟩,k _ H1 R1 S1 st1 (qos q r)⟩
 | tup xs=>
  cases e2;refine .inr (h Z σ H R ρ _ _ _ S e1 λv H1 R1 S1 st1 r1=>?_);obtain⟨_,_,rfl,q,r⟩:=r1.isT;exact⟨_,rfl,⟨_,SqT.of (S1.same _ _ q)⟩,k _ H1 R1 S1 st1 (qu7 (SqT.of q) r)⟩
 |_=>cases e2
def cY(lo:Int)(n:Nat):List D:=(List.range n).map λ(k:Nat)=>D.int (lo+(k:Int))
theorem qki{R:Hp}(lo:Int)(n:Nat):ItOk K (ug lo n) R (cY lo n):=λH' R' s b i=>by
 have len:(cY lo n).length=n:=by simp[cY]
 refine⟨λe=>by show n<=i;omega,λd e=>?_⟩;have hi:i<n:=by have:=(List.getElem?_eq_some_iff.mp e).1;omega
 have ed:d=D.int (lo+(i:Int)):=by unfold cY at e;rw[jd,xm hi]at e;exact(jb e).symm
 subst ed;refine⟨hi,λx H'' y=>?_⟩;obtain⟨rfl,rfl⟩:=y;exact⟨R',Ext.refl b,.int _⟩
def fk(j:Int):Bool:=decide (-(2^62)<=j)&&decide (j<2^62)
def fD(f:aT):aT:=bV f λds=>dz (match ds with
 |[.int j]=>if fk j=true then some (cY 0 j.toNat)else none
 |_=>none)
theorem iB(h:MA K O tr fs):MI K O (Cg tr) (fD fs):=λZ σ H R ρ ds ρ' Q S e k=>by
 obtain⟨xs,ρ1,e1,e⟩:=bS e;obtain⟨e2,rfl⟩:=dk e;split at e2
 ·rename_i j;split at e2
  ·rename_i hb;cases e2;refine h Z σ H R ρ _ _ _ S e1 λvs H1 R1 S1 st1 r1=>?_;obtain⟨_,_,rfl,q,r⟩:=r1.isC
   (first|obtain rfl:=r.isA rfl|cases r)
   (first|obtain rfl:=q.isA rfl|cases q)
   unfold fk at hb;rw[Bool.and_eq_true]at hb;exact⟨j,rfl,of_decide_eq_true hb.1,of_decide_eq_true hb.2,k _ H1 R1 S1 st1 (qki 0 _)⟩
  ·cases e2
 ·cases e2
end
def MG(K:au)(O T:List Nat)(g:TG)(f:eH):Prop:=∀(Z:Anc) (σ:St) (H R:Hp) (ρ:aB) (x:V) (d:D) (ρ':aB) (Q:St->Hp->Prop),StR K Z O σ H R ρ->Rp K R x d->f d ρ=some ρ'->(∀σ',StR K Z O σ' H R ρ'->(∀j,j∉T->σ'[j]? =σ[j]?)->Q σ' H)->g x σ H Q
def ue(K:au)(O T:List Nat)(g:kn)(f:List D->aB->Option aB):Prop:=∀(Z:Anc) (σ:St) (H R:Hp) (ρ:aB) (xs:List V) (ds:List D) (ρ':aB) (Q:St->Hp->Prop),StR K Z O σ H R ρ->Rps K R xs ds->f ds ρ=some ρ'->(∀σ',StR K Z O σ' H R ρ'->(∀j,j∉T->σ'[j]? =σ[j]?)->Q σ' H)->g xs σ H Q
def ai(i:Nat):eH:=λd ρ=>some (ρ.set i (some d))
def e9:List D->aB->Option aB:=λds ρ=>match ds with
 |[]=>some ρ
 |_=>none
def cT(f:eH)(g:List D->aB->Option aB):List D->aB->Option aB:=λds ρ=>match ds with
 | d::r=>match f d ρ with
  |some ρ1=>g r ρ1
  |none=>none
 |[]=>none
def eQ(n:Nat)(f:List D->aB->Option aB):eH:=λd ρ=>match d with
 |.tup ds=>if ds.length=n then f ds ρ else none
 |_=>none
section
variable{K:au}{O T T':List Nat}{g:TG}{gs:kn}{f:eH}{fs:List D->aB->Option aB}
theorem cz{i:Nat}(hi:i∉O:=by decide):MG K O [i] (gZ i) (ai i):=λZ σ H R ρ x d ρ' Q S r e k=>by cases e;exact k _ (S.set hi r) λj hj=>jf (λ(z:i=j)=>hj (by rw[z];exact List.mem_singleton_self j))
theorem mM:ue K O [] nA e9:=λZ σ H R ρ xs ds ρ' Q S r e k=>by
 cases r with
 |nil=>cases e;exact⟨rfl,k σ S λ_ _=>rfl⟩
 |cons _ _=>cases e
theorem hV(h:MG K O T g f)(h2:ue K O T' gs fs):ue K O (T++T') (r9 g gs) (cT f fs):=λZ σ H R ρ xs ds ρ' Q S r e k=>by
 cases r with
 |nil=>cases e
 | cons q r=>
  rename_i x xs d ds;unfold cT at e;cases e1:f d ρ with
  |none=>simp only[e1]at e;cases e
  | some ρ1=>
   simp only[e1]at e;refine⟨x,xs,rfl,h Z σ H R ρ x d ρ1 _ S q e1 λσ1 S1 n1=>h2 Z σ1 H R ρ1 xs ds ρ' _ S1 r e λσ2 S2 n2=>?_⟩;refine k σ2 S2 λj hj=>?_;rw[List.mem_append,not_or]at hj;rw[n2 j hj.2,n1 j hj.1]
theorem mG{n:Nat}(h:ue K O T gs fs):MG K O T (lA K n gs) (eQ n fs):=λZ σ H R ρ x d ρ' Q S r e k=>by
 cases r with
 | tup q rs=>
  unfold eQ at e;simp only at e;split at e
  ·rename_i hn;exact⟨_,_,rfl,SqT.of (S.same _ _ q),by rw[rs.length];exact hn,h Z σ H R ρ _ _ ρ' Q S rs e k⟩
  ·cases e
 |_=>cases e
end
def iq(n:Nat)(js:List Nat)(ρ:aB):aB:=List.replicate n none++js.map λj=>(ρ[j]?).join
def fR:Option (Nat×Nat)->List Nat
 |none=>[]
 |some p=>[p.2]
def g6(bw:Option (Nat×Nat))(ρ ρb:aB):aB:=match bw with
 |none=>ρ
 | some p=>match ρb[p.2]? with
  |some x=>ρ.set p.1 x
  |none=>ρ
def fZ(n:Nat)(js O:List Nat)(bw:Option (Nat×Nat)):Bool:=match bw with
 |none=>js.all λj=>!O.contains j
 |some p=>O.contains p.1&&decide (n<=p.2)&&decide (js[p.2-n]? =some p.1)&&(List.range js.length).all λk=>decide (n+k=p.2)|| !O.contains (js.getD k 0)
def cU(n:Nat)(js:List Nat)(bw:Option (Nat×Nat))(fg:eH)(ft:dP)(fe:aJ):List D->aT
 |[],ρ=>some ([],ρ)
 | d::r,ρ=>match fg d (iq n js ρ)with
  |none=>none
  | some ρ1=>match ft ρ1 with
   |none=>none
   |some (false,ρ2)=>cU n js bw fg ft fe r (g6 bw ρ ρ2)
   | some (true,ρ2)=>match fe ρ2 with
    |none=>none
    | some (y,ρ3)=>match cU n js bw fg ft fe r (g6 bw ρ ρ3)with
     |none=>none
     |some (ys,ρ4)=>some (y::ys,ρ4)
section
variable{K:au}{Z Z':Anc}{O:List Nat}{σ σ4:St}{H R H6 R6:Hp}{ρ ρ3:aB}{n:Nat}{js:List Nat}{bw:Option (Nat×Nat)}
theorem qip:(iq n js ρ).length=n+js.length:=by simp[iq]
theorem qiq{i:Nat}{d:D}(e:(iq n js ρ)[i]? =some (some d)):n<=i/\∃j,js[i-n]? =some j/\ρ[j]? =some (some d):=by
 unfold iq at e;by_cases h:i<n
 ·rw[xv (by simpa using h),xr,if_pos h]at e;cases e
 ·refine⟨by omega,?_⟩;rw[xo (by simp;omega),ji,jd]at e;cases q:js[i-n]? with
  |none=>rw[q]at e;cases e
  | some j=>
   rw[q]at e;refine⟨j,rfl,?_⟩;have e':(ρ[j]?).join=some d:=jb e;cases z:ρ[j]? with
   |none=>rw[z]at e';cases e'
   |some o=>rw[z]at e';have:o=some d:=e';rw[this]
theorem ql8{i j:Nat}(h:n<=i)(e:js[i-n]? =some j){d:D}(q:ρ[j]? =some (some d)):(iq n js ρ)[i]? =some (some d):=by unfold iq;rw[xo (by simp;omega),ji,jd,e];show some ((ρ[j]?).join)=_;rw[q];rfl
theorem s9{i j:Nat}(h:n<=i)(e:js[i-n]? =some j){v:V}(q:σ[j]? =some (some v)):(dj n js σ)[i]? =some (some v):=by unfold dj;rw[xo (by simp;omega),ji,jd,e];show some ((σ[j]?).join)=_;rw[q];rfl
def bwL(bw:Option (Nat×Nat))(σ:St):Addr->Prop:=match bw with
 |none=>λ_=>False
 |some p=>λl=>σ[p.1]? =some (some (.ref l))
theorem StR.block(S:StR K Z O σ H R ρ)(hb:fZ n js O bw=true):StR K ⟨H,R,bwL bw σ,fR bw⟩ (fR bw) (dj n js σ) H R (iq n js ρ):=by
 have noO:∀i j,n<=i->js[i-n]? =some j->i∉fR bw->j∉O:=λi j hi hj hn hO=>by
  cases bw with
  | none=>
   unfold fZ at hb;have z:=List.all_eq_true.mp hb j (xi hj);simp at z;exact z hO
  | some p=>
   unfold fZ at hb;simp only[Bool.and_eq_true]at hb;have hk:i-n<js.length:=(List.getElem?_eq_some_iff.mp hj).1;have z:=List.all_eq_true.mp hb.2 (i-n) (List.mem_range.mpr hk);have ej:js.getD (i-n) 0=j:=by rw[jc,hj];rfl
   rw[ej]at z;simp only[Bool.or_eq_true,decide_eq_true_eq]at z;rcases z with z|z
   ·exact hn (by show i∈[p.2];rw[List.mem_singleton];omega)
   ·simp at z;exact z hO
 have kN:∀p,bw=some p->p.1∈O/\n<=p.2/\js[p.2-n]? =some p.1:=λp e=>by subst e;unfold fZ at hb;simp only[Bool.and_eq_true,decide_eq_true_eq]at hb;exact⟨by simpa using hb.1.1.1,hb.1.1.2,hb.1.2⟩
 have only:∀i,i∈fR bw->∃p,bw=some p/\i=p.2:=λi hi=>by
  cases bw with
  |none=>exact absurd hi (by simp[fR])
  |some p=>exact⟨p,rfl,by simpa[fR]using hi⟩
 refine⟨S.sub,by rw[qip,Ey],λi d hi e=>?_,λi hi=>?_,λi j hi hj hn=>?_,λa o e _=>e,Same.refl _,λa h=>.inl h,λa h=>.refl h,λi hi hp=>absurd hi hp,λi hi _ l e=>?_⟩
 ·obtain⟨h1,j,h2,h3⟩:=qiq e;obtain⟨v,q1,q2⟩:=S.env j d (noO i j h1 h2 hi) h3;exact⟨v,s9 h1 h2 q1,q2⟩
 ·obtain⟨p,rfl,rfl⟩:=only i hi;obtain⟨h1,h2,h3⟩:=kN p rfl;obtain⟨l,vs,ds,q1,q2,q3⟩:=S.own p.1 h1;exact⟨l,vs,ds,ql8 h2 h3 q1,s9 h2 h3 q2,q3⟩
 ·obtain⟨p,rfl,rfl⟩:=only i hi;obtain⟨p',e,rfl⟩:=only j hj;cases e;exact absurd rfl hn
 ·obtain⟨p,rfl,rfl⟩:=only i hi;obtain⟨h1,h2,h3⟩:=kN p rfl;obtain⟨l',vs,ds,q1,q2,q3⟩:=S.own p.1 h1;rw[s9 h2 h3 q2]at e;cases e;exact q2
theorem StR.back(S:StR K Z O σ H R ρ)(hb:fZ n js O bw=true)(Sb:StR K Z' (fR bw) σ4 H6 R6 ρ3)(st:Stp (fR bw) σ4 H R H6 R6)(hσ:∀p,bw=some p->σ4[p.2]? =σ[p.1]?):
 StR K Z O σ H6 R6 (g6 bw ρ ρ3)/\Stp O σ H R H6 R6:=by
 have kN:∀p,bw=some p->p.1∈O:=λp e=>by subst e;unfold fZ at hb;simp only[Bool.and_eq_true,decide_eq_true_eq]at hb;simpa using hb.1.1.1
 have only:∀i,i∈fR bw->∃p,bw=some p/\i=p.2:=λi hi=>by
  cases bw with
  |none=>exact absurd hi (by simp[fR])
  |some p=>exact⟨p,rfl,by simpa[fR]using hi⟩
 have st':Stp O σ H R H6 R6:=⟨st.r,λa o e n=>st.h a o e λi hi z=>by obtain⟨p,e1,rfl⟩:=only i hi;rw[hσ p e1]at z;exact n p.1 (kN p e1) z,st.n,st.d⟩
 have keepH0:∀a o,Z.H0 a=some o->¬Z.L a->H6 a=some o:=λa o e n=>by
  refine st'.h a o (S.ah a o e n) λi hi z=>?_;by_cases hp:i∈Z.P
  ·exact n (S.ap i hi hp a z)
  ·rw[S.ao i hi hp a z]at e;cases e
 have len:(g6 bw ρ ρ3).length=ρ.length:=by
  unfold g6;cases bw with
  |none=>rfl
  | some p=>
   dsimp only;split
   ·rw[x6]
   ·rfl
 have other:∀i,(∀p,bw=some p->p.1≠i)->(g6 bw ρ ρ3)[i]? =ρ[i]? :=λi h=>by
  unfold g6;cases bw with
  |none=>rfl
  | some p=>
   dsimp only;split
   ·rw[jf (h p rfl)]
   ·rfl
 refine⟨⟨Sb.sub,by rw[len];exact S.len,λi d hi e=>?_,λi hi=>?_,S.dis,keepH0,S.ar.trans st.r,λa h=>?_,λa h=>(S.ad a h).trans (st.d a (S.ad a h).1),S.ao,S.ap⟩,st'⟩
 ·rw[other i λp e1 z=>hi (z▸kN p e1)]at e;obtain⟨v,h1,h2⟩:=S.env i d hi e;exact⟨v,h1,h2.mono st.r⟩
 ·by_cases hp:∃p,bw=some p/\p.1=i
  ·obtain⟨p,rfl,rfl⟩:=hp;obtain⟨l,vs,ds,q1,q2,q3,q4,q5⟩:=Sb.own p.2 (by simp[fR]);rw[hσ p rfl]at q2;obtain⟨_,_,_,g1,_⟩:=S.own p.1 hi;have za:p.1<ρ.length:=(List.getElem?_eq_some_iff.mp g1).1;refine⟨l,vs,ds,?_,q2,q3,q4,q5⟩;unfold g6;dsimp only;rw[q1];exact jy za
  ·have hne:∀p,bw=some p->p.1≠i:=λp e z=>hp ⟨p,e,z⟩;obtain⟨l,vs,ds,q1,q2,q3,q4,q5⟩:=S.own i hi;have nob:∀j,j∈fR bw->σ4[j]? ≠some (some (.ref l)):=λj hj z=>by
    obtain⟨p,e1,rfl⟩:=only j hj;rw[hσ p e1]at z;exact S.dis p.1 i (kN p e1) hi (hne p e1) l z q2
   refine⟨l,vs,ds,by rw[other i hne];exact q1,q2,st.h l _ q3 nob,?_,q5.mono st.r⟩;cases q:R6 l with
   |none=>rfl
   | some o=>
    rcases st.n l (by rw[q];exact λz=>nomatch z)with z|z
    ·exact absurd q4 z
    ·exact(q5.noF q3 z).elim
 ·rcases st.n a h with z|z
  ·exact S.an a z
  ·exact .inr (z.back (S.ad a))
end
theorem qf7{K:au}{Z:Anc}{O T:List Nat}{σ:St}{H R:Hp}{ρ ρ':aB}{n:Nat}{js:List Nat}{bw:Option (Nat×Nat)}{g:TG}{tt:TT}{te:TE}{fg:eH}{ft:dP}{fe:aJ}{J:It}{ds ys:List D}{Fin:List V->Hp->Prop}
 (hb:fZ n js O bw=true) (hg:MG K (fR bw) T g fg) (hT:∀p,bw=some p->p.2∉T) (ht:MT K (fR bw) tt ft) (he:ME K (fR bw) te fe) (S:StR K Z O σ H R ρ) (ok:ItOk K J R ds) (e:cU n js bw fg ft fe ds ρ=some (ys,ρ')) (hz:ds.length<=sizeLine)
 (fin:∀vs H' R',StR K Z O σ H' R' ρ'->Stp O σ H R H' R'->Rps K R' vs ys->vs.length<=sizeLine->Fin vs H'):ua g tt te (dj n js σ) Fin J H:=by
 refine⟨λi m vs H2=>m=ds.length-i/\i<=ds.length/\vs.length<=i/\∃R2 ρ2 ys1 ys2,StR K Z O σ H2 R2 ρ2/\Stp O σ H R H2 R2/\Rps K R2 vs ys1/\cU n js bw fg ft fe (ds.drop i) ρ2=some (ys2,ρ')/\ys1++ys2=ys,
  ⟨ds.length,by simp,Nat.zero_le _,Nat.zero_le _,R,ρ,[],ys,S,Stp.refl _ _ _ _,.nil,by rw[List.drop_zero];exact e,rfl⟩,?_⟩
 rintro i m vs H2 ⟨rfl,hi,hv,R2,ρ2,ys1,ys2,S2,st2,r2,e2,ey⟩;obtain⟨o1,o2⟩:=ok H2 R2 st2.r S2.sub i;by_cases hlt:i<ds.length
 ·obtain⟨g1,g2⟩:=o2 ds[i] (j8 hlt);rw[k9 hlt]at e2;refine .inr ⟨g1,by omega,λvs' H'=>∃R' ρ2 ys1 ys2,vs'.length<=i+1/\StR K Z O σ H' R' ρ2/\Stp O σ H R H' R'/\Rps K R' vs' ys1/\cU n js bw fg ft fe (ds.drop (i+1)) ρ2=some (ys2,ρ')/\ys1++ys2=ys,?_,λx H3 y=>?_⟩
  ·rintro vs' H' ⟨R',ρ3,zs1,zs2,q0,q1,q2,q3,q4,q5⟩;exact⟨ds.length-(i+1),by omega,rfl,hlt,q0,R',ρ3,zs1,zs2,q1,q2,q3,q4,q5⟩
  ·obtain⟨R3,x3,r3⟩:=g2 x H3 y;have S3:=S2.ext x3;have B3:=S3.block hb;unfold cU at e2;cases e3:fg ds[i] (iq n js ρ2)with
   |none=>rw[e3]at e2;cases e2
   | some ρb1=>
    rw[e3]at e2;dsimp only at e2;refine hg _ _ _ _ _ x _ ρb1 _ B3 r3 e3 λσ4 S4 n4=>?_;have cap:∀p,bw=some p->σ4[p.2]? =σ[p.1]? :=λp e1=>by rw[n4 p.2 (hT p e1)];subst e1;unfold fZ at hb;simp only[Bool.and_eq_true,decide_eq_true_eq]at hb;obtain⟨l,_,_,_,q2,_⟩:=S3.own p.1 (by simpa using hb.1.1.1);rw[s9 hb.1.1.2 hb.1.2 q2,q2]
    cases e4:ft ρb1 with
    |none=>rw[e4]at e2;cases e2
    | some c=>
     obtain⟨b,ρb2⟩:=c;rw[e4]at e2;refine ht _ σ4 H3 R3 ρb1 b ρb2 _ S4 e4 λH5 R5 S5 st5=>?_;cases b with
     | false=>
      dsimp only at e2;obtain⟨T1,T2⟩:=S3.back hb S5 st5 cap;exact fV ⟨R5,_,ys1,ys2,by omega,T1,(st2.trans x3.stp).trans T2,(r2.mono x3.r).mono st5.r,e2,ey⟩
     | true=>
      dsimp only at e2;cases e5:fe ρb2 with
      |none=>rw[e5]at e2;cases e2
      | some c=>
       obtain⟨y0,ρb3⟩:=c;rw[e5]at e2;dsimp only at e2;cases e6:cU n js bw fg ft fe (ds.drop (i+1)) (g6 bw ρ2 ρb3)with
       |none=>rw[e6]at e2;cases e2
       | some c=>
        obtain⟨zs,ρ6⟩:=c;rw[e6]at e2;dsimp only at e2;cases e2;refine fU (he _ σ4 H5 R5 ρb2 y0 ρb3 _ S5 e5 λw H6 R6 S6 st6 r6=>?_);obtain⟨T1,T2⟩:=S3.back hb S6 (st5.trans st6) cap;refine⟨R6,_,ys1++[y0],zs,by rw[je];show vs.length+1<=i+1;omega,T1,(st2.trans x3.stp).trans T2,(((r2.mono x3.r).mono st5.r).mono st6.r).snoc r6,e6,?_⟩;rw[<-ey,List.append_assoc];rfl
 ·have ei:i=ds.length:=by omega
  subst ei;rw[List.drop_length]at e2;unfold cU at e2;cases e2;rw[List.append_nil]at ey;subst ey;exact .inl ⟨o1 rfl,by omega,fin vs H2 R2 S2 st2 r2 (by omega)⟩
def cG(n:Nat)(js:List Nat)(bw:Option (Nat×Nat))(fi:aT)(fg:eH)(ft:dP)(fe:aJ):aT:=bV fi λds ρ=>if ds.length<=sizeLine then cU n js bw fg ft fe ds ρ else none
theorem fG{K:au}{O:List Nat}:MT K O kQ (ae true):=λZ σ H R ρ b ρ' Q S e k=>by cases e;exact k H R S (Stp.refl _ _ _ _)
theorem eL{K:au}{O T:List Nat}{n:Nat}{js:List Nat}{bw:Option (Nat×Nat)}{wi:TI}{g:TG}{tt:TT}{te:TE}{fi:aT}{fg:eH}{ft:dP}{fe:aJ}
 (hi:MI K O wi fi) (hg:MG K (fR bw) T g fg) (ht:MT K (fR bw) tt ft) (he:ME K (fR bw) te fe) (hb:fZ n js O bw=true:=by decide) (hT:∀p,bw=some p->p.2∉T:=by decide):MN K O (sj n js wi g tt te) (cG n js bw fi fg ft fe):=λZ σ H R ρ ds ρ' Q S e k=>by
 obtain⟨xs,ρ1,e1,e⟩:=bS e;split at e
 ·rename_i hz;refine hi Z σ H R ρ xs ρ1 _ S e1 λJ H1 R1 S1 st1 ok=>?_;refine qf7 hb hg hT ht he S1 ok e hz λvs H2 R2 S2 st2 r2 l2 D nD=>?_;have x:=Ext.hid (o:=.lst vs) S2.sub nD;exact k D vs _ _ (S2.ext x) ((st1.trans st2).trans x.stp) ((st1.trans st2).new nD) cM (S2.out nD) r2
 ·cases e
inductive Out where
 |nx (ρ:aB)
 |rt (d:D) (ρ:aB)
 |bk (ρ:aB)
 |ct (ρ:aB)
abbrev aI:=aB->Option Out
structure MC where
 K:PySem.W.Frag
 fr:Bool
 P:List Nat
 Ol:List Nat
def oS(K:au)(fr:Bool)(H:Hp)(v:V)(d:D)(H' R':Hp):Prop:=match fr with
 |false=>Rp K R' v d
 |true=>∃l vs ds,v=.ref l/\d=.lst ds/\H l=none/\H' l=some (.lst vs)/\R' l=none/\Rps K R' vs ds
def Ends.ok(c:MC)(Z:Anc)(O':List Nat)(R:Hp)(E:Ends):Out->Prop
 |.nx ρ'=>∀σ' H' R',StR c.K Z O' σ' H' R' ρ'->Same R R'->E.nx σ' H'
 |.bk ρ'=>∀σ' H' R',StR c.K Z c.Ol σ' H' R' ρ'->Same R R'->E.bk σ' H'
 |.ct ρ'=>∀σ' H' R',StR c.K Z c.Ol σ' H' R' ρ'->Same R R'->E.ct σ' H'
 |.rt d ρ'=>∀v σ' H' R',StR c.K Z c.P σ' H' R' ρ'->oS c.K c.fr Z.H0 v d H' R'->E.rt v H'
def MS(c:MC)(O O':List Nat)(t:TS)(f:aI):Prop:=∀(Z:Anc) (E:Ends) (σ:St) (H R:Hp) (ρ:aB) (o:Out),Z.P=c.P->StR c.K Z O σ H R ρ->f ρ=some o->E.ok c Z O' R o->t E σ H
def c0(c:MC)(O O':List Nat):Bool:=O'.all (λi=>O.contains i)&&c.P.all λi=>!O.contains i||O'.contains i
section
variable{c:MC}{O O' O1:List Nat}{t u:TS}{te:TE}{tt:TT}{g:TG}{f h:aI}{fe:aJ}{fn:aT}{ft:dP}{fg:eH}
theorem StR.sub'{Z:Anc}{σ:St}{H R:Hp}{ρ:aB}(S:StR c.K Z O σ H R ρ)(hP:Z.P=c.P)(hs:c0 c O O'=true):StR c.K Z O' σ H (du O O' σ H R) ρ/\Same R (du O O' σ H R):=by
 unfold c0 at hs;simp only[Bool.and_eq_true,List.all_eq_true]at hs;refine S.freeze (λi hi=>by simpa using hs.1 i hi) λi hi hO=>?_;rw[hP]at hi;have z:=hs.2 i hi;simp only[Bool.or_eq_true]at z;rcases z with z|z
 ·simp at z;exact absurd hO z
 ·simpa using z
def aX:aI:=λρ=>some (.nx ρ)
theorem gf(hs:c0 c O O'=true):MS c O O' CZ aX:=λZ E σ H R ρ o hP S e k=>by cases e;obtain⟨S',s⟩:=S.sub' hP hs;exact k σ H _ S' s
def av(f h:aI):aI:=λρ=>match f ρ with
 |none=>none
 |some (.nx ρ1)=>h ρ1
 |some o=>some o
theorem aS(h1:MS c O O1 t f)(h2:MS c O1 O' u h):MS c O O' (kR t u) (av f h):=λZ E σ H R ρ o hP S e k=>by
 unfold av at e;cases e1:f ρ with
 |none=>rw[e1]at e;cases e
 | some o1=>
  rw[e1]at e;cases o1 with
  | nx ρ1=>
   refine h1 Z _ σ H R ρ _ hP S e1 λσ' H' R' S' s'=>?_;refine h2 Z E σ' H' R' ρ1 o hP S' e ?_;cases o with
   |nx ρ'=>exact λσ2 H2 R2 S2 s2=>k σ2 H2 R2 S2 (s'.trans s2)
   |bk ρ'=>exact λσ2 H2 R2 S2 s2=>k σ2 H2 R2 S2 (s'.trans s2)
   |ct ρ'=>exact λσ2 H2 R2 S2 s2=>k σ2 H2 R2 S2 (s'.trans s2)
   |rt d ρ'=>exact k
  |bk ρ1=>cases e;exact h1 Z _ σ H R ρ _ hP S e1 k
  |ct ρ1=>cases e;exact h1 Z _ σ H R ρ _ hP S e1 k
  |rt d ρ1=>cases e;exact h1 Z _ σ H R ρ _ hP S e1 k
def aA(i:Nat)(fe:aJ):aI:=λρ=>match fe ρ with
 |none=>none
 |some (d,ρ1)=>some (.nx (ρ1.set i (some d)))
theorem cw{i:Nat}(he:ME c.K O te fe)(hs:c0 c O O'=true:=by rfl)(hi:i∉O':=by decide):MS c O O' (fz te (gZ i)) (aA i fe):=λZ E σ H R ρ o hP S e k=>by
 unfold aA at e;cases e1:fe ρ with
 |none=>rw[e1]at e;cases e
 | some p=>
  obtain⟨d,ρ1⟩:=p;rw[e1]at e;cases e;refine he Z σ H R ρ d ρ1 _ S e1 λv H1 R1 S1 st1 r1=>?_;obtain⟨S2,s2⟩:=S1.sub' hP hs;exact k _ H1 _ (S2.set hi (r1.mono s2)) (st1.r.trans s2)
def cI(i:Nat)(fn:aT):aI:=λρ=>match fn ρ with
 |none=>none
 |some (ds,ρ1)=>if i<ρ1.length then some (.nx (ρ1.set i (some (.lst ds))))else none
def kX(c:MC)(i:Nat)(O O':List Nat):Bool:=c0 c O (O'.filter λj=>decide (j≠i))&&O'.contains i&& !c.P.contains i
theorem jO{i:Nat}(he:MN c.K O te fn)(hs:kX c i O O'=true):MS c O O' (fz te (gZ i)) (cI i fn):=λZ E σ H R ρ o hP S e k=>by
 unfold cI at e;unfold kX at hs;simp only[Bool.and_eq_true]at hs;cases e1:fn ρ with
 |none=>rw[e1]at e;cases e
 | some p=>
  obtain⟨ds,ρ1⟩:=p;rw[e1]at e;dsimp only at e;split at e
  ·rename_i za;cases e;refine he Z σ H R ρ ds ρ1 _ S e1 λl vs H1 R1 S1 st1 h0 hH hR r1=>?_;obtain⟨S2,s2⟩:=S1.sub' hP hs.1.1;have notown:∀j,j∈O->σ[j]? ≠some (some (.ref l)):=S.notnew h0;have hO':∀j,j∈O'.filter (λj=>decide (j≠i))->j∈O:=λj hj=>by
    have z:=hs.1.1;unfold c0 at z;simp only[Bool.and_eq_true,List.all_eq_true]at z;simpa using z.1 j hj
   refine k _ H1 _ (S2.take (i:=i) (l:=l) (vs:=.lst vs) (ds:=.lst ds) (by simp) (by simpa using hs.1.2) (λj hj=>?_) (by rw[hP];simpa using hs.2) za (S.new0 h0) hH ?_ (λj hj=>notown j (hO' j hj)) (λj hj=>(List.mem_filter.mp hj).1) (.lst (r1.mono s2))) (st1.r.trans s2)
   ·by_cases z:j=i
    ·exact .inl z
    ·exact .inr (List.mem_filter.mpr ⟨hj,by simpa using z⟩)
   ·unfold du;rw[if_neg ?_]
    ·exact hR
    ·rintro⟨j,hj,_,z⟩;exact notown j hj z
  ·cases e
def iI(fe:aJ)(fg:eH):aI:=λρ=>match fe ρ with
 |none=>none
 | some (d,ρ1)=>match fg d ρ1 with
  |none=>none
  |some ρ2=>some (.nx ρ2)
theorem Ds{T:List Nat}(he:ME c.K O te fe)(hs:c0 c O O'=true)(hg:MG c.K O' T g fg):MS c O O' (fz te g) (iI fe fg):=λZ E σ H R ρ o hP S e k=>by
 unfold iI at e;cases e1:fe ρ with
 |none=>rw[e1]at e;cases e
 | some p=>
  obtain⟨d,ρ1⟩:=p;rw[e1]at e;dsimp only at e;cases e2:fg d ρ1 with
  |none=>rw[e2]at e;cases e
  | some ρ2=>
   rw[e2]at e;cases e;refine he Z σ H R ρ d ρ1 _ S e1 λv H1 R1 S1 st1 r1=>?_;obtain⟨S2,s2⟩:=S1.sub' hP hs;exact hg Z σ H1 _ ρ1 v d ρ2 _ S2 (r1.mono s2) e2 λσ' S3 _=>k σ' H1 _ S3 (st1.r.trans s2)
def cR(ft:dP)(f h:aI):aI:=λρ=>match ft ρ with
 |none=>none
 |some (b,ρ1)=>if b=true then f ρ1 else h ρ1
theorem f8(ht:MT c.K O tt ft)(h1:MS c O O' t f)(h2:MS c O O' u h):MS c O O' (qy tt t u) (cR ft f h):=λZ E σ H R ρ o hP S e k=>by
 unfold cR at e;cases e1:ft ρ with
 |none=>rw[e1]at e;cases e
 | some p=>
  obtain⟨b,ρ1⟩:=p;rw[e1]at e;dsimp only at e;refine ht Z σ H R ρ b ρ1 _ S e1 λH1 R1 S1 st1=>?_;have k':E.ok c Z O' R1 o:=by
   cases o with
   |nx ρ'=>exact λσ2 H2 R2 S2 s2=>k σ2 H2 R2 S2 (st1.r.trans s2)
   |bk ρ'=>exact λσ2 H2 R2 S2 s2=>k σ2 H2 R2 S2 (st1.r.trans s2)
   |ct ρ'=>exact λσ2 H2 R2 S2 s2=>k σ2 H2 R2 S2 (st1.r.trans s2)
   |rt d ρ'=>exact k
  cases b with
  |true=>exact fU (h1 Z E σ H1 R1 ρ1 o hP S1 e k')
  |false=>exact fV (h2 Z E σ H1 R1 ρ1 o hP S1 e k')
def aE(fe:aJ):aI:=λρ=>match fe ρ with
 |none=>none
 |some (d,ρ1)=>some (.rt d ρ1)
theorem cu(hf:c.fr=false)(he:ME c.K O te fe)(hs:c0 c O c.P=true):MS c O O' (iE te) (aE fe):=λZ E σ H R ρ o hP S e k=>by
 unfold aE at e;cases e1:fe ρ with
 |none=>rw[e1]at e;cases e
 | some p=>
  obtain⟨d,ρ1⟩:=p;rw[e1]at e;cases e;refine he Z σ H R ρ d ρ1 _ S e1 λv H1 R1 S1 st1 r1=>?_;obtain⟨S2,s2⟩:=S1.sub' hP hs;refine k v σ H1 _ S2 ?_;unfold oS;rw[hf];exact r1.mono s2
def oq(fn:aT):aI:=λρ=>match fn ρ with
 |none=>none
 |some (ds,ρ1)=>some (.rt (.lst ds) ρ1)
theorem Ef(hf:c.fr=true)(he:MN c.K O te fn)(hs:c0 c O c.P=true):MS c O O' (iE te) (oq fn):=λZ E σ H R ρ o hP S e k=>by
 unfold oq at e;cases e1:fn ρ with
 |none=>rw[e1]at e;cases e
 | some p=>
  obtain⟨ds,ρ1⟩:=p;rw[e1]at e;cases e;refine he Z σ H R ρ ds ρ1 _ S e1 λl vs H1 R1 S1 st1 h0 hH hR r1=>?_;obtain⟨S2,s2⟩:=S1.sub' hP hs;refine k _ σ H1 _ S2 ?_;unfold oS;rw[hf];refine⟨l,vs,ds,rfl,rfl,S.new0 h0,hH,?_,r1.mono s2⟩;unfold du;rw[if_neg ?_]
  ·exact hR
  ·rintro⟨j,hj,_,z⟩;exact S.notnew h0 j hj z
theorem StR.drop{K:au}{Z:Anc}{σ:St}{H R:Hp}{ρ:aB}{i:Nat}(S:StR K Z O σ H R ρ)(hO:∀j,j∈O'->j∈O/\j≠i)(hc:∀j,j∈O->j≠i->j∈O'):StR K Z O' σ H R (ρ.set i none):=by
 refine⟨S.sub,by rw[x6];exact S.len,λj d hj e=>?_,λj hj=>?_,λj k hj hk=>S.dis j k (hO j hj).1 (hO k hk).1,S.ah,S.ar,S.an,S.ad,λj hj=>S.ao j (hO j hj).1,λj hj=>S.ap j (hO j hj).1⟩
 ·by_cases z:i=j
  ·subst z;have hl:i<ρ.length:=by
    have:=(List.getElem?_eq_some_iff.mp e).1
    rwa [x6]at this
   rw[jy hl]at e;cases e
  ·rw[jf z]at e;exact S.env j d (λq=>hj (hc j q (Ne.symm z))) e
 ·obtain⟨l,vs,ds,h1,h2⟩:=S.own j (hO j hj).1;exact⟨l,vs,ds,by rw[jf (Ne.symm (hO j hj).2)];exact h1,h2⟩
def kA(i:Nat):aI:=λρ=>match ρ[i]? with
 |some (some (.lst xs))=>some (.rt (.lst xs) (ρ.set i none))
 |_=>none
theorem wO{i:Nat}(hf:c.fr=true)(hi:i∈O)(hs:c0 c O (i::c.P)=true)(hp:i∉c.P):MS c O O' (iE (dJ i)) (kA i):=λZ E σ H R ρ o hP S e k=>by
 obtain⟨S2,s2⟩:=S.sub' hP hs;obtain⟨l,vs,ds,h1,h2,h3,h4,h5⟩:=S2.own i ja;unfold kA at e;rw[h1]at e;have hd:∃xs,ds=.lst xs:=by
  cases h5 with
  |lst _=>exact⟨_,rfl⟩
  |_=>cases e
 obtain⟨xs,rfl⟩:=hd;cases e;refine⟨.ref l,h2,k _ σ H _ (S2.drop (i:=i) (O':=c.P) (λj hj=>⟨j9 _ hj,λz=>hp (z▸hj)⟩) λj hj n=>?_) ?_⟩
 ·rcases List.mem_cons.mp hj with z|z
  ·exact absurd z n
  ·exact z
 ·unfold oS;rw[hf];cases h5 with
  |lst h5=>exact⟨l,_,_,rfl,rfl,S2.ao i ja (by rw[hP];exact hp) l h2,h3,h4,h5⟩
theorem ES{O O':List Nat}:MS c O O' DT (λ_=>none):=λZ E σ H R ρ o hP S e k=>by cases e
def eh(fg:eH)(fb:aI):List D->aI
 |[],ρ=>some (.nx ρ)
 | d::r,ρ=>match fg d ρ with
  |none=>none
  | some ρ1=>match fb ρ1 with
   |none=>none
   |some (.nx ρ2)=>eh fg fb r ρ2
   |some (.ct ρ2)=>eh fg fb r ρ2
   |some (.bk ρ2)=>some (.nx ρ2)
   |some (.rt d ρ2)=>some (.rt d ρ2)
def bA(fi:aT)(fg:eH)(fb:aI):aI:=λρ=>match fi ρ with
 |none=>none
 |some (ds,ρ1)=>eh fg fb ds ρ1
theorem hJ{T:List Nat}{wi:TI}{fi:aT}{tb:TS}{fb:aI}(hi:MI c.K O wi fi)(hs:c0 c O O'=true)(hg:MG c.K O' T g fg)(hb:MS {c with Ol:=O'} O' O' tb fb):MS c O O' (mX wi g tb) (bA fi fg fb):=λZ E σ H R ρ o hP S e k=>by
 unfold bA at e;cases e1:fi ρ with
 |none=>rw[e1]at e;cases e
 | some p=>
  obtain⟨ds,ρ1⟩:=p;rw[e1]at e;dsimp only at e;refine hi Z σ H R ρ ds ρ1 _ S e1 λJ H1 R1 S1 st1 ok=>?_;obtain⟨S2,s2⟩:=S1.sub' hP hs;have ok2:=ok.mono s2;refine⟨λi m σ' H'=>m=ds.length-i/\i<=ds.length/\∃R' ρ',StR c.K Z O' σ' H' R' ρ'/\Same (du O O' σ H1 R1) R'/\eh fg fb (ds.drop i) ρ'=some o,⟨ds.length,by simp,Nat.zero_le _,_,ρ1,S2,Same.refl _,by rw[List.drop_zero];exact e⟩,?_⟩;rintro i m σ' H' ⟨rfl,hi',R',ρ',S',s',e'⟩;obtain⟨o1,o2⟩:=ok2 H' R' s' S'.sub i;by_cases hlt:i<ds.length
  ·obtain⟨g1,g2⟩:=o2 ds[i] (j8 hlt);rw[k9 hlt]at e';refine .inr ⟨g1,λσ3 H3=>∃R3 ρ3,StR c.K Z O' σ3 H3 R3 ρ3/\Same (du O O' σ H1 R1) R3/\eh fg fb (ds.drop (i+1)) ρ3=some o,?_,λx H3 y=>?_⟩
   ·rintro σ3 H3 ⟨R3,ρ3,q1,q2,q3⟩;exact⟨ds.length-(i+1),by omega,rfl,hlt,R3,ρ3,q1,q2,q3⟩
   ·obtain⟨R3,x3,r3⟩:=g2 x H3 y;have S3:=S'.ext x3;unfold eh at e';cases e3:fg ds[i] ρ' with
    |none=>rw[e3]at e';cases e'
    | some ρ4=>
     rw[e3]at e';dsimp only at e';refine hg Z σ' H3 R3 ρ' x _ ρ4 _ S3 r3 e3 λσ4 S4 _=>?_;cases e4:fb ρ4 with
     |none=>rw[e4]at e';cases e'
     | some o4=>
           rw[e4]at e';refine hb Z _ σ4 H3 R3 ρ4 o4 hP S4 e4 ?_;cases o4 with
           |nx ρ5=>exact λσ5 H5 R5 S5 s5=>⟨R5,ρ5,S5,(s'.trans x3.r).trans s5,e'⟩
           |ct ρ5=>exact λσ5 H5 R5 S5 s5=>⟨R5,ρ5,S5,(s'.trans x3.r).trans s5,e'⟩
           | bk ρ5=>
            cases e';exact λσ5 H5 R5 S5 s5=>k σ5 H5 R5 S5 (((st1.r.trans s2).trans s').trans (x3.r.trans s5))
           | rt d ρ5=>
            cases e';exact k
  ·have ei:i=ds.length:=by omega
   subst ei;rw[List.drop_length]at e';unfold eh at e';cases e';exact .inl ⟨o1 rfl,k σ' H' R' S' ((st1.r.trans s2).trans s')⟩
def ia(ft:dP)(fb:aI):Nat->aI
 |0,_=>none
 | n+1,ρ=>match ft ρ with
  |none=>none
  |some (false,ρ1)=>some (.nx ρ1)
  | some (true,ρ1)=>match fb ρ1 with
   |none=>none
   |some (.nx ρ2)=>ia ft fb n ρ2
   |some (.ct ρ2)=>ia ft fb n ρ2
   |some (.bk ρ2)=>some (.nx ρ2)
   |some (.rt d ρ2)=>some (.rt d ρ2)
theorem ET{n:Nat}{tb:TS}{fb:aI}(ht:MT c.K O' tt ft)(hs:c0 c O O'=true)(hb:MS {c with Ol:=O'} O' O' tb fb):MS c O O' (DW tt tb) (ia ft fb n):=λZ E σ H R ρ o hP S e k=>by
 obtain⟨S2,s2⟩:=S.sub' hP hs;refine⟨λm σ' H'=>∃R' ρ',StR c.K Z O' σ' H' R' ρ'/\Same (du O O' σ H R) R'/\ia ft fb m ρ'=some o,⟨n,_,ρ,S2,Same.refl _,e⟩,?_⟩;rintro m σ' H' ⟨R',ρ',S',s',e'⟩;cases m with
 |zero=>cases e'
 | succ m=>
  unfold ia at e';cases e1:ft ρ' with
  |none=>rw[e1]at e';cases e'
  | some p=>
   obtain⟨b,ρ1⟩:=p;rw[e1]at e';refine ht Z σ' H' R' ρ' b ρ1 _ S' e1 λH1 R1 S1 st1=>?_;cases b with
   | false=>
    dsimp only at e';cases e';exact fV (k σ' H1 R1 S1 ((s2.trans s').trans st1.r))
   | true=>
    dsimp only at e';refine fU ⟨λσ3 H3=>∃R3 ρ3,StR c.K Z O' σ3 H3 R3 ρ3/\Same (du O O' σ H R) R3/\ia ft fb m ρ3=some o,λσ3 H3 q=>⟨m,Nat.lt_succ_self _,q⟩,?_⟩;cases e4:fb ρ1 with
    |none=>rw[e4]at e';cases e'
    | some o4=>
     rw[e4]at e';refine hb Z _ σ' H1 R1 ρ1 o4 hP S1 e4 ?_;cases o4 with
     |nx ρ5=>exact λσ5 H5 R5 S5 s5=>⟨R5,ρ5,S5,(s'.trans st1.r).trans s5,e'⟩
     |ct ρ5=>exact λσ5 H5 R5 S5 s5=>⟨R5,ρ5,S5,(s'.trans st1.r).trans s5,e'⟩
     | bk ρ5=>
           cases e';exact λσ5 H5 R5 S5 s5=>k σ5 H5 R5 S5 ((s2.trans s').trans (st1.r.trans s5))
     | rt d ρ5=>
           cases e';exact k
end
section
variable{c:MC}{O O':List Nat}{te ti:TE}{fe fi:aJ}{tr:TA}{fs:aT}
def isL(ρ:aB)(i:Nat):Bool:=match ρ[i]? with
 |some (some (.lst _))=>true
 |_=>false
theorem Dm{K:au}{R:Hp}{ρ:aB}{i:Nat}{o:HO}{d:D}(h:isL ρ i=true)(e:ρ[i]? =some (some d))(b:Ob K R o d):∃vs ds,o=.lst vs/\d=.lst ds/\Rps K R vs ds:=by
 unfold isL at h;rw[e]at h;cases b with
 |lst r=>exact⟨_,_,rfl,rfl,r⟩
 |_=>cases h
def dU(g:List D->List D->Option (List D))(i:Nat)(fs:aT):aI:=λρ=>if isL ρ i=true then(match fs ρ with
 |none=>none
 | some (as,ρ1)=>match ρ1[i]? with
  | some (some (.lst xs))=>match g xs as with
   |some ys=>some (.nx (ρ1.set i (some (.lst ys))))
   |none=>none
  |_=>none)else none
def Ca(K:au)(r:V->List V->Hp->VK->Prop)(g:List D->List D->Option (List D)):Prop:=∀(H R:Hp) (l:Addr) (xs:List V) (ds:List D) (vs:List V) (as bs:List D) (Q:VK),(∀a o,R a=some o->H a=some o)->H l=some (.lst xs)->R l=none->Rps K R xs ds->Rps K R vs as->g ds as=some bs->(∀ys,Rps K R ys bs->Q .non (aP H l (.lst ys)))->r (.ref l) vs H Q
theorem oy{r:V->List V->Hp->VK->Prop}{g:List D->List D->Option (List D)}{i:Nat}(hm:Ca c.K r g)(hi:i∈O)(ha:MA c.K O tr fs)(hs:c0 c O O'=true):MS c O O' (pE (rV c.K "list" r (dJ i) tr)) (dU g i fs):=λZ E σ H R ρ o hP S e k=>by
 unfold dU at e;split at e
 case isFalse=>cases e
 rename_i hL;cases e1:fs ρ with
 |none=>rw[e1]at e;cases e
 | some p=>
  obtain⟨as,ρ1⟩:=p;rw[e1]at e;dsimp only at e;obtain⟨l,vs,ds,h1,h2,h3,h4,h5⟩:=S.own i hi;obtain⟨us,_,rfl,rfl,_⟩:=Dm hL h1 h5;refine⟨.ref l,h2,.inl ⟨rfl,us,SqL.of h3⟩,ha Z σ H R ρ as ρ1 _ S e1 λws H1 R1 S1 st1 r1=>?_⟩;obtain⟨l',vs',ds',g1,g2,g3,g4,g5⟩:=S1.own i hi;rw[h2]at g2;cases g2;rw[g1]at e;cases g5 with
  |dct _=>cases e
  |dit _=>cases e
  |lst g5=>
  rename_i vs' ds';dsimp only at e;cases e2:g ds' as with
  |none=>rw[e2]at e;cases e
  | some ys=>
   rw[e2]at e;cases e;refine hm H1 R1 l vs' ds' ws as ys _ S1.sub g3 g4 g5 r1 e2 λzs rz=>?_;obtain⟨S2,s2⟩:=(S1.write hi h2 (.lst rz)).sub' hP hs;exact k σ _ _ S2 (st1.r.trans s2)
def i0:List D->List D->Option (List D):=λxs as=>match as with
 |[d]=>if xs.length<sizeLine then some (xs++[d])else none
 |_=>none
theorem oK{K:au}:Ca K wZ i0:=λH R l xs ds vs as bs Q s h hr r ra e k=>by
 cases ra with
 |nil=>cases e
 | cons q t=>
  cases t with
  |cons _ _=>cases e
  | nil=>
   rename_i x d;have e':(if ds.length<sizeLine then some (ds++[d])else none)=some bs:=e;split at e'
   ·rename_i hz;cases e';exact⟨l,xs,x,rfl,rfl,h,by rw[r.length];exact hz,k _ (r.snoc q)⟩
   ·cases e'
def qvf:List D->List D->Option (List D):=λxs as=>match as with
 |[.int 0,d]=>if xs.length<sizeLine then some (d::xs)else none
 |_=>none
def pp(i:Nat)(fe fi:aJ):aI:=λρ=>match fe ρ with
 |none=>none
 | some (d,ρ1)=>match fi ρ1 with
  | some (.int k,ρ2)=>match ρ2[i]? with
   | some (some (.lst xs))=>match fK xs.length k with
    |some j=>some (.nx (ρ2.set i (some (.lst (xs.set j d)))))
    |none=>none
   |_=>none
  |_=>none
theorem qoc{i:Nat}(hi:i∈O)(he:ME c.K O te fe)(hx:ME c.K O ti fi)(hs:c0 c O O'=true):MS c O O' (fz te (ny (dJ i) ti CO)) (pp i fe fi):=λZ E σ H R ρ o hP S e k=>by
 unfold pp at e;cases e1:fe ρ with
 |none=>rw[e1]at e;cases e
 | some p=>
  obtain⟨d,ρ1⟩:=p;rw[e1]at e;dsimp only at e;cases e2:fi ρ1 with
  |none=>rw[e2]at e;cases e
  | some p=>
   obtain⟨x,ρ2⟩:=p;rw[e2]at e;refine he Z σ H R ρ d ρ1 _ S e1 λv H1 R1 S1 st1 r1=>?_;obtain⟨l,vs,ds,h1,h2,h3,h4,h5⟩:=S1.own i hi;refine⟨.ref l,h2,hx Z σ H1 R1 ρ1 x ρ2 _ S1 e2 λw H2 R2 S2 st2 r2=>?_⟩;obtain⟨l',vs',ds',g1,g2,g3,g4,g5⟩:=S2.own i hi;rw[h2]at g2;cases g2;cases r2 with
   | int j=>
    dsimp only at e;rw[g1]at e;cases g5 with
    |dct _=>cases e
    |dit _=>cases e
    |lst g5=>
    rename_i vs' ds';dsimp only at e;cases e3:fK ds'.length j with
    |none=>rw[e3]at e;cases e
    | some m=>
     rw[e3]at e;cases e;refine⟨l,vs',j,m,rfl,rfl,g3,by rw[g5.length];exact e3,?_⟩;obtain⟨S3,s3⟩:=(S2.write hi h2 (.lst (g5.set (r1.mono st2.r) m))).sub' hP hs;exact k σ _ _ S3 ((st1.r.trans st2.r).trans s3)
   |_=>cases e
end
def aM(fr:Bool)(n N:Nat)(f:aI)(ds:List D):Option D:=if ds.length=n then match f (ds.map some++List.replicate (N-n) none)with
 |some (.rt d _)=>some d
 |some (.nx _)=>if fr=true then none else some .non
 |_=>none
 else none
def cq(K:au)(fr:Bool)(n:Nat)(f:List D->Option D):Sp:=λvs H Q _=>vs.length=n/\∃R ds d,(∀a o,R a=some o->H a=some o)/\Rps K R vs ds/\f ds=some d/\∀v H' R',Ext H R H' R'->oS K fr H v d H' R'->Q v H'
theorem t0{N:List Str}{vs:List V}{i:Nat}{v:V}(h:vs[i]? =some v):(aZ N vs)[i]? =some (some v):=by unfold aZ;have hi:i<vs.length:=(List.getElem?_eq_some_iff.mp h).1;rw[xv (by simpa using hi),jd,h];rfl
theorem tZ{ds:List D}{m i:Nat}{d:D}(h:(ds.map some++List.replicate m none)[i]? =some (some d)):ds[i]? =some d:=by
 by_cases hi:i<ds.length
 ·rw[xv (by simpa using hi),jd]at h;cases q:ds[i]? with
  |none=>rw[q]at h;cases h
  |some e=>rw[q]at h;cases h;rfl
 ·rw[xo (by simpa using hi),xr]at h;split at h<;>cases h
theorem Gu{K:au}{fr:Bool}{n:Nat}{Nms:List Str}{O':List Nat}{t:TS}{f:aI}{vs:List V}{H:Hp}{Q:VK}{E:XK}(hm:MS ⟨K,fr,[],[]⟩ [] O' t f)(h:cq K fr n (aM fr n Nms.length f) vs H Q E):t {nx:=λ_ H'=>Q .non H',rt:=Q} (aZ Nms vs) H:=by
 obtain⟨hn,R,ds,d,sub,r,e,k⟩:=h;unfold aM at e;split at e
 ·rename_i hl;have S:StR K ⟨H,R,λ_=>False,[]⟩ [] (aZ Nms vs) H R (ds.map some++List.replicate (Nms.length-n) none):=by
   refine⟨sub,?_,λi d _ q=>?_,λi hi=>absurd hi (by simp),λi j hi=>absurd hi (by simp),λa o q _=>q,Same.refl _,λa q=>.inl q,λa q=>.refl q,λi hi=>absurd hi (by simp),λi hi=>absurd hi (by simp)⟩
   ·unfold aZ;rw[je,je,j3,j3,ji,ji,hn,hl]
   ·obtain⟨v,h1,h2⟩:=r.get (tZ q);exact⟨v,t0 h1,h2⟩
  have ext:∀{O1:List Nat} {σ':St} {H' R':Hp} {ρ':aB},StR K ⟨H,R,λ_=>False,[]⟩ O1 σ' H' R' ρ'->Ext H R H' R':=λS'=>⟨λa o q=>S'.ah a o q (λz=>z),S'.ar,S'.sub,S'.an⟩;cases e1:f (ds.map some++List.replicate (Nms.length-n) none)with
  |none=>rw[e1]at e;cases e
  | some o=>
   rw[e1]at e;refine hm _ _ _ _ _ _ o rfl S e1 ?_;cases o with
   | nx ρ'=>
    dsimp only at e;split at e
    ·cases e
    ·rename_i hf;cases e;refine λσ' H' R' S' _=>k .non H' R' (ext S') ?_;cases fr with
     |false=>exact .non
     |true=>exact absurd rfl hf
   |bk ρ'=>cases e
   |ct ρ'=>cases e
   | rt d' ρ'=>
    cases e;exact λv σ' H' R' S' q=>k v H' R' (ext S') q
 ·cases e
def gv(fr:Bool)(n N:Nat)(f:aI)(xs ds:List D):Option (D×List D):=if ds.length+1=n then match f (some (.lst xs)::(ds.map some++List.replicate (N-n) none))with
 | some (.rt d ρ)=>(match (ρ[0]? :Option (Option D))with
  |some (some (D.lst ys))=>some (d,ys)
  |_=>none)
 | some (.nx ρ)=>if fr=true then none else(match (ρ[0]? :Option (Option D))with
  |some (some (D.lst ys))=>some (.non,ys)
  |_=>none)
 |_=>none
 else none
structure ExtS(l:Addr)(H R H' R':Hp):Prop where
 h:∀a o,a≠l->H a=some o->H' a=some o
 r:Same R R'
 s:∀a o,R' a=some o->H' a=some o
 n:∀a,R' a≠none->R a≠none∨Frh H a
 d:∀a,H a≠none->Liv H H' a
def mf(K:au)(fr:Bool)(n:Nat)(f:List D->List D->Option (D×List D)):Sp:=λvs H Q _=>vs.length=n/\∃l ws R us xs ds d ys,vs=.ref l::ws/\H l=some (.lst us)/\R l=none/\(∀a o,R a=some o->H a=some o)/\Rps K R us xs/\Rps K R ws ds/\f xs ds=some (d,ys)/\
 ∀v H' R' us',ExtS l H R H' R'->H' l=some (.lst us')->R' l=none->Rps K R' us' ys->oS K fr H v d H' R'->Q v H'
theorem E7{K:au}{fr:Bool}{n:Nat}{Nms:List Str}{O':List Nat}{t:TS}{f:aI}{vs:List V}{H:Hp}{Q:VK}{E:XK}(hm:MS ⟨K,fr,[0],[]⟩ [0] [0] t f)(h:mf K fr n (gv fr n Nms.length f) vs H Q E):t {nx:=λ_ H'=>Q .non H',rt:=Q} (aZ Nms vs) H:=by
 obtain⟨hn,l,ws,R,us,xs,ds,d,ys,rfl,hH,hR,sub,ru,r,e,k⟩:=h;unfold gv at e;split at e
 ·rename_i hl;have ln:ws.length+1=n:=by simpa using hn
  have S:StR K ⟨H,R,λa=>a=l,[0]⟩ [0] (aZ Nms (.ref l::ws)) H R (some (.lst xs)::(ds.map some++List.replicate (Nms.length-n) none)):=by
   have one:∀i,i∈[0]->i=0:=λi hi=>by simpa using hi
   refine⟨sub,?_,λi d hi q=>?_,λi hi=>?_,λi j hi hj z=>absurd ((one i hi).trans (one j hj).symm) z,λa o q _=>q,Same.refl _,λa q=>.inl q,λa q=>.refl q,λi hi z=>absurd hi z,λi hi _ a q=>?_⟩
   ·unfold aZ;simp only[List.map_cons,List.cons_append,List.length_cons,List.length_append,List.length_map,List.length_replicate];omega
   ·cases i with
    |zero=>exact absurd (by simp) hi
    | succ i=>
     rw[List.getElem?_cons_succ]at q;obtain⟨v,h1,h2⟩:=r.get (tZ q);exact⟨v,t0 (by rw[List.getElem?_cons_succ];exact h1),h2⟩
   ·cases one i hi;exact⟨l,.lst us,.lst xs,rfl,rfl,hH,hR,.lst ru⟩
   ·cases one i hi;have q':some (some (V.ref l))=some (some (V.ref a)):=q;cases q';rfl
  have ext:∀{σ':St} {H' R':Hp} {ρ':aB},StR K ⟨H,R,λa=>a=l,[0]⟩ [0] σ' H' R' ρ'->ExtS l H R H' R'/\∃us' zs,ρ'[0]? =some (some zs)/\H' l=some us'/\R' l=none/\Ob K R' us' zs:=λ{σ' H' R' ρ'} S'=>by refine⟨⟨λa o n q=>S'.ah a o q n,S'.ar,S'.sub,S'.an,S'.ad⟩,?_⟩;obtain⟨l',us',zs,h1,h2,h3,h4,h5⟩:=S'.own 0 (by simp);have el:l'=l:=S'.ap 0 (by simp) (by simp) l' h2;subst el;exact⟨us',zs,h1,h3,h4,h5⟩
  cases e1:f (some (.lst xs)::(ds.map some++List.replicate (Nms.length-n) none))with
  |none=>rw[e1]at e;cases e
  | some o=>
   rw[e1]at e;refine hm _ _ _ _ _ _ o rfl S e1 ?_;cases o with
   | nx ρ'=>
    dsimp only at e;split at e
    ·cases e
    ·rename_i hf;refine λσ' H' R' S' _=>?_;obtain⟨x,us',zs,q1,q2,q3,q4⟩:=ext S';rw[q1]at e;cases q4 with
     |dct _=>cases e
     |dit _=>cases e
     |lst q4=>
     cases e;refine k .non H' R' _ x q2 q3 q4 ?_;cases fr with
     |false=>exact .non
     |true=>exact absurd rfl hf
   |bk ρ'=>cases e
   |ct ρ'=>cases e
   | rt d' ρ'=>
    dsimp only at e;refine λv σ' H' R' S' q=>?_;obtain⟨x,us',zs,q1,q2,q3,q4⟩:=ext S';rw[q1]at e;cases q4 with
    |dct _=>cases e
    |dit _=>cases e
    |lst q4=>
    cases e;exact k v H' R' _ x q2 q3 q4 q
 ·cases e
section
variable{K:au}{O:List Nat}{tr:TA}{fs:aT}{E:XK}{n:Nat}
def a9(f:List D->Option D)(fs:aT):aJ:=bV fs λds=>dz (f ds)
def bY(n:Nat)(f:List D->Option D):Prop:=∀ds d,f ds=some d->ds.length=n
theorem cZ{fr:Bool}{n N:Nat}{f:aI}:bY n (aM fr n N f):=λds d e=>by
 unfold aM at e;split at e
 ·assumption
 ·cases e
theorem ca{f:List D->Option D}(hf:bY n f)(h:MA K O tr fs):ME K O (mh (cq K false n f) [] E tr) (a9 f fs):=λZ σ H R ρ d ρ' Q S e k=>by obtain⟨ds,ρ1,e1,e⟩:=bS e;obtain⟨e2,rfl⟩:=dk e;refine h Z σ H R ρ ds _ _ S e1 λvs H1 R1 S1 st1 r1=>?_;show cq K false n f (vs++[]) H1 Q E;rw[List.append_nil];exact⟨by rw[r1.length];exact hf ds d e2,R1,ds,d,S1.sub,r1,e2,λv H2 R2 x q=>k v H2 R2 (S1.ext x) (st1.trans x.stp) q⟩
def pb(o:Option D):Option (List D):=match o with
 |some (.lst ds)=>some ds
 |_=>none
def gO(f:List D->Option D)(fs:aT):aT:=bV fs λds=>dz (pb (f ds))
theorem qex{o:Option D}{ds:List D}(h:pb o=some ds):o=some (.lst ds):=by
 unfold pb at h;split at h
 ·cases h;rfl
 ·(first|obtain rfl:=h.isA rfl|cases h)
theorem hW{f:List D->Option D}(hf:bY n f)(h:MA K O tr fs):MN K O (mh (cq K true n f) [] E tr) (gO f fs):=λZ σ H R ρ d ρ' Q S e k=>by obtain⟨ds,ρ1,e1,e⟩:=bS e;obtain⟨e2,rfl⟩:=dk e;have e3:=qex e2;refine h Z σ H R ρ ds _ _ S e1 λvs H1 R1 S1 st1 r1=>?_;show cq K true n f (vs++[]) H1 Q E;rw[List.append_nil];refine⟨by rw[r1.length];exact hf ds _ e3,R1,ds,_,S1.sub,r1,e3,λv H2 R2 x q=>?_⟩;obtain⟨l,us,gs,rfl,e4,h0,hH,hR,r⟩:=q;cases e4;exact k l us H2 R2 (S1.ext x) (st1.trans x.stp) (st1.new h0) hH hR r
def gE(f:List D->List D->Option (D×List D))(i:Nat)(fs:aT):aJ:=bV fs λds ρ=>match ρ[i]? with
 | some (some (.lst xs))=>match f xs ds with
  |some (d,ys)=>some (d,ρ.set i (some (.lst ys)))
  |none=>none
 |_=>none
def pk(n:Nat)(f:List D->List D->Option (D×List D)):Prop:=∀xs ds r,f xs ds=some r->ds.length+1=n
theorem DN{fr:Bool}{n N:Nat}{f:aI}:pk n (gv fr n N f):=λxs ds r e=>by
 unfold gv at e;split at e
 ·assumption
 ·cases e
theorem kH{f:List D->List D->Option (D×List D)}{i:Nat}(hf:pk n f)(hi:i∈O)(h:MA K O tr fs):ME K O (mh (mf K false n f) [] E (jL (dJ i) tr)) (gE f i fs):=λZ σ H R ρ d ρ' Q S e k=>by
 obtain⟨ds,ρ1,e1,e⟩:=bS e;obtain⟨l,vs0,ds0,h1,h2,h3,h4,h5⟩:=S.own i hi;refine⟨.ref l,h2,h Z σ H R ρ ds ρ1 _ S e1 λvs H1 R1 S1 st1 r1=>?_⟩;obtain⟨l',us,xs,g1,g2,g3,g4,g5⟩:=S1.own i hi;rw[h2]at g2;cases g2;rw[g1]at e;cases g5 with
 |dct _=>cases e
 |dit _=>cases e
 |lst g5=>
 rename_i us xs;dsimp only at e;cases e2:f xs ds with
 |none=>rw[e2]at e;cases e
 | some p=>
  obtain⟨d',ys⟩:=p;rw[e2]at e;cases e;show mf K false n f (.ref l::vs++[]) H1 Q E;rw[List.append_nil];refine⟨by rw[jl,r1.length];exact hf _ _ _ e2,l,vs,R1,us,xs,ds,d,ys,rfl,g3,g4,S1.sub,g5,r1,e2,λv H2 R2 us' x hH hR ru q=>?_⟩;have za:i<ρ1.length:=(List.getElem?_eq_some_iff.mp g1).1;have st2:Stp O σ H1 R1 H2 R2:=⟨x.r,λa o e n=>x.h a o (λz=>by subst z;exact n i hi h2) e,x.n,x.d⟩;have other:∀j,j∈O->i≠j->∀m,σ[j]? =some (some (.ref m))->m≠l:=λj hj n m e z=>by subst z;exact S1.dis i j hi hj n m h2 e
  refine k v H2 R2 ⟨x.s,by rw[x6];exact S1.len,λj e hj q=>?_,λj hj=>?_,S1.dis,λa o e n=>?_,S1.ar.trans x.r,λa h=>?_,λa h=>(S1.ad a h).trans (x.d a (S1.ad a h).1),S1.ao,S1.ap⟩ (st1.trans st2) q
  ·have n:i≠j:=λz=>hj (z▸hi);rw[jf n]at q;obtain⟨w,q1,q2⟩:=S1.env j e hj q;exact⟨w,q1,q2.mono x.r⟩
  ·by_cases n:i=j
   ·subst n;exact⟨l,.lst us',.lst ys,by rw[jy za],h2,hH,hR,.lst ru⟩
   ·obtain⟨m,vs',ds',q1,q2,q3,q4,q5⟩:=S1.own j hj;refine⟨m,vs',ds',by rw[jf n];exact q1,q2,x.h _ _ (other j hj n m q2) q3,?_,q5.mono x.r⟩;cases z:R2 m with
    |none=>rfl
    | some o=>
     rcases x.n m (by rw[z];exact λy=>nomatch y)with y|y
     ·exact absurd q4 y
     ·exact(q5.noF q3 y).elim
  ·have ne:a≠l:=λz=>by
    subst z;by_cases hp:i∈Z.P
    ·exact n (S1.ap i hi hp a h2)
    ·rw[S1.ao i hi hp a h2]at e;cases e
   exact x.h a o ne (S1.ah a o e n)
  ·rcases x.n a h with z|z
   ·exact S1.an a z
   ·exact .inr (z.back (S1.ad a))
end
def CI(K:au):R2:=λx y H Q=>∃l b xs zs,x=.ref l/\y=.ref b/\SqL K H l xs/\SqL K H b zs/\xs.length+zs.length<=sizeLine/\∀p,H p=none->Q (.ref p) (aP H p (.lst (xs++zs)))
def CJ(K:au):R2:=λx y H Q=>∃a b xs ys,x=.ref a/\y=.ref b/\SqT K H a xs/\SqT K H b ys/\xs.length+ys.length<=sizeLine/\
 (xs=[]->Q (.ref b) H)/\(xs≠[]->ys=[]->Q (.ref a) H)/\(xs≠[]->ys≠[]->∀p,H p=none->Q (.ref p) (aP H p (.tup (xs++ys))))
section
variable{X:Cx}{K:au}
theorem qo0(hK:X.K=K):OpR X (binaryOp .Add) (CI K):=by
 subst hK;intro z5 s σ H x y v u Q I rx ry h;obtain⟨l,b,xs,zs,rfl,rfl,hH,hB,hz,q⟩:=h
 (first|obtain rfl:=rx.isA rfl|cases rx)
 (first|obtain rfl:=ry.isA rfl|cases ry)
 obtain⟨its,r,pl,z⟩:=I.list hH;obtain⟨its2,r2,pl2,z2⟩:=I.list hB;obtain⟨⟨cls,dd,data,sl⟩,ho,hc,n,hd⟩:=pl.isList;obtain⟨⟨cls2,dd2,data2,sl2⟩,ho2,hc2,n2,hd2⟩:=pl2.isList;simp only at hc hd hc2 hd2;subst hc hd hc2 hd2;have e:its.toArray++its2.toArray=(its++its2).toArray:=by simp
 refine concat_meets ⟨_,ho,rfl⟩ ⟨_,ho2,rfl⟩ noFill_list_add seq_list_add PySem.F.slot_list_add PySem.F.entry_list_add (PySem.F.args_list_add_2 _ _) (list_addW l b its.toArray its2.toArray n n2 dd dd2 sl sl2 (by rw[jt,jt,<-r.length,<-r2.length];exact hz)) ⟨ho,ho2,?_⟩;rw[e];exact⟨.ref _,_,I.lnew (t':=s.toks) (r.append r2) (by rw[je];omega),rfl,q _ I.fresh⟩
theorem qnz(hK:X.K=K):OpR X (binaryOp .Add) (CJ K):=by
 subst hK;intro z5 s σ H x y v u Q I rx ry h;obtain⟨a,b,xs,ys,rfl,rfl,ha,hb,hz,q0,q1,q2⟩:=h
 (first|obtain rfl:=rx.isA rfl|cases rx)
 (first|obtain rfl:=ry.isA rfl|cases ry)
 obtain⟨its,r1,p1,_⟩:=I.tuple ha;obtain⟨its2,r2,p2,_⟩:=I.tuple hb;obtain⟨⟨cls,dd,data,sl⟩,ho,hc,n,hd⟩:=id p1;obtain⟨⟨cls2,dd2,data2,sl2⟩,ho2,hc2,n2,hd2⟩:=id p2;simp only at hc hd hc2 hd2;subst hc hd hc2 hd2;have e:its.toArray++its2.toArray=(its++its2).toArray:=by simp
 by_cases hv:its=[]
 ·exact concat_meets ⟨_,ho,rfl⟩ ⟨_,ho2,rfl⟩ noFill_tuple_add seq_tuple_add PySem.F.slot_tuple_add PySem.F.entry_tuple_add (PySem.F.args_tuple_add_2 _ _)
   (tuple_addW0 a b its.toArray its2.toArray n n2 dd dd2 sl sl2 (by simp[hv])) ⟨ho,ho2,⟨.ref b,H,I,rfl,q0 (r1.nil_iff.mp hv)⟩⟩
 ·have hx:xs≠[]:=λz=>hv (r1.nil_iff.mpr z);by_cases hw:its2=[]
  ·exact concat_meets ⟨_,ho,rfl⟩ ⟨_,ho2,rfl⟩ noFill_tuple_add seq_tuple_add PySem.F.slot_tuple_add PySem.F.entry_tuple_add (PySem.F.args_tuple_add_2 _ _)
    (tuple_addW1 a b its.toArray its2.toArray n n2 dd dd2 sl sl2 (by simpa using hv) (by simp[hw])) ⟨ho,ho2,⟨.ref a,H,I,rfl,q1 hx (r2.nil_iff.mp hw)⟩⟩
  ·refine concat_meets ⟨_,ho,rfl⟩ ⟨_,ho2,rfl⟩ noFill_tuple_add seq_tuple_add PySem.F.slot_tuple_add PySem.F.entry_tuple_add (PySem.F.args_tuple_add_2 _ _)
    (tuple_addW2 a b its.toArray its2.toArray n n2 dd dd2 sl sl2 (by simpa using hv) (by simpa using hw) (by rw[List.size_toArray,List.size_toArray,<-r1.length,<-r2.length];exact hz)) ⟨ho,ho2,?_⟩
   rw[e];refine⟨.ref s.heap.objs.size,_,I.laid (t':=s.toks) (o:=.tup (xs++ys)) (λb ob q=>j6 _ q) (j7 _) ?_,rfl,q2 hx (λw=>hw (r2.nil_iff.mpr w)) _ (I.hok.fresh (j7 _))⟩;exact⟨by rw[je];exact hz,_,r1.append r2,TupN.new _ _⟩
def vk(K:au):R2:=λx y H Q=>ip (λi j=>.int (i+j)) x y H Q∨CI K x y H Q∨CJ K x y H Q∨∃i j,x=.str i/\y=.str j/\i.length+j.length<=sizeLine/\Q (.str (i++j)) H
theorem fH(hK:X.K=K):OpR X (binaryOp .Add) (vk K):=op_add.or ((qo0 hK).or ((qnz hK).or qeo))
end
section
variable{K:au}{O:List Nat}
def cD:D->D->Option D
 |.int i,.int j=>some (.int (i+j))
 |.lst xs,.lst ys=>if xs.length+ys.length<=sizeLine then some (.lst (xs++ys))else none
 |.tup xs,.tup ys=>if xs.length+ys.length<=sizeLine then some (.tup (xs++ys))else none
 |.str x,.str y=>if x.length+y.length<=sizeLine then some (.str (x++y))else none
 |_,_=>none
theorem fN:ii K (vk K) cD:=λH R x y d e u Q s rx ry q k=>by
 unfold cD at q;split at q
 ·rename_i i j
  (first|obtain rfl:=q.isA rfl|cases q)
  (first|obtain rfl:=rx.isA rfl|cases rx)
  (first|obtain rfl:=ry.isA rfl|cases ry)
  exact .inl ⟨i,j,rfl,rfl,k _ H R (Ext.refl s) (.int _)⟩
 ·split at q
  ·rename_i hz
   (first|obtain rfl:=q.isA rfl|cases q)
   obtain⟨a1,xs,rfl,h,r⟩:=rx.isL;obtain⟨a2,ys,rfl,h2,r2⟩:=ry.isL;refine .inr (.inl ⟨_,_,_,_,rfl,rfl,Same.sqL s h,Same.sqL s h2,by rw[r.length,r2.length];exact hz,λp np=>?_⟩);have x:=Ext.new (o:=.lst (xs++ys)) s np;exact k _ _ _ x (.lst (SqL.of cM) ((r.append r2).mono x.r))
  ·(first|obtain rfl:=q.isA rfl|cases q)
 ·split at q
  ·rename_i hz
   (first|obtain rfl:=q.isA rfl|cases q)
   obtain⟨a1,xs,rfl,h,r⟩:=rx.isT;obtain⟨a2,ys,rfl,h2,r2⟩:=ry.isT;refine .inr (.inr (.inl ⟨_,_,_,_,rfl,rfl,SqT.of (s _ _ h),SqT.of (s _ _ h2),by rw[r.length,r2.length];exact hz,λz=>?_,λ_ z=>?_,λ_ _ p np=>?_⟩))
   ·subst z
    (first|obtain rfl:=r.isA rfl|cases r)
    exact k _ H R (Ext.refl s) (.tup h2 r2)
   ·subst z
    (first|obtain rfl:=r2.isA rfl|cases r2)
    rw[List.append_nil]at k;exact k _ H R (Ext.refl s) (.tup h r)
   ·have x:=Ext.new (o:=.tup (xs++ys)) s np;exact k _ _ _ x (.tup cM ((r.append r2).mono x.r))
  ·(first|obtain rfl:=q.isA rfl|cases q)
 ·rename_i i j;split at q
  ·rename_i hz
   (first|obtain rfl:=q.isA rfl|cases q)
   (first|obtain rfl:=rx.isA rfl|cases rx)
   (first|obtain rfl:=ry.isA rfl|cases ry)
   exact .inr (.inr (.inr ⟨i,j,rfl,rfl,hz,k _ H R (Ext.refl s) (.str _)⟩))
  ·(first|obtain rfl:=q.isA rfl|cases q)
 ·(first|obtain rfl:=q.isA rfl|cases q)
def GC(K:au)(r:R2)(g:D->D->Option (List D)):Prop:=∀(H R:Hp) (x y:V) (d e:D) (us:List D) (Q:VK),(∀a o,R a=some o->H a=some o)->Rp K R x d->Rp K R y e->g d e=some us->(∀l vs,H l=none->Rps K R vs us->Q (.ref l) (aP H l (.lst vs)))->r x y H Q
def pG(g:D->D->Option (List D))(fa fb:aJ):aT:=bV fa λx=>bV fb λy=>dz (g x y)
theorem qwu{ta tb:TE}{r:R2}{g:D->D->Option (List D)}{fa fb:aJ}(h:GC K r g)(ha:ME K O ta fa)(hb:ME K O tb fb):MN K O (jJ r ta tb) (pG g fa fb):=λZ σ H R ρ d ρ' Q S e k=>by obtain⟨x,ρ1,e1,e⟩:=bS e;obtain⟨y,ρ2,e2,e⟩:=bS e;obtain⟨e3,rfl⟩:=dk e;refine ha Z σ H R ρ x ρ1 _ S e1 λv H1 R1 S1 st1 r1=>hb Z σ H1 R1 ρ1 y _ _ S1 e2 λw H2 R2 S2 st2 r2=>?_;refine h H2 R2 v w x y d Q S2.sub (r1.mono st2.r) r2 e3 λl vs hl rv=>?_;have x:=Ext.hid (o:=.lst vs) S2.sub hl;exact k l vs _ _ (S2.ext x) ((st1.trans st2).trans x.stp) ((st1.trans st2).new hl) cM (S2.out hl) rv
def pF:D->D->Option (List D)
 |.lst xs,.lst ys=>if xs.length+ys.length<=sizeLine then some (xs++ys)else none
 |_,_=>none
theorem qsa:GC K (vk K) pF:=λH R x y d e u Q s rx ry q k=>by
 unfold pF at q;split at q
 ·split at q
  ·rename_i hz
   (first|obtain rfl:=q.isA rfl|cases q)
   obtain⟨_,_,rfl,h,r⟩:=rx.isL;obtain⟨_,_,rfl,h2,r2⟩:=ry.isL;exact .inr (.inl ⟨_,_,_,_,rfl,rfl,Same.sqL s h,Same.sqL s h2,by rw[r.length,r2.length];exact hz,λp np=>k p _ np (r.append r2)⟩)
  ·(first|obtain rfl:=q.isA rfl|cases q)
 ·(first|obtain rfl:=q.isA rfl|cases q)
end
mutual
def D.toP:D->Option PyData
 |.non=>some .none
 |.bl b=>some (.bool b)
 |.int i=>some (.int i)
 |.str x=>some (.str x)
 |.lst xs=>(D.toPs xs).map PyData.list
 |.tup xs=>(D.toPs xs).map PyData.tuple
 |.obj _ _=>none
 |.dct _=>none
 |.exc _=>none
 |.fn _=>none
 |.tab _ _ _=>none
 |.dit _=>none
def D.toPs:List D->Option (List PyData)
 |[]=>some []
 | d::r=>match D.toP d,D.toPs r with
  |some p,some ps=>some (p::ps)
  |_,_=>none
end
section
variable{K:au}{O:List Nat}{R:Hp}
theorem qux(p:PyData)(e:D.toP .non=some p):DV K R .non p:=by simp only[D.toP]at e;cases e;exact .non
theorem qx6(b:Bool)(p:PyData)(e:D.toP (.bl b)=some p):DV K R (.bl b) p:=by simp only[D.toP]at e;cases e;exact .bl b
theorem quz(b:Int)(p:PyData)(e:D.toP (.int b)=some p):DV K R (.int b) p:=by simp only[D.toP]at e;cases e;exact .int b
theorem quw(b:Str)(p:PyData)(e:D.toP (.str b)=some p):DV K R (.str b) p:=by simp only[D.toP]at e;cases e;exact .str b
theorem quy{a:Addr}{xs:List V}{ds:List D}{p:PyData}(h:SqL K R a xs)(r:∀ps,D.toPs ds=some ps->DVs K R xs ps)(e:D.toP (.lst ds)=some p):DV K R (.ref a) p:=by
 simp only[D.toP]at e;cases z:D.toPs ds with
 |none=>rw[z]at e;cases e
 |some ps=>rw[z]at e;cases e;exact .lst h (r _ z)
theorem quv{a:Addr}{xs:List V}{ds:List D}{p:PyData}(h:R a=some (.tup xs))(r:∀ps,D.toPs ds=some ps->DVs K R xs ps)(e:D.toP (.tup ds)=some p):DV K R (.ref a) p:=by
 simp only[D.toP]at e;cases z:D.toPs ds with
 |none=>rw[z]at e;cases e
 |some ps=>rw[z]at e;cases e;exact .tup (SqT.of h) (r _ z)
theorem qpn(ps:List PyData)(e:D.toPs []=some ps):DVs K R [] ps:=by simp only[D.toPs]at e;cases e;exact .nil
theorem ql4{x:V}{xs:List V}{d:D}{ds:List D}{ps:List PyData}(h:∀p,d.toP=some p->DV K R x p)(r:∀ps,D.toPs ds=some ps->DVs K R xs ps)(e:D.toPs (d::ds)=some ps):DVs K R (x::xs) ps:=by
 simp only[D.toPs]at e;cases z:d.toP with
 |none=>rw[z]at e;cases e
 | some p=>
  cases w:D.toPs ds with
  |none=>rw[z,w]at e;cases e
  |some qs=>rw[z,w]at e;cases e;exact .cons (h _ z) (r _ w)
theorem Rp.dv{v:V}{d:D}{p:PyData}(h:Rp K R v d)(e:d.toP=some p):DV K R v p:=
 Rp.rec (motive_1:=λv d _=>∀p,d.toP=some p->DV K R v p) (motive_2:=λxs ds _=>∀ps,D.toPs ds=some ps->DVs K R xs ps) (motive_3:=λ_ _ _=>True) (motive_4:=λ_ _ _=>True) (motive_5:=λ_ _ _=>True)
  qux qx6 quz quw (λh _ r _=>quy h r) (λh _ r _=>quv h r) (λ_ _ _ _ _ e=>by simp only[D.toP]at e;cases e) (λ_ _ _ _ e=>by simp only[D.toP]at e;cases e) (λ_ _ _ _ e=>by simp only[D.toP]at e;cases e) (λ_ _ _ _ e=>by simp only[D.toP]at e;cases e) (λ_ _ e=>by simp only[D.toP]at e;cases e) (λ_ _ e=>by simp only[D.toP]at e;cases e)
  qpn (λ_ _ h r _=>ql4 h r) trivial (λ_ _ _ _=>trivial) trivial (λ_ _ _ _=>trivial) trivial (λ_ _ _ _=>trivial) h _ e
def cB(d e:D):Option Bool:=match d.toP,e.toP with
 |some p,some q=>if SeqAt.shaped p=true/\SeqAt.shaped q=true then some (PyData.eqv p q)else none
 |_,_=>none
def fj(d e:D):Option D:=(cB d e).map .bl
def kO(d e:D):Option D:=(cB d e).map λb=>.bl (!b)
theorem EE{d e:D}{b:Bool}(h:cB d e=some b):∃p q,d.toP=some p/\e.toP=some q/\SeqAt.shaped p=true/\SeqAt.shaped q=true/\PyData.eqv p q=b:=by
 unfold cB at h;cases h1:d.toP with
 |none=>rw[h1]at h;cases h
 | some p=>
  cases h2:e.toP with
  |none=>rw[h1,h2]at h;cases h
  | some q=>
   rw[h1,h2]at h;dsimp only at h;split at h
   ·rename_i z;exact⟨p,q,rfl,rfl,z.1,z.2,jb h⟩
   ·(first|obtain rfl:=h.isA rfl|cases h)
theorem bP:OpS K (qQ K) fj:=λH x y d e u Q rx ry q k=>by
 unfold fj at q;cases h:cB d e with
 |none=>rw[h]at q;cases q
 | some b=>
  rw[h]at q
  (first|obtain rfl:=q.isA rfl|cases q)
  obtain⟨p,r,h1,h2,h3,h4,h5⟩:=EE h;refine⟨p,r,rx.dv h1,ry.dv h2,h3,h4,?_⟩;rw[h5];exact k _ (.bl _)
theorem pj:OpS K (qJ K) kO:=λH x y d e u Q rx ry q k=>by
 unfold kO at q;cases h:cB d e with
 |none=>rw[h]at q;cases q
 | some b=>
  rw[h]at q
  (first|obtain rfl:=q.isA rfl|cases q)
  obtain⟨p,r,h1,h2,h3,h4,h5⟩:=EE h;refine⟨p,r,rx.dv h1,ry.dv h2,h3,h4,?_⟩;rw[h5];exact k _ (.bl _)
def iP(d e:D):Option D:=match e with
 |.non=>some (.bl (match d with|.non=>true|_=>false))
 |_=>none
def iW(d e:D):Option D:=match e with
 |.non=>some (.bl (match d with|.non=>false|_=>true))
 |_=>none
theorem vY:OpS K (λx y H Q=>y=.non/\Q (.bl (decide (x=.non))) H) iP:=λH x y d e u Q rx ry q k=>by
 (first|split at q|(unfold iP at q;split at q))
 ·obtain rfl:=ry.isA rfl;refine⟨rfl,?_⟩;cases rx<;>(cases q;exact k _ (.bl _))
 ·cases q
theorem wU:OpS K (λx y H Q=>y=.non/\Q (.bl (!decide (x=.non))) H) iW:=λH x y d e u Q rx ry q k=>by
 (first|split at q|(unfold iW at q;split at q))
 ·obtain rfl:=ry.isA rfl;refine⟨rfl,?_⟩;cases rx<;>(cases q;exact k _ (.bl _))
 ·cases q
end
section
variable{K:au}{O:List Nat}{t ta tb tc:TE}{tr:TA}{fa fb fc:aJ}{fs:aT}
def B8(K:au)(r:List V->Hp->VK->Prop)(g:D->Option D):Prop:=∀(H R:Hp) (x:V) (d u:D) (Q:VK),(∀a o,R a=some o->H a=some o)->Rp K R x d->g d=some u->(∀v H' R',Ext H R H' R'->Rp K R' v u->Q v H')->r [x] H Q
theorem qc{r:List V->Hp->VK->Prop}{g:D->Option D}(h:B8 K r g)(ha:ME K O t fa):ME K O (md r (jL t gr)) (aH g fa):=λZ σ H R ρ d ρ' Q S e k=>by obtain⟨x,ρ1,e1,e⟩:=bS e;obtain⟨e2,rfl⟩:=dk e;refine ha Z σ H R ρ x _ _ S e1 λv H1 R1 S1 st1 r1=>?_;exact h H1 R1 v x d Q S1.sub r1 e2 λw H2 R2 x2 r2=>k w H2 R2 (S1.ext x2) (st1.trans x2.stp) r2
def B9(K:au)(r:List V->Hp->VK->Prop)(g:D->Option (List D)):Prop:=∀(H R:Hp) (x:V) (d:D) (us:List D) (Q:VK),(∀a o,R a=some o->H a=some o)->Rp K R x d->g d=some us->(∀l vs,H l=none->Rps K R vs us->Q (.ref l) (aP H l (.lst vs)))->r [x] H Q
def i7(g:D->Option (List D))(f:aJ):aT:=bV f λx=>dz (g x)
theorem ER{r:List V->Hp->VK->Prop}{g:D->Option (List D)}(h:B9 K r g)(ha:ME K O t fa):MN K O (md r (jL t gr)) (i7 g fa):=λZ σ H R ρ d ρ' Q S e k=>by obtain⟨x,ρ1,e1,e⟩:=bS e;obtain⟨e2,rfl⟩:=dk e;refine ha Z σ H R ρ x _ _ S e1 λv H1 R1 S1 st1 r1=>?_;refine h H1 R1 v x d Q S1.sub r1 e2 λl vs hl rv=>?_;have y:=Ext.hid (o:=.lst vs) S1.sub hl;exact k l vs _ _ (S1.ext y) (st1.trans y.stp) (st1.new hl) cM (S1.out hl) rv
def d5:D->Option (List D)
 |.lst xs=>some xs
 |.tup xs=>some xs
 |_=>none
theorem D4:B9 K (λxs H Q=>∃p ys,xs=[.ref p]/\(SqL K H p ys∨SqT K H p ys)/\∀l,H l=none->Q (.ref l) (aP H l (.lst ys))) d5:=λH R x d us Q s r e k=>by
 (first|split at e|(unfold d5 at e;split at e))
 ·obtain⟨_,_,rfl,h,q⟩:=r.isL;cases e;exact⟨_,_,rfl,.inl (Same.sqL s h),λl hl=>k l _ hl q⟩
 ·obtain⟨_,_,rfl,h,q⟩:=r.isT;cases e;exact⟨_,_,rfl,.inr (SqT.of (s _ _ h)),λl hl=>k l _ hl q⟩
 ·cases e
def lS:D->Option D
 |.lst xs=>some (.tup xs)
 |.tup xs=>some (.tup xs)
 |_=>none
theorem p7:B8 K (λxs H Q=>∃p ys,xs=[.ref p]/\((SqL K H p ys/\∀l,H l=none->Q (.ref l) (aP H l (.tup ys)))∨(SqT K H p ys/\Q (.ref p) H))) lS:=λH R x d u Q s r e k=>by
 cases r with
 | lst h q=>
  cases e;refine⟨_,_,rfl,.inl ⟨Same.sqL s h,λl hl=>?_⟩⟩;rename_i a xs ds;have y:=Ext.new (o:=.tup xs) s hl;exact k _ _ _ y (.tup cM (q.mono y.r))
 |tup h q=>cases e;exact⟨_,_,rfl,.inr ⟨SqT.of (s _ _ h),k _ H R (Ext.refl s) (.tup h q)⟩⟩
 |_=>cases e
def MO(K:au)(O:List Nat)(t:TO)(f:aB->Option (Option Int×aB)):Prop:=∀(Z:Anc) (σ:St) (H R:Hp) (ρ:aB) (o:Option Int) (ρ':aB) (Q:Option Int->Hp->Prop),StR K Z O σ H R ρ->f ρ=some (o,ρ')->(∀H' R',StR K Z O σ H' R' ρ'->Stp O σ H R H' R'->Q o H')->t σ H Q
theorem wM:MO K O xB (ae none):=λZ σ H R ρ o ρ' Q S e k=>by cases e;exact k H R S (Stp.refl _ _ _ _)
def oA(f:aJ):aB->Option (Option Int×aB):=bV f λd=>dz (match d with
 |.int i=>some (some i)
 |_=>none)
theorem wN(h:ME K O t fa):MO K O (vo t) (oA fa):=λZ σ H R ρ o ρ' Q S e k=>by
 obtain⟨x,ρ1,e1,e⟩:=bS e;obtain⟨e2,rfl⟩:=dk e;refine h Z σ H R ρ x _ _ S e1 λv H1 R1 S1 st1 r1=>?_
 (first|split at e2)
 ·rename_i i;obtain rfl:=r1.isA rfl;cases e2;exact⟨i,rfl,k H1 R1 S1 st1⟩
 ·cases e2
def e7(xs:List D)(lo hi:Option Int):List D:=(xs.drop (HT.sIx xs.length 0 lo)).take (HT.sIx xs.length xs.length hi-HT.sIx xs.length 0 lo)
theorem Rps.cut{R:Hp}{xs:List V}{ds:List D}(r:Rps K R xs ds)(lo hi:Option Int):Rps K R (eZ xs lo hi) (e7 ds lo hi):=by unfold eZ e7;rw[r.length];exact(r.drop _).take _
def ni(K:au):V->Option Int->Option Int->Hp->VK->Prop:=λx lo hi H Q=>qH K x lo hi H Q∨qG K x lo hi H Q
theorem tJ{X:Cx}(h:X.K=K):SlR X (ni K):=by subst h;exact sl_list.or qqx
def lZ(d:D)(lo hi:Option Int):Option D:=match d with
 |.lst xs=>some (.lst (e7 xs lo hi))
 |.tup xs=>if HT.sIx xs.length 0 lo=0/\HT.sIx xs.length xs.length hi=xs.length then none else some (.tup (e7 xs lo hi))
 |_=>none
def oP(f:aJ)(fl fh:aB->Option (Option Int×aB)):aJ:=bV f λd=>bV fl λlo=>bV fh λhi=>dz (lZ d lo hi)
theorem xO{tl th:TO}{fl fh:aB->Option (Option Int×aB)}(h:ME K O t fa)(hl:MO K O tl fl)(hh:MO K O th fh):ME K O (uY (ni K) t tl th) (oP fa fl fh):=λZ σ H R ρ d ρ' Q S e k=>by
 obtain⟨x,ρ1,e1,e⟩:=bS e;obtain⟨lo,ρ2,e2,e⟩:=bS e;obtain⟨hi,ρ3,e3,e⟩:=bS e;obtain⟨e4,rfl⟩:=dk e;refine h Z σ H R ρ x _ _ S e1 λv H1 R1 S1 st1 r1=>hl Z σ H1 R1 ρ1 lo _ _ S1 e2 λH2 R2 S2 st2=>hh Z σ H2 R2 ρ2 hi _ _ S2 e3 λH3 R3 S3 st3=>?_;have r3:=(r1.mono st2.r).mono st3.r;have st:=(st1.trans st2).trans st3;cases r3 with
 | @lst a xs ds q r=>
  cases e4;refine .inl ⟨a,xs,rfl,Same.sqL S3.same q,λp np=>?_⟩;have y:=Ext.new (o:=.lst (eZ xs lo hi)) S3.sub np;exact k _ _ _ (S3.ext y) (st.trans y.stp) (.lst (SqL.of cM) ((r.cut lo hi).mono y.r))
 | @tup a xs ds q r=>
  have e5:(if HT.sIx ds.length 0 lo=0/\HT.sIx ds.length ds.length hi=ds.length then none else some (D.tup (e7 ds lo hi)))=some d:=e4;split at e5
  ·cases e5
  ·rename_i hn;cases e5;refine .inr ⟨a,xs,rfl,SqT.of (S3.same _ _ q),by rw[r.length];exact hn,λp np=>?_⟩;have y:=Ext.new (o:=.tup (eZ xs lo hi)) S3.sub np;exact k _ _ _ (S3.ext y) (st.trans y.stp) (.tup cM ((r.cut lo hi).mono y.r))
 |_=>cases e4
def tK(g g':D->D->Option D)(fa fb fc:aJ):aJ:=bV fa λx=>bV fb λy=>bV (bz (dz (g x y))) λb=>if b=true then bV fc λz=>dz (g' y z)else ae (.bl false)
theorem qka{r r':R2}{g g':D->D->Option D}(h:OpS K r g)(h':OpS K r' g')(ha:ME K O ta fa)(hb:ME K O tb fb)(hc:ME K O tc fc):ME K O (DQ r r' ta tb tc) (tK g g' fa fb fc):=λZ σ H R ρ d ρ' Q S e k=>by
 obtain⟨x,ρ1,e1,e⟩:=bS e;obtain⟨y,ρ2,e2,e⟩:=bS e;obtain⟨b,ρ3,e3,e⟩:=bS e;obtain⟨u,ρ4,f3,e4⟩:=bS e3;obtain⟨g3,rfl⟩:=dk f3;obtain⟨g4,rfl⟩:=dk e4;refine ha Z σ H R ρ x _ _ S e1 λv H1 R1 S1 st1 r1=>hb Z σ H1 R1 ρ1 y _ _ S1 e2 λw H2 R2 S2 st2 r2=>?_;refine h H2 v w x y u _ ((r1.mono st2.r).mono S2.same) (r2.mono S2.same) g3 λz q=>?_;cases q with
 | bl c=>
  cases g4;refine⟨_,rfl,?_⟩;cases b with
  | true=>
   obtain⟨z,ρ5,e5,f⟩:=bS e;obtain⟨e6,rfl⟩:=dk f;refine fU (hc Z σ H2 R2 _ z _ _ S2 e5 λw' H3 R3 S3 st3 r3=>?_);exact h' H3 w w' y z d Q ((r2.mono st3.r).mono S3.same) (r3.mono S3.same) e6 λv' q'=>k v' H3 R3 S3 ((st1.trans st2).trans st3) q'.rp
  |false=>cases e;exact fV (k _ H2 R2 S2 (st1.trans st2) (.bl false))
 |_=>cases g4
theorem i6{g:Int->Int->Bool}:OpS K (ip λi j=>.bl (g i j)) (oR g):=λH x y d e u Q rx ry q k=>by
 unfold oR at q;split at q
 ·rename_i i j
  (first|obtain rfl:=q.isA rfl|cases q)
  (first|obtain rfl:=rx.isA rfl|cases rx)
  (first|obtain rfl:=ry.isA rfl|cases ry)
  exact⟨i,j,rfl,rfl,k _ (.bl _)⟩
 ·(first|obtain rfl:=q.isA rfl|cases q)
def qww(f:aT):aJ:=bV f λds=>dz (match ds with
 |[.int i,.int j]=>if 0<j/\j<1073741824 then some (.tup [.int (i / j),.int (i % j)])else none
 |_=>none)
def jY(g:Int->Int->Int)(f:aT):aJ:=bV f λds=>dz (match ds with
 |[.int i,.int j]=>some (.int (g i j))
 |_=>none)
theorem va{g:Int->Int->Int}(h:MA K O tr fs):ME K O (md (λxs H Q=>∃i j,xs=[.int i,.int j]/\Q (.int (g i j)) H) tr) (jY g fs):=λZ σ H R ρ d ρ' Q S e k=>by
 obtain⟨xs,ρ1,e1,e⟩:=bS e;obtain⟨e2,rfl⟩:=dk e;refine h Z σ H R ρ xs _ _ S e1 λvs H1 R1 S1 st1 r1=>?_;split at e2
 ·rename_i i j;cases e2;obtain⟨_,_,rfl,q,r⟩:=r1.isC
  (first|obtain rfl:=q.isA rfl|cases q)
  cases r with
  | cons q r=>
   (first|obtain rfl:=q.isA rfl|cases q)
   (first|obtain rfl:=r.isA rfl|cases r)
   exact⟨i,j,rfl,k _ H1 R1 S1 st1 (.int _)⟩
 ·cases e2
def Ch(K:au)(ta:TA):TI:=λσ H R=>(iN K true true ta σ H R∨iN K true false ta σ H R)∨(iN K false true ta σ H R∨iN K false false ta σ H R)
theorem tz{X:Cx}{a b:Expr}{ta:TA}{p pos:Pos}{zk:List Expr}{x1:Nat}{tp:Pos}(hK:X.K=K)(hg:Gl X "zip")(hm:X.mg "zip"=none)(ha:PA X [a,b] ta)(he:starEach [a,b] X.env=(false,eval a X.env)::starEach [b] X.env:=by rfl)(hpl:(backTo pos (starEach [b] X.env)).any (·.1)=false:=by rfl):
 PI X (.Tuple zk x1 tp) (.Call (.Name "zip" p) [a,b] [] pos) (Ch K ta):=λz5 s σ H R I q=>by
 rcases q with(q|q)|(q|q)
 ·exact sT true true hK hg hm ha he hpl z5 s σ H R I q
 ·exact sT true false hK hg hm ha he hpl z5 s σ H R I q
 ·exact sT false true hK hg hm ha he hpl z5 s σ H R I q
 ·exact sT false false hK hg hm ha he hpl z5 s σ H R I q
def dn(xs ys:List D):List D:=List.zipWith (λx y=>D.tup [x,y]) xs ys
def gw(f:aT):aT:=bV f λds=>dz (match ds with
 | [x,y]=>match d5 x,d5 y with
  |some xs,some ys=>some (dn xs ys)
  |_,_=>none
 |_=>none)
theorem SqB.inj_same{K:au}{b:Bool}{R H:Hp}{p:Addr}{xs:List V}(s:Same R H)(h:SqB K b R p xs):SqB K b H p xs:=by
 cases b
 ·exact Same.tup s h
 ·exact Same.sqL s h
theorem qu6{R:Hp}{b1 b2:Bool}{p1 p2:Addr}{xs ys:List V}{ds es:List D}(h1:SqB K b1 R p1 xs)(h2:SqB K b2 R p2 ys)(r1:Rps K R xs ds)(r2:Rps K R ys es):ItOk K (yF K b1 b2 p1 p2) R (dn ds es):=λH' R' s b i=>by
 have q1:=(SqB.inj_same s h1);have q2:=(SqB.inj_same s h2);have g1:=(SqB.inj_same b q1);have g2:=(SqB.inj_same b q2);have len:(dn ds es).length=min ds.length es.length:=by simp[dn]
 have l1:=r1.length;have l2:=r2.length;refine⟨λe=>⟨xs,ys,g1,g2,by omega⟩,λd e=>?_⟩;unfold dn at e;rw[List.getElem?_zipWith]at e;cases e1:ds[i]? with
 |none=>rw[e1]at e;cases e
 | some d1=>
  cases e2:es[i]? with
  |none=>rw[e1,e2]at e;cases e
  | some d2=>
   rw[e1,e2]at e;cases e;obtain⟨v1,a1,a2⟩:=r1.get e1;obtain⟨v2,c1,c2⟩:=r2.get e2;refine⟨⟨xs,ys,v1,v2,g1,g2,a1,c1⟩,λx H'' y=>?_⟩;obtain⟨T,x1,y1,rfl,hT,rfl,z1,z2⟩:=y;have w1:=z1 xs g1;have w2:=z2 ys g2;rw[a1]at w1;rw[c1]at w2;cases w1;cases w2;have y:=Ext.new (o:=.tup [v1,v2]) b hT;exact⟨_,y,.tup cM (.cons ((a2.mono s).mono y.r) (.cons ((c2.mono s).mono y.r) .nil))⟩
theorem Fo{x:D}{ds:List D}(h:d5 x=some ds):x=.lst ds∨x=.tup ds:=by
 unfold d5 at h;split at h
 ·cases h;exact .inl rfl
 ·cases h;exact .inr rfl
 ·(first|obtain rfl:=h.isA rfl|cases h)
theorem sO(h:MA K O tr fs):MI K O (Ch K tr) (gw fs):=λZ σ H R ρ ds ρ' Q S e k=>by
 obtain⟨xs,ρ1,e1,e⟩:=bS e;obtain⟨e2,rfl⟩:=dk e;have go:∀(b1 b2:Bool) (x y:D) (as bs:List D),xs=[x,y]->ds=dn as bs->(∀(R1:Hp) (v:V),Rp K R1 v x->∃p vs,v=.ref p/\SqB K b1 R1 p vs/\Rps K R1 vs as)->(∀(R1:Hp) (v:V),Rp K R1 v y->∃p vs,v=.ref p/\SqB K b2 R1 p vs/\Rps K R1 vs bs)->iN K b1 b2 tr σ H Q:=λb1 b2 x y as bs hx hd g1 g2=>by
  subst hx hd;refine h Z σ H R ρ _ _ _ S e1 λvs H1 R1 S1 st1 r1=>?_;obtain⟨_,_,rfl,q,r⟩:=r1.isC;obtain⟨_,_,rfl,q',r⟩:=r.isC
  (first|obtain rfl:=r.isA rfl|cases r)
  obtain⟨p1,us,rfl,s1,t1⟩:=g1 _ _ q;obtain⟨p2,ws,rfl,s2,t2⟩:=g2 _ _ q';exact⟨p1,p2,rfl,⟨us,SqB.inj_same S1.same s1⟩,⟨ws,SqB.inj_same S1.same s2⟩,k _ H1 R1 S1 st1 (qu6 s1 s2 t1 t2)⟩
 have gl:∀(as:List D) (R1:Hp) (v:V),Rp K R1 v (.lst as)->∃p vs,v=.ref p/\SqB K true R1 p vs/\Rps K R1 vs as:=λas R1 v r=>by obtain⟨_,_,rfl,h,q⟩:=r.isL;exact⟨_,_,rfl,h,q⟩
 have gt:∀(as:List D) (R1:Hp) (v:V),Rp K R1 v (.tup as)->∃p vs,v=.ref p/\SqB K false R1 p vs/\Rps K R1 vs as:=λas R1 v r=>by obtain⟨_,_,rfl,h,q⟩:=r.isT;exact⟨_,_,rfl,SqT.of h,q⟩
 split at e2
 ·rename_i x y;split at e2
  ·rename_i as bs h1 h2;cases e2;rcases Fo h1 with rfl|rfl<;>rcases Fo h2 with rfl|rfl
   ·exact .inl (.inl (go true true _ _ as bs rfl rfl (gl as) (gl bs)))
   ·exact .inl (.inr (go true false _ _ as bs rfl rfl (gl as) (gt bs)))
   ·exact .inr (.inl (go false true _ _ as bs rfl rfl (gt as) (gl bs)))
   ·exact .inr (.inr (go false false _ _ as bs rfl rfl (gt as) (gt bs)))
  ·cases e2
 ·cases e2
end
inductive TyO(K:au)(H:Hp):V->Value->Prop where
 |of {x:V} {t:Value} (h:TyOf K H x t):TyO K H x t
 |sl {a:Addr} {xs:List V} (h:SqL K H a xs):TyO K H (.ref a) (.type "list")
 |st {a:Addr} {xs:List V} (h:SqT K H a xs):TyO K H (.ref a) (.type "tuple")
def qP(K:au):List V->Hp->VK->Prop:=λxs H Q=>∃x y t c b,xs=[x,y]/\rg y=some c/\TyO K H x t/\PySem.W.kitOne K t c=some b/\Q (.bl b) H
section
variable{X:Cx}{K:au}{O:List Nat}{t:TE}{fa:aJ}
theorem tN(hK:X.K=K):gB X (.builtin "isinstance") (qP K):=by
 subst hK;intro z5 s σ H xs us Q I r h;obtain⟨x,y,t,c,b,rfl,hc,ty,e,q⟩:=h;cases ty with
 |of h=>exact qla rfl z5 s σ H [x,y] us Q I r ⟨x,y,t,c,b,rfl,hc,h,e,q⟩
 | sl h=>
  obtain⟨u,w,rfl,ru,rw'⟩:=fM r
  (first|obtain rfl:=ru.isA rfl|cases ru)
  have ew:w=c:=by
   cases y with
   |ref a=>exact(show w=Value.ref a from rw').trans (jb hc)
   |ty n=>exact(show w=Value.type n from rw').trans (jb hc)
   |_=>cases hc
  subst ew;obtain⟨its,rv,pl,_⟩:=I.list h;obtain⟨o,e1,c1,_⟩:=pl.isList;exact PySem.W.kia_one PySem.W.kitx_list I.kIn ⟨o,e1,c1⟩ e (λz=>nomatch z) λtk=>⟨.bl b,H,I.tok tk,rfl,q⟩
 | st h=>
  obtain⟨u,w,rfl,ru,rw'⟩:=fM r
  (first|obtain rfl:=ru.isA rfl|cases ru)
  have ew:w=c:=by
   cases y with
   |ref a=>exact(show w=Value.ref a from rw').trans (jb hc)
   |ty n=>exact(show w=Value.type n from rw').trans (jb hc)
   |_=>cases hc
  subst ew;obtain⟨its,rv,pl,_⟩:=I.tuple h;obtain⟨o,e1,c1,_⟩:=pl;exact PySem.W.kia_one PySem.W.kitx_tuple I.kIn ⟨o,e1,c1⟩ e (λz=>nomatch z) λtk=>⟨.bl b,H,I.tok tk,rfl,q⟩
def rR:D->Option String
 |.non=>some "NoneType"
 |.bl _=>some "bool"
 |.int _=>some "int"
 |.str _=>some "str"
 |.lst _=>some "list"
 |.tup _=>some "tuple"
 |.dct _=>some "dict"
 |.exc _=>none
 |.fn _=>none
 |.tab _ _ _=>none
 |.dit _=>some "dict"
 |.obj _ _=>none
theorem qqg{H:Hp}{v:V}{d:D}{n:String}(r:Rp K H v d)(e:rR d=some n):TyO K H v (.type n):=by
 cases r with
 |non=>cases e;exact .of .non
 |bl b=>cases e;exact .of (.bl b)
 |int i=>cases e;exact .of (.int i)
 |str x=>cases e;exact .of (.str x)
 |lst h _=>cases e;exact .sl h
 |tup h _=>cases e;exact .st (SqT.of h)
 |dct h _=>cases e;exact .of (.dK h)
 |dit h _=>cases e;exact .of (.dT h)
 |obj _ _=>cases e
 |exc _ _ _=>cases e
 |fn _=>cases e
 |tab _=>cases e
def fA(K:au)(Y:String)(f:String->Option Bool):Prop:=∀s b,f s=some b->PySem.W.kitOne K (.type s) (.type Y)=some b
def gG(Y:String):String->Option Bool:=λs=>
 if s="NoneType" then some (decide (Y="NoneType"))else if s="bool" then some (decide (Y="bool")||decide (Y="int"))else if s="int" then some (decide (Y="int"))else if s="str" then some (decide (Y="str"))
 else if s="list" then some (decide (Y="list"))else if s="tuple" then some (decide (Y="tuple"))else if s="dict" then some (decide (Y="dict"))else none
theorem q9e{Y:String}(h1:PySem.W.kitOne K (.type "NoneType") (.type Y)=some (decide (Y="NoneType")))(h2:PySem.W.kitOne K (.type "bool") (.type Y)=some (decide (Y="bool")||decide (Y="int")))(h3:PySem.W.kitOne K (.type "int") (.type Y)=some (decide (Y="int")))
 (h4:PySem.W.kitOne K (.type "str") (.type Y)=some (decide (Y="str"))) (h5:PySem.W.kitOne K (.type "list") (.type Y)=some (decide (Y="list"))) (h6:PySem.W.kitOne K (.type "tuple") (.type Y)=some (decide (Y="tuple"))) (h7:PySem.W.kitOne K (.type "dict") (.type Y)=some (decide (Y="dict"))):fA K Y (gG Y):=λs b e=>by
 unfold gG at e;split at e
 ·rename_i z;subst z;rw[<-e];exact h1
 split at e
 ·rename_i z;subst z;rw[<-e];exact h2
 split at e
 ·rename_i z;subst z;rw[<-e];exact h3
 split at e
 ·rename_i z;subst z;rw[<-e];exact h4
 split at e
 ·rename_i z;subst z;rw[<-e];exact h5
 split at e
 ·rename_i z;subst z;rw[<-e];exact h6
 split at e
 ·rename_i z;subst z;rw[<-e];exact h7
 ·cases e
def gW(f:String->Option Bool)(d:D):Option D:=match rR d with
 |some s=>(f s).map .bl
 |none=>none
theorem sN{Y:String}{f:String->Option Bool}(hk:fA K Y f)(ha:MB K O t fa):ME K O (md (qP K) (jL t (jL (tC (.ty Y)) gr))) (aH (gW f) fa):=λZ σ H R ρ d ρ' Q S e k=>by
 obtain⟨x,ρ1,e1,e⟩:=bS e;obtain⟨e2,rfl⟩:=dk e;refine ha Z σ H R ρ x _ _ S e1 λv H1 R1 S1 st1 r1=>?_;unfold gW at e2;cases e3:rR x with
 |none=>rw[e3]at e2;cases e2
 | some s=>
  rw[e3]at e2;dsimp only at e2;cases e4:f s with
  |none=>rw[e4]at e2;cases e2
  | some b=>
   rw[e4]at e2;cases e2;exact⟨v,.ty Y,.type s,.type Y,b,rfl,rfl,qqg r1 e3,hk s b e4,k _ H1 R1 S1 st1 (.bl b)⟩
end
def bh(f:aT):aJ:=bV f λds=>ae (D.lst ds)
section
variable{K:au}{O O1 O':List Nat}{t:TE}{c:MC}{u:TS}{f:aI}{fn:aT}
theorem cX(h:MN K O t fn):ME K O t (bh fn):=h.me
theorem p0(h:MS c O O1 u f)(hs:c0 c O1 O'=true):MS c O O' u f:=λZ E σ H R ρ o hP S e k=>by
 refine h Z E σ H R ρ o hP S e ?_;cases o with
 | nx ρ'=>
  intro σ' H' R' S' s';obtain⟨S2,s2⟩:=S'.sub' hP hs;exact k σ' H' _ S2 (s'.trans s2)
 |bk ρ'=>exact k
 |ct ρ'=>exact k
 |rt d ρ'=>exact k
theorem kF{k n:Nat}{js:List Nat}{wi:TI}{g:TG}{tt:TT}{te:TE}(he:MN c.K O (sj n js wi g tt te) fn)(hs:c0 c O O'=true)(hi:k∉O'):MS c O O' (vm k n js wi g tt te) (aA k (bh fn)):=
 show MS c O O' (fz (sj n js wi g tt te) (gZ k)) (aA k (bh fn))from cw (cX he) hs hi
def mv(fe:aJ):aI:=λρ=>match fe ρ with
 |none=>none
 |some (_,ρ1)=>some (.nx ρ1)
theorem Ee{fe:aJ}(he:ME c.K O t fe)(hs:c0 c O O'=true):MS c O O' (pE t) (mv fe):=λZ E σ H R ρ o hP S e k=>by
 unfold mv at e;cases e1:fe ρ with
 |none=>rw[e1]at e;cases e
 | some p=>
  obtain⟨d,ρ1⟩:=p;rw[e1]at e;cases e;refine he Z σ H R ρ d ρ1 _ S e1 λv H1 R1 S1 st1 r1=>?_;obtain⟨S2,s2⟩:=S1.sub' hP hs;exact k σ H1 _ S2 (st1.r.trans s2)
end
def vg(i j:Int):Bool:=(decide (-(2^64)<i)&&decide (i<2^64))||(decide (-(2^64)<j)&&decide (j<2^64))
def vf(_ j:Int):Bool:=decide (0<j)&&decide (j<1073741824)
def Cu(_ j:Int):Bool:=decide (0<j)
def mo(i j:Int):Bool:=decide (0<=j)&&decide (j<=1000000)&&decide (i.natAbs<2^64)
abbrev lC:D->D->Option D:=kP vf λi j=>i / j
abbrev dG:D->D->Option D:=kP Cu λi j=>i % j
abbrev re:D->D->Option D:=kP mo λi j=>i^j.toNat
abbrev cg:D->D->Option D:=kP mo λi j=>i*2^j.toNat
abbrev nB:D->D->Option D:=qk λi j=>Builtin.bitAnd i j
abbrev gU:D->D->Option D:=qk λi j=>Builtin.bitXor i j
abbrev oQ:D->D->Option D:=oR λi j=>decide (i<j)
abbrev Gy:D->D->Option D:=oR λi j=>decide (i<=j)
abbrev ql:D->D->Option D:=oR λi j=>decide (j<i)
section
variable{K:au}
theorem vS:ii K (rI rj λi j=>.int (i / j)) lC:=kY λi j h=>by unfold vf at h;simp only[Bool.and_eq_true,decide_eq_true_eq]at h;exact h
theorem iX:ii K (rI (λ_ j=>0<j) λi j=>.int (i % j)) dG:=kY λi j h=>of_decide_eq_true h
theorem Du:ii K (rI lG λi j=>.int (i^j.toNat)) re:=kY λi j h=>by unfold mo at h;simp only[Bool.and_eq_true,decide_eq_true_eq]at h;exact⟨h.1.1,h.1.2,h.2⟩
theorem pQ:ii K (rI lG λi j=>.int (i*2^j.toNat)) cg:=kY λi j h=>by unfold mo at h;simp only[Bool.and_eq_true,decide_eq_true_eq]at h;exact⟨h.1.1,h.1.2,h.2⟩
theorem vR:ii K (ip λi j=>.int (Builtin.bitAnd i j)) nB:=CC
theorem vT:ii K (ip λi j=>.int (Builtin.bitXor i j)) gU:=CC
end
section
variable{K:au}{O O':List Nat}{t ta tb:TE}{fa fb:aJ}{fn:aT}{c:MC}
def lB:D->Option D
 |.int i=>some (.int (-i))
 |_=>none
theorem qts(h:ME K O t fa):ME K O (B6 (rU λi=>.int (-i)) t) (aH lB fa):=λZ σ H R ρ d ρ' Q S e k=>by
 obtain⟨x,ρ1,e1,e⟩:=bS e;obtain⟨e2,rfl⟩:=dk e;refine h Z σ H R ρ x _ _ S e1 λv H1 R1 S1 st1 r1=>?_
 (first|split at e2|(unfold lB at e2;split at e2))
 ·rename_i i;obtain rfl:=r1.isA rfl;cases e2;exact⟨i,rfl,k _ H1 R1 S1 st1 (.int _)⟩
 ·cases e2
def dAny:D->Option D
 |.lst xs=>(i8 xs).map λbs=>.bl (bs.any id)
 |_=>none
def iH(i:Nat)(fn:aT):aI:=λρ=>if isL ρ i=true then(match fn ρ with
 |none=>none
 | some (ys,ρ1)=>match ρ1[i]? with
  |some (some (.lst xs))=>if xs.length+ys.length<=sizeLine then some (.nx (ρ1.set i (some (.lst (xs++ys)))))else none
  |_=>none)else none
theorem qtn{i:Nat}(hi:i∈O)(ha:MN c.K O ta fn)(hs:c0 c O O'=true):MS c O O' (pE (rV c.K "list" Em (dJ i) (jL ta gr))) (iH i fn):=λZ E σ H R ρ o hP S e k=>by
 unfold iH at e;split at e
 case isFalse=>cases e
 rename_i hL;cases e1:fn ρ with
 |none=>rw[e1]at e;cases e
 | some p=>
  obtain⟨ys,ρ1⟩:=p;rw[e1]at e;dsimp only at e;obtain⟨l,vs,ds,h1,h2,h3,h4,h5⟩:=S.own i hi;obtain⟨us,_,rfl,rfl,_⟩:=Dm hL h1 h5;refine⟨.ref l,h2,.inl ⟨rfl,us,SqL.of h3⟩,ha Z σ H R ρ ys ρ1 _ S e1 λb zs H1 R1 S1 st1 b0 bH bR r1=>?_⟩;obtain⟨l',vs',ds',g1,g2,g3,g4,g5⟩:=S1.own i hi;rw[h2]at g2;cases g2;rw[g1]at e;cases g5 with
  |dct _=>cases e
  |dit _=>cases e
  |lst g5=>
  rename_i vs' ds';dsimp only at e;split at e
  ·rename_i hz;cases e;refine⟨l,b,vs',zs,rfl,rfl,g3,bH,by rw[g5.length,r1.length];exact hz,?_⟩;obtain⟨S2,s2⟩:=(S1.write hi h2 (.lst (g5.append r1))).sub' hP hs;exact k σ _ _ S2 (st1.r.trans s2)
  ·cases e
def dL(fn:aT)(fb:aJ):aT:=bV fn λxs=>bV fb λy=>dz (match y with
 |.int k=>if -(2^63)<=k/\k<2^63/\xs.length*k.toNat<=sizeLine then some (List.replicate k.toNat xs).flatten else none
 |_=>none)
theorem Rps.rep{R:Hp}{xs:List V}{ds:List D}(r:Rps K R xs ds):∀k:Nat,Rps K R (List.replicate k xs).flatten (List.replicate k ds).flatten
 |0=>.nil
 | k+1=>by rw[List.replicate_succ,List.replicate_succ,List.flatten_cons,List.flatten_cons];exact r.append (Rps.rep r k)
theorem sP(ha:MN K O ta fn)(hb:ME K O tb fb):MN K O (jJ qI ta tb) (dL fn fb):=λZ σ H R ρ d ρ' Q S e k=>by
 obtain⟨xs,ρ1,e1,e⟩:=bS e;obtain⟨y,ρ2,e2,e⟩:=bS e;obtain⟨e3,rfl⟩:=dk e;refine ha Z σ H R ρ xs ρ1 _ S e1 λl vs H1 R1 S1 st1 h0 hH hR r1=>hb Z σ H1 R1 ρ1 y _ _ S1 e2 λw H2 R2 S2 st2 r2=>?_
 (first|split at e3)
 ·rename_i j;obtain rfl:=r2.isA rfl;have e4:(if -(2^63)<=j/\j<2^63/\xs.length*j.toNat<=sizeLine then some (List.replicate j.toNat xs).flatten else none)=some d:=e3;split at e4
  ·rename_i hz;cases e4;refine⟨l,j,vs,rfl,rfl,st2.h l _ hH (λi hi=>S.notnew h0 i hi),hz.1,hz.2.1,by rw[r1.length];exact hz.2.2,λp np=>?_⟩;have y:=Ext.hid (o:=.lst (List.replicate j.toNat vs).flatten) S2.sub np;exact k p _ _ _ (S2.ext y) ((st1.trans st2).trans y.stp) ((st1.trans st2).new np) cM (S2.out np) ((r1.mono st2.r).rep _)
  ·cases e4
 ·cases e3
end
section
variable{M:Model}{A:Around}{E:Value->Shared->Prop}{s:Shared}
end
section
variable{X:Cx}{K:au}
end
section
variable{c:MC}{O O':List Nat}{te:TE}{fn:aT}
end
theorem dO{α:Type}(a:Array α):∀(k:Nat) (acc:Array α),(List.foldl (λx1 x2=>x1++x2) acc (List.replicate k a)).size=acc.size+k*a.size
 |0,acc=>by simp
 | k+1,acc=>by rw[List.replicate_succ,List.foldl_cons,dO a k,Array.size_append,Nat.succ_mul];omega
theorem q6k:fillsNumberSlot (.type "tuple") "mul"=pure false:=
 PySem.fillsNumberSlot_seq (id:="tuple.__mul__") (r:=some (.builtin "tuple.__rmul__")) F.slot_tuple_mul.lookup (by decide+kernel) F.slot_tuple_rmul.lookup (by decide+kernel)
theorem qa4:seqRepeat? (.type "tuple")=pure (some (.builtin "tuple.__mul__")):=by unfold seqRepeat?;rw[PySem.seqSlot_of (T:="tuple") (name:="__mul__") (id:="tuple.__mul__") F.slot_tuple_mul.lookup (by decide+kernel),PySem.seqSlot_of (T:="tuple") (name:="__rmul__") (id:="tuple.__rmul__") F.slot_tuple_rmul.lookup (by decide+kernel)];rfl
theorem q83(a:Int)(t:Tok)(l:Addr)(items:Array Value)(n:Nat)(dd:Option Addr)(sl:Array (Option Value)):
 Meets (Builtin.«int.__rmul__» ⟨[.int a t,.ref l],[]⟩) (λ_ R s=>s.heap.get? l=some {cls:=.type "tuple",dict:=dd,data:=.seq items n,slots:=sl}/\R (.ok (.ret Value.notImplemented)) s):=
 .of_wp λprog w A R s h=>by obtain⟨hp,g,d,tk,os⟩:=s;obtain⟨hl,h⟩:=h;wp_walk;exact⟨_,rfl,h⟩
theorem qe4(l:Addr)(items:Array Value)(n:Nat)(dd:Option Addr)(sl:Array (Option Value))(x:Int)(u:Tok)(h1:1<x)(h2:x<=1000)(he:items.isEmpty=false)(hz:items.size<=1000):
 Meets (Builtin.«tuple.__mul__» ⟨[.ref l,.int x u],[]⟩) (λ_ R s=>s.heap.get? l=some {cls:=.type "tuple",dict:=dd,data:=.seq items n,slots:=sl}/\R (.ok (.ret (Value.ref s.heap.objs.size))) {s with heap:=s.heap.push {cls:=Value.type "tuple",data:=Data.seq (List.foldl (λx1 x2=>x1++x2) #[] (List.replicate x.toNat items))},toks:=s.toks}):=
 .of_wp λprog w A R s h=>by
  obtain⟨hp,g,d,tk,os⟩:=s;obtain⟨hl,h⟩:=h;have f1:=AutoSeq1.idx_int;have f2:=AutoSeq1.sub_tuple_tuple;have hc0:¬(decide (x< -2^63)||decide (x≥2^63))=true:=by simp only[Bool.or_eq_true,decide_eq_true_eq];omega
  have hc1:¬(items.isEmpty||x==1)=true:=by rw[he,Bool.false_or];simp;omega
  have hc2:¬(decide (x<=0)||items.isEmpty)=true:=by rw[he,Bool.or_false];simp;omega
  have hm:(items.size:Int)*x<=1000*1000:=Int.le_trans (Int.mul_le_mul_of_nonneg_left h2 (Int.natCast_nonneg _)) (Int.mul_le_mul_of_nonneg_right (by omega) (by decide));have hc3:¬(items.size:Int)*x>(2^63-1) / 8:=by omega
  have hc4:¬Builtin.Tuple.tupleTooMany ((items.size:Int)*x)=true:=by
   unfold Builtin.Tuple.tupleTooMany;have:(sizeLine:Int)≥1000*1000:=by decide
   simp;omega
  wp_walk using wpAny_loadPart' hl
  rw[if_neg hc0]
  wp_walk using wpAny_loadPart' hl
  rw[if_neg hc1];rw[if_neg hc2];rw[if_neg hc3];rw[if_neg hc4]
  wp_walk using wpAny_loadPart' hl
  have hc5:¬(List.foldl (λx1 x2=>x1++x2) #[] (List.replicate x.toNat items)).size>sizeLine:=by
   rw[dO];have h7:x.toNat*items.size<=1000*1000:=Nat.mul_le_mul (by omega) hz;have h8:(sizeLine:Nat)≥1000*1000:=by decide
   simp;omega
  rw[if_neg hc5]
  wp_walk using wpAny_loadPart' hl
  exact⟨_,rfl,h⟩
def CM(K:au):R2:=λx y H Q=>∃l k xs,x=.ref l/\y=.int k/\SqT K H l xs/\1<k/\k<=1000/\xs≠[]/\xs.length<=1000/\∀p,H p=none->Q (.ref p) (aP H p (.tup (List.replicate k.toNat xs).flatten))
section
variable{X:Cx}{K:au}
theorem qny(hK:X.K=K):OpR X (binaryOp .Mult) (CM K):=by
 subst hK;intro z5 s σ H x y v u Q I rx ry h;obtain⟨l,k,xs,rfl,rfl,hH,h1,h2,hx,hz,q⟩:=h
 (first|obtain rfl:=rx.isA rfl|cases rx)
 obtain⟨t,rfl⟩:=ry;obtain⟨its,r1,p1,_⟩:=I.tuple hH;obtain⟨⟨cls,dd,data,sl⟩,ho,hc,n,hd⟩:=id p1;simp only at hc hd;subst hc hd;have za:=r1.length;have he:its.toArray.isEmpty=false:=by
  cases its with
  |nil=>exact absurd (r1.nil_iff.mp rfl) hx
  |cons a r=>rfl
 have f0:List.foldl (λx1 x2=>x1++x2) #[] (List.replicate k.toNat its.toArray)=(List.replicate k.toNat its).flatten.toArray:=by have:=d7 its k.toNat [];rw[List.nil_append]at this;exact this
 refine wpAny_binaryOp_repeat_ref (T:="tuple") (U:="int") (by decide) ⟨_,ho,rfl⟩ (λs'=>typeIs_int s' k t) q6k F.fills_int_mul F.slot_int_rmul qa4 F.slot_int_index.lookup
  (call_meets F.slot_int_rmul (typeIs_int s k t) F.entry_int_rmul (F.args_int_rmul_2 _ _) (q83 k t l its.toArray n dd sl)
    ⟨ho,rfl,⟨_,ho,rfl⟩,call_meets F.slot_tuple_mul ⟨_,ho,rfl⟩ F.entry_tuple_mul (F.args_tuple_mul_2 _ _) (qe4 l its.toArray n dd sl k t h1 h2 he (by rw[jt];omega)) ⟨ho,?_⟩⟩)
 rw[f0];have hsz:(List.replicate k.toNat xs).flatten.length<=sizeLine:=by rw[im];exact jr (Nat.mul_le_mul (by omega:k.toNat<=1000) hz) (by decide)
 refine⟨.ref s.heap.objs.size,_,I.laid (t':=s.toks) (o:=.tup (List.replicate k.toNat xs).flatten) (λb ob q=>j6 _ q) (j7 _) ?_,rfl,q _ (I.hok.fresh (j7 _))⟩;exact⟨hsz,_,r1.rep k.toNat,TupN.new _ _⟩
def sY(z:Str)(k:Int):Str:=if(k==1||z.length==0)=true then z else⟨List.foldl (λx1 x2=>x1++x2) #[] (List.replicate k.toNat z.cps)⟩
theorem qh6:OpR X (binaryOp .Mult) (λx y H Q=>∃z k,x=.str z/\y=.int k/\0<k/\k<=1000/\0<z.length/\z.length<=1000/\Q (.str (sY z k)) H):=by
 intro z5 s σ H x y v u Q I rx ry h;obtain⟨z,k,rfl,rfl,h1,h2,h3,h4,q⟩:=h;obtain⟨t,rfl⟩:=rx;obtain⟨t',rfl⟩:=ry;have hm:z.length*k.toNat<=1000*1000:=Nat.mul_le_mul h4 (by omega);refine PySem.P.mul_str (by simp;omega) (λ_ _=>?_) (λ_ _=>?_) ?_
 ·intro hgt;have h5:((2:Int)^63-1) / 1000<=(2^63-1) / k:=by
   refine Int.le_ediv_of_mul_le h1 ?_;have:((2:Int)^63-1) / 1000*k<=(2^63-1) / 1000*1000:=Int.mul_le_mul_of_nonneg_left h2 (by decide);exact Int.le_trans this (by decide)
  have h6:(1000:Int)<(2^63-1) / 1000:=by decide
  omega
 ·unfold Builtin.Str.tooLong;have:(sizeLine:Nat)≥1000*1000:=by decide
  simp;omega
 ·rw[if_neg (by omega)];unfold sY at q;split
  ·rename_i hh;rw[if_pos hh]at q;exact⟨.str z,H,I,⟨t,rfl⟩,q⟩
  ·rename_i hh;rw[if_neg hh]at q;refine⟨?_,⟨.str _,H,I.tok _,⟨_,rfl⟩,q⟩⟩;show(List.foldl (λx1 x2=>x1++x2) #[] (List.replicate k.toNat z.cps)).size<=sizeLine;rw[dO];have h7:k.toNat*z.cps.size<=1000*1000:=Nat.mul_le_mul (by omega) h4;have h8:(sizeLine:Nat)≥1000*1000:=by decide
   simp;omega
def CMul2(i j:Int):Prop:=CMul i j∨(i.natAbs<2^250/\j.natAbs<2^250)
theorem D1{k:Int}(h:k.natAbs<2^250):Builtin.Int.intBits k<=250:=by
 unfold Builtin.Int.intBits;split
 ·exact Nat.zero_le _
 ·rename_i h0;have hk:k.natAbs≠0:=λz=>h0 (by simpa using z);have:k.natAbs.log2<250:=(Nat.log2_lt hk).mpr h;omega
theorem CMul2.ok{i j:Int}(h:CMul2 i j):IntMulOk i j:=by
 rcases h with h|⟨h1,h2⟩
 ·exact h.ok
 ·exact IntMulOk.of_le (D1 h1) (D1 h2) (by decide)
theorem op_mul2:OpR X (binaryOp .Mult) (rI CMul2 λi j=>.int (i*j)):=qj λ_ _ _ _ _ _ _ hc q=>mul_int q hc.ok
def nG(i:Int):Bool:=decide (i.natAbs<2^250)
def sR(i j:Int):Bool:=vg i j||(nG i&&nG j)
theorem qhb{i j:Int}(h:sR i j=true):CMul2 i j:=by
 unfold sR vg nG at h;simp only[Bool.or_eq_true,Bool.and_eq_true,decide_eq_true_eq]at h;rcases h with h|h
 ·exact .inl h
 ·exact .inr h
def CL(K:au):R2:=λx y H Q=>rI CMul2 (λi j=>.int (i*j)) x y H Q∨CM K x y H Q∨∃z k,x=.str z/\y=.int k/\0<k/\k<=1000/\0<z.length/\z.length<=1000/\Q (.str (sY z k)) H
theorem oE(hK:X.K=K):OpR X (binaryOp .Mult) (CL K):=op_mul2.or ((qny hK).or qh6)
end
def lP:D->D->Option D
 |.int i,.int j=>if sR i j=true then some (.int (i*j))else none
 |.tup xs,.int k=>if 1<k/\k<=1000/\xs≠[]/\xs.length<=1000 then some (.tup (List.replicate k.toNat xs).flatten)else none
 |.str z,.int k=>if 0<k/\k<=1000/\0<z.length/\z.length<=1000 then some (.str (sY z k))else none
 |_,_=>none
theorem oB{K:au}:ii K (CL K) lP:=λH R x y d e u Q s rx ry q k=>by
 unfold lP at q;split at q
 ·rename_i i j;split at q
  ·rename_i h
   (first|obtain rfl:=q.isA rfl|cases q)
   (first|obtain rfl:=rx.isA rfl|cases rx)
   (first|obtain rfl:=ry.isA rfl|cases ry)
   exact .inl ⟨i,j,rfl,rfl,qhb h,k _ H R (Ext.refl s) (.int _)⟩
  ·(first|obtain rfl:=q.isA rfl|cases q)
 ·rename_i ds j;split at q
  ·rename_i hc
   (first|obtain rfl:=q.isA rfl|cases q)
   (first|obtain rfl:=ry.isA rfl|cases ry)
   obtain⟨a,xs,rfl,h,r⟩:=rx.isT;refine .inr (.inl ⟨a,j,xs,rfl,rfl,SqT.of (s _ _ h),hc.1,hc.2.1,λz=>?_,by rw[r.length];exact hc.2.2.2,λp np=>?_⟩)
   ·subst z
    (first|obtain rfl:=r.isA rfl|cases r)
    exact hc.2.2.1 rfl
   ·have y:=Ext.new (o:=.tup (List.replicate j.toNat xs).flatten) s np;exact k _ _ _ y (.tup cM ((r.rep _).mono y.r))
  ·(first|obtain rfl:=q.isA rfl|cases q)
 ·rename_i z j;split at q
  ·rename_i hc
   (first|obtain rfl:=q.isA rfl|cases q)
   (first|obtain rfl:=ry.isA rfl|cases ry)
   (first|obtain rfl:=rx.isA rfl|cases rx)
   exact .inr (.inr ⟨z,j,rfl,rfl,hc.1,hc.2.1,hc.2.2.1,hc.2.2.2,k _ H R (Ext.refl s) (.str _)⟩)
  ·(first|obtain rfl:=q.isA rfl|cases q)
 ·(first|obtain rfl:=q.isA rfl|cases q)
section
variable{X:Cx}{K:au}{O:List Nat}{pos:Pos}
end
inductive TyX(K:au)(H:Hp):V->Value->Prop where
 |exc {a C:Addr} (h:H a=some (rd a (.ref C))) (k:ExcK K C):TyX K H (.ref a) (.ref C)
 |non:TyX K H .non (.type "NoneType")
section
variable{X:Cx}{K:au}{O:List Nat}{t:TE}{fa:aJ}
structure KitE(K:au)(c:Value)(sub:Str->Option Bool):Prop where
 exc:∀x C b,PySem.W.nsIn K mainGlobals x=some (some (.ref C))->sub x=some b->PySem.W.kitOne K (.ref C) c=some b
 non:PySem.W.kitOne K (.type "NoneType") c=some false
structure qxa(K:au)(cs:List Value)(sub:Str->Option Bool):Prop where
 exc:∀x C b,PySem.W.nsIn K mainGlobals x=some (some (.ref C))->sub x=some b->PySem.W.kitAny K (.ref C) cs=some b
 non:PySem.W.kitAny K (.type "NoneType") cs=some false
end
abbrev Xr:=aB->Option (Str×aB)
def GE(K:au)(E:XK)(C:Str)(H:Hp):Prop:=∀v,PySem.W.nsIn K mainGlobals C=some (some v)->E v none H
section
variable(K:au)(O:List Nat)
end
section
variable{K:au}{O:List Nat}{E:XK}{t ta tb:TE}{tr:TA}{tt:TT}{fa fb:aJ}{fs:aT}{xa xb xs:Xr}
end
def MSX(c:MC)(O:List Nat)(t:TS)(E:XK)(fx:Xr):Prop:=∀(Z:Anc) (D:Ends) (σ:St) (H R:Hp) (ρ:aB) (C:Str) (ρ':aB),Z.P=c.P->StR c.K Z O σ H R ρ->fx ρ=some (C,ρ')->(∀O' σ' H' R',StR c.K Z O' σ' H' R' ρ'->GE c.K E C H')->t D σ H
def MSXa(c:MC)(O:List Nat)(t:TS)(E:XK)(fx:Xr):Prop:=∀(Z:Anc) (D:Ends) (σ:St) (H R:Hp) (ρ:aB) (C:Str) (ρ':aB),Z.P=c.P->StR c.K Z O σ H R ρ->fx ρ=some (C,ρ')->(∀H' R',StR c.K Z O σ H' R' ρ'->Same R R'->GE c.K E C H')->t D σ H
theorem MSXa.g{c:MC}{O:List Nat}{t:TS}{E:XK}{fx:Xr}(h:MSXa c O t E fx):MSX c O t E fx:=λZ D σ H R ρ C ρ' hP S e k=>h Z D σ H R ρ C ρ' hP S e λH' R' S' _=>k O σ H' R' S'
section
variable{c:MC}{O O' O1:List Nat}{t u:TS}{te:TE}{tt:TT}{tr:TA}{g:TG}{f h:aI}{fe:aJ}{fs:aT}{ft:dP}{E:XK}{xe xt fx hx:Xr}
end
section
variable{c:MC}{O O':List Nat}{cv:Value}{i:Nat}{sub:Str->Bool}{tb:XK->TS}{ts:TS}{fb fh:aI}{xb:Xr}
end
section
variable{K:au}{O:List Nat}{tr:TA}{fs:aT}{E:XK}{n:Nat}
end
section
variable{K:au}
end
section
variable(K:au)(O:List Nat)
end
section
variable{K:au}{O:List Nat}{ta:TE}{tr:TA}{fa:aJ}{fs:aT}{E:XK}{n:Nat}
end
theorem EG{α:Type}{o:Option (α×aB)}{x:α}(h:o.map (·.1)=some x):∃ρ,o=some (x,ρ):=by
 cases o with
 |none=>cases h
 |some p=>cases h;exact⟨p.2,rfl⟩
theorem gC{n:Nat}{js:List Nat}{fg:eH}{fe:aJ}{ρ:aB}(g:D->D):∀(xs:List D),(∀x∈xs,∃ρ1,fg x (iq n js ρ)=some ρ1/\(fe ρ1).map (·.1)=some (g x))->cU n js none fg (ae true) fe xs ρ=some (xs.map g,ρ)
 |[],_=>rfl
 | x::xs,h=>by obtain⟨ρ1,h1,h2⟩:=h x ja;obtain⟨ρ2,h2⟩:=EG h2;have ih:=gC (n:=n) (js:=js) (fg:=fg) (fe:=fe) (ρ:=ρ) g xs λy hy=>h y (j9 _ hy);simp only[cU,h1,ae,h2,g6];rw[ih];rfl
theorem qf{n:Nat}{js:List Nat}{fg:eH}{ft:dP}{fe:aJ}{ρ:aB}(p:D->Bool)(g:D->D):∀(xs:List D),(∀x∈xs,∃ρ1,fg x (iq n js ρ)=some ρ1/\ft ρ1=some (p x,ρ1)/\(p x=true->(fe ρ1).map (·.1)=some (g x)))->cU n js none fg ft fe xs ρ=some ((xs.filter p).map g,ρ)
 |[],_=>rfl
 | x::xs,h=>by
  obtain⟨ρ1,h1,h2,h3⟩:=h x ja;have ih:=qf (n:=n) (js:=js) (fg:=fg) (ft:=ft) (fe:=fe) (ρ:=ρ) p g xs λy hy=>h y (j9 _ hy);cases hp:p x with
  | false=>
   rw[hp]at h2;simp only[cU,h1,h2,g6];rw[ih,List.filter_cons_of_neg (by rw[hp];exact Bool.false_ne_true)]
  | true=>
   rw[hp]at h2;obtain⟨ρ3,h4⟩:=EG (h3 hp);simp only[cU,h1,h2,h4,g6];rw[ih,List.filter_cons_of_pos hp];rfl
theorem p8{n p q:Nat}{js:List Nat}{fg:eH}{fe:aJ}{S:Type}(ρ:S->aB)(G:D->Prop):∀(xs:List D),(∀x∈xs,∀s,∃ρ1 ρ2 y s',fg x (iq n js (ρ s))=some ρ1/\fe ρ1=some (y,ρ2)/\g6 (some (p,q)) (ρ s) ρ2=ρ s'/\G y)->∀s,∃ys s',cU n js (some (p,q)) fg (ae true) fe xs (ρ s)=some (ys,ρ s')/\ys.length=xs.length/\∀y∈ys,G y
 |[],_,s=>⟨[],s,rfl,rfl,λ_ h=>nomatch h⟩
 | x::xs,h,s=>by
  obtain⟨ρ1,ρ2,y,s1,h1,h2,h3,h4⟩:=h x ja s;obtain⟨ys,s2,g1,g2,g3⟩:=p8 ρ G xs (λy hy=>h y (j9 _ hy)) s1;refine⟨y::ys,s2,?_,by rw[jl,jl,g2],λz hz=>?_⟩
  ·simp only[cU,h1,ae,h2,h3];rw[g1]
  ·rcases List.mem_cons.mp hz with rfl|hz
   ·exact h4
   ·exact g3 z hz
theorem iz{fg:eH}{fb:aI}(I:Nat->aB->Prop):∀(xs:List D) (k:Nat) (ρ:aB),I k ρ->(∀i x ρ,xs[i]? =some x->I (k+i) ρ->∃ρ1 ρ2,fg x ρ=some ρ1/\(fb ρ1=some (.nx ρ2)∨fb ρ1=some (.ct ρ2))/\I (k+i+1) ρ2)->∃ρ',eh fg fb xs ρ=some (.nx ρ')/\I (k+xs.length) ρ'
 |[],k,ρ,h0,_=>⟨ρ,rfl,h0⟩
 | x::xs,k,ρ,h0,hs=>by
  obtain⟨ρ1,ρ2,h1,h2,h3⟩:=hs 0 x ρ rfl h0;obtain⟨ρ',g1,g2⟩:=iz I xs (k+1) ρ2 h3 λi y ρ e hi=>by
   have e1:k+1+i=k+(i+1):=by omega
   rw[e1]at hi ⊢;exact hs (i+1) y ρ (by simpa using e) hi
  refine ⟨ρ', ?_, by rw[jl];have e1:k+(xs.length+1)=k+1+xs.length:=by omega
                     rw[e1];exact g2⟩
  simp only[eh,h1];rcases h2 with h2|h2
  ·rw[h2];exact g1
  ·rw[h2];exact g1
theorem wJ{fg:eH}{fb:aI}(I:aB->Prop):∀(xs:List D) (ρ:aB),I ρ->(∀x ρ,x∈xs->I ρ->∃ρ1 ρ2,fg x ρ=some ρ1/\(fb ρ1=some (.nx ρ2)∨fb ρ1=some (.ct ρ2))/\I ρ2)->∃ρ',eh fg fb xs ρ=some (.nx ρ')/\I ρ':=λxs ρ h0 hs=>by obtain⟨ρ',h1,h2⟩:=iz (fg:=fg) (fb:=fb) (λ_=>I) xs 0 ρ h0 λi x ρ e hi=>hs x ρ (xi e) hi;exact⟨ρ',h1,h2⟩
theorem GA{α:Type}(x:α)(xs:List α):bO (x::xs) 0=some x:=by unfold bO fK;simp
theorem Gz{α:Type}(x y:α)(xs:List α):bO (x::y::xs) 1=some y:=wC (j:=1) rfl
theorem at2{α:Type}(x y z:α)(xs:List α):bO (x::y::z::xs) 2=some z:=wC (j:=2) rfl
theorem at3{α:Type}(x y z u:α)(xs:List α):bO (x::y::z::u::xs) 3=some u:=wC (j:=3) rfl
theorem jM{α:Type}{xs:List α}{i:Int}(h0:0<=i)(h:i<xs.length):bO xs i=xs[i.toNat]? :=by unfold bO fK;rw[if_pos h0,if_pos h];rfl
theorem dy{n:Nat}(h:n<=1000000):n<=sizeLine:=jr h (by decide)
theorem gq(lo:Int)(n:Nat):(cY lo n).length=n:=by simp[cY]
theorem jW{lo:Int}{n i:Nat}{d:D}(h:(cY lo n)[i]? =some d):i<n/\d=.int (lo+(i:Int)):=by
 have hi:i<n:=by
  have:=(List.getElem?_eq_some_iff.mp h).1
  rwa [gq]at this
 refine⟨hi,?_⟩;unfold cY at h;rw[jd,xm hi]at h;exact(jb h).symm
def nx(s:Int):Int:=(s*1181783497276652981+12345678910987) % (2^61-1)
theorem D7(i j:Int):cB (.int i) (.int j)=some (i==j):=by simp[cB,D.toP,SeqAt.shaped,PyData.canLay0,PyData.depth,PyData.eqv]
theorem hU{i j:Str}(hi:PyData.strOk i=true)(hj:PyData.strOk j=true):cB (.str i) (.str j)=some (i==j):=by simp[cB,D.toP,SeqAt.shaped,PyData.canLay0,PyData.depth,PyData.eqv,hi,hj]
theorem Gp(j:Int):cB .non (.int j)=some false:=by simp[cB,D.toP,SeqAt.shaped,PyData.canLay0,PyData.depth,PyData.eqv]
theorem FJ:∀xs:List Int,D.toPs (xs.map D.int)=some (xs.map PyData.int)
 |[]=>by simp[D.toPs]
 |x::xs=>by simp[D.toPs,D.toP,FJ xs]
theorem Gg:∀xs ys:List Int,PyData.eqvAll (xs.map PyData.int) (ys.map PyData.int)=decide (xs=ys)
 |[],[]=>by simp[PyData.eqvAll]
 |[],y::ys=>by simp[PyData.eqvAll]
 |x::xs,[]=>by simp[PyData.eqvAll]
 | x::xs,y::ys=>by
  simp only[List.map_cons,PyData.eqvAll,PyData.eqv,Gg xs ys,List.cons.injEq];by_cases h:x=y
  ·subst h;simp
  ·have:(x==y)=false:=beq_eq_false_iff_ne.mpr h;rw[this];simp[h]
theorem ED(xs ys:List Int):cB (.lst (xs.map D.int)) (.lst (ys.map D.int))=some (decide (xs=ys)):=by have h1:SeqAt.shaped (.list (xs.map PyData.int))=true:=Gn xs;have h2:SeqAt.shaped (.list (ys.map PyData.int))=true:=Gn ys;simp only[cB,D.toP,FJ,Option.map_some];rw[if_pos ⟨h1,h2⟩];simp only[PyData.eqv,Gg]
section
variable{α β:Type}{a:aB->Option (α×aB)}{k:α->aB->Option (β×aB)}{ρ:aB}{fa fb fc:aJ}{ga gb:dP}{fs:aT}{g g':D->D->Option D}{g1:D->Option D}{gl:D->Option (List D)}{g2:D->D->Option (List D)}{fl fh:aB->Option (Option Int×aB)}
theorem cK:bV a k ρ=(a ρ).bind λp=>k p.1 p.2:=by unfold bV;cases a ρ<;>rfl
theorem qui{x:α}:ae x ρ=some (x,ρ):=rfl
theorem eU{o:Option α}:dz o ρ=o.map λx=>(x,ρ):=by cases o<;>rfl
theorem Di{i:Nat}:aa i ρ=(ρ[i]?).join.map λd=>(d,ρ):=by
 unfold aa;cases h:ρ[i]? with
 |none=>rfl
 |some o=>cases o<;>rfl
theorem Dg:af g fa fb ρ=(fa ρ).bind λp=>(fb p.2).bind λq=>(g p.1 q.1).map λx=>(x,q.2):=by unfold af;rw[cK];congr 1;funext p;rw[cK];congr 1;funext q;rw[eU]
theorem quk:aH g1 fa ρ=(fa ρ).bind λp=>(g1 p.1).map λx=>(x,p.2):=by unfold aH;rw[cK];congr 1;funext p;rw[eU]
theorem qpc:i7 gl fa ρ=(fa ρ).bind λp=>(gl p.1).map λx=>(x,p.2):=by unfold i7;rw[cK];congr 1;funext p;rw[eU]
theorem qpb:pG g2 fa fb ρ=(fa ρ).bind λp=>(fb p.2).bind λq=>(g2 p.1 q.1).map λx=>(x,q.2):=by unfold pG;rw[cK];congr 1;funext p;rw[cK];congr 1;funext q;rw[eU]
def Gx:D->D->Option D
 |.lst xs,.int j=>bO xs j
 |_,_=>none
theorem quo{i:Nat}:iL i fb ρ=(fb ρ).bind λq=>((q.2[i]?).join).bind λx=>(Gx x q.1).map λz=>(z,q.2):=by
 unfold iL;rw[cK];congr 1;funext q;rw[cK,Di];cases(q.2[i]?).join with
 |none=>rfl
 |some x=>show dz _ _=_;rw[eU];first|rfl|(cases x<;>(cases q.1<;>rfl))
def yD:D->Option Bool
 |.bl b=>some b
 |_=>none
theorem wH:bz fa ρ=(fa ρ).bind λp=>(yD p.1).map λx=>(x,p.2):=by
 unfold bz;rw[cK];congr 1;funext p;rw[eU]
 first|rfl|(cases p.1<;>rfl)
theorem qul:gS ga ρ=(ga ρ).map λp=>(!p.1,p.2):=by unfold gS;rw[cK];cases ga ρ<;>rfl
theorem qur:dM ga gb ρ=(ga ρ).bind λp=>if p.1=true then gb p.2 else some (false,p.2):=by unfold dM;rw[cK];congr 1;funext p;split<;>rfl
theorem qx3:lY ga gb ρ=(ga ρ).bind λp=>if p.1=true then some (true,p.2)else gb p.2:=by unfold lY;rw[cK];congr 1;funext p;split<;>rfl
theorem qpl:pH fa fb ρ=(bz fa ρ).bind λp=>if p.1=true then fb p.2 else some (.bl false,p.2):=by unfold pH;rw[cK];congr 1;funext p;split<;>rfl
theorem qpd:sh fa ρ=(bz fa ρ).map λp=>(.bl (!p.1),p.2):=by unfold sh;rw[cK];cases bz fa ρ<;>rfl
theorem qx5:i3 ga fa fb ρ=(ga ρ).bind λp=>if p.1=true then fa p.2 else fb p.2:=by unfold i3;rw[cK];congr 1;funext p;split<;>rfl
theorem qum:ag ρ=some ([],ρ):=rfl
theorem qpi:am fa fs ρ=(fa ρ).bind λp=>(fs p.2).map λq=>(p.1::q.1,q.2):=by unfold am;rw[cK];congr 1;funext p;rw[cK];cases fs p.2<;>rfl
theorem que:cc fs ρ=(fs ρ).bind λp=>if p.1.length<=sizeLine then some (.tup p.1,p.2)else none:=by unfold cc;rw[cK];congr 1;funext p;rw[eU];split<;>rfl
theorem qun:aY fs ρ=(fs ρ).bind λp=>if p.1.length<=sizeLine then some (p.1,p.2)else none:=by unfold aY;rw[cK];congr 1;funext p;rw[eU];split<;>rfl
theorem qx4:bh fs ρ=(fs ρ).map λp=>(.lst p.1,p.2):=by unfold bh;rw[cK];cases fs ρ<;>rfl
theorem qpk{f:List D->Option D}:a9 f fs ρ=(fs ρ).bind λp=>(f p.1).map λx=>(x,p.2):=by unfold a9;rw[cK];congr 1;funext p;rw[eU]
theorem ql1{f:List D->Option D}:gO f fs ρ=(fs ρ).bind λp=>(pb (f p.1)).map λx=>(x,p.2):=by unfold gO;rw[cK];congr 1;funext p;rw[eU]
def jZ:D->Option (List D)
 |.lst xs=>some xs
 |_=>none
theorem ql0{f:List D->List D->Option (D×List D)}{i:Nat}:gE f i fs ρ=(fs ρ).bind λp=>((p.2[i]?).join.bind jZ).bind λxs=>(f xs p.1).map λr=>(r.1,p.2.set i (some (.lst r.2))):=by
 unfold gE;rw[cK];congr 1;funext p;cases h:p.2[i]? with
 |none=>rfl
 | some o=>
  cases o with
  |none=>rfl
  | some d=>
   cases d with
   | lst xs=>
    show(match f xs p.1 with|some (d,ys)=>some (d,p.2.set i (some (.lst ys)))|none=>none)=_;show _=(f xs p.1).map _;cases f xs p.1<;>rfl
   |_=>rfl
theorem qpj{n:Nat}{js:List Nat}{bw:Option (Nat×Nat)}{fg:eH}:cG n js bw fs fg ga fa ρ=(fs ρ).bind λp=>if p.1.length<=sizeLine then cU n js bw fg ga fa p.1 p.2 else none:=by unfold cG;rw[cK]
theorem qug:bD fa ρ=(fa ρ).bind λp=>(d5 p.1).map λx=>(x,p.2):=by unfold bD;rw[cK];congr 1;funext p;rw[eU];cases p.1<;>rfl
def qF:List D->Option (List D)
 |[.int j]=>if fk j=true then some (cY 0 j.toNat)else none
 |_=>none
theorem D8:fD fs ρ=(fs ρ).bind λp=>(qF p.1).map λx=>(x,p.2):=by unfold fD;rw[cK];congr 1;funext p;rw[eU];rfl
def qt:List D->Option (List D)
 | [x,y]=>match d5 x,d5 y with
  |some xs,some ys=>some (dn xs ys)
  |_,_=>none
 |_=>none
theorem qud:gw fs ρ=(fs ρ).bind λp=>(qt p.1).map λx=>(x,p.2):=by unfold gw;rw[cK];congr 1;funext p;rw[eU];rfl
def kN:D->Option (Option Int)
 |.int i=>some (some i)
 |_=>none
theorem qp9:oA fa ρ=(fa ρ).bind λp=>(kN p.1).map λx=>(x,p.2):=by unfold oA;rw[cK];congr 1;funext p;rw[eU];cases p.1<;>rfl
theorem qx2:oP fa fl fh ρ=(fa ρ).bind λp=>(fl p.2).bind λq=>(fh q.2).bind λr=>(lZ p.1 q.1 r.1).map λx=>(x,r.2):=by unfold oP;rw[cK];congr 1;funext p;rw[cK];congr 1;funext q;rw[cK];congr 1;funext r;rw[eU]
theorem qkz:tK g g' fa fb fc ρ=(fa ρ).bind λp=>(fb p.2).bind λq=>((g p.1 q.1).bind yD).bind λb=>if b=true then(fc q.2).bind λr=>(g' q.1 r.1).map λx=>(x,r.2)else some (.bl false,q.2):=by
 unfold tK;rw[cK];congr 1;funext p;rw[cK];congr 1;funext q;rw[cK,wH,eU];cases g p.1 q.1 with
 |none=>rfl
 | some d=>
  cases d with
  | bl b=>
   cases b with
   | true=>
    show bV fc (λz=>dz (g' q.1 z)) q.2=_;rw[cK];show _=(fc q.2).bind _;congr 1;funext r;rw[eU]
   |false=>rfl
  |_=>rfl
theorem D9{f h:aI}:av f h ρ=(f ρ).bind λo=>match o with
 |.nx ρ1=>h ρ1
 |o=>some o:=by
 unfold av;cases f ρ with
 |none=>rfl
 |some o=>cases o<;>rfl
theorem qp0{i:Nat}:aA i fa ρ=(fa ρ).map λp=>.nx (p.2.set i (some p.1)):=by unfold aA;cases fa ρ<;>rfl
theorem qp2{i:Nat}:cI i fs ρ=(fs ρ).bind λp=>if i<p.2.length then some (.nx (p.2.set i (some (.lst p.1))))else none:=by unfold cI;cases fs ρ<;>rfl
theorem qp7{fg:eH}:iI fa fg ρ=(fa ρ).bind λp=>(fg p.1 p.2).map .nx:=by
 unfold iI;cases fa ρ with
 |none=>rfl
 | some p=>
  obtain⟨d,ρ1⟩:=p;show(match fg d ρ1 with|none=>none|some ρ2=>some (Out.nx ρ2))=(fg d ρ1).map _;cases fg d ρ1<;>rfl
theorem quf{f h:aI}:cR ga f h ρ=(ga ρ).bind λp=>if p.1=true then f p.2 else h p.2:=by unfold cR;cases ga ρ<;>rfl
theorem qp1:aE fa ρ=(fa ρ).map λp=>.rt p.1 p.2:=by unfold aE;cases fa ρ<;>rfl
theorem qkx:oq fs ρ=(fs ρ).map λp=>.rt (.lst p.1) p.2:=by unfold oq;cases fs ρ<;>rfl
theorem qkw{i:Nat}:kA i ρ=((ρ[i]?).join.bind jZ).map λd=>.rt (.lst d) (ρ.set i none):=by
 unfold kA;cases h:ρ[i]? with
 |none=>rfl
 | some o=>
  cases o with
  |none=>rfl
  |some d=>cases d<;>rfl
theorem EJ{α:Type}{i:Nat}{x:Option α}:(if isL ρ i=true then x else none)=((ρ[i]?).join.bind jZ).bind λ_=>x:=by
 unfold isL;cases h:ρ[i]? with
 |none=>rfl
 | some o=>
  cases o with
  |none=>rfl
  |some d=>cases d<;>rfl
theorem qp3:aX ρ=some (.nx ρ):=rfl
theorem qky:mv fa ρ=(fa ρ).map λp=>.nx p.2:=by unfold mv;cases fa ρ<;>rfl
theorem qp4{gm:List D->List D->Option (List D)}{i:Nat}:dU gm i fs ρ=((ρ[i]?).join.bind jZ).bind λ_=>(fs ρ).bind λp=>((p.2[i]?).join.bind jZ).bind λxs=>(gm xs p.1).map λys=>.nx (p.2.set i (some (.lst ys))):=by
 refine Eq.trans ?_ (EJ);unfold dU;congr 1;cases fs ρ with
 |none=>rfl
 | some p=>
  show(match p.2[i]? with|some (some (.lst xs))=>_|_=>none)=_;show _=((p.2[i]?).join.bind jZ).bind _;cases h:p.2[i]? with
  |none=>rfl
  | some o=>
   cases o with
   |none=>rfl
   | some d=>
    cases d with
    | lst xs=>
     show(match gm xs p.1 with|some ys=>some (Out.nx _)|none=>none)=(gm xs p.1).map _;cases gm xs p.1<;>rfl
    |_=>rfl
theorem qp6{i:Nat}:iH i fs ρ=((ρ[i]?).join.bind jZ).bind λ_=>(fs ρ).bind λp=>((p.2[i]?).join.bind jZ).bind λxs=>if xs.length+p.1.length<=sizeLine then some (.nx (p.2.set i (some (.lst (xs++p.1)))))else none:=by
 refine Eq.trans ?_ (EJ);unfold iH;congr 1;cases fs ρ with
 |none=>rfl
 | some p=>
  show(match p.2[i]? with|some (some (.lst xs))=>_|_=>none)=_;show _=((p.2[i]?).join.bind jZ).bind _;cases h:p.2[i]? with
  |none=>rfl
  | some o=>
   cases o with
   |none=>rfl
   |some d=>cases d<;>rfl
def qA(x d k:D):Option D:=match x,k with
 |.lst xs,.int j=>(fK xs.length j).map λm=>.lst (xs.set m d)
 |_,_=>none
theorem qkv{i:Nat}:pp i fa fb ρ=(fa ρ).bind λp=>(fb p.2).bind λq=>((q.2[i]?).join).bind λx=>(qA x p.1 q.1).map λy=>.nx (q.2.set i (some y)):=by
 unfold pp;cases fa ρ with
 |none=>rfl
 | some p=>
  show(match fb p.2 with|some (.int k,ρ2)=>_|_=>none)=(fb p.2).bind _;cases fb p.2 with
  |none=>rfl
  | some q=>
   obtain⟨y,ρ2⟩:=q;cases y with
   | int j=>
    show(match ρ2[i]? with|some (some (.lst xs))=>_|_=>none)=((ρ2[i]?).join).bind _;cases h:ρ2[i]? with
    |none=>rfl
    | some o=>
     cases o with
     |none=>rfl
     | some d=>
           cases d with
           | lst xs=>
            show(match fK xs.length j with|some m=>some (Out.nx _)|none=>none)=((fK xs.length j).map _).map _;cases fK xs.length j<;>rfl
           |_=>rfl
   | _=>
    show none=((ρ2[i]?).join).bind _;cases h:(ρ2[i]?).join with
    |none=>rfl
    |some x=>cases x<;>rfl
theorem qp5{fg:eH}{f:aI}:bA fs fg f ρ=(fs ρ).bind λp=>eh fg f p.1 p.2:=by unfold bA;cases fs ρ<;>rfl
theorem qpg{i:Nat}{d:D}:ai i d ρ=some (ρ.set i (some d)):=rfl
end
theorem qon{n:Nat}(h:n<=1000000):(n<=sizeLine)=True:=eq_true (dy h)
theorem qnk{n d:Nat}{k:Int}(h:0<=k):HT.sIx n d (some k)=min k.toNat n:=by show(if k<0 then(k+(n:Int)).toNat else min k.toNat n)=_;rw[if_neg (by omega)]
theorem tj{xs:List D}{k:Int}(h:0<=k):e7 xs none (some k)=xs.take k.toNat:=by unfold e7;rw[qnk h,HT.sIx_none,List.drop_zero,Nat.sub_zero];exact List.take_eq_take_min.symm
def uh(K:au)(p:Addr):It:=
 ⟨λi H=>∃xs x,SqL K H p xs/\xs[i]? =some x,
  λi H v H'=>∃T x,v=.ref T/\H T=none/\H'=aP H T (.tup [.int (i:Int),x])/\∀xs,SqL K H p xs->xs[i]? =some x,
  λi H=>∃xs,SqL K H p xs/\xs.length<=i⟩
def qut(p e it:Addr)(i:Nat)(h:Heap):Prop:=(∃old,IsEnum h e it (i:Int) old)/\h.IsListIter it p i
theorem qfl{P:Program}{w:World}{K:au}{zk:List Expr}{x1:Nat}{pos:Pos}{p e it:Addr}(hei:e≠it):
 Turn P w K (.Tuple zk x1 pos) (uh K p) [e,it] e (qut p e it) where
 mem:=by simp
 obj:=λi h st c hc=>by
  obtain⟨⟨old,he⟩,o,go,_,gd⟩:=st;simp only[List.mem_cons,List.not_mem_nil,or_false]at hc;rcases hc with rfl|rfl
  ·exact⟨_,he,λv e=>by cases e⟩
  ·exact⟨o,go,λv e=>by rw[gd]at e;cases e⟩
 keep:=λi h h' st k=>by obtain⟨⟨old,he⟩,o,go,r⟩:=st;exact⟨⟨old,k e (by simp) _ he⟩,o,k it (by simp) _ go,r⟩
 item:=by
  intro X hP hw hK hc i z5 s σ H E I hf st hg;subst hP hw hK;obtain⟨xs,x,q1,ex⟩:=hg;obtain⟨it1,r1,t1,_⟩:=I.list q1;obtain⟨u,eu,ru⟩:=r1.get ex;obtain⟨⟨old,he⟩,j1⟩:=st;refine wpAny_pyNext_enum_item he j1 t1.isList (x:=u) (by simpa using eu) hei λh' ho n1 tp sz kk=>?_;refine⟨_,rfl,?_⟩;refine wpAny_letOwnedTupleGo_enum ho λh'' z'' s''=>?_;have fresh:H s.heap.objs.size=none:=I.hok.fresh (j7 _);have zne:s.heap.objs.size≠e:=λq=>by have:=j5 he;rw[<-q]at this;exact x9 _ this
  have keep:∀c o,c∉[e,it]->s.heap.get? c=some o->h''.get? c=some o:=λc o hc q=>by simp only[List.mem_cons,List.not_mem_nil,or_false,not_or]at hc;exact s''.extBut c o hc.1 (kk c o hc.1 hc.2 q)
  have tp':h''.get? s.heap.objs.size=some {cls:=.type "tuple",data:=.seq #[.int i s.toks,u]}:=s''.extBut _ _ zne tp;have I':Inv X z5 σ (aP H s.heap.objs.size (.tup [.int (i:Int),x])) {s with heap:=h'',toks:=s.toks+1}:=by
   refine I.step (g':=s.gens) (d':=s.drawn) (ch:=[e,it]) (λc hc=>?_) (λc o _ _ hc e _=>keep c o hc e) (λc o _ _ hc e _=>⟨o.slots,keep c o hc e⟩) (λc o _ e n=>?_) (λc o hc e=>⟨o,keep c o hc e⟩)
    (λc zs e=>?_) (λc o w' e=>?_) (λc ps e=>⟨#[],?_⟩) (λm hm=>?_) (λc o e=>?_) I.bare
   ·obtain⟨_,f1,f2,f3,f4,f5⟩:=hf c hc;exact⟨f3,f1,f4,f5⟩
   ·rw[aU (jh (j5 e))];exact n
   ·rw[aU (gp e fresh)];exact e
   ·rw[aU (gp e fresh)];exact e
   ·rw[aU (gp e fresh),e];simp
   ·obtain⟨o,es,ep,ho,r⟩:=hm;exact⟨o,es,ep,keep _ o (λq=>(hf _ q).2.1 rfl) ho,r⟩
   ·by_cases hb:c=s.heap.objs.size
    ·subst hb;rw[cM]at e;cases e;exact⟨by show 2<=sizeLine;decide,[.int i s.toks,u],.cons ⟨_,rfl⟩ (.cons ru .nil),⟨_,tp',⟨rfl,_,rfl⟩,rfl⟩⟩
    ·rw[aU hb]at e;refine(I.hok c o e).stay (λd w' hd q=>keep d w' (λm=>?_) q) (λd q=>?_) λd zs q=>?_
     ·have n:=(hf d m).1;rcases hd with rfl|hd
      ·rw[n]at e;cases e
      ·rw[n]at hd;cases hd
     ·rw[aU (gp q fresh)];exact q
     ·rw[aU (gp q fresh)];exact q
  have lt:∀c∈[e,it],c<s.heap.objs.size:=λc hc=>by
   simp only[List.mem_cons,List.not_mem_nil,or_false]at hc;rcases hc with rfl|rfl
   ·exact j5 he
   ·obtain⟨o,e,_⟩:=j1;exact j5 e
  refine⟨.ref s.heap.objs.size,_,I',rfl,⟨_,x,rfl,fresh,rfl,λzs q=>by rw[I.list_inj q q1];exact ex⟩,?_,λc hc=>?_⟩
  ·obtain⟨o,go,r⟩:=n1;exact⟨⟨u,by simpa using z''⟩,o,s''.extBut _ _ hei.symm go,r⟩
  ·rw[aU (jh (lt c hc))];exact(hf c hc).1
 done:=by
  intro X hP hw hK hc i z5 s σ H E I hf st hg;subst hP hw hK;obtain⟨xs,q1,hl⟩:=hg;obtain⟨it1,r1,t1,_⟩:=I.list q1;obtain⟨⟨old,he⟩,j1⟩:=st;have l1:=r1.length;refine wpAny_pyNext_enum_end (I.ok.hd hc) he j1 t1.isList (by simp;omega) λh' kk=>⟨rfl,?_⟩;have keep:∀c o,c∉[e,it]->s.heap.get? c=some o->h'.get? c=some o:=λc o hc q=>by simp only[List.mem_cons,List.not_mem_nil,or_false,not_or]at hc;exact kk c o hc.2 q
  show Inv X z5 σ H {s with heap:=h',toks:=s.toks};refine I.step (g':=s.gens) (d':=s.drawn) (ch:=[e,it]) (λc hc=>?_) (λc o _ _ hc e _=>keep c o hc e) (λc o _ _ hc e _=>⟨o.slots,keep c o hc e⟩) (λc o _ e n=>n) (λc o hc e=>⟨o,keep c o hc e⟩)
   (λc zs e=>e) (λc o w' e=>e) (λc ps e=>⟨#[],by rw[e];simp⟩) (λm hm=>?_) (λc o e=>?_) I.bare
  ·obtain⟨_,f1,f2,f3,f4,f5⟩:=hf c hc;exact⟨f3,f1,f4,f5⟩
  ·obtain⟨o,es,ep,ho,r⟩:=hm;exact⟨o,es,ep,keep _ o (λq=>(hf _ q).2.1 rfl) ho,r⟩
  ·refine(I.hok c o e).stay (λd w' hd q=>keep d w' (λm=>?_) q) (λd q=>q) λd zs q=>q;have n:=(hf d m).1;rcases hd with rfl|hd
   ·rw[n]at e;cases e
   ·rw[n]at hd;cases hd
 self:=λ_ _ _ _ _ st h=>by obtain⟨⟨old,he⟩,_⟩:=st;exact wpAny_pyIter_enum he h
section
variable{X:Cx}{a:Expr}{ta:TE}{p pos:Pos}{zk:List Expr}{x1:Nat}{tp:Pos}
def Cf(K:au)(ta:TE):TI:=λσ H R=>ta σ H λv H1=>∃p1,[v]=[V.ref p1]/\(∃xs,SqL K H1 p1 xs)/\R (uh K p1) H1
theorem qns{K:au}(hK:X.K=K)(hg:Gl X "enumerate")(hm:X.mg "enumerate"=none)(ha:PE X a ta)(he:starEach [a] X.env=(false,eval a X.env)::starEach [] X.env:=by rfl)(hpl:(backTo pos (starEach [] X.env)).any (·.1)=false:=by rfl):
 PI X (.Tuple zk x1 tp) (.Call (.Name "enumerate" p) [a] [] pos) (Cf K ta):=by
 subst hK;intro z5 s σ H R I h;refine xh (iw I hg hm (u:=.type "enumerate") (by rfl) ?_);refine PyProof.Rows.callWith_type1 (bd ((aj ha ay he) pos z5 s σ H (λvs H1=>∃p1,vs=[.ref p1]/\(∃xs,SqL X.K H1 p1 xs)/\R (uh X.K p1) H1) I h) λus s1 h1=>?_) he hpl;obtain⟨vs,H1,I1,r1,p1,rfl,⟨xs,q1⟩,k⟩:=h1;obtain⟨u,rfl,ru⟩:=cQ r1;cases(show u=Value.ref p1 from ru);obtain⟨it1,r1,t1,_⟩:=I1.list q1;have lt:p1<s1.heap.objs.size:=by obtain⟨o,e,_⟩:=t1.isList;exact j5 e
 refine call_enumerate_list t1.isList λh' hz j1 sz kk=>wpAny_pyIter_enum hz ?_;have I2:Inv X z5 σ H1 {s1 with heap:=h',toks:=s1.toks}:=I1.kept kk;refine⟨_,_,_,_,H1,rfl,I2,qfl (p:=p1) (e:=s1.heap.objs.size+1) (it:=s1.heap.objs.size) (Nat.ne_of_gt (Nat.lt_succ_self _)),⟨⟨_,hz⟩,j1⟩,λc hc=>?_,k⟩;have le:s1.heap.objs.size<=c:=by simp only[List.mem_cons,List.not_mem_nil,or_false]at hc;rcases hc with rfl|rfl<;>first|exact j7 _|exact Nat.le_add_right _ _
 exact I1.fpOk le (I1.hok.fresh le)
end
def i5(xs:List D):List D:=xs.zipIdx.map λq=>D.tup [.int (q.2:Int),q.1]
section
variable{K:au}{O:List Nat}{t:TE}{fa:aJ}
theorem Fq{xs:List D}{i:Nat}:(i5 xs)[i]? =(xs[i]?).map λx=>D.tup [.int (i:Int),x]:=by
 unfold i5;rw[jd,List.getElem?_zipIdx];cases xs[i]? with
 |none=>rfl
 |some x=>simp
theorem qot{R:Hp}{p:Addr}{xs:List V}{ds:List D}(h:SqL K R p xs)(r:Rps K R xs ds):ItOk K (uh K p) R (i5 ds):=λH' R' s b i=>by
 have g1:=Same.sqL b (Same.sqL s h);have l1:=r.length;have len:(i5 ds).length=ds.length:=by simp[i5]
 refine⟨λe=>⟨xs,g1,by omega⟩,λd e=>?_⟩;rw[Fq]at e;cases e1:ds[i]? with
 |none=>rw[e1]at e;cases e
 | some d1=>
  rw[e1]at e;cases e;obtain⟨v1,a1,a2⟩:=r.get e1;refine⟨⟨xs,v1,g1,a1⟩,λx H'' y=>?_⟩;obtain⟨T,x1,rfl,hT,rfl,z1⟩:=y;have w1:=z1 xs g1;rw[a1]at w1;cases w1;have y:=Ext.new (o:=.tup [.int (i:Int),v1]) b hT;exact⟨_,y,.tup cM (.cons (.int _) (.cons ((a2.mono s).mono y.r) .nil))⟩
def pd(f:aJ):aT:=bV f λd=>dz (match d with
 |.lst xs=>some (i5 xs)
 |_=>none)
theorem qoh(h:ME K O t fa):MI K O (Cf K t) (pd fa):=λZ σ H R ρ ds ρ' Q S e k=>by
 obtain⟨d,ρ1,e1,e⟩:=bS e;obtain⟨e2,rfl⟩:=dk e;cases d with
 | lst xs=>
  cases e2;refine h Z σ H R ρ _ _ _ S e1 λv H1 R1 S1 st1 r1=>?_;obtain⟨_,_,rfl,q,r⟩:=r1.isL;exact⟨_,rfl,⟨_,Same.sqL S1.same q⟩,k _ H1 R1 S1 st1 (qot q r)⟩
 |_=>cases e2
def Ce:D->Option (List D)
 |.lst xs=>some (i5 xs)
 |_=>none
theorem qph{ρ:aB}:pd fa ρ=(fa ρ).bind λp=>(Ce p.1).map λx=>(x,p.2):=by unfold pd;rw[cK];congr 1;funext p;rw[eU];cases p.1<;>rfl
end
section
variable{X:Cx}{K:au}{c:MC}{O O':List Nat}{t:TE}{fa:aJ}
end
section
variable{ρ:aB}{fa fb:aJ}{fs:aT}
def gR(xs:List D):D->Option (List D)
 |.int k=>if -(2^63)<=k/\k<2^63/\xs.length*k.toNat<=sizeLine then some (List.replicate k.toNat xs).flatten else none
 |_=>none
theorem Dh:dL fs fb ρ=(fs ρ).bind λp=>(fb p.2).bind λq=>(gR p.1 q.1).map λx=>(x,q.2):=by unfold dL;rw[cK];congr 1;funext p;rw[cK];congr 1;funext q;rw[eU];cases q.1<;>rfl
theorem sW{ρ1 ρ2:aB}{xs zs:List D}{y:D}(h1:fs ρ=some (xs,ρ1))(h2:fb ρ1=some (y,ρ2))(h3:gR xs y=some zs):dL fs fb ρ=some (zs,ρ2):=by rw[Dh,h1];show(fb ρ1).bind _=_;rw[h2];show(gR xs y).map _=_;rw[h3];rfl
theorem tI{x:D}{k:Int}(h0:0<=k)(h:k<=1000000):gR [x] (.int k)=some (List.replicate k.toNat x):=by
 have hz:[x].length*k.toNat<=sizeLine:=by rw[List.length_singleton,Nat.one_mul];exact dy (by omega)
 show(if -(2^63)<=k/\k<2^63/\[x].length*k.toNat<=sizeLine then some (List.replicate k.toNat [x]).flatten else none)=_;rw[if_pos ⟨by omega,by omega,hz⟩,List.flatten_replicate_singleton]
theorem qff{xs ys:List Int}:dn (xs.map D.int) (ys.map D.int)=(xs.zip ys).map λq=>D.tup [.int q.1,.int q.2]:=by unfold dn;rw[List.zipWith_map,List.zip,List.map_zipWith]
end
section
variable{prog:Program}{w:World}{A:Around}{E:Value->Shared->Prop}{s:Shared}{a₀:Array Keyed}
end
section
variable{X:Cx}{K:au}
end
section
variable{K:au}{O:List Nat}{t tb:TE}{fa fb:aJ}
end
section
variable{X:Cx}
end
section
variable{X:Cx}
end
section
variable{K:au}{O:List Nat}{t tb:TE}{fa fb:aJ}
end
section
variable{c:MC}{O O':List Nat}{te:TE}{fe:aJ}
end
section
variable{K:au}{O:List Nat}{tr:TA}{fs:aT}{E:XK}{n:Nat}
end
section
variable{X:Cx}{K:au}{o e:Expr}{es:List Expr}{to:TE}{t:TA}{name:Str}{zt zm:Pos}{T id:String}{r:V->List V->Hp->VK->Prop}
end
end L2
namespace L2
open PySem PySem.NumText
end L2
namespace L2
open PySem PySem.NumText
end L2
namespace L2
open PySem PySem.Spec
section
variable{fa:aJ}{fl fh:aB->Option (Option Int×aB)}{ρ:aB}
end
end L2
namespace L2
open PySem PySem.Spec PyProof.Rows
section
variable{X:Cx}
end
section
variable{K:au}{O:List Nat}{t tb:TE}{fa fb:aJ}
def lg(f:dP)(g h:aT):aT:=bV f λb=>if b=true then g else h
theorem qwv{tA:TT}{ga:dP}{fa fb:aT}(h:MT K O tA ga)(h1:MN K O t fa)(h2:MN K O tb fb):MN K O (uZ tA t tb) (lg ga fa fb):=λZ σ H R ρ d ρ' Q S e k=>by
 obtain⟨c,ρ1,e1,e⟩:=bS e;refine h Z σ H R ρ c _ _ S e1 λH' R' S' st=>?_;cases c with
 |true=>exact fU (h1 Z σ H' R' ρ1 d ρ' Q S' e λl vs H2 R2 S2 st2 a1 a2 a3 a4=>k l vs H2 R2 S2 (st.trans st2) (st.new a1) a2 a3 a4)
 |false=>exact fV (h2 Z σ H' R' ρ1 d ρ' Q S' e λl vs H2 R2 S2 st2 a1 a2 a3 a4=>k l vs H2 R2 S2 (st.trans st2) (st.new a1) a2 a3 a4)
theorem qup{ga:dP}{fa fb:aT}{ρ:aB}:lg ga fa fb ρ=(ga ρ).bind λp=>if p.1=true then fa p.2 else fb p.2:=by unfold lg;rw[cK];congr 1;funext p;split<;>rfl
end
end L2
namespace L2
open PySem PySem.Spec
end L2
namespace L2
open PySem PySem.Spec PyProof.Rows
section
variable{X:Cx}
end
section
variable{K:au}{O:List Nat}{t tb:TE}{fa fb:aJ}
end
section
variable{X:Cx}{z5:List (Addr×Obj)}{σ:St}{CX:il}{k:Nat}{f:Addr}{fd:FuncData}{ps:List Str}{sp:Sp}{dvs:List V}{ds:List Value}{E:XK}{x:Str}{p pos:Pos}{e:Expr}{es:List Expr}{t:TA}{i:Nat}
end
section
variable{K:au}{O:List Nat}{tr:TA}{fs:aT}{E:XK}{n:Nat}
end
section
variable{prog:Program}{w:World}{A:Around}{E:Value->Shared->Prop}{s:Shared}
end
section
variable{X:Cx}{a b:Expr}{ta:TA}{p pos:Pos}{zk:List Expr}{x1:Nat}{tp:Pos}
end
section
variable{K:au}{O:List Nat}{tr:TA}{fs:aT}
end
end L2
namespace L2
def ax(w:List Int):Prop:=∀b∈w,b=0∨b=1
def aR(w:List Int):Int:=w.foldl (λx b=>x*2+b) 0
theorem ym(w:List Int)(b:Int):aR (w++[b])=aR w*2+b:=by unfold aR;rw[List.foldl_append];rfl
def bi(m a:Int)(bs:List Int):Int:=bs.foldl (λx b=>(x+x+b) % m) a
theorem yb(m a:Int)(bs:List Int)(b:Int):bi m a (bs++[b])=(bi m a bs+bi m a bs+b) % m:=by unfold bi;rw[List.foldl_append];rfl
theorem cA{α:Type}{u:List α}{i:Nat}{b:α}(q:u[i]? =some b):u.take (i+1)=u.take i++[b]:=List.take_add_one.trans (by rw[q];rfl)
def iu(a:Int)(w:List Int):Int:=w.foldl (λx b=>x*2+b) a
theorem kK:∀(w:List Int) (a:Int),iu a w=a*2^w.length+aR w
 |[],a=>by simp[iu,aR]
 | b::bs,a=>by have h1:=kK bs (a*2+b);have h2:=kK bs (0*2+b);have e1:iu a (b::bs)=iu (a*2+b) bs:=rfl;have e2:aR (b::bs)=iu (0*2+b) bs:=rfl;rw[e1,e2,h1,h2,jl,Int.pow_succ];generalize (2:Int)^bs.length=p;generalize aR bs=z;rw[Int.add_mul,Int.add_mul,Int.zero_mul,Int.zero_mul,Int.zero_add,Int.mul_assoc,Int.mul_comm 2 p];omega
theorem qa(m:Int):∀(w:List Int) (a:Int),bi m a w % m=iu a w % m
 |[],a=>rfl
 | b::bs,a=>by
  have e1:bi m a (b::bs)=bi m ((a+a+b) % m) bs:=rfl;have e2:iu a (b::bs)=iu (a*2+b) bs:=rfl;rw[e1,e2,qa m bs,kK,kK];have e3:a+a+b=a*2+b:=by omega
  rw[e3,Int.add_emod,Int.mul_emod,Int.emod_emod,<-Int.mul_emod,<-Int.add_emod]
theorem kE{m:Int}(hm:0<m):∀(w:List Int) (a:Int),(0<=a/\a<m)->0<=bi m a w/\bi m a w<m
 |[],a,h=>h
 |b::bs,a,h=>kE hm bs ((a+a+b) % m) ⟨Int.emod_nonneg _ (by omega),Int.emod_lt_of_pos _ hm⟩
theorem kG:∀(w:List Int),(∀b∈w,b=0∨b=1)->0<=aR w/\aR w<2^w.length
 |[],_=>by decide
 | b::bs,h=>by
  have h1:=kG bs λx hx=>h x (j9 _ hx);have e2:aR (b::bs)=iu (0*2+b) bs:=rfl;rw[e2,kK,jl,Int.pow_succ];generalize (2:Int)^bs.length=p at h1 ⊢;rcases h b ja with rfl|rfl
  ·simp only[Int.zero_mul,Int.zero_add];omega
  ·simp only[Int.zero_mul,Int.zero_add,Int.one_mul];omega
theorem qe(u v:List Int):aR (u++v)=aR u*2^v.length+aR v:=by
 have:aR (u++v)=iu (aR u) v:=by unfold aR iu;rw[List.foldl_append]
 rw[this,kK]
theorem yn:∀n,aR (List.replicate n 0)=0
 |0=>rfl
 | n+1=>by rw[List.replicate_succ',qe,yn n];rfl
theorem qih(n:Nat)(w:List Int):bi (2^n) 0 (w++List.replicate n 0)=0:=by have m0:(0:Int)<2^n:=Int.pow_pos (by decide);have h1:=qa (2^n) (w++List.replicate n 0) 0;rw[kK,Int.zero_mul,Int.zero_add,qe,yn,ji,Int.add_zero,Int.mul_emod_left]at h1;have h2:=kE m0 (w++List.replicate n 0) 0 ⟨Int.le_refl _,m0⟩;rw[Int.emod_eq_of_lt h2.1 h2.2]at h1;exact h1
theorem EC(n:Nat)(pre u:List Int)(hp:pre.length=n)(hb:ax pre)(hu:ax u)(k:Nat)(hk:k<=u.length):
 bi (2^n) (aR pre) (u.take k)=aR (((pre++u).drop k).take n):=by
 have m0:(0:Int)<2^n:=Int.pow_pos (by decide);have ha:=kG pre hb;rw[hp]at ha;have h1:=qa (2^n) (u.take k) (aR pre);have e1:iu (aR pre) (u.take k)=aR (pre++u.take k):=by unfold aR iu;rw[List.foldl_append]
 have e2:pre++u.take k=(pre++u).take k++((pre++u).drop k).take n:=by rw[<-List.take_add,Nat.add_comm k n,<-hp,List.take_length_add_append]
 have hl:(((pre++u).drop k).take n).length=n:=by rw[jz,xj,je];omega
 have hlt:=kG (((pre++u).drop k).take n) λb h=>by
  rcases List.mem_append.mp (List.mem_of_mem_drop (List.mem_of_mem_take h))with h|h
  ·exact hb b h
  ·exact hu b h
 rw[hl]at hlt;rw[e1,e2,qe,hl,Int.add_comm,Int.add_mul_emod_self_right,Int.emod_eq_of_lt hlt.1 hlt.2]at h1;have h2:=kE m0 (u.take k) (aR pre) ha;rw[Int.emod_eq_of_lt h2.1 h2.2]at h1;exact h1
def bX:Nat->Nat->Nat
 |0,_=>0
 |f+1,n=>(n % 2+bX f (n / 2)) % 2
theorem tX:∀f,bX f 0=0
 |0=>rfl
 |f+1=>by unfold bX;rw[show(0:Nat) / 2=0 from rfl,tX f]
theorem wV:∀f n,bX f n<2
 |0,_=>Nat.zero_lt_two
 |f+1,n=>Nat.mod_lt _ (by decide)
def dI(win tap:Int):Int:=(bX 5 (win.toNat &&& tap.toNat):Nat)
theorem qnh{a t:Int}:dI a t=0∨dI a t=1:=by have:=wV 5 (a.toNat &&& t.toNat);unfold dI;omega
theorem qlz(x y:Nat):(x &&& y) / 2=x / 2 &&& y / 2:=by apply Nat.eq_of_testBit_eq;intro i;rw[Nat.testBit_div_two,Nat.testBit_and,Nat.testBit_and,Nat.testBit_div_two,Nat.testBit_div_two]
theorem qq5(x y:Nat):(x &&& y) % 2=(x % 2)*(y % 2):=by have h:=Nat.testBit_and x y 0;simp only[Nat.testBit_zero]at h;have h1:=Nat.mod_two_eq_zero_or_one x;have h2:=Nat.mod_two_eq_zero_or_one y;have h3:=Nat.mod_two_eq_zero_or_one (x &&& y);rcases h1 with h1|h1<;>rcases h2 with h2|h2<;>rcases h3 with h3|h3<;>simp_all
def c6:List Int->Int->Int
 |[],_=>0
 |b::bs,t=>(t % 2)*b+c6 bs (t / 2)
theorem Fz:∀(f:Nat) (ws:List Int) (t:Int),ax ws->ws.length<=f->0<=t->((bX f ((aR ws.reverse).toNat &&& t.toNat):Nat):Int)=c6 ws t % 2
 | f,[],t,_,_,_=>by have:(aR ([]:List Int).reverse).toNat=0:=rfl;rw[this,Nat.zero_and,tX];rfl
 |0,b::bs,t,_,h,_=>by simp at h
 | f+1,b::bs,t,hb,hl,ht=>by
  have ih:=Fz f bs (t / 2) (λx hx=>hb x (j9 _ hx)) (by simpa using hl) (by omega);have hw:=kG bs.reverse λx hx=>hb x (j9 _ (List.mem_reverse.mp hx));have hbb:=hb b ja;rw[List.reverse_cons,ym];unfold bX c6;rw[qlz,qq5];have e1:(aR bs.reverse*2+b).toNat / 2=(aR bs.reverse).toNat:=by omega
  have e2:t.toNat / 2=(t / 2).toNat:=by omega
  have e3:(aR bs.reverse*2+b).toNat % 2=b.toNat:=by omega
  have e4:(t.toNat % 2:Nat)=(t % 2).toNat:=by omega
  rw[e1,e2,e3,e4];generalize bX f ((aR bs.reverse).toNat &&& (t / 2).toNat)=P at ih ⊢;generalize c6 bs (t / 2)=Q at ih ⊢;have t2:t % 2=0∨t % 2=1:=by omega
  rcases hbb with rfl|rfl<;>rcases t2 with q|q<;>rw[q]<;>simp<;>omega
theorem qjl{ws:List Int}(t:Int)(hb:ax ws)(hl:ws.length<=5)(ht:0<=t):dI (aR ws.reverse) t=c6 ws t % 2:=Fz 5 ws t hb hl ht
def fq(row:List Int)(signs:List Int):List Int:=((signs.zip row).filter λq=>q.2==1).map (·.1)
theorem qg(row U:List Int)(g:Int->Int):fq row (U.map g)=((U.zip row).filter λq=>q.2==1).map λq=>g q.1:=by unfold fq;rw[List.zip_map_left,List.filter_map,jg];rfl
def aF(G:List (List Int))(k:Nat):List Int:=(G[k % G.length]?).getD []
def gc(n:Nat)(U:List Int)(G:List (List Int))(a:Int)(u:List Int)(k:Nat):List Int:=
 fq (aF G k) (U.map (dI (2*bi (2^n) a (u.take k)+u.getD k 0)))
def pC(n:Nat)(U:List Int)(G:List (List Int))(a:Int)(u:List Int):List Int:=(List.range u.length).flatMap (gc n U G a u)
theorem gD{α:Type}(f:Nat->List α)(k:Nat):(List.range (k+1)).flatMap f=(List.range k).flatMap f++f k:=by rw[List.range_succ,List.flatMap_append];simp
theorem tO{α:Type}(f:Nat->List α)(m:Nat)(h:∀k,(f k).length<=m):∀n,((List.range n).flatMap f).length<=n*m
 |0=>by simp
 | n+1=>by rw[gD,je];have:=tO f m h n;have:=h n;rw[Nat.succ_mul];omega
def dh(ring:Bool)(n:Nat)(w:List Int):List Int:=if ring=true then w.drop (w.length-n)else List.replicate n 0
def cj(ring:Bool)(w:List Int)(i:Int):Int:=if 0<=i/\i<w.length then w.getD i.toNat 0 else if ring=true then w.getD (i+w.length).toNat 0 else 0
theorem EY{ring:Bool}{n:Nat}{w:List Int}(h:ring=true->n<=w.length):(dh ring n w).length=n:=by
 unfold dh;split
 ·rename_i q;have:=h q;rw[xj];omega
 ·rw[ji]
theorem FA{ring:Bool}{n:Nat}{w:List Int}(h:ax w):ax (dh ring n w):=by
 unfold dh;split
 ·exact λb hb=>h b (List.mem_of_mem_drop hb)
 ·exact λb hb=>.inl (List.eq_of_mem_replicate hb)
theorem qq7{ring:Bool}{n z:Nat}{w:List Int}(h:ring=true->n<=w.length/\z=0){i:Nat}(hi:i<n+(w.length+z)):
 (dh ring n w++(w++List.replicate z 0))[i]? =some (cj ring w ((i:Int)-n)):=by
 have hl:(dh ring n w).length=n:=EY λq=>(h q).1;by_cases h1:i<n
 ·rw[xv (by omega)];unfold cj;rw[if_neg (by omega)];unfold dh;cases ring with
  | true=>
   obtain⟨h2,h3⟩:=h rfl;simp only[if_true];have e:w.length-n+i<w.length:=by omega
   have e2:((i:Int)-n+w.length).toNat=w.length-n+i:=by omega
   rw[List.getElem?_drop,j8 e,e2,jc,j8 e];rfl
  | false=>
   simp only[Bool.false_eq_true,if_false];rw[xr,if_pos h1]
 ·rw[xo (by omega),hl];have e2:((i:Int)-n).toNat=i-n:=by omega
  unfold cj;by_cases h4:i-n<w.length
  ·rw[if_pos ⟨by omega,by omega⟩,e2,xv h4,jc,j8 h4];rfl
  ·rw[if_neg (by omega)];cases ring with
   | true=>
    obtain⟨h2,h3⟩:=h rfl;omega
   | false=>
    simp only[Bool.false_eq_true,if_false];rw[xo (by omega),xr,if_pos (by omega)]
def gH(ring:Bool)(w:List Int)(k:Int)(n:Nat):List Int:=(List.range n).map λ(j:Nat)=>cj ring w (k-(j:Int))
theorem iA{u v:List Int}(hu:ax u)(hv:ax v):ax (u++v):=λb h=>by
 rcases List.mem_append.mp h with h|h
 ·exact hu b h
 ·exact hv b h
theorem lU(z:Nat):ax (List.replicate z 0):=λb h=>.inl (List.eq_of_mem_replicate h)
theorem qqc{ring:Bool}{n z:Nat}{w:List Int}(hb:ax w)(h:ring=true->n<=w.length/\z=0){k:Nat}(hk:k<w.length+z):
 2*bi (2^n) (aR (dh ring n w)) ((w++List.replicate z 0).take k)+(w++List.replicate z 0).getD k 0=aR (gH ring w k (n+1)).reverse/\ax (gH ring w k (n+1)):=by
 have hl:(dh ring n w).length=n:=EY λq=>(h q).1;have hu:ax (w++List.replicate z 0):=iA hb (lU z);have hul:(w++List.replicate z 0).length=w.length+z:=by rw[je,ji]
 have ga:∀i,i<n+(w.length+z)->(dh ring n w++(w++List.replicate z 0))[i]? =some (cj ring w ((i:Int)-n)):=λi hi=>qq7 h hi;have gu:∀j,j<w.length+z->(w++List.replicate z 0)[j]? =some (cj ring w (j:Int)):=λj hj=>by have:=ga (n+j) (by omega);rw[xo (by omega),hl,show n+j-n=j from by omega]at this;rw[this];congr 2;omega
 rw[EC n (dh ring n w) (w++List.replicate z 0) hl (FA hb) hu k (by omega)];have hBs:ax (dh ring n w++(w++List.replicate z 0)):=iA (FA hb) hu;have hLl:(dh ring n w++(w++List.replicate z 0)).length=n+(w.length+z):=by rw[je,hl,hul]
 generalize hL:dh ring n w++(w++List.replicate z 0)=L at ga hBs hLl ⊢;have e1:(w++List.replicate z 0).getD k 0=cj ring w (k:Int):=by rw[jc,gu k hk];rfl
 rw[e1];have e2:(gH ring w k (n+1)).reverse=(L.drop k).take n++[cj ring w (k:Int)]:=by
  apply List.ext_getElem?;intro i;have lb:(gH ring w k (n+1)).length=n+1:=by unfold gH;rw[j3,List.length_range]
  have lt:((L.drop k).take n).length=n:=by rw[jz,xj];omega
  by_cases hi:i<n+1
  ·rw[List.getElem?_reverse (by omega),lb];unfold gH;rw[jd,xm (by omega)];by_cases hi2:i<n
   ·rw[xv (by omega),List.getElem?_take_of_lt hi2,List.getElem?_drop,ga (k+i) (by omega)];show some (cj ring w ((k:Int)-((n+1-1-i:Nat):Int)))=some (cj ring w (((k+i:Nat):Int)-(n:Int)));congr 2;omega
   ·have:i=n:=by omega
    subst this;rw[xo (by omega),lt,Nat.sub_self];show some (cj ring w ((k:Int)-((i+1-1-i:Nat):Int)))=some (cj ring w (k:Int));congr 2;omega
  ·rw[jw (by rw[List.length_reverse];omega),jw (by rw[je,List.length_singleton];omega)]
 refine⟨by rw[e2,ym];omega,λb hb'=>?_⟩;have:b∈(gH ring w k (n+1)).reverse:=List.mem_reverse.mpr hb';rw[e2]at this;rcases List.mem_append.mp this with q|q
 ·exact hBs b (List.mem_of_mem_drop (List.mem_of_mem_take q))
 ·rw[List.mem_singleton.mp q,<-e1];rw[jc,j8 (by omega)];exact hu _ (xk _)
theorem qjm{ring:Bool}{n z:Nat}{w:List Int}(hn:n<=4)(hb:ax w)(h:ring=true->n<=w.length/\z=0){k:Nat}(hk:k<w.length+z){t:Int}(ht:0<=t):
 dI (2*bi (2^n) (aR (dh ring n w)) ((w++List.replicate z 0).take k)+(w++List.replicate z 0).getD k 0) t=c6 (gH ring w k (n+1)) t % 2:=by
 obtain⟨h1,h2⟩:=qqc hb h hk;rw[h1];exact qjl t h2 (by unfold gH;rw[j3,List.length_range];omega) ht
def bF(U:List Int)(G:List (List Int))(k:Nat):List (Int×Int):=(U.zip (aF G k)).filter λq=>q.2==1
theorem qjo{U:List Int}{G:List (List Int)}{k:Nat}{q:Int×Int}(h:q∈bF U G k):q.1∈U:=by have:=(List.mem_filter.mp h).1;exact(List.of_mem_zip (show(q.1,q.2)∈_ from this)).1
def g9(ring:Bool)(n:Nat)(U:List Int)(G:List (List Int))(w:List Int)(N:Nat):List Int:=
 (List.range N).flatMap λk=>(bF U G k).map λq=>c6 (gH ring w k (n+1)) q.1 % 2
theorem FZ{α:Type}{f g:Nat->List α}{N:Nat}(h:∀k,k<N->f k=g k):(List.range N).flatMap f=(List.range N).flatMap g:=by
 induction N with
 |zero=>rfl
 |succ N ih=>rw[gD,gD,ih λk hk=>h k (by omega),h N (by omega)]
theorem qjn{ring:Bool}{n z:Nat}{U:List Int}{G:List (List Int)}{w:List Int}(hn:n<=4)(hb:ax w)(h:ring=true->n<=w.length/\z=0)(ht:∀t∈U,0<=t):
 pC n U G (aR (dh ring n w)) (w++List.replicate z 0)=g9 ring n U G w (w.length+z):=by
 unfold pC g9;rw[je,ji];refine FZ λk hk=>?_;unfold gc;rw[qg];show(bF U G k).map _=_;refine List.map_congr_left λq hq=>?_;exact qjm hn hb h hk (ht _ (qjo hq))
def eI(u v:List Int):List Int:=List.zipWith (λa b=>if a=b then 0 else 1) u v
theorem Fb:∀u v:List Int,ax (eI u v)
 |[],_=>λb h=>by simp[eI]at h
 |_::_,[]=>λb h=>by simp[eI]at h
 | a::u,c::v=>λb h=>by
  have e:eI (a::u) (c::v)=(if a=c then 0 else 1)::eI u v:=rfl;rw[e]at h;rcases List.mem_cons.mp h with rfl|h
  ·split
   ·exact .inl rfl
   ·exact .inr rfl
  ·exact Fb u v b h
theorem Et{u v:List Int}(hu:ax u)(hv:ax v)(hl:u.length=v.length)(i:Nat):(eI u v).getD i 0=(u.getD i 0+v.getD i 0) % 2:=by
 unfold eI;rw[jc,jc,jc,List.getElem?_zipWith];cases h1:u[i]? with
 | none=>
  have:v[i]? =none:=jw (by have:=List.getElem?_eq_none_iff.mp h1;omega);rw[this];rfl
 | some a=>
  cases h2:v[i]? with
  | none=>
   have:=List.getElem?_eq_none_iff.mp h2;have:=(List.getElem?_eq_some_iff.mp h1).1;omega
  | some b=>
   show(if a=b then 0 else 1)=(a+b) % 2;rcases hu a (xi h1)with rfl|rfl<;>rcases hv b (xi h2)with rfl|rfl<;>rfl
theorem xE{u v:List Int}(hl:u.length=v.length):(eI u v).length=u.length:=by unfold eI;rw[List.length_zipWith];omega
theorem qld{ring:Bool}{u v:List Int}(hu:ax u)(hv:ax v)(hl:u.length=v.length)(i:Int):cj ring (eI u v) i=(cj ring u i+cj ring v i) % 2:=by
 unfold cj;rw[xE hl,hl];split
 ·exact Et hu hv hl _
 ·split
  ·exact Et hu hv hl _
  ·rfl
theorem EQ{ring:Bool}{u v:List Int}(hu:ax u)(hv:ax v)(hl:u.length=v.length):∀(js:List Int) (t:Int),c6 (js.map (cj ring (eI u v))) t % 2=(c6 (js.map (cj ring u)) t+c6 (js.map (cj ring v)) t) % 2
 |[],_=>rfl
 | j::js,t=>by
  have ih:=EQ hu hv hl (ring:=ring) js (t / 2);simp only[List.map_cons,c6];rw[qld hu hv hl];generalize c6 (js.map (cj ring (eI u v))) (t / 2)=A at ih ⊢;generalize c6 (js.map (cj ring u)) (t / 2)=B at ih ⊢;generalize c6 (js.map (cj ring v)) (t / 2)=C at ih ⊢;have t2:t % 2=0∨t % 2=1:=by omega
  rcases t2 with q|q<;>rw[q]<;>omega
theorem xZ(ring:Bool)(w:List Int)(k:Int)(n:Nat):gH ring w k n=((List.range n).map λ(j:Nat)=>k-(j:Int)).map (cj ring w):=by unfold gH;rw[jg];rfl
theorem Ff{α:Type}(S:Nat->List α)(f g:Nat->α->Int)(op:Int->Int->Int):∀N,List.zipWith op ((List.range N).flatMap λk=>(S k).map (f k)) ((List.range N).flatMap λk=>(S k).map (g k))=(List.range N).flatMap λk=>(S k).map λq=>op (f k q) (g k q)
 |0=>rfl
 | N+1=>by
  have len:∀N,((List.range N).flatMap λk=>(S k).map (f k)).length=((List.range N).flatMap λk=>(S k).map (g k)).length:=λN=>by
   induction N with
   |zero=>rfl
   |succ N ih=>rw[gD,gD,je,je,ih,j3,j3]
  rw[gD,gD,gD,List.zipWith_append (len N),Ff S f g op N];congr 1;rw[List.zipWith_map,List.zipWith_self]
theorem qfv{ring:Bool}{n N:Nat}{U:List Int}{G:List (List Int)}{u v:List Int}(hu:ax u)(hv:ax v)(hl:u.length=v.length):
 g9 ring n U G (eI u v) N=eI (g9 ring n U G u N) (g9 ring n U G v N):=by
 unfold g9;show _=List.zipWith (λa b=>if a=b then 0 else 1) _ _;rw[Ff (bF U G) (λk q=>c6 (gH ring u k (n+1)) q.1 % 2) (λk q=>c6 (gH ring v k (n+1)) q.1 % 2)];refine FZ λk hk=>List.map_congr_left λq hq=>?_;rw[xZ,xZ,xZ,EQ hu hv hl];generalize c6 (List.map (cj ring u) _) q.1=A;generalize c6 (List.map (cj ring v) _) q.1=B;show _=if A % 2=B % 2 then(0:Int)else 1
 split<;>omega
theorem Fv:∀(js:List Int) (t:Int),(∀b∈js,b=0)->c6 js t=0
 |[],_,_=>rfl
 | b::js,t,h=>by unfold c6;rw[h b ja,Fv js (t / 2) λx hx=>h x (j9 _ hx)];simp
theorem qe8{ring:Bool}{n N m:Nat}{U:List Int}{G:List (List Int)}:g9 ring n U G (List.replicate m 0) N=List.replicate (g9 ring n U G (List.replicate m 0) N).length 0:=by
 refine List.eq_replicate_iff.mpr ⟨rfl,λb hb=>?_⟩;unfold g9 at hb;obtain⟨k,hk,hb⟩:=List.mem_flatMap.mp hb;obtain⟨q,hq,rfl⟩:=List.mem_map.mp hb;rw[Fv _ _ λx hx=>?_]
 ·rfl
 ·unfold gH at hx;obtain⟨j,_,rfl⟩:=List.mem_map.mp hx;have g:∀j,(List.replicate m (0:Int)).getD j 0=0:=λj=>by
   rw[jc,xr];split<;>rfl
  unfold cj;split
  ·exact g _
  ·split
   ·exact g _
   ·rfl
theorem t7{ring:Bool}{n N:Nat}{U:List Int}{G:List (List Int)}{w:List Int}:ax (g9 ring n U G w N):=λb hb=>by unfold g9 at hb;obtain⟨k,hk,hb⟩:=List.mem_flatMap.mp hb;obtain⟨q,hq,rfl⟩:=List.mem_map.mp hb;omega
end L2
namespace L2
open PySem
def dq(row:List Int):D:=.tup (row.map D.int)
def aw(r:Int)(U:List Int)(G:List (List Int))(e:Str):D:=.tup [.int r,.tup (U.map D.int),.tup (G.map dq),.str e]
structure q2a(r:Int)(U:List Int)(G:List (List Int))(e:Str):Prop where
 r0:0<=r
 r4:r<=4
 t1:1<=U.length
 t4:U.length<=4
 tb:∀t∈U,0<=t/\t<2*2^r.toNat
 m1:1<=G.length
 m6:G.length<=6
 rw:∀row∈G,row.length=U.length/\∀b∈row,b=0∨b=1
 en:e="open"∨e="ended"∨e="ring"
theorem pX{P:Int->Prop}:∀{ys:List D},(∀y∈ys,∃t,y=.int t/\P t)->∃ts:List Int,ys=ts.map D.int/\∀t∈ts,P t
 |[],_=>⟨[],rfl,λ_ h=>nomatch h⟩
 | y::ys,h=>by
  obtain⟨t,rfl,ht⟩:=h y ja;obtain⟨ts,rfl,hs⟩:=pX (P:=P) λz hz=>h z (j9 _ hz);refine⟨t::ts,rfl,λu hu=>?_⟩;rcases List.mem_cons.mp hu with rfl|hu
  ·exact ht
  ·exact hs u hu
theorem i9:cB (.str "open") (.str "ring")=some false:=by rw[hU (by decide+kernel) (by decide+kernel)];decide+kernel
theorem jp:cB (.str "ended") (.str "ring")=some false:=by rw[hU (by decide+kernel) (by decide+kernel)];decide+kernel
theorem iG:cB (.str "ring") (.str "ring")=some true:=by rw[hU (by decide+kernel) (by decide+kernel)];decide+kernel
theorem qD:cB (.str "open") (.str "ended")=some false:=by rw[hU (by decide+kernel) (by decide+kernel)];decide+kernel
theorem qE:cB (.str "ended") (.str "ended")=some true:=by rw[hU (by decide+kernel) (by decide+kernel)];decide+kernel
theorem qC:cB (.str "ring") (.str "ended")=some false:=by rw[hU (by decide+kernel) (by decide+kernel)];decide+kernel
def bG(r:Int)(e:Str)(w:List Int):Int:=if e="ring" then aR (w.drop (w.length-r.toNat))else 0
def rZ(r:Int)(e:Str)(w:List Int):List Int:=if e="ended" then w++List.replicate r.toNat 0 else w
theorem qq4{α:Type}{xs:List α}{x:α}:bO (xs++[x]) (-1)=some x:=by
 unfold bO fK;have h1:¬((0:Int)<= -1):=by decide
 have h2:(-(((xs++[x]).length:Nat):Int)<= -1):=by rw[je,List.length_singleton];omega
 have h3:((-1:Int)+(((xs++[x]).length:Nat):Int)).toNat=xs.length:=by rw[je,List.length_singleton];omega
 rw[if_neg h1,if_pos h2,h3];show(xs++[x])[xs.length]? =some x;rw[xo (j7 _),Nat.sub_self];rfl
theorem ql2(n:Nat)(w:List Int)(hb:∀b∈w,b=0∨b=1)(hn:n<=w.length):bi (2^n) (aR (w.drop (w.length-n))) w=aR (w.drop (w.length-n)):=by
 have m0:(0:Int)<2^n:=Int.pow_pos (by decide);have hl:(w.drop (w.length-n)).length=n:=by rw[xj];omega
 have ha:=kG (w.drop (w.length-n)) λb h=>hb b (List.mem_of_mem_drop h);rw[hl]at ha;generalize hz:aR (w.drop (w.length-n))=a at ha ⊢;have h1:=qa (2^n) w a;have hw:aR w=aR (w.take (w.length-n))*2^n+a:=by have:=qe (w.take (w.length-n)) (w.drop (w.length-n));rw[List.take_append_drop,hl,hz]at this;exact this
 have hp:(2:Int)^w.length=2^(w.length-n)*2^n:=by rw[<-Int.pow_add];congr 1;omega
 rw[kK,hw,hp,<-Int.mul_assoc,<-Int.add_assoc,<-Int.add_mul,Int.add_comm,Int.add_mul_emod_self_right,Int.emod_eq_of_lt ha.1 ha.2]at h1;have h2:=kE m0 w a ha;rw[Int.emod_eq_of_lt h2.1 h2.2]at h1;exact h1
def bE(e:Str):Bool:=decide (e="ring")
def az(r:Int)(e:Str):Nat:=if e="ended" then r.toNat else 0
theorem xH(r:Int)(e:Str)(w:List Int):rZ r e w=w++List.replicate (az r e) 0:=by
 unfold rZ az;split
 ·rfl
 ·simp
theorem qox(r:Int)(e:Str)(w:List Int):bG r e w=aR (dh (bE e) r.toNat w):=by
 unfold bG dh bE;by_cases h:e="ring"
 ·rw[if_pos h,decide_eq_true h,if_pos rfl]
 ·rw[if_neg h,decide_eq_false h,if_neg (by decide),yn]
theorem qgq{r:Int}{e:Str}{n:Nat}(hw:e="ring"->r.toNat<=n):bE e=true->r.toNat<=n/\az r e=0:=λh=>by have he:e="ring":=of_decide_eq_true h;subst he;exact⟨hw rfl,if_neg (by decide)⟩
theorem qq6{x:Int}(h:0<=x):Builtin.bitAnd x 1=x % 2:=by unfold Builtin.bitAnd;rw[decide_eq_true h,decide_eq_true (by decide:(0:Int)<=1)];show((x.toNat &&& 1:Nat):Int)=x % 2;rw[Nat.and_one_is_mod];omega
theorem DZ{x y:Int}(h:0<=x)(g:0<=y):Builtin.bitAnd x y=((x.toNat &&& y.toNat:Nat):Int):=by unfold Builtin.bitAnd;rw[decide_eq_true h,decide_eq_true g]
theorem qj9{x y:Int}(h:x=0∨x=1)(g:y=0∨y=1):Builtin.bitXor x y=(x+y) % 2:=by rcases h with rfl|rfl<;>rcases g with rfl|rfl<;>decide
theorem jQ{r:Int}(r0:0<=r)(r4:r<=4):(1:Int)<=2^r.toNat/\(2:Int)^r.toNat<=16:=by rcases(by omega:r=0∨r=1∨r=2∨r=3∨r=4)with rfl|rfl|rfl|rfl|rfl<;>decide
end L2
namespace L2
open PySem PySem.Spec
def DOk(n:Nat)(d:D):Prop:=∃p,d.toP=some p/\p.canLay0=true/\p.depth<=n
def DOks(n:Nat)(ds:List D):Prop:=∃ps,D.toPs ds=some ps/\PyData.canLayAll0 ps=true/\PyData.depthAll ps<=n
theorem DOk.int(n:Nat)(i:Int):DOk n (.int i):=⟨.int i,by simp only[D.toP],by simp only[PyData.canLay0],by simp only[PyData.depth];exact Nat.zero_le _⟩
theorem DOk.bl(n:Nat)(i:Bool):DOk n (.bl i):=⟨.bool i,by simp only[D.toP],by simp only[PyData.canLay0],by simp only[PyData.depth];exact Nat.zero_le _⟩
theorem DOk.str(n:Nat){x:Str}(h:PyData.strOk x=true):DOk n (.str x):=⟨.str x,by simp only[D.toP],by simp only[PyData.canLay0];exact h,by simp only[PyData.depth];exact Nat.zero_le _⟩
theorem DOks.nil(n:Nat):DOks n []:=⟨[],by simp only[D.toPs],by simp only[PyData.canLayAll0],by simp only[PyData.depthAll];exact Nat.zero_le _⟩
theorem DOks.cons{n:Nat}{d:D}{ds:List D}(h:DOk n d)(r:DOks n ds):DOks n (d::ds):=by obtain⟨p,h1,h2,h3⟩:=h;obtain⟨ps,g1,g2,g3⟩:=r;refine⟨p::ps,by simp only[D.toPs,h1,g1],by simp only[PyData.canLayAll0,h2,g2];rfl,?_⟩;simp only[PyData.depthAll];exact Nat.max_le.mpr ⟨h3,g3⟩
theorem DOks.lst{n:Nat}{ds:List D}(h:DOks n ds):DOk (n+1) (.lst ds):=by obtain⟨ps,g1,g2,g3⟩:=h;exact⟨.list ps,by simp only[D.toP,g1];rfl,by simp only[PyData.canLay0];exact g2,by simp only[PyData.depth];omega⟩
theorem DOks.tup{n:Nat}{ds:List D}(h:DOks n ds):DOk (n+1) (.tup ds):=by obtain⟨ps,g1,g2,g3⟩:=h;exact⟨.tuple ps,by simp only[D.toP,g1];rfl,by simp only[PyData.canLay0];exact g2,by simp only[PyData.depth];omega⟩
theorem DOk.le{n m:Nat}{d:D}(h:DOk n d)(hn:n<=m):DOk m d:=by obtain⟨p,h1,h2,h3⟩:=h;exact⟨p,h1,h2,by omega⟩
end L2
namespace L2
open PySem PySem.Spec
end L2
namespace L2
open PySem PySem.Spec PySem.NumText
section
variable{K:au}{O:List Nat}{E:XK}
end
end L2
namespace L2
open PySem PySem.Spec PyProof.Rows
section
variable{c:MC}{O O':List Nat}{te:TE}{fa:aJ}
end
section
variable{M:Model}{A:Around}{E:Value->Shared->Prop}{s:Shared}{B:Heap}{env:Env}{outer l:List Env}{L e:Addr}{cls fl:Value}{Q:Unit->Shared->Prop}
end
section
variable{X:Cx}{z5:List (Addr×Obj)}{σ:St}{H H':Hp}{s:Shared}
end
section
variable{P:Program}{w:World}{K:au}{mg:Str->Option Value}{base:Heap}{N:List Str}{qual:Str}{scope:Scope}{f:Addr}{cd:Value}{A:Around}{outer:List Env}{s₀:Shared}{H₀:Hp}{E:XK}
end
section
variable{X:Cx}{tg elt zd:Expr}{ifs:List Expr}{scope:Scope}{pos:Pos}{N N0:List Str}{n:Nat}{js:List Nat}{sc:Scope}{wi:TI}{g:TG}{tt:TT}{te:TE}
end
section
variable{X:Cx}{tg elt zd:Expr}{ifs:List Expr}{scope:Scope}{pos:Pos}{N N0:List Str}{n:Nat}{js:List Nat}{sc:Scope}{wi:TI}{g:TG}{tt:TT}{te:TE}
end
@[irreducible] def QSs(X:Cx)(st:List Stmt)(t:TS):Prop:=PSs X st t
section
variable{X:Cx}{st:Stmt}{sts a b:List Stmt}{t u:TS}{tc:TT}{c tg zd:Expr}{wi:TI}{g:TG}{pos:Pos}
end
inductive Inn(K:au)(H R:Hp):List Addr->List (List D)->Prop
 |nil:Inn K H R [] []
 |cons {a:Addr} {as:List Addr} {vs:List V} {ds:List D} {dss:List (List D)}:H a=some (.lst vs)->R a=none->Rps K R vs ds->Inn K H R as dss->Inn K H R (a::as) (ds::dss)
structure Deep(K:au)(H R:Hp)(l:Addr)(as:List Addr)(dss:List (List D)):Prop where
 top:H l=some (.lst (as.map V.ref))
 rl:R l=none
 inn:Inn K H R as dss
 nd:(l::as).Nodup
theorem StR.put{K:au}{Z:Anc}{O:List Nat}{σ:St}{H R:Hp}{ρ:aB}{a:Addr}{o:HO}(S:StR K Z O σ H R ρ)(hr:R a=none)(n:∀i,i∈O->σ[i]? ≠some (some (.ref a)))(z:Z.H0 a=none):StR K Z O σ (aP H a o) R ρ:=by
 have ne:∀b u,Z.H0 b=some u->b≠a:=λb u e q=>by rw[q,z]at e;cases e
 refine⟨λb u e=>?_,S.len,S.env,λi hi=>?_,S.dis,λb u e nl=>?_,S.ar,S.an,λb h=>?_,S.ao,S.ap⟩
 ·have q:b≠a:=λq=>by rw[q,hr]at e;cases e
  rw[aU q];exact S.sub b u e
 ·obtain⟨l,vs,ds,h1,h2,h3,h4,h5⟩:=S.own i hi;have q:l≠a:=λq=>n i hi (by rw[h2,q]);exact⟨l,vs,ds,h1,h2,by rw[aU q];exact h3,h4,h5⟩
 ·rw[aU (ne b u e)];exact S.ah b u e nl
 ·have q:b≠a:=λq=>h (by rw[q];exact z);have l:=S.ad b h;unfold Liv at l ⊢;rw[aU q];exact l
theorem Inn.has{K:au}{H R:Hp}{as:List Addr}{dss:List (List D)}(h:Inn K H R as dss):∀a∈as,∃vs,H a=some (.lst vs):=by
 induction h with
 |nil=>exact λ_ h=>nomatch h
 | cons h1 _ _ _ ih=>
  intro a ha;rcases List.mem_cons.mp ha with rfl|ha
  ·exact⟨_,h1⟩
  ·exact ih a ha
theorem Inn.wr{K:au}{H R:Hp}{as:List Addr}{dss:List (List D)}{b:Addr}{o:HO}(h:Inn K H R as dss)(n:b∉as):Inn K (aP H b o) R as dss:=by
 induction h with
 |nil=>exact .nil
 | cons h1 h2 h3 _ ih=>
  exact .cons (by rw[aU λq=>n (by rw[q];exact ja)];exact h1) h2 h3 (ih λq=>n (j9 _ q))
theorem Inn.len{K:au}{H R:Hp}{as:List Addr}{dss:List (List D)}(h:Inn K H R as dss):as.length=dss.length:=by
 induction h with
 |nil=>rfl
 |cons _ _ _ _ ih=>rw[jl,jl,ih]
theorem Inn.at{K:au}{H R:Hp}{as:List Addr}{dss:List (List D)}(h:Inn K H R as dss):∀{k:Nat} {a:Addr},as[k]? =some a->∃vs ds,dss[k]? =some ds/\H a=some (.lst vs)/\R a=none/\Rps K R vs ds:=by
 induction h with
 |nil=>intro k a e;simp at e
 | cons h1 h2 h3 _ ih=>
  intro k a e;cases k with
  | zero=>
   cases e;exact⟨_,_,rfl,h1,h2,h3⟩
  |succ k=>exact ih e
theorem Inn.setAt{K:au}{H R:Hp}{as:List Addr}{dss:List (List D)}{vs:List V}{ds:List D}(h:Inn K H R as dss)(r:Rps K R vs ds):∀{k:Nat} {a:Addr},as.Nodup->as[k]? =some a->Inn K (aP H a (.lst vs)) R as (dss.set k ds):=by
 induction h with
 |nil=>intro k a _ e;simp at e
 | @cons b _ _ _ _ h1 h2 h3 t ih=>
  intro k a nd e;obtain⟨n1,n2⟩:=List.nodup_cons.mp nd;cases k with
  | zero=>
   cases e;exact .cons cM h2 r (t.wr n1)
  | succ k=>
   rw[List.getElem?_cons_succ]at e;have m:=xi e;have ne:b≠a:=λq=>n1 (by rw[q];exact m);exact .cons (by rw[aU ne];exact h1) h2 h3 (ih n2 e)
theorem Deep.setAt{K:au}{H R:Hp}{l a:Addr}{as:List Addr}{dss:List (List D)}{vs:List V}{ds:List D}{k:Nat}(h:Deep K H R l as dss)(e:as[k]? =some a)(r:Rps K R vs ds):Deep K (aP H a (.lst vs)) R l as (dss.set k ds):=by obtain⟨n1,n2⟩:=List.nodup_cons.mp h.nd;have ne:l≠a:=λq=>n1 (by rw[q];exact xi e);exact⟨by rw[aU ne];exact h.top,h.rl,h.inn.setAt r n2 e,h.nd⟩
theorem Inn.other{K:au}{H R:Hp}{as:List Addr}{dss:List (List D)}{b:Addr}{o:HO}(h:Inn K H R as dss)(n:b∉as)(hb:R b=none):Inn K H (aP R b o) as dss:=by
 have s:Same R (aP R b o):=λa u e=>by
  have q:a≠b:=λq=>by rw[q,hb]at e;cases e
  rw[aU q];exact e
 induction h with
 |nil=>exact .nil
 | cons h1 h2 h3 _ ih=>
  exact .cons h1 (by rw[aU λq=>n (by rw[q];exact ja)];exact h2) (h3.mono s) (ih λq=>n (j9 _ q))
theorem StR.knowAll{K:au}{Z:Anc}{O:List Nat}{σ:St}{H:Hp}{ρ:aB}:∀{as:List Addr} {dss:List (List D)} {R:Hp},StR K Z O σ H R ρ->Inn K H R as dss->as.Nodup->(∀a∈as,Z.H0 a=none/\∀j,j∈O->σ[j]? ≠some (some (.ref a)))->∃R1,StR K Z O σ H R1 ρ/\Same R R1/\Rps K R1 (as.map V.ref) (dss.map D.lst)/\∀b,b∉as->R1 b=R b
 | [],dss,R,S,h,_,_=>by
  have l:=h.len;cases dss with
  |cons x r=>simp at l
  |nil=>exact⟨R,S,Same.refl _,.nil,λ_ _=>rfl⟩
 | a::as,dss,R,S,h,nd,hz=>by
  cases h with
  | @cons _ _ vs ds dss h1 h2 h3 h4=>
   obtain⟨na,nd'⟩:=List.nodup_cons.mp nd;obtain⟨z1,z2⟩:=hz a ja;have s:Same R (aP R a (.lst vs)):=λb u e=>by
    have q:b≠a:=λq=>by rw[q,h2]at e;cases e
    rw[aU q];exact e
   obtain⟨R1,S1,s1,r1,o1⟩:=StR.knowAll (S.know z1 h1 h2 z2) (h4.other na h2) nd' λb hb=>hz b (j9 _ hb);refine⟨R1,S1,s.trans s1,.cons (.lst (SqL.of (s1 _ _ cM)) ((h3.mono s).mono s1)) r1,λb hb=>?_⟩;have hb1:b≠a:=λq=>hb (by rw[q];exact ja);rw[o1 b λq=>hb (j9 _ q),aU hb1]
theorem Inn.stp{K:au}{O:List Nat}{σ:St}{H R H' R':Hp}{as:List Addr}{dss:List (List D)}(h:Inn K H R as dss)(s:Stp O σ H R H' R')(ow:∀a∈as,∀j,j∈O->σ[j]? ≠some (some (.ref a))):Inn K H' R' as dss:=by
 induction h with
 |nil=>exact .nil
 | @cons a as vs ds dss h1 h2 h3 _ ih=>
  refine .cons (s.h _ _ h1 (ow a ja)) ?_ (h3.mono s.r) (ih λb hb=>ow b (j9 _ hb));cases q:R' a with
  |none=>rfl
  | some o=>
   rcases s.n a (by rw[q];exact λz=>nomatch z)with z|z
   ·exact absurd h2 z
   ·rcases z with z|⟨xs,z⟩<;>(rw[h1]at z;cases z)
structure StD(K:au)(Z:Anc)(O:List Nat)(i:Nat)(σ:St)(H R:Hp)(ρ:aB)(l:Addr)(as:List Addr)(dss:List (List D)):Prop where
 st:StR K Z O σ H R ρ
 hi:i∉O
 no:ρ[i]? =some none
 at':σ[i]? =some (some (.ref l))
 dp:Deep K H R l as dss
 z0:∀a∈l::as,Z.H0 a=none
 ow:∀a∈l::as,∀j,j∈O->σ[j]? ≠some (some (.ref a))
section
variable{K:au}{Z:Anc}{O:List Nat}{i j:Nat}{σ:St}{H R H' R':Hp}{ρ ρ':aB}{l:Addr}{as:List Addr}{dss:List (List D)}
theorem StD.stp(S:StD K Z O i σ H R ρ l as dss)(T:StR K Z O σ H' R' ρ')(s:Stp O σ H R H' R')(no:ρ'[i]? =some none):StD K Z O i σ H' R' ρ' l as dss:=by
 refine⟨T,S.hi,no,S.at',⟨s.h _ _ S.dp.top (S.ow l ja),?_,S.dp.inn.stp s λa ha=>S.ow a (j9 _ ha),S.dp.nd⟩,S.z0,S.ow⟩;cases q:R' l with
 |none=>rfl
 | some o=>
  rcases s.n l (by rw[q];exact λz=>nomatch z)with z|z
  ·exact absurd S.dp.rl z
  ·rcases z with z|⟨xs,z⟩<;>(rw[S.dp.top]at z;cases z)
theorem StD.set(S:StD K Z O i σ H R ρ l as dss){v:V}{d:D}(hj:j∉O)(ij:j≠i)(r:Rp K R v d):StD K Z O i (σ.set j (some v)) H R (ρ.set j (some d)) l as dss:=
 ⟨S.st.set hj r,S.hi,by rw[jf ij];exact S.no,by rw[jf ij];exact S.at',S.dp,S.z0,λa ha k hk=>by rw[jf λ(q:j=k)=>hj (q▸hk)];exact S.ow a ha k hk⟩
theorem StR.blind{v:V}(S:StR K Z O σ H R ρ)(hj:j∉O):StR K Z O (σ.set j (some v)) H R (ρ.set j none):=by
 have ne:∀k,k∈O->j≠k:=λk hk z=>hj (z▸hk);refine⟨S.sub,by rw[x6,x6];exact S.len,λk e hk q=>?_,λk hk=>?_,λk m hk hm n l e=>?_,S.ah,S.ar,S.an,S.ad,λk hk hp l e=>?_,λk hk hp l e=>?_⟩
 ·by_cases hij:j=k
  ·subst hij;have hl:j<ρ.length:=by
    have:=(List.getElem?_eq_some_iff.mp q).1
    rwa [x6]at this
   rw[jy hl]at q;cases q
  ·rw[jf hij]at q ⊢;exact S.env k e hk q
 ·rw[jf (ne k hk),jf (ne k hk)];exact S.own k hk
 ·rw[jf (ne k hk)]at e;rw[jf (ne m hm)];exact S.dis k m hk hm n l e
 ·rw[jf (ne k hk)]at e;exact S.ao k hk hp l e
 ·rw[jf (ne k hk)]at e;exact S.ap k hk hp l e
theorem StD.wrAt{k:Nat}{a:Addr}{vs:List V}{ds:List D}(S:StD K Z O i σ H R ρ l as dss)(e:as[k]? =some a)(r:Rps K R vs ds):StD K Z O i σ (aP H a (.lst vs)) R ρ l as (dss.set k ds):=by have m:a∈l::as:=j9 _ (xi e);obtain⟨_,_,_,_,hr,_⟩:=S.dp.inn.at e;exact⟨S.st.put hr (λj hj=>S.ow a m j hj) (S.z0 a m),S.hi,S.no,S.at',S.dp.setAt e r,S.z0,S.ow⟩
end
abbrev Fd:=aB->List (List D)->Option (aB×List (List D))
def qq(K:au)(O:List Nat)(i:Nat)(t:TS)(f:Fd):Prop:=∀(Z:Anc) (E:Ends) (σ:St) (H R:Hp) (ρ:aB) (l:Addr) (as:List Addr) (dss:List (List D)) (ρ':aB) (zw:List (List D)),StD K Z O i σ H R ρ l as dss->f ρ dss=some (ρ',zw)->
 (∀σ' H' R' as',StD K Z O i σ' H' R' ρ' l as' zw->Same R R'->E.nx σ' H')->t E σ H
section
variable{K:au}{O:List Nat}{i j:Nat}{t u:TS}{te:TE}{tt:TT}{tr:TA}{f h:Fd}{fe:aJ}{fs:aT}{ft:dP}
def dw(ρ:aB)(i:Nat):Bool:=match ρ[i]? with
 |some none=>true
 |_=>false
theorem tV{ρ:aB}{i:Nat}(h:dw ρ i=true):ρ[i]? =some none:=by
 unfold dw at h;split at h
 ·assumption
 ·cases h
end
def u0(K:au)(n:Nat)(f:List D->Option (List (List D))):Sp:=λvs H Q _=>vs.length=n/\∃R ds dss,(∀a o,R a=some o->H a=some o)/\Rps K R vs ds/\f ds=some dss/\
 ∀l as H' R',Ext H R H' R'->(∀a∈l::as,H a=none)->Deep K H' R' l as dss->Q (.ref l) H'
def oh(o:Option (List (List D))):Option D:=o.map λdss=>.lst (dss.map D.lst)
theorem Deep.known{K:au}{H R H' R':Hp}{l:Addr}{as:List Addr}{dss:List (List D)}(x:Ext H R H' R')(z:∀a∈l::as,H a=none)(h:Deep K H' R' l as dss):∃R1,Ext H R H' R1/\Rp K R1 (.ref l) (.lst (dss.map D.lst)):=by
 have S:StR K ⟨H,R,λ_=>False,[]⟩ [] [] H' R' []:=⟨x.s,rfl,λi d _ q=>by simp at q,λi hi=>(nomatch hi),λi j hi=>(nomatch hi),λa o q _=>x.h a o q,x.r,x.n,λa q=>x.h.liv q,λi hi=>(nomatch hi),λi hi=>(nomatch hi)⟩;obtain⟨nl,nd⟩:=List.nodup_cons.mp h.nd;obtain⟨R1,S1,s1,r1,o1⟩:=S.knowAll h.inn nd λa ha=>⟨z a (j9 _ ha),λj hj=>(nomatch hj)⟩;have e1:R1 l=none:=by rw[o1 l nl];exact h.rl
 have S2:=S1.know (z l ja) h.top e1 λj hj=>(nomatch hj);exact⟨_,⟨λa o q=>S2.ah a o q (λz=>z),S2.ar,S2.sub,S2.an⟩,.lst (SqL.of cM) (r1.mono (Same.new e1))⟩
theorem qvi{K:au}{n:Nat}{f:List D->Option (List (List D))}{vs:List V}{H:Hp}{Q:VK}{E:XK}(h:cq K false n (λds=>oh (f ds)) vs H Q E):u0 K n f vs H Q E:=by
 obtain⟨hn,R,ds,d,sub,r,e,k⟩:=h;have e:oh (f ds)=some d:=e;cases q:f ds with
 |none=>rw[q]at e;cases e
 | some dss=>
  rw[q]at e;cases e;refine⟨hn,R,ds,dss,sub,r,q,λl as H' R' x z dp=>?_⟩;obtain⟨R1,x1,r1⟩:=dp.known x z;exact k _ H' R1 x1 r1
theorem qkt{K:au}{Nms:List Str}{n:Nat}{H R:Hp}{vs:List V}{ds:List D}(hn:vs.length=n)(hl:ds.length=n)(sub:∀a o,R a=some o->H a=some o)(r:Rps K R vs ds):StR K ⟨H,R,λ_=>False,[]⟩ [] (aZ Nms vs) H R (ds.map some++List.replicate (Nms.length-n) none):=by
 refine⟨sub,?_,λi d _ q=>?_,λi hi=>absurd hi (by simp),λi j hi=>absurd hi (by simp),λa o q _=>q,Same.refl _,λa q=>.inl q,λa q=>.refl q,λi hi=>absurd hi (by simp),λi hi=>absurd hi (by simp)⟩
 ·unfold aZ;rw[je,je,j3,j3,ji,ji,hn,hl]
 ·obtain⟨v,h1,h2⟩:=r.get (tZ q);exact⟨v,t0 h1,h2⟩
section
variable{K:au}{O T:List Nat}{i:Nat}{t:TS}{te:TE}{tr:TA}{g:TG}{f:Fd}{fe:aJ}{fs:aT}{fg:eH}
def kB(i:Nat)(fg:eH)(f:Fd):List D->Fd
 |[],ρ,dss=>some (ρ,dss)
 | d::r,ρ,dss=>match fg d ρ with
  | some ρ1=>if dw ρ1 i=true then(match f ρ1 dss with
   |some p=>kB i fg f r p.1 p.2
   |none=>none)else none
  |none=>none
def sM(i:Nat)(fg:eH)(fi:aT)(f:Fd):Fd:=λρ dss=>match fi ρ with
 |some (ds,ρ1)=>if dw ρ1 i=true then kB i fg f ds ρ1 dss else none
 |none=>none
theorem StD.tgt{Z:Anc}{σ σ':St}{H R:Hp}{ρ ρ':aB}{l:Addr}{as:List Addr}{dss:List (List D)}(S:StD K Z O i σ H R ρ l as dss)(S':StR K Z O σ' H R ρ')(n:∀j,j∉T->σ'[j]? =σ[j]?)(hT:∀k∈i::O,k∉T)(no:ρ'[i]? =some none):StD K Z O i σ' H R ρ' l as dss:=
 ⟨S',S.hi,no,by rw[n i (hT i ja)];exact S.at',S.dp,S.z0,λa ha k hk=>by rw[n k (hT k (j9 _ hk))];exact S.ow a ha k hk⟩
theorem qk7{wi:TI}{fi:aT}{tb:TS}(hi:MI K O wi fi)(hg:MG K O T g fg)(hT:∀k∈i::O,k∉T)(hb:qq K O i tb f):qq K O i (mX wi g tb) (sM i fg fi f):=λZ E σ H R ρ l as dss ρ' zw S e k=>by
 unfold sM at e;split at e
 ·rename_i ds ρ1 q;split at e
  ·rename_i z;have no:=tV z;refine hi Z σ H R ρ ds ρ1 _ S.st q λJ H1 R1 S1 st1 ok=>?_;have S2:=S.stp S1 st1 no;refine⟨λn m σ' H'=>m=ds.length-n/\n<=ds.length/\∃R2 ρ2 as2 dss2,StD K Z O i σ' H' R2 ρ2 l as2 dss2/\Same R1 R2/\kB i fg f (ds.drop n) ρ2 dss2=some (ρ',zw),⟨ds.length,by simp,Nat.zero_le _,R1,ρ1,as,dss,S2,Same.refl _,by rw[List.drop_zero];exact e⟩,?_⟩;rintro n m σ' H' ⟨rfl,hn,R2,ρ2,as2,dss2,S3,s3,e3⟩;obtain⟨o1,o2⟩:=ok H' R2 s3 S3.st.sub n;by_cases hlt:n<ds.length
   ·obtain⟨g1,g2⟩:=o2 ds[n] (j8 hlt);rw[k9 hlt]at e3;refine .inr ⟨g1,λσ3 H3=>∃R2 ρ2 as2 dss2,StD K Z O i σ3 H3 R2 ρ2 l as2 dss2/\Same R1 R2/\kB i fg f (ds.drop (n+1)) ρ2 dss2=some (ρ',zw),?_,λx H3 y=>?_⟩
    ·rintro σ3 H3 ⟨R3,ρ3,as3,dss3,q1,q2,q3⟩;exact⟨ds.length-(n+1),by omega,rfl,hlt,R3,ρ3,as3,dss3,q1,q2,q3⟩
    ·obtain⟨R3,x3,r3⟩:=g2 x H3 y;have S4:=S3.stp (S3.st.ext x3) x3.stp S3.no;unfold kB at e3;split at e3
     ·rename_i ρ4 e4;split at e3
      ·rename_i z4;have no4:=tV z4;refine hg Z σ' H3 R3 ρ2 x ds[n] ρ4 _ S4.st r3 e4 λσ4 S5 n5=>?_;have S6:=S4.tgt S5 n5 hT no4;split at e3
       ·rename_i p e5;exact hb Z _ _ H3 R3 _ l as2 dss2 p.1 p.2 S6 e5 λσ5 H5 R5 as5 S7 s5=>⟨R5,p.1,as5,p.2,S7,(s3.trans x3.r).trans s5,e3⟩
       ·cases e3
      ·cases e3
     ·cases e3
   ·have en:n=ds.length:=by omega
    subst en;rw[List.drop_length]at e3;unfold kB at e3;cases e3;exact .inl ⟨o1 rfl,k σ' H' R2 as2 S3 (st1.r.trans s3)⟩
  ·cases e
 ·cases e
def pW(dss:List (List D))(n:Int)(d:D):Option (List (List D)):=if 0<=n then(match dss[n.toNat]? with
 |some ds=>if ds.length<sizeLine then some (dss.set n.toNat (ds++[d]))else none
 |none=>none)else none
def oH(i:Nat)(fe:aJ)(fs:aT):Fd:=λρ dss=>match fe ρ with
 | some (.int n,ρ0)=>if dw ρ0 i=true then(match fs ρ0 with
  |some ([d],ρ1)=>if dw ρ1 i=true then(pW dss n d).map λx=>(ρ1,x)else none
  |_=>none)else none
 |_=>none
theorem qer(he:ME K O te fe)(ha:MA K O tr fs):qq K O i (pE (rV K "list" wZ (jJ (o6 K) (dJ i) te) tr)) (oH i fe fs):=λZ E σ H R ρ l as dss ρ' zw S e k=>by
 unfold oH at e;split at e
 ·rename_i n ρ0 q0;split at e
  ·rename_i z0;have no0:=tV z0;split at e
   ·rename_i d ρ1 q;split at e
    ·rename_i z;have no:=tV z;cases w:pW dss n d with
     |none=>rw[w]at e;cases e
     | some x=>
      rw[w]at e;cases e;unfold pW at w;split at w
      ·rename_i hn0;split at w
       ·rename_i ds w1;split at w
        ·rename_i w2;cases w;refine⟨.ref l,S.at',he Z σ H R ρ (.int n) ρ0 _ S.st q0 λv0 H0 R0 S0 st0 r0=>?_⟩;cases r0;have T0:=S.stp S0 st0 no0;have ln:=T0.dp.inn.len;have hk:n.toNat<as.length:=by rw[ln];exact(List.getElem?_eq_some_iff.mp w1).1
         have ea:as[n.toNat]? =some as[n.toNat]:=j8 hk;obtain⟨vs,ds2,g1,g2,g3,g4⟩:=T0.dp.inn.at ea;rw[w1]at g1;cases g1;refine .inl ⟨l,_,n,.ref as[n.toNat],rfl,rfl,SqL.of T0.dp.top,?_,?_⟩
         ·unfold bO;have e1:fK (as.map V.ref).length n=some n.toNat:=by
           rw[j3];unfold fK;rw[if_pos hn0,if_pos (by omega)]
          rw[e1];show(as.map V.ref)[n.toNat]? =_;rw[jd,ea];rfl
         ·refine⟨.inl ⟨rfl,vs,SqL.of g2⟩,ha Z σ H0 R0 ρ0 [d] _ _ T0.st q λws H1 R1 S1 st1 r1=>?_⟩;obtain⟨v,_,rfl,rv,rn⟩:=r1.isC;cases rn;have S2:=T0.stp S1 st1 no;obtain⟨vs2,ds3,g1,g2,g3,g4⟩:=S2.dp.inn.at ea;rw[w1]at g1;cases g1;exact⟨_,vs2,v,rfl,rfl,g2,by rw[g4.length];exact w2,k σ _ R1 as (S2.wrAt ea (g4.snoc rv)) (st0.r.trans st1.r)⟩
        ·cases w
       ·cases w
      ·cases w
    ·cases e
   ·cases e
  ·cases e
 ·cases e
end
def DR(i n:Nat)(js:List Nat)(wi:TI)(t:TS):TS:=kR (vm i n js wi (gZ 0) kQ (mW gr)) (kR t (iE (dJ i)))
theorem Inn.empty{K:au}{H R:Hp}:∀{as:List Addr},(∀a∈as,H a=some (.lst []))->(∀a∈as,R a=none)->Inn K H R as (List.replicate as.length [])
 |[],_,_=>.nil
 |a::as,h,r=>.cons (h a ja) (r a ja) .nil (Inn.empty (λb hb=>h b (j9 _ hb)) λb hb=>r b (j9 _ hb))
theorem qf3{K:au}{i n:Nat}{js:List Nat}{wi:TI}{fi:aT}{t:TS}{f:Fd}{H R H1 R1:Hp}{σ:St}{ρ ρ1:aB}{ds:List D}{dss:List (List D)}{Q:VK}(hw:MI K [] wi fi)(hm:qq K [] i t f)(S:StR K ⟨H,R,λ_=>False,[]⟩ [] σ H1 R1 ρ)(e1:fi ρ=some (ds,ρ1))(hl:i<ρ1.length)(hz:ds.length<=sizeLine){ρ':aB}(e:f (ρ1.set i none) (List.replicate ds.length [])=some (ρ',dss))
 (k:∀l as H' R',Ext H R H' R'->(∀a∈l::as,H a=none)->Deep K H' R' l as dss->Q (.ref l) H'):DR i n js wi t {nx:=λ_ H'=>Q .non H',rt:=Q} σ H1:=by
 refine hw _ σ H1 R1 ρ ds ρ1 _ S e1 λJ H2 R2 S2 st2 ok=>?_;refine⟨λc m ys H3=>m=ds.length-c/\c<=ds.length/\∃(R3:Hp) (as:List Addr),ys=as.map V.ref/\as.length=c/\as.Nodup/\(∀a∈as,H a=none)/\(∀a∈as,H3 a=some (.lst []))/\(∀a∈as,R3 a=none)/\Same R2 R3/\StR K ⟨H,R,λ_=>False,[]⟩ [] σ H3 R3 ρ1,
  ⟨ds.length,by simp,Nat.zero_le _,R2,[],rfl,rfl,List.nodup_nil,λ_ h=>(nomatch h),λ_ h=>(nomatch h),λ_ h=>(nomatch h),Same.refl _,S2⟩,?_⟩
 rintro c m ys H3 ⟨rfl,hc,R3,as,rfl,la,nd,a1,a2,a3,s3,S3⟩;obtain⟨o1,o2⟩:=ok H3 R3 s3 S3.sub c;by_cases hlt:c<ds.length
 ·obtain⟨g1,g2⟩:=o2 ds[c] (j8 hlt);refine .inr ⟨g1,by rw[j3];omega,λys' H'=>∃(R3:Hp) (as:List Addr),ys'=as.map V.ref/\as.length=c+1/\as.Nodup/\(∀a∈as,H a=none)/\(∀a∈as,H' a=some (.lst []))/\(∀a∈as,R3 a=none)/\Same R2 R3/\StR K ⟨H,R,λ_=>False,[]⟩ [] σ H' R3 ρ1,?_,λx H4 y=>?_⟩
  ·rintro ys' H' ⟨R4,as4,q⟩;exact⟨ds.length-(c+1),by omega,rfl,hlt,R4,as4,q⟩
  ·obtain⟨R4,x4,r4⟩:=g2 x H4 y;have S4:=S3.ext x4;dsimp only[gZ,kQ];rw[if_pos rfl];refine⟨by show 0<=sizeLine;exact Nat.zero_le _,λp hp=>?_⟩;have b2:∀a∈as,H4 a=some (.lst []):=λa ha=>x4.h a _ (a2 a ha);have np:p∉as:=λq=>by have:=b2 p q;rw[hp]at this;cases this
   have b3:∀a∈as,R4 a=none:=λa ha=>by
    cases q:R4 a with
    |none=>rfl
    | some o=>
     rcases x4.n a (by rw[q];exact λz=>nomatch z)with z|z
     ·exact absurd (a3 a ha) z
     ·rcases z with z|⟨xs,z⟩<;>(rw[a2 a ha]at z;cases z)
   refine⟨R4,as++[p],by rw[jx];rfl,by rw[je,la];rfl,List.nodup_append.mpr ⟨nd,by simp,λu hu v hv q=>np (by rw[List.mem_singleton.mp hv]at q;exact q▸hu)⟩,λa ha=>?_,λa ha=>?_,λa ha=>?_,s3.trans x4.r,S4.ext (Ext.hid S4.sub hp)⟩
   ·rcases List.mem_append.mp ha with ha|ha
    ·exact a1 a ha
    ·rw[List.mem_singleton.mp ha];exact S4.new0 hp
   ·rcases List.mem_append.mp ha with ha|ha
    ·rw[aU λq=>np (by rw[<-q];exact ha)];exact b2 a ha
    ·rw[List.mem_singleton.mp ha];exact cM
   ·rcases List.mem_append.mp ha with ha|ha
    ·exact b3 a ha
    ·rw[List.mem_singleton.mp ha];exact S4.out hp
 ·have ec:c=ds.length:=by omega
  subst ec;refine .inl ⟨o1 rfl,by rw[j3,la];exact hz,λp hp=>?_⟩;have np:p∉as:=λq=>by have:=a2 p q;rw[hp]at this;cases this
  have x:=Ext.hid (o:=.lst (as.map V.ref)) S3.sub hp;have S4:=S3.ext x;have T:StD K ⟨H,R,λ_=>False,[]⟩ [] i (σ.set i (some (.ref p))) (aP H3 p (.lst (as.map V.ref))) R3 (ρ1.set i none) p as (List.replicate ds.length []):=by
   refine⟨S4.blind (by simp),by simp,List.getElem?_set_self hl,List.getElem?_set_self (by rw[S3.len];exact hl),⟨cM,S3.out hp,?_,List.nodup_cons.mpr ⟨np,nd⟩⟩,λa ha=>?_,λa ha j hj=>(nomatch hj)⟩
   ·rw[<-la];exact Inn.empty (λa ha=>by rw[aU λq=>np (by rw[<-q];exact ha)];exact a2 a ha) a3
   ·rcases List.mem_cons.mp ha with ha|ha
    ·rw[ha];exact S3.new0 hp
    ·exact a1 a ha
  refine hm _ _ _ _ R3 _ p as _ ρ' dss T e λσ' H' R' as' S' s'=>?_;exact⟨.ref p,S'.at',k p as' H' R' ⟨λa o q=>S'.st.ah a o q (λz=>z),S'.st.ar,S'.st.sub,S'.st.an⟩ S'.z0 S'.dp⟩
def mr(n N i:Nat)(fi:aT)(f:Fd)(ds:List D):Option (List (List D)):=if ds.length=n then match fi (ds.map some++List.replicate (N-n) none)with
 | some (xs,ρ1)=>if i<ρ1.length/\xs.length<=sizeLine then(match f (ρ1.set i none) (List.replicate xs.length [])with
  |some p=>some p.2
  |none=>none)else none
 |none=>none
 else none
theorem qnm{n N i:Nat}{fi:aT}{f:Fd}:bY n (λds=>oh (mr n N i fi f ds)):=λds d e=>by
 have e:oh (mr n N i fi f ds)=some d:=e;unfold mr at e;split at e
 ·assumption
 ·cases e
theorem qft{K:au}{n i m:Nat}{js:List Nat}{Nms:List Str}{wi:TI}{fi:aT}{t:TS}{f:Fd}{vs:List V}{H:Hp}{Q:VK}{E:XK}(hw:MI K [] wi fi)(hm:qq K [] i t f)(h:u0 K n (mr n Nms.length i fi f) vs H Q E):DR i m js wi t {nx:=λ_ H'=>Q .non H',rt:=Q} (aZ Nms vs) H:=by
 obtain⟨hn,R,ds,dss,sub,r,e,k⟩:=h;unfold mr at e;split at e
 ·rename_i hl;split at e
  ·rename_i xs ρ1 e1;split at e
   ·rename_i hz;split at e
    ·rename_i p e2;cases e;exact qf3 hw hm (qkt hn hl sub r) e1 hz.1 hz.2 e2 k
    ·cases e
   ·cases e
  ·cases e
 ·cases e
theorem qhh:typeLookup (.type "list_reverseiterator") (Str.ofString "__len__")=pure none:=by kernel_rfl
theorem qkn:typeLookup (.type "list_reverseiterator") (Str.ofString "__length_hint__")=pure (some (.builtin "list_reverseiterator.__length_hint__")):=by kernel_rfl
def uf(K:au)(a:Addr)(n:Nat):It:=
 ⟨λi H=>∃xs,SqL K H a xs/\xs.length=n/\i<n,λi H x H'=>H'=H/\∀xs,SqL K H a xs->xs[n-1-i]? =some x,λi H=>i=n⟩
theorem qjf{P:Program}{w:World}{K:au}{tg:Expr}(a it:Addr)(n:Nat):Turn P w K tg (uf K a n) [it] it (λi h=>i<=n/\h.IsRevIter it a ((n:Int)-1-i)) where
 mem:=by simp
 obj:=λi h st b hb=>by
  have e:b=it:=by simpa using hb
  subst e;obtain⟨_,o,e,c,d⟩:=st;exact⟨o,e,λv z=>by rw[d]at z;cases z⟩
 keep:=λi h h' st k=>⟨st.1,by obtain⟨o,e,c⟩:=st.2;exact⟨o,k it (by simp) o e,c⟩⟩
 item:=by
  intro X hP hw hK hc i z5 s σ H E I hf st hg;subst hP hw hK;obtain⟨xs,hq,hl,hi⟩:=hg;obtain⟨its,rv,p,hz⟩:=I.list hq;have hx:xs[n-1-i]? =some (xs[n-1-i]'(by omega)):=j8 (by omega);obtain⟨u,hu,ru⟩:=rv.get hx;obtain⟨f0,f1,f2,f3,f4,f5⟩:=hf it (by simp);have st2:=st.2;have en:((n:Int)-1-i)=((n-1-i:Nat):Int):=by omega
  rw[en]at st2;refine wpAny_pyNext_rev_item st2 p.isList (x:=u) (by simpa using hu) λh' st' sb=>?_;have I1:Inv X z5 σ H {s with heap:=h'}:=I.turned (t':=s.toks) (λb o hb e=>(sb.2 b hb).trans e) f0 f1 f3 f4 f5;have st3:h'.IsRevIter it a ((n:Int)-1-(i+1:Nat)):=by
   have e2:((n:Int)-1-(i+1:Nat))=((n-1-i:Nat):Int)-1:=by omega
   rw[e2];exact st'
  obtain⟨o,e,c,d⟩:=id st';exact⟨u,rfl,o9 (s:={s with heap:=h'}) e c d (by decide) ⟨_,H,I1,ru,⟨rfl,λys hy=>by rw[I.list_inj hy hq];exact hx⟩,⟨by omega,st3⟩,λb hb=>(hf b hb).1⟩⟩
 done:=by
  intro X hP hw hK hc i z5 s σ H E I hf st hg;subst hP hw hK;have hi:i=n:=hg;obtain⟨f0,f1,f2,f3,f4,f5⟩:=hf it (by simp);have st2:=st.2;have en:((n:Int)-1-i)= -1:=by omega
  rw[en]at st2;exact wpAny_pyNext_rev_end (I.ok.hd hc) st2 λh' eb=>⟨rfl,I.turned (t':=s.toks) (λb o hb e=>eb b o hb e) f0 f1 f3 f4 f5⟩
 self:=λ_ _ _ _ _ st h=>wpAny_pyIter_revIter st.2 h
section
variable{X:Cx}{K:au}{a tg:Expr}{ta:TE}{p pos:Pos}
def q9(K:au)(ta:TE):TI:=λσ H R=>ta σ H λv H1=>∃p1 xs,[v]=[V.ref p1]/\SqL K H1 p1 xs/\R (uf K p1 xs.length) H1
theorem qrx(hK:X.K=K)(hg:Gl X "reversed")(hm:X.mg "reversed"=none)(ha:PE X a ta)(he:starEach [a] X.env=(false,eval a X.env)::starEach [] X.env:=by rfl)(hpl:(backTo pos (starEach [] X.env)).any (·.1)=false:=by rfl):
 PI X tg (.Call (.Name "reversed" p) [a] [] pos) (q9 K ta):=by
 subst hK;intro z5 s σ H R I h;refine xh (iw I hg hm (u:=.type "reversed") (by rfl) ?_);refine PyProof.Rows.callWith_type1 (bd ((aj ha ay he) pos z5 s σ H (λvs H1=>∃p1 xs,vs=[V.ref p1]/\SqL X.K H1 p1 xs/\R (uf X.K p1 xs.length) H1) I h) λus s1 h1=>?_) he hpl;obtain⟨vs,H1,I1,r1,p1,xs,rfl,q1,k⟩:=h1;obtain⟨u,rfl,ru⟩:=cQ r1;cases(show u=Value.ref p1 from ru);obtain⟨its,rv,pl,hz⟩:=I1.list q1;have ln:its.length=xs.length:=by have:=rv.length;omega
 refine call_reversed_list pl.isList (wpAny_pyIter_revIter ⟨_,jj _ rfl,rfl,rfl⟩ ?_);refine⟨s1.heap.objs.size,[s1.heap.objs.size],_,_,H1,rfl,I1.kept (t':=s1.toks) λb o e=>j6 _ e,qjf p1 _ xs.length,⟨Nat.zero_le _,_,jj _ rfl,rfl,?_⟩,λb hb=>?_,k⟩
 ·show Data.fields #[Value.ref p1,rawInt ((its.toArray.size:Int)-1)]=_;rw[jt,ln];simp
 ·have e:b=s1.heap.objs.size:=by simpa using hb
  subst e;exact I1.fpOk (j7 _) (I1.hok.fresh (j7 _))
end
theorem qf2{prog:Program}{w:World}{A:Around}{s:Shared}{R:Result->Shared->Prop}{I l S:Addr}{items:Array Value}{c₀:Nat}{res:Value}(hh:A.in1.handled=none)(hn:items.size<=sizeLine)(gI:s.heap.IsRevIter I l ((items.size:Int)-1))(gl:s.heap.IsList l items)(lI:l≠I)(SI:S≠I)(Sl:S≠l)
 (hS:s.heap.get? S=some {cls:=.type "list",data:=.seq #[] c₀})
 (hR:∀s' acc c',Moved [S,I] (λa b=>b=a) s s'->s'.heap.get? S=some {cls:=.type "list",data:=.seq acc c'}->ItemsOf (λi v=>items[items.size-1-i]? =some v) acc items.size->R (.ok (.ret res)) s'):
 wpAny (model prog w) A.in1 (Builtin.List.listExtendWith (.ref S) (.ref I) res) (λfin s'=>match fin with
  |.done f=>R (.ok f) s'
  |.again c'=>c'.quiet=true/\codeAny (model prog w) A c' R s') (λe s'=>R (.error e) s') s:=by
 have ty:s.TypeIs (.ref I) "list_reverseiterator":=by obtain⟨o,e,c,_⟩:=gI;exact⟨o,e,c⟩
 have W:=(Walks.listRev (prog:=prog) (w:=w) hh I l lI items).toS;unfold Builtin.List.listExtendWith;refine j0 (wpAny_typeOf ty ?_);have h1:Builtin.List.listSameRef (.ref S) (.ref I)=false:=by unfold Builtin.List.listSameRef;simp[SI]
 have h2:(Value.type "list_reverseiterator"==Value.type "list")=false:=by decide
 have h3:(Value.type "list_reverseiterator"==Value.type "tuple")=false:=by decide
 simp only[h1,h2,h3,Bool.or_false,Bool.false_eq_true,if_false];refine j0 (wpAny_pyIter_revIter gI ?_);refine j0 (xp ?_);unfold Builtin.List.listLengthHint;refine j0 (wpAny_specialOf ty qhh ?_);show wpAny _ _ (specialOf (.ref I) (Str.ofString "__length_hint__") >>= _) _ _ s;refine j0 (wpAny_specialOf ty qkn ?_);show wpAny _ _ (isInstance (.ref I) (.type "list_reverseiterator") >>= _) _ _ s;refine j0 (wpAny_isInstance ty (b:=true) (by kernel_rfl) ?_);show wpAny _ _ (pure false) _ _ s;refine j4 ?_;show wpAny _ _ (again (.builtin "list.extend.loop" ⟨[.ref S,.ref I,res],[]⟩)) _ _ s;refine j4 ⟨ka F.plain_extend_loop _,?_⟩;refine codeAny_extend_loopS W hn S (by simp;exact⟨SI,Sl⟩) res items.size 0 s #[] c₀ rfl (Nat.zero_le _) ⟨Nat.zero_le _,by simpa using gI,gl⟩ hS (.nil _) λs' acc c' m e i=>hR s' acc c' ?_ e i;exact m
theorem qkm{prog:Program}{w:World}{A:Around}{s:Shared}{R:Result->Shared->Prop}{I l S:Addr}{items:Array Value}(hh:A.in1.handled=none)(hn:items.size<=sizeLine)(gI:s.heap.IsRevIter I l ((items.size:Int)-1))(gl:s.heap.IsList l items)(lI:l≠I)(SI:S≠I)(Sl:S≠l)
 (hS:s.heap.get? S=some {cls:=.type "list",data:=.seq #[]})
 (hR:∀s' acc c',Moved [S,I] (λa b=>b=a) s s'->s'.heap.get? S=some {cls:=.type "list",data:=.seq acc c'}->ItemsOf (λi v=>items[items.size-1-i]? =some v) acc items.size->R (.ok (.ret .none)) s'):
 wpAny (model prog w) A.in1 (Builtin.«list.__init__» ⟨[.ref S,.ref I],[]⟩) (λfin s'=>match fin with
  |.done f=>R (.ok f) s'
  |.again c'=>c'.quiet=true/\codeAny (model prog w) A c' R s') (λe s'=>R (.error e) s') s:=by
 show wpAny _ _ (Builtin.List.listItems (.ref S) >>= _) _ _ s;refine j0 ?_;unfold Builtin.List.listItems;refine j0 (xl hS rfl (j4 ?_));show wpAny _ _ (Builtin.List.listUpdate (.ref S) _ >>= _) _ _ s;unfold Builtin.List.listUpdate;refine j0 (wpAny_updateSeq hS rfl ?_ (by simp) (by simp));have hS2:=k8 (Obj.mapSeq λ_=>#[]) hS rfl;have oth:∀b o,b≠S->s.heap.get? b=some o->(s.heap.update S (Obj.mapSeq λ_=>#[])).get? b=some o:=λb o hb e=>(xx s.heap (Obj.mapSeq λ_=>#[]) (Ne.symm hb)).trans e;refine j0 (wpAny_letGo ?_);refine qf2 (s:={s with heap:=s.heap.update S (Obj.mapSeq λ_=>#[])}) hh hn ?_ ?_ lI SI Sl hS2 λs' acc c' m e i=>hR s' acc c' ?_ e i
 ·obtain⟨o,e,c⟩:=gI;exact⟨o,oth I o (Ne.symm SI) e,c⟩
 ·obtain⟨o,e,c⟩:=gl;exact⟨o,oth l o (Ne.symm Sl) e,c⟩
 ·exact⟨λb o nb e=>m.heap b o nb (oth b o (λq=>nb (by rw[q];simp)) e),m.gens,m.drawn,m.os,m.toks⟩
theorem q9o{prog:Program}{w:World}{A:Around}{E:Value->Shared->Prop}{s:Shared}{Q:Value->Shared->Prop}{I l:Addr}{items:Array Value}(hh:A.in1.in1.handled=none)(hn:items.size<=sizeLine)(gI:s.heap.IsRevIter I l ((items.size:Int)-1))(gl:s.heap.IsList l items)(lI:l≠I)
 (hQ:∀s' acc c',(∀b o,b≠I->s.heap.get? b=some o->s'.heap.get? b=some o)->s'.gens=s.gens->s'.drawn=s.drawn->s'.os=s.os->s'.heap.get? s.heap.objs.size=some {cls:=.type "list",data:=.seq acc c'}->ItemsOf (λi v=>items[items.size-1-i]? =some v) acc items.size->Q (.ref s.heap.objs.size) s'):
 wpAny (model prog w) A (call (.type "list") [.ref I]) Q E s:=by
 have ltI:I<s.heap.objs.size:=by obtain⟨o,e,_⟩:=gI;exact j5 e
 have ltl:l<s.heap.objs.size:=by obtain⟨o,e,_⟩:=gl;exact j5 e
 refine callType_codes F.called_list (F.typeCall_list_1 _) F.entry_list_init (Q₁:=λv s1=>v=.ref s.heap.objs.size/\s1={s with heap:=s.heap.push {cls:=.type "list",data:=.seq #[]}}) (code_list_new _ ⟨rfl,rfl⟩) λobj s1 h1=>?_;obtain⟨rfl,rfl⟩:=h1;have hS:=jj s.heap (o:={cls:=.type "list",data:=.seq #[]}) rfl;refine⟨⟨_,hS,rfl⟩,F.args_list_init_2 _ _,?_⟩;refine qkm (l:=l) (items:=items) hh hn ?_ ?_ lI (Nat.ne_of_gt ltI) (Nat.ne_of_gt ltl) hS λs' acc c' m e i=>⟨rfl,hQ s' acc c' (λb o nb eb=>?_) m.gens m.drawn m.os e i⟩
 ·obtain⟨o,e,c⟩:=gI;exact⟨o,j6 _ e,c⟩
 ·obtain⟨o,e,c⟩:=gl;exact⟨o,j6 _ e,c⟩
 ·refine m.heap b o (λq=>?_) (j6 _ eb);rcases List.mem_cons.mp q with q|q
  ·have:=j5 eb;rw[q]at this;exact x9 _ this
  ·exact nb (List.mem_singleton.mp q)
section
variable{X:Cx}{K:au}{O:List Nat}{a:Expr}{ta:TE}{p p2 pos zi:Pos}{fa:aJ}
def CS(K:au)(ta:TE):TE:=λσ H Q=>ta σ H λv H1=>∃p xs,[v]=[V.ref p]/\SqL K H1 p xs/\∀q,H1 q=none->Q (.ref q) (aP H1 q (.lst xs.reverse))
theorem qnv(hK:X.K=K)(hc:X.calm=true)(hg:Gl X "list")(hm:X.mg "list"=none)(hg2:Gl X "reversed")(hm2:X.mg "reversed"=none)(ha:PE X a ta)(he2:starEach [a] X.env=(false,eval a X.env)::starEach [] X.env:=by rfl)(hpl2:(backTo pos (starEach [] X.env)).any (·.1)=false:=by rfl)
 (he:starEach [.Call (.Name "reversed" p) [a] [] pos] X.env=(false,eval (.Call (.Name "reversed" p) [a] [] pos) X.env)::starEach [] X.env:=by rfl) (hpl:(backTo zi (starEach [] X.env)).any (·.1)=false:=by rfl):
 PE X (.Call (.Name "list" p2) [.Call (.Name "reversed" p) [a] [] pos] [] zi) (CS K ta):=by
 subst hK;intro z5 s σ H Q I h;refine xh (iw I hg hm (u:=.type "list") (by rfl) ?_);refine PyProof.Rows.callWith_type1 ?_ he hpl;rw[he];show wpAny _ _ (spliced ((false,eval (.Call (.Name "reversed" p) [a] [] pos) X.env)::backTo zi (starEach [] X.env))) _ _ s;refine kf ?_;refine xh (iw I hg2 hm2 (u:=.type "reversed") (by rfl) ?_);refine PyProof.Rows.callWith_type1 (bd ((aj ha ay he2) pos z5 s σ H (λvs H1=>∃p1 xs,vs=[V.ref p1]/\SqL X.K H1 p1 xs/\∀q,H1 q=none->Q (.ref q) (aP H1 q (.lst xs.reverse))) I h) λus s1 h1=>?_) he2 hpl2;obtain⟨vs,H1,I1,r1,p1,xs,rfl,q1,k⟩:=h1;obtain⟨u,rfl,ru⟩:=cQ r1;cases(show u=Value.ref p1 from ru);obtain⟨its,rv,pl,hz⟩:=I1.list q1;have ln:its.length=xs.length:=by have:=rv.length;omega
 have lp:p1<s1.heap.objs.size:=by obtain⟨o,e,_⟩:=pl.isList;exact j5 e
 refine call_reversed_list pl.isList (Calls.spliced_nil ?_);have gl:(s1.heap.push (revObj p1 ((its.toArray.size:Int)-1))).IsList p1 its.toArray:=by obtain⟨o,e,c⟩:=pl.isList;exact⟨o,j6 _ e,c⟩
 refine q9o (l:=p1) (items:=its.toArray) (I1.ok.hd hc) (by rw[jt];omega) ⟨_,jj _ rfl,rfl,rfl⟩ gl (jh lp) λs2 acc c' kp eg ed eo e i=>?_;have es:s2={s1 with heap:=s2.heap,toks:=s2.toks}:=by obtain⟨h2,g2,d2,t2,o2⟩:=s2;cases eg;cases ed;cases eo;rfl
 have hf:H1 (s1.heap.push (revObj p1 ((its.toArray.size:Int)-1))).objs.size=none:=I1.hok.fresh (by rw[xg];exact Nat.le_succ _);have ea:acc.toList=its.reverse:=by
  apply List.ext_getElem?;intro j;by_cases hj:j<its.length
  ·have hj2:j<acc.size:=by rw[i.1,jt];exact hj
   have v2:=i.2 j acc[j] (Array.getElem?_eq_getElem hj2);rw[List.getElem?_reverse hj];have v2':its[its.length-1-j]? =some acc[j]:=by simpa using v2
   rw[v2'];simp
  ·rw[jw (by simp;have:=i.1;simp at this;omega),jw (by simp;omega)]
 refine⟨.ref _,_,?_,rfl,k _ hf⟩;rw[es];refine I1.laid (t':=s2.toks) (λb o eb=>kp b o (jh (j5 eb)) (j6 _ eb)) (by rw[xg];exact Nat.le_succ _) ?_;refine⟨by rw[List.length_reverse];exact hz,its.reverse,c',rv.reverse,?_⟩;rw[e,<-ea]
theorem qu8{R:Hp}{b:Addr}{xs:List V}{ds:List D}(h:SqL K R b xs)(r:Rps K R xs ds):ItOk K (uf K b xs.length) R ds.reverse:=λH' R' s sb i=>by
 have q:SqL K H' b xs:=Same.sqL sb (Same.sqL s h);have ln:=r.length;refine⟨λe=>by show i=xs.length;rw[e,List.length_reverse];exact ln.symm,λd e=>?_⟩;have hi:i<ds.length:=by
  have:=(List.getElem?_eq_some_iff.mp e).1
  rwa [List.length_reverse]at this
 rw[List.getElem?_reverse hi]at e;obtain⟨v,h1,h2⟩:=r.get e;refine⟨⟨xs,q,rfl,by omega⟩,λx H'' y=>?_⟩;obtain⟨rfl,y⟩:=y;have ex:=y xs q;rw[ln,h1]at ex;cases ex;exact⟨R',Ext.refl sb,h2.mono s⟩
def iJ:D->Option (List D)
 |.lst xs=>some xs.reverse
 |_=>none
def gx(f:aJ):aT:=bV f λd=>dz (iJ d)
theorem qto(h:ME K O ta fa):MI K O (q9 K ta) (gx fa):=λZ σ H R ρ ds ρ' Q S e k=>by
 obtain⟨x,ρ1,e1,e⟩:=bS e;obtain⟨e3,rfl⟩:=dk e;refine h Z σ H R ρ x _ _ S e1 λv H1 R1 S1 st1 r1=>?_;unfold iJ at e3;split at e3
 ·cases e3;obtain⟨b,xs,rfl,q,r⟩:=r1.isL;exact⟨b,xs,rfl,Same.sqL S1.sub q,k _ H1 R1 S1 st1 (qu8 q r)⟩
 ·cases e3
theorem quh{ρ:aB}:gx fa ρ=(fa ρ).bind λp=>(iJ p.1).map λx=>(x,p.2):=by
 unfold gx bV dz;cases fa ρ with
 |none=>rfl
 |some p=>cases h:iJ p.1<;>simp[h]
theorem Rps.rev{R:Hp}:∀{xs:List V} {ds:List D},Rps K R xs ds->Rps K R xs.reverse ds.reverse
 |_,_,.nil=>.nil
 | _,_,.cons h r=>by rw[List.reverse_cons,List.reverse_cons];exact(Rps.rev r).snoc h
end
structure Kp(I S:Addr)(s0 s:Shared):Prop where
 heap:∀b o,b≠I->b≠S->s0.heap.get? b=some o->s.heap.get? b=some o
 gens:s.gens=s0.gens
 drawn:s.drawn=s0.drawn
 os:s.os=s0.os
structure Kq(s s':Shared):Prop where
 heap:∀b o,s.heap.get? b=some o->s'.heap.get? b=some o
 gens:s'.gens=s.gens
 drawn:s'.drawn=s.drawn
 os:s'.os=s.os
theorem Kp.on{I S:Addr}{s0 s s':Shared}(x:Kp I S s0 s)(heap:∀b o,b≠I->b≠S->s.heap.get? b=some o->s'.heap.get? b=some o)(g:s'.gens=s.gens)(d:s'.drawn=s.drawn)(o:s'.os=s.os):Kp I S s0 s':=
 ⟨λb u h1 h2 e=>heap b u h1 h2 (x.heap b u h1 h2 e),g.trans x.gens,d.trans x.drawn,o.trans x.os⟩
def jC(prog:Program)(w:World)(A:Around)(I S:Addr)(s0:Shared)(its:Array Value)(bt:Nat->Nat->Bool):Prop:=
 ∀(i j:Nat) (vi vj:Value) (s:Shared) (Q:Value->Shared->Prop) (E:Value->Shared->Prop),its[i]? =some vi->its[j]? =some vj->Kp I S s0 s->(∀s',Kq s s'->Q (.bool (bt i j)) s')->wpAny (model prog w) A (richCompare .Lt vi vj) Q E s
section
variable{prog:Program}{w:World}{A:Around}{R:Result->Shared->Prop}{I S l:Addr}{its:Array Value}{s0:Shared}{bt:Nat->Nat->Bool}{kw:List (Str×Value)}
abbrev StL(I l:Addr)(its:Array Value)(i:Nat)(h:Heap):Prop:=h.IsListIter I l i/\h.IsList l its
theorem StL.keep{i:Nat}{h h':Heap}(st:StL I l its i h)(k:∀b o,b=I∨b=l->h.get? b=some o->h'.get? b=some o):StL I l its i h':=by obtain⟨⟨o,e,c⟩,⟨o2,e2,c2⟩⟩:=st;exact⟨⟨o,k I o (.inl rfl) e,c⟩,⟨o2,k l o2 (.inr rfl) e2,c2⟩⟩
theorem qho(hh:A.in1.handled=none)(lI:l≠I)(SI:S≠I)(Sl:S≠l)(zp:jC prog w A.in1 I S s0 its bt)(hR:∀v s',its[argBest bt (its.size-1)]? =some v->Kp I S s0 s'->R (.ok (.ret v)) s'):
 ∀(k j:Nat) (s:Shared) (vb:Value) (c:Nat),its.size-(j+1)=k->j+1<=its.size->StL I l its (j+1) s.heap->its[argBest bt j]? =some vb->s.heap.get? S=some {cls:=.type "list",data:=.seq #[vb,vb] c}->Kp I S s0 s->
   codeAny (model prog w) A (.builtin "min.loop" ⟨[.ref I,.none,.ref S],kw⟩) R s:=by
 intro k;induction k with
 | zero=>
  intro j s vb c hk hj st hb hS K;have en:j+1=its.size:=by omega
  refine codeAny_builtin F.entry_min_loop ?_;rw[kh kb];show wpAny _ _ (seqItems? (.ref S) >>= _) _ _ s;refine j0 (xl hS rfl ?_);refine j0 (wpAny_tryCatch ?_);refine wpAny_pyNext_list_end hh st.1 st.2 (Array.getElem?_eq_none (by omega)) λh' eb=>?_;have hS2:h'.get? S=some {cls:=.type "list",data:=.seq #[vb,vb] c}:=eb S _ SI hS;show wpAny _ _ (updateSeq S (λ_=>#[]) >>= _) _ _ {s with heap:=h'};refine j0 (wpAny_updateSeq (s:={s with heap:=h'}) hS2 rfl ?_ (by simp[sizeLine_eq]) (by simp[sizeLine_eq]));refine j0 (wpAny_letGo ?_);refine j4 ?_;have ej:its.size-1=j:=by omega
  refine hR vb _ (by rw[ej];exact hb) (K.on (λb o h1 h2 e=>?_) rfl rfl rfl);exact(xx h' _ (Ne.symm h2)).trans (eb b o h1 e)
 | succ k ih=>
  intro j s vb c hk hj st hb hS K;have lt:j+1<its.size:=by omega
  refine codeAny_builtin F.entry_min_loop ?_;rw[kh kb];show wpAny _ _ (seqItems? (.ref S) >>= _) _ _ s;refine j0 (xl hS rfl ?_);refine j0 (wpAny_tryCatch ?_);have hx:its[j+1]? =some its[j+1]:=Array.getElem?_eq_getElem lt;refine wpAny_pyNext_list_item st.1 st.2 (x:=its[j+1]) hx λh' st' sb=>?_;have kI:∀b o,b≠I->s.heap.get? b=some o->h'.get? b=some o:=λb o hb e=>(sb.2 b hb).trans e;have hS2:h'.get? S=some {cls:=.type "list",data:=.seq #[vb,vb] c}:=kI S _ SI hS;have L2:h'.IsList l its:=by obtain⟨o,e,q⟩:=st.2;exact⟨o,kI l o lI e,q⟩
  have K2:Kp I S s0 {s with heap:=h'}:=K.on (λb o h1 _ e=>kI b o h1 e) rfl rfl rfl;show wpAny _ _ (pure its[j+1] >>= _) _ _ {s with heap:=h'};refine j0 (j4 ?_);show wpAny _ _ (Sem.tryCatch _ _ >>= _) _ _ {s with heap:=h'};refine j0 (wpAny_tryCatch (xp ?_));refine j0 (zp (j+1) (argBest bt j) _ vb _ _ _ hx hb K2 λs3 q3=>?_);refine j0 (xp (k6 ?_));refine j0 (wpAny_letGo ?_);refine j4 ?_;have hS3:=q3.heap S _ hS2;have st3:StL I l its (j+1+1) s3.heap:=StL.keep ⟨st',L2⟩ λb o _ e=>q3.heap b o e;have K3:Kp I S s0 s3:=K2.on (λb o _ _ e=>q3.heap b o e) q3.gens q3.drawn q3.os;have eb:argBest bt (j+1)=if bt (j+1) (argBest bt j)=true then j+1 else argBest bt j:=by rw[argBest]
  cases q:bt (j+1) (argBest bt j)with
  | true=>
   rw[q,if_pos rfl]at eb;show wpAny _ _ (updateSeq S _ >>= _) _ _ s3;refine j0 (wpAny_updateSeq hS3 rfl ?_ (by simp[sizeLine_eq]) (by simp[sizeLine_eq]));refine j0 (wpAny_letGo ?_);refine j4 ⟨ka kb _,?_⟩;have hS4:=k8 (Obj.mapSeq λ_=>#[its[j+1],its[j+1]]) hS3 rfl;refine ih (j+1) _ its[j+1] _ (by omega) lt (st3.keep λb o hb e=>?_) (by rw[eb];exact hx) hS4 (K3.on (λb o h1 h2 e=>(xx s3.heap _ (Ne.symm h2)).trans e) rfl rfl rfl);refine(xx s3.heap _ ?_).trans e;rcases hb with rfl|rfl
   ·exact SI
   ·exact Sl
  | false=>
   rw[q,if_neg (by decide)]at eb;show wpAny _ _ (letGo _ >>= _) _ _ s3;refine j0 (wpAny_letGo ?_);refine j4 ⟨ka kb _,?_⟩;exact ih (j+1) s3 vb c (by omega) lt st3 (by rw[eb];exact hb) hS3 K3
theorem qes(hh:A.in1.handled=none)(lI:l≠I)(SI:S≠I)(Sl:S≠l)(zp:jC prog w A.in1 I S s0 its bt)(hR:∀v s',its[argBest bt (its.size-1)]? =some v->Kp I S s0 s'->R (.ok (.ret v)) s')
 (hD:its.size=0->∃x d r,kw=(x,d)::r/\∀s',Kp I S s0 s'->R (.ok (.ret d)) s')
 {s:Shared} {c:Nat} (st:StL I l its 0 s.heap) (hS:s.heap.get? S=some {cls:=.type "list",data:=.seq #[] c}) (K:Kp I S s0 s):codeAny (model prog w) A (.builtin "min.loop" ⟨[.ref I,.none,.ref S],kw⟩) R s:=by
 refine codeAny_builtin F.entry_min_loop ?_;rw[kh kb];show wpAny _ _ (seqItems? (.ref S) >>= _) _ _ s;refine j0 (xl hS rfl ?_);refine j0 (wpAny_tryCatch ?_);by_cases h0:its.size=0
 ·obtain⟨x,d,r,rfl,hE⟩:=hD h0;refine wpAny_pyNext_list_end hh st.1 st.2 (Array.getElem?_eq_none (by omega)) λh' eb=>?_;show wpAny _ _ (rule _ >>= _) _ _ {s with heap:=h'};refine j0 (wpAny_rule ?_);refine j4 ?_;exact hE _ (K.on (λb o h1 h2 e=>eb b o h1 e) rfl rfl rfl)
 ·have lt:0<its.size:=by omega
  have hx:its[0]? =some its[0]:=Array.getElem?_eq_getElem lt;refine wpAny_pyNext_list_item st.1 st.2 (x:=its[0]) hx λh' st' sb=>?_;have kI:∀b o,b≠I->s.heap.get? b=some o->h'.get? b=some o:=λb o hb e=>(sb.2 b hb).trans e;have hS2:h'.get? S=some {cls:=.type "list",data:=.seq #[] c}:=kI S _ SI hS;have L2:h'.IsList l its:=by obtain⟨o,e,q⟩:=st.2;exact⟨o,kI l o lI e,q⟩
  show wpAny _ _ (pure its[0] >>= _) _ _ {s with heap:=h'};refine j0 (j4 ?_);show wpAny _ _ (updateSeq S _ >>= _) _ _ {s with heap:=h'};refine j0 (wpAny_updateSeq (s:={s with heap:=h'}) hS2 rfl ?_ (by simp[sizeLine_eq]) (by simp[sizeLine_eq]));refine j4 ⟨ka kb _,?_⟩;have hS4:=k8 (Obj.mapSeq λ_=>#[its[0],its[0]]) hS2 rfl;refine qho hh lI SI Sl zp hR (its.size-1) 0 _ its[0] _ rfl lt (StL.keep ⟨st',L2⟩ λb o hb e=>?_) hx hS4 (K.on (λb o h1 h2 e=>(xx h' _ (Ne.symm h2)).trans (kI b o h1 e)) rfl rfl rfl);refine(xx h' _ ?_).trans e;rcases hb with rfl|rfl
  ·exact SI
  ·exact Sl
end
section
variable{X:Cx}{z5:List (Addr×Obj)}{σ:St}{H:Hp}{s:Shared}
theorem qke{P c:Addr}{params:Arguments}{body:Expr}{scope:Scope}{zq:List (Str×Addr)}{pos:Pos}{Q:Value->Shared->Prop}{E:Value->Shared->Prop}(I:Inv X z5 σ H s)(hH:H P=some (.lam pos (X.env.qual++"<lambda>")))(hdef:defaultsOf params X.env=([],[]))(hcl:closureFor scope X.env=pure zq)(hge0:X.env.globals=mainGlobals)(zv:X.env.code=.ref c)(C:W.CodeHd X.base c P)(hb:X.base.BuiltinsAt X.mg P)
 (k:∀(f c':Addr) (ctv:Value) (H':Hp) (s':Shared),Inv X z5 σ H' s'->(∀a o,H a=some o->H' a=some o)->(∀a,H' a≠none->H a≠none∨s.heap.objs.size<=a)->s'.heap.get? f=some (W.kla_obj "<lambda>" (X.env.qual++"<lambda>") params body scope zq ((X.mg "__name__").getD .none) c' ctv)->H' f=none->s.heap.objs.size<=f->s'.heap.CodeRec (.ref c') (X.env.qual++"<lambda>")->H' c'=some (.own P)->(∃ps:Array Value,s'.heap.get? P=some {cls:=.none,data:=.fields ps}/\TriplesOk ps.toList/\codeAmong pos ps.toList=some (.ref c'))->Q (.ref f) s'):
 wpAny (model X.prog X.w) X.A (eval (.Lambda params body scope pos) X.env) Q E s:=by
 obtain⟨ps,e,t,r⟩:=I.hok P _ hH;have hgs:s.heap.Ns mainGlobals X.mg:=I.mod.glob.keeps I.bk;have hgP:mainGlobals≠P:=λq=>by obtain⟨o,es,ep,e1,hd,_⟩:=I.mod.glob;have:=(I.bs _ _ e1).2;rw[q,hH]at this;cases this
 obtain⟨bm,ob,b1,b2,b3,b4,b5,b6⟩:=hb;have hb':s.heap.BuiltinsAt X.mg P:=⟨bm,ob,b1,b2,b3,b4,I.bk _ _ b5,b6⟩;have nP:∀b,H b=none->b≠P:=λb h q=>by rw[q,hH]at h;cases h
 refine W.kla_eval hdef ?_;rcases r with hnf|⟨c',hf,hc,hcd⟩
 ·refine W.kla_makeFunction (mg:=X.mg) hcl hge0 hgs zv (C.keeps I.bk) e t hnf hgP hb' λc' ctv h' tk hx hge hlt hrec htb=>?_;have hc0:H c'=none:=I.hok.fresh hge;have up:∀b o,b≠P->s.heap.get? b=some o->(h'.push (W.kla_obj "<lambda>" (X.env.qual++"<lambda>") params body scope zq ((X.mg "__name__").getD .none) c' ctv)).get? b=some o:=λb o hb e=>j6 _ (hx b o hb e);have hne:∀b o,H b=some o->b≠c':=λb o h q=>by rw[q,hc0]at h;cases h
  have hpc:P≠c':=hne P _ hH;have hrec2:=hrec.push (W.kla_obj "<lambda>" (X.env.qual++"<lambda>") params body scope zq ((X.mg "__name__").getD .none) c' ctv);have hok:HOk X.prog X.w (aP H c' (.own P)) (h'.push (W.kla_obj "<lambda>" (X.env.qual++"<lambda>") params body scope zq ((X.mg "__name__").getD .none) c' ctv)):=λb o hb=>by
   by_cases q:b=c'
   ·subst q;rw[cM]at hb;cases hb;obtain⟨c2,oc,vs,tq,hc2,hoc,_⟩:=hrec2;cases hc2;exact⟨oc,hoc⟩
   ·rw[aU q]at hb;by_cases q2:b=P
    ·subst q2;rw[hH]at hb;cases hb;refine⟨ps++#[rawInt pos.line,rawInt pos.col,.ref c'],j6 _ htb,?_,.inr ⟨c',?_,cM,hrec2⟩⟩
     ·rw[Array.toList_append];exact TriplesOk_snoc _ _ _ _ t
     ·rw[Array.toList_append];exact codeAmong_snoc _ t hnf
    ·refine(I.hok b o hb).stay (λd u hd e1=>up d u ?_ e1) (λd hd=>by rw[aU (hne d _ hd)];exact hd) λd xs hd=>by rw[aU (hne d _ hd)];exact hd
     rcases hd with rfl|hd
     ·exact q2
     ·exact λz=>by rw[z,hH]at hd;cases hd
  have I2:Inv X z5 σ (aP H c' (.own P)) {s with heap:=h'.push (W.kla_obj "<lambda>" (X.env.qual++"<lambda>") params body scope zq ((X.mg "__name__").getD .none) c' ctv),toks:=tk}:=
   I.step (g':=s.gens) (d':=s.drawn) (ch:=[]) (λ_ z=>nomatch z) (λb o _ _ _ e1 n=>up b o (nP b n) e1) (λb o _ _ _ e1 n=>⟨o.slots,up b o (nP b n) e1⟩)
    (λb o _ e1 n=>by rw[aU (jh (jn (j5 e1) hge))];exact n)
    (λb o _ e1=>by
      by_cases q:b=P
      ·rw[q];exact⟨_,j6 _ htb⟩
      ·exact⟨o,up b o q e1⟩)
    (λb xs h=>by rw[aU (hne b _ h)];exact h) (λb o u h=>by rw[aU (hne b _ h)];exact h) (λb ps h=>⟨#[],by rw[aU (hne b _ h),h];simp⟩)
    (λm hn=>(hn.extBut hx (nP _ I.free)).push _) hok I.bare
  have hfs:s.heap.objs.size<=h'.objs.size:=jr hge (Nat.le_of_lt hlt);refine k h'.objs.size c' ctv _ _ I2 (λa o h=>by rw[aU (hne a o h)];exact h) (λa h=>?_) (jj _ rfl) ?_ hfs hrec2 cM ⟨ps++#[rawInt pos.line,rawInt pos.col,.ref c'],j6 _ htb,by rw[Array.toList_append];exact TriplesOk_snoc _ _ _ _ t,by rw[Array.toList_append];exact codeAmong_snoc _ t hnf⟩
  ·by_cases q:a=c'
   ·rw[q];exact .inr hge
   ·rw[aU q]at h;exact .inl h
  ·rw[aU (Nat.ne_of_gt hlt)];exact I.hok.fresh hfs
 ·refine W.kla_makeFunctionHit (mg:=X.mg) hcl hge0 hgs zv (C.keeps I.bk) e t hf hb' λctv h' tk hk hsz=>?_;have up:∀b o,s.heap.get? b=some o->(h'.push (W.kla_obj "<lambda>" (X.env.qual++"<lambda>") params body scope zq ((X.mg "__name__").getD .none) c' ctv)).get? b=some o:=λb o e=>j6 _ (hk b o e);have I2:Inv X z5 σ H {s with heap:=h'.push (W.kla_obj "<lambda>" (X.env.qual++"<lambda>") params body scope zq ((X.mg "__name__").getD .none) c' ctv),toks:=tk}:=
   I.step (g':=s.gens) (d':=s.drawn) (ch:=[]) (λ_ z=>nomatch z) (λb o _ _ _ e1 n=>up b o e1) (λb o _ _ _ e1 n=>⟨o.slots,up b o e1⟩) (λb o _ e1 n=>n) (λb o _ e1=>⟨o,up b o e1⟩) (λb xs h=>h) (λb o u h=>h) (λb ps h=>⟨#[],by rw[h];simp⟩)
    (λm hn=>hn.keeps up) (I.hok.kept up) I.bare
  exact k h'.objs.size c' ctv _ _ I2 (λa o h=>h) (λa h=>.inl h) (jj _ rfl) (I.hok.fresh hsz) hsz (hcd.keeps up) hc ⟨ps,up _ _ e,t,hf⟩
end
section
open PySem.SeqAt PySem.MeetsSeq PySem.MeetsSeq2 PySem.MeetsSeq3
theorem lV{M:Model}{A:Around}{E:Value->Shared->Prop}{s:Shared}{l:Addr}{items:Array Value}{n:Nat}{dd:Option Addr}{sl:Array (Option Value)}{Q:Array Value->Shared->Prop}(h:s.heap.get? l=some {cls:=.type "list",dict:=dd,data:=.seq items n,slots:=sl})(q:Q items s):wpAny M A (Builtin.List.listItems (.ref l)) Q E s:=by unfold Builtin.List.listItems;exact j0 (xl h rfl (j4 q))
theorem oz:∀{vs:List Value} {ns:List Int},IntsAre vs ns->∀{i:Nat} {a:Int},ns[i]? =some a->∃t,vs[i]? =some (.int a t):=by
 intro vs ns h;induction h with
 |nil=>intro i a e;simp at e
 | cons a t _ ih=>
  intro i b e;cases i with
  |zero=>cases e;exact⟨t,rfl⟩
  |succ i=>exact ih e
theorem qok(l b:Addr)(items zc:Array Value)(n n2:Nat)(dd dd2:Option Addr)(sl sl2:Array (Option Value))(ns ms:List Int)(hi:IntsAre items.toList ns)(hj:IntsAre zc.toList ms)(hl:ns.length=ms.length):
 ∀(k i:Nat),ns.length-i=k->i<=ns.length->Meets (Builtin.«list.__eq__.loop» ⟨[.ref l,.ref b,rawInt i,rawInt 0],[]⟩)
   (λ_ R s=>s.heap.get? l=some {cls:=.type "list",dict:=dd,data:=.seq items n,slots:=sl}/\s.heap.get? b=some {cls:=.type "list",dict:=dd2,data:=.seq zc n2,slots:=sl2}/\
     R (.ok (.ret (.bool (HT.lexLt (ns.drop i) (ms.drop i))))) s):=by
 have z1:items.size=ns.length:=by rw[<-hi.length];simp
 have z2:zc.size=ms.length:=by rw[<-hj.length];simp
 intro k;induction k with
 | zero=>
  intro i hk hle prog w A R s h;obtain⟨h1,h2,h⟩:=h;have e1:items[i]? =none:=Array.getElem?_eq_none (by omega);rw[List.drop_eq_nil_of_le (as:=ns) (by omega),List.drop_eq_nil_of_le (as:=ms) (by omega)]at h;show wpAny _ _ (Builtin.List.listItems (.ref l) >>= _) _ _ s;refine j0 (lV h1 (j0 (lV h2 ?_)));simp only[Int.toNat_natCast,e1];refine j0 (lV h1 (j0 (lV h2 (j4 ?_))));have ez:items.size=zc.size:=by omega
  show R (.ok (.ret (.bool (decide (items.size<zc.size))))) s;rw[ez,decide_eq_false (x9 _)];exact h
 | succ k ih=>
  intro i hk hle prog w A R s h;obtain⟨h1,h2,h⟩:=h;have lt1:i<ns.length:=by omega
  have lt2:i<ms.length:=by omega
  obtain⟨t,e1⟩:=oz hi (j8 lt1);obtain⟨u,e2⟩:=oz hj (j8 lt2);have e1:items[i]? =some (.int ns[i] t):=by simpa using e1
  have e2:zc[i]? =some (.int ms[i] u):=by simpa using e2
  rw[k9 lt1,k9 lt2,HT.lexLt_cons]at h;show wpAny _ _ (Builtin.List.listItems (.ref l) >>= _) _ _ s;refine j0 (lV h1 (j0 (lV h2 ?_)));simp only[Int.toNat_natCast,e1,e2];obtain⟨e,he,hiff⟩:=HT.eqAt_int A.in1 s ns[i] t ms[i] u;refine j0 (he prog w _ _ ?_);cases e with
  | true=>
   rw[if_pos (hiff.mp rfl)]at h;simp only[if_true];refine j4 ⟨ka plain_eq_loop _,?_⟩;refine codeAny_builtin entry_eq_loop ?_;rw[kh plain_eq_loop];have ei:rawInt ((i:Int)+1)=rawInt ((i+1:Nat):Int):=by rw[Int.natCast_add];rfl
   rw[ei];exact ih (i+1) (by omega) (by omega) prog w A R s ⟨h1,h2,h⟩
  | false=>
   rw[if_neg (λq=>absurd (hiff.mpr q) Bool.false_ne_true)]at h;simp only[Bool.false_eq_true,if_false];refine j0 (lV h1 (j0 (lV h2 ?_)));simp only[e1,e2];refine j0 (HT.rcLt_int A.in1 s _ t _ u prog w _ _ ?_);exact j4 h
theorem qak(l b:Addr)(items zc:Array Value)(n n2:Nat)(dd dd2:Option Addr)(sl sl2:Array (Option Value))(ns ms:List Int)(hi:IntsAre items.toList ns)(hj:IntsAre zc.toList ms)(hl:ns.length=ms.length):
 Meets (Builtin.«list.__lt__» ⟨[.ref l,.ref b],[]⟩)
  (λ_ R s=>s.heap.get? l=some {cls:=.type "list",dict:=dd,data:=.seq items n,slots:=sl}/\s.heap.get? b=some {cls:=.type "list",dict:=dd2,data:=.seq zc n2,slots:=sl2}/\
    R (.ok (.ret (.bool (HT.lexLt ns ms)))) s):=λprog w A R s h=>by
 obtain⟨h1,h2,h⟩:=h;have ty:s.TypeIs (.ref b) "list":=⟨_,h2,rfl⟩;show wpAny _ _ (isInstance (.ref b) (.type "list") >>= _) _ _ s;refine j0 (wpAny_isInstance ty (b:=true) sub_list_self ?_);show wpAny _ _ (again (.builtin "list.__eq__.loop" ⟨[.ref l,.ref b,rawInt 0,rawInt 0],[]⟩)) _ _ s;refine j4 ⟨ka plain_eq_loop _,?_⟩;refine codeAny_builtin entry_eq_loop ?_;rw[kh plain_eq_loop];exact qok l b items zc n n2 dd dd2 sl sl2 ns ms hi hj hl _ 0 rfl (Nat.zero_le _) prog w A R s ⟨h1,h2,h⟩
end
section
variable{prog:Program}{w:World}{A:Around}{E:Value->Shared->Prop}{s:Shared}
theorem FF{l b:Addr}{items zc:Array Value}{ns ms:List Int}{Q:Value->Shared->Prop}(hl:s.heap.IsList l items)(hb:s.heap.IsList b zc)(hi:IntsAre items.toList ns)(hj:IntsAre zc.toList ms)(hn:ns.length=ms.length)
 (hu:A.units<cLine) (h:Q (.bool (HT.lexLt ns ms)) s):wpAny (model prog w) A (richCompare .Lt (.ref l) (.ref b)) Q E s:=by
 obtain⟨⟨cls,dd,data,sl⟩,ho,hc,n,hd⟩:=id hl;obtain⟨⟨cls2,dd2,data2,sl2⟩,ho2,hc2,n2,hd2⟩:=id hb;simp only at hc hd hc2 hd2;subst hc hd hc2 hd2;exact richCompare_meets_room (op:=.Lt) ⟨_,ho,rfl⟩ ⟨_,ho2,rfl⟩ F.slot_list_lt F.entry_list_lt (F.args_list_lt_2 _ _) (qak l b items zc n n2 dd dd2 sl sl2 ns ms hi hj hn)
  ⟨ho,ho2,show Value.bool (HT.lexLt ns ms)≠Value.notImplemented/\Q (.bool (HT.lexLt ns ms)) s from⟨(λx=>nomatch x),h⟩⟩ hu
end
inductive Cmps(A:Around)(s:Shared):List Value->List Value->Bool->Prop
 |nil:Cmps A s [] [] false
 |eq {x y:Value} {vs ws:List Value} {r:Bool}:SeqAt.EqAt A s x y true->Cmps A s vs ws r->Cmps A s (x::vs) (y::ws) r
 |ne {x y:Value} {vs ws:List Value} {r:Bool}:SeqAt.EqAt A s x y false->(∀(prog:Program) (w:World) (E Q:Value->Shared->Prop),Q (.bool r) s->wpAny (model prog w) A (richCompare .Lt x y) Q E s)->vs.length=ws.length->Cmps A s (x::vs) (y::ws) r
theorem Cmps.len{A:Around}{s:Shared}{vs ws:List Value}{r:Bool}(h:Cmps A s vs ws r):vs.length=ws.length:=by
 induction h with
 |nil=>rfl
 |eq _ _ ih=>rw[jl,jl,ih]
 |ne _ _ e=>rw[jl,jl,e]
section
open PySem.SeqAt
open PySem.AutoSeq1 (wpAny_loadPart')
open PySem.MeetsSeq PySem.MeetsSeq2 PySem.MeetsSeq3
end
section
variable{prog:Program}{w:World}{A:Around}{E:Value->Shared->Prop}{s:Shared}
end
theorem yu:∀ns:List Int,HT.lexLt ns ns=false
 |[]=>rfl
 |n::ns=>by rw[HT.lexLt_cons,if_pos rfl,yu ns]
theorem qi8{A:Around}{s:Shared}{l b:Addr}{vs ws:List Value}{ns ms:List Int}(hl:s.heap.IsList l vs.toArray)(hb:s.heap.IsList b ws.toArray)(hi:IntsAre vs ns)(hj:IntsAre ws ms)(hn:ns.length=ms.length)(hu:A.units<cLine):SeqAt.EqAt A s (.ref l) (.ref b) (decide (ns=ms)):=by
 by_cases q:l=b
 ·subst q;have e:vs=ws:=by
   obtain⟨o,e1,c1,n1,d1⟩:=hl;obtain⟨o2,e2,c2,n2,d2⟩:=hb;rw[e1]at e2;cases e2;rw[d1]at d2;injection d2 with d3 _;simpa using d3
  subst e;have en:ns=ms:=by
   apply List.ext_getElem?;intro i;by_cases h:i<ns.length
   ·obtain⟨t,e1⟩:=oz hi (j8 h);obtain⟨u,e2⟩:=oz hj (j8 (show i<ms.length by omega));rw[e1]at e2;injection e2 with e3;injection e3 with e4 _;rw[j8 h,j8 (show i<ms.length by omega),e4]
   ·rw[jw (by omega),jw (by omega)]
  rw[decide_eq_true en];exact SeqAt.EqAt.same _
 ·have lv:vs.length=ns.length:=hi.length;have lw:ws.length=ms.length:=hj.length;have h:=SeqAt.RcAt.lists (A:=A) (e:=λj=>decide (ns[j]? =ms[j]?)) hl hb (by simp;omega) hu λj h1 h2=>by
   have h1':j<ns.length:=by simp at h1;omega
   have h2':j<ms.length:=by omega
   obtain⟨t,e1⟩:=oz hi (j8 h1');obtain⟨u,e2⟩:=oz hj (j8 h2');obtain⟨e,he,hiff⟩:=HT.eqAt_int A.in1 s ns[j] t ms[j] u;have g1:vs.toArray[j]=.int ns[j] t:=by have:=(List.getElem?_eq_some_iff.mp e1).2;simpa using this
   have g2:ws.toArray[j]=.int ms[j] u:=by have:=(List.getElem?_eq_some_iff.mp e2).2;simpa using this
   rw[g1,g2];have ee:decide (ns[j]? =ms[j]?)=e:=by
    rw[j8 h1',j8 h2'];cases e with
    |true=>simp[hiff.mp rfl]
    | false=>
     have:¬ns[j]=ms[j]:=λz=>absurd (hiff.mpr z) (by decide);simp[this]
   rw[ee];exact he
  have ea:(List.range vs.toArray.size).all (λj=>decide (ns[j]? =ms[j]?))=decide (ns=ms):=by
   rw[Bool.eq_iff_iff];simp only[List.all_eq_true,decide_eq_true_eq,List.mem_range,List.size_toArray];constructor
   ·intro z;apply List.ext_getElem?;intro i;by_cases hi:i<ns.length
    ·exact z i (by omega)
    ·rw[jw (by omega),jw (by omega)]
   ·intro z i _;rw[z]
  rw[ea]at h;exact SeqAt.EqAt.of_refs q h
def lQ(a c:Int)(ns ms:List Int):Bool:=if a=c then HT.lexLt ns ms else decide (a<c)
theorem qj5{a d:Value}:argsOk "min" ⟨[a],[(Str.ofString "default",d)]⟩:=by kernel_rfl
section
variable{prog:Program}{w:World}{A:Around}{E:Value->Shared->Prop}{s:Shared}{Q:Value->Shared->Prop}{p:Addr}{its:Array Value}{bt:Nat->Nat->Bool}
theorem Dr(hh:A.in1.handled=none)(hl:s.heap.IsList p its){kw:List (Str×Value)}{dflt:Option Value}(hk:kw=dflt.toList.map λd=>(Str.ofString "default",d))
 (zp:jC prog w A.in1 s.heap.objs.size (s.heap.objs.size+1) s its bt)
 (hD:its.size=0->∃d,dflt=some d/\∀s',Kq s s'->Q d s') (hQ:∀v s',its[argBest bt (its.size-1)]? =some v->Kq s s'->Q v s'):
 wpAny (model prog w) A.in1 (do let it <-pyIter (.ref p);let b <-newList [];again (.builtin "min.loop" ⟨[it,.none,b],kw⟩)) (λfin s'=>match fin with
  | .done f=>(match (Except.ok f:Result)with
   |.ok (.ret v)=>Q v s'
   |.ok _=>False
   |.error e=>E e s')
  | .again c'=>c'.quiet=true/\codeAny (model prog w) A c' (λr s'=>match r with
   |.ok (.ret v)=>Q v s'
   |.ok _=>False
   |.error e=>E e s') s') E s:=by
 have lp:p<s.heap.objs.size:=by obtain⟨o,e,_⟩:=hl;exact j5 e
 refine j0 (wpAny_pyIter_list hl ?_);refine j0 (xq ?_ (by first|exact Nat.zero_le _|(show(0:Nat)<=sizeLine;exact Nat.zero_le _)));refine j4 ⟨ka kb _,?_⟩;have push2:∀b o,s.heap.get? b=some o->((s.heap.push {cls:=.type "list_iterator",data:=.fields #[.ref p,.int 0 0]}).push {cls:=.type "list",data:=.seq #[]}).get? b=some o:=λb o e=>j6 _ (j6 _ e);have sz:(s.heap.push {cls:=.type "list_iterator",data:=.fields #[.ref p,.int 0 0]}).objs.size=s.heap.objs.size+1:=xg _ _;have kq:∀s',Kp s.heap.objs.size (s.heap.objs.size+1) s s'->Kq s s':=λs' k=>⟨λb o e=>k.heap b o (jh (j5 e)) (jh (Nat.lt_succ_of_lt (j5 e))) e,k.gens,k.drawn,k.os⟩;dsimp only;rw[sz];refine qes (s0:=s) hh (jh lp) (Nat.ne_of_gt (Nat.lt_succ_self _)) (Nat.ne_of_gt (Nat.lt_succ_of_lt lp)) zp (λv s' e k=>hQ v s' e (kq s' k)) (λh0=>?_) (c:=0) ⟨⟨_,j6 _ (jj _ rfl),rfl,rfl⟩,?_⟩ ?_ ⟨λb o _ _ e=>push2 b o e,rfl,rfl,rfl⟩
 ·obtain⟨d,e,k⟩:=hD h0;subst e;exact⟨_,d,[],by rw[hk];rfl,λs' k'=>k s' (kq s' k')⟩
 ·obtain⟨o,e,c⟩:=hl;exact⟨o,push2 p o e,c⟩
 ·have:=jj (s.heap.push {cls:=.type "list_iterator",data:=.fields #[.ref p,.int 0 0]}) (o:={cls:=.type "list",data:=.seq #[]}) rfl;rw[sz]at this;exact this
theorem qis(hh:A.in1.handled=none)(hl:s.heap.IsList p its){d:Value}(zp:jC prog w A.in1 s.heap.objs.size (s.heap.objs.size+1) s its bt)
 (hD:its.size=0->∀s',Kq s s'->Q d s') (hQ:∀v s',0<its.size->its[argBest bt (its.size-1)]? =some v->Kq s s'->Q v s'):wpAny (model prog w) A (call (.builtin "min") [.ref p] [(Str.ofString "default",d)]) Q E s:=by
 refine kmk_tree F.kind_min F.plain_min F.entry_min (qj5) ?_;show wpAny _ _ (Builtin.Builtins.bindParams "min" ["key","default"] 0 ⟨[],[(Str.ofString "default",d)]⟩ >>= _) _ _ s;refine j0 (wpAny_of_eq (show _=pure [none,some d]from by rfl) ?_);show wpAny _ _ (pure (Value.ref p) >>= _) _ _ s;refine j0 (j4 ?_);dsimp only;rw[show(toString "min"++toString ".loop")="min.loop" from by decide];exact Dr hh hl (dflt:=some d) rfl zp (λh=>⟨d,rfl,hD h⟩) λv s' e k=>hQ v s' (by
  rcases Nat.eq_zero_or_pos its.size with z|z
  ·rw[Array.getElem?_eq_none (by omega)]at e;cases e
  ·exact z) e k
theorem qir(hh:A.in1.handled=none)(hl:s.heap.IsList p its)(h0:0<its.size)(zp:jC prog w A.in1 s.heap.objs.size (s.heap.objs.size+1) s its bt)
 (hQ:∀v s',its[argBest bt (its.size-1)]? =some v->Kq s s'->Q v s'):wpAny (model prog w) A (call (.builtin "min") [.ref p]) Q E s:=by
 refine kmk_tree F.kind_min F.plain_min F.entry_min (F.args_min1 _) ?_;show wpAny _ _ (Builtin.Builtins.bindParams "min" ["key","default"] 0 ⟨[],[]⟩ >>= _) _ _ s;refine j0 (wpAny_of_eq (show _=pure [none,none]from by rfl) ?_);show wpAny _ _ (pure (Value.ref p) >>= _) _ _ s;refine j0 (j4 ?_);dsimp only;rw[show(toString "min"++toString ".loop")="min.loop" from by decide];exact Dr hh hl (dflt:=none) rfl zp (λh=>absurd h (by omega)) hQ
end
theorem qfb{α:Type}{lt:α->α->Bool}{f:Nat->α}(h1:∀a,lt a a=false)(h2:∀a b c,lt a b=true->lt c b=false->lt c a=false)(n:Nat):argBest (λi j=>lt (f i) (f j)) n<=n/\∀i,i<=n->lt (f i) (f (argBest (λi j=>lt (f i) (f j)) n))=false:=by
 induction n with
 | zero=>
  rw[argBest];exact⟨j7 _,λi hi=>by rw[Nat.le_zero.mp hi];exact h1 _⟩
 | succ n ih=>
  obtain⟨h3,h4⟩:=ih;rw[argBest];cases q:lt (f (n+1)) (f (argBest (λi j=>lt (f i) (f j)) n))with
  | true=>
   rw[if_pos rfl];refine⟨j7 _,λi hi=>?_⟩;rcases Nat.lt_or_ge i (n+1)with z|z
   ·exact h2 _ _ _ q (h4 i (by omega))
   ·have e:i=n+1:=by omega
    rw[e];exact h1 _
  | false=>
   rw[if_neg (by decide)];refine⟨by omega,λi hi=>?_⟩;rcases Nat.lt_or_ge i (n+1)with z|z
   ·exact h4 i (by omega)
   ·have e:i=n+1:=by omega
    rw[e];exact q
theorem vN{X:Cx}{z5:List (Addr×Obj)}{σ:St}{H:Hp}{s s':Shared}(I:Inv X z5 σ H s)(k:Kq s s'):Inv X z5 σ H s':=by
 have es:s'={s with heap:=s'.heap,toks:=s'.toks}:=by obtain⟨h2,g2,d2,t2,o2⟩:=s';obtain⟨_,eg,ed,eo⟩:=k;cases eg;cases ed;cases eo;rfl
 rw[es];exact I.kept k.heap
def ub(ns:List Int):Nat->Nat->Bool:=λi j=>decide (ns.getD i 0<ns.getD j 0)
def c5(ns:List Int):Option Int:=match ns with
 |[]=>none
 |_=>some (ns.getD (argBest (ub ns) (ns.length-1)) 0)
def pf(ns:List Int):V:=match c5 ns with
 |none=>.non
 |some m=>.int m
theorem tw{ns:List Int}{m:Int}(h:c5 ns=some m):m∈ns/\∀x∈ns,m<=x:=by
 cases ns with
 |nil=>cases h
 | cons a r=>
  cases h;obtain⟨h1,h2⟩:=qfb (lt:=λ(x y:Int)=>decide (x<y)) (f:=λi=>(a::r).getD i 0) (λa=>by simp) (λa b c=>by simp;omega) ((a::r).length-1);have hb:argBest (ub (a::r)) ((a::r).length-1)<(a::r).length:=Nat.lt_of_le_of_lt h1 (by simp);refine⟨?_,λx hx=>?_⟩
  ·rw[jc,j8 hb];exact xk hb
  ·obtain⟨i,hi,rfl⟩:=List.mem_iff_getElem.mp hx;have:=h2 i (by omega);simp only[decide_eq_false_iff_not]at this;rw[jc (i:=i),j8 hi]at this;exact Int.not_lt.mp this
theorem yi{ns:List Int}(h:c5 ns=none):ns=[]:=by
 cases ns with
 |nil=>rfl
 |cons a r=>cases h
theorem qog{ns:List Int}{m:Int}(h:m∈ns)(k:∀x∈ns,m<=x):c5 ns=some m:=by
 cases q:c5 ns with
 |none=>rw[yi q]at h;cases h
 | some y=>
  obtain⟨h1,h2⟩:=tw q;have e1:=h2 m h;have e2:=k y h1;congr 1;omega
section
variable{X:Cx}{K:au}{O:List Nat}{e:Expr}{d:Expr}{te:TE}{p kp pos:Pos}{fe:aJ}
def CW(K:au)(te:TE):TE:=λσ H Q=>te σ H λv H1=>∃(p:Addr) (ns:List Int),[v]=[V.ref p]/\SqL K H1 p (ns.map V.int)/\Q (pf ns) H1
theorem qnu(hK:X.K=K)(hc:X.calm=true)(hg:Gl X "min")(hm:X.mg "min"=none)(ha:PE X e te)(hd:PE X d (tC .non))(he:starEach [e] X.env=(false,eval e X.env)::starEach [] X.env:=by rfl)
 (h1:backTo pos (starEach [e] X.env)=(false,eval e X.env)::backTo pos (starEach [] X.env):=by rfl) (h2:(backTo pos (starEach [e] X.env)).any (·.1)=false:=by rfl)
 (h3:(backToKw pos (keywordEach [⟨some "default",d,kp⟩] X.env)).all (λx=>x.1.isSome)=true:=by rfl) (h4:(backToKw pos (keywordEach [⟨some "default",d,kp⟩] X.env)).any (λx=>x.1.isNone)=false:=by rfl)
 (h5:(backToKw pos (keywordEach [⟨some "default",d,kp⟩] X.env)).filterMap (·.1)=[Str.ofString "default"]:=by rfl):
 PE X (.Call (.Name "min" p) [e] [⟨some "default",d,kp⟩] pos) (CW K te):=by
 subst hK;intro z5 s σ H Q I h;refine xh (iw I hg hm (u:=.builtin "min") (by rfl) ?_);refine callWith_kw (bd ((aj ha ay he) pos z5 s σ H (λvs H1=>∃(p1:Addr) (ns:List Int),vs=[V.ref p1]/\SqL X.K H1 p1 (ns.map V.int)/\Q (pf ns) H1) I h) λus s1 hh1=>?_) h1 h2 h3 h4;obtain⟨vs,H1,I1,r1,p1,ns,rfl,q1,k⟩:=hh1;obtain⟨u,rfl,ru⟩:=cQ r1;cases(show u=Value.ref p1 from ru);refine kws_cons (bd (hd z5 s1 σ H1 (λv H2=>v=.non/\H2=H1) I1 ⟨rfl,rfl⟩) λdv s2 hh2=>?_);obtain⟨x,H2,I2,r2,rfl,rfl⟩:=hh2;cases r2;refine kws_nil ?_;rw[h5];obtain⟨its,rv,pl,hz⟩:=I2.list q1;have ln:its.length=ns.length:=by have:=rv.length;simp at this;omega
 have hh:X.A.in1.handled=none:=I2.ok.hd hc;show wpAny _ _ (call (.builtin "min") [.ref p1] [(Str.ofString "default",.none)]) _ _ s2;refine qis (its:=its.toArray) (bt:=ub ns) hh pl.isList (λi j vi vj s Q E hi hj _ q=>?_) (λh0 s' k'=>?_) λv s' h0 ev k'=>?_
 ·obtain⟨t,rfl⟩:=lW rv (by simpa using hi);obtain⟨t',rfl⟩:=lW rv (by simpa using hj);exact HT.rcLt_int _ s _ t _ t' _ _ _ _ (q s ⟨λ_ _ e=>e,rfl,rfl,rfl⟩)
 ·have en:ns=[]:=List.eq_nil_of_length_eq_zero (by simp at h0;rw[h0]at ln;simpa using ln.symm);subst en;exact⟨.non,_,vN I2 k',rfl,k⟩
 ·have hn:ns≠[]:=λz=>by rw[z]at ln;simp at h0 ln;rw[ln]at h0;exact absurd h0 (by simp)
  rw[jt,ln]at ev;obtain⟨t,rfl⟩:=lW rv (by simpa using ev);refine⟨_,_,vN I2 k',?_,k⟩;unfold pf c5;cases ns with
  |nil=>exact absurd rfl hn
  |cons a r=>exact⟨t,rfl⟩
def bJ:Option Int->D
 |none=>.non
 |some m=>.int m
def oj:D->Option D
 |.lst xs=>(eF xs).map λns=>bJ (c5 ns)
 |_=>none
theorem qoj(h:MB K O te fe):ME K O (CW K te) (aH oj fe):=λZ σ H R ρ d ρ' Q S e k=>by
 obtain⟨x,ρ1,e1,e⟩:=bS e;obtain⟨e3,rfl⟩:=dk e;refine h Z σ H R ρ x _ _ S e1 λv H1 R1 S1 st1 r1=>?_;unfold oj at e3;split at e3
 ·rename_i xs;obtain⟨b,vs,rfl,q,r⟩:=r1.isL;cases z:eF xs with
  |none=>rw[z]at e3;cases e3
  | some ns=>
   rw[z]at e3;cases e3;have ex:=mS r z;subst ex;refine⟨b,ns,rfl,q,k _ H1 R1 S1 st1 ?_⟩;show Rp K R1 (pf ns) (bJ (c5 ns));unfold pf;cases c5 ns with
   |none=>exact .non
   |some m=>exact .int m
 ·cases e3
end
theorem Fu:∀a b c:List Int,HT.lexLt a b=true->HT.lexLt c b=false->HT.lexLt c a=false
 |[],[],_,h,_=>by cases h
 |[],_::_,[],_,g=>by cases g
 |[],_::_,_::_,_,_=>rfl
 |_::_,[],_,h,_=>by cases h
 |_::_,_::_,[],_,g=>by cases g
 | x::xs,y::ys,z::zs,h,g=>by
  rw[HT.lexLt_cons]at h g ⊢;by_cases q:x=y
  ·rw[if_pos q]at h;subst q;by_cases r:z=x
   ·rw[if_pos r]at g ⊢;exact Fu xs ys zs h g
   ·rw[if_neg r]at g ⊢;exact g
  ·rw[if_neg q]at h;simp only[decide_eq_true_eq]at h;by_cases r:z=y
   ·rw[if_neg (by omega)];simp;omega
   ·rw[if_neg r]at g;simp only[decide_eq_false_iff_not]at g;rw[if_neg (by omega)];simp;omega
def cr(x y:Int×List Int):Bool:=lQ x.1 y.1 x.2 y.2
theorem tQ(x:Int×List Int):cr x x=false:=by unfold cr lQ;rw[if_pos rfl,yu]
theorem tH(a b c:Int×List Int)(h:cr a b=true)(g:cr c b=false):cr c a=false:=by
 unfold cr lQ at h g ⊢;by_cases q:a.1=b.1
 ·rw[if_pos q]at h;rw[q];by_cases r:c.1=b.1
  ·rw[if_pos r]at g ⊢;exact Fu _ _ _ h g
  ·rw[if_neg r]at g ⊢;exact g
 ·rw[if_neg q]at h;simp only[decide_eq_true_eq]at h;by_cases r:c.1=b.1
  ·rw[if_neg (by omega)];simp;omega
  ·rw[if_neg r]at g;simp only[decide_eq_false_iff_not]at g;rw[if_neg (by omega)];simp;omega
section
variable{X:Cx}{K:au}{O:List Nat}
def PrV(K:au)(H:Hp)(v:V)(q:Int×List Int):Prop:=∃a b,v=.ref a/\SqT K H a [.int q.1,.ref b]/\SqL K H b (q.2.map V.int)
theorem FL:∀{xs:List V} {us:List Value} {i:Nat} {u:Value},Vals xs us->us[i]? =some u->∃x,xs[i]? =some x/\RelV x u
 |_,_,_,_,.nil,e=>by simp at e
 |_,_,0,_,.cons r _,e=>by simp at e;subst e;exact⟨_,rfl,r⟩
 | _,_,i+1,u,.cons _ t,e=>by obtain⟨x,h1,h2⟩:=FL (i:=i) (u:=u) t (by simpa using e);exact⟨x,by simpa using h1,h2⟩
theorem PrV.mono{H R:Hp}{v:V}{q:Int×List Int}(s:Same R H)(h:PrV K R v q):PrV K H v q:=by obtain⟨a,b,e,h1,h2⟩:=h;exact⟨a,b,e,Same.tup s h1,Same.sqL s h2⟩
end
def wA(C:Addr)(names:List Str):Sp:=λvs H Q _=>∃(x dx:Addr) (args:List V),vs=.ref x::args/\args.length=names.length/\H x=some (.ins C dx [])/\Q .non (aP H x (.ins C dx (names.zip args)))
section
variable{K:au}{R:Hp}{O:List Nat}{t ta:TE}{tr:TA}{fa fb:aJ}{fs:aT}{E:XK}{C:Addr}{x m f:Str}
theorem Rfs.zip:∀{names:List Str} {vs:List V} {ds:List D},Rps K R vs ds->Rfs K R (names.zip vs) (names.zip ds)
 |[],_,_,_=>.nil
 |_::_,_,_,.nil=>.nil
 |_::_,_,_,.cons h r=>.cons h (Rfs.zip r)
theorem Rfs.lookup:∀{fs:List (Str×V)} {gs:List (Str×D)} {d:D},Rfs K R fs gs->gs.lookup f=some d->∃v,fs.lookup f=some v/\Rp K R v d
 |_,_,_,.nil,e=>by cases e
 | _,_,d,.cons (f:=g) (x:=v) (d:=d') h r,e=>by
  rw[List.lookup_cons]at e ⊢;cases q:f==g with
  | true=>
   rw[q]at e;cases e;exact⟨v,rfl,h⟩
  | false=>
   rw[q]at e;exact Rfs.lookup r e
theorem Rfs.lookup_none:∀{fs:List (Str×V)} {gs:List (Str×D)},Rfs K R fs gs->gs.lookup f=none->fs.lookup f=none
 |_,_,.nil,_=>rfl
 | _,_,.cons (f:=g) h r,e=>by
  rw[List.lookup_cons]at e ⊢;cases q:f==g with
  |true=>rw[q]at e;cases e
  | false=>
   rw[q]at e;exact Rfs.lookup_none r e
def pe(x:Str)(names:List Str)(fs:aT):aJ:=bV fs λds=>dz (if ds.length=names.length then some (.obj x (names.zip ds))else none)
theorem Ec{names:List Str}(n:W.nsIn K mainGlobals x=some (some (.ref C)))(h:MA K O tr fs):ME K O (CU C (wA C names) [] E tr) (pe x names fs):=λZ σ H R ρ d ρ' Q S e k=>by
 obtain⟨ds,ρ1,e1,e⟩:=bS e;obtain⟨e2,rfl⟩:=dk e;split at e2
 ·rename_i hl;cases e2;refine h Z σ H R ρ ds _ _ S e1 λvs H1 R1 S1 st1 r1=>?_;intro a dx ha hdx hne;refine⟨a,dx,vs,by rw[List.append_nil],by rw[r1.length,hl],cM,rfl,?_⟩;rw[Ew];have y1:=Ext.hid (o:=.own a) S1.sub hdx;have ha2:(aP H1 dx (HO.own a)) a=none:=by rw[aU (Ne.symm hne)];exact ha
  have y2:=Ext.new (o:=.ins C dx (names.zip vs)) y1.s ha2;exact k _ _ _ ((S1.ext y1).ext y2) ((st1.trans y1.stp).trans y2.stp) (.obj n cM (Rfs.zip (r1.mono y2.r)))
 ·cases e2
def vO(x:Str):aJ:=ae (.obj x [])
theorem qk9(n:W.nsIn K mainGlobals x=some (some (.ref C))):ME K O (DS C) (vO x):=λZ σ H R ρ d ρ' Q S e k=>by
 cases e;intro a dx ha hdx hne;have y1:=Ext.hid (o:=.own a) S.sub hdx;have ha2:(aP H dx (HO.own a)) a=none:=by rw[aU (Ne.symm hne)];exact ha
 have y2:=Ext.new (o:=.ins C dx []) y1.s ha2;exact k _ _ _ ((S.ext y1).ext y2) (y1.stp.trans y2.stp) (.obj n cM .nil)
def iO(x f:Str):D->Option D
 |.obj y gs=>if y=x then gs.lookup f else none
 |_=>none
def iM(x f:Str)(fa:aJ):aJ:=bV fa λd=>dz (iO x f d)
theorem Dt{C':Addr}(n:W.nsIn K mainGlobals x=some (some (.ref C)))(n':W.nsIn K mainGlobals x=some (some (.ref C'))):C'=C:=by rw[n]at n';cases n';rfl
theorem vP(n:W.nsIn K mainGlobals x=some (some (.ref C)))(c:Cls K C)(na:NoAttr K C f)(h:ME K O ta fa):ME K O (mY K ta f) (iM x f fa):=λZ σ H R ρ d ρ' Q S e k=>by
 obtain⟨d0,ρ1,e1,e⟩:=bS e;obtain⟨e2,rfl⟩:=dk e;refine h Z σ H R ρ _ _ _ S e1 λv H1 R1 S1 st1 r1=>?_;cases d0 with
 | obj y gs=>
  have e3:(if y=x then gs.lookup f else none)=some d:=e2;split at e3
  ·rename_i hy;subst hy;cases r1 with
   | obj n' hR rf=>
    have hC:=Dt n n';subst hC;obtain⟨v',hl,rv⟩:=rf.lookup e3;exact⟨_,_,_,_,v',rfl,S1.sub _ _ hR,c,na,hl,k v' H1 R1 S1 st1 rv⟩
  ·cases e3
 |_=>cases e2
def jK(x m:Str)(f:List D->Option D)(d:D)(ds:List D):Option D:=match d with
 |.obj y gs=>if y=x/\gs.lookup m=none then f (d::ds)else none
 |_=>none
def oG(x m:Str)(f:List D->Option D)(fa:aJ)(fs:aT):aJ:=bV fa λd=>bV fs λds=>dz (jK x m f d ds)
theorem wL{k0:Nat}{g:List D->Option D}(n:W.nsIn K mainGlobals x=some (some (.ref C)))(hg:bY k0 g)(h:ME K O ta fa)(ha:MA K O tr fs):ME K O (CV C m (cq K false k0 g) [] E ta tr) (oG x m g fa fs):=λZ σ H R ρ d ρ' Q S e k=>by
 obtain⟨d0,ρ1,e1,e⟩:=bS e;obtain⟨ds,ρ2,e2,e⟩:=bS e;obtain⟨e3,rfl⟩:=dk e;refine h Z σ H R ρ _ _ _ S e1 λv H1 R1 S1 st1 r1=>?_;cases d0 with
 | obj y gs=>
  have e4:(if y=x/\gs.lookup m=none then g (.obj y gs::ds)else none)=some d:=e3;split at e4
  ·rename_i hy;obtain⟨hy,hm⟩:=hy;subst hy;have r1':=r1;cases r1 with
   | obj n' hR rf=>
    have hC:=Dt n n';subst hC;refine⟨_,_,_,rfl,S1.sub _ _ hR,rf.lookup_none hm,?_⟩;refine ha Z σ H1 R1 ρ1 ds _ _ S1 e2 λvs H2 R2 S2 st2 r2=>?_;rw[List.append_nil];have r3:=Rps.cons (r1'.mono st2.r) r2;exact⟨by rw[r3.length];exact hg _ d e4,R2,_,d,S2.sub,r3,e4,λv H3 R3 y q=>k v H3 R3 (S2.ext y) ((st1.trans st2).trans y.stp) q⟩
  ·cases e4
 |_=>cases e3
def iK(f g:aJ):aJ:=λρ=>match f ρ with
 |some r=>some r
 |none=>g ρ
theorem Dq{t1 t2:TE}(h1:ME K O t1 fa)(h2:ME K O t2 fb):ME K O (λσ H Q=>t1 σ H Q∨t2 σ H Q) (iK fa fb):=λZ σ H R ρ d ρ' Q S e k=>by
 unfold iK at e;cases e1:fa ρ with
 | some q=>
  rw[e1]at e;cases e;exact .inl (h1 Z σ H R ρ d ρ' Q S e1 k)
 | none=>
  rw[e1]at e;exact .inr (h2 Z σ H R ρ d ρ' Q S e k)
theorem qpf{ρ:aB}{names:List Str}:pe x names fs ρ=(fs ρ).bind λp=>(if p.1.length=names.length then some (D.obj x (names.zip p.1))else none).map λy=>(y,p.2):=by unfold pe;rw[cK];congr 1;funext p;rw[eU]
theorem quq{ρ:aB}:iM x f fa ρ=(fa ρ).bind λp=>(iO x f p.1).map λy=>(y,p.2):=by unfold iM;rw[cK];congr 1;funext p;rw[eU]
theorem qpe{ρ:aB}{g:List D->Option D}:oG x m g fa fs ρ=(fa ρ).bind λp=>(fs p.2).bind λq=>(jK x m g p.1 q.1).map λy=>(y,q.2):=by unfold oG;rw[cK];congr 1;funext p;rw[cK];congr 1;funext q;rw[eU]
theorem quj{ρ:aB}:iK fa fb ρ=(fa ρ).or (fb ρ):=by unfold iK;cases fa ρ<;>rfl
end
end L2
namespace L2
open PySem
inductive Told where
 |clear (b:Int)
 |gap
 |soft (z o:Int)
def cW:Told->D
 |.clear b=>.tup [.str "clear",.int b]
 |.gap=>.tup [.str "gap"]
 |.soft z o=>.tup [.str "soft",.int z,.int o]
def bo:Told->D
 |.clear b=>.obj "Clear" [("bit",.int b)]
 |.gap=>.obj "Gap" []
 |.soft z o=>.obj "Soft" [("zero",.int z),("one",.int o)]
def iU:Told->Int->Int
 |.clear b,x=>if x=b then 0 else 1
 |.gap,_=>0
 |.soft z o,x=>if x=1 then o else z
def f7(ts:List Told)(bits:List Int):Int:=((ts.zip bits).map λq=>iU q.1 q.2).sum
theorem xP{x m:Str}{f:List D->Option D}{gs:List (Str×D)}{ds:List D}(h:gs.lookup m=none):jK x m f (.obj x gs) ds=f (.obj x gs::ds):=if_pos ⟨rfl,h⟩
theorem yh{x y m:Str}{f:List D->Option D}{gs:List (Str×D)}{ds:List D}(h:¬y=x):jK x m f (.obj y gs) ds=none:=if_neg λq=>h q.1
theorem wI{x f:Str}{gs:List (Str×D)}{d:D}(h:gs.lookup f=some d):iO x f (.obj x gs)=some d:=(if_pos rfl).trans h
def bn(U:List Int)(G:List (List Int))(N:Nat):List Int:=(List.range N).flatMap λk=>List.replicate (bF U G k).length (k:Int)
theorem yB{ring:Bool}{n:Nat}{U:List Int}{G:List (List Int)}(w:List Int):∀N,(bn U G N).length=(g9 ring n U G w N).length:=λN=>by
 unfold bn g9;induction N with
 |zero=>rfl
 |succ N ih=>rw[gD,gD,je,je,ih,ji,j3]
theorem xX(xs ys:List D):dn xs ys=(xs.zip ys).map λq=>D.tup [q.1,q.2]:=by unfold dn;rw[List.zip,List.map_zipWith]
theorem tS{α β γ δ:Type}(f:α->γ)(g:β->δ):∀(xs:List α) (ys:List β),(xs.map f).zip (ys.map g)=(xs.zip ys).map λq=>(f q.1,g q.2)
 |[],_=>rfl
 |_::_,[]=>rfl
 | x::xs,y::ys=>by show(f x,g y)::(xs.map f).zip (ys.map g)=(f x,g y)::(xs.zip ys).map _;rw[tS f g xs ys]
theorem yM:cB (.str "gap") (.str "clear")=some false:=by rw[hU (by decide+kernel) (by decide+kernel)];decide+kernel
theorem yK:cB (.str "soft") (.str "clear")=some false:=by rw[hU (by decide+kernel) (by decide+kernel)];decide+kernel
theorem yI:cB (.str "soft") (.str "gap")=some false:=by rw[hU (by decide+kernel) (by decide+kernel)];decide+kernel
theorem yN:cB (.str "clear") (.str "clear")=some true:=by rw[hU (by decide+kernel) (by decide+kernel)];decide+kernel
theorem yJ:cB (.str "gap") (.str "gap")=some true:=by rw[hU (by decide+kernel) (by decide+kernel)];decide+kernel
end L2
namespace L2
open PySem
abbrev Mv:=Int×Int
abbrev Sx:=List (List Mv)
abbrev Rw:=List (Option Int)
def dR(t:Rw)(z6:Int):Option Int:=(t[z6.toNat]?).join
def dZ(q:Mv)(z9:Rw):Option Int:=(dR z9 q.1).map λx=>q.2+x
def fQ(ch:List Mv)(z9:Rw):Option Int:=c5 ((ch.map λq=>dZ q z9).filterMap id)
def bT:List Sx->Rw->List Rw
 |[],ends=>[ends]
 |st::rest,ends=>(st.map λch=>fQ ch ((bT rest ends).headD []))::bT rest ends
def cy(st:Sx)(z6:Int):List Mv:=st.getD z6.toNat []
def d8:List Sx->Rw->Int->List Int->Option Int
 |[],ends,z6,_=>dR ends z6
 | st::rest,ends,z6,b::bs=>match (cy st z6)[b.toNat]? with
  |some q=>(d8 rest ends q.1 bs).map λx=>q.2+x
  |none=>none
 |_::_,_,_,[]=>none
def lM(st:Sx)(t t':Rw)(z6:Int):Int:=if dZ ((cy st z6).getD 0 (0,0)) t'=dR t z6 then 0 else 1
def hG:Nat->List Sx->List Rw->Int->List Int
 |0,_,_,_=>[]
 |_+1,[],_,_=>[]
 |_+1,_::_,[],_=>[]
 |n+1,st::rest,t::ts,z6=>lM st t (ts.headD []) z6::hG n rest ts ((cy st z6).getD (lM st t (ts.headD []) z6).toNat (0,0)).1
theorem yk(st:Sx)(rest:List Sx)(ends:Rw)(z6 b:Int)(bs:List Int):d8 (st::rest) ends z6 (b::bs)=match (cy st z6)[b.toNat]? with
 |some q=>(d8 rest ends q.1 bs).map λx=>q.2+x
 |none=>none:=rfl
theorem Gh(n:Nat)(st:Sx)(rest:List Sx)(t:Rw)(ts:List Rw)(z6:Int):hG (n+1) (st::rest) (t::ts) z6=lM st t (ts.headD []) z6::hG n rest ts ((cy st z6).getD (lM st t (ts.headD []) z6).toNat (0,0)).1:=rfl
theorem yo:∀(steps:List Sx) (ends:Rw),(bT steps ends).length=steps.length+1
 |[],_=>rfl
 | _::rest,ends=>by unfold bT;rw[jl,yo rest ends,jl]
theorem yy:∀(steps:List Sx) (ends:Rw) (k:Nat),k<=steps.length->(bT steps ends).drop k=bT (steps.drop k) ends
 |_,_,0,_=>rfl
 |[],_,k+1,h=>by simp at h
 | _::rest,ends,k+1,h=>by show(bT rest ends).drop k=bT (rest.drop k) ends;exact yy rest ends k (by simpa using h)
theorem yg{ch:List Mv}{z9:Rw}{q:Mv}{x:Int}(h:q∈ch)(e:dZ q z9=some x):x∈(ch.map λq=>dZ q z9).filterMap id:=by rw[List.mem_filterMap];exact⟨some x,List.mem_map.mpr ⟨q,h,e⟩,rfl⟩
theorem wG{st:Sx}{f:List Mv->Option Int}{z6:Int}{ch:List Mv}(h:st[z6.toNat]? =some ch):dR (st.map f) z6=f ch:=by unfold dR;rw[jd,h];rfl
theorem tT{st:Sx}{z6:Int}{ch:List Mv}(h:st[z6.toNat]? =some ch):cy st z6=ch:=by unfold cy;rw[jc,h];rfl
theorem qps{st:Sx}{z6:Int}{i:Nat}{q:Mv}(h:(cy st z6)[i]? =some q):st[z6.toNat]? =some (cy st z6):=by
 unfold cy at h ⊢;rw[jc]at h ⊢;cases e:st[z6.toNat]? with
 |none=>rw[e]at h;simp at h
 |some ch=>rfl
theorem xG:∀(steps:List Sx) (ends:Rw) (z6:Int) (us:List Int) (c:Int),d8 steps ends z6 us=some c->∃m,dR ((bT steps ends).headD []) z6=some m/\m<=c
 |[],ends,z6,us,c,h=>⟨c,h,Int.le_refl _⟩
 |st::rest,ends,z6,[],c,h=>by cases h
 | st::rest,ends,z6,b::bs,c,h=>by
  unfold d8 at h;cases e:(cy st z6)[b.toNat]? with
  |none=>rw[e]at h;cases h
  | some q=>
   rw[e]at h;simp only at h;cases e1:d8 rest ends q.1 bs with
   |none=>rw[e1]at h;cases h
   | some c1=>
    rw[e1]at h;cases h;obtain⟨m1,h1,h2⟩:=xG rest ends q.1 bs c1 e1;have hc:dZ q ((bT rest ends).headD [])=some (q.2+m1):=by unfold dZ;rw[h1];rfl
    have hm:=yg (xi e) hc;show∃m,dR (st.map λch=>fQ ch ((bT rest ends).headD [])) z6=some m/\_;rw[wG (qps e)];unfold fQ;cases e2:c5 (((cy st z6).map λq=>dZ q ((bT rest ends).headD [])).filterMap id)with
    |none=>rw[yi e2]at hm;cases hm
    | some m=>
     have:=(tw e2).2 _ hm;exact⟨m,rfl,by show m<=q.2+c1;omega⟩
def OkS(M:Nat):Nat->List Sx->Prop
 |_,[]=>True
 |n,st::rest=>st.length=M/\(∀ch∈st,ch.length=(if n=0 then 1 else 2)/\∀q∈ch,0<=q.1/\q.1.toNat<M)/\OkS M (n-1) rest
def jP(k:Nat):List Int:=List.replicate k 0
theorem F8(a:Int)(xs ys:List Int):HT.lexLt (a::xs) (a::ys)=HT.lexLt xs ys:=by rw[HT.lexLt_cons,if_pos rfl]
theorem qep{q:Mv}{z9:Rw}:fQ [q] z9=dZ q z9:=by
 unfold fQ;cases h:dZ q z9 with
 |none=>simp[h];rfl
 | some x=>
  simp[h];exact qog (by simp) (by simp)
theorem qjd{q0 q1:Mv}{z9:Rw}{m:Int}(h:fQ [q0,q1] z9=some m):(dZ q0 z9=some m∨dZ q1 z9=some m)/\(∀x,dZ q0 z9=some x->m<=x)/\∀x,dZ q1 z9=some x->m<=x:=by
 unfold fQ at h;obtain⟨h1,h2⟩:=tw h;refine⟨?_,λx hx=>h2 x (yg (by simp) hx),λx hx=>h2 x (yg (by simp) hx)⟩;rw[List.mem_filterMap]at h1;obtain⟨o,ho,eo⟩:=h1;have eo:o=some m:=eo;subst eo;simp at ho;rcases ho with ho|ho
 ·exact .inl ho.symm
 ·exact .inr ho.symm
theorem two_of{α:Type}{xs:List α}(h:xs.length=2):∃a b,xs=[a,b]:=by
 match xs,h with
 |[a,b],_=>exact⟨a,b,rfl⟩
theorem tU(M:Nat):∀(steps:List Sx) (n:Nat) (ends:Rw) (z6:Int) (m:Int),OkS M n steps->n<=steps.length->(0<=z6/\z6.toNat<M)->dR ((bT steps ends).headD []) z6=some m->
 ax (hG n steps (bT steps ends) z6)/\(hG n steps (bT steps ends) z6).length=n/\d8 steps ends z6 (hG n steps (bT steps ends) z6++jP (steps.length-n))=some m/\
 ∀w,ax w->w.length=n->d8 steps ends z6 (w++jP (steps.length-n))=some m->HT.lexLt w (hG n steps (bT steps ends) z6)=false
 |[],0,ends,z6,m,_,_,_,h=>⟨λb h=>(nomatch h),rfl,h,λw _ hw _=>by rw[List.eq_nil_of_length_eq_zero hw];rfl⟩
 |[],n+1,_,_,_,_,hn,_,_=>by simp at hn
 | st::rest,0,ends,z6,m,ok,_,hr,h=>by
  obtain⟨o1,o2,o3⟩:=ok;have hlt:z6.toNat<st.length:=by rw[o1];exact hr.2
  have es:st[z6.toNat]? =some st[z6.toNat]:=j8 hlt;obtain⟨c1,c2⟩:=o2 _ (xk hlt);rw[if_pos rfl]at c1;obtain⟨q,eq⟩:=List.length_eq_one_iff.mp c1;have h:dR (st.map λch=>fQ ch ((bT rest ends).headD [])) z6=some m:=h;rw[wG es,eq,qep]at h;unfold dZ at h;cases e1:dR ((bT rest ends).headD []) q.1 with
  |none=>rw[e1]at h;cases h
  | some m1=>
   rw[e1]at h;cases h;have hq:=c2 q (by rw[eq];simp);obtain⟨_,_,g3,_⟩:=tU M rest 0 ends q.1 m1 (by simpa using o3) (Nat.zero_le _) hq e1;refine⟨λb h=>(nomatch h),rfl,?_,λw _ hw _=>by rw[List.eq_nil_of_length_eq_zero hw];rfl⟩;show d8 (st::rest) ends z6 ([]++jP (rest.length+1-0))=_;have ez:jP (rest.length+1-0)=0::jP rest.length:=rfl;rw[List.nil_append,ez];unfold d8;rw[tT es,eq];simp only[Int.toNat_zero,List.getElem?_cons_zero];have g3:d8 rest ends q.1 ([]++jP (rest.length-0))=some m1:=g3;rw[List.nil_append,Nat.sub_zero]at g3;rw[g3];rfl
 | st::rest,n+1,ends,z6,m,ok,hn,hr,h=>by
  obtain⟨o1,o2,o3⟩:=ok;have hlt:z6.toNat<st.length:=by rw[o1];exact hr.2
  have es:st[z6.toNat]? =some st[z6.toNat]:=j8 hlt;obtain⟨c1,c2⟩:=o2 _ (xk hlt);rw[if_neg (by omega)]at c1;obtain⟨q0,q1,eq⟩:=two_of c1;have h0:dR (st.map λch=>fQ ch ((bT rest ends).headD [])) z6=some m:=h;rw[wG es,eq]at h0;obtain⟨t1,t2,t3⟩:=qjd h0;have ech:cy st z6=[q0,q1]:=by rw[tT es,eq]
  have hq0:=c2 q0 (by rw[eq];simp);have hq1:=c2 q1 (by rw[eq];simp);have hn':n<=rest.length:=by simpa using hn
  have ln:(st::rest).length-(n+1)=rest.length-n:=by simp
  have hd:(bT (st::rest) ends)=(st.map λch=>fQ ch ((bT rest ends).headD []))::bT rest ends:=rfl;have ea:dR (st.map λch=>fQ ch ((bT rest ends).headD [])) z6=some m:=h;rw[ln,hd];have o3:OkS M n rest:=by simpa using o3
  have pc:∀(b:Int) (bs:List Int) (q:Mv),[q0,q1][b.toNat]? =some q->d8 (st::rest) ends z6 (b::bs)=(d8 rest ends q.1 bs).map λx=>q.2+x:=λb bs q e=>by rw[yk,ech,e]
  by_cases z:dZ q0 ((bT rest ends).headD [])=some m
  ·have eb:lM st (st.map λch=>fQ ch ((bT rest ends).headD [])) ((bT rest ends).headD []) z6=0:=by
    unfold lM;rw[ech,ea];exact if_pos z
   have eg:hG (n+1) (st::rest) ((st.map λch=>fQ ch ((bT rest ends).headD []))::bT rest ends) z6=0::hG n rest (bT rest ends) q0.1:=by rw[Gh,eb,ech];rfl
   rw[eg];unfold dZ at z;cases e1:dR ((bT rest ends).headD []) q0.1 with
   |none=>rw[e1]at z;cases z
   | some m1=>
    rw[e1]at z;have z:q0.2+m1=m:=jb z;obtain⟨g1,g2,g3,g4⟩:=tU M rest n ends q0.1 m1 o3 hn' hq0 e1;refine⟨λb hb=>?_,by rw[jl,g2],?_,λw hw lw pw=>?_⟩
    ·rcases List.mem_cons.mp hb with rfl|hb
     ·exact .inl rfl
     ·exact g1 b hb
    ·rw[List.cons_append,pc 0 _ q0 rfl,g3];exact congrArg some z
    ·cases w with
     |nil=>simp at lw
     | cons b bs=>
      have hbs:ax bs:=λx hx=>hw x (j9 _ hx);have lbs:bs.length=n:=by simpa using lw
      rcases hw b ja with rfl|rfl
      ·rw[F8];rw[List.cons_append,pc 0 _ q0 rfl]at pw;refine g4 bs hbs lbs ?_;cases e2:d8 rest ends q0.1 (bs++jP (rest.length-n))with
       |none=>rw[e2]at pw;cases pw
       | some c=>
        rw[e2]at pw;have pw:q0.2+c=m:=jb pw;congr 1;omega
      ·rw[HT.lexLt_cons,if_neg (by decide)];decide
  ·have z1:dZ q1 ((bT rest ends).headD [])=some m:=t1.resolve_left z;have eb:lM st (st.map λch=>fQ ch ((bT rest ends).headD [])) ((bT rest ends).headD []) z6=1:=by
    unfold lM;rw[ech,ea];exact if_neg z
   have eg:hG (n+1) (st::rest) ((st.map λch=>fQ ch ((bT rest ends).headD []))::bT rest ends) z6=1::hG n rest (bT rest ends) q1.1:=by rw[Gh,eb,ech];rfl
   rw[eg];unfold dZ at z1;cases e1:dR ((bT rest ends).headD []) q1.1 with
   |none=>rw[e1]at z1;cases z1
   | some m1=>
    rw[e1]at z1;have z1:q1.2+m1=m:=jb z1;obtain⟨g1,g2,g3,g4⟩:=tU M rest n ends q1.1 m1 o3 hn' hq1 e1;refine⟨λb hb=>?_,by rw[jl,g2],?_,λw hw lw pw=>?_⟩
    ·rcases List.mem_cons.mp hb with rfl|hb
     ·exact .inr rfl
     ·exact g1 b hb
    ·rw[List.cons_append,pc 1 _ q1 rfl,g3];exact congrArg some z1
    ·cases w with
     |nil=>simp at lw
     | cons b bs=>
      have hbs:ax bs:=λx hx=>hw x (j9 _ hx);have lbs:bs.length=n:=by simpa using lw
      rcases hw b ja with rfl|rfl
      ·exfalso;rw[List.cons_append,pc 0 _ q0 rfl]at pw;cases e2:d8 rest ends q0.1 (bs++jP (rest.length-n))with
       |none=>rw[e2]at pw;cases pw
       | some c=>
        rw[e2]at pw;have pw:q0.2+c=m:=jb pw;obtain⟨m0,h1,h2⟩:=xG rest ends q0.1 _ c e2;have hc:dZ q0 ((bT rest ends).headD [])=some (q0.2+m0):=by unfold dZ;rw[h1];rfl
        have:=t2 _ hc;have e3:q0.2+m0=m:=by omega
        exact z (by rw[hc,e3])
      ·rw[F8];rw[List.cons_append,pc 1 _ q1 rfl]at pw;refine g4 bs hbs lbs ?_;cases e2:d8 rest ends q1.1 (bs++jP (rest.length-n))with
       |none=>rw[e2]at pw;cases pw
       | some c=>
        rw[e2]at pw;have pw:q1.2+c=m:=jb pw;congr 1;omega
end L2
namespace L2
open PySem
theorem EO:∀a b:List Int,HT.lexLt a b=false->HT.lexLt b a=false->a=b
 |[],[],_,_=>rfl
 |[],_::_,h,_=>by cases h
 |_::_,[],_,h=>by cases h
 | x::xs,y::ys,h,g=>by
  rw[HT.lexLt_cons]at h g;by_cases q:x=y
  ·rw[if_pos q]at h;rw[if_pos q.symm]at g;rw[q,EO xs ys h g]
  ·rw[if_neg q]at h;rw[if_neg λz=>q z.symm]at g;simp only[decide_eq_false_iff_not]at h g;omega
theorem pV{x y:Int×List Int}(h:cr x y=false)(g:cr y x=false):x=y:=by
 unfold cr lQ at h g;by_cases q:x.1=y.1
 ·rw[if_pos q]at h;rw[if_pos q.symm]at g;exact Prod.ext q (EO _ _ h g)
 ·rw[if_neg q]at h;rw[if_neg λz=>q z.symm]at g;simp only[decide_eq_false_iff_not]at h g;omega
theorem qgs{x y z:Int×List Int}(h:cr x y=false)(g:cr y z=false):cr x z=false:=by
 cases q:cr x z with
 |false=>rfl
 | true=>
  have e:=pV h (tH x z y q g);rw[e,g]at q;cases q
structure Near(n:Nat)(cost:List Int->Int)(x:Int×List Int):Prop where
 bits:ax x.2
 len:x.2.length=n
 val:x.1=cost x.2
 least:∀w,ax w->w.length=n->cr (cost w,w) x=false
section
variable(r:Int)(U:List Int)(G:List (List Int))(e:Str)(ts:List Told)(n:Nat)
def aO(k:Nat):List Told:=(ts.drop (bn U G k).length).take (bF U G k).length
def ig(k:Nat)(z6 bit:Int):Mv:=((2*z6+bit) % 2^r.toNat,f7 (aO U G ts k) (fq (aF G k) (U.map (dI (2*z6+bit)))))
def eO(k:Nat):List Int:=if k<n then [0,1]else [0]
def stepK(k:Nat):Sx:=(List.range (2^r.toNat)).map λ(z6:Nat)=>(eO n k).map λb=>ig r U G ts k (z6:Int) b
def bZ(k len:Nat):List Sx:=(List.range' k len).map (stepK r U G ts n)
def eJ(s:Int):Rw:=(List.range (2^r.toNat)).map λ(z6:Nat)=>if e="open"∨(z6:Int)=(if e="ring" then s else 0)then some 0 else none
def fB(w:List Int):Int:=f7 ts (pC r.toNat U G (bG r e w) (rZ r e w))
end
section
variable{r:Int}{U:List Int}{G:List (List Int)}{e:Str}{ts:List Told}{n:Nat}
theorem t8(k len:Nat):bZ r U G ts n k (len+1)=stepK r U G ts n k::bZ r U G ts n (k+1) len:=by unfold bZ;rw[List.range'_succ];rfl
theorem gn:((2^r.toNat:Nat):Int)=(2:Int)^r.toNat:=by rw[Int.natCast_pow];rfl
theorem oM:∀(len k:Nat),OkS (2^r.toNat) (n-k) (bZ r U G ts n k len)
 |0,k=>True.intro
 | len+1,k=>by
  rw[t8];refine⟨by unfold stepK;simp,λch hch=>?_,by rw[Nat.sub_sub];exact oM len (k+1)⟩;unfold stepK at hch;obtain⟨z6,hr,rfl⟩:=List.mem_map.mp hch;refine⟨?_,λq hq=>?_⟩
  ·unfold eO;by_cases h:k<n
   ·rw[if_pos h,if_neg (by omega)];rfl
   ·rw[if_neg h,if_pos (by omega)];rfl
  ·obtain⟨b,_,rfl⟩:=List.mem_map.mp hq;have h1:(0:Int)<2^r.toNat:=Int.pow_pos (by decide);have h2:=Int.emod_nonneg (2*(z6:Int)+b) (by omega:(2:Int)^r.toNat≠0);have h3:=Int.emod_lt_of_pos (2*(z6:Int)+b) h1;have h4:=gn (r:=r);refine⟨h2,?_⟩;show((2*(z6:Int)+b) % 2^r.toNat).toNat<_;omega
theorem ya{k:Nat}{z6:Int}(h0:0<=z6)(h1:z6<2^r.toNat):cy (stepK r U G ts n k) z6=(eO n k).map λb=>ig r U G ts k z6 b:=by
 have h4:=gn (r:=r);have lt:z6.toNat<2^r.toNat:=by omega
 refine tT ?_;unfold stepK;rw[jd,xm lt];simp only[Option.map_some,Int.toNat_of_nonneg h0]
theorem xS{a:Int}{u:List Int}(ha:0<=a/\a<2^r.toNat)(hb:ax u)(hz:∀k b,n<=k->u[k]? =some b->b=0)(ends:Rw):∀(len k:Nat),k+len=u.length->
 d8 (bZ r U G ts n k len) ends (bi (2^r.toNat) a (u.take k)) (u.drop k)=(dR ends (bi (2^r.toNat) a u)).map λx=>((List.range' k len).map λj=>f7 (aO U G ts j) (gc r.toNat U G a u j)).sum+x
 | 0,k,h=>by
  have e1:u.take k=u:=List.take_of_length_le (by omega);rw[e1];show dR ends _=_;cases dR ends (bi (2^r.toNat) a u)with
  |none=>rfl
  |some x=>simp
 | len+1,k,h=>by
  have lt:k<u.length:=by omega
  have ek:u[k]? =some u[k]:=j8 lt;have mp:(0:Int)<2^r.toNat:=Int.pow_pos (by decide);have hr:=kE mp (u.take k) a ha;rw[t8,k9 lt,yk,ya hr.1 hr.2];have eb:((eO n k).map λb=>ig r U G ts k (bi (2^r.toNat) a (u.take k)) b)[u[k].toNat]? =some (ig r U G ts k (bi (2^r.toNat) a (u.take k)) u[k]):=by
   unfold eO;by_cases h1:k<n
   ·rw[if_pos h1];rcases hb _ (xk lt)with z|z
    ·rw[z];rfl
    ·rw[z];rfl
   ·have z:=hz k _ (by omega) ek;rw[if_neg h1,z];rfl
  rw[eb];simp only;have en:(ig r U G ts k (bi (2^r.toNat) a (u.take k)) u[k]).1=bi (2^r.toNat) a (u.take (k+1)):=by rw[cA ek,yb];show(2*_+u[k]) % _=_;congr 1;omega
  rw[en,xS ha hb hz ends len (k+1) (by omega),Option.map_map];have es:(ig r U G ts k (bi (2^r.toNat) a (u.take k)) u[k]).2=f7 (aO U G ts k) (gc r.toNat U G a u k):=by unfold gc;rw[jc,ek];rfl
  rw[es,List.range'_succ,jo,List.sum_cons];congr 1;funext x;show _+(_+x)=_;omega
theorem qil{a b:List Told}{c d:List Int}(h:a.length=c.length):f7 (a++b) (c++d)=f7 a c+f7 b d:=by unfold f7;rw[List.zip_append h,jx,List.sum_append]
theorem Ga{a:Int}{u:List Int}{m:Nat}(k:Nat):(gc m U G a u k).length=(bF U G k).length:=by unfold gc;rw[qg,j3];rfl
theorem oO(N:Nat):(bn U G (N+1)).length=(bn U G N).length+(bF U G N).length:=by unfold bn;rw[gD,je,ji]
theorem yc{m:Nat}{a:Int}{u:List Int}:∀N,((List.range N).flatMap (gc m U G a u)).length=(bn U G N).length
 |0=>rfl
 |N+1=>by rw[gD,je,yc N,Ga,oO]
theorem FY{m:Nat}{a:Int}{u:List Int}:∀N,(bn U G N).length<=ts.length->f7 (ts.take (bn U G N).length) ((List.range N).flatMap (gc m U G a u))=((List.range' 0 N).map λj=>f7 (aO U G ts j) (gc m U G a u j)).sum
 |0,_=>rfl
 | N+1,h=>by
  rw[oO]at h;have e1:ts.take (bn U G (N+1)).length=ts.take (bn U G N).length++aO U G ts N:=by rw[oO,List.take_add];rfl
  rw[e1,gD,qil (by rw[jz,yc];omega),FY N (by omega),List.range'_concat,jx,List.sum_append];simp
theorem qja{a:Int}{u:List Int}(hl:ts.length=(bn U G u.length).length):f7 ts (pC r.toNat U G a u)=((List.range' 0 u.length).map λj=>f7 (aO U G ts j) (gc r.toNat U G a u j)).sum:=by have h:=FY (ts:=ts) (U:=U) (G:=G) (m:=r.toNat) (a:=a) (u:=u) u.length (by omega);rw[List.take_of_length_le (by omega)]at h;exact h
theorem Ge{w:List Int}(hw:w.length=n):∀k b,n<=k->(w++List.replicate (az r e) 0)[k]? =some b->b=0:=λk b hk h=>by rw[xo (by omega)]at h;exact List.eq_of_mem_replicate (xi h)
theorem Ex{s z6:Int}(h0:0<=z6)(h1:z6<2^r.toNat):dR (eJ r e s) z6=if e="open"∨z6=(if e="ring" then s else 0)then some 0 else none:=by
 have h4:=gn (r:=r);have lt:z6.toNat<2^r.toNat:=by omega
 unfold dR eJ;rw[jd,xm lt];simp only[Option.map_some,Option.join_some,Int.toNat_of_nonneg h0]
theorem xM(hb:∀w:List Int,ax w->0<=aR w/\aR w<2^w.length)(w:List Int)(hw:ax w)(hl:e="ring"->r.toNat<=w.length):0<=bG r e w/\bG r e w<2^r.toNat:=by
 unfold bG;by_cases h:e="ring"
 ·rw[if_pos h];have hd:ax (w.drop (w.length-r.toNat)):=λb m=>hw b (List.mem_of_mem_drop m);have:=hb _ hd;rw[xj,show w.length-(w.length-r.toNat)=r.toNat from by have:=hl h;omega]at this;exact this
 ·rw[if_neg h];exact⟨Int.le_refl _,Int.pow_pos (by decide)⟩
theorem FH{w:List Int}(hb:ax w):ax (w++List.replicate (az r e) 0):=iA hb (lU _)
theorem FP{w:List Int}(hb:ax w)(hw:w.length=n)(hl:e="ring"->r.toNat<=n)(hen:e="open"∨e="ended"∨e="ring")(ht:ts.length=(bn U G (n+az r e)).length):
 d8 (bZ r U G ts n 0 (n+az r e)) (eJ r e (bG r e w)) (bG r e w) (w++List.replicate (az r e) 0)=some (fB r U G e ts w):=by
 have hf:=xM (r:=r) (e:=e) kG w hb (by rw[hw];exact hl);have lu:(w++List.replicate (az r e) 0).length=n+az r e:=by rw[je,ji,hw]
 have h:=xS (r:=r) (U:=U) (G:=G) (ts:=ts) (n:=n) hf (FH (r:=r) (e:=e) hb) (Ge hw) (eJ r e (bG r e w)) (n+az r e) 0 (by omega);have h':d8 (bZ r U G ts n 0 (n+az r e)) (eJ r e (bG r e w)) (bG r e w) (w++List.replicate (az r e) 0)=_:=h;rw[h'];have mp:(0:Int)<2^r.toNat:=Int.pow_pos (by decide);have he:=kE mp (w++List.replicate (az r e) 0) _ hf;rw[Ex he.1 he.2,if_pos]
 ·unfold fB;rw[xH,qja (by rw[lu];exact ht),lu];simp
 ·rcases hen with h1|h1|h1
  ·exact .inl h1
  ·refine .inr ?_;have h2:¬e="ring":=by rw[h1];decide
   have h3:az r e=r.toNat:=by unfold az;rw[if_pos h1]
   rw[if_neg h2,h3];unfold bG;rw[if_neg h2];exact qih r.toNat w
  ·refine .inr ?_;have h2:¬e="ended":=by rw[h1];decide
   have h3:az r e=0:=by unfold az;rw[if_neg h2]
   rw[if_pos h1,h3];simp only[List.replicate_zero,List.append_nil];unfold bG;rw[if_pos h1];exact ql2 r.toNat w hb (by rw[hw];exact hl h1)
theorem D2:∀(m:Nat) (x:Int),0<=x->x<2^m->∃p:List Int,p.length=m/\ax p/\aR p=x
 |0,x,h0,h1=>⟨[],rfl,λ_ h=>(nomatch h),by have:x<1:=h1;show(0:Int)=x;omega⟩
 | m+1,x,h0,h1=>by
  have h2:x / 2<2^m:=by rw[Int.pow_succ]at h1;omega
  obtain⟨p,p1,p2,p3⟩:=D2 m (x / 2) (by omega) h2;refine⟨p++[x % 2],by rw[je,p1];rfl,iA p2 λb hb=>?_,by rw[ym,p3];omega⟩;rw[List.mem_singleton.mp hb];omega
theorem qji{w:List Int}{s:Int}(hb:ax w)(hl:r.toNat<=w.length)(h0:0<=s)(h1:s<2^r.toNat)(h:bi (2^r.toNat) s w=s):aR (w.drop (w.length-r.toNat))=s:=by
 obtain⟨p,p1,p2,p3⟩:=D2 r.toNat s h0 h1;have g:=EC r.toNat p w p1 p2 hb w.length (j7 _);rw[List.take_length,p3,h]at g;rw[g];congr 1;have e1:(p++w).drop w.length=w.drop (w.length-r.toNat):=by rw[List.drop_append,List.drop_eq_nil_of_le (by omega),List.nil_append,p1]
 rw[e1,List.take_of_length_le (by rw[xj];omega)]
section
variable(r:Int)(U:List Int)(G:List (List Int))(e:Str)(ts:List Told)(n:Nat)
def ck:List Int:=if e="ring" then(List.range (2^r.toNat)).map λ(k:Nat)=>(k:Int)else [0]
def dc(s:Int):List Rw:=bT (bZ r U G ts n 0 (n+az r e)) (eJ r e s)
end
theorem t5{s:Int}(h:s∈ck r e):0<=s/\s<2^r.toNat:=by
 unfold ck at h;by_cases q:e="ring"
 ·rw[if_pos q]at h;obtain⟨k,hk,rfl⟩:=List.mem_map.mp h;have:=List.mem_range.mp hk;have h4:=gn (r:=r);omega
 ·rw[if_neg q]at h;rw[List.mem_singleton.mp h];exact⟨Int.le_refl _,Int.pow_pos (by decide)⟩
theorem F5{w:List Int}(hb:ax w)(hl:e="ring"->r.toNat<=w.length):bG r e w∈ck r e:=by
 have h:=xM (r:=r) (e:=e) kG w hb hl;unfold ck;by_cases q:e="ring"
 ·rw[if_pos q];have h4:=gn (r:=r);exact List.mem_map.mpr ⟨(bG r e w).toNat,List.mem_range.mpr (by omega),Int.toNat_of_nonneg h.1⟩
 ·rw[if_neg q];unfold bG;rw[if_neg q];simp
theorem qgy{w:List Int}{s c:Int}(hs:s∈ck r e)(hb:ax w)(hw:w.length=n)(hl:e="ring"->r.toNat<=n)(hen:e="open"∨e="ended"∨e="ring")(ht:ts.length=(bn U G (n+az r e)).length)
 (h:d8 (bZ r U G ts n 0 (n+az r e)) (eJ r e s) s (w++List.replicate (az r e) 0)=some c):s=bG r e w/\c=fB r U G e ts w:=by
 have h1:=t5 hs;have es:s=bG r e w:=by
  by_cases q:e="ring"
  ·have lu:(w++List.replicate (az r e) 0).length=n+az r e:=by rw[je,ji,hw]
   have g:=xS (r:=r) (U:=U) (G:=G) (ts:=ts) (n:=n) h1 (FH (r:=r) (e:=e) hb) (Ge hw) (eJ r e s) (n+az r e) 0 (by omega);have g':d8 (bZ r U G ts n 0 (n+az r e)) (eJ r e s) s (w++List.replicate (az r e) 0)=_:=g;rw[g']at h;have mp:(0:Int)<2^r.toNat:=Int.pow_pos (by decide);have he:=kE mp (w++List.replicate (az r e) 0) _ h1;have h2:¬e="ended":=by rw[q];decide
   have h5:¬e="open":=by rw[q];decide
   have h3:az r e=0:=by unfold az;rw[if_neg h2]
   rw[Ex he.1 he.2]at h;by_cases z:e="open"∨bi (2^r.toNat) s (w++List.replicate (az r e) 0)=(if e="ring" then s else 0)
   ·rcases z with z|z
    ·exact absurd z h5
    ·rw[if_pos q,h3]at z;simp only[List.replicate_zero,List.append_nil]at z;unfold bG;rw[if_pos q];exact(qji hb (by rw[hw];exact hl q) h1.1 h1.2 z).symm
   ·rw[if_neg z]at h;cases h
  ·unfold ck at hs;rw[if_neg q]at hs;unfold bG;rw[if_neg q];exact List.mem_singleton.mp hs
 refine⟨es,?_⟩;rw[es,FP hb hw hl hen ht]at h;exact(jb h).symm
end
end L2
namespace L2
open PySem PySem.Spec PyProof.Rows
def DRaw(h:Heap)(d:Addr)(es:Array DictEntry)(ep:Nat):Prop:=∃o,h.get? d=some o/\o.ExactDict/\o.data=.dict es ep
theorem DRaw.ty{s:Shared}{d:Addr}{es:Array DictEntry}{ep:Nat}(x:DRaw s.heap d es ep):s.TypeIs (.ref d) "dict":=let ⟨o,e,c,_⟩:=x;⟨o,e,c.1⟩
theorem DRaw.at_{h h':Heap}{d:Addr}{es:Array DictEntry}{ep:Nat}(x:DRaw h d es ep)(k:∀o,h.get? d=some o->h'.get? d=some o):DRaw h' d es ep:=let ⟨o,e,r⟩:=x;⟨o,k o e,r⟩
section
variable{prog:Program}{w:World}{A:Around}{E:Value->Shared->Prop}{s:Shared}
theorem qkf{d:Addr}{es:Array DictEntry}{ep:Nat}{Q:Value->Shared->Prop}(nd:(d==sysModules)=false)(x:DRaw s.heap d es ep)
 (q:Q (.ref s.heap.objs.size) {s with heap:=s.heap.push {cls:=.type "dict_keyiterator",data:=.fields #[.ref d,.int 0 0,.int es.size 0,.int ep 0]}}):wpAny (model prog w) A (pyIter (.ref d)) Q E s:=by
 obtain⟨o,e,c,dt⟩:=id x;refine wpAny_pyIter_slot x.ty F.slot_dict_iter (xu F.slot_dict_iter x.ty F.entry_dict_iter ?_ (F.args_dict_iter_1 _));unfold Builtin.«dict.__iter__» Builtin.Dict.dictSlotNone;refine j0 (j0 (wpAny_notOrdered_dict x.ty ?_));show wpAny _ _ (pure (Value.ref d)) _ _ s;refine j4 ?_;unfold Builtin.Dict.showsAll;show wpAny _ _ ((if(d==sysModules)=true then _ else _) >>= _) _ _ s;rw[if_neg (by rw[nd];decide)];exact j0 (j4 (j0 (wpAny_dictEntries e dt (j0 (wpAny_dictEpoch e dt (j0 (xq (j4 ⟨_,rfl,"dict_keyiterator",_,⟨_,jj _ rfl,rfl⟩,F.slot_dict_keyiterator_next.lookup,q⟩))))))))
theorem qkg{it d:Addr}{i ep:Nat}{es:Array DictEntry}{Q:Option Value->Shared->Prop}(g:s.heap.IsKeyIter it d i es.size ep)(x:DRaw s.heap d es ep)(hi:i<es.size)
 (q:∀h',h'.IsKeyIter it d (i+1) es.size ep->Heap.SameBut it s.heap h'->Q (some es[i].key) {s with heap:=h'}):wpAny (model prog w) A (pyNext (.ref it)) Q E s:=by
 obtain⟨oi,ei,ci,fi⟩:=id g;obtain⟨o,e,c,dt⟩:=id x;have own0:Builtin.Dict_items.ownsTuple "dict_keyiterator"=false:=by decide
 unfold pyNext;refine j0 (wpAny_attempt (xw (name:=Str.ofString "__next__") g.typeIs kj (xu kj g.typeIs F.entry_dict_keyiterator_next (j0 (j4 (j0 ?_))) (F.args_dict_keyiterator_next_1 _))));refine j0 (j0 (kl g.typeIs (j4 (j0 (wpAny_fieldsOf ei fi ?_)))));simp only[own0,Bool.false_eq_true,if_false];show wpAny _ _ (if(Value.ref d==Value.none)=true then _ else _) _ _ s;have nn:(Value.ref d==Value.none)=false:=rfl;rw[if_neg (by rw[nn];decide)];refine j0 (j4 (j0 (wpAny_dictEntries e dt ?_)));rw[if_neg (by simp)];refine j0 (j4 (j0 (wpAny_dictEpoch e dt ?_)));rw[if_neg (by simp)];refine j4 ?_;have n0:¬((i:Int)<0):=by omega
 simp only[n0,if_false,Int.toNat_natCast,Array.getElem?_eq_getElem hi];refine j0 (j0 (kl g.typeIs (j4 (j0 (wpAny_isOneOf_keyiter g.typeIs ?_)))));show wpAny _ _ (setField (.ref it) 1 (rawInt ((i:Int)+1)) >>= _) _ _ s;have g':(s.heap.update it (Obj.mapFields (·.setIfInBounds 1 (rawInt ((i:Int)+1))))).IsKeyIter it d (i+1) es.size ep:=
  ⟨_,k8 _ ei (Obj.isFreed_of_fields (Obj.data_mapFields fi _)),(Obj.cls_mapFields ..).trans ci,by rw[Obj.data_mapFields fi];simp[rawInt]⟩
 refine j0 (wpAny_setField ei fi (by simp) (j0 (xp (j0 (wpAny_isOneOf_keyiter (s:={s with heap:=s.heap.update it (Obj.mapFields (·.setIfInBounds 1 (rawInt ((i:Int)+1))))}) g'.typeIs ?_)))));show wpAny _ _ (pure es[i].key) _ _ _;exact j4 (j4 ⟨_,rfl,j4 (q _ g' (kg ..))⟩)
theorem qoq{it d:Addr}{i ep:Nat}{es:Array DictEntry}{Q:Option Value->Shared->Prop}(hh:A.handled=none)(g:s.heap.IsKeyIter it d i es.size ep)(x:DRaw s.heap d es ep)(hi:es.size<=i)
 (q:∀h',Heap.ExtBut it s.heap h'->Q none {s with heap:=h'}):wpAny (model prog w) A (pyNext (.ref it)) Q E s:=by
 obtain⟨oi,ei,ci,fi⟩:=id g;obtain⟨o,e,c,dt⟩:=id x;have own0:Builtin.Dict_items.ownsTuple "dict_keyiterator"=false:=by decide
 unfold pyNext;refine j0 (wpAny_attempt (xw (name:=Str.ofString "__next__") g.typeIs kj (xu kj g.typeIs F.entry_dict_keyiterator_next (j0 (j4 (j0 ?_))) (F.args_dict_keyiterator_next_1 _))));refine j0 (j0 (kl g.typeIs (j4 (j0 (wpAny_fieldsOf ei fi ?_)))));simp only[own0,Bool.false_eq_true,if_false];show wpAny _ _ (if(Value.ref d==Value.none)=true then _ else _) _ _ s;have nn:(Value.ref d==Value.none)=false:=rfl;rw[if_neg (by rw[nn];decide)];refine j0 (j4 (j0 (wpAny_dictEntries e dt ?_)));rw[if_neg (by simp)];refine j0 (j4 (j0 (wpAny_dictEpoch e dt ?_)));rw[if_neg (by simp)];refine j4 ?_;have n0:¬((i:Int)<0):=by omega
 simp only[n0,if_false,Int.toNat_natCast,Array.getElem?_eq_none hi];refine j0 (j0 (kl g.typeIs (j4 ?_)));show wpAny _ _ (setField (.ref it) 0 .none >>= _) _ _ s;refine j0 (wpAny_setField ei fi (by simp) ?_);show wpAny _ _ (newExc (.type "StopIteration") [] >>= _) _ _ _;simp only[newExc,newTuple,raiseNew];refine j0 (j0 (xq (j0 (m:=firstArgMember _ _) (wpAny_of_eq (a:=Value.none) (by first|rfl|(simp only[firstArgMember];rfl)) (xq ?_ (by size_fits)))) (by size_fits)));refine j0 (wpAny_handled ?_);rw[show A.in1.handled=none from hh];refine j0 (j4 (wpAny_throw ?_));exact j0 (wpAny_isInstance (T:="StopIteration") (b:=true) ⟨_,jj _ rfl,rfl⟩ isSubtype_stop (j4 (q _ (((kg ..).extBut.push _).push _))))
end
theorem qqu{X:Cx}{z5:List (Addr×Obj)}{σ:St}{H:Hp}{s:Shared}(I:Inv X z5 σ H s):sysModules<s.heap.objs.size:=by have h:mainGlobals<s.heap.objs.size:=(I.mod.glob.keeps I.bk).lt;exact Nat.lt_trans (by decide) h
def CY:TE:=λ_ H Q=>∀p,H p=none->Q (.ref p) (aP H p (.dK []))
theorem qnt{X:Cx}{pos:Pos}:PE X (.Dict [] [] pos) CY:=λz5 s σ H Q I h=>
 wpAny_Dict_empty ⟨.ref s.heap.objs.size,_,I.laid (a:=s.heap.objs.size) (o:=.dK []) (t':=s.toks) (λ_ _ q=>j6 _ q) (j7 _)
  ⟨Nat.zero_le _,beq_eq_false_iff_ne.mpr (Ne.symm (jh (qqu I))),[],.nil,_,#[],jj _ rfl,⟨rfl,rfl,rfl⟩,rfl,λe he=>by simp at he,.nil,List.nodup_nil⟩,rfl,h _ (I.hok.fresh (j7 _))⟩
section
variable{prog:Program}{w:World}{κ:Type}[DecidableEq κ]{knd:KeyKind prog w κ}{A:Around}{E:Value->Shared->Prop}{s:Shared}
theorem qvr{d:Addr}{kvs:List (κ×Value)}{n:Nat}{k:κ}{key v:Value}{Q:Unit->Shared->Prop}(hk:knd.is k key=true)(hm:DictN knd s.heap d kvs n)(hz:kvs.length<=sizeLine)(nk:k∉kvs.map (·.1))
 (q:∀h',DictN knd h' d (kvs++[(k,v)]) (n+1)->Heap.SameBut d s.heap h'->Q () {s with heap:=h',toks:=s.toks+1}):wpAny (model prog w) A (dictSet d key v) Q E s:=by
 obtain⟨o,es,g0,cx,dt,ko,hp,nd⟩:=hm;have z1:es.size=kvs.length:=by have:=hp.length;simpa using this
 have fi:es.findIdx? (λe=>knd.is k e.key)=none:=by
  have h1:=hp.findIdx k;have h2:kvs.findIdx? (λkv=>decide (kv.1=k))=none:=by rw[List.findIdx?_eq_none_iff];intro x hx;exact decide_eq_false λe=>nk (List.mem_map.mpr ⟨x,hx,e⟩)
  rw[h2]at h1;obtain⟨l⟩:=es;simpa using h1
 unfold dictSet
 (try with_reducible refine xp ?_);refine j0 (knd.pyHash hk ?_);unfold dictSetHashed
 (try with_reducible refine xp ?_);refine j0 (wpAny_dictFind_of (s:={s with toks:=s.toks+1}) hk g0 dt ko ?_);rw[fi];refine j0 (wpAny_rule (wpAny_updateDictKeys (hz:=by omega) (s:={s with toks:=s.toks+1}) g0 dt (q _ ?_ (kg ..))));refine⟨_,_,k8 _ g0 (Obj.isFreed_of_dict (Obj.data_mapDictKeys dt _)),cx.mapDictKeys _,Obj.data_mapDictKeys dt _,ko.push hk v,?_,?_⟩
 ·have:=hp.append hk (knd.hash k) v;simpa using this
 ·rw[jx,List.nodup_append];refine⟨nd,by simp,λx hx y hy z=>?_⟩;have ey:y=k:=by simpa using hy
  exact nk (by rw[<-ey,<-z];exact hx)
theorem qqy{d:Addr}{kvs:List (κ×Value)}{n:Nat}{k:κ}{key v:Value}{Q:Unit->Shared->Prop}(hk:knd.is k key=true)(hm:DictN knd s.heap d kvs n)(hz:kvs.length<=sizeLine)(nk:k∉kvs.map (·.1))
 (q:∀h',DictN knd h' d (kvs++[(k,v)]) (n+1)->Heap.SameBut d s.heap h'->Q () {s with heap:=h',toks:=s.toks+1}):wpAny (model prog w) A (setItem (.ref d) key v) Q E s:=by
 have ty:=hm.of.typeIs (s:=s);unfold setItem
 (try with_reducible refine xp ?_);refine j0 (wpAny_sequenceKey ty (by decide) (j0 ?_));refine xw (name:=Str.ofString "__setitem__") ty slot_dict_setitem (xu slot_dict_setitem ty entry_dict_setitem ?_ (args_dict_setitem _ _ _));show wpAny _ _ (Builtin.Dict.notOrdered "__setitem__" ⟨[.ref d,key,v],[]⟩ >>= _) _ _ s;refine j0 (wpAny_notOrdered_dict ty ?_);show wpAny _ _ (dictSet d key v >>= _) _ _ s;exact j0 (qvr hk hm hz nk λh' m' t'=>j4 ⟨.none,rfl,j4 (q h' m' t')⟩)
end
def qZ(kvs:List (br×V))(k:Int):Prop:=Sum.inl k∈kvs.map (·.1)
theorem KV.map1{κ:Type}{kvs:List (κ×V)}{vs:List (κ×Value)}(r:KV kvs vs):kvs.map (·.1)=vs.map (·.1):=by
 unfold KV at r;induction r with
 |nil=>rfl
 |cons h _ ih=>rw[jo,jo,ih,h.1]
theorem KV.snoc{κ:Type}{kvs:List (κ×V)}{vs:List (κ×Value)}{k:κ}{v:V}{u:Value}(r:KV kvs vs)(h:RelV v u):KV (kvs++[(k,v)]) (vs++[(k,u)]):=by
 unfold KV at r ⊢;induction r with
 |nil=>exact .cons ⟨rfl,h⟩ .nil
 |cons g _ ih=>exact .cons g ih
theorem KV.len{κ:Type}{kvs:List (κ×V)}{vs:List (κ×Value)}(r:KV kvs vs):kvs.length=vs.length:=Paired.length r
section
variable{X:Cx}{K:au}
def CN:V->V->V->Hp->(Hp->Prop)->Prop:=λo i v H Q=>∃p kvs k,o=.ref p/\i=.int k/\H p=some (.dK kvs)/\kvs.length<sizeLine/\¬qZ kvs k/\Q (aP H p (.dK (kvs++[(.inl k,v)])))
theorem qvj:nS X CN:=by
 intro z5 s σ H o i v ov iv u Q I ro ri rv h;obtain⟨p,kvs,k,rfl,rfl,hp,hz,hn,q⟩:=h;cases ro;obtain⟨t,rfl⟩:=ri;obtain⟨_,hd,vs,rel,dd⟩:=(show ObjOk X.prog X.w H s.heap p (.dK kvs)from I.hok p _ hp);refine qqy (k:=.inl k) (Gk k t) dd (by rw[<-rel.len];omega) (by rw[<-rel.map1];exact hn) λh' dd' sb=>⟨_,?_,q⟩;have he:∃q,h'.get? p=some q:=let ⟨q,_,hq,_⟩:=dd';⟨q,hq⟩
 refine I.write (t':=s.toks+1) (x:=p) (e:=p) (by rw[hp];exact True.intro) (.inl rfl) (λb q hb z=>(sb.2 b hb).trans z) he ⟨by rw[je];exact hz,hd,_,rel.snoc rv,?_⟩;rw[je];exact dd'
def gT(kvs:List (br×V))(k:Int):Option V:=(kvs.find? λp=>decide (p.1=Sum.inl k)).map (·.2)
theorem qkq{kvs:List (br×V)}{vs:List (br×Value)}{k:Int}{v:V}(r:KV kvs vs)(h:gT kvs k=some v):∃u,valueAt vs (Sum.inl k)=some u/\RelV v u:=by
 unfold KV at r;induction r with
 |nil=>cases h
 | @cons p q ps qs g _ ih=>
  obtain⟨h1,h2⟩:=g;unfold gT at h;by_cases e:p.1=Sum.inl k
  ·have e':q.1=Sum.inl k:=h1.symm.trans e;simp[List.find?_cons,e]at h;subst h;exact⟨q.2,by simp[valueAt,List.find?_cons,e'],h2⟩
  ·have e':¬q.1=Sum.inl k:=λz=>e (h1.trans z);simp[List.find?_cons,e]at h;obtain⟨u,u1,u2⟩:=ih (by unfold gT;simpa using h);exact⟨u,by rw[<-u1];simp[valueAt,List.find?_cons,e'],u2⟩
def qO:R2:=λx y H Q=>∃p kvs k v,x=.ref p/\y=.int k/\H p=some (.dK kvs)/\gT kvs k=some v/\Q v H
theorem An:IxR X qO:=by
 intro value zf z5 s σ H x y v u Q I rx ry h hs;obtain⟨p,kvs,k,z,rfl,rfl,hp,hg,q⟩:=h;cases rx;obtain⟨t,rfl⟩:=ry;obtain⟨_,hd,vs,rel,dd⟩:=(show ObjOk X.prog X.w H s.heap p (.dK kvs)from I.hok p _ hp);obtain⟨w',hw,rw'⟩:=qkq rel hg;have ty:=dd.of.typeIs (s:=s);unfold subscriptTail;refine j0 ?_;rw[getitemInPython_of_ne ty.not_modules];refine j0 (wpAny_specialOf ty F.slot_dict_getitem.lookup ?_);have fin:wpAny (model X.prog X.w) X.A (subscripted zf false (.ref p) (.int k t)) (λr s₃=>wpAny (model X.prog X.w) X.A (letTemporaryGo value (.ref p) r >>= λ_=>pure r) (EP X z5 σ Q) X.xe s₃) X.xe s:=by rw[hs];exact wpAny_operating (wpAny_getItem_of (knd:=pZ X.prog X.w) (k:=.inl k) (Gk k t) dd.of.mapOf hw (j0 (wpAny_letTemporaryGo (j4 ⟨z,H,I.tok _,rw',q⟩))))
 first
  |exact j4 (j0 fin)
  |exact j0 (j4 (j0 fin))
  |exact j0 fin
end
def nU(a:Addr)(n:Nat):It:=
 ⟨λi H=>∃kvs p,H a=some (.dK kvs)/\kvs.length=n/\kvs[i]? =some p,
  λi H v H'=>H'=H/\∀kvs p,H a=some (.dK kvs)->kvs[i]? =some p->v=kV p.1,
  λi H=>∃kvs,H a=some (.dK kvs)/\kvs.length=n/\n<=i⟩
theorem jE{P:Program}{w:World}:∀{es:List DictEntry} {kvs:List (br×V)} {vs:List (br×Value)} {i:Nat} {p:br×V},Pairs (pZ P w) es vs->KV kvs vs->kvs[i]? =some p->∃e,es[i]? =some e/\RelV (kV p.1) e.key:=by
 intro es kvs vs i p h;induction h generalizing kvs i with
 |nil=>intro r e;cases r;simp at e
 | @cons en kv es vs h1 h2 _ ih=>
  intro r e;cases r with
  | @cons q _ ks _ g r=>
   cases i with
   | zero=>
    simp at e;subst e;refine⟨en,rfl,?_⟩;rw[g.1];rcases jX h1 with⟨j,t,e1,e2⟩|⟨x,t,e1,e2⟩
    ·rw[e1,e2];exact⟨t,rfl⟩
    ·rw[e1,e2];exact⟨t,rfl⟩
   |succ i=>exact ih r (by simpa using e)
theorem xz{X:Cx}{z5:List (Addr×Obj)}{σ:St}{H:Hp}{s:Shared}{a:Addr}{kvs:List (br×V)}(I:Inv X z5 σ H s)(e:H a=some (.dK kvs)):
 (a==sysModules)=false/\∃es,es.size=kvs.length/\DRaw s.heap a es kvs.length/\∀i p,kvs[i]? =some p->∃hi:i<es.size,RelV (kV p.1) es[i].key:=by
 obtain⟨_,y,vs,r,o,es,h1,h2,h3,h4,h5,_⟩:=(show ObjOk X.prog X.w H s.heap a (.dK kvs)from I.hok a _ e);have z:es.size=kvs.length:=by have:=h5.length;rw[<-r.len]at this;simpa using this
 refine⟨y,es,z,⟨o,h1,h2,h3⟩,λi p hp=>?_⟩;obtain⟨en,e1,e2⟩:=jE h5 r hp;have hi:i<es.size:=by rw[z];exact(List.getElem?_eq_some_iff.mp hp).1
 refine⟨hi,?_⟩;have ee:es[i]=en:=by have:=(List.getElem?_eq_some_iff.mp e1).2;simpa using this
 rw[ee];exact e2
theorem qe3{P:Program}{w:World}{K:au}{tg:Expr}(a it:Addr)(n:Nat):Turn P w K tg (nU a n) [it] it (λi h=>h.IsKeyIter it a i n n) where
 mem:=by simp
 obj:=λi h st b hb=>by obtain⟨o,e,c,d⟩:=st;rw[List.mem_singleton.mp hb];exact⟨o,e,λv z=>by rw[d]at z;cases z⟩
 keep:=λi h h' st k=>st.at λo e=>k it (by simp) o e
 item:=by intro X hP hw hK hc i z5 s σ H E I hf st hg;subst hP hw hK;obtain⟨kvs,p,e,rfl,hp⟩:=hg;obtain⟨_,es,z,dr,al⟩:=xz I e;obtain⟨hi,k1⟩:=al i p hp;obtain⟨f0,f1,f2,f3,f4,f5⟩:=hf it (by simp);rw[<-z]at st dr;refine qkg st dr hi λh' st' sb=>?_;have I1:Inv X z5 σ H {s with heap:=h'}:=I.turned (t':=s.toks) (λb o hb e=>(sb.2 b hb).trans e) f0 f1 f3 f4 f5;obtain⟨o,e1,c1,d1⟩:=id st';refine⟨_,rfl,o9 (s:={s with heap:=h'}) e1 c1 d1 (by decide) ⟨kV p.1,H,I1,k1,⟨rfl,λkvs' p' e' hp'=>?_⟩,by rw[<-z];exact st',λb hb=>(hf b hb).1⟩⟩;rw[e]at e';cases e';rw[hp]at hp';cases hp';rfl
 done:=by intro X hP hw hK hc i z5 s σ H E I hf st hg;subst hP hw hK;obtain⟨kvs,e,rfl,hp⟩:=hg;obtain⟨_,es,z,dr,_⟩:=xz I e;obtain⟨f0,f1,f2,f3,f4,f5⟩:=hf it (by simp);rw[<-z]at st dr hp;exact qoq (I.ok.hd hc) st dr hp λh' eb=>⟨rfl,I.turned (t':=s.toks) (λb o hb e=>eb b o hb e) f0 f1 f3 f4 f5⟩
 self:=λ_ _ _ _ _ st h=>wpAny_pyIter_keyiter st h
def Dk(td:TE):TI:=λσ H R=>td σ H λx H1=>∃a kvs,x=.ref a/\H1 a=some (.dK kvs)/\R (nU a kvs.length) H1
theorem qju{X:Cx}{tg l:Expr}{td:TE}(hl:PE X l td):PI X tg l (Dk td):=by intro z5 s σ H R I h;refine bd (hl z5 s σ H _ I h) λv s1 ⟨x,H1,I1,rx,a,kvs,ex,e,q⟩=>?_;subst ex;obtain rfl:v=Value.ref a:=rx;obtain⟨y,es,z,dr,_⟩:=xz I1 e;refine qkf y dr ?_;refine⟨s1.heap.objs.size,[s1.heap.objs.size],_,_,H1,rfl,I1.kept (t':=s1.toks) λb o e=>j6 _ e,qe3 a _ kvs.length,⟨_,jj _ rfl,rfl,by rw[z];rfl⟩,λb hb=>?_,q⟩;rw[List.mem_singleton.mp hb];exact I1.fpOk (j7 _) (I1.hok.fresh (j7 _))
def kD:br->D
 |.inl i=>.int i
 |.inr x=>.str x
section
variable{K:au}{O O':List Nat}{R:Hp}
theorem qx0{k:br}:Rp K R (kV k) (kD k):=by
 cases k with
 |inl i=>exact .int i
 |inr x=>exact .str x
theorem Rkk.length:∀{kvs:List (br×V)} {gs:List (br×D)},Rkk K R kvs gs->kvs.length=gs.length
 |_,_,.nil=>rfl
 |_,_,.cons _ r=>by rw[jl,jl,Rkk.length r]
theorem Rkk.keys:∀{kvs:List (br×V)} {gs:List (br×D)},Rkk K R kvs gs->kvs.map (·.1)=gs.map (·.1)
 |_,_,.nil=>rfl
 |_,_,.cons _ r=>by rw[jo,jo,Rkk.keys r]
theorem Rkk.snoc{k:br}{v:V}{d:D}(r:Rp K R v d):∀{kvs:List (br×V)} {gs:List (br×D)},Rkk K R kvs gs->Rkk K R (kvs++[(k,v)]) (gs++[(k,d)])
 |_,_,.nil=>.cons r .nil
 |_,_,.cons h t=>.cons h (Rkk.snoc r t)
def mi(gs:List (br×D))(k:Int):Option D:=(gs.find? λp=>decide (p.1=Sum.inl k)).map (·.2)
theorem Rkk.val{k:Int}{d:D}:∀{kvs:List (br×V)} {gs:List (br×D)},Rkk K R kvs gs->mi gs k=some d->∃v,gT kvs k=some v/\Rp K R v d
 |_,_,.nil,e=>by cases e
 | _,_,@Rkk.cons _ _ f x xs d' ds h t,e=>by
  unfold mi at e;by_cases z:f=Sum.inl k
  ·simp[List.find?_cons,z]at e;subst e;exact⟨x,by simp[gT,List.find?_cons,z],h⟩
  ·simp[List.find?_cons,z]at e;obtain⟨v,h1,h2⟩:=Rkk.val (k:=k) (d:=d) t (by unfold mi;simpa using e);exact⟨v,by rw[<-h1];simp[gT,List.find?_cons,z],h2⟩
theorem Rkk.get:∀{kvs:List (br×V)} {gs:List (br×D)} {i:Nat} {g:br×D},Rkk K R kvs gs->gs[i]? =some g->∃v,kvs[i]? =some (g.1,v)
 |_,_,_,_,.nil,e=>by simp at e
 |_,_,0,_,.cons h _,e=>by simp at e;subst e;exact⟨_,rfl⟩
 | _,_,i+1,g,.cons _ t,e=>by obtain⟨v,h1⟩:=Rkk.get (i:=i) (g:=g) t (by simpa using e);exact⟨v,by simpa using h1⟩
def fY:D->D->Option D
 |.dct gs,.int k=>mi gs k
 |_,_=>none
theorem Rp.isD{x:V}{gs:List (br×D)}(h:Rp K R x (.dct gs)):∃a kvs,x=.ref a/\R a=some (.dK kvs)/\Rkk K R kvs gs:=by
 cases h with
 |dct h r=>exact⟨_,_,rfl,h,r⟩
theorem qs8:ii K qO fY:=λH R x y d e u Q s rx ry q k=>by
 unfold fY at q;split at q
 ·rename_i gs i;obtain rfl:=ry.isI;obtain⟨a,kvs,rfl,h,r⟩:=rx.isD;obtain⟨v,h1,h2⟩:=r.val q;exact⟨a,kvs,i,v,rfl,rfl,s _ _ h,h1,k v H R (Ext.refl s) h2⟩
 ·cases q
def lN:D->Option (List D)
 |.dct gs=>some (gs.map λg=>kD g.1)
 |_=>none
def mF(f:aJ):aT:=bV f λd=>dz (lN d)
theorem qkj{a:Addr}{kvs:List (br×V)}{gs:List (br×D)}(h:R a=some (.dK kvs))(r:Rkk K R kvs gs):ItOk K (nU a kvs.length) R (gs.map λg=>kD g.1):=λH' R' s b i=>by
 have q:H' a=some (.dK kvs):=b _ _ (s _ _ h);refine⟨λe=>⟨kvs,q,rfl,by rw[j3]at e;rw[r.length];omega⟩,λd e=>?_⟩;rw[jd]at e;cases g0:gs[i]? with
 |none=>rw[g0]at e;cases e
 | some g=>
  rw[g0]at e;cases e;obtain⟨v,h1⟩:=r.get g0;refine⟨⟨kvs,_,q,rfl,h1⟩,λx H'' y=>?_⟩;obtain⟨rfl,y⟩:=y;have ex:=y kvs _ q h1;subst ex;exact⟨R',Ext.refl b,qx0⟩
theorem qk8{td:TE}{fd:aJ}(h:ME K O td fd):MI K O (Dk td) (mF fd):=λZ σ H R ρ ds ρ' Q S e k=>by
 obtain⟨d,ρ1,e1,e⟩:=bS e;obtain⟨e2,rfl⟩:=dk e;refine h Z σ H R ρ d _ _ S e1 λv H1 R1 S1 st1 r1=>?_;unfold lN at e2;split at e2
 ·cases e2;obtain⟨a,kvs,rfl,q,r⟩:=r1.isD;exact⟨a,kvs,rfl,S1.sub _ _ q,k _ H1 R1 S1 st1 (qkj q r)⟩
 ·cases e2
theorem EF{fd:aJ}{ρ:aB}:mF fd ρ=(fd ρ).bind λp=>(lN p.1).map λx=>(x,p.2):=by
 unfold mF bV dz;cases fd ρ with
 |none=>rfl
 |some p=>cases h:lN p.1<;>simp[h]
end
section
variable{c:MC}{O O':List Nat}{te ti:TE}{fe fi:aJ}
def mw(i:Nat):aI:=λρ=>if i<ρ.length then some (.nx (ρ.set i (some (.dct []))))else none
theorem qoe{i:Nat}(hs:kX c i O O'=true):MS c O O' (fz CY (gZ i)) (mw i):=λZ E σ H R ρ o hP S e k=>by
 unfold mw at e;unfold kX at hs;simp only[Bool.and_eq_true]at hs;split at e
 ·rename_i za;cases e;intro l hl;have S1:=S.ext (Ext.hid (o:=.dK []) S.sub hl);obtain⟨S2,s2⟩:=S1.sub' hP hs.1.1;have notown:∀j,j∈O->σ[j]? ≠some (some (.ref l)):=S.notnew hl;have hO':∀j,j∈O'.filter (λj=>decide (j≠i))->j∈O:=λj hj=>by
   have z:=hs.1.1;unfold c0 at z;simp only[Bool.and_eq_true,List.all_eq_true]at z;simpa using z.1 j hj
  refine k _ _ _ (S2.take (i:=i) (l:=l) (vs:=.dK []) (ds:=.dct []) (by simp) (by simpa using hs.1.2) (λj hj=>?_) (by rw[hP];simpa using hs.2) za (S.new0 hl) cM ?_ (λj hj=>notown j (hO' j hj)) (λj hj=>(List.mem_filter.mp hj).1) (.dct .nil)) s2
  ·by_cases z:j=i
   ·exact .inl z
   ·exact .inr (List.mem_filter.mpr ⟨hj,by simpa using z⟩)
  ·unfold du;rw[if_neg ?_]
   ·exact S.out hl
   ·rintro⟨j,hj,_,z⟩;exact notown j hj z
 ·cases e
def oo(gs:List (br×D))(k:Int)(d:D):Option (List (br×D)):=if gs.length<sizeLine/\(gs.all λg=>!decide (g.1=Sum.inl k))=true then some (gs++[(.inl k,d)])else none
def pI(i:Nat)(fe fi:aJ):aI:=λρ=>match fe ρ with
 |none=>none
 | some (d,ρ1)=>match fi ρ1 with
  | some (.int k,ρ2)=>match ρ2[i]? with
   | some (some (.dct gs))=>match oo gs k d with
    |some gs'=>some (.nx (ρ2.set i (some (.dct gs'))))
    |none=>none
   |_=>none
  |_=>none
theorem qod{i:Nat}(hi:i∈O)(he:ME c.K O te fe)(hx:ME c.K O ti fi)(hs:c0 c O O'=true):MS c O O' (fz te (ny (dJ i) ti CN)) (pI i fe fi):=λZ E σ H R ρ o hP S e k=>by
 unfold pI at e;cases e1:fe ρ with
 |none=>rw[e1]at e;cases e
 | some p=>
  obtain⟨d,ρ1⟩:=p;rw[e1]at e;dsimp only at e;cases e2:fi ρ1 with
  |none=>rw[e2]at e;cases e
  | some p=>
   obtain⟨x,ρ2⟩:=p;rw[e2]at e;refine he Z σ H R ρ d ρ1 _ S e1 λv H1 R1 S1 st1 r1=>?_;obtain⟨l,vs,ds,h1,h2,h3,h4,h5⟩:=S1.own i hi;refine⟨.ref l,h2,hx Z σ H1 R1 ρ1 x ρ2 _ S1 e2 λw H2 R2 S2 st2 r2=>?_⟩;obtain⟨l',vs',ds',g1,g2,g3,g4,g5⟩:=S2.own i hi;rw[h2]at g2;cases g2;cases r2 with
   | int j=>
    dsimp only at e;rw[g1]at e;cases g5 with
    |lst _=>cases e
    |dit _=>cases e
    |dct g5=>
    rename_i kvs gs;dsimp only at e;cases e3:oo gs j d with
    |none=>rw[e3]at e;cases e
    | some m=>
     rw[e3]at e;cases e;unfold oo at e3;split at e3
     ·rename_i hz;cases e3;refine⟨l,kvs,j,rfl,rfl,g3,by rw[g5.length];exact hz.1,by
            unfold qZ;rw[g5.keys];intro hm;obtain⟨g,hg,eg⟩:=List.mem_map.mp hm;have:=List.all_eq_true.mp hz.2 g hg;simp[eg]at this,?_⟩
      obtain⟨S3,s3⟩:=(S2.write hi h2 (.dct (g5.snoc (r1.mono st2.r)))).sub' hP hs;exact k σ _ _ S3 ((st1.r.trans st2.r).trans s3)
     ·cases e3
   |_=>cases e
theorem qpa{i:Nat}{ρ:aB}(h:i<ρ.length):mw i ρ=some (.nx (ρ.set i (some (.dct [])))):=by unfold mw;rw[if_pos h]
theorem qp8{i:Nat}{ρ ρ1 ρ2:aB}{d:D}{k:Int}{gs gs':List (br×D)}(h1:fe ρ=some (d,ρ1))(h2:fi ρ1=some (.int k,ρ2))(h3:ρ2[i]? =some (some (.dct gs)))(h4:oo gs k d=some gs'):pI i fe fi ρ=some (.nx (ρ2.set i (some (.dct gs')))):=by unfold pI;simp only[h1,h2,h3,h4]
end
theorem qof{K:au}{O:List Nat}{ta:TE}{fa:aJ}(h:ME K O ta fa):MN K O (CS K ta) (gx fa):=λZ σ H R ρ ds ρ' Q S e k=>by
 obtain⟨x,ρ1,e1,e⟩:=bS e;obtain⟨e3,rfl⟩:=dk e;refine h Z σ H R ρ x _ _ S e1 λv H1 R1 S1 st1 r1=>?_;unfold iJ at e3;split at e3
 ·cases e3;obtain⟨b,xs,rfl,q,r⟩:=r1.isL;refine⟨b,xs,rfl,Same.sqL S1.sub q,λl hl=>?_⟩;have x:=Ext.hid (o:=.lst xs.reverse) S1.sub hl;exact k l xs.reverse _ _ (S1.ext x) (st1.trans x.stp) (st1.new hl) cM (S1.out hl) r.rev
 ·cases e3
section
variable{X:Cx}{K:au}{O:List Nat}{a:Expr}{ta:TE}{p p2 pos zi:Pos}{fa:aJ}
def i4(n:Int):List Int:=(List.range n.toNat).map λ(i:Nat)=>(i:Int)
def CT(ta:TE):TE:=λσ H Q=>ta σ H λv H1=>∃n:Int,[v]=[V.int n]/\0<=n/\n<=1000000/\∀q,H1 q=none->Q (.ref q) (aP H1 q (.lst ((i4 n).map V.int)))
theorem qjb{acc:List Value}{ns:List Int}(hl:acc.length=ns.length)(h:∀(i:Nat) (v:Value),acc[i]? =some v->∃t,v=Value.int (ns.getD i 0) t):Vals (ns.map V.int) acc:=by
 induction acc generalizing ns with
 | nil=>
  cases ns with
  |nil=>exact .nil
  |cons n ns=>simp at hl
 | cons v r ih=>
  cases ns with
  |nil=>simp at hl
  | cons n ns=>
   refine .cons ?_ (ih (by simpa using hl) λi w e=>?_)
   ·obtain⟨t,e⟩:=h 0 v rfl;exact⟨t,e⟩
   ·obtain⟨t,e⟩:=h (i+1) w (by simpa using e);exact⟨t,by simpa using e⟩
theorem Ek(hc:X.calm=true)(hg:Gl X "list")(hm:X.mg "list"=none)(hg2:Gl X "range")(hm2:X.mg "range"=none)(ha:PE X a ta)(he2:starEach [a] X.env=(false,eval a X.env)::starEach [] X.env:=by rfl)(hpl2:(backTo pos (starEach [] X.env)).any (·.1)=false:=by rfl)
 (he:starEach [.Call (.Name "range" p) [a] [] pos] X.env=(false,eval (.Call (.Name "range" p) [a] [] pos) X.env)::starEach [] X.env:=by rfl) (hpl:(backTo zi (starEach [] X.env)).any (·.1)=false:=by rfl):
 PE X (.Call (.Name "list" p2) [.Call (.Name "range" p) [a] [] pos] [] zi) (CT ta):=by
 intro z5 s σ H Q I h;refine xh (iw I hg hm (u:=.type "list") (by rfl) ?_);refine PyProof.Rows.callWith_type1 ?_ he hpl;rw[he];show wpAny _ _ (spliced ((false,eval (.Call (.Name "range" p) [a] [] pos) X.env)::backTo zi (starEach [] X.env))) _ _ s;refine kf ?_;refine xh (iw I hg2 hm2 (u:=.type "range") (by rfl) ?_);refine PyProof.Rows.callWith_type1 (bd ((aj ha ay he2) pos z5 s σ H (λvs H1=>∃n:Int,vs=[V.int n]/\0<=n/\n<=1000000/\∀q,H1 q=none->Q (.ref q) (aP H1 q (.lst ((i4 n).map V.int)))) I h) λus s1 h1=>?_) he2 hpl2;obtain⟨vs,H1,I1,r1,n,rfl,n0,n1,k⟩:=h1;obtain⟨u,rfl,ru⟩:=cQ r1;obtain⟨t,rfl⟩:=ru;refine call_range_1 (Calls.spliced_nil ?_);have sz:Builtin.Range.rangeSize 0 n 1=(n.toNat:Int):=by rw[rangeSize_one];split<;>omega
 refine call_list_range (n := n.toNat) (I1.ok.hd hc) (IsRange.new ..) (small_one (by omega) (by omega) (by omega) (by omega)) sz (by have:(2:Nat)^24=16777216:=by decide
                                                                                                                                     omega) λh' tk acc c' kp e i=>?_
 have hf:H1 (s1.heap.push {cls:=.type "range",data:=.fields #[.int 0 s1.toks,.int n t,.int 1 (s1.toks+1)]}).objs.size=none:=I1.hok.fresh (by rw[xg];exact Nat.le_succ _);refine⟨.ref _,_,?_,rfl,k _ hf⟩;refine I1.laid (t':=tk) (λb o eb=>kp b o (j6 _ eb)) (by rw[xg];exact Nat.le_succ _) ?_;have hsl:=sizeLine_eq;refine⟨by simp only[i4,List.length_map,List.length_range];omega,acc.toList,c',qjb (by have:=i.1;simp[i4];omega) λj v ev=>?_,by rw[e]⟩;have ev':acc[j]? =some v:=by simpa using ev
 obtain⟨t',e'⟩:=i.2 j v ev';have hj:j<n.toNat:=by have:=(Array.getElem?_eq_some_iff.mp ev').1;have:=i.1;omega
 refine⟨t',?_⟩;rw[e'];simp[i4,List.getD_eq_getElem?_getD,hj]
def eX:D->Option (List D)
 |.int n=>if 0<=n/\n<=1000000 then some ((i4 n).map D.int)else none
 |_=>none
theorem Ed(h:ME K O ta fa):MN K O (CT ta) (i7 eX fa):=λZ σ H R ρ ds ρ' Q S e k=>by
 obtain⟨x,ρ1,e1,e⟩:=bS e;obtain⟨e3,rfl⟩:=dk e;refine h Z σ H R ρ x _ _ S e1 λv H1 R1 S1 st1 r1=>?_;unfold eX at e3;split at e3
 ·rename_i n;split at e3
  ·rename_i hn;cases e3;obtain rfl:=r1.isI;refine⟨n,rfl,hn.1,hn.2,λl hl=>?_⟩;have x:=Ext.hid (o:=.lst ((i4 n).map V.int)) S1.sub hl;exact k l _ _ _ (S1.ext x) (st1.trans x.stp) (st1.new hl) cM (S1.out hl) (Rps.ints _)
  ·cases e3
 ·cases e3
end
end L2
namespace L2
open PySem
def mU(q:Mv):D:=.tup [.int q.1,.int q.2]
def gQ(ch:List Mv):D:=.lst (ch.map mU)
def f6(st:Sx):D:=.lst (st.map gQ)
def gk(steps:List Sx):D:=.lst (steps.map f6)
def dY(t:Rw):D:=.lst (t.map bJ)
def io(t:List Rw):D:=.lst (t.map dY)
def iV{α:Type}(c:List (List α))(q:Int×α):List (List α):=c.set q.1.toNat (c.getD q.1.toNat []++[q.2])
theorem E3{α:Type}(j:Nat):∀(xs:List α) (c:List (List α)),j<c.length->((List.replicate xs.length (j:Int)).zip xs).foldl iV c=c.set j (c.getD j []++xs)
 | [],c,h=>by
  have e:c.set j (c.getD j []++[])=c:=by rw[List.append_nil,jc,j8 h];exact List.set_getElem_self h
  rw[e];rfl
 | x::xs,c,h=>by
  have e1:((List.replicate (x::xs).length (j:Int)).zip (x::xs))=((j:Int),x)::(List.replicate xs.length (j:Int)).zip xs:=rfl;rw[e1,List.foldl_cons];have e2:iV c ((j:Int),x)=c.set j (c.getD j []++[x]):=by unfold iV;simp only[Int.toNat_natCast]
  rw[e2,E3 j xs _ (by rw[x6];exact h),List.set_set];congr 1;rw[jc,jy h];simp
theorem xY{α β:Type}:∀{xs:List α} {ys zs:List β},xs.length=ys.length->xs.zip (ys++zs)=xs.zip ys
 |[],[],_,_=>rfl
 | x::xs,y::ys,zs,h=>by rw[List.cons_append,List.zip_cons_cons,List.zip_cons_cons,xY (by simpa using h)]
 |[],_::_,_,h=>by simp at h
 |_::_,[],_,h=>by simp at h
section
variable{U:List Int}{G:List (List Int)}{ts:List Told}
theorem E2(N:Nat):∀j,j<=N->(bn U G j).length<=ts.length->((bn U G j).zip ts).foldl iV (List.replicate N [])=(List.range N).map λk=>if k<j then aO U G ts k else []
 | 0,_,_=>by
  show List.replicate N []=_;apply List.ext_getElem?;intro i;by_cases h:i<N
  ·rw[jd,xm h,xr,if_pos h];simp
  ·rw[jw (by simp;omega),jw (by simp;omega)]
 | j+1,hj,hl=>by
  rw[oO]at hl;have eP:bn U G (j+1)=bn U G j++List.replicate (bF U G j).length (j:Int):=gD _ _;have lc:(aO U G ts j).length=(bF U G j).length:=by unfold aO;rw[jz,xj];omega
  have eT:ts=ts.take (bn U G j).length++(aO U G ts j++(ts.drop (bn U G j).length).drop (bF U G j).length):=by unfold aO;rw[List.take_append_drop,List.take_append_drop]
  have ez:(bn U G (j+1)).zip ts=(bn U G j).zip ts++(List.replicate (bF U G j).length (j:Int)).zip (aO U G ts j):=by
   have h1:(bn U G j).length=(ts.take (bn U G j).length).length:=by rw[jz];omega
   have e1:(bn U G j).zip ts=(bn U G j).zip (ts.take (bn U G j).length):=by have:=xY (zs:=aO U G ts j++(ts.drop (bn U G j).length).drop (bF U G j).length) h1;rw[<-eT]at this;exact this
   rw[e1,eP];have:=List.zip_append (r₁:=List.replicate (bF U G j).length (j:Int)) (r₂:=aO U G ts j++(ts.drop (bn U G j).length).drop (bF U G j).length) h1;rw[<-eT]at this;rw[this,xY (by rw[ji,lc])]
  rw[ez,List.foldl_append,E2 N j (by omega) (by omega),<-lc,E3 j _ _ (by simp;omega)];apply List.ext_getElem?;intro i;by_cases h:i<N
  ·rw[jd,xm h];by_cases q:j=i
   ·subst q;rw[jy (by simp;omega)];rw[jc,jd,xm h];simp
   ·rw[jf q,jd,xm h];simp only[Option.map_some];congr 1;by_cases z:i<j
    ·rw[if_pos z,if_pos (by omega)]
    ·rw[if_neg z,if_neg (by omega)]
  ·rw[jw (by simp;omega),jw (by simp;omega)]
theorem qgt(N:Nat)(hl:(bn U G N).length<=ts.length):((bn U G N).zip ts).foldl iV (List.replicate N [])=(List.range N).map (aO U G ts):=by rw[E2 N N (j7 _) hl];refine List.map_congr_left λk hk=>?_;rw[if_pos (List.mem_range.mp hk)]
end
theorem qc8{i:Nat}{fg:eH}{f:Fd}(d:D)(r:List D)(ρ:aB)(dss:List (List D)):kB i fg f (d::r) ρ dss=match fg d ρ with
 | some ρ1=>if dw ρ1 i=true then(match f ρ1 dss with
  |some p=>kB i fg f r p.1 p.2
  |none=>none)else none
 |none=>none:=rfl
theorem E4{i a b:Nat}{fe:aJ}{fs:aT}{α:Type}(dat obj:α->D)(ρ0:Option D->Option D->aB)(hf:∀u v,dw (ρ0 u v) i=true)
 (hg:∀(k:Int) (t:α) (u v:Option D),(eQ 2 (cT (ai a) (cT (ai b) e9))) (.tup [.int k,dat t]) (ρ0 u v)=some (ρ0 (some (.int k)) (some (dat t))))
 (he:∀(k:Int) (t:α),fe (ρ0 (some (.int k)) (some (dat t)))=some (.int k,ρ0 (some (.int k)) (some (dat t)))) (hs:∀(k:Int) (t:α),fs (ρ0 (some (.int k)) (some (dat t)))=some ([obj t],ρ0 (some (.int k)) (some (dat t)))):
 ∀(zs:List (Int×α)) (c:List (List α)) (u v:Option D),(∀q∈zs,0<=q.1/\q.1.toNat<c.length)->(∀g∈c,g.length+zs.length<sizeLine)->∃u' v',kB i (eQ 2 (cT (ai a) (cT (ai b) e9))) (oH i fe fs) (zs.map λq=>D.tup [.int q.1,dat q.2]) (ρ0 u v) (c.map λg=>g.map obj)=some (ρ0 u' v',(zs.foldl iV c).map λg=>g.map obj)
 |[],c,u,v,_,_=>⟨u,v,rfl⟩
 | q::zs,c,u,v,hz,hc=>by
  obtain⟨z0,z1⟩:=hz q ja;have hq:c[q.1.toNat]? =some c[q.1.toNat]:=j8 z1;have hp:pW (c.map λg=>g.map obj) q.1 (obj q.2)=some ((iV c q).map λg=>g.map obj):=by unfold pW;rw[if_pos z0,jd,hq];simp only[Option.map_some];rw[if_pos (by rw[j3];have:=hc _ (xk z1);simp at this;omega)];unfold iV;rw[List.map_set,jc,hq];simp
  obtain⟨u',v',h⟩:=E4 (i:=i) (a:=a) (b:=b) (fe:=fe) (fs:=fs) dat obj ρ0 hf hg he hs zs (iV c q) (some (.int q.1)) (some (dat q.2)) (λp hp=>by
   have:=hz p (j9 _ hp);refine⟨this.1,?_⟩;unfold iV;rw[x6];exact this.2) (λg hg=>by
   unfold iV at hg;rcases List.mem_or_eq_of_mem_set hg with h1|h1
   ·have:=hc g h1;simp at this;omega
   ·rw[h1,jc,hq];have:=hc _ (xk z1);simp at this ⊢;omega)
  refine⟨u',v',?_⟩;have step:oH i fe fs (ρ0 (some (.int q.1)) (some (dat q.2))) (c.map λg=>g.map obj)=some (ρ0 (some (.int q.1)) (some (dat q.2)),(iV c q).map λg=>g.map obj):=by unfold oH;rw[he q.1 q.2];simp only[hf,if_true];rw[hs q.1 q.2];simp only[hf,if_true,hp,Option.map_some]
  rw[jo,List.foldl_cons,<-h,qc8,hg q.1 q.2 u v];simp only[hf,if_true,step]
end L2
namespace L2
open PySem
theorem kJ{a b:Int×List Int}(h:cr a b=true):cr b a=false:=tH a b b h (tQ b)
abbrev Kr:=List (Option (Int×List Int))
section
variable(r:Int)(U:List Int)(G:List (List Int))(ts:List Told)
def Gv(k:Nat)(u:List Int):Int:=((List.range' 0 k).map λj=>f7 (aO U G ts j) (gc r.toNat U G 0 u j)).sum
end
section
variable{r:Int}{U:List Int}{G:List (List Int)}{ts:List Told}{n:Nat}
structure qx8(k:Nat)(row:Kr):Prop where
 len:row.length=2^r.toNat
 is:∀(q:Nat) (p:Int×List Int),row[q]? =some (some p)->ax p.2/\p.2.length=k/\bi (2^r.toNat) 0 p.2=(q:Int)/\p.1=Gv r U G ts k p.2
 best:∀u:List Int,ax u->u.length=k->∃p,row[(bi (2^r.toNat) 0 u).toNat]? =some (some p)/\cr (Gv r U G ts k u,u) p=false
end
end L2
namespace L2
open PySem PySem.W PyProof.Rows
section
variable{α β:Type}{lt:Nat->Nat->Bool}{N n:Nat}{p:Array Nat}
def iD(lt:Nat->Nat->Bool)(N:Nat):KasT α->(α->Prop)->Prop
 |.ret a,Q=>Q a
 |.ask i j k,Q=>i<N/\j<N/\iD lt N (k (lt i j)) Q
theorem oI{f:α->KasT β}{Q:β->Prop}:∀{t:KasT α},iD lt N t (λa=>iD lt N (f a) Q)->iD lt N (t.bind f) Q
 |.ret _,h=>h
 |.ask i j k,h=>⟨h.1,h.2.1,oI h.2.2⟩
theorem mQ{Q Q':α->Prop}(hq:∀a,Q a->Q' a):∀{t:KasT α},iD lt N t Q->iD lt N t Q'
 |.ret _,h=>hq _ h
 |.ask i j k,h=>⟨h.1,h.2.1,mQ hq h.2.2⟩
theorem DI{cmp:Nat->Nat->(Bool->Shared->Prop)->Shared->Prop}{I:Shared->Prop}(hc:∀i j,i<N->j<N->∀C s,I s->(∀s',I s'->C (lt i j) s')->cmp i j C s){P:α->Prop}{Q:α->Shared->Prop}(hq:∀a s,P a->I s->Q a s):∀{t:KasT α} {s:Shared},iD lt N t P->I s->t.kasWp cmp Q s
 |.ret _,s,h,hI=>hq _ s h hI
 |.ask i j k,s,h,hI=>hc i j h.1 h.2.1 _ s hI λs' hI'=>DI hc hq h.2.2 hI'
structure Pm(n:Nat)(p:Array Nat):Prop where
 size:p.size=n
 perm:p.toList.Perm (List.range n)
theorem Pm.get(h:Pm n p){i:Nat}(hi:i<n):p[i]? =some (p.getD i 0):=by
 have:i<p.size:=by rw[h.size];exact hi
 rw[Array.getElem?_eq_getElem this];simp[this]
theorem Pm.lo(h:Pm n p){i:Nat}(hi:i<n):p.getD i 0<n:=by
 have hm:p.getD i 0∈p.toList:=by have:=h.get hi;rw[<-Array.getElem?_toList]at this;exact xi this
 exact List.mem_range.mp (h.perm.mem_iff.mp hm)
theorem Pm.ne(h:Pm n p){i j:Nat}(hi:i<n)(hj:j<n)(ij:i≠j):p.getD i 0≠p.getD j 0:=λe=>by
 have nd:p.toList.Nodup:=h.perm.nodup_iff.mpr List.nodup_range;have a:=h.get hi;have b:=h.get hj;rw[<-Array.getElem?_toList]at a b;rw[e]at a;have li:i<p.toList.length:=by rw[Array.length_toList,h.size];exact hi
 exact ij ((List.getElem?_inj li nd).mp (a.trans b.symm))
theorem Pm.of(h:Pm n p){q:Array Nat}(hq:q.Perm p):Pm n q:=⟨by rw[hq.size_eq];exact h.size,(Array.perm_iff_toList_perm.mp hq).trans h.perm⟩
theorem tm{q:Array Nat}{i j:Nat}(h:q[i]? =p[j]?):q.getD i 0=p.getD j 0:=by rw[Array.getD_eq_getD_getElem?,Array.getD_eq_getD_getElem?,h]
def Up(lt:Nat->Nat->Bool)(p:Array Nat)(m:Nat):Prop:=∀i j,i<j->j<m->lt (p.getD i 0) (p.getD j 0)=true
def Dn(lt:Nat->Nat->Bool)(p:Array Nat)(m:Nat):Prop:=∀i j,i<j->j<m->lt (p.getD j 0) (p.getD i 0)=true
structure Ord(lt:Nat->Nat->Bool)(n:Nat):Prop where
 irr:∀a b,a<n->b<n->lt a b=true->lt b a=false
 tot:∀a b,a<n->b<n->a≠b->lt a b=false->lt b a=true
 tr:∀a b c,a<n->b<n->c<n->lt a b=true->lt b c=true->lt a c=true
theorem vM(O:Ord lt n)(h:Pm n p):∀(f a:Nat),1<=a->a+f=n->Up lt p a->iD lt n (kas_asc p f a) λm=>1<=m/\a<=m/\m<=n/\Up lt p m/\(m<n->lt (p.getD m 0) (p.getD (m-1) 0)=true)
 |0,a,h1,h2,u=>⟨h1,j7 _,by omega,u,λz=>by omega⟩
 | f+1,a,h1,h2,u=>by
  unfold kas_asc;refine⟨h.lo (by omega),h.lo (by omega),?_⟩;cases c:lt (p.getD a 0) (p.getD (a-1) 0)with
  |true=>exact⟨h1,j7 _,by omega,u,λ_=>c⟩
  | false=>
   have last:lt (p.getD (a-1) 0) (p.getD a 0)=true:=O.tot _ _ (h.lo (by omega)) (h.lo (by omega)) (h.ne (by omega) (by omega) (by omega)) c;have u':Up lt p (a+1):=λi j ij jm=>by
    by_cases q:j<a
    ·exact u i j ij q
    ·have ej:j=a:=by omega
     subst ej;by_cases qi:i=j-1
     ·rw[qi];exact last
     ·exact O.tr _ _ _ (h.lo (by omega)) (h.lo (by omega)) (h.lo (by omega)) (u i (j-1) (by omega) (by omega)) last
   exact mQ (λm hm=>⟨hm.1,by omega,hm.2.2⟩) (vM O h f (a+1) (by omega) (by omega) u')
theorem D6(O:Ord lt n)(h:Pm n p):∀(f a:Nat),2<=a->a+f=n->Dn lt p a->iD lt n (kas_desc f p a 0) λr=>r.1=p/\r.2.2=0/\2<=r.2.1/\r.2.1<=n/\Dn lt p r.2.1
 |0,a,h1,h2,u=>⟨rfl,rfl,h1,by show a<=n;omega,u⟩
 | f+1,a,h1,h2,u=>by
  unfold kas_desc;refine⟨h.lo (by omega),h.lo (by omega),?_⟩;cases c:lt (p.getD a 0) (p.getD (a-1) 0)with
  | true=>
   have u':Dn lt p (a+1):=λi j ij jm=>by
    by_cases q:j<a
    ·exact u i j ij q
    ·have ej:j=a:=by omega
     subst ej;by_cases qi:i=j-1
     ·rw[qi];exact c
     ·exact O.tr _ _ _ (h.lo (by omega)) (h.lo (by omega)) (h.lo (by omega)) c (u i (j-1) (by omega) (by omega))
   dsimp only;rw[if_pos rfl,if_neg (by decide)];exact D6 O h f (a+1) (by omega) (by omega) u'
  | false=>
   dsimp only;rw[if_neg (by decide)];have last:lt (p.getD (a-1) 0) (p.getD a 0)=true:=O.tot _ _ (h.lo (by omega)) (h.lo (by omega)) (h.ne (by omega) (by omega) (by omega)) c;refine⟨h.lo (by omega),h.lo (by omega),?_⟩;rw[last];dsimp only;rw[if_pos rfl];exact⟨rfl,rfl,h1,by show a<=n;omega,u⟩
theorem qrl(h:Pm n p){m:Nat}(hm:m<=n)(u:Dn lt p m):Pm n (kas_rev p 0 m)/\Up lt (kas_rev p 0 m) m:=by
 have e:∀k,k<m->(kas_rev p 0 m).getD k 0=p.getD (m-1-k) 0:=λk hk=>tm (by unfold kas_rev;rw[getElem?_mirror_all (by rw[h.size];exact hm),if_pos ⟨Nat.zero_le _,hk⟩,jv])
 refine⟨h.of (mirror_perm _ _ _ _),λi j ij jm=>?_⟩;rw[e i (by omega),e j jm];exact u _ _ (by omega) (by omega)
theorem ql6(O:Ord lt n)(h:Pm n p)(h2:2<=n):iD lt n (kas_count n p) λr=>Pm n r.2/\1<=r.1/\r.1<=n/\Up lt r.2 r.1:=by
 unfold kas_count;refine oI (mQ ?_ (vM O h (n-1) 1 (j7 _) (by omega) λi j ij jm=>by omega));rintro m ⟨m1,_,mn,u,stop⟩;by_cases q:m=n
 ·rw[if_pos (by rw[q];exact beq_self_eq_true n)];exact⟨h,m1,mn,u⟩
 ·rw[if_neg (by simpa using q)];by_cases q1:m>1
  ·rw[if_pos q1];refine⟨h.lo (by omega),h.lo (by omega),?_⟩;rw[u 0 (m-1) (by omega) (by omega)];dsimp only;rw[if_pos rfl];exact⟨h,m1,mn,u⟩
  ·rw[if_neg q1];have e1:m=1:=by omega
   subst e1;unfold kas_descPart;refine oI (mQ ?_ (D6 O h (n-(1+1)) (1+1) (by omega) (by omega) λi j ij jm=>?_))
   ·rintro⟨q,a,b⟩ ⟨rfl,rfl,a2,an,d⟩;dsimp only at a2 an d ⊢;rw[if_neg (by decide)];unfold kas_tail3;obtain⟨h',u'⟩:=qrl h an d;refine oI (mQ ?_ (vM O h' (n-a) a (by omega) (by omega) u'));rintro m' ⟨x1,_,x2,x3,_⟩;exact⟨h',x1,x2,x3⟩
   ·have ei:i=0:=by omega
    have ej:j=1:=by omega
    subst ei ej;exact stop (by omega)
theorem xT(O:Ord lt n)(h:Pm n p){k:Nat}(hk:k<n)(u:Up lt p k):∀(f l r:Nat),l<=r->r<=k->r-l<=f->(∀i,i<l->lt (p.getD i 0) (p.getD k 0)=true)->(∀i,r<=i->i<k->lt (p.getD k 0) (p.getD i 0)=true)->iD lt n (kas_place p k f l r) λm=>m<=k/\(∀i,i<m->lt (p.getD i 0) (p.getD k 0)=true)/\∀i,m<=i->i<k->lt (p.getD k 0) (p.getD i 0)=true
 | 0,l,r,lr,rk,hf,a,b=>by
  have e:l=r:=by omega
  subst e;exact⟨rk,a,b⟩
 | f+1,l,r,lr,rk,hf,a,b=>by
  unfold kas_place;by_cases q:l≥r
  ·rw[if_pos q];have e:l=r:=by omega
   subst e;exact⟨rk,a,b⟩
  ·rw[if_neg q];refine⟨h.lo hk,h.lo (by omega),?_⟩;cases c:lt (p.getD k 0) (p.getD ((l+r) / 2) 0)with
   | true=>
    dsimp only;rw[if_pos rfl];refine xT O h hk u f l ((l+r) / 2) (by omega) (by omega) (by omega) a λi h1 h2=>?_;by_cases qi:i=(l+r) / 2
    ·rw[qi];exact c
    ·exact O.tr _ _ _ (h.lo hk) (h.lo (by omega)) (h.lo (by omega)) c (u _ _ (by omega) h2)
   | false=>
    dsimp only;rw[if_neg (by decide)];have c':lt (p.getD ((l+r) / 2) 0) (p.getD k 0)=true:=O.tot _ _ (h.lo hk) (h.lo (by omega)) (h.ne hk (by omega) (by omega)) c;refine xT O h hk u f ((l+r) / 2+1) r (by omega) rk (by omega) (λi hi=>?_) b;by_cases qi:i=(l+r) / 2
    ·rw[qi];exact c'
    ·exact O.tr _ _ _ (h.lo (by omega)) (h.lo (by omega)) (h.lo hk) (u _ _ (by omega) (by omega)) c'
theorem Da(O:Ord lt n):∀(f:Nat) (p:Array Nat) (k:Nat),Pm n p->k+f=n->Up lt p k->iD lt n (kas_bin f p k) λq=>Pm n q/\Up lt q n
 |0,p,k,h,e,u=>⟨h,by rw[<-e];exact u⟩
 | f+1,p,k,h,e,u=>by
  unfold kas_bin;have hk:k<n:=by omega
  refine oI (mQ ?_ (xT O h hk u k 0 k (Nat.zero_le _) (j7 _) (by omega) (λi hi=>by omega) λi h1 h2=>by omega));rintro l ⟨lk,a,b⟩;have g:∀j,(bubble p k (k-l)).getD j 0=if j=l then p.getD k 0 else if l<j/\j<=k then p.getD (j-1) 0 else p.getD j 0:=λj=>by
   have e1:=getElem?_bubble (xs:=p) (src:=k) (by rw[h.size];exact hk) (k-l) (by omega) j;rw[show k-(k-l)=l from by omega]at e1;by_cases q1:j=l
   ·rw[if_pos q1]at e1 ⊢;exact tm e1
   ·rw[if_neg q1]at e1 ⊢;by_cases q2:l<j/\j<=k
    ·rw[if_pos q2]at e1 ⊢;exact tm e1
    ·rw[if_neg q2]at e1 ⊢;exact tm e1
  refine Da O f _ (k+1) (h.of (bubble_perm _ _ _)) (by omega) λi j ij jk=>?_;rw[g i,g j];by_cases j1:j=l
  ·rw[if_pos j1,if_neg (by omega),if_neg (by omega)];exact a i (by omega)
  ·rw[if_neg j1];by_cases j2:l<j/\j<=k
   ·rw[if_pos j2];by_cases i1:i=l
    ·rw[if_pos i1];exact b (j-1) (by omega) (by omega)
    ·rw[if_neg i1];by_cases i2:l<i/\i<=k
     ·rw[if_pos i2];exact u _ _ (by omega) (by omega)
     ·rw[if_neg i2];exact u _ _ (by omega) (by omega)
   ·rw[if_neg j2,if_neg (by omega),if_neg (by omega)];exact u _ _ ij (by omega)
theorem qnf(O:Ord lt n)(h2:2<=n):iD lt n (kas_sort n) λq=>Pm n q/\Up lt q n:=by
 unfold kas_sort;have h0:Pm n (List.toArray (List.range n)):=⟨by simp,by simp⟩;refine oI (mQ ?_ (ql6 O h0 h2));rintro⟨m,q⟩ ⟨h,m1,mn,u⟩;dsimp only at h m1 mn u ⊢;by_cases c:m<n
 ·rw[if_pos c,Nat.max_eq_left m1];exact Da O _ _ _ h (by omega) u
 ·rw[if_neg c];have e:m=n:=by omega
  subst e;exact⟨h,u⟩
end
end L2
namespace L2
open PySem PySem.Spec PyProof.Rows
section
variable{prog:Program}{w:World}{A:Around}{E:Value->Shared->Prop}{s:Shared}
theorem Er{env:Env}{v:Str}{a:Addr}{its:Array Value}{x:Value}{i:Nat}{m:Str->Option Value}{p1 q1 r1:Pos}{j1:Nat}{Q:Value->Shared->Prop}(zg:env.scope.kind=.function)(hk:env.scope.names.lookup v=some .local)(hn:s.heap.Ns env.locals m)(hm:m v=some (.ref a))(hd:(v==("__debug__":Str))=false)(ht:IsTup s.heap a its)(hi:its[i]? =some x)(hz:i<1000)(k:∀tk,Q x {s with toks:=tk}):
 wpAny (model prog w) A (eval (.Subscript (.Name v p1) (.Constant (.int i) j1 q1) r1) env) Q E s:=by
 refine Subscript_ ?_;refine wpAny_Name (wpAny_loadName_local zg hk hn hm ?_) hd;refine wpAny_Constant_int ?_;have hl:i<its.size:=(Array.getElem?_eq_some_iff.mp hi).1;exact subscriptTail_builtinR (x:=x) (IsTup.typeIs (s:={s with toks:=s.toks+1}) ht) slot_tuple_getitem.lookup
  (getItem_tuple (j:=i) (Q:=λr s'=>r=x/\Q r s') ht (by omega) (by omega) (seqIndex_of (by omega) (by simpa using hl)) hi ⟨rfl,k _⟩) rfl
abbrev mL(v:Str)(p1 q1 r1 p2 q2 r2 pos:Pos)(j1 j2:Nat)(x1:Nat):Expr:=.Tuple [.Subscript (.Name v p1) (.Constant (.int 0) j1 q1) r1,.Subscript (.Name v p2) (.Constant (.int 1) j2 q2) r2] x1 pos
theorem qop{f c' a:Addr}{name qual v:Str}{params:Arguments}{scope:Scope}{pm ctv x0 x1:Value}{its:Array Value}{p1 q1 r1 p2 q2 r2 pos:Pos}{j1 j2:Nat}{xc:Nat}{Q:Value->Shared->Prop}(hroom:A.depth<recursionLimit)(lim:s.heap.NoLimit)
 (ho:s.heap.get? f=some (W.kla_obj name qual params (mL v p1 q1 r1 p2 q2 r2 pos j1 j2 xc) scope [] pm c' ctv)) (hcd:s.heap.CodeRec (.ref c') qual) (hb:bindArgs (W.kla_fn name qual params (mL v p1 q1 r1 p2 q2 r2 pos j1 j2 xc) scope [] pm (.ref c') ctv) ⟨[.ref a],[]⟩=pure [(v,.ref a)])
 (hco:scope.isCoroutine=false) (hgen:scope.isGenerator=false) (zg:scope.kind=.function) (zo:∀x∈scope.names,x.2≠.cell) (hloc:scope.names.lookup v=some .local) (hd:(v==("__debug__":Str))=false) (ht:IsTup s.heap a its) (h0:its[0]? =some x0) (h1:its[1]? =some x1)
 (k:∀t s',Kq s s'->s.heap.objs.size<=t->s'.heap.get? t=some {cls:=.type "tuple",data:=.seq #[x0,x1]}->Q (.ref t) s'):wpAny (model prog w) A (call (.ref f) [.ref a]) Q E s:=by
 refine wpAny_call (W.kla_callFunE hroom ho rfl hco hgen rfl hcd ?_);rw[hb];refine j4 (wpAny_newFunctionEnv zo (λy hy=>by rw[List.mem_singleton.mp hy];exact hloc) (λh₁ hns hsb=>⟨lim.fresh _ hsb,W.kla_codeExpr ?_⟩) zg);have hk₁:∀b o,s.heap.get? b=some o->h₁.get? b=some o:=λb o e=>hsb.extBut b o (jh (j5 e)) (j6 _ e);have ht1:IsTup h₁ a its:=let ⟨o,e,c⟩:=ht;⟨o,hk₁ _ _ e,c⟩
 have hm:(λx=>([(v,Value.ref a)]:List (Str×Value)).reverse.lookup x) v=some (.ref a):=by simp
 have hsz:s.heap.objs.size<=h₁.objs.size:=by obtain⟨o,es,ep,e1,_⟩:=hns;exact Nat.le_of_lt (j5 e1)
 refine wpAny_Tuple_spliced (kf ?_);refine Er (m:=λx=>([(v,Value.ref a)]:List (Str×Value)).reverse.lookup x) zg hloc hns hm hd ht1 h0 (by decide) λtk1=>?_;refine kf ?_;refine Er (m:=λx=>([(v,Value.ref a)]:List (Str×Value)).reverse.lookup x) zg hloc hns hm hd ht1 h1 (by decide) λtk2=>?_;refine Calls.spliced_nil ⟨by show 2<=sizeLine;decide,?_⟩;exact k _ _ ⟨λb o e=>j6 _ (hk₁ b o e),rfl,rfl,rfl⟩ hsz (jj _ rfl)
theorem qu0{t u x y:Addr}{c d:Int}{tc td:Tok}{vs us:List Value}{ws zs:List Int}{Q:Bool->Shared->Prop}(ht:s.heap.get? t=some {cls:=.type "tuple",data:=.seq #[.int c tc,.ref x]})(hu:s.heap.get? u=some {cls:=.type "tuple",data:=.seq #[.int d td,.ref y]})
 (hx:s.heap.IsList x vs.toArray) (hy:s.heap.IsList y us.toArray) (hi:IntsAre vs ws) (hj:IntsAre us zs) (hl:ws.length=zs.length) (un:A.units+1<cLine) (k:Q (cr (c,ws) (d,zs)) s):wpAny (model prog w) A (keyLt' (tuples' true) (.ref t) (.ref u)) Q E s:=by
 refine W.kat_lt ht rfl hu rfl ?_;show W.KatLex prog w A true _ Q [(.int c tc,.int d td),(.ref x,.ref y)] 0 s;refine W.kat_cons (wpAny_eqBool_int (W.kat_go (λe=>?_) λe=>?_))
 ·have ecd:c=d:=by simpa using e
  subst ecd;have q1:cr (c,ws) (c,zs)=HT.lexLt ws zs:=if_pos rfl;rw[q1]at k;have ee:=qi8 (A:=A) (s:=s) hx hy hi hj hl (by omega);refine W.kat_yes (W.kat_cons (ee prog w _ _ ?_));by_cases z:ws=zs
  ·subst z;rw[decide_eq_true rfl];refine W.kat_yes (W.kat_nil ?_);rw[yu]at k;exact k
  ·rw[decide_eq_false z];refine W.kat_no (W.kat_one _ _ ?_);exact FF hx hy (by simpa using hi) (by simpa using hj) hl (by omega) k
 ·have ncd:c≠d:=by simpa using e
  have q1:cr (c,ws) (d,zs)=decide (c<d):=if_neg ncd;rw[q1]at k;exact W.kat_no (oneLt_int k)
end
end L2
namespace L2
open PySem PySem.Spec PyProof.Rows PySem.W
def gX(h₀:Heap)(L:Addr)(h:Heap):List (Addr×Obj):=(List.range h.objs.size).filterMap λb=>match h.get? b with
 | some o=>if b=L then none else(match h₀.get? b with
  |some _=>none
  |none=>some (b,o))
 |none=>none
theorem mem_allN{h₀ h:Heap}{L b:Addr}{o:Obj}:(b,o)∈gX h₀ L h↔h.get? b=some o/\b≠L/\h₀.get? b=none:=by
 unfold gX;rw[List.mem_filterMap];constructor
 ·rintro⟨x,_,hx⟩;cases e:h.get? x with
  |none=>rw[e]at hx;cases hx
  | some u=>
   rw[e]at hx;dsimp only at hx;split at hx
   ·cases hx
   ·rename_i q;cases e0:h₀.get? x with
    |some v=>rw[e0]at hx;cases hx
    | none=>
     rw[e0]at hx;cases hx;exact⟨e,q,e0⟩
 ·rintro⟨e,q,e0⟩;refine⟨b,List.mem_range.mpr (j5 e),?_⟩;rw[e];dsimp only;rw[if_neg q,e0]
theorem qj7{h₀ h:Heap}{L:Addr}:News h₀ L h (gX h₀ L h):=λp hp=>mem_allN.mp hp
theorem yp{h₀ h h':Heap}{L:Addr}{m m':Str->Option Value}(F:Fr h₀ L h m)(F':Fr h₀ L h' m')(k:∀p∈gX h₀ L h,h'.get? p.1=some p.2):∀b o,h.get? b=some o->b≠L->h'.get? b=some o:=λb o e q=>by
 cases e0:h₀.get? b with
 | some v=>
  have:=F.keep b v e0;rw[e]at this;cases this;exact F'.keep b o e0
 |none=>exact k (b,o) (mem_allN.mpr ⟨e,q,e0⟩)
def iR(h:Heap)(L:Addr)(v:Value)(q:Int×List Int):Prop:=∃a its t x vs,v=.ref a/\a≠L/\x≠L/\IsTup h a its/\its[0]? =some (.int q.1 t)/\its[1]? =some (.ref x)/\h.IsList x vs.toArray/\IntsAre vs q.2
def nT(h:Heap)(L:Addr)(rest:List (Addr×Obj))(v:Value)(q:Int×List Int):Prop:=∃a t x vs,v=.ref a/\(a,({cls:=.type "tuple",data:=.seq #[.int q.1 t,.ref x]}:Obj))∈rest/\x≠L/\h.IsList x vs.toArray/\IntsAre vs q.2
theorem qwx(qs:List (Int×List Int))(hd:∀i j,i<qs.length->j<qs.length->i≠j->qs.getD i (0,[])≠qs.getD j (0,[])):Ord (λi j=>cr (qs.getD i (0,[])) (qs.getD j (0,[]))) qs.length where
 irr:=λa b _ _ h=>kJ h
 tot:=λa b ha hb ab h=>by
  cases q:cr (qs.getD b (0,[])) (qs.getD a (0,[]))with
  |true=>rfl
  |false=>exact absurd (pV h q) (hd a b ha hb ab)
 tr:=λa b c _ _ _ h1 h2=>by
  cases q:cr (qs.getD a (0,[])) (qs.getD c (0,[]))with
  |true=>rfl
  | false=>
   have:=tH _ _ _ h2 q;rw[h1]at this;cases this
section
variable{prog:Program}{w:World}{A:Around}{E:Value->Shared->Prop}{s:Shared}{h₀:Heap}{L f c':Addr}{m:Str->Option Value}
def rW(s s1:Shared):Prop:=s1.gens=s.gens/\s1.drawn=s.drawn/\s1.os=s.os
def rh(prog:Program)(w:World)(A:Around)(h₀:Heap)(L f:Addr)(m:Str->Option Value)(s:Shared):Prop:=∀(s1:Shared) (v:Value) (q:Int×List Int) (Q:Value->Shared->Prop),rW s s1->Fr h₀ L s1.heap m->(∀b o,s.heap.get? b=some o->b≠L->s1.heap.get? b=some o)->iR s.heap L v q->
 (∀t s' tc x vs,Kq s1 s'->s1.heap.objs.size<=t->x≠L->s'.heap.get? t=some {cls:=.type "tuple",data:=.seq #[.int q.1 tc,.ref x]}->s.heap.IsList x vs.toArray->IntsAre vs q.2->Q (.ref t) s')->wpAny (model prog w) A (call (.ref f) [v]) Q (λ_ _=>False) s1
theorem Eb{kS:Addr}{Fin:List Value->Nat->Shared->Prop}{news:List (Addr×Obj)}{qs:List (Int×List Int)}(hf:rh prog w A h₀ L f m s)(F0:Fr h₀ L s.heap m)(base:∀p∈gX h₀ L s.heap,p∈news)
 (fin:∀(ks:List Value) (e:Nat) (tps:List (Addr×Obj)) (s1:Shared),rW s s1->Fr h₀ L s1.heap m->News h₀ L s1.heap ((kS,seqObj "list" ks.toArray e)::(tps++news))->(∀p∈tps++news,p.1≠kS)->(∀p∈tps,∀q∈news,q.1≠p.1)->Paired (nT s.heap L (tps++news)) ks qs->Fin ks e s1):
 ∀(r:List Value) (qr ps:List (Int×List Int)) (ks:List Value) (e:Nat) (tps:List (Addr×Obj)) (s1:Shared),qs=ps++qr->rW s s1->Fr h₀ L s1.heap m->News h₀ L s1.heap ((kS,seqObj "list" ks.toArray e)::(tps++news))->(∀p∈tps++news,p.1≠kS)->(∀p∈tps,∀q∈news,q.1≠p.1)->
   Paired (iR s.heap L) r qr->Paired (nT s.heap L (tps++news)) ks ps->KatKeys prog w A h₀ L m kS (.ref f) Fin r ks e s1
 | [],qr,ps,ks,e,tps,s1,eq,so,F,N,hk,hn,hr,hp=>by cases hr;rw[List.append_nil]at eq;exact .nil (fin ks e tps s1 so F N hk hn (by rw[eq];exact hp))
 | v::r,qr0,ps,ks,e,tps,s1,eq,so,F,N,hk,hn,hr0,hp=>by
  obtain⟨q,qr,rfl,hv,hr⟩:∃q qr,qr0=q::qr/\iR s.heap L v q/\Paired (iR s.heap L) r qr:=by
   cases hr0 with
   |cons h t=>exact⟨_,_,rfl,h,t⟩
  have keeps:=yp F0 F λp hp'=>(N p (j9 _ (ju _ (base p hp')))).1;refine .cons (hf s1 v q _ so F keeps hv λt s2 tc x vs kq ht xL et hx hi=>?_);have F2:Fr h₀ L s2.heap m:=⟨F.ns.keeps kq.heap,λb o e=>kq.heap _ _ (F.keep b o e),F.above⟩;have tL:L<t:=jn F.ns.lt ht;have N2:News h₀ L s2.heap ((kS,seqObj "list" ks.toArray e)::(((t,{cls:=.type "tuple",data:=.seq #[.int q.1 tc,.ref x]})::tps)++news)):=λp hp'=>by
   rcases List.mem_cons.mp hp' with rfl|hp'
   ·have:=N _ ja;exact⟨kq.heap _ _ this.1,this.2⟩
   ·rw[List.cons_append]at hp';rcases List.mem_cons.mp hp' with rfl|hp'
    ·exact⟨et,Nat.ne_of_gt tL,Heap.get?_none_of_le (jr F.above (Nat.le_of_lt tL))⟩
    ·have:=N p (j9 _ hp');exact⟨kq.heap _ _ this.1,this.2⟩
  have hk2:∀p∈((t,({cls:=.type "tuple",data:=.seq #[.int q.1 tc,.ref x]}:Obj))::tps)++news,p.1≠kS:=λp hp'=>by
   rw[List.cons_append]at hp';rcases List.mem_cons.mp hp' with rfl|hp'
   ·exact Nat.ne_of_gt (jn (j5 (N _ ja).1) ht)
   ·exact hk p hp'
  have hn2:∀p∈(t,({cls:=.type "tuple",data:=.seq #[.int q.1 tc,.ref x]}:Obj))::tps,∀y∈news,y.1≠p.1:=λp hp' y hy=>by
   rcases List.mem_cons.mp hp' with rfl|hp'
   ·exact jh (jn (j5 (N y (j9 _ (ju _ hy))).1) ht)
   ·exact hn p hp' y hy
  refine KatBack.intro F2 N2 (.head hk2) λh' c F' N'=>?_;refine Eb hf F0 base fin r qr (ps++[q]) (ks++[.ref t]) c ((t,{cls:=.type "tuple",data:=.seq #[.int q.1 tc,.ref x]})::tps) {s2 with heap:=h'} (by rw[eq,List.append_assoc];rfl) ⟨kq.gens.trans so.1,kq.drawn.trans so.2.1,kq.os.trans so.2.2⟩ F' N' hk2 hn2 hr ?_;refine Paired.snoc (Paired.mapP hp λk y hy=>?_) ⟨t,tc,x,vs,rfl,by rw[List.cons_append];exact ja,xL,hx,hi⟩;obtain⟨a,t',x',vs',e1,e2,e3⟩:=hy;exact⟨a,t',x',vs',e1,by rw[List.cons_append];exact j9 _ e2,e3⟩
theorem Fe{D:Addr}{o:Obj}{post:List (Addr×Obj)}(hp:∀p∈post,p.1≠D):∀{pre:List (Addr×Obj)},(∀p∈pre,p.1≠D)->UpdF D o (pre++(D,o)::post) (λo'=>pre++(D,o')::post)
 |[],_=>.head hp
 |x::pre,h=>.tail (h x ja) (Fe hp λp hp'=>h p (j9 _ hp'))
theorem yA{α β:Type}{G:α->β->Prop}{a:α}{b:β}:∀{xs:List α} {ys:List β} {i:Nat},Paired G xs ys->i<xs.length->G (xs.getD i a) (ys.getD i b)
 |_,_,0,.cons h _,_=>h
 |_,_,i+1,.cons _ t,hi=>yA (i:=i) t (by simpa using hi)
 |_,_,_,.nil,hi=>by cases hi
theorem yw{α β:Type}{G:α->β->Prop}:∀{xs:List α} {ys:List β},Paired G xs ys->xs.length=ys.length
 |_,_,.nil=>rfl
 |_,_,.cons _ t=>congrArg Nat.succ (yw t)
theorem EK{h h1:Heap}{rest:List (Addr×Obj)}(hr:∀p∈rest,h1.get? p.1=some p.2):∀{ks:List Value} {qs:List (Int×List Int)},Paired (nT h L rest) ks qs->∃fs,KatTups h1 ks fs/\fs.length=ks.length/\∀v∈fs,∃c t,v=Value.int c t
 |_,_,.nil=>⟨[],.nil,rfl,λ_ z=>nomatch z⟩
 | _,_,.cons ⟨a,t,x,vs,e1,e2,_⟩ r=>by
  obtain⟨fs,h1,h2,h3⟩:=EK hr r;subst e1;refine⟨.int _ t::fs,.cons (hr _ e2) rfl rfl rfl h1,congrArg Nat.succ h2,λv hv=>?_⟩;rcases List.mem_cons.mp hv with rfl|hv
  ·exact⟨_,_,rfl⟩
  ·exact h3 v hv
theorem qf8{l:Addr}{vs:List Value}{qs:List (Int×List Int)}{Q:Value->Shared->Prop}(F:Fr h₀ L s.heap m)(hl:s.heap.IsList l vs.toArray)(h2:2<=vs.length)(h64:vs.length<64)(hq:Paired (iR s.heap L) vs qs)(hd:∀i j,i<qs.length->j<qs.length->i≠j->qs.getD i (0,[])≠qs.getD j (0,[]))
 (hw:∀i j,i<qs.length->j<qs.length->(qs.getD i (0,[])).2.length=(qs.getD j (0,[])).2.length) (hf:rh prog w A.in1.in1 h₀ L f m s) (un:A.in1.in1.units+1<cLine)
 (k:∀(D:Addr) (s4:Shared) (p:Array Nat) (c:Nat),rW s s4->Fr h₀ L s4.heap m->(∀b o,s.heap.get? b=some o->b≠L->s4.heap.get? b=some o)->s.heap.get? D=none->D≠L->Pm vs.length p->Up (λi j=>cr (qs.getD i (0,[])) (qs.getD j (0,[]))) p vs.length->
   s4.heap.get? D=some {cls:=.type "list",data:=.seq (List.toArray (p.toList.map λi=>vs.getD i Value.none)) c}->Q (.ref D) s4):
 wpAny (model prog w) A (call (.builtin "sorted") [.ref l] [(Str.ofString "key",.ref f)]) Q E s:=by
 have lq:=yw hq;refine kat_sortedK (b:=false) (f:=.ref f) F qj7 hl h2 h64 (ksk_s1 _ _) (λx=>ksk_l1 _ _) (λx=>ksk_t1 f x) λD kS e1 h' F' N' hD hlt=>?_;have ND:=N' (D,seqObj "list" #[] e1) (j9 _ ja);have sD:s.heap.get? D=none:=by
  cases z:s.heap.get? D with
  |none=>rfl
  |some o=>exact absurd (hlt (D,o) (mem_allN.mpr ⟨z,ND.2.1,ND.2.2⟩)) (x9 _)
 refine Eb (kS:=kS) (news:=(D,seqObj "list" #[] e1)::gX h₀ L s.heap) hf F (λp hp=>j9 _ hp) (λks e tps s1 so F1 N1 hk hn hp=>?_) vs qs [] [] 0 [] {s with heap:=h'} rfl ⟨rfl,rfl,rfl⟩ F' N' (λp hp=>?_) (λp hp=>nomatch hp) hq .nil
 ·have lk:=yw hp;have n1:∀p∈tps++(D,seqObj "list" #[] e1)::gX h₀ L s.heap,s1.heap.get? p.1=some p.2:=λp hp'=>(N1 p (j9 _ hp')).1;have keeps:=yp F F1 λp hp'=>n1 p (ju _ (j9 _ hp'));obtain⟨fs,g1,g2,g3⟩:=EK n1 hp;have lkv:ks.length=vs.length:=lk.trans lq.symm;refine kat_kind (T:=.type "int") g1 (by rw[g2,lkv];exact jn (by decide) h2) (λv hv=>?_) (by decide) ?_
  ·obtain⟨c,t,rfl⟩:=g3 v hv;exact λA Q E s _ q=>j4 q
  ·refine DI (lt:=λi j=>cr (qs.getD i (0,[])) (qs.getD j (0,[]))) (N:=vs.length) (I:=λs3=>s3=s1) (λi j hi hj C s3 hs hC=>?_) (λp s3 hp3 hs=>?_) (P:=λp=>Pm vs.length p/\Up (λi j=>cr (qs.getD i (0,[])) (qs.getD j (0,[]))) p vs.length) (by rw[lq];exact qnf (qwx qs hd) (by rw[<-lq];exact h2)) rfl
   ·subst hs;obtain⟨a,t,x,us,e1',e2,e3,e4,e5⟩:=yA (a:=Value.none) (b:=((0:Int),([]:List Int))) (i:=i) hp (by rw[lkv];exact hi);obtain⟨a',t',x',us',e1'',e2',e3',e4',e5'⟩:=yA (a:=Value.none) (b:=((0:Int),([]:List Int))) (i:=j) hp (by rw[lkv];exact hj);show wpAny (model prog w) A.in1.in1 (keyLt' (tuples' true) (ks.getD i Value.none) (ks.getD j Value.none)) C (λ_ _=>False) s3;rw[e1',e1''];have up:∀{y:Addr} {is:Array Value},y≠L->s.heap.IsList y is->s3.heap.IsList y is:=λyL g=>by obtain⟨o,e,c⟩:=g;exact⟨o,keeps _ _ e yL,c⟩
    exact qu0 (n1 _ e2) (n1 _ e2') (up e3 e4) (up e3' e4') e5 e5' (hw i j (by rw[<-lq];exact hi) (by rw[<-lq];exact hj)) un (hC _ rfl)
   ·subst hs;show KatFin h₀ L m kS D ks e e1 (p.toList.map λi=>vs.getD i Value.none) (λs4=>Q (.ref D) s4) s3;refine KatFin.intro F1 N1 (.head hk) λh2' c F2 N2=>?_;refine KasFin.intro F2 N2 (.tail (Nat.ne_of_gt hD) (Fe (λp hp'=>jh (hlt p hp')) λp hp'=>(hn p hp' _ ja).symm)) λh3 c3 F3 N3=>?_;refine k D {s3 with heap:=h3} p c3 so F3 (yp F F3 λp hp'=>?_) sD ND.2.1 hp3.1 hp3.2 ?_
    ·exact(N3 p (j9 _ (ju _ (j9 _ hp')))).1
    ·exact(N3 _ (j9 _ (ju _ ja))).1
 ·rw[List.nil_append]at hp;rcases List.mem_cons.mp hp with rfl|hp
  ·exact jh hD
  ·exact jh (Nat.lt_trans (hlt p hp) hD)
end
end L2
namespace L2
open PySem PySem.Spec PyProof.Rows
section
variable{P:Program}{w:World}{K:au}{mg:Str->Option Value}{base:Heap}{N:List Str}{qual:Str}{scope:Scope}{f:Addr}{cd:Value}{cl:List (Str×Addr)}{A:Around}{outer:List Env}{s:Shared}{H:Hp}
structure Holds(cl:List (Str×Addr))(scope:Scope)(H:Hp)(h:Heap):Prop where
 free:∀x,scope.names.lookup x=some .free->∃c,cl.lookup x=some c
 inj:∀x y c,cl.lookup x=some c->cl.lookup y=some c->x=y
 cell:∀x c,cl.lookup x=some c->∃u,h.IsCell c u
 hid:∀x c,cl.lookup x=some c->H c=none
end
structure Betw(I S l:Addr)(xs:List V)(J Je:Shared->Prop):Prop where
 lst:∀s,J s->∃its:List Value,Vals xs its/\s.heap.IsList l its.toArray
 turn:∀(s:Shared) (h':Heap),J s->(∀b o,b≠I->b≠S->s.heap.get? b=some o->h'.get? b=some o)->(∃o,h'.get? I=some o)->(∃o,h'.get? S=some o)->J {s with heap:=h'}
 stop:∀(s:Shared) (h':Heap),J s->(∀b o,b≠I->b≠S->s.heap.get? b=some o->h'.get? b=some o)->Je {s with heap:=h'}
section
variable{prog:Program}{w:World}{A:Around}{R:Result->Shared->Prop}{I S l f:Addr}{xs:List V}{kz:Nat->Int}{J Je:Shared->Prop}
end
section
variable{X:Cx}{z5:List (Addr×Obj)}{σ:St}{H H3:Hp}{s s3:Shared}{P:Addr}{pos:Pos}{q:Str}{o:Obj}
end
theorem SqL.keepX{K:au}{H H':Hp}{a:Addr}{xs:List V}(s:Same H H')(h:SqL K H a xs):SqL K H' a xs:=by
 rcases h with h|h
 ·rcases h with h|⟨o,h⟩
  ·exact .inl (.inl (s _ _ h))
  ·exact .inl (.inr ⟨o,s _ _ h⟩)
 ·exact .inr h
section
variable{X:Cx}{z5:List (Addr×Obj)}{σ:St}{H:Hp}{s:Shared}{I S:Addr}
theorem Inv.turn(J:Inv X z5 σ H s){h':Heap}(hI:H I=none)(hS:H S=none)(c1:X.s₀.heap.objs.size<=I/\I≠X.env.locals/\(∀x c,X.env.cells.lookup x=some c->c≠I)/\∀p∈X.pn++z5,p.1≠I)(c2:X.s₀.heap.objs.size<=S/\S≠X.env.locals/\(∀x c,X.env.cells.lookup x=some c->c≠S)/\∀p∈X.pn++z5,p.1≠S)
 (k:∀b o,b≠I->b≠S->s.heap.get? b=some o->h'.get? b=some o):Inv X z5 σ H {s with heap:=h'}:=by
 have nc:∀{b:Addr},b∉[I,S]->b≠I/\b≠S:=λh=>⟨λz=>h (by rw[z];simp),λz=>h (by rw[z];simp)⟩;refine J.step (g':=s.gens) (d':=s.drawn) (t':=s.toks) (ch:=[I,S]) (λb hb=>?_) (λb o _ _ hb e _=>k b o (nc hb).1 (nc hb).2 e) (λb o _ _ hb e _=>⟨o.slots,k b o (nc hb).1 (nc hb).2 e⟩) (λb o _ _ n=>n) (λb o hb e=>⟨o,k b o (nc hb).1 (nc hb).2 e⟩) (λb xs h=>h) (λb o u h=>h) (λb ps h=>⟨#[],by rw[h];simp⟩) (λm hn=>?_) (λa o h=>?_) J.bare
 ·rcases List.mem_cons.mp hb with rfl|hb
  ·exact⟨.inr c1.1,c1.2⟩
  ·rw[List.mem_singleton.mp hb];exact⟨.inr c2.1,c2.2⟩
 ·obtain⟨o,es,ep,e,r⟩:=hn;exact⟨o,es,ep,k _ _ c1.2.1.symm c2.2.1.symm e,r⟩
 ·refine(J.hok a o h).stay (λb u hb e=>k b u ?_ ?_ e) (λb hb=>hb) λb xs hb=>hb
  ·rcases hb with rfl|hb
   ·exact λz=>by rw[z,hI]at h;cases h
   ·exact λz=>by rw[z,hI]at hb;cases hb
  ·rcases hb with rfl|hb
   ·exact λz=>by rw[z,hS]at h;cases h
   ·exact λz=>by rw[z,hS]at hb;cases hb
end
section
variable{X:Cx}{K:au}{e:Expr}{te tb:TE}{p kp pos lp:Pos}{params:Arguments}{body:Expr}{scope:Scope}{x y:Str}{cb c P:Addr}{ib k:Nat}
end
def uc(K:au)(H:Hp)(v:V)(q:Int×List Int):Prop:=∃(a x:Addr) (ys:List V),v=.ref a/\SqT K H a (.int q.1::.ref x::ys)/\SqL K H x (q.2.map V.int)
def jI(qs:List (Int×List Int))(i j:Nat):Bool:=cr (qs.getD i (0,[])) (qs.getD j (0,[]))
def DU(K:au)(P:Addr)(lp:Pos)(q:Str)(te:TE):TE:=λσ H Q=>te σ H λv H1=>∃(l:Addr) (xs:List V) (qs:List (Int×List Int)),[v]=[V.ref l]/\H1 P=some (.lam lp q)/\SqL K H1 l xs/\2<=xs.length/\xs.length<64/\xs.length=qs.length/\(∀i v,xs[i]? =some v->uc K H1 v (qs.getD i (0,[])))/\
 (∀i j,i<qs.length->j<qs.length->i≠j->qs.getD i (0,[])≠qs.getD j (0,[]))/\(∀i j,i<qs.length->j<qs.length->(qs.getD i (0,[])).2.length=(qs.getD j (0,[])).2.length)/\
 ∀(p:Array Nat) (D:Addr) (H3:Hp),Pm xs.length p->Up (jI qs) p xs.length->Same H1 H3->H3 D=none->Q (.ref D) (aP H3 D (.lst (p.toList.map λi=>xs.getD i .non)))
theorem SqT.keepX{K:au}{H H':Hp}{a:Addr}{xs:List V}(s:Same H H')(h:SqT K H a xs):SqT K H' a xs:=by
 rcases h with h|h
 ·rcases h with h|⟨o,h⟩
  ·exact .inl (.inl (s _ _ h))
  ·exact .inl (.inr ⟨o,s _ _ h⟩)
 ·exact .inr h
theorem FN{xs:List V}{its:List Value}(r:Vals xs its):∀is:List Nat,Vals (is.map λi=>xs.getD i .non) (is.map λi=>its.getD i Value.none)
 |[]=>.nil
 | i::is=>by
  refine .cons ?_ (FN r is);have ln:=Paired.length r;show RelV (xs.getD i .non) (its.getD i Value.none);rw[jc,jc];by_cases h:i<xs.length
  ·obtain⟨u,e1,e2⟩:=Vals.get r (j8 h);rw[j8 h,e1];exact e2
  ·rw[jw (by omega),jw (show its.length<=i by omega)];exact(show RelV .non Value.none from rfl)
theorem Fy{α β:Type}{G:α->β->Prop}{b:β}:∀{xs:List α} {ys:List β},xs.length=ys.length->(∀i x,xs[i]? =some x->G x (ys.getD i b))->Paired G xs ys
 |[],[],_,_=>.nil
 |x::xs,y::ys,hl,h=>.cons (h 0 x rfl) (Fy (by simpa using hl) λi x hx=>h (i+1) x hx)
section
variable{X:Cx}{K:au}{e:Expr}{te:TE}{p kp pos lp:Pos}{params:Arguments}{scope:Scope}{v:Str}{c P:Addr}{k:Nat}{p1 q1 r1 p2 q2 r2 bp:Pos}{j1 j2 xc:Nat}
theorem qen(hK:X.K=K)(hc:X.calm=true)(hr:Room (k+2) X.A)(hg:Gl X "sorted")(hm:X.mg "sorted"=none)(ha:PE X e te)
 (hdef:defaultsOf params X.env=([],[])) (hcl:closureFor scope X.env=pure []) (hge0:X.env.globals=mainGlobals) (zv:X.env.code=.ref c) (C:∀h:Heap,X.K.In h->W.CodeHd h c P) (hbt:∀h:Heap,X.K.In h->h.BuiltinsAt X.mg P)
 (sx:scope.names.lookup v=some .local) (hco:scope.isCoroutine=false) (hgen:scope.isGenerator=false) (zg:scope.kind=.function) (zo:∀z∈scope.names,z.2≠.cell) (hd:(v==("__debug__":Str))=false)
 (zz:∀(pm cdv ctv u:Value),bindArgs (W.kla_fn "<lambda>" (X.env.qual++"<lambda>") params (mL v p1 q1 r1 p2 q2 r2 bp j1 j2 xc) scope [] pm cdv ctv) ⟨[u],[]⟩=pure [(v,u)])
 (he:starEach [e] X.env=(false,eval e X.env)::starEach [] X.env:=by rfl)
 (h1:backTo pos (starEach [e] X.env)=(false,eval e X.env)::backTo pos (starEach [] X.env):=by rfl) (h2:(backTo pos (starEach [e] X.env)).any (·.1)=false:=by rfl)
 (h3:(backToKw pos (keywordEach [⟨some "key",.Lambda params (mL v p1 q1 r1 p2 q2 r2 bp j1 j2 xc) scope lp,kp⟩] X.env)).all (λx=>x.1.isSome)=true:=by rfl) (h4:(backToKw pos (keywordEach [⟨some "key",.Lambda params (mL v p1 q1 r1 p2 q2 r2 bp j1 j2 xc) scope lp,kp⟩] X.env)).any (λx=>x.1.isNone)=false:=by rfl)
 (h5:(backToKw pos (keywordEach [⟨some "key",.Lambda params (mL v p1 q1 r1 p2 q2 r2 bp j1 j2 xc) scope lp,kp⟩] X.env)).filterMap (·.1)=[Str.ofString "key"]:=by rfl):
 PE X (.Call (.Name "sorted" p) [e] [⟨some "key",.Lambda params (mL v p1 q1 r1 p2 q2 r2 bp j1 j2 xc) scope lp,kp⟩] pos) (DU K P lp (X.env.qual++"<lambda>") te):=by
 subst hK;intro z5 s σ H Q I h;refine xh (iw I hg hm (u:=.builtin "sorted") (by rfl) ?_);refine callWith_kw (bd ((aj ha ay he) pos z5 s σ H (λvs H1=>∃(l:Addr) (xs:List V) (qs:List (Int×List Int)),vs=[V.ref l]/\H1 P=some (.lam lp (X.env.qual++"<lambda>"))/\SqL X.K H1 l xs/\2<=xs.length/\xs.length<64/\xs.length=qs.length/\(∀i v,xs[i]? =some v->uc X.K H1 v (qs.getD i (0,[])))/\
 (∀i j,i<qs.length->j<qs.length->i≠j->qs.getD i (0,[])≠qs.getD j (0,[]))/\(∀i j,i<qs.length->j<qs.length->(qs.getD i (0,[])).2.length=(qs.getD j (0,[])).2.length)/\
 ∀(p:Array Nat) (D:Addr) (H3:Hp),Pm xs.length p->Up (jI qs) p xs.length->Same H1 H3->H3 D=none->Q (.ref D) (aP H3 D (.lst (p.toList.map λi=>xs.getD i .non)))) I h) λus s1 hh1=>?_) h1 h2 h3 h4
 obtain⟨vs,H1,I1,rr,l,xs,qs,rfl,hP,sq,l2,l64,lq,keys,dist,lens,fin⟩:=hh1;obtain⟨u,rfl,ru⟩:=cQ rr;cases(show u=Value.ref l from ru);refine kws_cons (qke I1 hP hdef hcl hge0 zv (C _ I1.mod.kin) (hbt _ I1.mod.kin) λf c' ctv H2 s2 I2 sm new ef nf szf hcd hcH tab=>?_);refine kws_nil ?_;rw[h5];show wpAny _ _ (call (.builtin "sorted") [.ref l] [(Str.ofString "key",.ref f)]) _ _ s2;obtain⟨m,F⟩:=I2.fr;obtain⟨its,rv,pl,hz⟩:=I2.list (sq.keepX sm);have ln:=Paired.length rv;have lH:∀{a:Addr} {o:HO},H2 a=some o->a≠X.env.locals:=λh z=>by rw[z,I2.free]at h;cases h
 have nsD:∀{a:Addr} {o:Obj} {xs:Array Value} {n:Nat},s2.heap.get? a=some o->o.data=.seq xs n->a≠X.env.locals:=λh d z=>by obtain⟨o',es,ep,e',hd',_⟩:=F.ns;rw[z]at h;rw[h]at e';cases e';rw[d]at hd';exact nomatch hd'
 have fL:f≠X.env.locals:=Nat.ne_of_gt (jn I1.lt szf);have cL:c'≠X.env.locals:=lH hcH;have hkeys:Paired (iR s2.heap X.env.locals) its qs:=Fy (b:=(0,[])) (by omega) λi u hu=>by
  obtain⟨x,ex,rx⟩:=FL rv hu;obtain⟨a,y,ys,rfl,g1,g2⟩:=keys i x ex;cases rx;obtain⟨its',r',pt,_⟩:=I2.tuple (g1.keepX sm);obtain⟨vs',rvs,plx,_⟩:=I2.list (g2.keepX sm);cases r' with
  | cons ra r'=>
   cases r' with
   | cons rb r'=>
    obtain⟨t,rfl⟩:=ra;cases rb;refine⟨a,_,t,y,vs',rfl,?_,?_,pt,rfl,rfl,plx.isList,dN rvs⟩
    ·obtain⟨o,e1,_,n,d⟩:=pt;exact nsD e1 d
    ·obtain⟨o,e1,_,n,d⟩:=plx.isList;exact nsD e1 d
 have hun:X.A.in1.in1.units+1<cLine:=by have:=hr.un;show X.A.units+1+1+1<cLine;omega
 have hdep:X.A.in1.in1.depth<recursionLimit:=by have:=hr.dp;show X.A.depth<_;omega
 refine qf8 (h₀:=X.base) (L:=X.env.locals) (f:=f) (m:=m) F pl.isList (by omega) (by omega) hkeys dist lens (λs3 w q Q3 so F3 kp3 kI cont=>?_) hun λD s4 p c so F4 kp sD DL pm up eD=>?_
 ·obtain⟨a,its',t,x,vs',rfl,aL,xL,ht,e0,e1,hx,hi⟩:=kI;have ht3:IsTup s3.heap a its':=let ⟨o,e,r⟩:=ht;⟨o,kp3 _ _ e aL,r⟩
  refine qop (pm:=((X.mg "__name__").getD .none)) (c':=c') (ctv:=ctv) hdep (I2.mod.nolimit.keeps F3.keep) (kp3 _ _ ef fL) ?_ (zz _ _ _ _) hco hgen zg zo sx hd ht3 e0 e1 λt' s5 kq st et=>cont t' s5 t x vs' kq st xL et hx hi;obtain⟨c2,oc,vs2,tq,hc2,hoc,r⟩:=hcd;cases hc2;exact⟨c',oc,vs2,tq,rfl,kp3 _ _ hoc cL,r⟩
 ·obtain⟨hp4,g4,d4,t4,os4⟩:=s4;obtain⟨so1,so2,so3⟩:=so;dsimp only at so1 so2 so3 F4 kp eD;subst so1 so2 so3;have D0:H2 D=none:=by
   cases z:H2 D with
   |none=>rfl
   | some o=>
    obtain⟨u,hu⟩:=ObjOk.there (I2.hok D o z);rw[sD]at hu;cases hu
  have neD:∀{b:Addr} {o:HO},H2 b=some o->b≠D:=λh z=>by rw[z,D0]at h;cases h
  have lpm:p.toList.length=xs.length:=by have:=pm.size;simpa[ln]using this
  have I4:Inv X z5 σ (aP H2 D (.lst (p.toList.map λi=>xs.getD i .non))) {s2 with heap:=hp4,toks:=t4}:=by
   refine I2.step (g':=s2.gens) (d':=s2.drawn) (ch:=[]) (λ_ z=>nomatch z) (λb o bL _ _ e1 _=>kp b o e1 bL) (λb o bL _ _ e1 _=>⟨o.slots,kp b o e1 bL⟩) (λb o _ e1 n=>by rw[aU (λz=>by rw[z,sD]at e1;cases e1)];exact n)
    (λb o _ e1=>?_) (λb xs h=>by rw[aU (neD h)];exact h) (λb o u h=>by rw[aU (neD h)];exact h) (λb ps h=>⟨#[],by rw[aU (neD h),h];simp⟩) (λm' hn=>?_) (λa o h=>?_) I2.bare
   ·by_cases z:b=X.env.locals
    ·obtain⟨o',_,_,e',_⟩:=F4.ns;exact⟨o',by rw[z];exact e'⟩
    ·exact⟨o,kp b o e1 z⟩
   ·have em:m'=m:=funext λx=>hn.agree F.ns x;rw[em];exact F4.ns
   ·by_cases z:a=D
    ·subst z;rw[cM]at h;cases h;refine⟨?_,_,c,FN rv p.toList,eD⟩;rw[j3,lpm];exact hz
    ·rw[aU z]at h;refine(I2.hok a o h).stay (λb u hb e1=>kp b u e1 ?_) (λb hb=>by rw[aU (neD hb)];exact hb) λb xs hb=>by rw[aU (neD hb)];exact hb
     rcases hb with rfl|hb
     ·exact lH h
     ·exact lH hb
  refine⟨.ref D,_,I4,rfl,fin p D H2 (by rw[ln];exact pm) (by rw[ln];exact up) sm D0⟩
end
section
variable{K:au}{R R2:Hp}
end
def fT(K:au)(P:Addr)(lp:Pos)(q:Str)(n:Nat)(f:List D->Option D):Sp:=λvs H Q _=>vs.length=n/\∃R ds d,(∀a o,R a=some o->H a=some o)/\R P=some (.lam lp q)/\Rps K R vs ds/\f ds=some d/\∀v H' R',Ext H R H' R'->Rp K R' v d->Q v H'
def jN(j:Nat)(P:Addr)(lp:Pos)(q:Str)(f:List D->Option D)(fs:aT):aJ:=λρ=>match fs ρ with
 | some (ds,ρ1)=>(match ρ1[j]? with
  |some (some (.tab P' lp' q'))=>if P'=P/\lp'=lp/\q'=q then(f ds).map λd=>(d,ρ1)else none
  |_=>none)
 |none=>none
theorem tW{K:au}{O:List Nat}{P:Addr}{lp:Pos}{q:Str}{n j:Nat}{f:List D->Option D}{tr:TA}{fs:aT}{E:XK}(hj:j∉O)(hf:bY n f)(h:MA K O tr fs):ME K O (mh (fT K P lp q n f) [] E tr) (jN j P lp q f fs):=λZ σ H R ρ d ρ' Q S e k=>by
 unfold jN at e;split at e
 ·rename_i ds ρ1 e1;split at e
  ·rename_i P' lp' q' e2;split at e
   ·rename_i z;obtain⟨rfl,rfl,rfl⟩:=z;cases e3:f ds with
    |none=>rw[e3]at e;cases e
    | some d'=>
     rw[e3]at e;cases e;refine h Z σ H R ρ ds _ _ S e1 λvs H1 R1 S1 st1 r1=>?_;show fT K P' lp' q' n f (vs++[]) H1 Q E;rw[List.append_nil];obtain⟨v,_,rt⟩:=S1.env j _ hj e2;cases rt with
     |tab hP=>exact⟨by rw[r1.length];exact hf ds d e3,R1,ds,d,S1.sub,hP,r1,e3,λv H2 R2 x q=>k v H2 R2 (S1.ext x) (st1.trans x.stp) q⟩
   ·cases e
  ·cases e
 ·cases e
theorem Inv.phantom{X:Cx}{z5:List (Addr×Obj)}{σ:St}{H:Hp}{s:Shared}(I:Inv X z5 σ H s){j:Nat}{z:Str}{v:V}(hN:X.N[j]? =some z)(hz:¬km X.env.scope z):Inv X z5 (σ.set j (some v)) H s:=by
 obtain⟨m,hn,hl⟩:=I.loc;refine⟨I.ok,I.os,I.bare,I.base,⟨m,hn,λi x u h1 h2 h3=>?_⟩,I.cell,I.free,I.freeC,I.pin,I.hok,by rw[x6];exact I.len⟩;by_cases q:j=i
 ·subst q;rw[hN]at h1;cases h1;exact absurd h3 hz
 ·rw[jf q]at h2;exact hl i x u h1 h2 h3
theorem Fun.okT{P:Program}{w:World}{K:au}{mg:Str->Option Value}{base:Heap}{x qual:Str}{st:Stmt}{f:Addr}{fd:FuncData}{N ps:List Str}{k j:Nat}{z:Str}{sp:Sp}{u:V}(F:Fun K x qual st f fd)(S:q0n N ps (aN st))(hz:N[j]? =some z)(nv:¬km (aN st) z)(len:∀vs H Q E,sp vs H Q E->vs.length=ps.length)
 (ze:∀(cdv:Value) (A:Around) (outer:List Env) (s:Shared) (H:Hp) (vs:List V) (Q:VK) (E:XK),Room k (A.deeper (envOfC qual (aN st) s.heap.objs.size f cdv))->sp vs H Q E->
   ∃t,PSs (eY bB P w K mg base N qual (aN st) f cdv A outer s H E).nox (fJ st) t/\t {nx:=λ_ H'=>Q .non H',rt:=Q} ((aZ N vs).set j (some u)) H):FnOk P w K mg base bB (k+1) f fd ps sp:=by
 refine F.ok S len λcdv A outer s H vs Q E hr hsp=>?_;obtain⟨t,ht,hq⟩:=ze cdv A outer s H vs Q E hr hsp;refine⟨λD σ H=>t D (σ.set j (some u)) H,λz5 s1 σ H1 D I h=>?_,hq⟩;exact ht z5 s1 _ H1 D (I.phantom hz nv) h
theorem Fun.okL{P:Program}{w:World}{K:au}{mg:Str->Option Value}{base:Heap}{x qual:Str}{st:Stmt}{f:Addr}{fd:FuncData}{N ps:List Str}{k:Nat}{sp:Sp}(F:Fun K x qual st f fd)(S:q0n N ps (aN st))(len:∀vs H Q E,sp vs H Q E->vs.length=ps.length)
 (ze:∀(A:Around) (outer:List Env) (s:Shared) (H:Hp) (vs:List V) (Q:VK) (E:XK),Room k (A.deeper (envOfC qual (aN st) s.heap.objs.size f fd.code))->sp vs H Q E->
   ∃t,PSs (eY bB P w K mg base N qual (aN st) f fd.code A outer s H E).nox (fJ st) t/\t {nx:=λ_ H'=>Q .non H',rt:=Q} (aZ N vs) H):FnOk P w K mg base bB (k+1) f fd ps sp:=by
 obtain⟨oc,od,kV,doc,pm,an,cdv,ct,osl,rfl,lk,hcd⟩:=F.ex;refine u8 lk hcd S len λA outer s H vs Q E hr hsp=>?_;obtain⟨t,h,q⟩:=ze A outer s H vs Q E hr hsp;exact⟨t,h.nox,q⟩
def ky(fr:Bool)(n N j:Nat)(d:D)(f:aI)(ds:List D):Option D:=if ds.length=n/\n<=j then match f ((ds.map some++List.replicate (N-n) none).set j (some d))with
 |some (.rt d _)=>some d
 |some (.nx _)=>if fr=true then none else some .non
 |_=>none
 else none
theorem yl{K:au}{P:Addr}{lp:Pos}{q:Str}{n j:Nat}{Nms:List Str}{O':List Nat}{t:TS}{f:aI}{vs:List V}{H:Hp}{Q:VK}{E:XK}(hj:j<Nms.length)(hm:MS ⟨K,false,[],[]⟩ [] O' t f)(h:fT K P lp q n (ky false n Nms.length j (.tab P lp q) f) vs H Q E):t {nx:=λ_ H'=>Q .non H',rt:=Q} ((aZ Nms vs).set j (some (.ref P))) H:=by
 obtain⟨hn,R,ds,d,sub,rP,r,e,k⟩:=h;unfold ky at e;split at e
 ·rename_i hl;obtain⟨hl,hjn⟩:=hl;have S0:StR K ⟨H,R,λ_=>False,[]⟩ [] (aZ Nms vs) H R (ds.map some++List.replicate (Nms.length-n) none):=by
   refine⟨sub,?_,λi d _ q=>?_,λi hi=>(nomatch hi),λi j hi=>(nomatch hi),λa o q _=>q,Same.refl _,λa q=>.inl q,λa q=>.refl q,λi hi=>(nomatch hi),λi hi=>(nomatch hi)⟩
   ·unfold aZ;rw[je,je,j3,j3,ji,ji,hn,hl]
   ·obtain⟨v,h1,h2⟩:=r.get (tZ q);exact⟨v,t0 h1,h2⟩
  have S:=S0.set (i:=j) (v:=.ref P) (d:=.tab P lp q) (λh=>nomatch h) (.tab rP);have ext:∀{O1:List Nat} {σ':St} {H' R':Hp} {ρ':aB},StR K ⟨H,R,λ_=>False,[]⟩ O1 σ' H' R' ρ'->Ext H R H' R':=λS'=>⟨λa o q=>S'.ah a o q (λz=>z),S'.ar,S'.sub,S'.an⟩;cases e1:f ((ds.map some++List.replicate (Nms.length-n) none).set j (some (.tab P lp q)))with
  |none=>rw[e1]at e;cases e
  | some o=>
   rw[e1]at e;refine hm _ _ _ _ _ _ o rfl S e1 ?_;cases o with
   | nx ρ'=>
    dsimp only at e;rw[if_neg (by decide)]at e;cases e;exact λσ' H' R' S' _=>k .non H' R' (ext S') .non
   |bk ρ'=>cases e
   |ct ρ'=>cases e
   | rt d' ρ'=>
    cases e;exact λv σ' H' R' S' q=>k v H' R' (ext S') q
 ·cases e
theorem En{n N j:Nat}{d:D}{f:aI}:bY n (ky false n N j d f):=λds d' h=>by
 unfold ky at h;split at h
 ·rename_i z;exact z.1
 ·cases h
def kM(qs:List (Int×List Int))(i j:Nat):Bool:=!jI qs j i
def iF(qs:List (Int×List Int)):List Nat:=(List.range qs.length).mergeSort (kM qs)
theorem mR(qs:List (Int×List Int)):(iF qs).Perm (List.range qs.length):=List.mergeSort_perm _ _
theorem DP(qs:List (Int×List Int)):(iF qs).Pairwise λi j=>kM qs i j=true:=by
 refine List.pairwise_mergeSort (le:=kM qs) (λa b c h1 h2=>?_) (λa b=>?_) _
 ·unfold kM jI at*;rw[Bool.not_eq_true']at*;exact qgs h2 h1
 ·unfold kM jI;cases h:cr (qs.getD b (0,[])) (qs.getD a (0,[]))with
  |false=>rfl
  |true=>rw[kJ h];rfl
theorem qjj{qs:List (Int×List Int)}{p:Array Nat}(hd:∀i j,i<qs.length->j<qs.length->i≠j->qs.getD i (0,[])≠qs.getD j (0,[]))(pm:Pm qs.length p)(up:Up (jI qs) p qs.length):p.toList=iF qs:=by
 have lp:p.toList.length=qs.length:=by have:=pm.size;simpa using this
 refine List.Perm.eq_of_pairwise (le:=λi j=>kM qs i j=true) (λa b ha hb h1 h2=>?_) ?_ (DP qs) (pm.perm.trans (mR qs).symm)
 ·have ha':a<qs.length:=List.mem_range.mp (pm.perm.subset ha);have hb':b<qs.length:=List.mem_range.mp ((mR qs).subset hb);unfold kM jI at h1 h2;rw[Bool.not_eq_true']at h1 h2;by_cases z:a=b
  ·exact z
  ·exact absurd (pV h2 h1) (hd a b ha' hb' z)
 ·rw[List.pairwise_iff_getElem];intro i j hi hj hij;have:=up i j hij (by omega);have gi:p.getD i 0=p.toList[i]:=by simp[Array.getD,show i<p.size by simpa using hi]
  have gj:p.getD j 0=p.toList[j]:=by simp[Array.getD,show j<p.size by simpa using hj]
  rw[gi,gj]at this;unfold jI at this;unfold kM jI;rw[kJ this];rfl
def lh(d:D):Option (Int×List Int):=match d with
 |.tup (.int c::.lst bs::_)=>(eF bs).map λns=>(c,ns)
 |_=>none
def mj:List D->Option (List (Int×List Int))
 |[]=>some []
 | d::r=>match lh d,mj r with
  |some q,some qs=>some (q::qs)
  |_,_=>none
def t9(qs:List (Int×List Int)):Prop:=2<=qs.length/\qs.length<64/\qs.Nodup/\∀q∈qs,q.2.length=(qs.headD (0,[])).2.length
instance(qs:List (Int×List Int)):Decidable (t9 qs):=by unfold t9;infer_instance
def mE(ds:List D):Option D:=match ds with
 | [.lst xs,.int m]=>(match mj xs with
  |some qs=>if t9 qs then some (.lst (e7 ((iF qs).map λi=>xs.getD i .non) none (some m)))else none
  |none=>none)
 |_=>none
theorem qku:bY 2 mE:=λds d h=>by
 unfold mE at h;split at h
 ·rfl
 ·cases h
section
variable{K:au}{R:Hp}
theorem qor{v:V}{d:D}{q:Int×List Int}(r:Rp K R v d)(e:lh d=some q):uc K R v q:=by
 unfold lh at e;split at e
 ·rename_i c bs rest;obtain⟨ns,e1,rfl⟩:=Option.map_eq_some_iff.mp e;obtain⟨a,xs,rfl,h,r⟩:=r.isT;cases r with
  | cons r1 r=>
   cases r with
   | cons r2 r=>
    obtain rfl:=r1.isI;obtain⟨x,ys,rfl,hx,rx⟩:=r2.isL;have ex:=mS rx e1;subst ex;exact⟨a,x,_,rfl,SqT.of h,hx⟩
 ·cases e
theorem Ft:∀{vs:List V} {ds:List D} {qs:List (Int×List Int)},Rps K R vs ds->mj ds=some qs->vs.length=qs.length/\∀i v,vs[i]? =some v->uc K R v (qs.getD i (0,[]))
 | _,_,qs,.nil,e=>by cases e;exact⟨rfl,λi v h=>by simp at h⟩
 | _,_,qs,.cons (d:=d) (ds:=ds) r t,e=>by
  unfold mj at e;split at e
  ·rename_i q qs' e1 e2;cases e;obtain⟨h1,h2⟩:=Ft t e2;refine⟨by simp[h1],λi v h=>?_⟩;cases i with
   |zero=>cases h;exact qor r e1
   |succ i=>exact h2 i v h
  ·cases e
theorem E5{vs:List V}{ds:List D}(r:Rps K R vs ds):∀is:List Nat,(∀i∈is,i<vs.length)->Rps K R (is.map λi=>vs.getD i .non) (is.map λi=>ds.getD i .non)
 |[],_=>.nil
 | i::is,h=>by refine .cons ?_ (E5 r is λj hj=>h j (j9 _ hj));have hi:=h i ja;obtain⟨d,e1,e2⟩:=r.get' (j8 hi);show Rp K R (vs.getD i .non) (ds.getD i .non);rw[jc,jc,j8 hi,e1];exact e2
theorem qfr{P:Addr}{lp:Pos}{q:Str}{Nms:List Str}{vs:List V}{H:Hp}{Q:VK}{E:XK}(hN:2<=Nms.length)(h:fT K P lp q 2 mE vs H Q E):
 (iE (uY (ni K) (DU K P lp q (dJ 0)) xB (vo (dJ 1)))) {nx:=λ_ H'=>Q .non H',rt:=Q} (aZ Nms vs) H:=by
 obtain⟨hn,R,ds,d,sub,rP,r,e,k⟩:=h;unfold mE at e;split at e
 ·rename_i xs m;cases e1:mj xs with
  |none=>rw[e1]at e;cases e
  | some qs=>
   rw[e1]at e;dsimp only at e;split at e
   ·rename_i ok;obtain⟨n2,n64,nd,ln⟩:=ok;cases e;cases r with
    |cons r0 r=>
    cases r with
    |cons r1 r=>
    cases r;obtain rfl:=r1.isI;obtain⟨l,vxs,rfl,hl,rx⟩:=r0.isL;obtain⟨lq,keys⟩:=Ft rx e1;have dist:∀i j,i<qs.length->j<qs.length->i≠j->qs.getD i (0,[])≠qs.getD j (0,[]):=λi j hi hj ij z=>by
     rw[jc,jc,j8 hi,j8 hj]at z;have z':qs[i]=qs[j]:=z;have pw:=List.pairwise_iff_getElem.mp nd;rcases Nat.lt_or_gt_of_ne ij with w|w
     ·exact pw i j hi hj w z'
     ·exact pw j i hj hi w z'.symm
    have lens:∀i j,i<qs.length->j<qs.length->(qs.getD i (0,[])).2.length=(qs.getD j (0,[])).2.length:=λi j hi hj=>by rw[jc,jc,j8 hi,j8 hj];exact(ln _ (xk hi)).trans (ln _ (xk hj)).symm
    refine⟨.ref l,rfl,l,vxs,qs,rfl,sub _ _ rP,hl.keepX sub,by omega,by omega,lq,λi v hv=>?_,dist,lens,λp D H3 pm up sm hD=>?_⟩
    ·obtain⟨a,x,ys,ea,g1,g2⟩:=keys i v hv;exact⟨a,x,ys,ea,g1.keepX sub,g2.keepX sub⟩
    ·rw[lq]at pm up;have ep:=qjj dist pm up;refine⟨.int m,rfl,m,rfl,.inl ⟨D,_,rfl,SqL.of cM,λp2 hp2=>?_⟩⟩;have x0:Ext H R H3 R:=⟨sm,Same.refl _,λa o h=>sm _ _ (sub _ _ h),λ_ h=>.inl h⟩;have x1:=x0.trans (Ext.hid (o:=.lst (p.toList.map λi=>vxs.getD i .non)) x0.s hD);have x2:=Ext.new (o:=.lst (eZ (p.toList.map λi=>vxs.getD i .non) none (some m))) x1.s hp2;refine k _ _ _ (x1.trans x2) (.lst (SqL.of cM) ?_);rw[<-ep];exact((E5 rx p.toList λi hi=>by rw[lq];exact List.mem_range.mp (pm.perm.subset hi)).mono x2.r).cut none (some m)
   ·cases e
 ·cases e
end
section
variable{X:Cx}{K:au}
end
structure FunD(K:au)(x qual:Str)(st:Stmt)(f:Addr)(fd:FuncData):Prop where
 ex:∃(oc:Value) (od:Option Addr) (dV kV doc pm:Value) (an:Option Addr) (cdv ct:Value) (osl:Array (Option Value)),
  fd=W.fnOf x qual (ie st) (fJ st) (aN st) dV kV doc pm an cdv ct/\K.lookup f=some ⟨oc,od,.func fd,osl⟩/\W.codeIn K cdv qual=true
 kp:W.keepIn K (.ref f)=true
section
variable{P:Program}{w:World}{K:au}{mg:Str->Option Value}{base:Heap}
theorem FunD.ok{x qual:Str}{st:Stmt}{f:Addr}{fd:FuncData}{N ps:List Str}{k:Nat}{sp:Sp}(F:FunD K x qual st f fd)(S:q0n N ps (aN st))(len:∀vs H Q E,sp vs H Q E->vs.length=ps.length)
 (ze:∀(cdv:Value) (A:Around) (outer:List Env) (s:Shared) (H:Hp) (vs:List V) (Q:VK) (E:XK),Room k (A.deeper (envOfC qual (aN st) s.heap.objs.size f cdv))->sp vs H Q E->
   ∃t,PSs (eY bB P w K mg base N qual (aN st) f cdv A outer s H E).nox (fJ st) t/\t {nx:=λ_ H'=>Q .non H',rt:=Q} (aZ N vs) H):FnOk P w K mg base bB (k+1) f fd ps sp:=by
 obtain⟨oc,od,dV,kV,doc,pm,an,cdv,ct,osl,rfl,lk,hcd⟩:=F.ex;refine u8 lk hcd S len λA outer s H vs Q E hr hsp=>?_;obtain⟨t,h,q⟩:=ze cdv A outer s H vs Q E hr hsp;exact⟨t,h.nox,q⟩
theorem qow{x qual:Str}{st:Stmt}{f:Addr}{oc:Value}{od an:Option Addr}{osl:Array (Option Value)}{dV kV doc pm cdv ct:Value}(l:K.lookup f=some ⟨oc,od,.func (W.fnOf x qual (ie st) (fJ st) (aN st) dV kV doc pm an cdv ct),osl⟩)
 (c:W.codeIn K cdv qual=true) (k:W.keepIn K (.ref f)=true):FunD K x qual st f (W.fnOf x qual (ie st) (fJ st) (aN st) dV kV doc pm an cdv ct):=⟨⟨oc,od,dV,kV,doc,pm,an,cdv,ct,osl,rfl,l,c⟩,k⟩
theorem Dc{fd:FuncData}{ps:List Str}{T:Addr}{oc:Value}{od:Option Addr}{osl:Array (Option Value)}{items:Array Value}{n:Nat}(hd:fd.defaults=.ref T)(l:K.lookup T=some ⟨oc,od,.seq items n,osl⟩)
 (h:∀us:List Value,us.length=ps.length->∃k,bindArgs fd ⟨us,[]⟩=seqItems? fd.defaults >>= k/\k (some items)=pure (ps.zip us)):Binds K fd ps []:=λs us X hl=>by
 rw[List.append_nil]at hl ⊢;obtain⟨k,h1,h2⟩:=h us hl;exact BindsTo.of_defaults hd (X _ _ l) rfl h1 h2
end
section
variable{K:au}{Z:Anc}{O:List Nat}{σ:St}{H R H' R':Hp}{ρ:aB}{l:Addr}
theorem StR.extS(S:StR K Z O σ H R ρ)(x:ExtS l H R H' R')(n:∀i,i∈O->σ[i]? ≠some (some (.ref l)))(z:Z.H0 l=none):StR K Z O σ H' R' ρ:=by
 refine⟨x.s,S.len,λi d hi e=>?_,λi hi=>?_,S.dis,λa o e nl=>?_,S.ar.trans x.r,λa h=>?_,λa h=>(S.ad a h).trans (x.d a (S.ad a h).1),S.ao,S.ap⟩
 ·obtain⟨v,h1,h2⟩:=S.env i d hi e;exact⟨v,h1,h2.mono x.r⟩
 ·obtain⟨m,vs,ds,h1,h2,h3,h4,h5⟩:=S.own i hi;have ml:m≠l:=λq=>n i hi (by rw[<-q];exact h2);refine⟨m,vs,ds,h1,h2,x.h _ _ ml h3,?_,h5.mono x.r⟩;cases q:R' m with
  |none=>rfl
  | some o=>
   rcases x.n m (by rw[q];exact λz=>nomatch z)with w|w
   ·exact absurd h4 w
   ·exact(h5.noF h3 w).elim
 ·exact x.h a o (λq=>by rw[q,z]at e;cases e) (S.ah a o e nl)
 ·rcases x.n a h with w|w
  ·exact S.an a w
  ·exact .inr (w.back (S.ad a))
def pY(f:List D->List D->Option (D×List D))(fn fs:aT):aJ:=λρ=>match fn ρ with
 | some (xs,ρ1)=>(match fs ρ1 with
  | some (ds,ρ2)=>(match f xs ds with
   |some (d,_)=>some (d,ρ2)
   |none=>none)
  |none=>none)
 |none=>none
theorem qhs{n:Nat}{f:List D->List D->Option (D×List D)}{te:TE}{tr:TA}{fn fs:aT}{E:XK}(hf:pk n f)(hn:MN K O te fn)(ha:MA K O tr fs):ME K O (mh (mf K false n f) [] E (jL te tr)) (pY f fn fs):=λZ σ H R ρ d ρ' Q S e k=>by
 unfold pY at e;split at e
 ·rename_i xs ρ1 e1;split at e
  ·rename_i ds ρ2 e2;split at e
   ·rename_i d' ys e3;cases e;refine hn Z σ H R ρ xs ρ1 _ S e1 λl us H1 R1 S1 st1 h0 hH hR r1=>?_;refine ha Z σ H1 R1 ρ1 ds _ _ S1 e2 λws H2 R2 S2 st2 r2=>?_;have no:∀i,i∈O->σ[i]? ≠some (some (.ref l)):=S.notnew h0;have hH2:=st2.h _ _ hH no;have hR2:R2 l=none:=by
     cases q:R2 l with
     |none=>rfl
     | some o=>
      rcases st2.n l (by rw[q];exact λz=>nomatch z)with w|w|⟨zs,w⟩
      ·exact absurd hR w
      ·rw[hH]at w;cases w
      ·rw[hH]at w;cases w
    show mf K false n f ((.ref l::ws)++[]) H2 Q E;rw[List.append_nil];have za:=hf xs ds _ e3;refine⟨by rw[jl,r2.length];exact za,l,ws,R2,us,xs,ds,d,ys,rfl,hH2,hR2,S2.sub,r1.mono st2.r,r2,e3,λv H3 R3 us' x h3 hr3 ru res=>?_⟩;refine k v H3 R3 (S2.extS x no (S.new0 h0)) ⟨(st1.r.trans st2.r).trans x.r,λa o e no'=>?_,λa h=>?_,λa h=>?_⟩ res
    ·exact x.h _ _ (λq=>by rw[q,h0]at e;cases e) (st2.h _ _ (st1.h _ _ e no') no')
    ·rcases x.n a h with w|w
     ·exact(st1.trans st2).n a w
     ·exact .inr (w.back ((st1.trans st2).d a))
    ·exact((st1.trans st2).d a h).trans (x.d a ((st1.trans st2).d a h).1)
   ·cases e
  ·cases e
 ·cases e
end
theorem FunD.okT{P:Program}{w:World}{K:au}{mg:Str->Option Value}{base:Heap}{x qual:Str}{st:Stmt}{f:Addr}{fd:FuncData}{N ps:List Str}{k j:Nat}{z:Str}{sp:Sp}{u:V}(F:FunD K x qual st f fd)(S:q0n N ps (aN st))(hz:N[j]? =some z)(nv:¬km (aN st) z)(len:∀vs H Q E,sp vs H Q E->vs.length=ps.length)
 (ze:∀(cdv:Value) (A:Around) (outer:List Env) (s:Shared) (H:Hp) (vs:List V) (Q:VK) (E:XK),Room k (A.deeper (envOfC qual (aN st) s.heap.objs.size f cdv))->sp vs H Q E->
   ∃t,PSs (eY bB P w K mg base N qual (aN st) f cdv A outer s H E).nox (fJ st) t/\t {nx:=λ_ H'=>Q .non H',rt:=Q} ((aZ N vs).set j (some u)) H):FnOk P w K mg base bB (k+1) f fd ps sp:=by
 refine F.ok S len λcdv A outer s H vs Q E hr hsp=>?_;obtain⟨t,ht,hq⟩:=ze cdv A outer s H vs Q E hr hsp;refine⟨λD σ H=>t D (σ.set j (some u)) H,λz5 s1 σ H1 D I h=>?_,hq⟩;exact ht z5 s1 _ H1 D (I.phantom hz nv) h
section
variable{X:Cx}{tg elt zd:Expr}{ifs:List Expr}{scope:Scope}{pos:Pos}{N N0:List Str}{js:List Nat}{sc:Scope}{wi:TI}{g:TG}{tt:TT}{te:TE}
end
section
variable{X:Cx}{K:au}
def qK(K:au):R2:=λx y H Q=>∃a b ns ms,x=.ref a/\y=.ref b/\SqL K H a (ns.map V.int)/\SqL K H b (ms.map V.int)/\ns.length=ms.length/\Q (.bl (HT.lexLt ns ms)) H
theorem qs6(hK:X.K=K)(hu:X.A.units+64<cLine):OpR X (compareOp .Lt) (qK K):=by subst hK;intro z5 s σ H x y v u Q I rx ry h;obtain⟨a,b,ns,ms,rfl,rfl,h1,h2,hl,k⟩:=h;cases rx;cases ry;obtain⟨its,rv,p,_⟩:=I.list h1;obtain⟨its2,rv2,p2,_⟩:=I.list h2;exact FF p.isList p2.isList (dN rv) (dN rv2) hl (by omega) ⟨.bl _,H,I,rfl,k⟩
def jB(d e:D):Option D:=match d,e with
 | .lst xs,.lst ys=>(match eF xs,eF ys with
  |some ns,some ms=>if ns.length=ms.length then some (.bl (HT.lexLt ns ms))else none
  |_,_=>none)
 |_,_=>none
theorem qs5:OpS K (qK K) jB:=λH x y d e u Q rx ry q k=>by
 unfold jB at q;split at q
 ·rename_i xs ys;split at q
  ·rename_i ns ms e1 e2;split at q
   ·rename_i hl;cases q;obtain⟨a,vs,rfl,h,r⟩:=rx.isL;obtain⟨b,ws,rfl,h',r'⟩:=ry.isL;have ex:=mS r e1;have ey:=mS r' e2;subst ex ey;exact⟨a,b,ns,ms,rfl,rfl,h,h',hl,k _ (.bl _)⟩
   ·cases q
  ·cases q
 ·cases q
theorem qv0{x y:List Int}(h:x.length=y.length):jB (.lst (x.map D.int)) (.lst (y.map D.int))=some (.bl (HT.lexLt x y)):=by unfold jB;simp only[gN];exact if_pos h
end
theorem Fn{K:au}{c P:Addr}{o:Obj}{vs:Array Value}{file:Str}{tf:Tok}{flags:Int}{tg:Tok}{inF:Bool}{text:Int}{tt:Tok}(h:K.lookup c=some o)(h1:o.cls=.type "code")(h2:o.data=.fields vs)(h3:vs[11]? =some (.ref P))(h4:vs.getD 11 .none=.ref P)(h5:vs.getD 18 .none=.str file tf)(h6:vs.getD 7 .none=.int flags tg)(h7:vs.getD 9 .none=.bool inF)(h8:vs.getD 10 .none=.int text tt)(h9:c≠P):∀h:Heap,K.In h->W.CodeHd h c P:=
 λ_ X=>⟨o,vs,file,tf,flags,tg,inF,text,tt,X _ _ h,h1,h2,h3,h4,h5,h6,h7,h8,h9⟩
theorem q9p{K:au}{mg:Str->Option Value}{P bm:Addr}(hm:mg "__builtins__"=some (.ref bm))(h:K.lookup bm=some {cls:=.type "module",dict:=some builtinsNs,data:=.plain})(n1:bm≠builtinsNs)(n2:bm≠mainGlobals)(n3:bm≠P):∀h:Heap,K.In h->h.BuiltinsAt mg P:=
 λ_ X=>⟨bm,_,hm,n1,n2,n3,X _ _ h,rfl,rfl,rfl⟩
def sX(K:au)(P:Addr)(lp:Pos)(q:Str)(n:Nat):Sp:=λvs H Q _=>∃(b:Addr) (ns:List Int),vs=[.ref b]/\SqL K H b (ns.map V.int)/\ns.length<=n/\H P=some (.lam lp q)/\∀H',H' P=some (.lam lp q)->Q (.bl true) H'
theorem qoo{P:Program}{w:World}{K:au}{mg:Str->Option Value}{base:Heap}{CX:il}{k n:Nat}{fa:Addr}{fd:FuncData}{x:Str}{P0:Addr}{lp:Pos}{q:Str}{f:List D->Option D}(F:FnOk P w K mg base CX k fa fd [x] (fT K P0 lp q 1 f))(h:∀ns:List Int,ns.length<=n->f [.lst (ns.map D.int)]=some (.bl true)):FnOk P w K mg base CX k fa fd [x] (sX K P0 lp q n):=
 F.imp λvs H Q E h0=>by obtain⟨b,ns,rfl,hb,hl,hP,k⟩:=h0;refine⟨rfl,H,[.lst (ns.map D.int)],.bl true,λ_ _ e=>e,hP,.cons (.lst hb (Rps.ints ns)) .nil,h ns hl,λv H' R' x r=>?_⟩;have r':Rp K R' v (.bl true):=r;cases r';exact k H' (x.s _ _ (x.r _ _ hP))
theorem qi0{P:Program}{w:World}{K:au}{mg mb:Str->Option Value}{k n:Nat}{fa a c P0:Addr}{lp:Pos}{q:Str}{fd:FuncData}{x:Str}{s₁:Shared}{vs:List Value}{ns:List Int}
 (KX:K.In s₁.heap) (hns:s₁.heap.Ns mainGlobals mg) (hb:s₁.heap.Ns builtinsNs mb) (hbb:∀x:Str,x≠"__name__"->mb x=bootBuiltins x) (hlim:s₁.heap.NoLimit) (hg:s₁.gens=#[])
 (ha:s₁.heap.get? a=some {cls:=.type "list",data:=.seq vs.toArray}) (hi:IntsAre vs ns) (hl:ns.length<=sizeLine) (hn:ns.length<=n) (hr:Room k callerA)
 (hP:s₁.heap.get? P0=some {cls:=.none,data:=.fields #[]}) (hKP:K.lookup P0=none) (hcd:W.CodeHd s₁.heap c P0)
 (F:∀base:Heap,K.In base->base.Ns mainGlobals mg->FnOk P w K mg base bB k fa fd [x] (sX K P0 lp q n)) (zz:∀(s:Shared) (u:Value),BindsTo s fd ⟨[u],[]⟩ [(x,u)]):
 codeAny (model P w) callerA (.call (.ref fa) ⟨[.ref a],[]⟩) (λr s'=>r=.ok (.ret (.bool true))/\OldK s₁.heap s'.heap/\s'.os=s₁.os/\AllBare s'.gens) s₁:=by
 have rv:=FM hi;have lenV:=hi.length;have naP:a≠P0:=λz=>by rw[z,hP]at ha;cases ha
 have core:∀H:Hp,(∀b,H b=none∨(b=P0/\H b=some (.lam lp q))∨∃o xs,H b=some (.frz o (.lst xs)))->H P0=some (.lam lp q)->SqL K H a (ns.map V.int)->HOk P w H s₁.heap->(∀b,H b≠none->b=a∨b=P0)->(H a≠none->K.lookup a=none)->
  codeAny (model P w) callerA (.call (.ref fa) ⟨[.ref a],[]⟩) (λr s'=>r=.ok (.ret (.bool true))/\OldK s₁.heap s'.heap/\s'.os=s₁.os/\AllBare s'.gens) s₁:=by
  intro H hO hH hS hok hA hK;have base_of:∀{b:Addr} {o:Obj},s₁.heap.get? b=some o->H b=none->(fW s₁.heap H).get? b=some o:=λe n=>qko e n;have noA:∀{b:Addr} {o:Obj} {es:Array DictEntry} {ep:Nat},s₁.heap.get? b=some o->o.data=.dict es ep->H b=none:=λ{b o es ep} e d=>by
   cases z:H b with
   |none=>rfl
   | some u=>
    rcases hA b (by rw[z];simp)with e'|e'
    ·subst e';rw[ha]at e;cases e;have d':Data.seq vs.toArray _=Data.dict es ep:=d;cases d'
    ·subst e';rw[hP]at e;cases e;have d':Data.fields _=Data.dict es ep:=d;cases d'
  have nsK:∀{b:Addr} {m:Str->Option Value},s₁.heap.Ns b m->(fW s₁.heap H).Ns b m:=λ{b m} ⟨o,es,ep,e,d,r⟩=>⟨o,es,ep,base_of e (noA e d),d,r⟩;have hKb:K.In (fW s₁.heap H):=λb o e=>base_of (KX b o e) (by
   cases z:H b with
   |none=>rfl
   | some u=>
    rcases hA b (by rw[z];simp)with e'|e'
    ·subst e';rw[hK (by rw[z];simp)]at e;cases e
    ·subst e';rw[hKP]at e;cases e)
  have hM:Mod K mg (fW s₁.heap H):=⟨hKb,nsK hns,⟨mb,nsK hb,hbb⟩,let ⟨mc,h1,h2⟩:=hlim;⟨mc,nsK h1,h2⟩⟩;have e0:Env0 P w K mg (fW s₁.heap H) callerA [] s₁ H:=⟨rfl,hM,λb o e=>qo5 e,Nat.le_of_eq (qi9),trivial,λb hb=>absurd (show b∈([]:List Addr)from hb) (by simp),hok,.of_eq hg⟩;refine codeAny_mono ((F _ hKb (nsK hns)).run callerA [] s₁ H ⟨[.ref a],[]⟩ [.ref a] [.ref a] (λv H'=>v=.bl true/\H' P0=some (.lam lp q)) (λ_ _ _=>False) hr e0 (zz s₁ (.ref a)) (.cons rfl .nil) ⟨a,ns,rfl,hS,hn,hH,λH' h=>⟨rfl,h⟩⟩) λr s' h=>?_;cases r with
  |error e=>exact h.elim
  | ok fl=>
   cases fl with
   |next=>exact False.elim h
   |brk=>exact False.elim h
   |cont=>exact False.elim h
   | ret u=>
    obtain⟨v,H',os,bare,un,hok',r',q',hP'⟩:=h;subst q';obtain rfl:u=Value.bool true:=r';have keep:∀b o,b≠P0->s₁.heap.get? b=some o->s'.heap.get? b=some o:=λb o nb e=>by
     cases z:H b with
     |none=>exact un.keep b o e z (by intro z;exact absurd (show b∈([]:List Addr)from z) (by simp)) (by simp)
     | some u=>
      rcases hO b with z2|⟨z2,_⟩|⟨ob,xs,z2⟩
      ·rw[z]at z2;cases z2
      ·exact absurd z2 nb
      ·have z3:=un.frzs b ob _ z2;obtain⟨e1,_⟩:=hok b _ z2;obtain⟨e2,_⟩:=hok' b _ z3;rw[e]at e1;cases e1;exact e2
    obtain⟨ps,e1,_⟩:=hok' P0 _ hP';refine⟨rfl,⟨λb o e=>?_,λb o e=>?_⟩,os,bare⟩
    ·by_cases z:b=P0
     ·subst z;rw[hP]at e;cases e;obtain⟨oc,cs,_,_,_,_,_,_,_,k1,k2,k3,k4,_⟩:=hcd;exact .inr (.inl ⟨⟨c,oc,cs,k1,k2,k3,k4⟩,rfl,#[],ps,rfl,by rw[Array.empty_append];exact e1⟩)
     ·exact .inl (keep b o z e)
    ·by_cases z:b=P0
     ·rw[z];exact⟨_,e1⟩
     ·exact⟨o,keep b o z e⟩
 have cV:∀H:Hp,ObjOk P w H s₁.heap P0 (.lam lp q):=λH=>⟨#[],hP,by unfold TriplesOk;trivial,.inl (by rfl)⟩;cases hk:K.lookup a with
 | some o=>
  have e:=KX a o hk;rw[ha]at e;cases e;refine core (λb=>if b=P0 then some (.lam lp q)else none) (λb=>?_) (if_pos rfl) (.inr ⟨_,vs.toArray,_,hk,rfl,rfl,rfl,by rw[jt,lenV];exact hl,by simpa using rv⟩) (λb u z=>?_) (λb z=>?_) λz=>absurd (if_neg naP) z
  ·by_cases hb:b=P0
   ·exact .inr (.inl ⟨hb,if_pos hb⟩)
   ·exact .inl (if_neg hb)
  ·by_cases hb:b=P0
   ·have z':=(if_pos hb).symm.trans z;cases z';subst hb;exact cV _
   ·have z':=(if_neg hb).symm.trans z;cases z'
  ·by_cases hb:b=P0
   ·exact .inr hb
   ·exact absurd (if_neg hb) z
 | none=>
  have hHa:(λb=>if b=P0 then some (HO.lam lp q)else if b=a then some (.frz {cls:=.type "list",data:=.seq vs.toArray} (.lst (ns.map V.int)))else none) a=some (.frz {cls:=.type "list",data:=.seq vs.toArray} (.lst (ns.map V.int))):=by dsimp only;rw[if_neg naP,if_pos rfl]
  refine core (λb=>if b=P0 then some (.lam lp q)else if b=a then some (.frz {cls:=.type "list",data:=.seq vs.toArray} (.lst (ns.map V.int)))else none) (λb=>?_) (if_pos rfl) (.inl (.inr ⟨{cls:=.type "list",data:=.seq vs.toArray},hHa⟩)) (λb u z=>?_) (λb z=>?_) λ_=>hk
  ·by_cases hb:b=P0
   ·exact .inr (.inl ⟨hb,if_pos hb⟩)
   ·by_cases hb2:b=a
    ·exact .inr (.inr ⟨_,_,by rw[hb2];exact hHa⟩)
    ·exact .inl (by rw[if_neg hb,if_neg hb2])
  ·by_cases hb:b=P0
   ·have z':=(if_pos hb).symm.trans z;cases z';subst hb;exact cV _
   ·by_cases hb2:b=a
    ·subst hb2;rw[hHa]at z;cases z;exact⟨ha,by rw[j3];exact hl,vs,_,rv,ha⟩
    ·dsimp only at z;rw[if_neg hb,if_neg hb2]at z;cases z
  ·by_cases hb:b=P0
   ·exact .inr hb
   ·by_cases hb2:b=a
    ·exact .inl hb2
    ·rw[if_neg hb,if_neg hb2]at z;exact absurd rfl z
theorem walk_ofL{l:W.OpenLaw}{n k:Nat}{q:Program}{loose:List Str}{XP:(Str->Option Value)->Heap->Prop}{YP:World->Heap->Prop}{d:DefRec}{K:Params->W.Frag}{P0 c:Addr}{lp:Pos}{qn:Str}{x:Str}
 (hn:l.most=some n) (hn2:n<=sizeLine) (hdf:d.params.defaults=[]) (hr:Room k callerA)
 (hY:∀(w:World) (h:Heap),YP w h->(K w.params).In h/\h.get? P0=some {cls:=.none,data:=.fields #[]}) (hKP:∀P,(K P).lookup P0=none) (hcd:∀P (h:Heap),(K P).In h->W.CodeHd h c P0)
 (F:∀(w:World) (mg:Str->Option Value) (fa:Addr) (h:Heap),(K w.params).In h->h.Ns mainGlobals mg->mg d.name=some (.ref fa)->
   ∃fd:FuncData,(∀(s:Shared) (u:Value),BindsTo s fd ⟨[u],[]⟩ [(x,u)])/\
    ∀base:Heap,(K w.params).In base->base.Ns mainGlobals mg->FnOk l.prog w (K w.params) mg base bB k fa fd [x] (sX (K w.params) P0 lp qn n)):
 W.WalkO q loose XP YP l.row.toRowW d [] (λf vs=>PySem.call f vs):=by
 refine Att.attach_call hn hdf λw s₀ s₁ mg mb fa o pm cd doc a vs ns G Y ho hd hcd' hmg hobj zy za hg=>?_;obtain⟨KX,hP⟩:=hY w _ Y;obtain⟨fd,hb,hF⟩:=F w mg fa _ KX G.T.g hmg;exact qi0 KX G.T.g G.T.b G.T.builtins G.T.nolimit hg hobj zy (jr za hn2) za hr hP (hKP _) (hcd _ _ KX) hF hb
section
variable{X:Cx}{K:au}
def CK(K:au):List V->Hp->VK->Prop:=λxs H Q=>∃(p:Addr) (ns:List Int),xs=[.ref p]/\SqL K H p (ns.map V.int)/\ns≠[]/\Q (.int ((c5 ns).getD 0)) H
theorem qf9(hK:X.K=K)(hc:X.calm=true):gB X (.builtin "min") (CK K):=by
 subst hK;intro z5 s σ H xs us Q I r h;obtain⟨p,ns,rfl,hq,hn,k⟩:=h;obtain⟨u,rfl,ru⟩:=cQ r;cases ru;obtain⟨its,rv,pl,hz⟩:=I.list hq;have ln:its.length=ns.length:=by have:=rv.length;simp at this;omega
 have hh:X.A.in1.handled=none:=I.ok.hd hc;have n0:0<ns.length:=List.length_pos_iff.mpr hn;refine qir (its:=its.toArray) (bt:=ub ns) hh pl.isList (by simp;omega) (λi j vi vj s Q E hi hj _ q=>?_) λv s' ev k'=>?_
 ·obtain⟨t,rfl⟩:=lW rv (by simpa using hi);obtain⟨t',rfl⟩:=lW rv (by simpa using hj);exact HT.rcLt_int _ s _ t _ t' _ _ _ _ (q s ⟨λ_ _ e=>e,rfl,rfl,rfl⟩)
 ·rw[jt,ln]at ev;obtain⟨t,rfl⟩:=lW rv (by simpa using ev);refine⟨_,_,vN I k',?_,k⟩;cases ns with
  |nil=>exact absurd rfl hn
  |cons a r=>exact⟨t,rfl⟩
def r8:D->Option D
 | .lst xs=>match eF xs with
  |some ns=>if ns≠[]then some (.int ((c5 ns).getD 0))else none
  |none=>none
 |_=>none
theorem qpr:oa K (CK K) r8:=λH x d u Q r e k=>by
 unfold r8 at e;split at e
 ·obtain⟨p,vs,rfl,h,rs⟩:=r.isL;split at e
  ·rename_i ns z;split at e
   ·rename_i hn;cases e;have ex:=mS rs z;subst ex;exact⟨p,ns,rfl,h,hn,k _ (.int _)⟩
   ·cases e
  ·cases e
 ·cases e
end
end L2
namespace L2
open PySem
theorem qrt{x y z:Int×List Int}(h:cr x y=true)(g:cr y z=true):cr x z=true:=by
 cases q:cr x z with
 |true=>rfl
 | false=>
  have h1:=tH x y z h (kJ g);have h2:=pV q h1;subst h2;rw[kJ h]at g;cases g
theorem qru{x y:Int×List Int}(h:cr x y=true):x≠y:=λz=>by rw[z,tQ]at h;cases h
theorem DJ{x y:Int×List Int}(h:x≠y):cr x y=true∨cr y x=true:=by
 cases q:cr x y with
 |true=>exact .inl rfl
 | false=>
  cases q2:cr y x with
  |true=>exact .inr rfl
  |false=>exact absurd (pV q q2) h
theorem ye:∀{a b:List Int} (c d:List Int),a.length=b.length->HT.lexLt a b=true->HT.lexLt (a++c) (b++d)=true
 |[],[],_,_,_,h=>by cases h
 |[],_::_,_,_,l,_=>by simp at l
 |_::_,[],_,_,l,_=>by simp at l
 | x::xs,y::ys,c,d,l,h=>by
  rw[HT.lexLt_cons]at h;rw[List.cons_append,List.cons_append,HT.lexLt_cons];by_cases q:x=y
  ·rw[if_pos q]at h ⊢;exact ye c d (by simpa using l) h
  ·rw[if_neg q]at h ⊢;exact h
theorem yj{α:Type}[DecidableEq α]:∀{F T:List α},F.Nodup->(∀x∈F,x∈T)->F.length<=T.length
 |[],_,_,_=>Nat.zero_le _
 | x::F,T,nd,h=>by have hx:=h x ja;obtain⟨n1,n2⟩:=List.nodup_cons.mp nd;have h2:=yj (F:=F) (T:=T.erase x) n2 λy hy=>(List.mem_erase_of_ne λz=>n1 (by rw[<-z];exact hy)).mpr (h y (j9 _ hy));rw[List.length_erase_of_mem hx]at h2;have:=List.length_pos_of_mem hx;rw[jl];omega
section
variable(L:List Int->Int)
def cn(b:List Int):Int×List Int:=(L b,b)
abbrev ik(a b:List Int):Prop:=cr (cn L a) (cn L b)=true
def fS(E:List (List Int)):List (List Int):=(iF (E.map (cn L))).map λi=>E.getD i []
def gJ(most:Nat)(E:List (List Int)):List (List Int):=(fS L E).take most
structure Top(most k:Nat)(R:List (List Int)):Prop where
 bits:∀b∈R,ax b/\b.length=k
 up:R.Pairwise (ik L)
 out:∀b,ax b->b.length=k->b∉R->R.length=most/\∀a∈R,ik L a b
def aK(R:List (List Int)):List (List Int):=R.flatMap λb=>[b++[0],b++[1]]
end
section
variable{L:List Int->Int}
theorem xN{a b:List Int}(h:cn L a=cn L b):a=b:=congrArg Prod.snd h
theorem iT{α:Type}(d:α)(E:List α):((List.range E.length).map λi=>E.getD i d)=E:=by
 apply List.ext_getElem?;intro i;by_cases h:i<E.length
 ·rw[jd,xm h,Option.map_some,jc,j8 h];rfl
 ·rw[jw (by simp;omega),jw (by omega)]
theorem FG(E:List (List Int)):(fS L E).Perm E:=by have h:=(mR (E.map (cn L))).map λi=>E.getD i [];rw[j3,iT]at h;exact h
theorem EH{E:List (List Int)}{i:Nat}(h:i<E.length):(E.map (cn L)).getD i (0,[])=cn L (E.getD i []):=by rw[jc,jc,jd,j8 h];rfl
theorem Ep{E:List (List Int)}(nd:E.Nodup):(fS L E).Pairwise (ik L):=by
 unfold fS;rw[List.pairwise_map];have h1:=DP (E.map (cn L));have h2:(iF (E.map (cn L))).Nodup:=(mR _).nodup_iff.mpr List.nodup_range;refine(List.pairwise_and_iff.mpr ⟨h1,h2⟩).imp_of_mem λ{i j} hi hj h=>?_;obtain⟨h3,h4⟩:=h;have li:i<E.length:=by simpa using List.mem_range.mp ((mR _).subset hi)
 have lj:j<E.length:=by simpa using List.mem_range.mp ((mR _).subset hj)
 unfold kM jI at h3;rw[Bool.not_eq_true',EH li,EH lj]at h3;refine(DJ λz=>h4 ?_).resolve_right (by rw[h3];decide);have z:=xN z;rw[jc,jc,j8 li,j8 lj]at z;have z:E[i]=E[j]:=z;rcases Nat.lt_trichotomy i j with w|w|w
 ·exact absurd z (List.pairwise_iff_getElem.mp nd i j li lj w)
 ·exact w
 ·exact absurd z.symm (List.pairwise_iff_getElem.mp nd j i lj li w)
theorem qd{R:List (List Int)}(h:R.Pairwise (ik L)):R.Nodup:=List.Pairwise.imp (S:=λa b=>a≠b) (λ{a b} h (z:a=b)=>qru h (congrArg (cn L) z)) h
theorem qne{R:List (List Int)}(h:R.Pairwise (ik L)):fS L R=R:=by refine List.Perm.eq_of_pairwise (le:=ik L) (λa b _ _ h1 h2=>?_) (Ep (qd h)) h (FG R);have h3:cr (cn L b) (cn L a)=true:=h2;rw[kJ h1]at h3;cases h3
theorem qid{R:List (List Int)}{most:Nat}(h:R.Pairwise (ik L))(hm:R.length<=most):gJ L most R=R:=by unfold gJ;rw[qne h,List.take_of_length_le hm]
theorem qnc{most:Nat}:Top L most 0 [[]]:=⟨λb hb=>by rw[List.mem_singleton.mp hb];exact⟨λ_ h=>(nomatch h),rfl⟩,List.pairwise_singleton _ _,λb _ hl h=>by rw[List.eq_nil_of_length_eq_zero hl]at h;exact absurd (List.mem_singleton.mpr rfl) h⟩
theorem mem_both{R:List (List Int)}{x:List Int}:x∈aK R↔∃b∈R,x=b++[0]∨x=b++[1]:=by unfold aK;rw[List.mem_flatMap];simp
theorem yq:∀{R:List (List Int)},R.Nodup->(aK R).Nodup
 |[],_=>List.nodup_nil
 | b::R,nd=>by
  obtain⟨n1,n2⟩:=List.nodup_cons.mp nd;have h:=yq n2;have e:aK (b::R)=(b++[0])::(b++[1])::aK R:=rfl;have ab:∀(x:Int),b++[x]∉aK R:=λx hx=>by
   obtain⟨c,hc,z⟩:=mem_both.mp hx;have:b=c:=by rcases z with z|z<;>exact(List.append_inj z (by have:=congrArg List.length z;simpa using this)).1
   exact n1 (by rw[this];exact hc)
  rw[e];refine List.nodup_cons.mpr ⟨λz=>?_,List.nodup_cons.mpr ⟨ab 1,h⟩⟩;rcases List.mem_cons.mp z with z|z
  ·have:=(List.append_inj z rfl).2;simp at this
  ·exact ab 0 z
theorem qjg{most k:Nat}{R:List (List Int)}(h:Top L most k R)
 (hL:∀b,ax b->b.length=k->L b<=L (b++[0])/\L b<=L (b++[1])/\(L (b++[0])=L b∨L (b++[1])=L b)):Top L most (k+1) (gJ L most (aK R)):=by
 have nE:=yq (qd h.up);have uS:=Ep (L:=L) nE;have pS:=FG (L:=L) (aK R);have eS:fS L (aK R)=gJ L most (aK R)++(fS L (aK R)).drop most:=(List.take_append_drop _ _).symm;have uS':=uS;rw[eS,List.pairwise_append]at uS';obtain⟨uT,_,uX⟩:=uS';have inS:∀x∈gJ L most (aK R),x∈aK R:=λx hx=>pS.subset (by rw[eS];exact List.mem_append_left _ hx);have cut:∀x∈aK R,x∉gJ L most (aK R)->x∈(fS L (aK R)).drop most:=λx hx nx=>by have:=pS.symm.subset hx;rw[eS]at this;exact(List.mem_append.mp this).resolve_left nx
 have bitsE:∀x∈aK R,ax x/\x.length=k+1:=λx hx=>by
  obtain⟨b,hb,z⟩:=mem_both.mp hx;obtain⟨b1,b2⟩:=h.bits b hb;rcases z with rfl|rfl
  ·exact⟨iA b1 λy hy=>.inl (List.mem_singleton.mp hy),by simp[b2]⟩
  ·exact⟨iA b1 λy hy=>.inr (List.mem_singleton.mp hy),by simp[b2]⟩
 refine⟨λb hb=>bitsE b (inS b hb),uT,λx bx lx nx=>?_⟩;have nz:x≠[]:=λz=>by rw[z]at lx;simp at lx
 obtain⟨b,y,ex⟩:∃b y,x=b++[y]:=⟨x.dropLast,x.getLast nz,(List.dropLast_concat_getLast nz).symm⟩;subst ex;have bb:ax b:=λz hz=>bx z (List.mem_append_left _ hz);have lb:b.length=k:=by simpa using lx
 have hy:y=0∨y=1:=bx y (by simp);have leb:L b<=L (b++[y]):=by rcases hy with rfl|rfl;exact(hL b bb lb).1;exact(hL b bb lb).2.1
 by_cases hb:b∈R
 ·have hx:b++[y]∈aK R:=mem_both.mpr ⟨b,hb,by rcases hy with rfl|rfl;exact .inl rfl;exact .inr rfl⟩;have hd:=cut _ hx nx;refine⟨?_,λa ha=>uX a ha _ hd⟩;have:=List.length_pos_of_mem hd;rw[xj]at this;unfold gJ;rw[jz];omega
 ·obtain⟨lr,hr⟩:=h.out b bb lb hb
  let st:List Int->List Int:=λa=>if L (a++[0])=L a then a++[0]else a++[1]
  have st1:∀a∈R,st a∈aK R/\L (st a)=L a/\∃z,st a=a++[z]:=λa ha=>by
   obtain⟨a1,a2⟩:=h.bits a ha;obtain⟨_,_,l3⟩:=hL a a1 a2;show(if L (a++[0])=L a then a++[0]else a++[1])∈aK R/\L (if L (a++[0])=L a then a++[0]else a++[1])=L a/\∃z,(if L (a++[0])=L a then a++[0]else a++[1])=a++[z];by_cases q:L (a++[0])=L a
   ·rw[if_pos q];exact⟨mem_both.mpr ⟨a,ha,.inl rfl⟩,q,0,rfl⟩
   ·rw[if_neg q];exact⟨mem_both.mpr ⟨a,ha,.inr rfl⟩,l3.resolve_left q,1,rfl⟩
  have stlt:∀a∈R,ik L (st a) (b++[y]):=λa ha=>by
   obtain⟨_,s2,z,s3⟩:=st1 a ha;obtain⟨a1,a2⟩:=h.bits a ha;have g:=hr a ha;unfold ik cr lQ cn at g ⊢;simp only at g ⊢;rw[s2];by_cases q:L a=L b
   ·rw[if_pos q]at g;by_cases q2:L a=L (b++[y])
    ·rw[if_pos q2,s3];exact ye _ _ (by rw[a2,lb]) g
    ·rw[if_neg q2];simp;omega
   ·rw[if_neg q]at g;simp at g;rw[if_neg (by omega)];simp;omega
  have nF:(R.map st).Nodup:=by show List.Pairwise (λa b=>a≠b) (R.map st);rw[List.pairwise_map];refine(qd h.up).imp_of_mem λ{a c} ha hc ne z=>ne ?_;obtain⟨_,_,z1,e1⟩:=st1 a ha;obtain⟨_,_,z2,e2⟩:=st1 c hc;rw[e1,e2]at z;exact(List.append_inj z (by have:=congrArg List.length z;simpa using this)).1
  have inF:∀f∈R.map st,f∈aK R/\ik L f (b++[y]):=λf hf=>by obtain⟨a,ha,rfl⟩:=List.mem_map.mp hf;exact⟨(st1 a ha).1,stlt a ha⟩
  have lF:(R.map st).length=most:=by rw[j3,lr]
  have lT:(gJ L most (aK R)).length=most:=by have:=yj nF λf hf=>pS.symm.subset (inF f hf).1;unfold gJ;rw[jz];omega
  refine⟨lT,λa ha=>?_⟩;have ne:cn L a≠cn L (b++[y]):=λz=>nx (by rw[<-xN z];exact ha);rcases DJ ne with g|g
  ·exact g
  ·exfalso;have sub:∀f∈a::R.map st,f∈gJ L most (aK R):=λf hf=>by
    rcases List.mem_cons.mp hf with rfl|hf
    ·exact ha
    ·by_cases q:f∈gJ L most (aK R)
     ·exact q
     ·obtain⟨i1,i2⟩:=inF f hf;have h1:=uX a ha f (cut f i1 q);have h2:cr (cn L f) (cn L a)=true:=qrt i2 g;rw[kJ h1]at h2;cases h2
   have na:a∉R.map st:=λhf=>by have h2:cr (cn L a) (cn L (b++[y]))=true:=(inF a hf).2;rw[kJ g]at h2;cases h2
   have:=yj (List.nodup_cons.mpr ⟨na,nF⟩) sub;rw[jl,lF,lT]at this;omega
def c9(L:List Int->Int)(most:Nat):Nat->List (List Int)
 |0=>[[]]
 |k+1=>gJ L most (aK (c9 L most k))
theorem E9{most:Nat}(k:Nat):(c9 L most (k+1)).length<=most:=List.length_take_le _ _
theorem xD{most n:Nat}(hL:∀b,ax b->b.length<n->L b<=L (b++[0])/\L b<=L (b++[1])/\(L (b++[0])=L b∨L (b++[1])=L b)):∀k,k<=n->Top L most k (c9 L most k)
 |0,_=>qnc
 |k+1,h=>qjg (xD hL k (by omega)) λb hb hk=>hL b hb (by omega)
end
end L2
namespace L2
open PySem
def eK:List Sx->Int->Int->List Int->Int×Int
 |st::rest,z6,c,b::bs=>eK rest ((cy st z6).getD b.toNat (0,0)).1 (c+((cy st z6).getD b.toNat (0,0)).2) bs
 |[],z6,c,_=>(z6,c)
 |_::_,z6,c,[]=>(z6,c)
theorem tR(steps:List Sx)(z6 c:Int):eK steps z6 c []=(z6,c):=by cases steps<;>rfl
theorem FO:∀(steps:List Sx) (z6 c:Int) (bs:List Int) (x:Int),bs.length<steps.length->eK steps z6 c (bs++[x])=
 (((cy (steps.getD bs.length []) (eK steps z6 c bs).1).getD x.toNat (0,0)).1,(eK steps z6 c bs).2+((cy (steps.getD bs.length []) (eK steps z6 c bs).1).getD x.toNat (0,0)).2)
 |[],_,_,_,_,h=>by simp at h
 | st::rest,z6,c,[],x,h=>by show eK rest _ _ []=_;rw[tR];rfl
 | st::rest,z6,c,b::bs,x,h=>by show eK rest _ _ (bs++[x])=_;rw[FO rest _ _ bs x (by simpa using h)];rfl
theorem OkS.drop{M:Nat}:∀{steps:List Sx} {n:Nat} (k:Nat),OkS M n steps->OkS M (n-k) (steps.drop k)
 |_,_,0,h=>h
 |[],_,_+1,_=>True.intro
 | _::_,n,k+1,h=>by have:=OkS.drop k h.2.2;rw[show n-1-k=n-(k+1)from by omega]at this;exact this
theorem tY{M:Nat}{ends:Rw}{us:List Int}:∀(steps:List Sx) (n:Nat) (z6 c:Int) (bs:List Int),OkS M n steps->bs.length<=n->n<=steps.length->ax bs->(0<=z6/\z6.toNat<M)->
 (0<=(eK steps z6 c bs).1/\(eK steps z6 c bs).1.toNat<M)/\(d8 steps ends z6 (bs++us)).map (λx=>c+x)=(d8 (steps.drop bs.length) ends (eK steps z6 c bs).1 us).map λx=>(eK steps z6 c bs).2+x
 | steps,n,z6,c,[],_,_,_,_,hr=>by rw[tR];exact⟨hr,rfl⟩
 |[],n,_,_,b::bs,_,h1,h2,_,_=>by simp at h1 h2;omega
 | st::rest,n,z6,c,b::bs,ok,h1,h2,hb,hr=>by
  obtain⟨o1,o2,o3⟩:=ok;have h1':bs.length+1<=n:=by simpa using h1
  have h2':n<=rest.length+1:=by simpa using h2
  have hlt:z6.toNat<st.length:=by rw[o1];exact hr.2
  have es:st[z6.toNat]? =some st[z6.toNat]:=j8 hlt;obtain⟨c1,c2⟩:=o2 _ (xk hlt);rw[if_neg (by omega)]at c1;obtain⟨q0,q1,eq⟩:=two_of c1;have ech:cy st z6=[q0,q1]:=by rw[tT es,eq]
  have key:∀q,[q0,q1][b.toNat]? =some q->((0<=(eK (st::rest) z6 c (b::bs)).1/\(eK (st::rest) z6 c (b::bs)).1.toNat<M)/\(d8 (st::rest) ends z6 (b::bs++us)).map (λx=>c+x)=(d8 ((st::rest).drop (b::bs).length) ends (eK (st::rest) z6 c (b::bs)).1 us).map λx=>(eK (st::rest) z6 c (b::bs)).2+x):=λq e=>by
   have hq:=c2 q (by rw[eq];exact xi e);obtain⟨g1,g2⟩:=tY (us:=us) (ends:=ends) rest (n-1) q.1 (c+q.2) bs o3 (by omega) (by omega) (λx hx=>hb x (j9 _ hx)) hq;have ew:eK (st::rest) z6 c (b::bs)=eK rest q.1 (c+q.2) bs:=by show eK rest ((cy st z6).getD b.toNat (0,0)).1 _ bs=_;rw[ech,jc,e];rfl
   rw[ew,jl,List.drop_succ_cons,<-g2,List.cons_append,yk,ech,e];refine⟨g1,?_⟩;simp only[Option.map_map];congr 1;funext x;show c+(q.2+x)=c+q.2+x;omega
  rcases hb b ja with rfl|rfl
  ·exact key q0 rfl
  ·exact key q1 rfl
theorem qez{α:Type}(d:α)(xs:List α)(k:Nat):(xs.drop k).headD d=xs.getD k d:=by rw[jc,List.headD_eq_head?_getD,List.head?_drop]
section
variable(r:Int)(U:List Int)(G:List (List Int))(e:Str)(ts:List Told)(n:Nat)
def aV(s:Int)(b:List Int):Int×Int:=eK (bZ r U G ts n 0 (n+az r e)) s 0 b
def cE(s:Int)(b:List Int):Option Int:=(dR ((dc r U G e ts n s).getD b.length []) (aV r U G e ts n s b).1).map λx=>(aV r U G e ts n s b).2+x
def sL(b:List Int):List Int:=(ck r e).filterMap λs=>cE r U G e ts n s b
def cH(b:List Int):Int:=(c5 (sL r U G e ts n b)).getD 0
end
section
variable{r:Int}{U:List Int}{G:List (List Int)}{e:Str}{ts:List Told}{n:Nat}
theorem jV:(bZ r U G ts n 0 (n+az r e)).length=n+az r e:=by unfold bZ;rw[j3,List.length_range']
theorem gA{s:Int}{k:Nat}(h:k<=n):(dc r U G e ts n s).getD k []=(bT ((bZ r U G ts n 0 (n+az r e)).drop k) (eJ r e s)).headD []:=by unfold dc;rw[<-qez,yy _ _ _ (by rw[jV];omega)]
theorem oJ{s:Int}{b:List Int}(hs:s∈ck r e)(hb:ax b)(hl:b.length<=n):0<=(aV r U G e ts n s b).1/\(aV r U G e ts n s b).1.toNat<2^r.toNat:=by have h1:=t5 hs;have h4:=gn (r:=r);exact(tY (us:=[]) (ends:=[]) _ n s 0 b (oM (n:=n) (n+az r e) 0) hl (by rw[jV];omega) hb ⟨h1.1,by omega⟩).1
theorem Fa{s:Int}{b:List Int}(x:Int)(hl:b.length<n):aV r U G e ts n s (b++[x])=
 (((cy (stepK r U G ts n b.length) (aV r U G e ts n s b).1).getD x.toNat (0,0)).1,(aV r U G e ts n s b).2+((cy (stepK r U G ts n b.length) (aV r U G e ts n s b).1).getD x.toNat (0,0)).2):=by
 have es:(bZ r U G ts n 0 (n+az r e)).getD b.length []=stepK r U G ts n b.length:=by unfold bZ;rw[jc,jd,List.getElem?_range' (by omega)];simp
 unfold aV;rw[FO _ _ _ _ _ (by rw[jV];omega),es]
theorem xJ{s c:Int}{b:List Int}(hs:s∈ck r e)(hb:ax b)(hl:b.length<=n)(hr:e="ring"->r.toNat<=n)(hen:e="open"∨e="ended"∨e="ring")(ht:ts.length=(bn U G (n+az r e)).length)(h:cE r U G e ts n s b=some c):
 ∃w,ax w/\w.length=n/\b<+:w/\bG r e w=s/\fB r U G e ts w=c:=by
 have h1:=t5 hs;have h4:=gn (r:=r);have ok:=oM (r:=r) (U:=U) (G:=G) (ts:=ts) (n:=n) (n+az r e) 0;unfold cE at h;rw[gA hl]at h;obtain⟨m,hm,em⟩:=Option.map_eq_some_iff.mp h;obtain⟨g1,g2,g3,_⟩:=tU (2^r.toNat) _ (n-b.length) (eJ r e s) (aV r U G e ts n s b).1 m (OkS.drop b.length ok) (by rw[xj,jV];omega) (oJ hs hb hl) hm;have ez:jP (((bZ r U G ts n 0 (n+az r e)).drop b.length).length-(n-b.length))=List.replicate (az r e) 0:=by rw[xj,jV,show n+az r e-b.length-(n-b.length)=az r e from by omega];rfl
 rw[ez]at g3;have g:=(tY (ends:=eJ r e s) (us:=hG (n-b.length) ((bZ r U G ts n 0 (n+az r e)).drop b.length) (bT ((bZ r U G ts n 0 (n+az r e)).drop b.length) (eJ r e s)) (aV r U G e ts n s b).1++List.replicate (az r e) 0) _ n s 0 b ok hl (by rw[jV];omega) hb ⟨h1.1,by omega⟩).2;have g3':d8 (List.drop b.length (bZ r U G ts n 0 (n+az r e))) (eJ r e s) (eK (bZ r U G ts n 0 (n+az r e)) s 0 b).1 _=_:=g3;rw[g3',<-List.append_assoc]at g;have bw:ax (b++hG (n-b.length) ((bZ r U G ts n 0 (n+az r e)).drop b.length) (bT ((bZ r U G ts n 0 (n+az r e)).drop b.length) (eJ r e s)) (aV r U G e ts n s b).1):=iA hb g1;have lw:(b++hG (n-b.length) ((bZ r U G ts n 0 (n+az r e)).drop b.length) (bT ((bZ r U G ts n 0 (n+az r e)).drop b.length) (eJ r e s)) (aV r U G e ts n s b).1).length=n:=by rw[je,g2];omega
 obtain⟨c',hc,ec⟩:=Option.map_eq_some_iff.mp g;obtain⟨p1,p2⟩:=qgy hs bw lw hr hen ht hc;refine⟨_,bw,lw,List.prefix_append _ _,p1.symm,?_⟩;have ec:0+c'=(aV r U G e ts n s b).2+m:=ec;rw[<-p2,<-em];omega
theorem De{w b:List Int}(hw:ax w)(lw:w.length=n)(hp:b<+:w)(hr:e="ring"->r.toNat<=n)(hen:e="open"∨e="ended"∨e="ring")(ht:ts.length=(bn U G (n+az r e)).length):
 ∃m,cE r U G e ts n (bG r e w) b=some m/\m<=fB r U G e ts w:=by
 obtain⟨u,rfl⟩:=hp;have hs:=F5 (r:=r) (e:=e) hw (by rw[lw];exact hr);have h1:=t5 hs;have h4:=gn (r:=r);have hl:b.length<=n:=by rw[<-lw,je];omega
 have hb:ax b:=λx hx=>hw x (List.mem_append_left _ hx);have p:=FP (U:=U) (G:=G) hw lw hr hen ht;rw[List.append_assoc]at p;have g:=(tY (ends:=eJ r e (bG r e (b++u))) (us:=u++List.replicate (az r e) 0) _ n (bG r e (b++u)) 0 b (oM (r:=r) (U:=U) (G:=G) (ts:=ts) (n:=n) (n+az r e) 0) hl (by rw[jV];omega) hb ⟨h1.1,by omega⟩).2;rw[p]at g;obtain⟨c,hc,ec⟩:=Option.map_eq_some_iff.mp g.symm;obtain⟨m,hm,le⟩:=xG _ _ _ _ _ hc;unfold cE;rw[gA hl];refine⟨(aV r U G e ts n (bG r e (b++u)) b).2+m,Option.map_eq_some_iff.mpr ⟨m,hm,rfl⟩,?_⟩;have ec:(aV r U G e ts n (bG r e (b++u)) b).2+c=0+fB r U G e ts (b++u):=ec;omega
section
variable(hr:e="ring"->r.toNat<=n)(hen:e="open"∨e="ended"∨e="ring")(ht:ts.length=(bn U G (n+az r e)).length)
include hr hen ht
theorem qb{b:List Int}(hb:ax b)(hl:b.length<=n):c5 (sL r U G e ts n b)=some (cH r U G e ts n b)/\
 (∃w,ax w/\w.length=n/\b<+:w/\fB r U G e ts w=cH r U G e ts n b)/\∀w,ax w->w.length=n->b<+:w->cH r U G e ts n b<=fB r U G e ts w:=by
 have lo:∀w,ax w->w.length=n->b<+:w->∃m∈sL r U G e ts n b,m<=fB r U G e ts w:=λw bw lw pw=>by obtain⟨m,h1,h2⟩:=De (U:=U) (G:=G) bw lw pw hr hen ht;exact⟨m,List.mem_filterMap.mpr ⟨_,F5 bw (by rw[lw];exact hr),h1⟩,h2⟩
 obtain⟨m0,hm0,_⟩:=lo (b++List.replicate (n-b.length) 0) (iA hb (lU _)) (by rw[je,ji];omega) (List.prefix_append _ _);cases q:c5 (sL r U G e ts n b)with
 |none=>rw[yi q]at hm0;cases hm0
 | some m=>
  have el:cH r U G e ts n b=m:=by unfold cH;rw[q];rfl
  rw[el];obtain⟨h1,h2⟩:=tw q;obtain⟨s,hs,es⟩:=List.mem_filterMap.mp h1;obtain⟨w,w1,w2,w3,_,w5⟩:=xJ hs hb hl hr hen ht es;refine⟨rfl,⟨w,w1,w2,w3,w5⟩,λw bw lw pw=>?_⟩;obtain⟨x,hx,le⟩:=lo w bw lw pw;have:=h2 x hx;omega
theorem F7{w:List Int}(hw:ax w)(lw:w.length=n):cH r U G e ts n w=fB r U G e ts w:=by obtain⟨_,⟨v,_,v2,v3,v4⟩,_⟩:=qb hr hen ht hw (by omega);have:w=v:=v3.eq_of_length (by omega);rw[<-v4,this]
theorem F6{b:List Int}(hb:ax b)(hl:b.length<n):cH r U G e ts n b<=cH r U G e ts n (b++[0])/\cH r U G e ts n b<=cH r U G e ts n (b++[1])/\(cH r U G e ts n (b++[0])=cH r U G e ts n b∨cH r U G e ts n (b++[1])=cH r U G e ts n b):=by
 have b0:ax (b++[0]):=iA hb λy hy=>.inl (List.mem_singleton.mp hy);have b1:ax (b++[1]):=iA hb λy hy=>.inr (List.mem_singleton.mp hy);obtain⟨_,⟨w,w1,w2,w3,w4⟩,hm⟩:=qb hr hen ht hb (by omega);obtain⟨_,⟨u,u1,u2,u3,u4⟩,hu⟩:=qb hr hen ht b0 (by simp;omega);obtain⟨_,⟨v,v1,v2,v3,v4⟩,hv⟩:=qb hr hen ht b1 (by simp;omega);have l0:=hm u u1 u2 ((List.prefix_append _ _).trans u3);have l1:=hm v v1 v2 ((List.prefix_append _ _).trans v3);refine⟨by omega,by omega,?_⟩;obtain⟨t,et⟩:=w3;cases t with
 |nil=>rw[List.append_nil]at et;rw[<-et]at w2;omega
 | cons y t=>
  have et:w=(b++[y])++t:=by rw[<-et];simp
  rcases w1 y (by rw[et];simp)with z|z
  ·subst z;have:=hu w w1 w2 ⟨t,et.symm⟩;exact .inl (by omega)
  ·subst z;have:=hv w w1 w2 ⟨t,et.symm⟩;exact .inr (by omega)
theorem qfc{s:Int}{b:List Int}{x:Int}(hs:s∈ck r e)(hb:ax (b++[x]))(hl:b.length<n)(h:cE r U G e ts n s (b++[x])≠none):cE r U G e ts n s b≠none:=by
 cases q:cE r U G e ts n s (b++[x])with
 |none=>exact absurd q h
 | some c=>
  obtain⟨w,w1,w2,w3,w4,_⟩:=xJ hs hb (by simp;omega) hr hen ht q;obtain⟨m,h1,_⟩:=De (U:=U) (G:=G) w1 w2 ((List.prefix_append _ _).trans w3) hr hen ht;rw[w4]at h1;rw[h1];simp
theorem qqh(hn:1<=n)(h0:fB r U G e ts (List.replicate n 0)=0)(hp:∀w,ax w->w.length=n->0<=fB r U G e ts w):
 ∃w,c9 (cH r U G e ts n) 2 n=[List.replicate n 0,w]/\ax w/\w.length=n/\w≠List.replicate n 0/\∀x,ax x->x.length=n->x≠List.replicate n 0->cr (fB r U G e ts x,x) (fB r U G e ts w,w)=false:=by
 have T:=xD (L:=cH r U G e ts n) (most:=2) (n:=n) (λb hb hl=>F6 hr hen ht hb hl) n (j7 _);have kw:∀w,ax w->w.length=n->cn (cH r U G e ts n) w=(fB r U G e ts w,w):=λw hw lw=>by unfold cn;rw[F7 hr hen ht hw lw]
 have zb:ax (List.replicate n 0):=lU _;have zl:(List.replicate n (0:Int)).length=n:=ji;have zleast:∀w,ax w->w.length=n->cr (fB r U G e ts w,w) (0,List.replicate n 0)=false:=λw hw lw=>by
  unfold cr lQ;simp only;have:=hp w hw lw;by_cases q:fB r U G e ts w=0
  ·rw[if_pos q];have:∀(k:Nat) (u:List Int),ax u->u.length=k->HT.lexLt u (List.replicate k 0)=false:=by
    intro k;induction k with
    |zero=>intro u _ hu;rw[List.eq_nil_of_length_eq_zero hu];rfl
    | succ k ih=>
     intro u bu hu;cases u with
     |nil=>simp at hu
     | cons x xs=>
      rw[List.replicate_succ,HT.lexLt_cons];rcases bu x ja with rfl|rfl
      ·rw[if_pos rfl];exact ih xs (λy hy=>bu y (j9 _ hy)) (by simpa using hu)
      ·rw[if_neg (by decide)];decide
   exact this n w hw lw
  ·rw[if_neg q];simp;omega
 have l2:=E9 (L:=cH r U G e ts n) (most:=2) (n-1);rw[show n-1+1=n from by omega]at l2;generalize c9 (cH r U G e ts n) 2 n=R at T l2;have zin:List.replicate n (0:Int)∈R:=by
  by_cases q:List.replicate n (0:Int)∈R
  ·exact q
  ·obtain⟨l2,hh⟩:=T.out _ zb zl q;cases R with
   |nil=>simp at l2
   | cons a R=>
    have ha:=hh a ja;obtain⟨a1,a2⟩:=T.bits a ja;unfold ik at ha;rw[kw _ a1 a2,kw _ zb zl,h0,zleast a a1 a2]at ha;cases ha
 have one:∃o,ax o/\o.length=n/\o≠List.replicate n 0:=⟨List.replicate n 1,λb hb=>.inr (List.eq_of_mem_replicate hb),ji,λz=>by have:=congrArg List.sum z;obtain⟨k,rfl⟩:∃k,n=k+1:=⟨n-1,by omega⟩;simp[List.replicate_succ]at z⟩
 match R,T,zin,l2 with
 |[],_,zin,_=>cases zin
 | [a],T,zin,_=>
  obtain⟨o,o1,o2,o3⟩:=one;have ea:=List.mem_singleton.mp zin;obtain⟨l2,_⟩:=T.out o o1 o2 (λz=>o3 ((List.mem_singleton.mp z).trans ea.symm));simp at l2
 | a::b::R,T,zin,l2=>
  obtain⟨b1,b2⟩:=T.bits b (by simp);obtain⟨a1,a2⟩:=T.bits a (by simp);have up:=T.up;rw[List.pairwise_cons]at up;have ea:a=List.replicate n 0:=by
   rcases List.mem_cons.mp zin with z|z
   ·exact z.symm
   ·have:=up.1 _ z;unfold ik at this;rw[kw _ a1 a2,kw _ zb zl,h0,zleast a a1 a2]at this;cases this
  have nb:b≠List.replicate n 0:=λz=>by have:=up.1 b (by simp);rw[z,ea]at this;unfold ik at this;rw[tQ]at this;cases this
  cases R with
  | nil=>
   refine⟨b,by rw[ea],b1,b2,nb,λx x1 x2 x3=>?_⟩;by_cases q:x=b
   ·rw[q,tQ]
   ·obtain⟨_,hh⟩:=T.out x x1 x2 (by simp[ea,x3,q]);have:=hh b (by simp);unfold ik at this;rw[kw _ b1 b2,kw _ x1 x2]at this;exact kJ this
  | cons c R=>
   simp at l2
end
end
end L2
namespace K27
open PySem L2
local macro_rules|`(tactic|walk_at "ev")=>`(tactic|simp[gv,aM,cK,qui,eU,Di,Dg,quk,qpc,qpb,quo,wH,qul,qur,qx3,qpl,qpd,qx5,qum,qpi,que,qun,qx4,qpk,ql1,ql0,qpj,qug,D8,qud,qp9,qx2,qkz,D9,qp0,qp2,qp7,quf,qp1,qkx,qkw,qp3,qky,qp4,qp6,qkv,qp5,qpg,eh,Gx,yD,jZ,pb,qF,qt,kN,qA,e9,cT,eQ,kP,qk,oR,cD,lP,bj,bI,iQ,fX,lD,lS,d5,lB,iP,iW,gW,rR,gG,i0,vg,sR,Cu,vf,mo,GA,Gz,at2,at3,fK,fj,kO,D7,Gp,qon,qup,quh,iJ,EF,lN,fY,oj,bJ,eX,jY,qph,Ce,Dh,pF,qpf,quq,qpe,quj,vO, *])
local macro_rules|`(tactic|walk_at "sc")=>`(tactic|exact⟨rfl,rfl,rfl,by decide+kernel,rfl,by decide+kernel,by decide+kernel⟩)
local macro_rules|`(tactic|walk_at "lr")=>`(tactic|first|exact Or.inl rfl|exact Or.inr rfl)
def top(i:Nat):Stmt:=Challenge.pw_trellisway_k27_whole_distance_is_least.main.body.getD i (.Pass ⟨0,0,0,0⟩)
abbrev nh:Stmt:=top 5
theorem qvq:q0n ["reach"] ["reach"] (aN nh):=by walk_at "sc"
abbrev ng:Stmt:=top 6
theorem qvp:q0n ["scheme"] ["scheme"] (aN ng):=by walk_at "sc"
abbrev m9:Stmt:=top 7
theorem sc_y2:q0n ["number","left","odd"] ["number"] (aN m9):=by walk_at "sc"
abbrev kU:Stmt:=top 8
abbrev A0:List Str:=["scheme","room","bit","window","signs"]
theorem sc_y3:q0n A0 ["scheme","room","bit"] (aN kU):=by walk_at "sc"
abbrev kT:Stmt:=top 9
abbrev uj:List Str:=["scheme","number","signs"]
abbrev AZ:List Str:=["scheme","number","signs","rows","row"]
theorem sc_y4:q0n AZ uj (aN kT):=by walk_at "sc"
abbrev m8:Stmt:=top 11
theorem qvo:q0n ["scheme"] ["scheme"] (aN m8):=by walk_at "sc"
abbrev m7:Stmt:=top 12
theorem qvn:q0n ["scheme","size"] ["scheme","size"] (aN m7):=by walk_at "sc"
abbrev m5:Stmt:=top 13
theorem qvm:q0n ["scheme"] ["scheme"] (aN m5):=by walk_at "sc"
abbrev m4:Stmt:=top 14
theorem qvl:q0n ["scheme"] ["scheme"] (aN m4):=by walk_at "sc"
abbrev mZ:Stmt:=top 15
theorem qvk:q0n ["scheme","size"] ["scheme","size"] (aN mZ):=by walk_at "sc"
abbrev wa:Stmt:=top 16
theorem sc_y10:q0n ["scheme","size","signs","places","number"] ["scheme","size"] (aN wa):=by walk_at "sc"
abbrev pq:Stmt:=dX (top 19) 0
theorem qre:q0n ["self","bit"] ["self","bit"] (aN pq):=by walk_at "sc"
abbrev pr:Stmt:=dX (top 19) 2
theorem qrd:q0n ["self","bit"] ["self","bit"] (aN pr):=by walk_at "sc"
abbrev px:Stmt:=dX (top 20) 1
theorem qrc:q0n ["self","bit"] ["self","bit"] (aN px):=by walk_at "sc"
abbrev pz:Stmt:=dX (top 21) 0
theorem qrb:q0n ["self","zero","one"] ["self","zero","one"] (aN pz):=by walk_at "sc"
abbrev pA:Stmt:=dX (top 21) 2
theorem qra:q0n ["self","bit"] ["self","bit"] (aN pA):=by walk_at "sc"
abbrev wb:Stmt:=top 22
theorem qr9:q0n ["told"] ["told"] (aN wb):=by walk_at "sc"
abbrev wc:Stmt:=top 24
abbrev jH:List Str:=["scheme","size","heard"]
theorem sc_y20:q0n ["scheme","size","heard","places"] jH (aN wc):=by walk_at "sc"
abbrev sA:Stmt:=top 25
theorem qr8:q0n ["signs","bits"] ["signs","bits"] (aN sA):=by walk_at "sc"
abbrev sB:Stmt:=top 26
abbrev ux:List Str:=["scheme","size","heard","found","number","told"]
theorem sc_y22:q0n ux jH (aN sB):=by walk_at "sc"
abbrev wd:Stmt:=top 27
abbrev ul:List Str:=["scheme","number","signs","room","bit"]
theorem sc_y23:q0n ["scheme","number","signs","room","bit","led"] ul (aN wd):=by walk_at "sc"
abbrev sC:Stmt:=top 28
abbrev oY:List Str:=["scheme","number","signs","room","bits"]
theorem qr7:q0n oY oY (aN sC):=by walk_at "sc"
abbrev sE:Stmt:=top 29
abbrev Bp:List Str:=["scheme","size","heard","found","number","signs","bits"]
theorem sc_y25:q0n Bp jH (aN sE):=by walk_at "sc"
abbrev sF:Stmt:=top 30
theorem sc_y26:q0n ["scheme","start","end"] ["scheme","start"] (aN sF):=by walk_at "sc"
abbrev wg:Stmt:=top 31
theorem sc_y27:q0n ["taken","behind","rest"] ["taken","behind"] (aN wg):=by walk_at "sc"
abbrev pJ:Stmt:=top 32
abbrev uk:List Str:=["choices","behind","found"]
theorem sc_y28:q0n uk ["choices","behind"] (aN pJ):=by walk_at "sc"
abbrev sG:Stmt:=top 33
abbrev Bj:List Str:=["steps","ends","table","choices_by_room","behind"]
theorem sc_y29:q0n Bj ["steps","ends"] (aN sG):=by walk_at "sc"
abbrev pB:Stmt:=top 34
abbrev nX:List Str:=["scheme","size","heard","start"]
theorem qr6:q0n nX nX (aN pB):=by walk_at "sc"
abbrev wj:Stmt:=top 35
theorem sc_y31:q0n ["scheme","steps","tables","start"] ["scheme","steps"] (aN wj):=by walk_at "sc"
abbrev wk:Stmt:=top 37
abbrev l5:List Str:=["track","tables","number"]
theorem sc_y32:q0n ["track","tables","number","rest"] l5 (aN wk):=by walk_at "sc"
abbrev pK:Stmt:=top 38
abbrev ui:List Str:=["bits","tracks","tables"]
abbrev uu:List Str:=["bits","tracks","tables","number","alive"]
theorem sc_y33:q0n uu ui (aN pK):=by walk_at "sc"
abbrev wl:Stmt:=top 39
abbrev oW:List Str:=["track","bit","choices_by_room"]
theorem sc_y34:q0n ["track","bit","choices_by_room","taken"] oW (aN wl):=by walk_at "sc"
abbrev sH:Stmt:=top 40
abbrev Bi:List Str:=["begun","bit","choices_by_room","tables","tracks"]
abbrev ut:List Str:=["begun","bit","choices_by_room","tables"]
theorem sc_y35:q0n Bi ut (aN sH):=by walk_at "sc"
abbrev wm:Stmt:=top 41
theorem qr5:q0n ["found","most"] ["found","most"] (aN wm):=by walk_at "sc"
abbrev mx:Stmt:=top 42
abbrev rK:List Str:=["scheme","size","heard","most","steps","tables","found","choices_by_room","longer","begun","@t"]
abbrev rD:List Str:=["scheme","size","heard","most"]
theorem sc_few:q0n rK rD (aN mx):=by walk_at "sc"
abbrev wo:Stmt:=top 44
abbrev AW:List Str:=["scheme","size","heard","found","@t"]
theorem sc_y37:q0n AW ["scheme","size"] (aN wo):=by walk_at "sc"
abbrev wq:Stmt:=top 46
theorem qr4:q0n ["_law_script","_law_k"] ["_law_script","_law_k"] (aN wq):=by walk_at "sc"
abbrev wt:Stmt:=top 47
theorem qr3:q0n ["_law_cell","_law_k"] ["_law_cell","_law_k"] (aN wt):=by walk_at "sc"
abbrev wu:Stmt:=top 48
abbrev oV:List Str:=["_law_state_here","_law_many"]
theorem qr2:q0n oV oV (aN wu):=by walk_at "sc"
abbrev pL:Stmt:=top 49
abbrev rH:List Str:=["_law_state_here","_law_most","_law_endings","_law_reach","_law_taps","_law_lines","_law_k"]
abbrev uw:List Str:=["_law_state_here","_law_most","_law_endings"]
theorem sc_y41:q0n rH uw (aN pL):=by walk_at "sc"
abbrev wv:Stmt:=top 50
theorem sc_y42:q0n ["_law_number","_law_odd_here"] ["_law_number"] (aN wv):=by walk_at "sc"
abbrev pM:Stmt:=top 51
abbrev uL:List Str:=["_law_scheme_here","_law_number","_law_room","_law_bit","_law_both","_law_signs","_law_line"]
abbrev uB:List Str:=["_law_scheme_here","_law_number","_law_room","_law_bit"]
theorem sc_y43:q0n uL uB (aN pM):=by walk_at "sc"
abbrev ww:Stmt:=top 52
abbrev nW:List Str:=["_law_scheme_here","_law_word"]
theorem sc_y44:q0n ["_law_scheme_here","_law_word","_law_room","_law_bit"] nW (aN ww):=by walk_at "sc"
abbrev wx:Stmt:=top 53
theorem sc_y45:q0n ["_law_scheme_here","_law_word","_law_bits","_law_room","_law_found","_law_number","_law_signs"] nW (aN wx):=by walk_at "sc"
abbrev wy:Stmt:=top 54
theorem qr1:q0n ["_law_found"] ["_law_found"] (aN wy):=by walk_at "sc"
abbrev sI:Stmt:=top 55
abbrev oU:List Str:=["_law_found","_law_size"]
theorem qqz:q0n oU oU (aN sI):=by walk_at "sc"
abbrev wz:Stmt:=top 56
abbrev uF:List Str:=["_law_scheme_here","_law_table","_law_start_here","_law_bits"]
theorem sc_y48:q0n ["_law_scheme_here","_law_table","_law_start_here","_law_bits","_law_room","_law_total","_law_number","_law_signs"] uF (aN wz):=by walk_at "sc"
abbrev sJ:Stmt:=top 57
abbrev Bn:List Str:=["_law_word","_law_noughts","_law_found","_law_number"]
theorem sc_y49:q0n Bn ["_law_word"] (aN sJ):=by walk_at "sc"
abbrev sK:Stmt:=top 58
abbrev BM:List Str:=["_law_scheme_here","_law_size","_law_many","_law_word","_law_heard","_law_starts","_law_start_here","_law_table","_law_bits","_law_least"]
abbrev uA:List Str:=["_law_scheme_here","_law_size","_law_many","_law_word"]
theorem sc_y50:q0n BM uA (aN sK):=by walk_at "sc"
abbrev ou:Stmt:=top 59
abbrev o5:List Str:=["_law_script","_law_first","_law_scheme_here","_law_size","_law_found","_law_k","_law_state_here","_law_one","_law_other","_law_signs","_law_unlike","@t"]
theorem sc_law:q0n o5 ["_law_script"] (aN ou):=by walk_at "sc"
structure Ad where
 (c_Clear c_Gap c_Soft f_y0 f_y1 f_y2 f_y3 f_y4 f_y5 f_y6 f_y7 f_y8 f_y9 f_y10 f_y11 f_y13 f_y15 f_y16 f_y18 f_y19 f_y20 f_y21 f_y22 f_y23 f_y24 f_y25 f_y26 f_y27 f_y28 f_y29 f_y30 f_y31 f_y32 f_y33 f_y34 f_y35 f_y36 f_few f_y37 f_y38 f_y39 f_y40 f_y41 f_y42 f_y43 f_y44 f_y45 f_y46 f_y47 f_y48 f_y49 f_y50 f_law t_y36 c_y36:Addr)
 (fd_y0 fd_y1 fd_y2 fd_y3 fd_y4 fd_y5 fd_y6 fd_y7 fd_y8 fd_y9 fd_y10 fd_y11 fd_y13 fd_y15 fd_y16 fd_y18 fd_y19 fd_y20 fd_y21 fd_y22 fd_y23 fd_y24 fd_y25 fd_y26 fd_y27 fd_y28 fd_y29 fd_y30 fd_y31 fd_y32 fd_y33 fd_y34 fd_y35 fd_y36 fd_few fd_y37 fd_y38 fd_y39 fd_y40 fd_y41 fd_y42 fd_y43 fd_y44 fd_y45 fd_y46 fd_y47 fd_y48 fd_y49 fd_y50 fd_law:FuncData)
structure Df(K:au)(mg:Str->Option Value)(x:Str)(s:Stmt)(f:Addr)(fd:FuncData)(ps:List Str):Prop where
 F:Fun K x x s f fd
 B:Binds K fd ps []
 m:mg x=some (.ref f)
section
open PySem.Spec PyProof.Rows
variable{P:Program}{w:World}{K:au}{mg:Str->Option Value}{base:Heap}
theorem ba{X:Cx}{k:Nat}{x:Str}{st:Stmt}{f:Addr}{fd:FuncData}{ps:List Str}{sp:Sp}{e:Expr}{es:List Expr}{t:TA}{p pos:Pos}(F:FnOk X.prog X.w X.K X.mg X.base bB k f fd ps sp)(hr:Room k X.A)(D:Df X.K X.mg x st f fd ps)(ha:PA X (e::es) t)(hg:Gl X x:=by rfl)(hdb:(x==("__debug__":Str))=false:=by decide)(he:starEach (e::es) X.env=(false,eval e X.env)::starEach es X.env:=by rfl)(hpl:(backTo pos (starEach es X.env)).any (·.1)=false:=by rfl):PE X (.Call (.Name x p) (e::es) [] pos) (mh sp [] E0 t):=yC F hr hg D.m D.F.kp D.B .nil lX ha hdb he hpl
theorem cV{x qual:Str}{st:Stmt}{f:Addr}{fd:FuncData}{N ps:List Str}{k n m:Nat}{fr:Bool}{b:aB->Option Out}(F:Fun K x qual st f fd)(S:q0n N ps (aN st))(hb:∀(cdv:Value) (A:Around) (outer:List Env) (s:Shared) (H:Hp) (E:XK),Room k (A.deeper (envOfC qual (aN st) s.heap.objs.size f cdv))->∃t,PSs (eY bB P w K mg base N qual (aN st) f cdv A outer s H E).nox (fJ st) t/\MS ⟨K,fr,[],[]⟩ [] [] t b)(hn:n=ps.length:=by rfl)(hm:m=N.length:=by rfl):FnOk P w K mg base bB (k+1) f fd ps (cq K fr n (aM fr n m b)):=by
 subst hn hm;exact F.ok S (λ_ _ _ _ h=>h.1) λcdv A outer s H vs Q E hr h=>by obtain⟨t,h1,h2⟩:=hb cdv A outer s H E hr;exact⟨t,h1,Gu h2 h⟩
end
structure Txt(K:au)(mg:Str->Option Value)(a:Ad):Prop where
 mg_Clear:mg "Clear"=some (.ref a.c_Clear)
 ns_Clear:W.nsIn K mainGlobals "Clear"=some (some (.ref a.c_Clear))
 cl_Clear:Cls K a.c_Clear
 no_Clear_bit:NoAttr K a.c_Clear "bit"
 mg_Gap:mg "Gap"=some (.ref a.c_Gap)
 ns_Gap:W.nsIn K mainGlobals "Gap"=some (some (.ref a.c_Gap))
 cl_Gap:Cls K a.c_Gap
 mg_Soft:mg "Soft"=some (.ref a.c_Soft)
 ns_Soft:W.nsIn K mainGlobals "Soft"=some (some (.ref a.c_Soft))
 cl_Soft:Cls K a.c_Soft
 no_Soft_zero:NoAttr K a.c_Soft "zero"
 no_Soft_one:NoAttr K a.c_Soft "one"
 D_y0:Df K mg "rooms_at" nh a.f_y0 a.fd_y0 ["reach"]
 D_y1:Df K mg "rooms" ng a.f_y1 a.fd_y1 ["scheme"]
 D_y2:Df K mg "parity" m9 a.f_y2 a.fd_y2 ["number"]
 D_y3:Df K mg "step" kU a.f_y3 a.fd_y3 ["scheme","room","bit"]
 D_y4:Df K mg "sent_at" kT a.f_y4 a.fd_y4 uj
 D_y5:Df K mg "is_ring" m8 a.f_y5 a.fd_y5 ["scheme"]
 D_y6:Df K mg "check_size" m7 a.f_y6 a.fd_y6 ["scheme","size"]
 D_y7:Df K mg "bits_behind" m5 a.f_y7 a.fd_y7 ["scheme"]
 D_y8:Df K mg "first_rooms" m4 a.f_y8 a.fd_y8 ["scheme"]
 D_y9:Df K mg "steps_of" mZ a.f_y9 a.fd_y9 ["scheme","size"]
 D_y10:Df K mg "places_of" wa a.f_y10 a.fd_y10 ["scheme","size"]
 F_y11:Fun K "__init__" "Clear.__init__" pq a.f_y11 a.fd_y11
 B_y11:Binds K a.fd_y11 ["self","bit"] []
 F_y13:Fun K "cost" "Clear.cost" pr a.f_y13 a.fd_y13
 B_y13:Binds K a.fd_y13 ["self","bit"] []
 m_y13:Meth K a.c_Clear "cost" a.f_y13
 F_y15:Fun K "cost" "Gap.cost" px a.f_y15 a.fd_y15
 B_y15:Binds K a.fd_y15 ["self","bit"] []
 m_y15:Meth K a.c_Gap "cost" a.f_y15
 F_y16:Fun K "__init__" "Soft.__init__" pz a.f_y16 a.fd_y16
 B_y16:Binds K a.fd_y16 ["self","zero","one"] []
 F_y18:Fun K "cost" "Soft.cost" pA a.f_y18 a.fd_y18
 B_y18:Binds K a.fd_y18 ["self","bit"] []
 m_y18:Meth K a.c_Soft "cost" a.f_y18
 D_y19:Df K mg "sign_of" wb a.f_y19 a.fd_y19 ["told"]
 D_y20:Df K mg "check_heard" wc a.f_y20 a.fd_y20 jH
 D_y21:Df K mg "signs_cost" sA a.f_y21 a.fd_y21 ["signs","bits"]
 D_y22:Df K mg "signs_by_step" sB a.f_y22 a.fd_y22 jH
 D_y23:Df K mg "move" wd a.f_y23 a.fd_y23 ul
 D_y24:Df K mg "moves_from" sC a.f_y24 a.fd_y24 oY
 D_y25:Df K mg "moves" sE a.f_y25 a.fd_y25 jH
 D_y26:Df K mg "end_costs" sF a.f_y26 a.fd_y26 ["scheme","start"]
 D_y27:Df K mg "cost_by" wg a.f_y27 a.fd_y27 ["taken","behind"]
 D_y28:Df K mg "least_by" pJ a.f_y28 a.fd_y28 ["choices","behind"]
 D_y29:Df K mg "ahead_by" sG a.f_y29 a.fd_y29 ["steps","ends"]
 F_y30:FunD K "ahead" "ahead" pB a.f_y30 a.fd_y30
 B_y30:Binds K a.fd_y30 nX []
 mg_y30:mg "ahead"=some (.ref a.f_y30)
 D_y31:Df K mg "ahead_by_start" wj a.f_y31 a.fd_y31 ["scheme","steps"]
 D_y32:Df K mg "cost_of_track" wk a.f_y32 a.fd_y32 l5
 D_y33:Df K mg "beginning" pK a.f_y33 a.fd_y33 ui
 D_y34:Df K mg "track_on" wl a.f_y34 a.fd_y34 oW
 D_y35:Df K mg "beginning_on" sH a.f_y35 a.fd_y35 ut
 D_y36:Df K mg "first_ones" wm a.f_y36 a.fd_y36 ["found","most"]
 F_few:FunD K "few" "few" mx a.f_few a.fd_few
 B_few:Binds K a.fd_few rD []
 mg_few:mg "few"=some (.ref a.f_few)
 D_y37:Df K mg "apart" wo a.f_y37 a.fd_y37 ["scheme","size"]
 D_y38:Df K mg "_law_cell_at" wq a.f_y38 a.fd_y38 ["_law_script","_law_k"]
 D_y39:Df K mg "_law_state" wt a.f_y39 a.fd_y39 ["_law_cell","_law_k"]
 D_y40:Df K mg "_law_next" wu a.f_y40 a.fd_y40 oV
 D_y41:Df K mg "_law_scheme" pL a.f_y41 a.fd_y41 uw
 D_y42:Df K mg "_law_odd" wv a.f_y42 a.fd_y42 ["_law_number"]
 D_y43:Df K mg "_law_step" pM a.f_y43 a.fd_y43 uB
 D_y44:Df K mg "_law_start" ww a.f_y44 a.fd_y44 nW
 D_y45:Df K mg "_law_sent" wx a.f_y45 a.fd_y45 nW
 D_y46:Df K mg "_law_whole" wy a.f_y46 a.fd_y46 ["_law_found"]
 D_y47:Df K mg "_law_is_word" sI a.f_y47 a.fd_y47 oU
 D_y48:Df K mg "_law_from" wz a.f_y48 a.fd_y48 uF
 D_y49:Df K mg "_law_leaving" sJ a.f_y49 a.fd_y49 ["_law_word"]
 D_y50:Df K mg "_law_none_less" sK a.f_y50 a.fd_y50 uA
 D_law:Df K mg "law" ou a.f_law a.fd_law ["_law_script"]
 mk_Clear:Mk K a.c_Clear a.f_y11
 mk_Gap:MkN K a.c_Gap
 mk_Soft:Mk K a.c_Soft a.f_y16
 cd_y36:a.fd_y36.code=.ref a.c_y36
 ch_y36:∀h:Heap,K.In h->W.CodeHd h a.c_y36 a.t_y36
 bt_y36:∀h:Heap,K.In h->h.BuiltinsAt mg a.t_y36
 z_all:mg "all"=none
 z_bool:mg "bool"=none
 z_enumerate:mg "enumerate"=none
 z_int:mg "int"=none
 z_isinstance:mg "isinstance"=none
 z_len:mg "len"=none
 z_list:mg "list"=none
 z_max:mg "max"=none
 z_min:mg "min"=none
 z_range:mg "range"=none
 z_reversed:mg "reversed"=none
 z_sorted:mg "sorted"=none
 z_sum:mg "sum"=none
 z_tuple:mg "tuple"=none
 z_zip:mg "zip"=none
 kb_bool:fA K "bool" (gG "bool")
 kb_int:fA K "int" (gG "int")
 kb_list:fA K "list" (gG "list")
 kb_tuple:fA K "tuple" (gG "tuple")
theorem qkl{K:au}{mg:Str->Option Value}{a:Ad}(T:Txt K mg a):fA K "bool" (gG "bool"):=T.kb_bool
theorem qou{K:au}{mg:Str->Option Value}{a:Ad}(T:Txt K mg a):fA K "int" (gG "int"):=T.kb_int
theorem qkk{K:au}{mg:Str->Option Value}{a:Ad}(T:Txt K mg a):fA K "list" (gG "list"):=T.kb_list
theorem qi6{K:au}{mg:Str->Option Value}{a:Ad}(T:Txt K mg a):fA K "tuple" (gG "tuple"):=T.kb_tuple
section
variable{P:Program}{w:World}{K:au}{mg:Str->Option Value}{base:Heap}{a:Ad}
def nQ:aI:=
 (aE (af cg (ae (.int 1)) (aa 0)))
def f_y0:List D->Option D:=aM false 1 1 nQ
theorem zW:bY 1 f_y0:=cZ
theorem qw3(T:Txt K mg a):FnOk P w K mg base bB 1 a.f_y0 a.fd_y0 ["reach"] (cq K false 1 f_y0):=by
 exact cV T.D_y0.F qvq λ_ _ _ _ _ _ hr=>⟨_,(aW (bU (bQ pT aC (pv 0)))),by unfold nQ;exact(cu rfl (aG pQ me_int (ak (i:=0))) rfl)⟩
def nO:aI:=
 (aE (a9 f_y0 (am (af bj (aa 0) (ae (.int 0))) ag)))
def f_y1:List D->Option D:=aM false 1 1 nO
theorem jA:bY 1 f_y1:=cZ
theorem o7(T:Txt K mg a):FnOk P w K mg base bB 2 a.f_y1 a.fd_y1 ["scheme"] (cq K false 1 f_y1):=by
 exact cV T.D_y1.F qvp λ_ _ _ _ _ _ hr=>⟨_,(aW (bU (ba (qw3 T) hr.m T.D_y0 (aj (bc (bf (K:=K) rfl) (pv 0) aC) ay)))),by unfold nO;exact(cu rfl (ca zW (aq (aG bq (ak (i:=0)) me_int) aD)) rfl)⟩
abbrev uP:=(av (aA 2 (af gU (aa 2) (af nB (aa 1) (ae (.int 1))))) (aA 1 (af lC (aa 1) (ae (.int 2)))))
abbrev uq:=(bz (af ql (aa 1) (ae (.int 0))))
def nN:aI:=
 (av (aA 1 (aa 0))
 (av (aA 2 (ae (.int 0)))
 (av (ia uq
   uP 1000)
 (aE (aa 2)))))
def f_y2:List D->Option D:=aM false 1 3 nN
theorem zV:bY 1 f_y2:=cZ
theorem qw2(T:Txt K mg a):FnOk P w K mg base bB 1 a.f_y2 a.fd_y2 ["number"] (cq K false 1 f_y2):=by
 exact cV T.D_y2.F sc_y2 λ_ _ _ _ _ _ hr=>⟨_,(aQ (bK 1 sc_y2.nd (pv 0)) (aQ (bK 2 sc_y2.nd aC) (aQ (E1 x8 (df si (pv 1) aC (c8)) (aQ (bK 2 sc_y2.nd (bQ vX (pv 2) (bQ vV (pv 1) aC))) (aW (bK 1 sc_y2.nd (bQ wQ (pv 1) aC))))) (aW (bU (pv 2)))))),by unfold nN;exact(aS (O1:=[]) (cw (ak (i:=0))) (aS (O1:=[]) (cw me_int) (aS (O1:=[]) (ET (O':=[]) (de (c7 i6 (ak (i:=1)) me_int.mb)) rfl (aS (O1:=[]) (cw (aG vT (ak (i:=2)) (aG vR (ak (i:=1)) me_int))) (cw (aG vS (ak (i:=1)) me_int)))) (cu rfl (ak (i:=2)) rfl))))⟩
abbrev oX:=(am (af nB (aa 1) (aa 0)) ag)
abbrev ur:=(bD (af bj (aa 0) (ae (.int 1))))
def nM:aI:=
 (av (aA 3 (af cD (af lP (ae (.int 2)) (aa 1)) (aa 2)))
 (av (aA 4 (bh (cG 1 [3] none ur (ai 0) (ae true) (a9 f_y2 oX))))
 (aE (cc (am (af dG (aa 3) (a9 f_y1 (am (aa 0) ag))) (am (aH lS (aa 4)) ag))))))
def f_y3:List D->Option D:=aM false 3 5 nM
theorem qV:bY 3 f_y3:=cZ
theorem Cv(T:Txt K mg a):FnOk P w K mg base bB 3 a.f_y3 a.fd_y3 ["scheme","room","bit"] (cq K false 3 f_y3):=by
 exact cV T.D_y3.F sc_y3 λ_ _ _ _ _ _ hr=>⟨_,(aQ (bK 3 sc_y3.nd (bQ (fH (K:=K) rfl) (bQ (oE (K:=K) rfl) aC (pv 1)) (pv 2))) (aQ (jR (k:=4) (sc:=aN kU) (N0:=A0) rfl rfl rfl (show dD _ _ ["tap","window"] 1 [3] _=true by decide+kernel) sc_y3.nd rfl (Or.inl rfl) (fI (K:=K) rfl (bc (bf (K:=K) rfl) (pv 0) aC)) (λ_ _ _ _ _=>(dQ (i:=0) (show List.Nodup (["tap","window"]:List Str)from(by decide+kernel)) rfl (Or.inl rfl))) (ff (by decide)) (λ_ _ _ _ _=>fw) (λ_ _ _ _ _=>(ba (qw2 T) hr.m T.D_y2 (aj (bQ vV (pv 1) (pv 0)) ay)))) (aW (bU (iy (aj (bQ iY (pv 3) (ba (o7 T) hr.m T.D_y1 (aj (pv 0) ay))) (aj (kL (qh (K:=K) rfl) (by rfl) T.z_tuple (by rfl) (aj (pv 4) ay)) ay))))))),by unfold nM;exact(aS (O1:=[]) (cw (aG fN (aG oB me_int (ak (i:=1))) (ak (i:=2)))) (aS (O1:=[]) (kF (eL (bw:=none) (fE (aG bq (ak (i:=0)) me_int)) (cz (i:=0)) fG (ca zV (aq (aG vR (ak (i:=1)) (ak (i:=0))) aD))) rfl (by decide)) (cu rfl (ix (aq (aG iX (ak (i:=3)) (ca jA (aq (ak (i:=0)) aD))) (aq (qc p7 (ak (i:=4))) aD))) rfl)))⟩
def nL:aI:=
 (av (aA 3 (af bj (aa 0) (ae (.int 2))))
 (av (aA 4 (af bj (aa 3) (af dG (aa 1) (aH bI (aa 3)))))
 (aE (aH lS (bh (cG 2 [] none (gw (am (aa 2) (am (aa 4) ag))) (eQ 2 (cT (ai 0) (cT (ai 1) e9))) (bz (af fj (aa 1) (ae (.int 1)))) (aa 0)))))))
def f_y4:List D->Option D:=aM false 3 5 nL
theorem qU:bY 3 f_y4:=cZ
theorem CA(T:Txt K mg a):FnOk P w K mg base bB 1 a.f_y4 a.fd_y4 uj (cq K false 3 f_y4):=by
 exact cV T.D_y4.F sc_y4 λ_ _ _ _ _ _ hr=>⟨_,(aQ (bK 3 sc_y4.nd (bc (bf (K:=K) rfl) (pv 0) aC)) (aQ (bK 4 sc_y4.nd (bc (bf (K:=K) rfl) (pv 3) (bQ iY (pv 1) (dg (fy (K:=K) rfl) (by rfl) T.z_len (by rfl) (aj (pv 3) ay))))) (aW (bU (kL (qh (K:=K) rfl) (by rfl) T.z_tuple (by rfl) (aj (gM (sc:=aN kT) (N0:=AZ) rfl rfl rfl (show dD _ _ ["sign","chosen"] 2 [] _=true by decide+kernel) (tz (K:=K) rfl (by rfl) T.z_zip (aj (pv 2) (aj (pv 4) ay))) (λ_ _ _ _ _=>(mN (K:=K) rfl rfl (hX (dQ (i:=0) (show List.Nodup (["sign","chosen"]:List Str)from(by decide+kernel)) rfl (Or.inl rfl)) (hX (dQ (i:=1) (show List.Nodup (["sign","chosen"]:List Str)from(by decide+kernel)) rfl (Or.inl rfl)) mO)))) (xQ (by decide) (by decide)) (λ_ _ _ _ _=>(tD (df (fP (K:=K) rfl hr.units) (pv 1) aC (c8)))) (λ_ _ _ _ _=>(pv 0))) ay)))))),by unfold nL;exact(aS (O1:=[]) (cw (aG bq (ak (i:=0)) me_int)) (aS (O1:=[]) (cw (aG bq (ak (i:=3)) (aG iX (ak (i:=1)) (dH fu eB)))) (cu rfl (qc p7 (cX (eL (bw:=none) (sO (aq (ak (i:=2)) (aq (ak (i:=4)) aD))) (mG (hV (cz (i:=0)) (hV (cz (i:=1)) mM))) (de (c7 bP (ak (i:=1)) me_int.mb)) (ak (i:=0))))) rfl)))⟩
abbrev ma:=(af fj (af bj (aa 0) (ae (.int 3))) (ae (.str "ring")))
def nK:aI:=
 (aE ma)
def f_y5:List D->Option D:=aM false 1 1 nK
theorem nu:bY 1 f_y5:=cZ
theorem vh(T:Txt K mg a):FnOk P w K mg base bB 1 a.f_y5 a.fd_y5 ["scheme"] (cq K false 1 f_y5):=by
 exact cV T.D_y5.F qvo λ_ _ _ _ _ _ hr=>⟨_,(aW (bU (wW (fP (K:=K) rfl hr.units) (bc (bf (K:=K) rfl) (pv 0) aC) gg (c8)))),by unfold nK;exact(cu rfl (c7 bP (aG bq (ak (i:=0)) me_int) me_str.mb) rfl)⟩
def nJ:aI:=
 (cR (dM (bz (a9 f_y5 (am (aa 0) ag))) (bz (af oQ (aa 1) (af bj (aa 0) (ae (.int 0))))))
   (λ_=>none)
   aX)
def f_y6:List D->Option D:=aM false 2 2 nJ
theorem zU:bY 2 f_y6:=cZ
theorem qw1(T:Txt K mg a):FnOk P w K mg base bB 2 a.f_y6 a.fd_y6 ["scheme","size"] (cq K false 2 f_y6):=by
 exact cV T.D_y6.F qvn λ_ _ _ _ _ _ hr=>⟨_,(aW (f9 (PW.pt (e8 (mI (ba (vh T) hr.m T.D_y5 (aj (pv 0) ay))) (dW (df pi (pv 1) (bc (bf (K:=K) rfl) (pv 0) aC) (c8))))) (aW EZ) gh)),by unfold nJ;exact(f8 (pP (mH (ca nu (aq (ak (i:=0)) aD))) (de (c7 i6 (ak (i:=1)) (aG bq (ak (i:=0)) me_int).mb))) ES (gf rfl))⟩
abbrev rL:=(bz (af fj (af bj (aa 0) (ae (.int 3))) (ae (.str "ended"))))
def nI:aI:=
 (aE (i3 rL (af bj (aa 0) (ae (.int 0))) (ae (.int 0))))
def f_y7:List D->Option D:=aM false 1 1 nI
theorem zT:bY 1 f_y7:=cZ
theorem qw0(T:Txt K mg a):FnOk P w K mg base bB 1 a.f_y7 a.fd_y7 ["scheme"] (cq K false 1 f_y7):=by
 exact cV T.D_y7.F qvm λ_ _ _ _ _ _ hr=>⟨_,(aW (bU (jT (df (fP (K:=K) rfl hr.units) (bc (bf (K:=K) rfl) (pv 0) aC) gg (c8)) (bc (bf (K:=K) rfl) (pv 0) aC) aC))),by unfold nI;exact(cu rfl (kt (de (c7 bP (aG bq (ak (i:=0)) me_int) me_str.mb)) (aG bq (ak (i:=0)) me_int) me_int) rfl)⟩
def lE:aI:=
 (oq (lg (bz (a9 f_y5 (am (aa 0) ag))) (i7 eX (a9 f_y1 (am (aa 0) ag))) (aY (am (ae (.int 0)) ag))))
def f_y8:List D->Option D:=aM true 1 1 lE
theorem zS:bY 1 f_y8:=cZ
theorem qvz(T:Txt K mg a):FnOk P w K mg base bB 3 a.f_y8 a.fd_y8 ["scheme"] (cq K true 1 f_y8):=by
 exact cV T.D_y8.F qvl λ_ _ _ _ _ _ hr=>⟨_,(aW (bU (jT (mI (ba (vh T) hr.m T.D_y5 (aj (pv 0) ay))) (Ek rfl (by rfl) T.z_list (by rfl) T.z_range (ba (o7 T) hr.m T.D_y1 (aj (pv 0) ay))) (fv (aj aC ay))))),by unfold lE;exact(Ef rfl (qwv (mH (ca nu (aq (ak (i:=0)) aD))) (Ed (ca jA (aq (ak (i:=0)) aD))) (fF (aq me_int aD))) rfl)⟩
def nH:aI:=
 (av (mv (a9 f_y6 (am (aa 0) (am (aa 1) ag))))
 (aE (af cD (aa 1) (a9 f_y7 (am (aa 0) ag)))))
def f_y9:List D->Option D:=aM false 2 2 nH
theorem qT:bY 2 f_y9:=cZ
theorem CB(T:Txt K mg a):FnOk P w K mg base bB 3 a.f_y9 a.fd_y9 ["scheme","size"] (cq K false 2 f_y9):=by
 exact cV T.D_y9.F qvk λ_ _ _ _ _ _ hr=>⟨_,(aQ (jS (ba (qw1 T) hr.m T.D_y6 (aj (pv 0) (aj (pv 1) ay)))) (aW (bU (bQ (fH (K:=K) rfl) (pv 1) (ba (qw0 T) hr.m T.D_y7 (aj (pv 0) ay)))))),by unfold nH;exact(aS (O1:=[]) (Ee (ca zU (aq (ak (i:=0)) (aq (ak (i:=1)) aD))) rfl) (cu rfl (aG fN (ak (i:=1)) (ca zT (aq (ak (i:=0)) aD))) rfl))⟩
abbrev rJ:=(aH bI (a9 f_y4 (am (aa 0) (am (aa 4) (am (aa 2) ag)))))
abbrev Bb:=(iH 3 (dL (aY (am (aa 4) ag)) rJ))
abbrev Bs:=(fD (am (a9 f_y9 (am (aa 0) (am (aa 1) ag))) ag))
def vp:aI:=
 (av (aA 2 (af bj (a9 f_y3 (am (aa 0) (am (ae (.int 0)) (am (ae (.int 0)) ag)))) (ae (.int 1))))
 (av (cI 3 (aY ag))
 (av (bA Bs (ai 4)
   Bb)
 (kA 3))))
def f_y10:List D->Option D:=aM true 2 5 vp
theorem vc:bY 2 f_y10:=cZ
theorem vU(T:Txt K mg a):FnOk P w K mg base bB 4 a.f_y10 a.fd_y10 ["scheme","size"] (cq K true 2 f_y10):=by
 exact cV T.D_y10.F sc_y10 λ_ _ _ _ _ _ hr=>⟨_,(aQ (bK 2 sc_y10.nd (bc (bf (K:=K) rfl) (ba (Cv T) hr.m T.D_y3 (aj (pv 0) (aj aC (aj aC ay)))) aC)) (aQ (bK 3 sc_y10.nd (fv ay)) (aQ (gL x8 rfl (iC (by rfl) T.z_range (aj (ba (CB T) hr.m T.D_y9 (aj (pv 0) (aj (pv 1) ay))) ay)) (fm 4 sc_y10.nd) (aW (jS (lO F.plainAttrs_list F.slot_list_extend F.type_list_extend qhj (pv 3) (aj (bQ sS (fv (aj (pv 4) ay)) (dg (fy (K:=K) rfl) (by rfl) T.z_len (by rfl) (aj (ba (CA T) hr.m T.D_y4 (aj (pv 0) (aj (pv 4) (aj (pv 2) ay)))) ay))) ay))))) (aW (bU (pv 3)))))),by unfold vp;exact(aS (O1:=[]) (cw (aG bq (ca qV (aq (ak (i:=0)) (aq me_int (aq me_int aD)))) me_int)) (aS (O1:=[3]) (jO (fF aD) rfl) (aS (O1:=[3]) (hJ (O':=[3]) (iB (aq (ca qT (aq (ak (i:=0)) (aq (ak (i:=1)) aD))) aD)) rfl (cz (i:=4)) (qtn (by decide) (sP (fF (aq (ak (i:=4)) aD)) (dH fu (ca qU (aq (ak (i:=0)) (aq (ak (i:=4)) (aq (ak (i:=2)) aD)))).mb)) rfl)) (wO rfl (by first|decide|simp) rfl (by first|decide|simp)))))⟩
theorem qt6(T:Txt K mg a):FnOk P w K mg base bB 1 a.f_y11 a.fd_y11 ["self","bit"] (wA a.c_Clear ["bit"]):=by
 refine T.F_y11.ok qre (λvs H Q E h=>?_) (λcdv A outer s H vs Q E hr h=>?_)
 ·obtain⟨x,dx,args,rfl,hl,_⟩:=h;exact congrArg Nat.succ hl
 ·obtain⟨x,dx,args,rfl,hl,hx,k⟩:=h
  match args,hl,k with
  | [b0],_,k=>
   refine⟨_,(aW (v0 (pv 0) (pv 1) rfl)),?_⟩;refine⟨_,rfl,_,rfl,x,_,dx,_,rfl,hx,T.cl_Clear,T.no_Clear_bit,(by show 0<1000;decide),?_⟩;exact k
def vq:aI:=
 (aE (i3 (bz (af fj (aa 1) (iM "Clear" "bit" (aa 0)))) (ae (.int 0)) (ae (.int 1))))
def f_y13:List D->Option D:=aM false 2 2 vq
theorem qws:bY 2 f_y13:=cZ
theorem qt5(T:Txt K mg a):FnOk P w K mg base bB 1 a.f_y13 a.fd_y13 ["self","bit"] (cq K false 2 f_y13):=by
 exact cV T.F_y13 qrd λ_ _ _ _ _ _ hr=>⟨_,(aW (bU (jT (df (fP (K:=K) rfl hr.units) (pv 1) (wX (K:=K) rfl (pv 0) rfl) (c8)) aC aC))),by unfold vq;exact(cu rfl (kt (de (c7 bP (ak (i:=1)) (vP T.ns_Clear T.cl_Clear T.no_Clear_bit (ak (i:=0))).mb)) me_int me_int) rfl)⟩
def vt:aI:=
 (aE (ae (.int 0)))
def f_y15:List D->Option D:=aM false 2 2 vt
theorem qwr:bY 2 f_y15:=cZ
theorem qt4(T:Txt K mg a):FnOk P w K mg base bB 1 a.f_y15 a.fd_y15 ["self","bit"] (cq K false 2 f_y15):=by
 exact cV T.F_y15 qrc λ_ _ _ _ _ _ hr=>⟨_,(aW (bU aC)),by unfold vt;exact(cu rfl me_int rfl)⟩
theorem qt3(T:Txt K mg a):FnOk P w K mg base bB 1 a.f_y16 a.fd_y16 ["self","zero","one"] (wA a.c_Soft ["zero","one"]):=by
 refine T.F_y16.ok qrb (λvs H Q E h=>?_) (λcdv A outer s H vs Q E hr h=>?_)
 ·obtain⟨x,dx,args,rfl,hl,_⟩:=h;exact congrArg Nat.succ hl
 ·obtain⟨x,dx,args,rfl,hl,hx,k⟩:=h
  match args,hl,k with
  | [b0,b1],_,k=>
   refine⟨_,(aQ (v0 (pv 0) (pv 1) rfl) (aW (v0 (pv 0) (pv 2) rfl))),?_⟩;refine⟨_,rfl,_,rfl,x,_,dx,_,rfl,hx,T.cl_Soft,T.no_Soft_zero,(by show 0<1000;decide),?_⟩;refine⟨_,rfl,_,rfl,x,_,dx,_,rfl,cM,T.cl_Soft,T.no_Soft_one,(by show 1<1000;decide),?_⟩;rw[Ew];have e:(da "one" b1 (da "zero" b0 []))=([("zero",b0),("one",b1)]:List (Str×V)):=by
    have hne:¬(("zero":Str)="one"):=by decide+kernel
    simp[da,hne]
   rw[e];exact k
def vv:aI:=
 (aE (i3 (bz (af fj (aa 1) (ae (.int 1)))) (iM "Soft" "one" (aa 0)) (iM "Soft" "zero" (aa 0))))
def f_y18:List D->Option D:=aM false 2 2 vv
theorem qwq:bY 2 f_y18:=cZ
theorem qt2(T:Txt K mg a):FnOk P w K mg base bB 1 a.f_y18 a.fd_y18 ["self","bit"] (cq K false 2 f_y18):=by
 exact cV T.F_y18 qra λ_ _ _ _ _ _ hr=>⟨_,(aW (bU (jT (df (fP (K:=K) rfl hr.units) (pv 1) aC (c8)) (wX (K:=K) rfl (pv 0) rfl) (wX (K:=K) rfl (pv 0) rfl)))),by unfold vv;exact(cu rfl (kt (de (c7 bP (ak (i:=1)) me_int.mb)) (vP T.ns_Soft T.cl_Soft T.no_Soft_one (ak (i:=0))) (vP T.ns_Soft T.cl_Soft T.no_Soft_zero (ak (i:=0)))) rfl)⟩
abbrev A9:=(am (af bj (aa 0) (ae (.int 1))) ag)
def vw:aI:=
 (av (cR (bz (af fj (af bj (aa 0) (ae (.int 0))) (ae (.str "clear"))))
   (aE (pe "Clear" ["bit"] A9))
   aX)
 (av (cR (bz (af fj (af bj (aa 0) (ae (.int 0))) (ae (.str "gap"))))
   (aE (vO "Gap"))
   aX)
 (aE (pe "Soft" ["zero","one"] (am (af bj (aa 0) (ae (.int 1))) (am (af bj (aa 0) (ae (.int 2))) ag))))))
def f_y19:List D->Option D:=aM false 1 1 vw
theorem qwp:bY 1 f_y19:=cZ
theorem qt1(T:Txt K mg a):FnOk P w K mg base bB 3 a.f_y19 a.fd_y19 ["told"] (cq K false 1 f_y19):=by
 have G_y11:=@qt6 P w K mg base a T;have G_y16:=@qt3 P w K mg base a T;exact cV T.D_y19.F qr9 λ_ _ _ _ _ _ hr=>⟨_,(aQ (f9 (df (fP (K:=K) rfl hr.units) (bc (bf (K:=K) rfl) (pv 0) aC) gg (c8)) (aW (bU (El T.mk_Clear G_y11 hr.m (by rfl) T.mg_Clear T.B_y11 .nil lX (aj (bc (bf (K:=K) rfl) (pv 0) aC) ay)))) gh) (aQ (f9 (df (fP (K:=K) rfl hr.units) (bc (bf (K:=K) rfl) (pv 0) aC) gg (c8)) (aW (bU (qjv T.mk_Gap (by rfl) T.mg_Gap))) gh) (aW (bU (El T.mk_Soft G_y16 hr.m (by rfl) T.mg_Soft T.B_y16 .nil lX (aj (bc (bf (K:=K) rfl) (pv 0) aC) (aj (bc (bf (K:=K) rfl) (pv 0) aC) ay))))))),by unfold vw;exact(aS (O1:=[]) (f8 (de (c7 bP (aG bq (ak (i:=0)) me_int) me_str.mb)) (cu rfl (Ec T.ns_Clear (aq (aG bq (ak (i:=0)) me_int) aD)) rfl) (gf rfl)) (aS (O1:=[]) (f8 (de (c7 bP (aG bq (ak (i:=0)) me_int) me_str.mb)) (cu rfl (qk9 T.ns_Gap) rfl) (gf rfl)) (cu rfl (Ec T.ns_Soft (aq (aG bq (ak (i:=0)) me_int) (aq (aG bq (ak (i:=0)) me_int) aD))) rfl)))⟩
abbrev nY:=(bh (gO f_y10 (am (aa 0) (am (aa 1) ag))))
def vx:aI:=
 (av (aA 3 nY)
 (cR (bz (af kO (aH bI (aa 2)) (aH bI (aa 3))))
   (λ_=>none)
   aX))
def f_y20:List D->Option D:=aM false 3 4 vx
theorem qwo:bY 3 f_y20:=cZ
theorem qt0(T:Txt K mg a):FnOk P w K mg base bB 5 a.f_y20 a.fd_y20 jH (cq K false 3 f_y20):=by
 exact cV T.D_y20.F sc_y20 λ_ _ _ _ _ _ hr=>⟨_,(aQ (bK 3 sc_y20.nd (ba (vU T) hr.m T.D_y10 (aj (pv 0) (aj (pv 1) ay)))) (aW (f9 (df (pR (K:=K) rfl hr.units) (dg (fy (K:=K) rfl) (by rfl) T.z_len (by rfl) (aj (pv 2) ay)) (dg (fy (K:=K) rfl) (by rfl) T.z_len (by rfl) (aj (pv 3) ay)) (c8)) (aW EZ) gh))),by unfold vx;exact(aS (O1:=[]) (cw (cX (hW vc (aq (ak (i:=0)) (aq (ak (i:=1)) aD))))) (f8 (de (c7 pj (dH fu eB) (dH fu eB).mb)) ES (gf rfl)))⟩
abbrev rN:=(iK (oG "Clear" "cost" f_y13 (aa 0) (am (aa 1) ag)) (iK (oG "Gap" "cost" f_y15 (aa 0) (am (aa 1) ag)) (oG "Soft" "cost" f_y18 (aa 0) (am (aa 1) ag))))
def vz:aI:=
 (aE (aH fX (bh (cG 2 [] none (gw (am (aa 0) (am (aa 1) ag))) (eQ 2 (cT (ai 0) (cT (ai 1) e9))) (ae true) rN))))
def f_y21:List D->Option D:=aM false 2 2 vz
theorem qwn:bY 2 f_y21:=cZ
theorem qsz(T:Txt K mg a):FnOk P w K mg base bB 2 a.f_y21 a.fd_y21 ["signs","bits"] (cq K false 2 f_y21):=by
 have G_y18:=@qt2 P w K mg base a T;have G_y15:=@qt4 P w K mg base a T;have G_y13:=@qt5 P w K mg base a T;exact cV T.D_y21.F qr8 λ_ _ _ _ _ _ hr=>⟨_,(aW (bU (dg (mP (K:=K) rfl rfl) (by rfl) T.z_sum (by rfl) (aj (gM (sc:=aN sA) (N0:=["signs","bits"]) rfl rfl rfl (show dD _ _ ["sign","bit"] 2 [] _=true by decide+kernel) (tz (K:=K) rfl (by rfl) T.z_zip (aj (pv 0) (aj (pv 1) ay))) (λ_ _ _ _ _=>(mN (K:=K) rfl rfl (hX (dQ (i:=0) (show List.Nodup (["sign","bit"]:List Str)from(by decide+kernel)) rfl (Or.inl rfl)) (hX (dQ (i:=1) (show List.Nodup (["sign","bit"]:List Str)from(by decide+kernel)) rfl (Or.inl rfl)) mO)))) (xQ (by decide) (by decide)) (λ_ _ _ _ _=>fw) (λ_ _ _ _ _=>(PE.or (wY (pv 0) T.cl_Clear T.m_y13 G_y13 hr.m T.B_y13 .nil lX (aj (pv 1) ay)) (PE.or (wY (pv 0) T.cl_Gap T.m_y15 G_y15 hr.m T.B_y15 .nil lX (aj (pv 1) ay)) (wY (pv 0) T.cl_Soft T.m_y18 G_y18 hr.m T.B_y18 .nil lX (aj (pv 1) ay)))))) ay)))),by unfold vz;exact(cu rfl (dH mz (cX (eL (bw:=none) (sO (aq (ak (i:=0)) (aq (ak (i:=1)) aD))) (mG (hV (cz (i:=0)) (hV (cz (i:=1)) mM))) fG (Dq (wL T.ns_Clear qws (ak (i:=0)) (aq (ak (i:=1)) aD)) (Dq (wL T.ns_Gap qwr (ak (i:=0)) (aq (ak (i:=1)) aD)) (wL T.ns_Soft qwq (ak (i:=0)) (aq (ak (i:=1)) aD)))))).mb) rfl)⟩
def og:Fd:=
 (sM 3 (eQ 2 (cT (ai 4) (cT (ai 5) e9))) (gw (am nY (am (aa 2) ag)))
   (oH 3 (aa 4) (am (a9 f_y19 (am (aa 5) ag)) ag)))
def ol:aT:=Bs
def pN:List D->Option (List (List D)):=mr 3 6 3 ol og
def f_y22:List D->Option D:=λds=>oh (pN ds)
theorem qwm:bY 3 f_y22:=qnm
theorem qo4(T:Txt K mg a):FnOk P w K mg base bB 5 a.f_y22 a.fd_y22 jH (u0 K 3 pN):=by
 refine T.D_y22.F.ok sc_y22 (λvs H Q E h=>h.1) (λcdv A outer s H vs Q E hr h=>?_);refine⟨_,(aQ (jR (k:=3) (sc:=aN sB) (N0:=ux) rfl rfl rfl (show dD _ _ ["number"] 1 [] _=true by decide+kernel) sc_y22.nd rfl (Or.inl rfl) (iC (by rfl) T.z_range (aj (ba (CB T) hr.m T.D_y9 (aj (pv 0) (aj (pv 1) ay))) ay)) (λ_ _ _ _ _=>(dQ (i:=0) (show List.Nodup (["number"]:List Str)from(by decide+kernel)) rfl (Or.inl rfl))) (ff (by decide)) (λ_ _ _ _ _=>fw) (λ_ _ _ _ _=>(fv ay))) (aQ (gL x8 rfl (tz (K:=K) rfl (by rfl) T.z_zip (aj (ba (vU T) hr.m T.D_y10 (aj (pv 0) (aj (pv 1) ay))) (aj (pv 2) ay))) (mN (K:=K) rfl rfl (hX (fm 4 sc_y22.nd) (hX (fm 5 sc_y22.nd) mO))) (aW (jS (lO F.plainAttrs_list F.slot_list_append F.type_list_append mT (bc (bf (K:=K) rfl) (pv 3) (pv 4)) (aj (ba (qt1 T) hr.m T.D_y19 (aj (pv 5) ay)) ay))))) (aW (bU (pv 3))))),?_⟩;exact qft (Nms:=ux) (i:=3) (m:=1) (js:=[]) (fi:=ol) (f:=og) (by
  unfold ol;exact(iB (aq (ca qT (aq (ak (i:=0)) (aq (ak (i:=1)) aD))) aD))) (by
  unfold og;exact(qk7 (sO (aq (cX (hW vc (aq (ak (i:=0)) (aq (ak (i:=1)) aD)))) (aq (ak (i:=2)) aD))) (mG (hV (cz (i:=4)) (hV (cz (i:=5)) mM))) (by decide) (qer (ak (i:=4)) (aq (ca qwp (aq (ak (i:=5)) aD)) aD)))) h
theorem qsy(T:Txt K mg a):FnOk P w K mg base bB 5 a.f_y22 a.fd_y22 jH (cq K false 3 f_y22):=(qo4 T).imp λ_ _ _ _ h=>qvi h
def vA:aI:=
 (av (aA 5 (a9 f_y3 (am (aa 0) (am (aa 3) (am (aa 4) ag)))))
 (aE (cc (am (af bj (aa 5) (ae (.int 0))) (am (a9 f_y21 (am (aa 2) (am (a9 f_y4 (am (aa 0) (am (aa 1) (am (af bj (aa 5) (ae (.int 1))) ag)))) ag))) ag)))))
def f_y23:List D->Option D:=aM false 5 6 vA
theorem qwl:bY 5 f_y23:=cZ
theorem qsx(T:Txt K mg a):FnOk P w K mg base bB 4 a.f_y23 a.fd_y23 ul (cq K false 5 f_y23):=by
 exact cV T.D_y23.F sc_y23 λ_ _ _ _ _ _ hr=>⟨_,(aQ (bK 5 sc_y23.nd (ba (Cv T) hr.m T.D_y3 (aj (pv 0) (aj (pv 3) (aj (pv 4) ay))))) (aW (bU (iy (aj (bc (bf (K:=K) rfl) (pv 5) aC) (aj (ba (qsz T) hr.m T.D_y21 (aj (pv 2) (aj (ba (CA T) hr.m T.D_y4 (aj (pv 0) (aj (pv 1) (aj (bc (bf (K:=K) rfl) (pv 5) aC) ay)))) ay))) ay)))))),by unfold vA;exact(aS (O1:=[]) (cw (ca qV (aq (ak (i:=0)) (aq (ak (i:=3)) (aq (ak (i:=4)) aD))))) (cu rfl (ix (aq (aG bq (ak (i:=5)) me_int) (aq (ca qwn (aq (ak (i:=2)) (aq (ca qU (aq (ak (i:=0)) (aq (ak (i:=1)) (aq (aG bq (ak (i:=5)) me_int) aD)))) aD))) aD))) rfl))⟩
abbrev rG:=(am (aa 1) (am (aa 2) (am (aa 3) (am (aa 4) (am (aa 0) ag)))))
def vB:aI:=
 (aE (bh (cG 1 [0,1,2,3] none (bD (aa 4)) (ai 0) (ae true) (a9 f_y23 rG))))
def f_y24:List D->Option D:=aM false 5 5 vB
theorem qwk:bY 5 f_y24:=cZ
abbrev AY:List Str:=["bit","scheme","number","signs","room"]
theorem qsw(T:Txt K mg a):FnOk P w K mg base bB 5 a.f_y24 a.fd_y24 oY (cq K false 5 f_y24):=by
 exact cV T.D_y24.F qr7 λ_ _ _ _ _ _ hr=>⟨_,(aW (bU (gM (sc:=aN sC) (N0:=oY) rfl rfl rfl (show dD _ _ AY 1 [0,1,2,3] _=true by decide+kernel) (fI (K:=K) rfl (pv 4)) (λ_ _ _ _ _=>(dQ (i:=0) (show List.Nodup (AY:List Str)from(by decide+kernel)) rfl (Or.inl rfl))) (ff (by decide)) (λ_ _ _ _ _=>fw) (λ_ _ _ _ _=>(ba (qsx T) hr.m T.D_y23 (aj (pv 1) (aj (pv 2) (aj (pv 3) (aj (pv 4) (aj (pv 0) ay)))))))))),by unfold vB;exact(cu rfl (cX (eL (bw:=none) (fE (ak (i:=4))) (cz (i:=0)) fG (ca qwl (aq (ak (i:=1)) (aq (ak (i:=2)) (aq (ak (i:=3)) (aq (ak (i:=4)) (aq (ak (i:=0)) aD)))))))) rfl)⟩
abbrev Be:=(fD (am (a9 f_y1 (am (aa 0) ag)) ag))
abbrev BA:=(am (aa 1) (am (aa 2) (am (aa 3) (am (aa 0) (am (aa 4) ag)))))
abbrev BK:=(aA 6 (i3 (bz (af oQ (aa 4) (aa 1))) (cc (am (ae (.int 0)) (am (ae (.int 1)) ag))) (cc (am (ae (.int 0)) ag))))
abbrev BY:=(av BK (dU i0 3 (am (bh (cG 1 [0,4,5,6] none Be (ai 0) (ae true) (a9 f_y24 BA))) ag)))
abbrev gF:=(am (aa 0) (am (aa 1) (am (aa 2) ag)))
def vC:aI:=
 (av (mv (a9 f_y20 gF))
 (av (cI 3 (aY ag))
 (av (bA (pd (a9 f_y22 gF)) (eQ 2 (cT (ai 4) (cT (ai 5) e9)))
   BY)
 (aE (aa 3)))))
def f_y25:List D->Option D:=aM false 3 7 vC
theorem Ci:bY 3 f_y25:=cZ
abbrev A2:List Str:=["room","scheme","number","signs","bits"]
theorem Dv(T:Txt K mg a):FnOk P w K mg base bB 6 a.f_y25 a.fd_y25 jH (cq K false 3 f_y25):=by
 exact cV T.D_y25.F sc_y25 λ_ _ _ _ _ _ hr=>⟨_,(aQ (jS (ba (qt0 T) hr.m T.D_y20 (aj (pv 0) (aj (pv 1) (aj (pv 2) ay))))) (aQ (bK 3 sc_y25.nd (fv ay)) (aQ (gL x8 rfl (qns (K:=K) rfl (by rfl) T.z_enumerate (ba (qsy T) hr.m T.D_y22 (aj (pv 0) (aj (pv 1) (aj (pv 2) ay))))) (mN (K:=K) rfl rfl (hX (fm 4 sc_y25.nd) (hX (fm 5 sc_y25.nd) mO))) (aQ (bK 6 sc_y25.nd (jT (df pi (pv 4) (pv 1) (c8)) (iy (aj aC (aj aC ay))) (iy (aj aC ay)))) (aW (jS (lO F.plainAttrs_list F.slot_list_append F.type_list_append mT (pv 3) (aj (gM (sc:=aN sE) (N0:=Bp) rfl rfl rfl (show dD _ _ A2 1 [0,4,5,6] _=true by decide+kernel) (iC (by rfl) T.z_range (aj (ba (o7 T) hr.m T.D_y1 (aj (pv 0) ay)) ay)) (λ_ _ _ _ _=>(dQ (i:=0) (show List.Nodup (A2:List Str)from(by decide+kernel)) rfl (Or.inl rfl))) (ff (by decide)) (λ_ _ _ _ _=>fw) (λ_ _ _ _ _=>(ba (qsw T) hr.m T.D_y24 (aj (pv 1) (aj (pv 2) (aj (pv 3) (aj (pv 0) (aj (pv 4) ay)))))))) ay)))))) (aW (bU (pv 3)))))),by unfold vC;exact(aS (O1:=[]) (Ee (ca qwo (aq (ak (i:=0)) (aq (ak (i:=1)) (aq (ak (i:=2)) aD)))) rfl) (aS (O1:=[3]) (jO (fF aD) rfl) (aS (O1:=[]) (p0 (hJ (O':=[3]) (qoh (ca qwm (aq (ak (i:=0)) (aq (ak (i:=1)) (aq (ak (i:=2)) aD))))) rfl (mG (hV (cz (i:=4)) (hV (cz (i:=5)) mM))) (aS (O1:=[3]) (cw (kt (de (c7 i6 (ak (i:=4)) eB)) (ix (aq me_int (aq me_int aD))) (ix (aq me_int aD)))) (oy oK (by decide) (aq (cX (eL (bw:=none) (iB (aq (ca jA (aq (ak (i:=0)) aD)) aD)) (cz (i:=0)) fG (ca qwk (aq (ak (i:=1)) (aq (ak (i:=2)) (aq (ak (i:=3)) (aq (ak (i:=0)) (aq (ak (i:=4)) aD)))))))) aD) rfl))) rfl) (cu rfl (ak (i:=3)) rfl))))⟩
abbrev uJ:=Be
abbrev rF:=(i3 (bz (af fj (aa 0) (aa 1))) (ae (.int 0)) (ae .non))
abbrev Bw:=(bz (af fj (af bj (aa 0) (ae (.int 3))) (ae (.str "open"))))
abbrev By:=(aA 2 (i3 (bz (a9 f_y5 (am (aa 0) ag))) (aa 1) (ae (.int 0))))
def vD:aI:=
 (av (cR Bw
   (aE (bh (dL (aY (am (ae (.int 0)) ag)) (a9 f_y1 (am (aa 0) ag)))))
   aX)
 (av By
 (aE (bh (cG 1 [2] none uJ (ai 0) (ae true) rF)))))
def f_y26:List D->Option D:=aM false 2 3 vD
theorem Cj:bY 2 f_y26:=cZ
theorem Dw(T:Txt K mg a):FnOk P w K mg base bB 3 a.f_y26 a.fd_y26 ["scheme","start"] (cq K false 2 f_y26):=by
 exact cV T.D_y26.F sc_y26 λ_ _ _ _ _ _ hr=>⟨_,(aQ (f9 (df (fP (K:=K) rfl hr.units) (bc (bf (K:=K) rfl) (pv 0) aC) gg (c8)) (aW (bU (bQ sS (fv (aj aC ay)) (ba (o7 T) hr.m T.D_y1 (aj (pv 0) ay))))) gh) (aQ (bK 2 sc_y26.nd (jT (mI (ba (vh T) hr.m T.D_y5 (aj (pv 0) ay))) (pv 1) aC)) (aW (bU (gM (sc:=aN sF) (N0:=["scheme","start","end"]) rfl rfl rfl (show dD _ _ ["room","end"] 1 [2] _=true by decide+kernel) (iC (by rfl) T.z_range (aj (ba (o7 T) hr.m T.D_y1 (aj (pv 0) ay)) ay)) (λ_ _ _ _ _=>(dQ (i:=0) (show List.Nodup (["room","end"]:List Str)from(by decide+kernel)) rfl (Or.inl rfl))) (ff (by decide)) (λ_ _ _ _ _=>fw) (λ_ _ _ _ _=>(jT (df (fP (K:=K) rfl hr.units) (pv 0) (pv 1) (c8)) aC iZ))))))),by unfold vD;exact(aS (O1:=[]) (f8 (de (c7 bP (aG bq (ak (i:=0)) me_int) me_str.mb)) (cu rfl (cX (sP (fF (aq me_int aD)) (ca jA (aq (ak (i:=0)) aD)))) rfl) (gf rfl)) (aS (O1:=[]) (cw (kt (mH (ca nu (aq (ak (i:=0)) aD))) (ak (i:=1)) me_int)) (cu rfl (cX (eL (bw:=none) (iB (aq (ca jA (aq (ak (i:=0)) aD)) aD)) (cz (i:=0)) fG (kt (de (c7 bP (ak (i:=0)) eB)) me_int me_non))) rfl)))⟩
def sk:aI:=
 (av (aA 2 (af bj (aa 1) (af bj (aa 0) (ae (.int 0)))))
 (aE (i3 (bz (af iP (aa 2) (ae .non))) (ae .non) (af cD (af bj (aa 0) (ae (.int 1))) (aa 2)))))
def f_y27:List D->Option D:=aM false 2 3 sk
theorem qwj:bY 2 f_y27:=cZ
theorem qsv(T:Txt K mg a):FnOk P w K mg base bB 1 a.f_y27 a.fd_y27 ["taken","behind"] (cq K false 2 f_y27):=by
 exact cV T.D_y27.F sc_y27 λ_ _ _ _ _ _ hr=>⟨_,(aQ (bK 2 sc_y27.nd (bc (bf (K:=K) rfl) (pv 1) (bc (bf (K:=K) rfl) (pv 0) aC))) (aW (bU (jT (df vW (pv 2) iZ (c8)) iZ (bQ (fH (K:=K) rfl) (bc (bf (K:=K) rfl) (pv 0) aC) (pv 2)))))),by unfold sk;exact(aS (O1:=[]) (cw (aG bq (ak (i:=1)) (aG bq (ak (i:=0)) me_int))) (cu rfl (kt (de (c7 vY (ak (i:=2)) me_non.mb)) me_non (aG fN (aG bq (ak (i:=0)) me_int) (ak (i:=2)))) rfl))⟩
def vE:aI:=
 (av (aA 2 (bh (cG 1 [1] none (bD (aa 0)) (ai 0) (ae true) (a9 f_y27 (am (aa 0) (am (aa 1) ag))))))
 (aE (aH oj (bh (cG 1 [] none (bD (aa 2)) (ai 0) (bz (af iW (aa 0) (ae .non))) (aa 0))))))
def f_y28:List D->Option D:=aM false 2 3 vE
theorem qwi:bY 2 f_y28:=cZ
theorem qsu(T:Txt K mg a):FnOk P w K mg base bB 2 a.f_y28 a.fd_y28 ["choices","behind"] (cq K false 2 f_y28):=by
 exact cV T.D_y28.F sc_y28 λ_ _ _ _ _ _ hr=>⟨_,(aQ (jR (k:=2) (sc:=aN pJ) (N0:=uk) rfl rfl rfl (show dD _ _ ["taken","behind"] 1 [1] _=true by decide+kernel) sc_y28.nd rfl (Or.inl rfl) (fI (K:=K) rfl (pv 0)) (λ_ _ _ _ _=>(dQ (i:=0) (show List.Nodup (["taken","behind"]:List Str)from(by decide+kernel)) rfl (Or.inl rfl))) (ff (by decide)) (λ_ _ _ _ _=>fw) (λ_ _ _ _ _=>(ba (qsv T) hr.m T.D_y27 (aj (pv 0) (aj (pv 1) ay))))) (aW (bU (qnu (K:=K) rfl rfl (by rfl) T.z_min (gM (sc:=aN pJ) (N0:=uk) rfl rfl rfl (show dD _ _ ["one"] 1 [] _=true by decide+kernel) (fI (K:=K) rfl (pv 2)) (λ_ _ _ _ _=>(dQ (i:=0) (show List.Nodup (["one"]:List Str)from(by decide+kernel)) rfl (Or.inl rfl))) (ff (by decide)) (λ_ _ _ _ _=>(tD (df wR (pv 0) iZ (c8)))) (λ_ _ _ _ _=>(pv 0))) iZ)))),by unfold vE;exact(aS (O1:=[]) (kF (eL (bw:=none) (fE (ak (i:=0))) (cz (i:=0)) fG (ca qwj (aq (ak (i:=0)) (aq (ak (i:=1)) aD)))) rfl (by decide)) (cu rfl (qoj (cX (eL (bw:=none) (fE (ak (i:=2))) (cz (i:=0)) (de (c7 wU (ak (i:=0)) me_non.mb)) (ak (i:=0)))).mb) rfl))⟩
abbrev A8:=(aA 4 (iL 2 (aH lB (ae (.int 1)))))
abbrev BQ:=(av A8 (dU i0 2 (am (bh (cG 1 [4] none (bD (aa 3)) (ai 0) (ae true) (a9 f_y28 (am (aa 0) (am (aa 1) ag))))) ag)))
def vF:aI:=
 (av (cI 2 (aY (am (aa 1) ag)))
 (av (bA (gx (aa 0)) (ai 3)
   BQ)
 (aE (bh (gx (aa 2))))))
def f_y29:List D->Option D:=aM false 2 5 vF
theorem Ck:bY 2 f_y29:=cZ
theorem Dx(T:Txt K mg a):FnOk P w K mg base bB 3 a.f_y29 a.fd_y29 ["steps","ends"] (cq K false 2 f_y29):=by
 exact cV T.D_y29.F sc_y29 λ_ _ _ _ _ _ hr=>⟨_,(aQ (bK 2 sc_y29.nd (fv (aj (pv 1) ay))) (aQ (gL x8 rfl (qrx (K:=K) rfl (by rfl) T.z_reversed (pv 0)) (fm 3 sc_y29.nd) (aQ (bK 4 sc_y29.nd (bc (bf (K:=K) rfl) (pv 2) (qvs qqe aC))) (aW (jS (lO F.plainAttrs_list F.slot_list_append F.type_list_append mT (pv 2) (aj (gM (sc:=aN sG) (N0:=Bj) rfl rfl rfl (show dD _ _ ["choices","behind"] 1 [4] _=true by decide+kernel) (fI (K:=K) rfl (pv 3)) (λ_ _ _ _ _=>(dQ (i:=0) (show List.Nodup (["choices","behind"]:List Str)from(by decide+kernel)) rfl (Or.inl rfl))) (ff (by decide)) (λ_ _ _ _ _=>fw) (λ_ _ _ _ _=>(ba (qsu T) hr.m T.D_y28 (aj (pv 0) (aj (pv 1) ay))))) ay)))))) (aW (bU (qnv (K:=K) rfl rfl (by rfl) T.z_list (by rfl) T.z_reversed (pv 2)))))),by unfold vF;exact(aS (O1:=[2]) (jO (fF (aq (ak (i:=1)) aD)) rfl) (aS (O1:=[]) (p0 (hJ (O':=[2]) (qto (ak (i:=0))) rfl (cz (i:=3)) (aS (O1:=[2]) (cw (vQ (i:=2) (by decide) (qts me_int))) (oy oK (by decide) (aq (cX (eL (bw:=none) (fE (ak (i:=3))) (cz (i:=0)) fG (ca qwi (aq (ak (i:=0)) (aq (ak (i:=1)) aD))))) aD) rfl))) rfl) (cu rfl (cX (qof (ak (i:=2)))) rfl)))⟩
abbrev Bo:=(am (a9 f_y26 (am (aa 0) (am (aa 3) ag))) ag)
def rX:aI:=
 (aE (a9 f_y29 (am (a9 f_y25 gF) Bo)))
def f_y30:List D->Option D:=aM false 4 4 rX
theorem qwh:bY 4 f_y30:=cZ
theorem qss(T:Txt K mg a):FnOk P w K mg base bB 7 a.f_y30 a.fd_y30 nX (cq K false 4 f_y30):=by
 refine T.F_y30.ok qr6 (λ_ _ _ _ h=>h.1) (λcdv A outer s H vs Q E hr h=>?_)
 ·refine⟨_,(aW (bU (ba (Dx T) hr.m T.D_y29 (aj (ba (Dv T) hr.m T.D_y25 (aj (pv 0) (aj (pv 1) (aj (pv 2) ay)))) (aj (ba (Dw T) hr.m T.D_y26 (aj (pv 0) (aj (pv 3) ay))) ay))))),?_⟩;exact Gu (O':=[]) (Nms:=nX) (f:=rX) (by unfold rX;exact(cu rfl (ca Ck (aq (ca Ci (aq (ak (i:=0)) (aq (ak (i:=1)) (aq (ak (i:=2)) aD)))) (aq (ca Cj (aq (ak (i:=0)) (aq (ak (i:=3)) aD))) aD))) rfl)) h
abbrev uM:=(pI 2 (a9 f_y29 (am (aa 1) Bo)) (aa 3))
abbrev A5:=(bD (bh (gO f_y8 (am (aa 0) ag))))
def vG:aI:=
 (av (mw 2)
 (av (bA A5 (ai 3)
   uM)
 (aE (aa 2))))
def f_y31:List D->Option D:=aM false 2 4 vG
theorem qwg:bY 2 f_y31:=cZ
theorem qsr(T:Txt K mg a):FnOk P w K mg base bB 4 a.f_y31 a.fd_y31 ["scheme","steps"] (cq K false 2 f_y31):=by
 exact cV T.D_y31.F sc_y31 λ_ _ _ _ _ _ hr=>⟨_,(aQ (bK 2 sc_y31.nd qnt) (aQ (gL x8 rfl (fI (K:=K) rfl (ba (qvz T) hr.m T.D_y8 (aj (pv 0) ay))) (fm 3 sc_y31.nd) (aW (sU (ba (Dx T) hr.m T.D_y29 (aj (pv 1) (aj (ba (Dw T) hr.m T.D_y26 (aj (pv 0) (aj (pv 3) ay))) ay))) (DH (pv 2) (pv 3) qvj)))) (aW (bU (pv 2))))),by unfold vG;exact(aS (O1:=[2]) (qoe rfl) (aS (O1:=[]) (p0 (hJ (O':=[2]) (fE (cX (hW zS (aq (ak (i:=0)) aD)))) rfl (cz (i:=3)) (qod (by decide) (ca Ck (aq (ak (i:=1)) (aq (ca Cj (aq (ak (i:=0)) (aq (ak (i:=3)) aD))) aD))) (ak (i:=3)) rfl)) rfl) (cu rfl (ak (i:=2)) rfl)))⟩
def sn:aI:=
 (av (aA 3 (af bj (af bj (af fY (aa 1) (af bj (aa 0) (ae (.int 0)))) (aa 2)) (af bj (aa 0) (ae (.int 1)))))
 (aE (i3 (bz (af iP (aa 3) (ae .non))) (ae .non) (af cD (af bj (aa 0) (ae (.int 2))) (aa 3)))))
def f_y32:List D->Option D:=aM false 3 4 sn
theorem Cm:bY 3 f_y32:=cZ
theorem Cw(T:Txt K mg a):FnOk P w K mg base bB 1 a.f_y32 a.fd_y32 l5 (cq K false 3 f_y32):=by
 exact cV T.D_y32.F sc_y32 λ_ _ _ _ _ _ hr=>⟨_,(aQ (bK 3 sc_y32.nd (bc (bf (K:=K) rfl) (bc (bf (K:=K) rfl) (bc An (pv 1) (bc (bf (K:=K) rfl) (pv 0) aC)) (pv 2)) (bc (bf (K:=K) rfl) (pv 0) aC))) (aW (bU (jT (df vW (pv 3) iZ (c8)) iZ (bQ (fH (K:=K) rfl) (bc (bf (K:=K) rfl) (pv 0) aC) (pv 3)))))),by unfold sn;exact(aS (O1:=[]) (cw (aG bq (aG bq (aG qs8 (ak (i:=1)) (aG bq (ak (i:=0)) me_int)) (ak (i:=2))) (aG bq (ak (i:=0)) me_int))) (cu rfl (kt (de (c7 vY (ak (i:=3)) me_non.mb)) me_non (aG fN (aG bq (ak (i:=0)) me_int) (ak (i:=3)))) rfl))⟩
def C3:aI:=
 (av (aA 3 (aH bI (aa 0)))
 (av (aA 4 (bh (cG 1 [2,3] none (bD (aa 1)) (ai 0) (bz (af iW (a9 f_y32 gF) (ae .non))) (aa 0))))
 (aE (cc (am (aH r8 (bh (cG 1 [2,3] none (bD (aa 4)) (ai 0) (ae true) (a9 f_y32 gF)))) (am (aa 0) (am (aa 4) ag)))))))
def f_y33:List D->Option D:=aM false 3 5 C3
theorem Cn:bY 3 f_y33:=cZ
theorem Dy(T:Txt K mg a):FnOk P w K mg base bB 2 a.f_y33 a.fd_y33 ui (cq K false 3 f_y33):=by
 exact cV T.D_y33.F sc_y33 λ_ _ _ _ _ _ hr=>⟨_,(aQ (bK 3 sc_y33.nd (dg (fy (K:=K) rfl) (by rfl) T.z_len (by rfl) (aj (pv 0) ay))) (aQ (jR (k:=4) (sc:=aN pK) (N0:=uu) rfl rfl rfl (show dD _ _ l5 1 [2,3] _=true by decide+kernel) sc_y33.nd rfl (Or.inl rfl) (fI (K:=K) rfl (pv 1)) (λ_ _ _ _ _=>(dQ (i:=0) (show List.Nodup (l5:List Str)from(by decide+kernel)) rfl (Or.inl rfl))) (ff (by decide)) (λ_ _ _ _ _=>(tD (df wR (ba (Cw T) hr.m T.D_y32 (aj (pv 0) (aj (pv 1) (aj (pv 2) ay)))) iZ (c8)))) (λ_ _ _ _ _=>(pv 0))) (aW (bU (iy (aj (dg (qf9 (K:=K) rfl rfl) (by rfl) T.z_min (by rfl) (aj (gM (sc:=aN pK) (N0:=uu) rfl rfl rfl (show dD _ _ l5 1 [2,3] _=true by decide+kernel) (fI (K:=K) rfl (pv 4)) (λ_ _ _ _ _=>(dQ (i:=0) (show List.Nodup (l5:List Str)from(by decide+kernel)) rfl (Or.inl rfl))) (ff (by decide)) (λ_ _ _ _ _=>fw) (λ_ _ _ _ _=>(ba (Cw T) hr.m T.D_y32 (aj (pv 0) (aj (pv 1) (aj (pv 2) ay)))))) ay)) (aj (pv 0) (aj (pv 4) ay)))))))),by unfold C3;exact(aS (O1:=[]) (cw (dH fu eB)) (aS (O1:=[]) (kF (eL (bw:=none) (fE (ak (i:=1))) (cz (i:=0)) (de (c7 wU (ca Cm (aq (ak (i:=0)) (aq (ak (i:=1)) (aq (ak (i:=2)) aD)))) me_non.mb)) (ak (i:=0))) rfl (by decide)) (cu rfl (ix (aq (dH qpr (cX (eL (bw:=none) (fE (ak (i:=4))) (cz (i:=0)) fG (ca Cm (aq (ak (i:=0)) (aq (ak (i:=1)) (aq (ak (i:=2)) aD)))))).mb) (aq (ak (i:=0)) (aq (ak (i:=4)) aD)))) rfl)))⟩
def vH:aI:=
 (av (aA 3 (af bj (af bj (aa 2) (af bj (aa 0) (ae (.int 1)))) (aa 1)))
 (aE (cc (am (af bj (aa 0) (ae (.int 0))) (am (af bj (aa 3) (ae (.int 0))) (am (af cD (af bj (aa 0) (ae (.int 2))) (af bj (aa 3) (ae (.int 1)))) ag))))))
def f_y34:List D->Option D:=aM false 3 4 vH
theorem qwf:bY 3 f_y34:=cZ
theorem qsp(T:Txt K mg a):FnOk P w K mg base bB 1 a.f_y34 a.fd_y34 oW (cq K false 3 f_y34):=by
 exact cV T.D_y34.F sc_y34 λ_ _ _ _ _ _ hr=>⟨_,(aQ (bK 3 sc_y34.nd (bc (bf (K:=K) rfl) (bc (bf (K:=K) rfl) (pv 2) (bc (bf (K:=K) rfl) (pv 0) aC)) (pv 1))) (aW (bU (iy (aj (bc (bf (K:=K) rfl) (pv 0) aC) (aj (bc (bf (K:=K) rfl) (pv 3) aC) (aj (bQ (fH (K:=K) rfl) (bc (bf (K:=K) rfl) (pv 0) aC) (bc (bf (K:=K) rfl) (pv 3) aC)) ay))))))),by unfold vH;exact(aS (O1:=[]) (cw (aG bq (aG bq (ak (i:=2)) (aG bq (ak (i:=0)) me_int)) (ak (i:=1)))) (cu rfl (ix (aq (aG bq (ak (i:=0)) me_int) (aq (aG bq (ak (i:=3)) me_int) (aq (aG fN (aG bq (ak (i:=0)) me_int) (aG bq (ak (i:=3)) me_int)) aD)))) rfl))⟩
abbrev BN:=(aE (a9 f_y33 (am (af cD (af bj (aa 0) (ae (.int 1))) (bh (aY (am (aa 1) ag)))) (am (aa 4) (am (aa 3) ag)))))
abbrev A4:=(bD (af bj (aa 0) (ae (.int 2))))
def C4:aI:=
 (av (aA 4 (bh (cG 1 [1,2] none A4 (ai 0) (ae true) (a9 f_y34 gF))))
 BN)
def f_y35:List D->Option D:=aM false 4 5 C4
theorem Co:bY 4 f_y35:=cZ
theorem Cy(T:Txt K mg a):FnOk P w K mg base bB 3 a.f_y35 a.fd_y35 ut (cq K false 4 f_y35):=by
 exact cV T.D_y35.F sc_y35 λ_ _ _ _ _ _ hr=>⟨_,(aQ (jR (k:=4) (sc:=aN sH) (N0:=Bi) rfl rfl rfl (show dD _ _ oW 1 [1,2] _=true by decide+kernel) sc_y35.nd rfl (Or.inl rfl) (fI (K:=K) rfl (bc (bf (K:=K) rfl) (pv 0) aC)) (λ_ _ _ _ _=>(dQ (i:=0) (show List.Nodup (oW:List Str)from(by decide+kernel)) rfl (Or.inl rfl))) (ff (by decide)) (λ_ _ _ _ _=>fw) (λ_ _ _ _ _=>(ba (qsp T) hr.m T.D_y34 (aj (pv 0) (aj (pv 1) (aj (pv 2) ay)))))) (aW (bU (ba (Dy T) hr.m T.D_y33 (aj (bQ (fH (K:=K) rfl) (bc (bf (K:=K) rfl) (pv 0) aC) (fv (aj (pv 1) ay))) (aj (pv 4) (aj (pv 3) ay))))))),by unfold C4;exact(aS (O1:=[]) (kF (eL (bw:=none) (fE (aG bq (ak (i:=0)) me_int)) (cz (i:=0)) fG (ca qwf (aq (ak (i:=0)) (aq (ak (i:=1)) (aq (ak (i:=2)) aD))))) rfl (by decide)) (cu rfl (ca Cn (aq (aG fN (aG bq (ak (i:=0)) me_int) (cX (fF (aq (ak (i:=1)) aD)))) (aq (ak (i:=4)) (aq (ak (i:=3)) aD)))) rfl))⟩
abbrev dF:Pos:=⟨147,29,147,63⟩
abbrev dE:Str:=(("first_ones"++".<locals>.":Str)++"<lambda>")
def f_y36:List D->Option D:=mE
theorem Cp:bY 2 f_y36:=qku
theorem Cz(T:Txt K mg a):FnOk P w K mg base bB 4 a.f_y36 a.fd_y36 ["found","most"] (fT K a.t_y36 dF dE 2 f_y36):=by refine T.D_y36.F.okL qr5 (λvs H Q E h=>h.1) λA outer s H vs Q E hr h=>?_;refine⟨_,aW (bU (tP (tJ (K:=K) rfl) (qen (v:="begun") (c:=a.c_y36) (P:=a.t_y36) (k:=1) rfl rfl hr.m (by rfl) T.z_sorted (pv 0) rfl rfl rfl T.cd_y36 T.ch_y36 T.bt_y36 rfl rfl rfl rfl (by decide+kernel) (by decide+kernel) (λ_ _ _ _=>rfl)) tF (tG (pv 1)))),?_⟩;exact qfr (by decide) h
abbrev rE:=(am (aa 0) (am (ae (.int 0)) ag))
abbrev uI:=(am (af bj (aa 0) (ae (.int 0))) A9)
abbrev uU:=(av (dU i0 8 (am (a9 f_y35 (am (aa 9) (am (ae (.int 0)) (am (aa 7) (am (aa 5) ag))))) ag)) (dU i0 8 (am (a9 f_y35 (am (aa 9) (am (ae (.int 1)) (am (aa 7) (am (aa 5) ag))))) ag)))
abbrev Bf:=(bD (oP (aa 4) (ae none) (oA (aa 1))))
abbrev Bm:=(aA 5 (a9 f_y31 (am (aa 0) (am (aa 4) ag))))
def Cb(P0:Addr):aI:=
 (av (aA 4 (a9 f_y25 gF))
 (av Bm
 (av (aA 6 (bh (aY (am (a9 f_y33 (am (bh (aY ag)) (am (bh (cG 1 [] none (mF (aa 5)) (ai 0) (ae true) (cc (am (aa 0) rE)))) (am (aa 5) ag)))) ag))))
 (av (bA Bf (ai 7)
   (av (cI 8 (aY ag)) (av (bA (bD (aa 6)) (ai 9)
   uU) (aA 6 (jN 10 P0 dF dE f_y36 (am (aa 8) (am (aa 3) ag)))))))
 (aE (bh (cG 1 [] none (bD (jN 10 P0 dF dE f_y36 (am (aa 6) (am (aa 3) ag)))) (ai 0) (ae true) (cc uI))))))))
def f_few(P0:Addr):List D->Option D:=ky false 4 11 10 (.tab P0 dF dE) (Cb P0)
theorem qwt{P0:Addr}:bY 4 (f_few P0):=En
theorem qt8(T:Txt K mg a):FnOk P w K mg base bB 7 a.f_few a.fd_few rD (fT K a.t_y36 dF dE 4 (f_few a.t_y36)):=by
 refine T.F_few.okT (z:="@t") (j:=10) (u:=.ref a.t_y36) sc_few rfl (by unfold km;decide+kernel) (λvs H Q E h=>h.1) (λcdv A outer s H vs Q E hr h=>?_);refine⟨_,(aQ (bK 4 sc_few.nd (ba (Dv T) hr.m T.D_y25 (aj (pv 0) (aj (pv 1) (aj (pv 2) ay))))) (aQ (bK 5 sc_few.nd (ba (qsr T) hr.m T.D_y31 (aj (pv 0) (aj (pv 4) ay)))) (aQ (bK 6 sc_few.nd (fv (aj (ba (Dy T) hr.m T.D_y33 (aj (fv ay) (aj (gM (sc:=aN mx) (N0:=rK) rfl rfl rfl (show dD _ _ ["start"] 1 [] _=true by decide+kernel) (qju (pv 5)) (λ_ _ _ _ _=>(dQ (i:=0) (show List.Nodup (["start"]:List Str)from(by decide+kernel)) rfl (Or.inl rfl))) (ff (by decide)) (λ_ _ _ _ _=>fw) (λ_ _ _ _ _=>(iy (aj (pv 0) (aj (pv 0) (aj aC ay)))))) (aj (pv 5) ay)))) ay))) (aQ (gL x8 rfl (fI (K:=K) rfl (tP (tJ (K:=K) rfl) (pv 4) tF (tG (pv 1)))) (fm 7 sc_few.nd) (aQ (bK 8 sc_few.nd (fv ay)) (aQ (gL x8 rfl (fI (K:=K) rfl (pv 6)) (fm 9 sc_few.nd) (aQ (jS (lO F.plainAttrs_list F.slot_list_append F.type_list_append mT (pv 8) (aj (ba (Cy T) hr.m T.D_y35 (aj (pv 9) (aj aC (aj (pv 7) (aj (pv 5) ay))))) ay))) (aW (jS (lO F.plainAttrs_list F.slot_list_append F.type_list_append mT (pv 8) (aj (ba (Cy T) hr.m T.D_y35 (aj (pv 9) (aj aC (aj (pv 7) (aj (pv 5) ay))))) ay)))))) (aW (bK 6 sc_few.nd (ba (Cz T) hr.m T.D_y36 (aj (pv 8) (aj (pv 3) ay)))))))) (aW (bU (gM (sc:=aN mx) (N0:=rK) rfl rfl rfl (show dD _ _ ["begun"] 1 [] _=true by decide+kernel) (fI (K:=K) rfl (ba (Cz T) hr.m T.D_y36 (aj (pv 6) (aj (pv 3) ay)))) (λ_ _ _ _ _=>(dQ (i:=0) (show List.Nodup (["begun"]:List Str)from(by decide+kernel)) rfl (Or.inl rfl))) (ff (by decide)) (λ_ _ _ _ _=>fw) (λ_ _ _ _ _=>(iy (aj (bc (bf (K:=K) rfl) (pv 0) aC) (aj (bc (bf (K:=K) rfl) (pv 0) aC) ay))))))))))),?_⟩;exact yl (O':=[]) (Nms:=rK) (by decide) (by unfold Cb;exact(aS (O1:=[]) (cw (ca Ci (aq (ak (i:=0)) (aq (ak (i:=1)) (aq (ak (i:=2)) aD))))) (aS (O1:=[]) (cw (ca qwg (aq (ak (i:=0)) (aq (ak (i:=4)) aD)))) (aS (O1:=[]) (cw (cX (fF (aq (ca Cn (aq (cX (fF aD)) (aq (cX (eL (bw:=none) (qk8 (ak (i:=5))) (cz (i:=0)) fG (ix (aq (ak (i:=0)) (aq (ak (i:=0)) (aq me_int aD)))))) (aq (ak (i:=5)) aD)))) aD)))) (aS (O1:=[]) (hJ (O':=[]) (fE (xO (ak (i:=4)) wM (wN (ak (i:=1))))) rfl (cz (i:=7)) (aS (O1:=[8]) (jO (fF aD) rfl) (aS (O1:=[]) (p0 (hJ (O':=[8]) (fE (ak (i:=6))) rfl (cz (i:=9)) (aS (O1:=[8]) (oy oK (by decide) (aq (ca Co (aq (ak (i:=9)) (aq me_int (aq (ak (i:=7)) (aq (ak (i:=5)) aD))))) aD) rfl) (oy oK (by decide) (aq (ca Co (aq (ak (i:=9)) (aq me_int (aq (ak (i:=7)) (aq (ak (i:=5)) aD))))) aD) rfl))) rfl) (cw (tW (by decide) Cp (aq (ak (i:=8)) (aq (ak (i:=3)) aD))))))) (cu rfl (cX (eL (bw:=none) (fE (tW (by decide) Cp (aq (ak (i:=6)) (aq (ak (i:=3)) aD)))) (cz (i:=0)) fG (ix (aq (aG bq (ak (i:=0)) me_int) (aq (aG bq (ak (i:=0)) me_int) aD))))) rfl)))))) h
abbrev nZ:=(am (ae (.str "clear")) (am (ae (.int 0)) ag))
abbrev Bv:=(am (aa 0) (am (aa 1) (am (aa 2) (am (ae (.int 2)) ag))))
abbrev BI:=(aE (i3 (bz (af fj (aH bI (aa 3)) (ae (.int 2)))) (af bj (aa 3) (ae (.int 1))) (ae .non)))
def Cd(P0:Addr):aI:=
 (av (aA 2 (bh (dL (aY (am (cc nZ) ag)) (aH bI nY))))
 (av (aA 3 (jN 4 P0 dF dE (f_few P0) Bv))
 BI))
def f_y37(P0:Addr):List D->Option D:=ky false 2 5 4 (.tab P0 dF dE) (Cd P0)
theorem qwe{P0:Addr}:bY 2 (f_y37 P0):=En
theorem qsm(T:Txt K mg a):FnOk P w K mg base bB 8 a.f_y37 a.fd_y37 ["scheme","size"] (fT K a.t_y36 dF dE 2 (f_y37 a.t_y36)):=by
 have G_few:=@qt8 P w K mg base a T;refine T.D_y37.F.okT (z:="@t") (j:=4) (u:=.ref a.t_y36) sc_y37 rfl (by unfold km;decide+kernel) (λvs H Q E h=>h.1) (λcdv A outer s H vs Q E hr h=>?_);refine⟨_,(aQ (bK 2 sc_y37.nd (bQ sS (fv (aj (iy (aj gg (aj aC ay))) ay)) (dg (fy (K:=K) rfl) (by rfl) T.z_len (by rfl) (aj (ba (vU T) hr.m T.D_y10 (aj (pv 0) (aj (pv 1) ay))) ay)))) (aQ (bK 3 sc_y37.nd (yC G_few hr.m (by rfl) T.mg_few T.F_few.kp T.B_few .nil lX (aj (pv 0) (aj (pv 1) (aj (pv 2) (aj aC ay)))))) (aW (bU (jT (df (fP (K:=K) rfl hr.units) (dg (fy (K:=K) rfl) (by rfl) T.z_len (by rfl) (aj (pv 3) ay)) aC (c8)) (bc (bf (K:=K) rfl) (pv 3) aC) iZ))))),?_⟩;exact yl (O':=[]) (Nms:=AW) (by decide) (by unfold Cd;exact(aS (O1:=[]) (cw (cX (sP (fF (aq (ix (aq me_str (aq me_int aD))) aD)) (dH fu (cX (hW vc (aq (ak (i:=0)) (aq (ak (i:=1)) aD)))).mb)))) (aS (O1:=[]) (cw (tW (by decide) qwt (aq (ak (i:=0)) (aq (ak (i:=1)) (aq (ak (i:=2)) (aq me_int aD)))))) (cu rfl (kt (de (c7 bP (dH fu eB) me_int.mb)) (aG bq (ak (i:=3)) me_int) me_non) rfl)))) h
abbrev A7:=(af re (ae (.int 10)) (ae (.int 60)))
def sr:aI:=
 (av (cR (bz (af oQ (aa 1) (aH bI (aa 0))))
   (aE (af dG (af bj (aa 0) (aa 1)) A7))
   aX)
 (aE (ae (.int 0))))
def f_y38:List D->Option D:=aM false 2 2 sr
theorem vd:bY 2 f_y38:=cZ
theorem u5(T:Txt K mg a):FnOk P w K mg base bB 1 a.f_y38 a.fd_y38 ["_law_script","_law_k"] (cq K false 2 f_y38):=by
 exact cV T.D_y38.F qr4 λ_ _ _ _ _ _ hr=>⟨_,(aQ (f9 (df pi (pv 1) (dg (fy (K:=K) rfl) (by rfl) T.z_len (by rfl) (aj (pv 0) ay)) (c8)) (aW (bU (bQ iY (bc (bf (K:=K) rfl) (pv 0) (pv 1)) (bQ DD aC aC)))) gh) (aW (bU aC))),by unfold sr;exact(aS (O1:=[]) (f8 (de (c7 i6 (ak (i:=1)) (dH fu eB).mb)) (cu rfl (aG iX (aG bq (ak (i:=0)) (ak (i:=1))) (aG Du me_int me_int)) rfl) (gf rfl)) (cu rfl me_int rfl))⟩
def vI:aI:=
 (oq (aY (am (af dG (af cD (af cD (af lP (af dG (aa 0) A7) (ae (.int 7368787))) (af lP (ae (.int 1000003)) (aa 1))) (ae (.int 17))) (ae (.int 2305843009213693951))) ag)))
def f_y39:List D->Option D:=aM true 2 2 vI
theorem ve:bY 2 f_y39:=cZ
theorem u6(T:Txt K mg a):FnOk P w K mg base bB 1 a.f_y39 a.fd_y39 ["_law_cell","_law_k"] (cq K true 2 f_y39):=by
 exact cV T.D_y39.F qr3 λ_ _ _ _ _ _ hr=>⟨_,(aW (bU (fv (aj (bQ iY (bQ (fH (K:=K) rfl) (bQ (fH (K:=K) rfl) (bQ (oE (K:=K) rfl) (bQ iY (pv 0) (bQ DD aC aC)) aC) (bQ (oE (K:=K) rfl) aC (pv 1))) aC) aC) ay)))),by unfold vI;exact(Ef rfl (fF (aq (aG iX (aG fN (aG fN (aG oB (aG iX (ak (i:=0)) (aG Du me_int me_int)) me_int) (aG oB me_int (ak (i:=1)))) me_int) me_int) aD)) rfl)⟩
def rY:aI:=
 (av (pp 0 (af dG (af cD (af lP (iL 0 (ae (.int 0))) (ae (.int 1181783497276652981))) (ae (.int 12345678910987))) (ae (.int 2305843009213693951))) (ae (.int 0)))
 (aE (af dG (af lC (iL 0 (ae (.int 0))) (ae (.int 65537))) (aa 1))))
def f_y40:List D->List D->Option (D×List D):=gv false 2 2 rY
theorem ku:pk 2 f_y40:=DN
theorem kr(T:Txt K mg a):FnOk P w K mg base bB 1 a.f_y40 a.fd_y40 oV (mf K false 2 f_y40):=by
 refine T.D_y40.F.ok qr2 (λ_ _ _ _ h=>h.1) (λcdv A outer s H vs Q E hr h=>?_)
 ·refine⟨_,(aQ (sU (bQ iY (bQ (fH (K:=K) rfl) (bQ (oE (K:=K) rfl) (bc (bf (K:=K) rfl) (pv 0) aC) aC) aC) aC) (DH (pv 0) aC jD)) (aW (bU (bQ iY (bQ wQ (bc (bf (K:=K) rfl) (pv 0) aC) aC) (pv 1))))),?_⟩;exact E7 (O':=[]) (Nms:=oV) (f:=rY) (by unfold rY;exact(aS (O1:=[0]) (qoc (by decide) (aG iX (aG fN (aG oB (vQ (i:=0) (by decide) me_int) me_int) me_int) me_int) me_int rfl) (cu rfl (aG iX (aG vS (vQ (i:=0) (by decide) me_int) me_int) (ak (i:=1))) rfl))) h
abbrev uG:=(am (af cD (ae (.int 1)) (gE f_y40 0 (am (ae (.int 4)) ag))) ag)
abbrev uH:=(am (af cD (ae (.int 1)) (gE f_y40 0 (am (ae (.int 6)) ag))) ag)
abbrev BP:=(aE (cc (am (aa 3) (am (aH lS (aa 4)) (am (aH lS (aa 5)) (am (af bj (aa 2) (gE f_y40 0 (am (aH bI (aa 2)) ag))) ag))))))
abbrev BX:=(am (aa 1) (am (af bj (bh (aY (am (ae (.int 0)) (am (ae (.int 1)) (am (ae (.int 2)) (am (ae (.int 2)) (am (ae (.int 3)) (am (ae (.int 1)) (am (ae (.int 2)) (am (ae (.int 3)) (am (ae (.int 4)) ag))))))))))) (gE f_y40 0 (am (ae (.int 9)) ag))) ag))
abbrev AX:=(gE f_y40 1 (am (ae (.int 4)) ag))
abbrev B0:=AX
abbrev A3:=(aH iQ (af ql B0 (ae (.int 0))))
abbrev uD:=(dU i0 5 (am (aH lS (bh (cG 1 [0] (some (0,1)) (bD (aa 4)) (ai 0) (ae true) A3))) ag))
def o8:aI:=
 (av (aA 3 (jY (λi j=>if j<i then j else i) BX))
 (av (aA 4 (bh (cG 1 [0,3] (some (0,1)) (fD uG) (ai 0) (ae true) (gE f_y40 1 (am (af cg (ae (.int 2)) (aa 2)) ag)))))
 (av (cI 5 (aY ag))
 (av (bA (fD uH) (ai 6)
   uD)
 BP))))
def f_y41:List D->List D->Option (D×List D):=gv false 3 7 o8
theorem qwd:pk 3 f_y41:=DN
abbrev A1:List Str:=["_law_k","_law_state_here","_law_reach"]
theorem qsi(T:Txt K mg a):FnOk P w K mg base bB 2 a.f_y41 a.fd_y41 uw (mf K false 3 f_y41):=by
 refine T.D_y41.F.ok sc_y41 (λ_ _ _ _ h=>h.1) (λcdv A outer s H vs Q E hr h=>?_)
 ·refine⟨_,(aQ (bK 3 sc_y41.nd (dg (Fm rfl) (by rfl) T.z_min (by rfl) (aj (pv 1) (aj (bc (bf (K:=K) rfl) (fv (aj aC (aj aC (aj aC (aj aC (aj aC (aj aC (aj aC (aj aC (aj aC ay)))))))))) (ba (kr T) hr.m T.D_y40 (aj (pv 0) (aj aC ay)))) ay)))) (aQ (jR (k:=4) (sc:=aN pL) (N0:=rH) rfl rfl rfl (show dD _ _ A1 1 [0,3] _=true by decide+kernel) sc_y41.nd rfl (Or.inl rfl) (iC (by rfl) T.z_range (aj (bQ (fH (K:=K) rfl) aC (ba (kr T) hr.m T.D_y40 (aj (pv 0) (aj aC ay)))) ay)) (λ_ _ _ _ _=>(dQ (i:=0) (show List.Nodup (A1:List Str)from(by decide+kernel)) rfl (Or.inl rfl))) (ff (by decide)) (λ_ _ _ _ _=>fw) (λ_ _ _ _ _=>(ba (kr T) hr.m T.D_y40 (aj (pv 1) (aj (bQ pT aC (pv 2)) ay))))) (aQ (bK 5 sc_y41.nd (fv ay)) (aQ (gL x8 rfl (iC (by rfl) T.z_range (aj (bQ (fH (K:=K) rfl) aC (ba (kr T) hr.m T.D_y40 (aj (pv 0) (aj aC ay)))) ay)) (fm 6 sc_y41.nd) (aW (jS (lO F.plainAttrs_list F.slot_list_append F.type_list_append mT (pv 5) (aj (kL (qh (K:=K) rfl) (by rfl) T.z_tuple (by rfl) (aj (gM (sc:=aN pL) (N0:=rH) rfl rfl rfl (show dD _ _ ["_law_tap","_law_state_here"] 1 [0] _=true by decide+kernel) (fI (K:=K) rfl (pv 4)) (λ_ _ _ _ _=>(dQ (i:=0) (show List.Nodup (["_law_tap","_law_state_here"]:List Str)from(by decide+kernel)) rfl (Or.inl rfl))) (ff (by decide)) (λ_ _ _ _ _=>fw) (λ_ _ _ _ _=>(kL Fl (by rfl) T.z_int (by rfl) (aj (wW si (ba (kr T) hr.m T.D_y40 (aj (pv 1) (aj aC ay))) aC (c8)) ay)))) ay)) ay))))) (aW (bU (iy (aj (pv 3) (aj (kL (qh (K:=K) rfl) (by rfl) T.z_tuple (by rfl) (aj (pv 4) ay)) (aj (kL (qh (K:=K) rfl) (by rfl) T.z_tuple (by rfl) (aj (pv 5) ay)) (aj (bc (bf (K:=K) rfl) (pv 2) (ba (kr T) hr.m T.D_y40 (aj (pv 0) (aj (dg (fy (K:=K) rfl) (by rfl) T.z_len (by rfl) (aj (pv 2) ay)) ay)))) ay))))))))))),?_⟩;exact E7 (O':=[]) (Nms:=rH) (f:=o8) (by unfold o8;exact(aS (O1:=[0]) (cw (va (aq (ak (i:=1)) (aq (aG bq (cX (fF (aq me_int (aq me_int (aq me_int (aq me_int (aq me_int (aq me_int (aq me_int (aq me_int (aq me_int aD))))))))))) (kH (i:=0) ku (by decide) (aq me_int aD))) aD)))) (aS (O1:=[0]) (kF (eL (bw:=(some (0,1))) (iB (aq (aG fN me_int (kH (i:=0) ku (by decide) (aq me_int aD))) aD)) (cz (i:=0)) fG (kH (i:=1) ku (by decide) (aq (aG pQ me_int (ak (i:=2))) aD))) rfl (by decide)) (aS (O1:=[0,5]) (jO (fF aD) rfl) (aS (O1:=[0]) (p0 (hJ (O':=[0,5]) (iB (aq (aG fN me_int (kH (i:=0) ku (by decide) (aq me_int aD))) aD)) rfl (cz (i:=6)) (oy oK (by decide) (aq (qc p7 (cX (eL (bw:=(some (0,1))) (fE (ak (i:=4))) (cz (i:=0)) fG (dH Dd (c7 i6 (kH (i:=1) ku (by decide) (aq me_int aD)) me_int.mb).mb)))) aD) rfl)) rfl) (cu rfl (ix (aq (ak (i:=3)) (aq (qc p7 (ak (i:=4))) (aq (qc p7 (ak (i:=5))) (aq (aG bq (ak (i:=2)) (kH (i:=0) ku (by decide) (aq (dH fu eB) aD))) aD))))) rfl)))))) h
abbrev uQ:=(av (aA 1 (af dG (af cD (aa 1) (af dG (aa 0) (ae (.int 2)))) (ae (.int 2)))) (aA 0 (af lC (aa 0) (ae (.int 2)))))
abbrev um:=(bz (af ql (aa 0) (ae (.int 0))))
def vJ:aI:=
 (av (aA 1 (ae (.int 0)))
 (av (ia um
   uQ 1000)
 (aE (aa 1))))
def f_y42:List D->Option D:=aM false 1 2 vJ
theorem qwc:bY 1 f_y42:=cZ
theorem qsh(T:Txt K mg a):FnOk P w K mg base bB 1 a.f_y42 a.fd_y42 ["_law_number"] (cq K false 1 f_y42):=by
 exact cV T.D_y42.F sc_y42 λ_ _ _ _ _ _ hr=>⟨_,(aQ (bK 1 sc_y42.nd aC) (aQ (E1 x8 (df si (pv 0) aC (c8)) (aQ (bK 1 sc_y42.nd (bQ iY (bQ (fH (K:=K) rfl) (pv 1) (bQ iY (pv 0) aC)) aC)) (aW (bK 0 sc_y42.nd (bQ wQ (pv 0) aC))))) (aW (bU (pv 1))))),by unfold vJ;exact(aS (O1:=[]) (cw me_int) (aS (O1:=[]) (ET (O':=[]) (de (c7 i6 (ak (i:=0)) me_int.mb)) rfl (aS (O1:=[]) (cw (aG iX (aG fN (ak (i:=1)) (aG iX (ak (i:=0)) me_int)) me_int)) (cw (aG vS (ak (i:=0)) me_int)))) (cu rfl (ak (i:=1)) rfl)))⟩
abbrev BL:=(aA 6 (af bj (af bj (aa 0) (ae (.int 2))) (af dG (aa 1) (aH bI (af bj (aa 0) (ae (.int 2)))))))
abbrev oZ:=(af cD (af lP (ae (.int 2)) (aa 2)) (aa 3))
abbrev uz:=(af fj (af bj (aa 2) (aa 0)) (ae (.int 1)))
def C5:aI:=
 (av (aA 4 oZ)
 (av (aA 5 (bh (cG 1 [4] none ur (ai 0) (ae true) (a9 f_y42 oX))))
 (av BL
 (aE (cc (am (af dG (aa 4) (af cg (ae (.int 1)) (af bj (aa 0) (ae (.int 0))))) (am (bh (cG 1 [5,6] none (fD (am (aH bI (aa 5)) ag)) (ai 0) (bz uz) (af bj (aa 1) (aa 0)))) ag)))))))
def f_y43:List D->Option D:=aM false 4 7 C5
theorem Cq:bY 4 f_y43:=cZ
abbrev AV:List Str:=["_law_k","_law_signs","_law_line"]
theorem Dz(T:Txt K mg a):FnOk P w K mg base bB 2 a.f_y43 a.fd_y43 uB (cq K false 4 f_y43):=by
 exact cV T.D_y43.F sc_y43 λ_ _ _ _ _ _ hr=>⟨_,(aQ (bK 4 sc_y43.nd (bQ (fH (K:=K) rfl) (bQ (oE (K:=K) rfl) aC (pv 2)) (pv 3))) (aQ (bK 5 sc_y43.nd (gM (sc:=aN pM) (N0:=uL) rfl rfl rfl (show dD _ _ ["_law_tap","_law_both"] 1 [4] _=true by decide+kernel) (fI (K:=K) rfl (bc (bf (K:=K) rfl) (pv 0) aC)) (λ_ _ _ _ _=>(dQ (i:=0) (show List.Nodup (["_law_tap","_law_both"]:List Str)from(by decide+kernel)) rfl (Or.inl rfl))) (ff (by decide)) (λ_ _ _ _ _=>fw) (λ_ _ _ _ _=>(ba (qsh T) hr.m T.D_y42 (aj (bQ vV (pv 1) (pv 0)) ay))))) (aQ (bK 6 sc_y43.nd (bc (bf (K:=K) rfl) (bc (bf (K:=K) rfl) (pv 0) aC) (bQ iY (pv 1) (dg (fy (K:=K) rfl) (by rfl) T.z_len (by rfl) (aj (bc (bf (K:=K) rfl) (pv 0) aC) ay))))) (aW (bU (iy (aj (bQ iY (pv 4) (bQ pT aC (bc (bf (K:=K) rfl) (pv 0) aC))) (aj (gM (sc:=aN pM) (N0:=uL) rfl rfl rfl (show dD _ _ AV 1 [5,6] _=true by decide+kernel) (iC (by rfl) T.z_range (aj (dg (fy (K:=K) rfl) (by rfl) T.z_len (by rfl) (aj (pv 5) ay)) ay)) (λ_ _ _ _ _=>(dQ (i:=0) (show List.Nodup (AV:List Str)from(by decide+kernel)) rfl (Or.inl rfl))) (ff (by decide)) (λ_ _ _ _ _=>(tD (df (fP (K:=K) rfl hr.units) (bc (bf (K:=K) rfl) (pv 2) (pv 0)) aC (c8)))) (λ_ _ _ _ _=>(bc (bf (K:=K) rfl) (pv 1) (pv 0)))) ay)))))))),by unfold C5;exact(aS (O1:=[]) (cw (aG fN (aG oB me_int (ak (i:=2))) (ak (i:=3)))) (aS (O1:=[]) (cw (cX (eL (bw:=none) (fE (aG bq (ak (i:=0)) me_int)) (cz (i:=0)) fG (ca qwc (aq (aG vR (ak (i:=1)) (ak (i:=0))) aD))))) (aS (O1:=[]) (cw (aG bq (aG bq (ak (i:=0)) me_int) (aG iX (ak (i:=1)) (dH fu (aG bq (ak (i:=0)) me_int).mb)))) (cu rfl (ix (aq (aG iX (ak (i:=4)) (aG pQ me_int (aG bq (ak (i:=0)) me_int))) (aq (cX (eL (bw:=none) (iB (aq (dH fu eB) aD)) (cz (i:=0)) (de (c7 bP (aG bq (ak (i:=2)) (ak (i:=0))) me_int.mb)) (aG bq (ak (i:=1)) (ak (i:=0))))) aD))) rfl))))⟩
def sy:aI:=
 (av (aA 2 (ae (.int 0)))
 (av (cR (bz ma)
   (bA (bD (aa 1)) (ai 3)
   (aA 2 (af dG oZ (af cg (ae (.int 1)) (af bj (aa 0) (ae (.int 0)))))))
   aX)
 (aE (aa 2))))
def f_y44:List D->Option D:=aM false 2 4 sy
theorem qwb:bY 2 f_y44:=cZ
theorem qsg(T:Txt K mg a):FnOk P w K mg base bB 1 a.f_y44 a.fd_y44 nW (cq K false 2 f_y44):=by
 exact cV T.D_y44.F sc_y44 λ_ _ _ _ _ _ hr=>⟨_,(aQ (bK 2 sc_y44.nd aC) (aQ (f9 (df (fP (K:=K) rfl hr.units) (bc (bf (K:=K) rfl) (pv 0) aC) gg (c8)) (aW (gL x8 rfl (fI (K:=K) rfl (pv 1)) (fm 3 sc_y44.nd) (aW (bK 2 sc_y44.nd (bQ iY (bQ (fH (K:=K) rfl) (bQ (oE (K:=K) rfl) aC (pv 2)) (pv 3)) (bQ pT aC (bc (bf (K:=K) rfl) (pv 0) aC))))))) gh) (aW (bU (pv 2))))),by unfold sy;exact(aS (O1:=[]) (cw me_int) (aS (O1:=[]) (f8 (de (c7 bP (aG bq (ak (i:=0)) me_int) me_str.mb)) (hJ (O':=[]) (fE (ak (i:=1))) rfl (cz (i:=3)) (cw (aG iX (aG fN (aG oB me_int (ak (i:=2))) (ak (i:=3))) (aG pQ me_int (aG bq (ak (i:=0)) me_int))))) (gf rfl)) (cu rfl (ak (i:=2)) rfl)))⟩
abbrev BW:=(iI (a9 f_y43 (am (aa 0) (am (aa 5) (am (aa 3) (am (af bj (aa 2) (aa 5)) ag))))) (eQ 2 (cT (ai 3) (cT (ai 6) e9))))
abbrev Bg:=(av BW (cI 4 (pG pF (aa 4) (aa 6))))
abbrev Bl:=(aA 3 (a9 f_y44 (am (aa 0) (am (aa 1) ag))))
abbrev BJ:=(cR rL (aA 2 (af cD (aa 2) (bh (dL (aY (am (ae (.int 0)) ag)) (af bj (aa 0) (ae (.int 0))))))) aX)
def C6:aI:=
 (av (aA 2 (bh (i7 d5 (aa 1))))
 (av BJ
 (av Bl
 (av (cI 4 (aY ag))
 (av (bA (fD (am (aH bI (aa 2)) ag)) (ai 5)
   Bg)
 (kA 4))))))
def f_y45:List D->Option D:=aM true 2 7 C6
theorem om:bY 2 f_y45:=cZ
theorem n9(T:Txt K mg a):FnOk P w K mg base bB 3 a.f_y45 a.fd_y45 nW (cq K true 2 f_y45):=by
 exact cV T.D_y45.F sc_y45 λ_ _ _ _ _ _ hr=>⟨_,(aQ (bK 2 sc_y45.nd (kL (FU (K:=K) rfl) (by rfl) T.z_list (by rfl) (aj (pv 1) ay))) (aQ (f9 (df (fP (K:=K) rfl hr.units) (bc (bf (K:=K) rfl) (pv 0) aC) gg (c8)) (aW (bK 2 sc_y45.nd (bQ (fH (K:=K) rfl) (pv 2) (bQ sS (fv (aj aC ay)) (bc (bf (K:=K) rfl) (pv 0) aC))))) gh) (aQ (bK 3 sc_y45.nd (ba (qsg T) hr.m T.D_y44 (aj (pv 0) (aj (pv 1) ay)))) (aQ (bK 4 sc_y45.nd (fv ay)) (aQ (gL x8 rfl (iC (by rfl) T.z_range (aj (dg (fy (K:=K) rfl) (by rfl) T.z_len (by rfl) (aj (pv 2) ay)) ay)) (fm 5 sc_y45.nd) (aQ (sU (ba (Dz T) hr.m T.D_y43 (aj (pv 0) (aj (pv 5) (aj (pv 3) (aj (bc (bf (K:=K) rfl) (pv 2) (pv 5)) ay))))) (mN (K:=K) rfl rfl (hX (fm 3 sc_y45.nd) (hX (fm 6 sc_y45.nd) mO)))) (aW (bK 4 sc_y45.nd (bQ (fH (K:=K) rfl) (pv 4) (pv 6)))))) (aW (bU (pv 4)))))))),by unfold C6;exact(aS (O1:=[]) (cw (cX (ER D4 (ak (i:=1))))) (aS (O1:=[]) (f8 (de (c7 bP (aG bq (ak (i:=0)) me_int) me_str.mb)) (cw (aG fN (ak (i:=2)) (cX (sP (fF (aq me_int aD)) (aG bq (ak (i:=0)) me_int))))) (gf rfl)) (aS (O1:=[]) (cw (ca qwb (aq (ak (i:=0)) (aq (ak (i:=1)) aD)))) (aS (O1:=[4]) (jO (fF aD) rfl) (aS (O1:=[4]) (hJ (O':=[4]) (iB (aq (dH fu eB) aD)) rfl (cz (i:=5)) (aS (O1:=[]) (Ds (ca Cq (aq (ak (i:=0)) (aq (ak (i:=5)) (aq (ak (i:=3)) (aq (aG bq (ak (i:=2)) (ak (i:=5))) aD))))) rfl (mG (hV (cz (i:=3)) (hV (cz (i:=6)) mM)))) (jO (qwu qsa (ak (i:=4)) (ak (i:=6))) rfl))) (wO rfl (by first|decide|simp) rfl (by first|decide|simp)))))))⟩
def vK:aI:=
 (aE (pH (aH (gW (gG "int")) (aa 0)) (sh (aH (gW (gG "bool")) (aa 0)))))
def f_y46:List D->Option D:=aM false 1 1 vK
theorem Cr:bY 1 f_y46:=cZ
theorem DB(T:Txt K mg a):FnOk P w K mg base bB 1 a.f_y46 a.fd_y46 ["_law_found"] (cq K false 1 f_y46):=by
 exact cV T.D_y46.F qr1 λ_ _ _ _ _ _ hr=>⟨_,(aW (bU (DF (dg (tN (K:=K) rfl) (by rfl) T.z_isinstance (by rfl) (aj (pv 0) (aj (tx (v:=.ty "int") (by rfl) T.z_int (by rfl) rfl) ay))) (DG (qs0 (dg (tN (K:=K) rfl) (by rfl) T.z_isinstance (by rfl) (aj (pv 0) (aj (tx (v:=.ty "bool") (by rfl) T.z_bool (by rfl) rfl) ay)))))))),by unfold vK;exact(cu rfl (Dp (sN (qou T) eB) (qtr (sN (qkl T) eB))) rfl)⟩
abbrev BO:=(cR (lY (gS (bz (aH (gW (gG "list")) (aa 0)))) (bz (af kO (aH bI (aa 0)) (aa 1)))) (aE (ae (.bl false))) aX)
abbrev uK:=(pH (a9 f_y46 (am (aa 0) ag)) (tK Gy Gy (ae (.int 0)) (aa 0) (ae (.int 1))))
def vL:aI:=
 (av BO
 (aE (aH lD (bh (cG 1 [] none (bD (aa 0)) (ai 0) (ae true) uK)))))
def f_y47:List D->Option D:=aM false 2 2 vL
theorem qwa:bY 2 f_y47:=cZ
theorem qsf(T:Txt K mg a):FnOk P w K mg base bB 2 a.f_y47 a.fd_y47 oU (cq K false 2 f_y47):=by
 exact cV T.D_y47.F qqz λ_ _ _ _ _ _ hr=>⟨_,(aQ (f9 (PW.pt (gz (sV (mI (dg (tN (K:=K) rfl) (by rfl) T.z_isinstance (by rfl) (aj (pv 0) (aj (tx (v:=.ty "list") (by rfl) T.z_list (by rfl) rfl) ay))))) (gY (df (pR (K:=K) rfl hr.units) (dg (fy (K:=K) rfl) (by rfl) T.z_len (by rfl) (aj (pv 0) ay)) (pv 1) (c8))))) (aW (bU mq)) gh) (aW (bU (dg (qlb (K:=K) rfl rfl) (by rfl) T.z_all (by rfl) (aj (gM (sc:=aN sI) (N0:=oU) rfl rfl rfl (show dD _ _ ["_law_bit"] 1 [] _=true by decide+kernel) (fI (K:=K) rfl (pv 0)) (λ_ _ _ _ _=>(dQ (i:=0) (show List.Nodup (["_law_bit"]:List Str)from(by decide+kernel)) rfl (Or.inl rfl))) (ff (by decide)) (λ_ _ _ _ _=>fw) (λ_ _ _ _ _=>(DF (ba (DB T) hr.m T.D_y46 (aj (pv 0) ay)) (DG (qjw CD CD aC (pv 0) aC))))) ay))))),by unfold vL;exact(aS (O1:=[]) (f8 (ph (sQ (mH (sN (qkk T) eB))) (de (c7 pj (dH fu eB) eB))) (cu rfl mm rfl) (gf rfl)) (cu rfl (dH qv1 (cX (eL (bw:=none) (fE (ak (i:=0))) (cz (i:=0)) fG (Dp (ca Cr (aq (ak (i:=0)) aD)) (qka i6 i6 me_int (ak (i:=0)) me_int)))).mb) rfl))⟩
abbrev Bq:=(af bj (af bj (aa 1) (aH bI (aa 3))) (aa 4))
abbrev w0w:=Bq
abbrev BV:=(cR (bz (af iP Bq (ae .non))) (aE (ae .non)) aX)
abbrev uR:=(av (iI (a9 f_y43 (am (aa 0) (am (aa 6) (am (aa 4) (am (af bj (aa 3) (aa 6)) ag))))) (eQ 2 (cT (ai 4) (cT (ai 7) e9)))) (aA 5 (af cD (aa 5) (aH fX (aa 7)))))
abbrev A6:=(av BV (aE (af cD (aa 5) w0w)))
def C7:aI:=
 (av (aA 4 (aa 2))
 (av (aA 5 (ae (.int 0)))
 (av (bA (fD (am (aH bI (aa 3)) ag)) (ai 6)
   uR)
 A6)))
def f_y48:List D->Option D:=aM false 4 8 C7
theorem qw9:bY 4 f_y48:=cZ
theorem qse(T:Txt K mg a):FnOk P w K mg base bB 3 a.f_y48 a.fd_y48 uF (cq K false 4 f_y48):=by
 exact cV T.D_y48.F sc_y48 λ_ _ _ _ _ _ hr=>⟨_,(aQ (bK 4 sc_y48.nd (pv 2)) (aQ (bK 5 sc_y48.nd aC) (aQ (gL x8 rfl (iC (by rfl) T.z_range (aj (dg (fy (K:=K) rfl) (by rfl) T.z_len (by rfl) (aj (pv 3) ay)) ay)) (fm 6 sc_y48.nd) (aQ (sU (ba (Dz T) hr.m T.D_y43 (aj (pv 0) (aj (pv 6) (aj (pv 4) (aj (bc (bf (K:=K) rfl) (pv 3) (pv 6)) ay))))) (mN (K:=K) rfl rfl (hX (fm 4 sc_y48.nd) (hX (fm 7 sc_y48.nd) mO)))) (aW (bK 5 sc_y48.nd (bQ (fH (K:=K) rfl) (pv 5) (dg (mP (K:=K) rfl rfl) (by rfl) T.z_sum (by rfl) (aj (pv 7) ay))))))) (aQ (f9 (df vW (bc (bf (K:=K) rfl) (bc (bf (K:=K) rfl) (pv 1) (dg (fy (K:=K) rfl) (by rfl) T.z_len (by rfl) (aj (pv 3) ay))) (pv 4)) iZ (c8)) (aW (bU iZ)) gh) (aW (bU (bQ (fH (K:=K) rfl) (pv 5) (bc (bf (K:=K) rfl) (bc (bf (K:=K) rfl) (pv 1) (dg (fy (K:=K) rfl) (by rfl) T.z_len (by rfl) (aj (pv 3) ay))) (pv 4))))))))),by unfold C7;exact(aS (O1:=[]) (cw (ak (i:=2))) (aS (O1:=[]) (cw me_int) (aS (O1:=[]) (hJ (O':=[]) (iB (aq (dH fu eB) aD)) rfl (cz (i:=6)) (aS (O1:=[]) (Ds (ca Cq (aq (ak (i:=0)) (aq (ak (i:=6)) (aq (ak (i:=4)) (aq (aG bq (ak (i:=3)) (ak (i:=6))) aD))))) rfl (mG (hV (cz (i:=4)) (hV (cz (i:=7)) mM)))) (cw (aG fN (ak (i:=5)) (dH mz eB))))) (aS (O1:=[]) (f8 (de (c7 vY (aG bq (aG bq (ak (i:=1)) (dH fu eB)) (ak (i:=4))) me_non.mb)) (cu rfl me_non rfl) (gf rfl)) (cu rfl (aG fN (ak (i:=5)) (aG bq (aG bq (ak (i:=1)) (dH fu eB)) (ak (i:=4)))) rfl)))))⟩
abbrev uO:=(dU i0 2 (am (af cD (oP (aa 1) (ae none) (oA (aa 3))) (bh (aY (am (ae (.int 1)) ag)))) ag))
abbrev BB:=(aA 1 (bh (cG 1 [] none (bD (aa 0)) (ai 0) (ae true) (ae (.int 0)))))
def C8:aI:=
 (av BB
 (av (cI 2 (aY ag))
 (av (bA (fD (am (aH bI (aa 0)) ag)) (ai 3)
   uO)
 (kA 2))))
def f_y49:List D->Option D:=aM true 1 4 C8
theorem qw8:bY 1 f_y49:=cZ
theorem qsd(T:Txt K mg a):FnOk P w K mg base bB 1 a.f_y49 a.fd_y49 ["_law_word"] (cq K true 1 f_y49):=by
 exact cV T.D_y49.F sc_y49 λ_ _ _ _ _ _ hr=>⟨_,(aQ (jR (k:=1) (sc:=aN sJ) (N0:=Bn) rfl rfl rfl (show dD _ _ ["_law_bit"] 1 [] _=true by decide+kernel) sc_y49.nd rfl (Or.inl rfl) (fI (K:=K) rfl (pv 0)) (λ_ _ _ _ _=>(dQ (i:=0) (show List.Nodup (["_law_bit"]:List Str)from(by decide+kernel)) rfl (Or.inl rfl))) (ff (by decide)) (λ_ _ _ _ _=>fw) (λ_ _ _ _ _=>aC)) (aQ (bK 2 sc_y49.nd (fv ay)) (aQ (gL x8 rfl (iC (by rfl) T.z_range (aj (dg (fy (K:=K) rfl) (by rfl) T.z_len (by rfl) (aj (pv 0) ay)) ay)) (fm 3 sc_y49.nd) (aW (jS (lO F.plainAttrs_list F.slot_list_append F.type_list_append mT (pv 2) (aj (bQ (fH (K:=K) rfl) (tP (tJ (K:=K) rfl) (pv 1) tF (tG (pv 3))) (fv (aj aC ay))) ay))))) (aW (bU (pv 2)))))),by unfold C8;exact(aS (O1:=[]) (kF (eL (bw:=none) (fE (ak (i:=0))) (cz (i:=0)) fG me_int) rfl (by decide)) (aS (O1:=[2]) (jO (fF aD) rfl) (aS (O1:=[2]) (hJ (O':=[2]) (iB (aq (dH fu eB) aD)) rfl (cz (i:=3)) (oy oK (by decide) (aq (aG fN (xO (ak (i:=1)) wM (wN (ak (i:=3)))) (cX (fF (aq me_int aD)))) aD) rfl)) (wO rfl (by first|decide|simp) rfl (by first|decide|simp)))))⟩
abbrev uN:=(aA 7 (a9 f_y30 (am (aa 0) (am (aa 1) (am (bh (i7 d5 (aa 4))) (am (aa 6) ag))))))
abbrev Bk:=(oP (aa 3) (ae none) (oA (aH bI (aa 8))))
abbrev BD:=(aA 9 (a9 f_y48 (am (aa 0) (am (aa 7) (am (aa 6) (am (aa 8) ag))))))
abbrev uC:=(aH fX (bh (gO f_y45 (am (aa 0) (am (aa 3) ag)))))
abbrev rO:=(av BD (av (cR (dM (bz (af iW (aa 9) (ae .non))) (bz (af oQ (aa 9) uC))) (aE (ae (.bl false))) aX) (cR (dM (bz (af fj (aa 9) uC)) (bz (af jB (aa 8) Bk))) (aE (ae (.bl false))) aX)))
abbrev Bh:=(aA 5 (bh (aY (am (ae (.int 0)) ag))))
abbrev uv:=(bD (bh (gO f_y49 (am (aa 3) ag))))
def C9:aI:=
 (av (aA 4 (bh (cG 1 [] none (fD (am (aa 2) ag)) (ai 0) (ae true) (cc nZ))))
 (av Bh
 (av (cR (bz ma)
   (aA 5 (bh (i7 eX (af cg (ae (.int 1)) (af bj (aa 0) (ae (.int 0)))))))
   aX)
 (av (bA (bD (aa 5)) (ai 6)
   (av uN (bA uv (ai 8)
   rO)))
 (aE (ae (.bl true)))))))
def f_y50:List D->Option D:=aM false 4 10 C9
theorem qw7:bY 4 f_y50:=cZ
theorem qsc(T:Txt K mg a):FnOk P w K mg base bB 8 a.f_y50 a.fd_y50 uA (cq K false 4 f_y50):=by
 have G_y30:=@qss P w K mg base a T;exact cV T.D_y50.F sc_y50 λ_ _ _ _ _ _ hr=>⟨_,(aQ (jR (k:=4) (sc:=aN sK) (N0:=BM) rfl rfl rfl (show dD _ _ ["_law_k"] 1 [] _=true by decide+kernel) sc_y50.nd rfl (Or.inl rfl) (iC (by rfl) T.z_range (aj (pv 2) ay)) (λ_ _ _ _ _=>(dQ (i:=0) (show List.Nodup (["_law_k"]:List Str)from(by decide+kernel)) rfl (Or.inl rfl))) (ff (by decide)) (λ_ _ _ _ _=>fw) (λ_ _ _ _ _=>(iy (aj gg (aj aC ay))))) (aQ (bK 5 sc_y50.nd (fv (aj aC ay))) (aQ (f9 (df (fP (K:=K) rfl hr.units) (bc (bf (K:=K) rfl) (pv 0) aC) gg (c8)) (aW (bK 5 sc_y50.nd (Ek rfl (by rfl) T.z_list (by rfl) T.z_range (bQ pT aC (bc (bf (K:=K) rfl) (pv 0) aC))))) gh) (aQ (gL x8 rfl (fI (K:=K) rfl (pv 5)) (fm 6 sc_y50.nd) (aQ (bK 7 sc_y50.nd (yC G_y30 hr.m (by rfl) T.mg_y30 T.F_y30.kp T.B_y30 .nil lX (aj (pv 0) (aj (pv 1) (aj (kL (FU (K:=K) rfl) (by rfl) T.z_list (by rfl) (aj (pv 4) ay)) (aj (pv 6) ay)))))) (aW (gL x8 rfl (fI (K:=K) rfl (ba (qsd T) hr.m T.D_y49 (aj (pv 3) ay))) (fm 8 sc_y50.nd) (aQ (bK 9 sc_y50.nd (ba (qse T) hr.m T.D_y48 (aj (pv 0) (aj (pv 7) (aj (pv 6) (aj (pv 8) ay)))))) (aQ (f9 (PW.pt (e8 (df wR (pv 9) iZ (c8)) (dW (df pi (pv 9) (dg (mP (K:=K) rfl rfl) (by rfl) T.z_sum (by rfl) (aj (ba (n9 T) hr.m T.D_y45 (aj (pv 0) (aj (pv 3) ay))) ay)) (c8))))) (aW (bU mq)) gh) (aW (f9 (PW.pt (e8 (df (fP (K:=K) rfl hr.units) (pv 9) (dg (mP (K:=K) rfl rfl) (by rfl) T.z_sum (by rfl) (aj (ba (n9 T) hr.m T.D_y45 (aj (pv 0) (aj (pv 3) ay))) ay)) (c8)) (dW (df (qs6 (K:=K) rfl hr.units) (pv 8) (tP (tJ (K:=K) rfl) (pv 3) tF (tG (dg (fy (K:=K) rfl) (by rfl) T.z_len (by rfl) (aj (pv 8) ay)))) (c8))))) (aW (bU mq)) gh)))))))) (aW (bU mq)))))),by unfold C9;exact(aS (O1:=[]) (kF (eL (bw:=none) (iB (aq (ak (i:=2)) aD)) (cz (i:=0)) fG (ix (aq me_str (aq me_int aD)))) rfl (by decide)) (aS (O1:=[]) (cw (cX (fF (aq me_int aD)))) (aS (O1:=[]) (f8 (de (c7 bP (aG bq (ak (i:=0)) me_int) me_str.mb)) (cw (cX (Ed (aG pQ me_int (aG bq (ak (i:=0)) me_int))))) (gf rfl)) (aS (O1:=[]) (hJ (O':=[]) (fE (ak (i:=5))) rfl (cz (i:=6)) (aS (O1:=[]) (cw (ca qwh (aq (ak (i:=0)) (aq (ak (i:=1)) (aq (cX (ER D4 (ak (i:=4)))) (aq (ak (i:=6)) aD)))))) (hJ (O':=[]) (fE (cX (hW qw8 (aq (ak (i:=3)) aD)))) rfl (cz (i:=8)) (aS (O1:=[]) (cw (ca qw9 (aq (ak (i:=0)) (aq (ak (i:=7)) (aq (ak (i:=6)) (aq (ak (i:=8)) aD)))))) (aS (O1:=[]) (f8 (pP (de (c7 wU (ak (i:=9)) me_non.mb)) (de (c7 i6 (ak (i:=9)) (dH mz (cX (hW om (aq (ak (i:=0)) (aq (ak (i:=3)) aD)))).mb).mb))) (cu rfl mm rfl) (gf rfl)) (f8 (pP (de (c7 bP (ak (i:=9)) (dH mz (cX (hW om (aq (ak (i:=0)) (aq (ak (i:=3)) aD)))).mb).mb)) (de (c7 qs5 (ak (i:=8)) (xO (ak (i:=3)) wM (wN (dH fu eB))).mb))) (cu rfl mm rfl) (gf rfl))))))) (cu rfl mm rfl)))))⟩
abbrev uE:=(am (aa 3) (am (af bj (aa 2) (ae (.int 0))) ag))
abbrev BR:=(aA 2 (gE f_y41 1 (am (ae (.int 4)) (am (bh (aY (am (ae (.str "open")) (am (ae (.str "ended")) (am (ae (.str "open")) (am (ae (.str "ended")) (am (ae (.str "ring")) ag))))))) ag))))
abbrev Ba:=(am (af bj (aa 4) (ae (.int 1))) ag)
abbrev rM:=Ba
abbrev BZ:=(lY (gS (bz (aH (gW (gG "tuple")) (aa 4)))) (lY (bz (af kO (aH bI (aa 4)) (ae (.int 2)))) (gS (bz (a9 f_y46 (am (af bj (aa 4) (ae (.int 0))) ag))))))
abbrev Bx:=(bz (af fj (af bj (aa 2) (ae (.int 3))) (ae (.str "ring"))))
abbrev n6:=Bx
abbrev B4:=(lY (gS (bz (a9 f_y47 (am (af bj (aa 4) (ae (.int 1))) (am (aa 3) ag))))) (lY (bz (af fj (aH fX (af bj (aa 4) (ae (.int 1)))) (ae (.int 0)))) (bz (af kO (aH fX (bh (gO f_y45 (am (aa 2) Ba)))) (af bj (aa 4) (ae (.int 0)))))))
abbrev Bt:=(bz (af ql (af bj (aa 2) (ae (.int 0))) (ae (.int 2))))
abbrev uW:=(cR (dM Bx Bt) (aA 2 (cc (am (af bj (aa 2) (ae (.int 0))) (am (af bj (aa 2) (ae (.int 1))) (am (af bj (aa 2) (ae (.int 2))) (am (ae (.str "ended")) ag)))))) aX)
abbrev Br:=(aA 9 (bh (gO f_y45 (am (aa 2) (am (aa 8) ag)))))
abbrev Bz:=(aH iQ (af fj AX (ae (.int 0))))
abbrev BC:=(gw (am (bh (gO f_y45 (am (aa 2) (am (aa 7) ag)))) (am (aa 9) ag)))
abbrev BF:=(cI 6 (gO f_y39 (am (a9 f_y38 (am (aa 0) (am (aa 5) ag))) (am (ae (.int 2)) ag))))
abbrev BG:=(dM (bz (af kO (aa 7) (aa 8))) (bz (af oQ (aa 10) (af bj (aa 4) (ae (.int 0))))))
abbrev rQ:=(av BF (av (aA 7 (bh (cG 1 [6] (some (6,1)) (fD (am (aa 3) ag)) (ai 0) (ae true) (gE f_y40 1 (am (ae (.int 2)) ag))))) (av (aA 8 (bh (cG 1 [6] (some (6,1)) (bD (aa 7)) (ai 0) (ae true) (af gU (aa 0) Bz)))) (av Br (av (aA 10 (aH fX (bh (cG 2 [] none BC (eQ 2 (cT (ai 0) (cT (ai 1) e9))) (ae true) (af gU (aa 0) (aa 1)))))) (cR BG (aE (ae (.bl false))) aX))))))
abbrev Bc:=(cR B4 (aE (ae (.bl false))) aX)
abbrev Bd:=(cR BZ (aE (ae (.bl false))) aX)
abbrev Bu:=(cI 1 (gO f_y39 (am (a9 f_y38 rE) (am (ae (.int 0)) ag))))
abbrev BE:=(gO f_y39 (am (a9 f_y38 (am (aa 0) (am (ae (.int 1)) ag))) (am (ae (.int 1)) ag)))
abbrev uy:=(am (aH bI (aa 0)) (am (ae (.int 60)) ag))
abbrev BH:=(aE (a9 f_y50 (am (aa 2) (am (aa 3) (am (aH bI (bh (gO f_y45 (am (aa 2) rM)))) rM)))))
def Cc(P0:Addr):aI:=
 (av Bu
 (av BR
 (av uW
 (av (aA 3 (af cD (ae (.int 1)) (pY f_y40 BE (am (ae (.int 16)) ag))))
 (av (cR n6
   (aA 3 (jY (λi j=>if j>i then j else i) uE))
   aX)
 (av (aA 4 (jN 11 P0 dF dE (f_y37 P0) (am (aa 2) (am (aa 3) ag))))
 (av Bd
 (av Bc
 (av (bA (fD (am (jY (λi j=>if j<i then j else i) uy) ag)) (ai 5)
   rQ)
 BH)))))))))
def f_law(P0:Addr):List D->Option D:=ky false 1 12 11 (.tab P0 dF dE) (Cc P0)
theorem qt7(T:Txt K mg a):FnOk P w K mg base bB 9 a.f_law a.fd_law ["_law_script"] (fT K a.t_y36 dF dE 1 (f_law a.t_y36)):=by
 refine T.D_law.F.okT (z:="@t") (j:=11) (u:=.ref a.t_y36) sc_law rfl (by unfold km;decide+kernel) (λvs H Q E h=>h.1) (λcdv A outer s H vs Q E hr h=>?_);refine⟨_,(aQ (bK 1 sc_law.nd (ba (u6 T) hr.m T.D_y39 (aj (ba (u5 T) hr.m T.D_y38 (aj (pv 0) (aj aC ay))) (aj aC ay)))) (aQ (bK 2 sc_law.nd (ba (qsi T) hr.m T.D_y41 (aj (pv 1) (aj aC (aj (fv (aj gg (aj gg (aj gg (aj gg (aj gg ay)))))) ay))))) (aQ (f9 (PW.pt (e8 (df (fP (K:=K) rfl hr.units) (bc (bf (K:=K) rfl) (pv 2) aC) gg (c8)) (dW (df si (bc (bf (K:=K) rfl) (pv 2) aC) aC (c8))))) (aW (bK 2 sc_law.nd (iy (aj (bc (bf (K:=K) rfl) (pv 2) aC) (aj (bc (bf (K:=K) rfl) (pv 2) aC) (aj (bc (bf (K:=K) rfl) (pv 2) aC) (aj gg ay))))))) gh) (aQ (bK 3 sc_law.nd (bQ (fH (K:=K) rfl) aC (ba (kr T) hr.m T.D_y40 (aj (ba (u6 T) hr.m T.D_y39 (aj (ba (u5 T) hr.m T.D_y38 (aj (pv 0) (aj aC ay))) (aj aC ay))) (aj aC ay))))) (aQ (f9 (df (fP (K:=K) rfl hr.units) (bc (bf (K:=K) rfl) (pv 2) aC) gg (c8)) (aW (bK 3 sc_law.nd (dg (qit rfl) (by rfl) T.z_max (by rfl) (aj (pv 3) (aj (bc (bf (K:=K) rfl) (pv 2) aC) ay))))) gh) (aQ (bK 4 sc_law.nd (ba (qsm T) hr.m T.D_y37 (aj (pv 2) (aj (pv 3) ay)))) (aQ (f9 (PW.pt (gz (sV (mI (dg (tN (K:=K) rfl) (by rfl) T.z_isinstance (by rfl) (aj (pv 4) (aj (tx (v:=.ty "tuple") (by rfl) T.z_tuple (by rfl) rfl) ay))))) (gz (df (pR (K:=K) rfl hr.units) (dg (fy (K:=K) rfl) (by rfl) T.z_len (by rfl) (aj (pv 4) ay)) aC (c8)) (gY (sV (mI (ba (DB T) hr.m T.D_y46 (aj (bc (bf (K:=K) rfl) (pv 4) aC) ay)))))))) (aW (bU mq)) gh) (aQ (f9 (PW.pt (gz (sV (mI (ba (qsf T) hr.m T.D_y47 (aj (bc (bf (K:=K) rfl) (pv 4) aC) (aj (pv 3) ay))))) (gz (df (fP (K:=K) rfl hr.units) (dg (mP (K:=K) rfl rfl) (by rfl) T.z_sum (by rfl) (aj (bc (bf (K:=K) rfl) (pv 4) aC) ay)) aC (c8)) (gY (df (pR (K:=K) rfl hr.units) (dg (mP (K:=K) rfl rfl) (by rfl) T.z_sum (by rfl) (aj (ba (n9 T) hr.m T.D_y45 (aj (pv 2) (aj (bc (bf (K:=K) rfl) (pv 4) aC) ay))) ay)) (bc (bf (K:=K) rfl) (pv 4) aC) (c8)))))) (aW (bU mq)) gh) (aQ (gL x8 rfl (iC (by rfl) T.z_range (aj (dg (Fm rfl) (by rfl) T.z_min (by rfl) (aj (dg (fy (K:=K) rfl) (by rfl) T.z_len (by rfl) (aj (pv 0) ay)) (aj aC ay))) ay)) (fm 5 sc_law.nd) (aQ (bK 6 sc_law.nd (ba (u6 T) hr.m T.D_y39 (aj (ba (u5 T) hr.m T.D_y38 (aj (pv 0) (aj (pv 5) ay))) (aj aC ay)))) (aQ (jR (k:=7) (sc:=aN ou) (N0:=o5) rfl rfl rfl (show dD _ _ ["_law_j","_law_state_here"] 1 [6] _=true by decide+kernel) sc_law.nd rfl (Or.inl rfl) (iC (by rfl) T.z_range (aj (pv 3) ay)) (λ_ _ _ _ _=>(dQ (i:=0) (show List.Nodup (["_law_j","_law_state_here"]:List Str)from(by decide+kernel)) rfl (Or.inl rfl))) (ff (by decide)) (λ_ _ _ _ _=>fw) (λ_ _ _ _ _=>(ba (kr T) hr.m T.D_y40 (aj (pv 1) (aj aC ay))))) (aQ (jR (k:=8) (sc:=aN ou) (N0:=o5) rfl rfl rfl (show dD _ _ ["_law_bit","_law_state_here"] 1 [6] _=true by decide+kernel) sc_law.nd rfl (Or.inl rfl) (fI (K:=K) rfl (pv 7)) (λ_ _ _ _ _=>(dQ (i:=0) (show List.Nodup (["_law_bit","_law_state_here"]:List Str)from(by decide+kernel)) rfl (Or.inl rfl))) (ff (by decide)) (λ_ _ _ _ _=>fw) (λ_ _ _ _ _=>(bQ vX (pv 0) (kL Fl (by rfl) T.z_int (by rfl) (aj (wW (fP (K:=K) rfl hr.units) (ba (kr T) hr.m T.D_y40 (aj (pv 1) (aj aC ay))) aC (c8)) ay))))) (aQ (bK 9 sc_law.nd (ba (n9 T) hr.m T.D_y45 (aj (pv 2) (aj (pv 8) ay)))) (aQ (bK 10 sc_law.nd (dg (mP (K:=K) rfl rfl) (by rfl) T.z_sum (by rfl) (aj (gM (sc:=aN ou) (N0:=o5) rfl rfl rfl (show dD _ _ ["_law_bit","_law_sign"] 2 [] _=true by decide+kernel) (tz (K:=K) rfl (by rfl) T.z_zip (aj (ba (n9 T) hr.m T.D_y45 (aj (pv 2) (aj (pv 7) ay))) (aj (pv 9) ay))) (λ_ _ _ _ _=>(mN (K:=K) rfl rfl (hX (dQ (i:=0) (show List.Nodup (["_law_bit","_law_sign"]:List Str)from(by decide+kernel)) rfl (Or.inl rfl)) (hX (dQ (i:=1) (show List.Nodup (["_law_bit","_law_sign"]:List Str)from(by decide+kernel)) rfl (Or.inl rfl)) mO)))) (xQ (by decide) (by decide)) (λ_ _ _ _ _=>fw) (λ_ _ _ _ _=>(bQ vX (pv 0) (pv 1)))) ay))) (aW (f9 (PW.pt (e8 (df (pR (K:=K) rfl hr.units) (pv 7) (pv 8) (c8)) (dW (df pi (pv 10) (bc (bf (K:=K) rfl) (pv 4) aC) (c8))))) (aW (bU mq)) gh)))))))) (aW (bU (ba (qsc T) hr.m T.D_y50 (aj (pv 2) (aj (pv 3) (aj (dg (fy (K:=K) rfl) (by rfl) T.z_len (by rfl) (aj (ba (n9 T) hr.m T.D_y45 (aj (pv 2) (aj (bc (bf (K:=K) rfl) (pv 4) aC) ay))) ay)) (aj (bc (bf (K:=K) rfl) (pv 4) aC) ay)))))))))))))))),?_⟩;exact yl (O':=[]) (Nms:=o5) (by decide) (by unfold Cc;exact(aS (O1:=[1]) (jO (hW ve (aq (ca vd (aq (ak (i:=0)) (aq me_int aD))) (aq me_int aD))) rfl) (aS (O1:=[]) (cw (kH (i:=1) qwd (by decide) (aq me_int (aq (cX (fF (aq me_str (aq me_str (aq me_str (aq me_str (aq me_str aD))))))) aD)))) (aS (O1:=[]) (f8 (pP (de (c7 bP (aG bq (ak (i:=2)) me_int) me_str.mb)) (de (c7 i6 (aG bq (ak (i:=2)) me_int) me_int.mb))) (cw (ix (aq (aG bq (ak (i:=2)) me_int) (aq (aG bq (ak (i:=2)) me_int) (aq (aG bq (ak (i:=2)) me_int) (aq me_str aD)))))) (gf rfl)) (aS (O1:=[]) (cw (aG fN me_int (qhs ku (hW ve (aq (ca vd (aq (ak (i:=0)) (aq me_int aD))) (aq me_int aD))) (aq me_int aD)))) (aS (O1:=[]) (f8 (de (c7 bP (aG bq (ak (i:=2)) me_int) me_str.mb)) (cw (va (aq (ak (i:=3)) (aq (aG bq (ak (i:=2)) me_int) aD)))) (gf rfl)) (aS (O1:=[]) (cw (tW (by decide) qwe (aq (ak (i:=2)) (aq (ak (i:=3)) aD)))) (aS (O1:=[]) (f8 (ph (sQ (mH (sN (qi6 T) eB))) (ph (de (c7 pj (dH fu eB) me_int.mb)) (sQ (mH (ca Cr (aq (aG bq (ak (i:=4)) me_int) aD)))))) (cu rfl mm rfl) (gf rfl)) (aS (O1:=[]) (f8 (ph (sQ (mH (ca qwa (aq (aG bq (ak (i:=4)) me_int) (aq (ak (i:=3)) aD))))) (ph (de (c7 bP (dH mz (aG bq (ak (i:=4)) me_int).mb) me_int.mb)) (de (c7 pj (dH mz (cX (hW om (aq (ak (i:=2)) (aq (aG bq (ak (i:=4)) me_int) aD)))).mb) (aG bq (ak (i:=4)) me_int).mb)))) (cu rfl mm rfl) (gf rfl)) (aS (O1:=[]) (hJ (O':=[]) (iB (aq (va (aq (dH fu eB) (aq me_int aD))) aD)) rfl (cz (i:=5)) (aS (O1:=[6]) (jO (hW ve (aq (ca vd (aq (ak (i:=0)) (aq (ak (i:=5)) aD))) (aq me_int aD))) rfl) (aS (O1:=[6]) (kF (eL (bw:=(some (6,1))) (iB (aq (ak (i:=3)) aD)) (cz (i:=0)) fG (kH (i:=1) ku (by decide) (aq me_int aD))) rfl (by decide)) (aS (O1:=[]) (kF (eL (bw:=(some (6,1))) (fE (ak (i:=7))) (cz (i:=0)) fG (aG vT (ak (i:=0)) (dH Dd (c7 bP (kH (i:=1) ku (by decide) (aq me_int aD)) me_int.mb).mb))) rfl (by decide)) (aS (O1:=[]) (cw (cX (hW om (aq (ak (i:=2)) (aq (ak (i:=8)) aD))))) (aS (O1:=[]) (cw (dH mz (cX (eL (bw:=none) (sO (aq (cX (hW om (aq (ak (i:=2)) (aq (ak (i:=7)) aD)))) (aq (ak (i:=9)) aD))) (mG (hV (cz (i:=0)) (hV (cz (i:=1)) mM))) fG (aG vT (ak (i:=0)) (ak (i:=1))))).mb)) (f8 (pP (de (c7 pj (ak (i:=7)) eB)) (de (c7 i6 (ak (i:=10)) (aG bq (ak (i:=4)) me_int).mb))) (cu rfl mm rfl) (gf rfl)))))))) (cu rfl (ca qw7 (aq (ak (i:=2)) (aq (ak (i:=3)) (aq (dH fu (cX (hW om (aq (ak (i:=2)) (aq (aG bq (ak (i:=4)) me_int) aD)))).mb) (aq (aG bq (ak (i:=4)) me_int) aD))))) rfl))))))))))) h
end
section
variable{r:Int}{U:List Int}{G:List (List Int)}{e:Str}
theorem kW(ok:q2a r U G e):f_y1 [aw r U G e]=some (.int (2^r.toNat)):=by
 have r0:=ok.r0;have r4:=ok.r4;have r6:r<=1000000:=by omega
 have hr:f_y0 [.int r]=some (.int (2^r.toNat)):=by unfold f_y0 nQ;clear ok;walk_at "ev"
 unfold f_y1 nO aw;clear ok;walk_at "ev"
theorem Ej(n:D):∀(f zj:Nat) (l o:Int),0<=l->l.toNat<2^f->(o=0∨o=1)->f<zj->∃l':Int,ia uq
 uP zj [some n,some (.int l),some (.int o)]=some (.nx [some n,some (.int l'),some (.int ((o+(bX f l.toNat:Nat)) % 2))])
 |_,0,_,_,_,_,_,h=>absurd h (Nat.not_lt_zero _)
 | f,zj+1,l,o,l0,lf,ho,hf=>by
  have ht:uq [some n,some (.int l),some (.int o)]=some (decide (0<l),[some n,some (.int l),some (.int o)]):=by walk_at "ev"
  by_cases hl:0<l
  ·cases f with
   |zero=>exact absurd lf (by omega)
   | succ f=>
    have hb:uP [some n,some (.int l),some (.int o)]=some (.nx [some n,some (.int (l / 2)),some (.int (Builtin.bitXor o (Builtin.bitAnd l 1)))]):=by clear ht;walk_at "ev"
    have ex:Builtin.bitXor o (Builtin.bitAnd l 1)=(o+l % 2) % 2:=by rw[qq6 l0];exact qj9 ho (by omega)
    have e2:(l / 2).toNat=l.toNat / 2:=by omega
    have lt2:(l / 2).toNat<2^f:=by rw[e2];rw[Nat.pow_succ]at lf;omega
    obtain⟨l',ih⟩:=Ej n f zj (l / 2) (Builtin.bitXor o (Builtin.bitAnd l 1)) (by omega) lt2 (by rw[ex];omega) (by omega);refine⟨l',?_⟩;rw[decide_eq_true hl]at ht;unfold ia;rw[ht];dsimp only;rw[hb];dsimp only;rw[ih,ex,e2];have u:bX (f+1) l.toNat=(l.toNat % 2+bX f (l.toNat / 2)) % 2:=rfl;rw[u];have ev:((o+l % 2) % 2+(bX f (l.toNat / 2):Nat)) % 2=(o+(((l.toNat % 2+bX f (l.toNat / 2)) % 2:Nat):Int)) % 2:=by omega
    rw[ev]
  ·rw[decide_eq_false hl]at ht;refine⟨l,?_⟩;unfold ia;rw[ht];dsimp only;have e0:l=0:=by omega
   subst e0;rw[show((0:Int)).toNat=0 from rfl,tX];have ev:(o+((0:Nat):Int)) % 2=o:=by omega
   rw[ev]
theorem qS(n:Int)(h0:0<=n)(h:n<32):f_y2 [.int n]=some (.int (bX 5 n.toNat:Nat)):=by
 obtain⟨l',hw⟩:=Ej (.int n) 5 1000 n 0 h0 (by omega) (.inl rfl) (by decide);have e1:((0:Int)+(bX 5 n.toNat:Nat)) % 2=(bX 5 n.toNat:Nat):=by have:=wV 5 n.toNat;omega
 rw[e1]at hw;generalize bX 5 n.toNat=p at hw ⊢;unfold f_y2 nN;generalize (1000:Nat)=zj at hw ⊢;clear h0 h e1;walk_at "ev"
theorem qR(ok:q2a r U G e)(z6 bit:Int)(a0:0<=z6)(a1:z6<2^r.toNat)(hb:bit=0∨bit=1):
 f_y3 [aw r U G e,.int z6,.int bit]=some (.tup [.int ((2*z6+bit) % 2^r.toNat),.tup ((U.map (dI (2*z6+bit))).map D.int)]):=by
 have p16:=jQ ok.r0 ok.r4;have hr:=kW ok;have hp:=qS;have m0:(0:Int)<2^r.toNat:=by omega
 have cm:=gC (n:=1) (js:=[3]) (fg:=ai 0) (fe:=a9 f_y2 oX) (ρ:=[some (aw r U G e),some (.int z6),some (.int bit),some (.int (2*z6+bit)),none]) (λd=>match d with|.int t=>.int (dI (2*z6+bit) t)|d=>d) (U.map D.int) (λx hx=>by
  obtain⟨t,ht,rfl⟩:=List.mem_map.mp hx;refine⟨[some (.int t),some (.int (2*z6+bit))],rfl,?_⟩;have tb:=ok.tb t ht;have w0:0<=2*z6+bit:=by omega
  have ea:=DZ w0 tb.1;have lt:(2*z6+bit).toNat &&& t.toNat<32:=Nat.lt_of_le_of_lt Nat.and_le_left (by omega);have hq:=qS (((2*z6+bit).toNat &&& t.toNat:Nat):Int) (by omega) (by omega);rw[jq,<-ea]at hq;show _=some (D.int (dI (2*z6+bit) t));unfold dI;generalize 2*z6+bit=W at hq ⊢;generalize bX 5 (W.toNat &&& t.toNat)=z at hq ⊢;clear hx ht tb w0 ea lt hr hp hb a0 a1 m0 p16;walk_at "ev")
 have e2:(U.map D.int).map (λd=>match d with|.int t=>D.int (dI (2*z6+bit) t)|d=>d)=(U.map (dI (2*z6+bit))).map D.int:=by rw[jg,jg];rfl
 rw[e2]at cm;have ll:(U.map D.int).length<=sizeLine:=by rw[j3];exact dy (by have:=ok.t4;omega)
 unfold f_y3 nM;unfold aw at cm hr ⊢;generalize (U.map (dI (2*z6+bit))).map D.int=S at cm ⊢;generalize U.map D.int=TS at cm hr ll ⊢;generalize (2:Int)^r.toNat=m at hr m0 a1 p16 ⊢;have two:2<=sizeLine:=by decide
 clear ok hp hb a0 a1 p16 e2;walk_at "ev"
theorem vZ(ok:q2a r U G e):f_y5 [aw r U G e]=some (.bl (bE e)):=by
 have h1:=i9;have h2:=jp;have h3:=iG;unfold f_y5 nK aw bE;rcases ok.en with rfl|rfl|rfl
 ·rw[decide_eq_false (by decide)];clear ok;walk_at "ev"
 ·rw[decide_eq_false (by decide)];clear ok;walk_at "ev"
 ·rw[decide_eq_true rfl];clear ok;walk_at "ev"
theorem qnx(ok:q2a r U G e)(n:Int)(h:e="ring"->r<=n):f_y6 [aw r U G e,.int n]=some .non:=by
 have hr:=vZ ok;unfold f_y6 nJ;cases hi:bE e with
 | false=>
  rw[hi]at hr;clear ok hi;generalize aw r U G e=S at hr ⊢;walk_at "ev"
 | true=>
  rw[hi]at hr;have hn:¬n<r:=by have:=h (of_decide_eq_true hi);omega
  unfold aw at hr ⊢;clear ok hi h;walk_at "ev"
theorem qk3(ok:q2a r U G e):f_y7 [aw r U G e]=some (.int (az r e:Nat)):=by
 have h1:=qD;have h2:=qE;have h3:=qC;have r0:=ok.r0;have er:((r.toNat:Nat):Int)=r:=by omega
 unfold f_y7 nI aw az;rcases ok.en with rfl|rfl|rfl
 ·rw[if_neg (by decide)];clear ok;walk_at "ev"
 ·rw[if_pos rfl,er];clear ok er;walk_at "ev"
 ·rw[if_neg (by decide)];clear ok;walk_at "ev"
theorem jU(ok:q2a r U G e):az r e<=4:=by have:=ok.r4;unfold az;split<;>omega
theorem DK(ok:q2a r U G e)(k:Nat):bO (G.map dq) ((k:Int) % ((G.map dq).length:Nat))=some (.tup ((aF G k).map D.int)):=by
 have m1:=ok.m1;have hk:k % G.length<G.length:=Nat.mod_lt _ (by omega);have e1:((k:Int) % ((G.map dq).length:Nat))=((k % G.length:Nat):Int):=by rw[j3];exact(Int.natCast_emod k G.length).symm
 rw[e1,jM (by omega) (by rw[j3];omega),jq,jd];unfold aF;rw[j8 hk];rfl
theorem EX(ok:q2a r U G e)(k:Nat)(signs:List Int)(hl:signs.length<=1000):
 f_y4 [aw r U G e,.int k,.tup (signs.map D.int)]=some (.tup ((fq (aF G k) signs).map D.int)):=by
 have hr:=DK ok k;have za:0<(G.map dq).length:=by have:=ok.m1;rw[j3];omega
 have hz:dn (signs.map D.int) ((aF G k).map D.int)=(signs.zip (aF G k)).map λq=>D.tup [.int q.1,.int q.2]:=qff;have cm:∀ρ:aB,cU 2 [] none (eQ 2 (cT (ai 0) (cT (ai 1) e9))) (bz (af fj (aa 1) (ae (.int 1)))) (aa 0) ((signs.zip (aF G k)).map λq=>D.tup [.int q.1,.int q.2]) ρ=some ((fq (aF G k) signs).map D.int,ρ):=λρ=>by
  have:=qf (n:=2) (js:=[]) (fg:=eQ 2 (cT (ai 0) (cT (ai 1) e9))) (ft:=bz (af fj (aa 1) (ae (.int 1)))) (fe:=aa 0) (ρ:=ρ) (λd=>match d with|.tup [_,.int b]=>b==1|_=>false) (λd=>match d with|.tup [x,_]=>x|d=>d) ((signs.zip (aF G k)).map λq=>D.tup [.int q.1,.int q.2]) (λx hx=>by obtain⟨q,_,rfl⟩:=List.mem_map.mp hx;refine⟨[some (.int q.1),some (.int q.2)],rfl,?_,λ_=>rfl⟩;clear hr hz hx;walk_at "ev")
  rw[this,List.filter_map,jg];unfold fq;rw[jg];rfl
 have ll:((signs.zip (aF G k)).map λq=>D.tup [.int q.1,.int q.2]).length<=sizeLine:=by rw[j3,xy];exact dy (by have:=kc signs.length (aF G k).length;omega)
 unfold f_y4 nL aw;generalize (signs.zip (aF G k)).map (λq=>D.tup [.int q.1,.int q.2])=Z at hz cm ll;generalize (fq (aF G k) signs).map D.int=Y at cm ⊢;generalize (aF G k).map D.int=R at hr hz;generalize G.map dq=RS at hr za ⊢;generalize signs.map D.int=S at hz ⊢;clear ok hl;walk_at "ev"
theorem qk0(t:Told):f_y19 [cW t]=some (bo t):=by
 have h1:=yM;have h2:=yK;have h3:=yI;have h4:=yN;have h5:=yJ;unfold f_y19 vw;cases t with
 |clear b=>unfold cW bo;walk_at "ev"
 |gap=>unfold cW bo;walk_at "ev"
 |soft z o=>unfold cW bo;walk_at "ev"
theorem zG(c b:Int):f_y13 [.obj "Clear" [("bit",.int c)],.int b]=some (.int (if b=c then 0 else 1)):=by
 have h1:iO "Clear" "bit" (.obj "Clear" [("bit",.int c)])=some (.int c):=wI (by simp[List.lookup_cons]);unfold f_y13 vq;generalize D.obj "Clear" [("bit",.int c)]=X at h1 ⊢;by_cases h:b=c
 ·rw[if_pos h];have h':(b==c)=true:=beq_iff_eq.mpr h;clear h;walk_at "ev"
 ·rw[if_neg h];have h':(b==c)=false:=beq_eq_false_iff_ne.mpr h;walk_at "ev"
theorem zF{X:D}(b:Int):f_y15 [X,.int b]=some (.int 0):=by unfold f_y15 vt;walk_at "ev"
theorem zD(z o b:Int):f_y18 [.obj "Soft" [("zero",.int z),("one",.int o)],.int b]=some (.int (if b=1 then o else z)):=by
 have nz:(("one":Str)=="zero")=false:=by decide+kernel
 have h1:iO "Soft" "one" (.obj "Soft" [("zero",.int z),("one",.int o)])=some (.int o):=wI (by rw[List.lookup_cons,nz];simp[List.lookup_cons]);have h2:iO "Soft" "zero" (.obj "Soft" [("zero",.int z),("one",.int o)])=some (.int z):=wI (by simp[List.lookup_cons]);unfold f_y18 vv;generalize D.obj "Soft" [("zero",.int z),("one",.int o)]=X at h1 h2 ⊢;by_cases h:b=1
 ·rw[if_pos h];subst h;walk_at "ev"
 ·rw[if_neg h];have h':(b==1)=false:=beq_eq_false_iff_ne.mpr h;walk_at "ev"
theorem qnw(t:Told)(b:Int):rN [some (bo t),some (.int b)]=some (.int (iU t b),[some (bo t),some (.int b)]):=by
 have n1:¬(("Gap":Str)="Clear"):=by decide+kernel
 have n2:¬(("Soft":Str)="Clear"):=by decide+kernel
 have n3:¬(("Soft":Str)="Gap"):=by decide+kernel
 have m1:(("cost":Str)=="bit")=false:=by decide+kernel
 have m2:(("cost":Str)=="zero")=false:=by decide+kernel
 have m3:(("cost":Str)=="one")=false:=by decide+kernel
 cases t with
 | clear c=>
  have h1:jK "Clear" "cost" f_y13 (bo (.clear c)) [.int b]=some (.int (iU (.clear c) b)):=(xP (by rw[List.lookup_cons,m1];rfl)).trans (zG c b);generalize bo (.clear c)=X at h1 ⊢;generalize iU (.clear c) b=z at h1 ⊢;clear n1 n2 n3 m1 m2 m3;walk_at "ev"
 | gap=>
  have h1:jK "Clear" "cost" f_y13 (bo .gap) [.int b]=none:=yh n1;have h2:jK "Gap" "cost" f_y15 (bo .gap) [.int b]=some (.int (iU .gap b)):=(xP rfl).trans (zF b);generalize bo .gap=X at h1 h2 ⊢;generalize iU .gap b=z at h2 ⊢;clear n1 n2 n3 m1 m2 m3;walk_at "ev"
 | soft z o=>
  have h1:jK "Clear" "cost" f_y13 (bo (.soft z o)) [.int b]=none:=yh n2;have h2:jK "Gap" "cost" f_y15 (bo (.soft z o)) [.int b]=none:=yh n3;have h3:jK "Soft" "cost" f_y18 (bo (.soft z o)) [.int b]=some (.int (iU (.soft z o) b)):=(xP (by rw[List.lookup_cons,m2,List.lookup_cons,m3];rfl)).trans (zD z o b);generalize bo (.soft z o)=X at h1 h2 h3 ⊢;generalize iU (.soft z o) b=y at h3 ⊢;clear n1 n2 n3 m1 m2 m3;walk_at "ev"
theorem Ei(ok:q2a r U G e)(n:Nat)(h:e="ring"->r.toNat<=n):f_y9 [aw r U G e,.int n]=some (.int ((n+az r e:Nat):Int)):=by
 have r0:=ok.r0;have hc:=qnx ok n (λq=>by have:=h q;omega);have hz:=qk3 ok;have e1:((n+az r e:Nat):Int)=(n:Int)+(az r e:Nat):=by omega
 rw[e1];unfold f_y9 nH;generalize aw r U G e=S at hc hz ⊢;generalize (az r e:Nat)=z at hz ⊢;clear ok h e1 r0;walk_at "ev"
theorem qrv{S:D}{n' N nz:Int}{S2 F:List D}{v4:Option D}(z0:0<=sizeLine)(hst:f_y3 [S,.int 0,.int 0]=some (.tup [.int nz,.tup S2]))(hs:f_y9 [S,.int n']=some (.int N))(bg:fk N=true)
 (l1:eh (ai 4) Bb (cY 0 N.toNat) [some S,some (.int n'),some (.tup S2),some (.lst []),none]=some (.nx [some S,some (.int n'),some (.tup S2),some (.lst F),v4])):f_y10 [S,.int n']=some (.lst F):=by
 unfold f_y10 vp;walk_at "ev"
theorem xR(ok:q2a r U G e)(n:Nat)(hn:n<=60)(h:e="ring"->r.toNat<=n):f_y10 [aw r U G e,.int n]=some (.lst ((bn U G (n+az r e)).map D.int)):=by
 have z4:=jU ok;have hs:=Ei ok n h;have p16:=jQ ok.r0 ok.r4;have hst:=qR ok 0 0 (by omega) (by omega) (.inl rfl);have ht:=EX ok;have sl:∀k,(fq (aF G k) (U.map (dI (2*0+0)))).length=(bF U G k).length:=λk=>by rw[qg,j3];rfl
 have s4:∀k,(bF U G k).length<=4:=λk=>by unfold bF;refine jr (List.length_filter_le _ _) ?_;rw[xy];have:=ok.t4;have:=kc U.length (aF G k).length;omega
 have st:=λk:Nat=>ht k (U.map (dI (2*0+0))) (by rw[j3];have:=ok.t4;omega);generalize hS2:(U.map (dI (2*0+0))).map D.int=S2 at hst st;obtain⟨ρ',l1,v4,hρ⟩:=iz (fg:=ai 4) (fb:=iH 3 (dL (aY (am (aa 4) ag)) rJ))
  (λk ρ=>∃v4,ρ=[some (aw r U G e),some (.int (n:Int)),some (.tup S2),some (.lst ((bn U G k).map D.int)),v4]) (cY 0 (n+az r e)) 0
  [some (aw r U G e),some (.int (n:Int)),some (.tup S2),some (.lst []),none] ⟨none,rfl⟩ (λi x ρ hx ⟨v4,hρ⟩=>by
   subst hρ;obtain⟨hi,rfl⟩:=jW hx;rw[jv,Int.zero_add];have eP:bn U G (i+1)=bn U G i++List.replicate (bF U G i).length (i:Int):=gD _ _;rw[eP,jx,List.map_replicate];have hsa:=st i;have hln:(((fq (aF G i) (U.map (dI (2*0+0)))).map D.int).length:Int)=((bF U G i).length:Nat):=by rw[j3,sl]
   have hrp:gR [D.int (i:Int)] (.int ((bF U G i).length:Nat))=some (List.replicate (bF U G i).length (.int (i:Int))):=by rw[tI (by omega) (by have:=s4 i;omega),jq]
   have ln:((bn U G i).map D.int).length+(List.replicate (bF U G i).length (D.int (i:Int))).length<=sizeLine:=by have q1:(bn U G i).length<=i*4:=tO _ 4 (λk=>by rw[ji];exact s4 k) i;have q2:=s4 i;rw[j3,ji];exact dy (by omega)
   generalize (fq (aF G i) (U.map (dI (2*0+0)))).map D.int=PK at hsa hln;rw[<-hln]at hrp;generalize List.replicate (bF U G i).length (D.int (i:Int))=RP at hrp ln ⊢;generalize (bn U G i).map D.int=F at ln ⊢;refine⟨_,[some (aw r U G e),some (.int (n:Int)),some (.tup S2),some (.lst (F++RP)),some (.int (i:Int))],rfl,.inl ?_,some (.int (i:Int)),rfl⟩;have one:1<=sizeLine:=by decide
   generalize aw r U G e=S at hsa ⊢;clear hln eP hst st sl s4 hs ok ht hi hx p16 hS2 h;have hrep:(dL (aY (am (aa 4) ag)) rJ) [some S,some (.int (n:Int)),some (.tup S2),some (.lst F),some (.int (i:Int))]=some (RP,[some S,some (.int (n:Int)),some (.tup S2),some (.lst F),some (.int (i:Int))]):=by
    refine sW (xs:=[.int (i:Int)]) (y:=.int (PK.length:Nat)) (ρ1:=[some S,some (.int (n:Int)),some (.tup S2),some (.lst F),some (.int (i:Int))]) ?_ ?_ hrp
    ·clear hrp hsa ln;generalize (n:Int)=n';generalize (i:Int)=i';walk_at "ev"
    ·clear hrp ln;generalize (n:Int)=n';generalize (i:Int)=i' at hsa ⊢;walk_at "ev"
   generalize (dL (aY (am (aa 4) ag)) rJ)=FR at hrep ⊢;clear hrp hsa;generalize (n:Int)=n' at hrep ⊢;generalize (i:Int)=i' at hrep ⊢;walk_at "ev")
 subst hρ;rw[gq,jv]at l1;have bg:fk ((n+az r e:Nat):Int)=true:=by unfold fk;simp;omega
 have z0:0<=sizeLine:=by decide
 have tn:((n+az r e:Nat):Int).toNat=n+az r e:=jq _;rw[<-tn]at l1;exact qrv z0 hst hs bg l1
theorem qk2(ok:q2a r U G e)(n:Nat)(hn:n<=60)(h:e="ring"->r.toNat<=n)(hs:List D)(hl:hs.length=(bn U G (n+az r e)).length):f_y20 [aw r U G e,.int n,.lst hs]=some .non:=by
 have hp:=xR ok n hn h;have hl2:hs.length=((bn U G (n+az r e)).map D.int).length:=by rw[j3,hl]
 unfold f_y20 vx;generalize (bn U G (n+az r e)).map D.int=F at hp hl2;generalize aw r U G e=S at hp ⊢;clear ok h hl hn;walk_at "ev"
end
section
variable{r:Int}{U:List Int}{G:List (List Int)}{e:Str}
theorem qrk{ρ ρ1:aB}{fs:aT}{n:Int}(h:fs ρ=some ([.int n],ρ1))(bg:fk n=true):fD fs ρ=some (cY 0 n.toNat,ρ1):=by rw[D8,h];show((if fk n=true then some (cY 0 n.toNat)else none).map λx=>(x,ρ1))=_;rw[if_pos bg];rfl
theorem bN{f g:aI}{ρ ρ1:aB}(h:f ρ=some (.nx ρ1)):av f g ρ=g ρ1:=by rw[D9,h];rfl
theorem mJ{b:aI}{n k:Nat}{ds:List D}{d:D}(hl:ds.length=n)(h:∃ρ,b (ds.map some++List.replicate (k-n) none)=some (.rt d ρ)):aM false n k b ds=some d:=by obtain⟨ρ,h⟩:=h;unfold aM;rw[if_pos hl,h]
end
section
variable{r:Int}{U:List Int}{G:List (List Int)}{e:Str}
theorem qjz{ts:List Told}{bits:List Int}(hl:ts.length<=1000):f_y21 [.lst (ts.map bo),.tup (bits.map D.int)]=some (.int (f7 ts bits)):=by
 have hz:dn (ts.map bo) (bits.map D.int)=(ts.zip bits).map λq=>D.tup [bo q.1,.int q.2]:=by rw[xX,tS,jg];rfl
 have cm:∀ρ:aB,cU 2 [] none (eQ 2 (cT (ai 0) (cT (ai 1) e9))) (ae true) rN ((ts.zip bits).map λq=>D.tup [bo q.1,.int q.2]) ρ=some (((ts.zip bits).map λq=>iU q.1 q.2).map D.int,ρ):=λρ=>by
  have:∀zs:List (Told×Int),cU 2 [] none (eQ 2 (cT (ai 0) (cT (ai 1) e9))) (ae true) rN (zs.map λq=>D.tup [bo q.1,.int q.2]) ρ=some ((zs.map λq=>iU q.1 q.2).map D.int,ρ):=λzs=>by
   induction zs with
   |nil=>rfl
   | cons q zs ih=>
    have hg:(eQ 2 (cT (ai 0) (cT (ai 1) e9))) (D.tup [bo q.1,.int q.2]) (iq 2 [] ρ)=some [some (bo q.1),some (.int q.2)]:=rfl;rw[jo];unfold cU;rw[hg];dsimp only[ae];rw[qnw q.1 q.2];dsimp only[g6];rw[ih];rfl
  exact this _
 have ll:((ts.zip bits).map λq=>D.tup [bo q.1,.int q.2]).length<=sizeLine:=by rw[j3,xy];exact dy (by have:=kc ts.length bits.length;omega)
 have hi:=gN ((ts.zip bits).map λq=>iU q.1 q.2);unfold f_y21 vz f7;generalize (ts.zip bits).map (λq=>D.tup [bo q.1,.int q.2])=Z at hz cm ll;generalize (ts.zip bits).map (λq=>iU q.1 q.2)=Y at cm hi ⊢;generalize ts.map bo=TS at hz ⊢;generalize bits.map D.int=B at hz ⊢;generalize Y.map D.int=YD at cm hi;clear hl;walk_at "ev"
theorem qnj(S T:D)(n' N:Int)(hs:f_y9 [S,.int n']=some (.int N))(bg:fk N=true):ol [some S,some (.int n'),some T,none,none,none]=some (cY 0 N.toNat,[some S,some (.int n'),some T,none,none,none]):=by unfold ol;walk_at "ev"
theorem qrf(S:D)(n':Int)(T P Z:List D)(hp:f_y10 [S,.int n']=some (.lst P))(hz:dn P T=Z):(gw (am nY (am (aa 2) ag))) [some S,some (.int n'),some (.lst T),none,none,none]=some (Z,[some S,some (.int n'),some (.lst T),none,none,none]):=by walk_at "ev"
theorem qrg{S T u t o:D}{n':Int}(h:f_y19 [t]=some o):(am (a9 f_y19 (am (aa 5) ag)) ag) [some S,some (.int n'),some T,none,some u,some t]=some ([o],[some S,some (.int n'),some T,none,some u,some t]):=by walk_at "ev"
theorem qvx(ok:q2a r U G e)(n:Nat)(hn:n<=60)(h:e="ring"->r.toNat<=n)(ts:List Told)(hl:ts.length=(bn U G (n+az r e)).length):
 f_y22 [aw r U G e,.int n,.lst (ts.map cW)]=some (.lst ((List.range (n+az r e)).map λk=>D.lst ((aO U G ts k).map bo))):=by
 have z4:=jU ok;have hs:=Ei ok n h;have hp:=xR ok n hn h;have s4:∀k,(bF U G k).length<=4:=λk=>by unfold bF;refine jr (List.length_filter_le _ _) ?_;rw[xy];have:=ok.t4;have:=kc U.length (aF G k).length;omega
 have q1:(bn U G (n+az r e)).length<=(n+az r e)*4:=tO _ 4 (λk=>by rw[ji];exact s4 k) _;have bg:fk ((n+az r e:Nat):Int)=true:=by unfold fk;simp;omega
 have hi:=qnj (aw r U G e) (.lst (ts.map cW)) n _ hs bg;rw[jq]at hi;have hz:dn ((bn U G (n+az r e)).map D.int) (ts.map cW)=((bn U G (n+az r e)).zip ts).map λq=>D.tup [.int q.1,cW q.2]:=by rw[xX,tS,jg];rfl
 have hzz:=qrf (aw r U G e) n (ts.map cW) _ _ hp hz;obtain⟨u',v',hr⟩:=E4 (i:=3) (a:=4) (b:=5) (fe:=aa 4) (fs:=am (a9 f_y19 (am (aa 5) ag)) ag) cW bo (λu v=>[some (aw r U G e),some (.int n),some (.lst (ts.map cW)),none,u,v]) (λ_ _=>rfl) (λ_ _ _ _=>rfl) (λ_ _=>rfl) (λk t=>qrg (qk0 t))
  ((bn U G (n+az r e)).zip ts) (List.replicate (n+az r e) []) none none (λq hq=>by
    have hm:=(List.of_mem_zip hq).1;unfold bn at hm;obtain⟨k,hk,hm⟩:=List.mem_flatMap.mp hm;rw[List.eq_of_mem_replicate hm,ji];exact⟨by omega,by rw[jq];exact List.mem_range.mp hk⟩) (λg hg=>by
    rw[List.eq_of_mem_replicate hg,xy];have:=kc (bn U G (n+az r e)).length ts.length;exact jn (by simp;omega:_<1000) (by decide))
 rw[qgt (n+az r e) (by omega),List.map_replicate,jg]at hr;show oh (pN _)=_;have hD:pN [aw r U G e,.int n,.lst (ts.map cW)]=some ((List.range (n+az r e)).map ((λg=>g.map bo)∘aO U G ts)):=by
  unfold pN mr;refine(if_pos rfl).trans ?_;show(match ol [some (aw r U G e),some (.int n),some (.lst (ts.map cW)),none,none,none]with
   | some (xs,ρ1)=>if 3<ρ1.length/\xs.length<=sizeLine then(match og (ρ1.set 3 none) (List.replicate xs.length [])with
    |some p=>some p.2
    |none=>none)else none
   |none=>none)=_
  rw[hi];simp only;rw[if_pos ⟨by simp,by rw[gq];exact dy (by omega)⟩,gq];have hb:og [some (aw r U G e),some (.int n),some (.lst (ts.map cW)),none,none,none] (List.replicate (n+az r e) [])=some ([some (aw r U G e),some (.int n),some (.lst (ts.map cW)),none,u',v'],(List.range (n+az r e)).map ((λg=>g.map bo)∘aO U G ts)):=by unfold og sM;rw[hzz];exact(if_pos rfl).trans hr
  have es:([some (aw r U G e),some (.int n),some (.lst (ts.map cW)),none,none,none]:aB).set 3 none=[some (aw r U G e),some (.int n),some (.lst (ts.map cW)),none,none,none]:=rfl;rw[es,hb]
 rw[hD];show some (D.lst _)=some (D.lst _);rw[jg];rfl
theorem qtm{S:D}{k' z6 bit nx c:Int}{G S2 P:List D}(two:2<=sizeLine)(h1:f_y3 [S,.int z6,.int bit]=some (.tup [.int nx,.tup S2]))(h2:f_y4 [S,.int k',.tup S2]=some (.tup P))(h3:f_y21 [.lst G,.tup P]=some (.int c)):f_y23 [S,.int k',.lst G,.int z6,.int bit]=some (.tup [.int nx,.int c]):=by unfold f_y23 vA;walk_at "ev"
theorem qvw(ok:q2a r U G e)(k:Nat)(ts:List Told)(hl:(aO U G ts k).length<=1000)(z6 bit:Int)(a0:0<=z6)(a1:z6<2^r.toNat)(hb:bit=0∨bit=1):f_y23 [aw r U G e,.int k,.lst ((aO U G ts k).map bo),.int z6,.int bit]=some (mU (ig r U G ts k z6 bit)):=
 qtm (by decide) (qR ok z6 bit a0 a1 hb) (EX ok k _ (by rw[j3];have:=ok.t4;omega)) (qjz hl)
theorem qtp{S:D}{k' z6:Int}{G BS YS:List D}(ll:BS.length<=sizeLine)(cm:cU 1 [0,1,2,3] none (ai 0) (ae true) (a9 f_y23 rG) BS [some S,some (.int k'),some (.lst G),some (.int z6),some (.tup BS)]=some (YS,[some S,some (.int k'),some (.lst G),some (.int z6),some (.tup BS)])):f_y24 [S,.int k',.lst G,.int z6,.tup BS]=some (.lst YS):=by unfold f_y24 vB;walk_at "ev"
theorem qtq{S:D}{k' z6 b:Int}{G:List D}{y:D}(h:f_y23 [S,.int k',.lst G,.int z6,.int b]=some y):((a9 f_y23 rG) [some (.int b),some S,some (.int k'),some (.lst G),some (.int z6)]).map (·.1)=some y:=by walk_at "ev"
theorem zE(ok:q2a r U G e)(k:Nat)(ts:List Told)(hl:(aO U G ts k).length<=1000)(z6:Int)(a0:0<=z6)(a1:z6<2^r.toNat)(n:Nat):f_y24 [aw r U G e,.int k,.lst ((aO U G ts k).map bo),.int z6,.tup ((eO n k).map D.int)]=some (gQ ((eO n k).map λb=>ig r U G ts k z6 b)):=by
 have l2:(eO n k).length<=2:=by unfold eO;split<;>simp
 have hb:∀b∈eO n k,b=0∨b=1:=by unfold eO;split<;>simp
 have cm:=gC (n:=1) (js:=[0,1,2,3]) (fg:=ai 0) (fe:=a9 f_y23 rG)
  (ρ:=[some (aw r U G e),some (.int k),some (.lst ((aO U G ts k).map bo)),some (.int z6),some (.tup ((eO n k).map D.int))]) (λd=>match d with|.int b=>mU (ig r U G ts k z6 b)|d=>d) ((eO n k).map D.int) (λx hx=>by obtain⟨b,hm,rfl⟩:=List.mem_map.mp hx;exact⟨_,rfl,qtq (qvw ok k ts hl z6 b a0 a1 (hb b hm))⟩)
 rw[jg]at cm;have:=qtp (dy (by rw[j3];omega)) cm;rw[this];unfold gQ;rw[jg];rfl
theorem qk6{S T:D}{n' k':Int}{F:List D}{g:D}{v6:Option D}(two:2<=sizeLine)(n k:Nat)(hn:n'=(n:Nat))(hk:k'=(k:Nat)):BK [some S,some (.int n'),some T,some (.lst F),some (.int k'),some g,v6]=some (.nx [some S,some (.int n'),some T,some (.lst F),some (.int k'),some g,some (.tup ((eO n k).map D.int))]):=by
 have one:1<=sizeLine:=by decide
 unfold eO;by_cases h:k<n
 ·have h':k'<n':=by omega
  rw[if_pos h];show _=some (Out.nx [_,_,_,_,_,_,some (.tup [.int 0,.int 1])]);clear hn hk h;walk_at "ev"
 ·have h':¬k'<n':=by omega
  rw[if_neg h];show _=some (Out.nx [_,_,_,_,_,_,some (.tup [.int 0])]);clear hn hk h;walk_at "ev"
theorem qob{S T:D}{n' k' M:Int}{F YS:List D}{g bs:D}{FE:aJ}(hr:f_y1 [S]=some (.int M))(bg:fk M=true)(l1:(cY 0 M.toNat).length<=sizeLine)(l2:F.length<sizeLine)
 (cm:cU 1 [0,4,5,6] none (ai 0) (ae true) FE (cY 0 M.toNat) [some S,some (.int n'),some T,some (.lst F),some (.int k'),some g,some bs]=some (YS,[some S,some (.int n'),some T,some (.lst F),some (.int k'),some g,some bs])):
 (dU i0 3 (am (bh (cG 1 [0,4,5,6] none uJ (ai 0) (ae true) FE)) ag)) [some S,some (.int n'),some T,some (.lst F),some (.int k'),some g,some bs]=some (.nx [some S,some (.int n'),some T,some (.lst (F++[.lst YS])),some (.int k'),some g,some bs]):=by
 walk_at "ev"
abbrev BU:=BA
theorem qoa{S:D}{k' z6:Int}{g bs y:D}(h:f_y24 [S,.int k',g,.int z6,bs]=some y):((a9 f_y24 BU) [some (.int z6),some S,some (.int k'),some g,some bs]).map (·.1)=some y:=by walk_at "ev"
theorem qo9{S:D}{n':Int}{T G F:List D}{v4 v5 v6:Option D}{FB:aI}(z0:0<=sizeLine)(hc:f_y20 [S,.int n',.lst T]=some .non)(hg:f_y22 [S,.int n',.lst T]=some (.lst G))
 (l1:eh (eQ 2 (cT (ai 4) (cT (ai 5) e9))) FB (i5 G) [some S,some (.int n'),some (.lst T),some (.lst []),none,none,none]=some (.nx [some S,some (.int n'),some (.lst T),some (.lst F),v4,v5,v6])):
 (aM false 3 7 (av (mv (a9 f_y20 gF)) (av (cI 3 (aY ag)) (av (bA (pd (a9 f_y22 gF)) (eQ 2 (cT (ai 4) (cT (ai 5) e9))) FB) (aE (aa 3)))))) [S,.int n',.lst T]=some (.lst F):=by
 walk_at "ev"
theorem CG(ok:q2a r U G e)(n:Nat)(hn:n<=60)(h:e="ring"->r.toNat<=n)(ts:List Told)(hl:ts.length=(bn U G (n+az r e)).length):
 f_y25 [aw r U G e,.int n,.lst (ts.map cW)]=some (gk (bZ r U G ts n 0 (n+az r e))):=by
 have z4:=jU ok;have p16:=jQ ok.r0 ok.r4;have hc:=qk2 ok n hn h (ts.map cW) (by rw[j3];exact hl);have hg:=qvx ok n hn h ts hl;have hr:=kW ok;have pn:=gn (r:=r);have s4:∀k,(bF U G k).length<=4:=λk=>by unfold bF;refine jr (List.length_filter_le _ _) ?_;rw[xy];have:=ok.t4;have:=kc U.length (aF G k).length;omega
 have c4:∀k,(aO U G ts k).length<=1000:=λk=>by unfold aO;rw[jz];have:=s4 k;omega
 have bg:fk ((2:Int)^r.toNat)=true:=by unfold fk;simp;omega
 have tn:((2:Int)^r.toNat).toNat=2^r.toNat:=by omega
 have lr:(cY 0 ((2:Int)^r.toNat).toNat).length<=sizeLine:=by rw[gq,tn];exact dy (by omega)
 obtain⟨ρ',l1,v4,v5,v6,hρ⟩:=iz (fg:=eQ 2 (cT (ai 4) (cT (ai 5) e9))) (fb:=BY)
  (λk ρ=>∃v4 v5 v6,ρ=[some (aw r U G e),some (.int (n:Int)),some (.lst (ts.map cW)),some (.lst ((bZ r U G ts n 0 k).map f6)),v4,v5,v6]) (i5 ((List.range (n+az r e)).map λk=>D.lst ((aO U G ts k).map bo))) 0
  [some (aw r U G e),some (.int (n:Int)),some (.lst (ts.map cW)),some (.lst []),none,none,none] ⟨none,none,none,rfl⟩ (λi x ρ hx ⟨v4,v5,v6,hρ⟩=>by
   subst hρ;rw[Fq,jd]at hx;have hi:i<n+az r e:=by
    rcases Nat.lt_or_ge i (n+az r e)with z|z
    ·exact z
    ·rw[jw (by simp;omega)]at hx;cases hx
   rw[xm hi]at hx;have hx:x=D.tup [.int (i:Int),.lst ((aO U G ts i).map bo)]:=(jb hx).symm;subst hx;rw[jv];have cm:=gC (n:=1) (js:=[0,4,5,6]) (fg:=ai 0) (fe:=a9 f_y24 BU)
    (ρ:=[some (aw r U G e),some (.int (n:Int)),some (.lst (ts.map cW)),some (.lst ((bZ r U G ts n 0 i).map f6)),some (.int (i:Int)),some (.lst ((aO U G ts i).map bo)),some (.tup ((eO n i).map D.int))])
    (λd=>match d with|.int z6=>gQ ((eO n i).map λb=>ig r U G ts i z6 b)|d=>d) (cY 0 ((2:Int)^r.toNat).toNat) (λx hx=>by obtain⟨k,hk⟩:=List.mem_iff_getElem?.mp hx;obtain⟨hk1,rfl⟩:=jW hk;rw[Int.zero_add];exact⟨_,rfl,qoa (zE ok i ts (c4 i) (k:Int) (by omega) (by omega) n)⟩)
   have ey:(cY 0 ((2:Int)^r.toNat).toNat).map (λd=>match d with|.int z6=>gQ ((eO n i).map λb=>ig r U G ts i z6 b)|d=>d)=(stepK r U G ts n i).map gQ:=by unfold cY L2.stepK;rw[tn,jg,jg];refine List.map_congr_left λk _=>?_;simp
   rw[ey]at cm;have es:bZ r U G ts n 0 (i+1)=bZ r U G ts n 0 i++[stepK r U G ts n i]:=by unfold bZ;rw[List.range'_concat,jx];simp
   have lf:((bZ r U G ts n 0 i).map f6).length<sizeLine:=by unfold bZ;rw[j3,j3,List.length_range'];exact jn (by omega:i<1000) (by decide)
   refine⟨_,[some (aw r U G e),some (.int (n:Int)),some (.lst (ts.map cW)),some (.lst ((bZ r U G ts n 0 (i+1)).map f6)),some (.int (i:Int)),some (.lst ((aO U G ts i).map bo)),some (.tup ((eO n i).map D.int))],rfl,.inl ?_,_,_,_,rfl⟩;refine(bN (qk6 (by decide) n i rfl rfl)).trans ?_;rw[es,jx];exact qob hr bg lr lf cm)
 subst hρ;have le:(i5 ((List.range (n+az r e)).map λk=>D.lst ((aO U G ts k).map bo))).length=n+az r e:=by unfold i5;simp
 rw[le,jv]at l1;unfold f_y25 vC gk;exact qo9 (by decide) hc hg l1
end
theorem qpt{a c x:Int}{B:List D}(h:bO B a=some (.int x)):f_y27 [.tup [.int a,.int c],.lst B]=some (.int (c+x)):=by unfold f_y27 sk;walk_at "ev"
theorem qpu{a c:Int}{B:List D}(h:bO B a=some .non):f_y27 [.tup [.int a,.int c],.lst B]=some .non:=by unfold f_y27 sk;walk_at "ev"
theorem wD{t:Rw}{a:Int}(h0:0<=a)(h1:a.toNat<t.length):bO (t.map bJ) a=some (bJ (dR t a)):=by rw[jM h0 (by rw[j3];omega),jd];unfold dR;rw[j8 h1];rfl
theorem qk1(q:Mv)(t:Rw)(h0:0<=q.1)(h1:q.1.toNat<t.length):f_y27 [mU q,dY t]=some (bJ (dZ q t)):=by
 have h:=wD h0 h1;unfold dZ;cases e:dR t q.1 with
 | none=>
  rw[e]at h;exact qpu h
 | some x=>
  rw[e]at h;exact qpt h
theorem qtu{q z9 y:D}(h:f_y27 [q,z9]=some y):((a9 f_y27 (am (aa 0) (am (aa 1) ag))) [some q,some z9]).map (·.1)=some y:=by walk_at "ev"
theorem qtt{CH YS ZS:List D}{z9 m:D}(l1:CH.length<=sizeLine)(l2:YS.length<=sizeLine)(cm:cU 1 [1] none (ai 0) (ae true) (a9 f_y27 (am (aa 0) (am (aa 1) ag))) CH [some (.lst CH),some z9,none]=some (YS,[some (.lst CH),some z9,none]))
 (cf:cU 1 [] none (ai 0) (bz (af iW (aa 0) (ae .non))) (aa 0) YS [some (.lst CH),some z9,some (.lst YS)]=some (ZS,[some (.lst CH),some z9,some (.lst YS)])) (hm:oj (.lst ZS)=some m):f_y28 [.lst CH,z9]=some m:=by
 unfold f_y28 vE;generalize hd:oj=dm at hm ⊢;walk_at "ev"
theorem xK:∀ys:List (Option Int),((ys.map bJ).filter λd=>match d with|.non=>false|_=>true)=(ys.filterMap id).map D.int
 |[]=>rfl
 | none::ys=>by rw[jo,List.filter_cons];exact xK ys
 | some x::ys=>by rw[jo,List.filter_cons];show D.int x::_=D.int x::_;rw[xK ys]
theorem Fx(ch:List Mv)(t:Rw)(hl:ch.length<=1000)(h:∀q∈ch,0<=q.1/\q.1.toNat<t.length):f_y28 [gQ ch,dY t]=some (bJ (fQ ch t)):=by
 have cm:=gC (n:=1) (js:=[1]) (fg:=ai 0) (fe:=a9 f_y27 (am (aa 0) (am (aa 1) ag))) (ρ:=[some (gQ ch),some (dY t),none])
  (λd=>match d with|.tup [.int a,.int c]=>bJ (dZ (a,c) t)|d=>d) (ch.map mU) (λx hx=>by obtain⟨q,hq,rfl⟩:=List.mem_map.mp hx;exact⟨_,rfl,qtu (qk1 q t (h q hq).1 (h q hq).2)⟩)
 have e1:(ch.map mU).map (λd=>match d with|.tup [.int a,.int c]=>bJ (dZ (a,c) t)|d=>d)=(ch.map λq=>dZ q t).map bJ:=by rw[jg,jg];rfl
 rw[e1]at cm;have cf:=qf (n:=1) (js:=[]) (fg:=ai 0) (ft:=bz (af iW (aa 0) (ae .non))) (fe:=aa 0) (ρ:=[some (gQ ch),some (dY t),some (.lst ((ch.map λq=>dZ q t).map bJ))])
  (λd=>match d with|.non=>false|_=>true) (λd=>d) ((ch.map λq=>dZ q t).map bJ) (λx hx=>by
    obtain⟨o,_,rfl⟩:=List.mem_map.mp hx;refine⟨[some (bJ o)],rfl,?_,λ_=>rfl⟩;cases o with
    |none=>rfl
    |some y=>rfl)
 have e2:∀zs:List D,zs.map (λd=>d)=zs:=λzs=>by simp
 rw[xK,e2]at cf;refine qtt (dy (by rw[j3];omega)) (dy (by rw[j3,j3];omega)) cm cf ?_;show(eF _).map (λns=>bJ (c5 ns))=_;rw[gN];rfl
theorem Do{ch:List Mv}{hh:Rw}{y:D}(h:f_y28 [gQ ch,dY hh]=some y):(match gQ ch with|.lst xs=>(match f_y28 [.lst xs,dY hh]with|some y=>y|none=>.non)|d=>d)=y:=by unfold gQ at h ⊢;dsimp only;rw[h]
theorem qva{ch z9 y:D}(h:f_y28 [ch,z9]=some y):((a9 f_y28 (am (aa 0) (am (aa 1) ag))) [some ch,some z9]).map (·.1)=some y:=by walk_at "ev"
theorem qq9{ST EN x:D}{TB:List D}{v4:Option D}{b:D}(h:bO TB (-1)=some b):A8 [some ST,some EN,some (.lst TB),some x,v4]=some (.nx [some ST,some EN,some (.lst TB),some x,some b]):=by walk_at "ev"
theorem qvb{ST EN b:D}{TB CH YS:List D}{FE:aJ}(l1:CH.length<=sizeLine)(l2:TB.length<sizeLine)(cm:cU 1 [4] none (ai 0) (ae true) FE CH [some ST,some EN,some (.lst TB),some (.lst CH),some b]=some (YS,[some ST,some EN,some (.lst TB),some (.lst CH),some b])):
 (dU i0 2 (am (bh (cG 1 [4] none (bD (aa 3)) (ai 0) (ae true) FE)) ag)) [some ST,some EN,some (.lst TB),some (.lst CH),some b]=some (.nx [some ST,some EN,some (.lst (TB++[.lst YS])),some (.lst CH),some b]):=by
 walk_at "ev"
theorem qv9(SS TB:List D)(EN:D)(v3 v4:Option D)(FB:aI)(one:1<=sizeLine)(l1:eh (ai 3) FB SS.reverse [some (.lst SS),some EN,some (.lst [EN]),none,none]=some (.nx [some (.lst SS),some EN,some (.lst TB),v3,v4])):
 (aM false 2 5 (av (cI 2 (aY (am (aa 1) ag))) (av (bA (gx (aa 0)) (ai 3) FB) (aE (bh (gx (aa 2))))))) [.lst SS,EN]=some (.lst TB.reverse):=by
 walk_at "ev"
theorem EI{steps:List Sx}{ends:Rw}{M:Nat}(he:ends.length=M)(hs:∀st∈steps,st.length=M):((bT steps ends).headD []).length=M:=by
 cases steps with
 |nil=>exact he
 | cons st rest=>
  show(st.map _).length=M;rw[j3];exact hs st ja
theorem Fw(steps:List Sx)(ends:Rw)(M:Nat)(hM:M<=1000)(hN:steps.length<=1000)(he:ends.length=M)(hs:∀st∈steps,st.length=M/\∀ch∈st,ch.length<=2/\∀q∈ch,0<=q.1/\q.1.toNat<M):
 f_y29 [gk steps,dY ends]=some (io (bT steps ends)):=by
 obtain⟨ρ',l1,v3,v4,hρ⟩:=iz (fg:=ai 3) (fb:=BQ)
  (λk ρ=>∃v3 v4,ρ=[some (gk steps),some (dY ends),some (.lst ((bT (steps.drop (steps.length-k)) ends).reverse.map dY)),v3,v4]) (steps.map f6).reverse 0
  [some (gk steps),some (dY ends),some (.lst [dY ends]),none,none] ⟨none,none,by rw[Nat.sub_zero,List.drop_length];rfl⟩ (λi x ρ hx ⟨v3,v4,hρ⟩=>by
   subst hρ;rw[jv];have hi:i<steps.length:=by have:=(List.getElem?_eq_some_iff.mp hx).1;simpa using this
   have hlt:steps.length-1-i<steps.length:=by omega
   rw[List.getElem?_reverse (by rw[j3];exact hi),j3,jd,j8 hlt]at hx;have hx:x=f6 steps[steps.length-1-i]:=(jb hx).symm;subst hx;have hst:=hs _ (xk hlt);have ed:steps.drop (steps.length-(i+1))=steps[steps.length-1-i]::steps.drop (steps.length-i):=by rw[show steps.length-(i+1)=steps.length-1-i from by omega,k9 hlt];congr 2;omega
   generalize steps[steps.length-1-i]=st at hst ed ⊢;rw[ed];have hd:((bT (steps.drop (steps.length-i)) ends).headD []).length=M:=EI he λz hz=>(hs z (List.mem_of_mem_drop hz)).1;have hla:=yo (steps.drop (steps.length-i)) ends;have hlast:bO ((bT (steps.drop (steps.length-i)) ends).reverse.map dY) (-1)=some (dY ((bT (steps.drop (steps.length-i)) ends).headD [])):=by
    generalize bT (steps.drop (steps.length-i)) ends=tt at hla ⊢;cases tt with
    |nil=>simp at hla
    | cons a b=>
     rw[List.reverse_cons,jx];exact qq4
   have eA:bT (st::steps.drop (steps.length-i)) ends=(st.map λch=>fQ ch ((bT (steps.drop (steps.length-i)) ends).headD []))::bT (steps.drop (steps.length-i)) ends:=rfl;rw[eA];generalize (bT (steps.drop (steps.length-i)) ends).headD []=hh at hd hlast ⊢;generalize bT (steps.drop (steps.length-i)) ends=tt at hla hlast ⊢;have cm:=gC (n:=1) (js:=[4]) (fg:=ai 0) (fe:=a9 f_y28 (am (aa 0) (am (aa 1) ag))) (ρ:=[some (gk steps),some (dY ends),some (.lst (tt.reverse.map dY)),some (f6 st),some (dY hh)])
    (λd=>match d with|.lst xs=>(match f_y28 [.lst xs,dY hh]with|some y=>y|none=>.non)|d=>d) (st.map gQ) (λx hx=>by obtain⟨ch,hc,rfl⟩:=List.mem_map.mp hx;have hp:=Fx ch hh (by have:=(hst.2 ch hc).1;omega) (λq hq=>by rw[hd];exact(hst.2 ch hc).2 q hq);refine⟨_,rfl,?_⟩;rw[Do hp];exact qva hp)
   have ey:(st.map gQ).map (λd=>match d with|.lst xs=>(match f_y28 [.lst xs,dY hh]with|some y=>y|none=>.non)|d=>d)=(st.map λch=>fQ ch hh).map bJ:=by rw[jg,jg];refine List.map_congr_left λch hc=>?_;exact Do (Fx ch hh (by have:=(hst.2 ch hc).1;omega) (λq hq=>by rw[hd];exact(hst.2 ch hc).2 q hq))
   rw[ey]at cm;have lt:(tt.reverse.map dY).length<sizeLine:=by rw[j3,List.length_reverse,hla,xj];exact jn (by omega:_<2000) (by decide)
   refine⟨_,[some (gk steps),some (dY ends),some (.lst (((st.map λch=>fQ ch hh)::tt).reverse.map dY)),some (f6 st),some (dY hh)],rfl,.inl ?_,_,_,rfl⟩;refine(bN (qq9 hlast)).trans ?_;rw[List.reverse_cons,jx];exact qvb (dy (by rw[j3];omega)) lt cm)
 subst hρ;rw[List.length_reverse,j3,jv,Nat.sub_self,List.drop_zero]at l1;unfold f_y29 vF;refine(qv9 (steps.map f6) _ _ _ _ _ (by decide) l1).trans ?_;unfold io;rw[<-List.map_reverse,List.reverse_reverse]
section
variable{r:Int}{U:List Int}{G:List (List Int)}{e:Str}
theorem zK:cB (.str "open") (.str "open")=some true:=by rw[hU (by decide+kernel) (by decide+kernel)];decide+kernel
theorem zL:cB (.str "ended") (.str "open")=some false:=by rw[hU (by decide+kernel) (by decide+kernel)];decide+kernel
theorem zJ:cB (.str "ring") (.str "open")=some false:=by rw[hU (by decide+kernel) (by decide+kernel)];decide+kernel
theorem qpm(R TS RS:D)(s M:Int)(Y:List D)(h:cB (.str e) (.str "open")=some true)(hr:f_y1 [.tup [R,TS,RS,.str e]]=some (.int M))(hy:gR [.int 0] (.int M)=some Y)(one:1<=sizeLine):f_y26 [.tup [R,TS,RS,.str e],.int s]=some (.lst Y):=by
 unfold f_y26 vD;have hrep:(dL (aY (am (ae (.int 0)) ag)) (a9 f_y1 (am (aa 0) ag))) [some (.tup [R,TS,RS,.str e]),some (.int s),none]=some (Y,[some (.tup [R,TS,RS,.str e]),some (.int s),none]):=by
  refine sW (xs:=[.int 0]) (y:=.int M) (ρ1:=[some (.tup [R,TS,RS,.str e]),some (.int s),none]) ?_ ?_ hy
  ·clear hy h hr;walk_at "ev"
  ·clear hy h;walk_at "ev"
 generalize (dL (aY (am (ae (.int 0)) ag)) (a9 f_y1 (am (aa 0) ag)))=FR at hrep ⊢;clear hy hr;walk_at "ev"
theorem quu{z6 en:Int}:(rF [some (.int z6),some (.int en)]).map (·.1)=some (bJ (if z6=en then some 0 else none)):=by
 by_cases h:z6=en
 ·subst h;rw[if_pos rfl];walk_at "ev"
 ·have h':(z6==en)=false:=beq_eq_false_iff_ne.mpr h;rw[if_neg h];walk_at "ev"
theorem AE{R TS RS:D}{s:Int}{FR:aI}(h:cB (.str e) (.str "open")=some false):(cR Bw FR aX) [some (.tup [R,TS,RS,.str e]),some (.int s),none]=some (.nx [some (.tup [R,TS,RS,.str e]),some (.int s),none]):=by walk_at "ev"
theorem AD{S:D}{s en:Int}{b:Bool}(hb:f_y5 [S]=some (.bl b))(hen:en=(if b=true then s else 0)):By [some S,some (.int s),none]=some (.nx [some S,some (.int s),some (.int en)]):=by
 cases b with
 | true=>
  have hen:en=s:=hen;rw[hen];clear hen;walk_at "ev"
 | false=>
  have hen:en=0:=hen;rw[hen];clear hen;walk_at "ev"
theorem AC{S:D}{s M en:Int}{Y:List D}{FE:aJ}(hr:f_y1 [S]=some (.int M))(bg:fk M=true)(l1:(cY 0 M.toNat).length<=sizeLine)(cm:cU 1 [2] none (ai 0) (ae true) FE (cY 0 M.toNat) [some S,some (.int s),some (.int en)]=some (Y,[some S,some (.int s),some (.int en)])):
 (aE (bh (cG 1 [2] none uJ (ai 0) (ae true) FE))) [some S,some (.int s),some (.int en)]=some (.rt (.lst Y) [some S,some (.int s),some (.int en)]):=by
 walk_at "ev"
theorem ql3(R TS RS:D)(s M en:Int)(b:Bool)(Y:List D)(h:cB (.str e) (.str "open")=some false)(hb:f_y5 [.tup [R,TS,RS,.str e]]=some (.bl b))(hen:en=(if b=true then s else 0))(hr:f_y1 [.tup [R,TS,RS,.str e]]=some (.int M))(bg:fk M=true)(l1:(cY 0 M.toNat).length<=sizeLine)
 (cm:cU 1 [2] none (ai 0) (ae true) rF (cY 0 M.toNat) [some (.tup [R,TS,RS,.str e]),some (.int s),some (.int en)]=some (Y,[some (.tup [R,TS,RS,.str e]),some (.int s),some (.int en)])):
 f_y26 [.tup [R,TS,RS,.str e],.int s]=some (.lst Y):=by
 refine mJ rfl ⟨[some (.tup [R,TS,RS,.str e]),some (.int s),some (.int en)],?_⟩;refine(bN (AE h)).trans ?_;exact(bN (AD hb hen)).trans (AC hr bg l1 cm)
theorem DE(ok:q2a r U G e)(s:Int):f_y26 [aw r U G e,.int s]=some (dY (eJ r e s)):=by
 have p16:=jQ ok.r0 ok.r4;have pn:=gn (r:=r);have hr:=kW ok;have hb:=vZ ok;have tn:((2:Int)^r.toNat).toNat=2^r.toNat:=by omega
 unfold dY eJ;rw[jg];by_cases q:e="open"
 ·subst q;have hy:gR [D.int 0] (.int (2^r.toNat))=some (List.replicate (2^r.toNat) (.int 0)):=by rw[tI (by omega) (by omega),tn]
  have h1:f_y26 [aw r U G "open",.int s]=some (.lst (List.replicate (2^r.toNat) (.int 0))):=qpm (e:="open") (.int r) (.tup (U.map D.int)) (.tup (G.map dq)) s (2^r.toNat) _ zK hr hy (by decide);rw[h1];refine congrArg (λx=>some (D.lst x)) ?_;apply List.ext_getElem?;intro i;by_cases h:i<2^r.toNat
  ·rw[jd,xm h,xr,if_pos h];simp[bJ]
  ·rw[jw (by simp;omega),jw (by simp;omega)]
 ·have ho:cB (.str e) (.str "open")=some false:=by
   rcases ok.en with h|h|h
   ·exact absurd h q
   ·rw[h];exact zL
   ·rw[h];exact zJ
  have bg:fk ((2:Int)^r.toNat)=true:=by unfold fk;simp;omega
  have cm:=gC (n:=1) (js:=[2]) (fg:=ai 0) (fe:=rF) (ρ:=[some (aw r U G e),some (.int s),some (.int (if bE e=true then s else 0))]) (λd=>match d with|.int z6=>bJ (if z6=(if bE e=true then s else 0)then some 0 else none)|d=>d) (cY 0 ((2:Int)^r.toNat).toNat) (λx hx=>by obtain⟨k,hk⟩:=List.mem_iff_getElem?.mp hx;obtain⟨hk1,rfl⟩:=jW hk;exact⟨_,rfl,quu⟩)
  have h1:=ql3 (e:=e) (.int r) (.tup (U.map D.int)) (.tup (G.map dq)) s (2^r.toNat) _ (bE e) _ ho hb rfl hr bg (by rw[gq,tn];exact dy (by omega)) cm;refine(show f_y26 [aw r U G e,.int s]=_ from h1).trans ?_;refine congrArg (λx=>some (D.lst x)) ?_;unfold cY;rw[tn,jg];refine List.map_congr_left λk _=>?_;refine congrArg bJ ?_;have e1:(if bE e=true then s else 0)=(if e="ring" then s else 0):=by
   unfold bE;by_cases z:e="ring"
   ·simp[z]
   ·simp[z]
  rw[e1,Int.zero_add];show(if((k:Nat):Int)=(if e="ring" then s else 0)then some 0 else none)=if e="open"∨((k:Nat):Int)=(if e="ring" then s else 0)then some 0 else none
  generalize (if e="ring" then s else 0)=E;by_cases z:((k:Nat):Int)=E
  ·rw[if_pos z,if_pos (Or.inr z)]
  ·rw[if_neg z,if_neg (λh=>Or.elim h (λh=>q h) λh=>z h)]
theorem qoy{S:D}{M:Int}{Y:List D}(hb:f_y5 [S]=some (.bl true))(hr:f_y1 [S]=some (.int M))(hy:eX (.int M)=some Y):f_y8 [S]=some (.lst Y):=by unfold f_y8 lE;generalize hu:eX=uo at hy ⊢;clear hu;walk_at "ev"
theorem qks{S:D}(one:1<=sizeLine)(hb:f_y5 [S]=some (.bl false)):f_y8 [S]=some (.lst [.int 0]):=by unfold f_y8 lE;walk_at "ev"
theorem qjy(ok:q2a r U G e):f_y8 [aw r U G e]=some (.lst ((ck r e).map D.int)):=by
 have p16:=jQ ok.r0 ok.r4;have pn:=gn (r:=r);have hr:=kW ok;have hb:=vZ ok;have tn:((2:Int)^r.toNat).toNat=2^r.toNat:=by omega
 unfold ck;by_cases q:e="ring"
 ·rw[if_pos q];have h1:bE e=true:=by unfold bE;simp[q]
  rw[h1]at hb;refine qoy hb hr ?_;show(if(0:Int)<=2^r.toNat/\(2:Int)^r.toNat<=1000000 then some ((i4 (2^r.toNat)).map D.int)else none)=_;rw[if_pos ⟨by omega,by omega⟩];unfold i4;rw[tn]
 ·rw[if_neg q];have h1:bE e=false:=by unfold bE;simp[q]
  rw[h1]at hb;exact qks (by decide) hb
theorem qnb{S ST EN TB:D}{s:Int}{gs gs':List (br×D)}(he:f_y26 [S,.int s]=some EN)(ha:f_y29 [ST,EN]=some TB)(hp:oo gs s TB=some gs'):uM [some S,some ST,some (.dct gs),some (.int s)]=some (.nx [some S,some ST,some (.dct gs'),some (.int s)]):=by
 refine qp8 (ρ1:=[some S,some ST,some (.dct gs),some (.int s)]) (ρ2:=[some S,some ST,some (.dct gs),some (.int s)]) (d:=TB) ?_ ?_ rfl hp
 ·clear hp;walk_at "ev"
 ·rfl
theorem qqi{S ST:D}{SS:List D}{gs:List (br×D)}{v3:Option D}{FB:aI}(hs:f_y8 [S]=some (.lst SS))(l1:eh (ai 3) FB SS [some S,some ST,some (.dct []),none]=some (.nx [some S,some ST,some (.dct gs),v3])):
 (aM false 2 4 (av (mw 2) (av (bA A5 (ai 3) FB) (aE (aa 2))))) [S,ST]=some (.dct gs):=by
 have h1:mw 2 [some S,some ST,none,none]=some (.nx [some S,some ST,some (.dct []),none]):=qpa (by simp);walk_at "ev"
theorem qa0:(ck r e).Nodup:=by
 unfold ck;by_cases q:e="ring"
 ·rw[if_pos q];rw[List.Nodup,List.pairwise_map];exact List.nodup_range.imp λh z=>h (by omega)
 ·rw[if_neg q];simp
theorem qjx(ok:q2a r U G e)(ts:List Told)(n:Nat)(hn:n<=60):f_y31 [aw r U G e,gk (bZ r U G ts n 0 (n+az r e))]=some (.dct ((ck r e).map λs=>(Sum.inl s,io (dc r U G e ts n s)))):=by
 have p16:=jQ ok.r0 ok.r4;have pn:=gn (r:=r);have z4:=jU ok;have hs:=qjy ok;have ls:(ck r e).length<=16:=by
  unfold ck;split
  ·simp;omega
  ·simp
 have hst:∀st∈bZ r U G ts n 0 (n+az r e),st.length=2^r.toNat/\∀ch∈st,ch.length<=2/\∀q∈ch,0<=q.1/\q.1.toNat<2^r.toNat:=λst h=>by
  have:∀(len k:Nat) (st:Sx),st∈bZ r U G ts n k len->st.length=2^r.toNat/\∀ch∈st,ch.length<=2/\∀q∈ch,0<=q.1/\q.1.toNat<2^r.toNat:=by
   intro len;induction len with
   |zero=>intro k st h;cases h
   | succ len ih=>
    intro k st h;have ok1:=oM (r:=r) (U:=U) (G:=G) (ts:=ts) (n:=n) (len+1) k;rw[t8]at h ok1;rcases List.mem_cons.mp h with h|h
    ·subst h;refine⟨ok1.1,λch hc=>⟨?_,(ok1.2.1 ch hc).2⟩⟩;rw[(ok1.2.1 ch hc).1];split<;>omega
    ·exact ih _ _ h
  exact this _ _ _ h
 have lst':(bZ r U G ts n 0 (n+az r e)).length<=1000:=by unfold bZ;rw[j3,List.length_range'];omega
 obtain⟨ρ',l1,v3,hρ⟩:=iz (fg:=ai 3) (fb:=uM)
  (λk ρ=>∃v3,ρ=[some (aw r U G e),some (gk (bZ r U G ts n 0 (n+az r e))),some (.dct (((ck r e).take k).map λs=>(Sum.inl s,io (dc r U G e ts n s)))),v3]) ((ck r e).map D.int) 0
  [some (aw r U G e),some (gk (bZ r U G ts n 0 (n+az r e))),some (.dct []),none] ⟨none,rfl⟩ (λi x ρ hx ⟨v3,hρ⟩=>by
   subst hρ;rw[jv];rw[jd]at hx;cases hs1:(ck r e)[i]? with
   |none=>rw[hs1]at hx;cases hx
   | some s=>
    rw[hs1]at hx;cases hx;have hb:=DE ok s;have ha:=Fw (bZ r U G ts n 0 (n+az r e)) (eJ r e s) (2^r.toNat) (by omega) lst' (by unfold eJ;simp) hst;refine⟨_,[some (aw r U G e),some (gk (bZ r U G ts n 0 (n+az r e))),some (.dct (((ck r e).take (i+1)).map λs=>(Sum.inl s,io (dc r U G e ts n s)))),some (.int s)],rfl,.inl (qnb hb ha ?_),_,rfl⟩;unfold oo;rw[if_pos]
    ·rw[cA hs1,jx];rfl
    ·refine⟨?_,?_⟩
     ·rw[j3,jz];exact jn (by omega:_<1000) (by decide)
     ·rw[List.all_eq_true];intro g hg;obtain⟨t,ht,rfl⟩:=List.mem_map.mp hg;have:t≠s:=λz=>by
       subst z;obtain⟨j,hj⟩:=List.mem_iff_getElem?.mp ht;have hj1:j<i:=by have:=(List.getElem?_eq_some_iff.mp hj).1;rw[jz]at this;omega
       rw[List.getElem?_take_of_lt hj1]at hj;have hi:=(List.getElem?_eq_some_iff.mp hs1).1;have hjl:=(List.getElem?_eq_some_iff.mp hj).1;have e1:=(List.getElem?_eq_some_iff.mp hj).2;have e2:=(List.getElem?_eq_some_iff.mp hs1).2;exact List.pairwise_iff_getElem.mp qa0 j i hjl hi hj1 (e1.trans e2.symm)
      simp[this])
 subst hρ;rw[j3,jv,List.take_length]at l1;unfold f_y31 vG;exact qqi hs l1
end
def eV(s:Int):Int:=(s*1181783497276652981+12345678910987) % 2305843009213693951
def db(s m:Int):Int:=eV s / 65537 % m
theorem mD(s:Int){m:Int}(h:0<m):0<=db s m:=Int.emod_nonneg _ (by omega)
theorem mB(s:Int){m:Int}(h:0<m):db s m<m:=Int.emod_lt_of_pos _ h
theorem kC(s m:Int)(h:0<m):f_y40 [.int s] [.int m]=some (.int (db s m),[.int (eV s)]):=by unfold f_y40 rY;walk_at "ev";simp[eV,db]
theorem xF(c k:Int)(one:1<=sizeLine):f_y39 [.int c,.int k]=some (.lst [.int ((c % 10^60*7368787+1000003*k+17) % 2305843009213693951)]):=by unfold f_y39 vI;walk_at "ev"
theorem lL{N:List D}{k x:Int}(h:k<(N.length:Nat))(h0:0<=k)(ha:bO N k=some (.int x)):f_y38 [.lst N,.int k]=some (.int (x % 10^60)):=by unfold f_y38 sr;walk_at "ev"
theorem jG{N:List D}{k:Int}(h:¬k<(N.length:Nat)):f_y38 [.lst N,.int k]=some (.int 0):=by unfold f_y38 sr;walk_at "ev"
theorem xW(ns:List Int)(k:Int)(h0:0<=k):∃c:Int,f_y38 [.lst (ns.map D.int),.int k]=some (.int c):=by
 by_cases h:k<ns.length
 ·refine⟨ns[k.toNat] % 10^60,lL (by rw[j3];omega) h0 ?_⟩;rw[jM (by omega) (by rw[j3];omega),jd,j8 (by omega)];rfl
 ·exact⟨0,jG (by rw[j3];omega)⟩
theorem s0(s x m:Int)(E:D)(nine:9<=sizeLine)(hx:bO [D.int 0,D.int 1,D.int 2,D.int 2,D.int 3,D.int 1,D.int 2,D.int 3,D.int 4] (db s 9)=some (.int x))(hm:(if x<4 then x else 4)=m):
 (aA 3 (jY (λi j=>if j<i then j else i) BX)) [some (.lst [.int s]),some (.int 4),some E,none,none,none,none]=some (.nx [some (.lst [.int (eV s)]),some (.int 4),some E,some (.int m),none,none,none]):=by
 have h:=kC s 9 (by decide);rw[<-hm];clear hm;walk_at "ev"
theorem s1e{x s m:Int}{r:Int}(hm:cg (.int 2) (.int r)=some (.int m))(h0:0<m):(gE f_y40 1 (am (af cg (ae (.int 2)) (aa 2)) ag)) [some (.int x),some (.lst [.int s]),some (.int r)]=some (.int (db s m),[some (.int x),some (.lst [.int (eV s)]),some (.int r)]):=by have h:=kC s m h0;generalize cg=SH at hm ⊢;walk_at "ev"
theorem s1r{s:Int}{v1 v2 v3 v4 v5 v6:Option D}:uG [some (.lst [.int s]),v1,v2,v3,v4,v5,v6]=some ([.int (1+db s 4)],[some (.lst [.int (eV s)]),v1,v2,v3,v4,v5,v6]):=by have h:=kC s 4 (by decide);walk_at "ev"
theorem s1x{s s1 s2 r:Int}{E:D}{X Y:List D}{FI:aT}{FE:aJ}(lx:X.length<=sizeLine)
 (hI:FI [some (.lst [.int s]),some (.int 4),some E,some (.int r),none,none,none]=some (X,[some (.lst [.int s1]),some (.int 4),some E,some (.int r),none,none,none]))
 (cm:cU 1 [0,3] (some (0,1)) (ai 0) (ae true) FE X [some (.lst [.int s1]),some (.int 4),some E,some (.int r),none,none,none]=some (Y,[some (.lst [.int s2]),some (.int 4),some E,some (.int r),none,none,none])):
 (aA 4 (bh (cG 1 [0,3] (some (0,1)) FI (ai 0) (ae true) FE))) [some (.lst [.int s]),some (.int 4),some E,some (.int r),none,none,none]=some (.nx [some (.lst [.int s2]),some (.int 4),some E,some (.int r),some (.lst Y),none,none]):=by
 walk_at "ev"
theorem lR{ρ ρ1:aB}{fs:aT}{n:Int}(h:fs ρ=some ([.int n],ρ1))(n0:0<=n)(n1:n<=1000):fD fs ρ=some (cY 0 n.toNat,ρ1):=by refine qrk h ?_;unfold fk;simp;omega
theorem s1(s r:Int)(E:D)(r0:0<=r)(r4:r<=4):∃(ts:List Int) (s':Int),(aA 4 (bh (cG 1 [0,3] (some (0,1)) (fD uG) (ai 0) (ae true) (gE f_y40 1 (am (af cg (ae (.int 2)) (aa 2)) ag))))) [some (.lst [.int s]),some (.int 4),some E,some (.int r),none,none,none]=some (.nx [some (.lst [.int s']),some (.int 4),some E,some (.int r),some (.lst (ts.map D.int)),none,none])
 /\1<=ts.length/\ts.length<=4/\∀t∈ts,0<=t/\t<2*2^r.toNat:=by
 have d0:=mD s (m:=4) (by decide);have d3:=mB s (m:=4) (by decide);have zi:(0:Int)<2*2^r.toNat:=Int.mul_pos (by decide) (Int.pow_pos (by decide));have hsh:cg (.int 2) (.int r)=some (.int (2*2^r.toNat)):=by
  have r6:r<=1000000:=by omega
  simp[cg,kP,mo,r0,r6]
 obtain⟨ys,s2,c1,c2,c3⟩:=p8 (n:=1) (p:=0) (q:=1) (js:=[0,3]) (fg:=ai 0) (fe:=gE f_y40 1 (am (af cg (ae (.int 2)) (aa 2)) ag))
  (λs:Int=>[some (.lst [.int s]),some (.int 4),some E,some (.int r),none,none,none]) (λy=>∃t:Int,y=.int t/\0<=t/\t<2*2^r.toNat) (cY 0 (1+db s 4).toNat) (λx hx s=>by obtain⟨k,hk⟩:=List.mem_iff_getElem?.mp hx;obtain⟨_,rfl⟩:=jW hk;exact⟨[some (.int (0+(k:Int))),some (.lst [.int s]),some (.int r)],[some (.int (0+(k:Int))),some (.lst [.int (eV s)]),some (.int r)],.int (db s (2*2^r.toNat)),eV s,rfl,s1e hsh zi,rfl,_,rfl,mD s zi,mB s zi⟩) (eV s)
 obtain⟨ts,rfl,tb⟩:=pX c3;rw[j3,gq]at c2;exact⟨ts,s2,s1x (by rw[gq];exact dy (by omega)) (lR (s1r) (by omega) (by omega)) c1,by omega,by omega,tb⟩
theorem s4e(x s:Int)(h:(0:Int)<4):A3 [some (.int x),some (.lst [.int s])]=some (.int (if db s 4>0 then 1 else 0),[some (.int x),some (.lst [.int (eV s)])]):=by have h4:=kC s 4 h;walk_at "ev"
theorem s4r{s:Int}{v1 v2 v3 v4 v5 v6:Option D}:uH [some (.lst [.int s]),v1,v2,v3,v4,v5,v6]=some ([.int (1+db s 6)],[some (.lst [.int (eV s)]),v1,v2,v3,v4,v5,v6]):=by have h:=kC s 6 (by decide);walk_at "ev"
theorem s4t{s s' r:Int}{E k:D}{TS RS RW:List D}{FE:aJ}(l3:TS.length<=sizeLine)(l6:RS.length<sizeLine)
 (g1:cU 1 [0] (some (0,1)) (ai 0) (ae true) FE TS [some (.lst [.int s]),some (.int 4),some E,some (.int r),some (.lst TS),some (.lst RS),some k]=some (RW,[some (.lst [.int s']),some (.int 4),some E,some (.int r),some (.lst TS),some (.lst RS),some k])):
 (dU i0 5 (am (aH lS (bh (cG 1 [0] (some (0,1)) (bD (aa 4)) (ai 0) (ae true) FE))) ag)) [some (.lst [.int s]),some (.int 4),some E,some (.int r),some (.lst TS),some (.lst RS),some k]=some (.nx [some (.lst [.int s']),some (.int 4),some E,some (.int r),some (.lst TS),some (.lst (RS++[.tup RW])),some k]):=by
 walk_at "ev"
theorem s4f{s s1:Int}{s' r:Int}{E:D}{v:Option D}{X TS RS:List D}{FI:aT}{FB:aI}
 (hI:FI [some (.lst [.int s]),some (.int 4),some E,some (.int r),some (.lst TS),some (.lst []),none]=some (X,[some (.lst [.int s1]),some (.int 4),some E,some (.int r),some (.lst TS),some (.lst []),none]))
 (f1:eh (ai 6) FB X [some (.lst [.int s1]),some (.int 4),some E,some (.int r),some (.lst TS),some (.lst []),none]=some (.nx [some (.lst [.int s']),some (.int 4),some E,some (.int r),some (.lst TS),some (.lst RS),v])):
 (bA FI (ai 6) FB) [some (.lst [.int s]),some (.int 4),some E,some (.int r),some (.lst TS),some (.lst []),none]=some (.nx [some (.lst [.int s']),some (.int 4),some E,some (.int r),some (.lst TS),some (.lst RS),v]):=by
 walk_at "ev"
theorem s4(s r:Int)(E:D)(U:List Int)(h1:1<=U.length)(h4:U.length<=4):∃(G:List (List Int)) (s':Int) (v:Option D),(bA (fD uH) (ai 6)
 uD) [some (.lst [.int s]),some (.int 4),some E,some (.int r),some (.lst (U.map D.int)),some (.lst []),none]=some (.nx [some (.lst [.int s']),some (.int 4),some E,some (.int r),some (.lst (U.map D.int)),some (.lst (G.map dq)),v])
 /\1<=G.length/\G.length<=6/\∀row∈G,row.length=U.length/\∀b∈row,b=0∨b=1:=by
 have d0:=mD s (m:=6) (by decide);have d6:=mB s (m:=6) (by decide);obtain⟨ρ',f1,G,s3,v,rfl,lr,hrow⟩:=iz (fg:=ai 6) (fb:=uD)
  (λi ρ=>∃(G:List (List Int)) (s:Int) (v:Option D),ρ=[some (.lst [.int s]),some (.int 4),some E,some (.int r),some (.lst (U.map D.int)),some (.lst (G.map dq)),v]/\G.length=i/\∀row∈G,row.length=U.length/\∀b∈row,b=0∨b=1)
  (cY 0 (1+db s 6).toNat) 0 [some (.lst [.int (eV s)]),some (.int 4),some E,some (.int r),some (.lst (U.map D.int)),some (.lst []),none] ⟨[],_,none,rfl,rfl,λ_ h=>nomatch h⟩ (by
    rintro i x ρ hx ⟨G,s,v,rfl,lr,hrow⟩;obtain⟨hi,rfl⟩:=jW hx;obtain⟨bs,s4,g1,g2,g3⟩:=p8 (n:=1) (p:=0) (q:=1) (js:=[0]) (fg:=ai 0) (fe:=aH iQ (af ql B0 (ae (.int 0))))
     (λs':Int=>[some (.lst [.int s']),some (.int 4),some E,some (.int r),some (.lst (U.map D.int)),some (.lst (G.map dq)),some (.int (0+(i:Int)))]) (λy=>∃t:Int,y=.int t/\(t=0∨t=1)) (U.map D.int) (λx hx s'=>by
       obtain⟨z,_,rfl⟩:=List.mem_map.mp hx;refine⟨[some (.int z),some (.lst [.int s'])],[some (.int z),some (.lst [.int (eV s')])],_,eV s',rfl,s4e z s' (by decide),rfl,_,rfl,?_⟩;split
       ·exact .inr rfl
       ·exact .inl rfl) s
    obtain⟨row,rfl,hb⟩:=pX g3;rw[j3,j3]at g2;refine⟨_,[some (.lst [.int s4]),some (.int 4),some E,some (.int r),some (.lst (U.map D.int)),some (.lst ((G++[row]).map dq)),some (.int (0+(i:Int)))],rfl,.inl ?_,G++[row],s4,_,rfl,by rw[je,lr];simp,λz hz=>?_⟩
    ·have e6:(G++[row]).map dq=G.map dq++[.tup (row.map D.int)]:=by rw[jx];rfl
     rw[e6];exact s4t (by rw[j3];exact dy (by omega)) (by rw[j3];exact jn (by omega:G.length<1000) (by decide)) g1
    ·rcases List.mem_append.mp hz with hz|hz
     ·exact hrow z hz
     ·rw[List.mem_singleton.mp hz];exact⟨g2,hb⟩)
 rw[gq]at lr;exact⟨G,s3,v,s4f (lR (s4r) (by omega) (by omega)) f1,by omega,by omega,hrow⟩
theorem s3(s r:Int)(E T:D)(z0:0<=sizeLine):(cI 5 (aY ag)) [some (.lst [.int s]),some (.int 4),some E,some (.int r),some T,none,none]=some (.nx [some (.lst [.int s]),some (.int 4),some E,some (.int r),some T,some (.lst []),none]):=by walk_at "ev"
theorem s5(s r:Int)(E TS RS:List D)(x:D)(v:Option D)(four:4<=sizeLine)(hE:((E.length:Nat):Int)=5)(hx:bO E (db s 5)=some x):
 BP [some (.lst [.int s]),some (.int 4),some (.lst E),some (.int r),some (.lst TS),some (.lst RS),v]=some (.rt (.tup [.int r,.tup TS,.tup RS,x]) [some (.lst [.int (eV s)]),some (.int 4),some (.lst E),some (.int r),some (.lst TS),some (.lst RS),v]):=by
 have h:=kC s 5 (by decide);walk_at "ev"
theorem qb6(s:Int):∃r U G e s',f_y41 [.int s] [.int 4,.lst [.str "open",.str "ended",.str "open",.str "ended",.str "ring"]]=some (aw r U G e,[.int s'])/\q2a r U G e:=by
 obtain⟨x,hx,x0,x4⟩:∃x:Int,bO [D.int 0,D.int 1,D.int 2,D.int 2,D.int 3,D.int 1,D.int 2,D.int 3,D.int 4] (db s 9)=some (.int x)/\0<=x/\x<=4:=by have d0:=mD s (m:=9) (by decide);have d9:=mB s (m:=9) (by decide);rcases(by omega:db s 9=0∨db s 9=1∨db s 9=2∨db s 9=3∨db s 9=4∨db s 9=5∨db s 9=6∨db s 9=7∨db s 9=8)with q|q|q|q|q|q|q|q|q<;>(rw[q];exact⟨_,rfl,by decide,by decide⟩)
 obtain⟨r,hr⟩:∃r,(if x<4 then x else 4)=r:=⟨_,rfl⟩;have r0:0<=r/\r<=4:=by split at hr<;>omega
 have a0:=s0 s x r (.lst [.str "open",.str "ended",.str "open",.str "ended",.str "ring"]) (by decide) hx hr;obtain⟨U,s1',a1,b1,b4,tb⟩:=s1 (eV s) r (.lst [.str "open",.str "ended",.str "open",.str "ended",.str "ring"]) r0.1 r0.2;have a3:=s3 s1' r (.lst [.str "open",.str "ended",.str "open",.str "ended",.str "ring"]) (.lst (U.map D.int)) (by decide);obtain⟨G,s4',v,a4,m1,m6,hrow⟩:=s4 s1' r (.lst [.str "open",.str "ended",.str "open",.str "ended",.str "ring"]) U b1 b4;obtain⟨e,he,hen⟩:∃e:Str,bO [D.str "open",D.str "ended",D.str "open",D.str "ended",D.str "ring"] (db s4' 5)=some (.str e)/\(e="open"∨e="ended"∨e="ring"):=by
  have d0:=mD s4' (m:=5) (by decide);have d2:=mB s4' (m:=5) (by decide);rcases(by omega:db s4' 5=0∨db s4' 5=1∨db s4' 5=2∨db s4' 5=3∨db s4' 5=4)with q|q|q|q|q
  ·rw[q];exact⟨_,rfl,.inl rfl⟩
  ·rw[q];exact⟨_,rfl,.inr (.inl rfl)⟩
  ·rw[q];exact⟨_,rfl,.inl rfl⟩
  ·rw[q];exact⟨_,rfl,.inr (.inl rfl)⟩
  ·rw[q];exact⟨_,rfl,.inr (.inr rfl)⟩
 have a5:=s5 s4' r [.str "open",.str "ended",.str "open",.str "ended",.str "ring"] (U.map D.int) (G.map dq) (.str e) v (by decide) rfl he;refine⟨r,U,G,e,eV s4',?_,⟨r0.1,r0.2,b1,b4,tb,m1,m6,hrow,hen⟩⟩;have body:=(bN a0).trans<|(bN a1).trans<|(bN a3).trans<|(bN a4).trans a5;unfold f_y41 gv;rw[if_pos (show [D.int 4,D.lst [.str "open",.str "ended",.str "open",.str "ended",.str "ring"]].length+1=3 from rfl)];show(match o8 [some (.lst [.int s]),some (.int 4),some (.lst [.str "open",.str "ended",.str "open",.str "ended",.str "ring"]),none,none,none,none]with
  | some (.rt d ρ)=>(match (ρ[0]? :Option (Option D))with
   |some (some (D.lst ys))=>some (d,ys)
   |_=>none)
  | some (.nx ρ)=>if false=true then none else(match (ρ[0]? :Option (Option D))with
   |some (some (D.lst ys))=>some (.non,ys)
   |_=>none)
  |_=>none)=_
 unfold o8;rw[body];rfl
theorem zH(l o:Int):um [some (.int l),some (.int o)]=some (decide (0<l),[some (.int l),some (.int o)]):=by walk_at "ev"
theorem zI(l o:Int):uQ [some (.int l),some (.int o)]=some (.nx [some (.int (l / 2)),some (.int ((o+l % 2) % 2))]):=by walk_at "ev"
theorem Eg:∀(f zj:Nat) (l o:Int),0<=l->l.toNat<2^f->(o=0∨o=1)->f<zj->∃l':Int,ia um
 uQ zj [some (.int l),some (.int o)]=some (.nx [some (.int l'),some (.int ((o+(bX f l.toNat:Nat)) % 2))])
 |_,0,_,_,_,_,_,h=>absurd h (Nat.not_lt_zero _)
 | f,zj+1,l,o,l0,lf,ho,hf=>by
  have ht:=zH l o;by_cases hl:0<l
  ·cases f with
   |zero=>exact absurd lf (by omega)
   | succ f=>
    have e2:(l / 2).toNat=l.toNat / 2:=by omega
    have lt2:(l / 2).toNat<2^f:=by rw[e2];rw[Nat.pow_succ]at lf;omega
    obtain⟨l',ih⟩:=Eg f zj (l / 2) ((o+l % 2) % 2) (by omega) lt2 (by omega) (by omega);refine⟨l',?_⟩;rw[decide_eq_true hl]at ht;unfold ia;rw[ht];dsimp only;rw[zI];dsimp only;rw[ih,e2];have u:bX (f+1) l.toNat=(l.toNat % 2+bX f (l.toNat / 2)) % 2:=rfl;rw[u];have ev:((o+l % 2) % 2+(bX f (l.toNat / 2):Nat)) % 2=(o+(((l.toNat % 2+bX f (l.toNat / 2)) % 2:Nat):Int)) % 2:=by omega
    rw[ev]
  ·rw[decide_eq_false hl]at ht;refine⟨l,?_⟩;unfold ia;rw[ht];dsimp only;have e0:l=0:=by omega
   subst e0;rw[show((0:Int)).toNat=0 from rfl,tX];have ev:(o+((0:Nat):Int)) % 2=o:=by omega
   rw[ev]
theorem qvh(n:Int)(h0:0<=n)(h:n<32):f_y42 [.int n]=some (.int (bX 5 n.toNat:Nat)):=by
 obtain⟨l',hw⟩:=Eg 5 1000 n 0 h0 (by omega) (.inl rfl) (by decide);have e1:((0:Int)+(bX 5 n.toNat:Nat)) % 2=(bX 5 n.toNat:Nat):=by have:=wV 5 n.toNat;omega
 rw[e1]at hw;generalize bX 5 n.toNat=p at hw ⊢;unfold f_y42 vJ;generalize (1000:Nat)=zj at hw ⊢;clear h0 h e1;walk_at "ev"
theorem yV{S k:D}{z6 bit:Int}:(aA 4 oZ) [some S,some k,some (.int z6),some (.int bit),none,none,none]=some (.nx [some S,some k,some (.int z6),some (.int bit),some (.int (2*z6+bit)),none,none]):=by walk_at "ev"
theorem yS{t aK o:Int}(h:f_y42 [.int (Builtin.bitAnd aK t)]=some (.int o)):((a9 f_y42 oX) [some (.int t),some (.int aK)]).map (·.1)=some (.int o):=by walk_at "ev"
theorem yU{R RS e k z6 bit aK:D}{TS Y:List D}{FE:aJ}(lt:TS.length<=sizeLine)(cm:cU 1 [4] none (ai 0) (ae true) FE TS [some (.tup [R,.tup TS,RS,e]),some k,some z6,some bit,some aK,none,none]=some (Y,[some (.tup [R,.tup TS,RS,e]),some k,some z6,some bit,some aK,none,none])):
 (aA 5 (bh (cG 1 [4] none ur (ai 0) (ae true) FE))) [some (.tup [R,.tup TS,RS,e]),some k,some z6,some bit,some aK,none,none]=some (.nx [some (.tup [R,.tup TS,RS,e]),some k,some z6,some bit,some aK,some (.lst Y),none]):=by
 walk_at "ev"
theorem yT{R TS e z6 bit aK Y:D}{RS RW:List D}{k':Int}(za:0<RS.length)(hr:bO RS (k' % (RS.length:Nat))=some (.tup RW)):
 BL [some (.tup [R,TS,.tup RS,e]),some (.int k'),some z6,some bit,some aK,some Y,none]=some (.nx [some (.tup [R,TS,.tup RS,e]),some (.int k'),some z6,some bit,some aK,some Y,some (.tup RW)]):=by
 walk_at "ev"
theorem yR(S k z6 bit aK L:D)(Y:List D):(am (aH bI (aa 5)) ag) [some S,some k,some z6,some bit,some aK,some (.lst Y),some L]=some ([.int ((Y.length:Nat):Int)],[some S,some k,some z6,some bit,some aK,some (.lst Y),some L]):=by walk_at "ev"
theorem yP{Y RW:List D}{i b:Int}(h:bO RW i=some (.int b)):(bz uz) [some (.int i),some (.lst Y),some (.tup RW)]=some (b==1,[some (.int i),some (.lst Y),some (.tup RW)]):=by walk_at "ev"
theorem yO{Y RW:List D}{i:Int}{y:D}(h:bO Y i=some y):((af bj (aa 1) (aa 0)) [some (.int i),some (.lst Y),some (.tup RW)]).map (·.1)=some y:=by walk_at "ev"
theorem yQ{r aK m:Int}{TS RS e k z6 bit Y L:D}{X Z:List D}{FI:aT}{FT:dP}{FE:aJ}(two:2<=sizeLine)(lx:X.length<=sizeLine)(hs:cg (.int 1) (.int r)=some (.int m))(m0:0<m)
 (hI:FI [some (.tup [.int r,TS,RS,e]),some k,some z6,some bit,some (.int aK),some Y,some L]=some (X,[some (.tup [.int r,TS,RS,e]),some k,some z6,some bit,some (.int aK),some Y,some L]))
 (cm:cU 1 [5,6] none (ai 0) FT FE X [some (.tup [.int r,TS,RS,e]),some k,some z6,some bit,some (.int aK),some Y,some L]=some (Z,[some (.tup [.int r,TS,RS,e]),some k,some z6,some bit,some (.int aK),some Y,some L])):
 (aE (cc (am (af dG (aa 4) (af cg (ae (.int 1)) (af bj (aa 0) (ae (.int 0))))) (am (bh (cG 1 [5,6] none FI (ai 0) FT FE)) ag)))) [some (.tup [.int r,TS,RS,e]),some k,some z6,some bit,some (.int aK),some Y,some L]=some (.rt (.tup [.int (aK % m),.lst Z]) [some (.tup [.int r,TS,RS,e]),some k,some z6,some bit,some (.int aK),some Y,some L]):=by
 generalize cg=SH at hs ⊢;walk_at "ev"
section
variable{r:Int}{U:List Int}{G:List (List Int)}{e:Str}
theorem vn(ok:q2a r U G e):cg (.int 1) (.int r)=some (.int (2^r.toNat)):=by
 have r0:=ok.r0;have r4:=ok.r4;have r6:r<=1000000:=by omega
 simp[cg,kP,mo,r0,r6]
theorem qrj(ok:q2a r U G e)(k:Nat):(aF G k).length=U.length/\∀b∈aF G k,b=0∨b=1:=by have m1:=ok.m1;have hk:k % G.length<G.length:=Nat.mod_lt _ (by omega);unfold aF;rw[j8 hk];exact ok.rw _ (xk hk)
theorem qem{row signs:List Int}(h:row.length=signs.length):(((List.range signs.length).filter λi=>row.getD i 0==1).map λi=>signs.getD i 0)=fq row signs:=by
 have e1:signs.zip row=(List.range signs.length).map λi=>(signs.getD i 0,row.getD i 0):=by
  apply List.ext_getElem
  ·simp[h]
  ·intro i h1 h2;simp at h1 h2;simp[h1,h2,h]
 unfold fq;rw[e1,List.filter_map,jg];rfl
theorem qjr(ok:q2a r U G e)(k:Nat)(x:Int):(fq (aF G k) (U.map (dI x))).length=(bF U G k).length:=by rw[qg,j3];rfl
theorem qv(ok:q2a r U G e)(k:Nat)(z6 bit:Int)(a0:0<=z6)(hb:0<=bit):f_y43 [aw r U G e,.int k,.int z6,.int bit]=some (.tup [.int ((2*z6+bit) % 2^r.toNat),.lst ((fq (aF G k) (U.map (dI (2*z6+bit)))).map D.int)]):=by
 have p16:=jQ ok.r0 ok.r4;have c1:=gC (n:=1) (js:=[4]) (fg:=ai 0) (fe:=a9 f_y42 oX) (ρ:=[some (aw r U G e),some (.int (k:Int)),some (.int z6),some (.int bit),some (.int (2*z6+bit)),none,none])
  (λd=>match d with|.int t=>.int (dI (2*z6+bit) t)|d=>d) (U.map D.int) (λx hx=>by obtain⟨t,ht,rfl⟩:=List.mem_map.mp hx;have tb:=ok.tb t ht;have ea:=DZ (x:=2*z6+bit) (y:=t) (by omega) tb.1;have le:(2*z6+bit).toNat &&& t.toNat<=t.toNat:=Nat.and_le_right;have ho:=qvh (Builtin.bitAnd (2*z6+bit) t) (by omega) (by omega);rw[show(Builtin.bitAnd (2*z6+bit) t).toNat=(2*z6+bit).toNat &&& t.toNat from by omega]at ho;exact⟨[some (.int t),some (.int (2*z6+bit))],rfl,yS ho⟩)
 have es:(U.map D.int).map (λd=>match d with|.int t=>D.int (dI (2*z6+bit) t)|d=>d)=(U.map (dI (2*z6+bit))).map D.int:=by rw[jg,jg];rfl
 rw[es]at c1;have c2:(U.map (dI (2*z6+bit))).length=U.length:=j3 ..;generalize U.map (dI (2*z6+bit))=signs at c1 c2 ⊢;have hrow:=qrj ok k;have hat:∀i:Nat,i<signs.length->bO ((aF G k).map D.int) (i:Int)=some (.int ((aF G k).getD i 0))/\bO (signs.map D.int) (i:Int)=some (.int (signs.getD i 0)):=λi hi=>by
  refine⟨?_,?_⟩
  ·rw[jM (by omega) (by rw[j3];omega),jq,jd,j8 (by omega),jc,j8 (by omega)];rfl
  ·rw[jM (by omega) (by rw[j3];omega),jq,jd,j8 hi,jc,j8 hi];rfl
 have cf:=qf (n:=1) (js:=[5,6]) (fg:=ai 0) (ft:=bz uz) (fe:=af bj (aa 1) (aa 0)) (ρ:=[some (aw r U G e),some (.int (k:Int)),some (.int z6),some (.int bit),some (.int (2*z6+bit)),some (.lst (signs.map D.int)),some (.tup ((aF G k).map D.int))])
  (λd=>match d with|.int i=>(aF G k).getD i.toNat 0==1|_=>false) (λd=>match d with|.int i=>.int (signs.getD i.toNat 0)|d=>d) (cY 0 signs.length) (λx hx=>by obtain⟨i,hx1⟩:=List.mem_iff_getElem?.mp hx;obtain⟨hi,rfl⟩:=jW hx1;rw[Int.zero_add];obtain⟨h1,h2⟩:=hat i hi;exact⟨_,rfl,yP h1,λ_=>yO h2⟩)
 have ey:((cY 0 signs.length).filter (λd=>match d with|.int i=>(aF G k).getD i.toNat 0==1|_=>false)).map (λd=>match d with|.int i=>D.int (signs.getD i.toNat 0)|d=>d)=(fq (aF G k) signs).map D.int:=by
  rw[<-qem (hrow.1.trans c2.symm)];unfold cY;rw[List.filter_map,jg,jg];have e3:((λd=>match d with|D.int i=>(aF G k).getD i.toNat 0==1|_=>false)∘λ(i:Nat)=>D.int (0+(i:Int)))=λi=>(aF G k).getD i 0==1:=by funext i;show((aF G k).getD ((0:Int)+(i:Int)).toNat 0==1)=_;rw[Int.zero_add,jq]
  rw[e3];refine List.map_congr_left λi _=>?_;show D.int (signs.getD ((0:Int)+(i:Int)).toNat 0)=_;rw[Int.zero_add,jq];rfl
 rw[ey]at cf;have hl:0<(G.map dq).length:=by have:=ok.m1;rw[j3];omega
 have ln:((signs.map D.int).length:Int)=(signs.length:Nat):=by rw[j3]
 have t4:=ok.t4;have hI:=lR (yR (aw r U G e) (.int (k:Int)) (.int z6) (.int bit) (.int (2*z6+bit)) (.tup ((aF G k).map D.int)) (signs.map D.int)) (by omega) (by rw[ln];omega);rw[ln,jq]at hI;exact mJ rfl ⟨_,(bN (yV)).trans<|(bN (yU (by rw[j3];exact dy (by omega)) c1)).trans<|
  (bN (yT hl (DK ok k))).trans<|yQ (by decide) (by rw[gq];exact dy (by omega)) (vn ok) (by omega) hI cf⟩
end
theorem qjk{R TS RS W:D}{e:Str}(h:cB (.str e) (.str "ring")=some false):f_y44 [.tup [R,TS,RS,.str e],W]=some (.int 0):=by unfold f_y44 sy;walk_at "ev"
theorem y9{S:D}{W:List D}(lw:W.length<=sizeLine):(aA 2 (bh (i7 d5 (aa 1)))) [some S,some (.lst W),none,none,none,none,none]=some (.nx [some S,some (.lst W),some (.lst W),none,none,none,none]):=by walk_at "ev"
theorem yZ{R TS RS W B:D}{e:Str}{FX:aI}(h:cB (.str e) (.str "ended")=some false):(cR rL FX aX) [some (.tup [R,TS,RS,.str e]),some W,some B,none,none,none,none]=some (.nx [some (.tup [R,TS,RS,.str e]),some W,some B,none,none,none,none]):=by walk_at "ev"
theorem yW(TS RS W:D)(r:Int)(B Z:List D)(e:Str)(FR:aT)(h:cB (.str e) (.str "ended")=some true)(hr:FR [some (.tup [.int r,TS,RS,.str e]),some W,some (.lst B),none,none,none,none]=some (Z,[some (.tup [.int r,TS,RS,.str e]),some W,some (.lst B),none,none,none,none]))(l:B.length+Z.length<=sizeLine):
 (cR rL (aA 2 (af cD (aa 2) (bh FR))) aX) [some (.tup [.int r,TS,RS,.str e]),some W,some (.lst B),none,none,none,none]=some (.nx [some (.tup [.int r,TS,RS,.str e]),some W,some (.lst (B++Z)),none,none,none,none]):=by
 walk_at "ev"
theorem zn{r:Int}{TS RS W B e:D}(one:1<=sizeLine):(aY (am (ae (.int 0)) ag)) [some (.tup [.int r,TS,RS,e]),some W,some B,none,none,none,none]=some ([.int 0],[some (.tup [.int r,TS,RS,e]),some W,some B,none,none,none,none]):=by walk_at "ev"
theorem y6{r:Int}{TS RS W B e:D}:(af bj (aa 0) (ae (.int 0))) [some (.tup [.int r,TS,RS,e]),some W,some B,none,none,none,none]=some (.int r,[some (.tup [.int r,TS,RS,e]),some W,some B,none,none,none,none]):=by walk_at "ev"
theorem y8{S W B:D}{a:D}(h:f_y44 [S,W]=some a):Bl [some S,some W,some B,none,none,none,none]=some (.nx [some S,some W,some B,some a,none,none,none]):=by walk_at "ev"
theorem y7{S W B a:D}(z0:0<=sizeLine):(cI 4 (aY ag)) [some S,some W,some B,some a,none,none,none]=some (.nx [some S,some W,some B,some a,some (.lst []),none,none]):=by walk_at "ev"
theorem yX{S W:D}{z k' nz b:Int}{B F S2:List D}(v6:Option D)(hb:bO B k'=some (.int b))(st:f_y43 [S,.int k',.int z,.int b]=some (.tup [.int nz,.lst S2]))(ln:F.length+S2.length<=sizeLine):
 Bg [some S,some W,some (.lst B),some (.int z),some (.lst F),some (.int k'),v6]=some (.nx [some S,some W,some (.lst B),some (.int nz),some (.lst (F++S2)),some (.int k'),some (.lst S2)]):=by
 walk_at "ev"
theorem yY(S W a F:D)(B:List D):(am (aH bI (aa 2)) ag) [some S,some W,some (.lst B),some a,some F,none,none]=some ([.int ((B.length:Nat):Int)],[some S,some W,some (.lst B),some a,some F,none,none]):=by walk_at "ev"
theorem qqw{S W B a:D}{X F:List D}{v3 v5 v6:Option D}{FI:aT}{FB:aI}(hI:FI [some S,some W,some B,some a,some (.lst []),none,none]=some (X,[some S,some W,some B,some a,some (.lst []),none,none]))
 (l1:eh (ai 5) FB X [some S,some W,some B,some a,some (.lst []),none,none]=some (.nx [some S,some W,some B,v3,some (.lst F),v5,v6])):
 (av (bA FI (ai 5) FB) (kA 4)) [some S,some W,some B,some a,some (.lst []),none,none]=some (.rt (.lst F) [some S,some W,some B,v3,none,v5,v6]):=by
 walk_at "ev"
theorem Eo{b:aI}{n k:Nat}{ds:List D}{F:List D}(hl:ds.length=n)(h:∃ρ,b (ds.map some++List.replicate (k-n) none)=some (.rt (.lst F) ρ)):aM true n k b ds=some (.lst F):=by obtain⟨ρ,h⟩:=h;unfold aM;rw[if_pos hl,h]
section
variable{r:Int}{U:List Int}{G:List (List Int)}{e:Str}
theorem qB(ok:q2a r U G e)(k:Nat):(bF U G k).length<=4:=by unfold bF;refine jr (List.length_filter_le _ _) ?_;rw[xy];have:=ok.t4;have:=kc U.length (aF G k).length;omega
theorem tE(ok:q2a r U G e)(k:Nat):(bn U G k).length<=k*4:=tO _ 4 (λk=>by rw[ji];exact qB ok k) _
theorem qii{n:Nat}{w:List Int}(hb:ax w)(hn:n<=w.length):bi (2^n) 0 w=aR (w.drop (w.length-n)):=by
 have m0:(0:Int)<2^n:=Int.pow_pos (by decide);have hl:(w.drop (w.length-n)).length=n:=by rw[xj];omega
 have ha:=kG (w.drop (w.length-n)) λb h=>hb b (List.mem_of_mem_drop h);rw[hl]at ha;have h1:=qa (2^n) w 0;have hw:=qe (w.take (w.length-n)) (w.drop (w.length-n));rw[List.take_append_drop,hl]at hw;rw[kK,hw,Int.zero_mul,Int.zero_add,Int.add_comm,Int.add_mul_emod_self_right,Int.emod_eq_of_lt ha.1 ha.2]at h1;have h2:=kE m0 w 0 ⟨Int.le_refl _,m0⟩;rw[Int.emod_eq_of_lt h2.1 h2.2]at h1;exact h1
theorem zA{TS RS E W:D}{r z6 b m:Int}(hs:cg (.int 1) (.int r)=some (.int m))(h0:0<m):(aA 2 (af dG oZ (af cg (ae (.int 1)) (af bj (aa 0) (ae (.int 0)))))) [some (.tup [.int r,TS,RS,E]),some W,some (.int z6),some (.int b)]=some (.nx [some (.tup [.int r,TS,RS,E]),some W,some (.int ((2*z6+b) % m)),some (.int b)]):=by generalize cg=SH at hs ⊢;walk_at "ev"
theorem qrh{R TS RS:D}{W:List D}{e:Str}{z:Int}{v3:Option D}{FB:aI}(h:cB (.str e) (.str "ring")=some true)(hf:eh (ai 3) FB W [some (.tup [R,TS,RS,.str e]),some (.lst W),some (.int 0),none]=some (.nx [some (.tup [R,TS,RS,.str e]),some (.lst W),some (.int z),v3])):
 (aM false 2 4 (av (aA 2 (ae (.int 0))) (av (cR (bz ma)
 (bA (bD (aa 1)) (ai 3) FB)
 aX) (aE (aa 2))))) [.tup [R,TS,RS,.str e],.lst W]=some (.int z):=by
 walk_at "ev"
theorem lJ(ok:q2a r U G e)(w:List Int)(hb:ax w)(hw:e="ring"->r.toNat<=w.length):f_y44 [aw r U G e,.lst (w.map D.int)]=some (.int (bG r e w)):=by
 by_cases q:e="ring"
 ·have m0:(0:Int)<2^r.toNat:=Int.pow_pos (by decide);obtain⟨ρ',l1,v3,hρ⟩:=iz (fg:=ai 3) (fb:=(aA 2 (af dG oZ (af cg (ae (.int 1)) (af bj (aa 0) (ae (.int 0))))))) (λk ρ=>∃v3,ρ=[some (aw r U G e),some (.lst (w.map D.int)),some (.int (bi (2^r.toNat) 0 (w.take k))),v3]) (w.map D.int) 0
   [some (aw r U G e),some (.lst (w.map D.int)),some (.int 0),none] ⟨none,rfl⟩ (by rintro i x ρ hx ⟨v3,rfl⟩;rw[jd]at hx;obtain⟨b,hb1,rfl⟩:=Option.map_eq_some_iff.mp hx;rw[jv];refine⟨_,_,rfl,.inl (zA (vn ok) m0),some (.int b),?_⟩;rw[cA hb1,yb,show 2*bi (2^r.toNat) 0 (w.take i)+b=bi (2^r.toNat) 0 (w.take i)+bi (2^r.toNat) 0 (w.take i)+b from by omega];rfl)
  subst hρ;rw[jv,j3,List.take_length,qii hb (hw q)]at l1;unfold bG;rw[if_pos q];unfold f_y44 sy;exact qrh (by rw[q];exact iG) l1
 ·unfold bG;rw[if_neg q];refine qjk ?_;rcases ok.en with g|g|g
  ·rw[g];exact i9
  ·rw[g];exact jp
  ·exact absurd g q
def bM(r:Int)(U:List Int)(G:List (List Int))(e:Str)(w:List Int):List Int:=g9 (bE e) r.toNat U G w (w.length+az r e)
theorem E6(ok:q2a r U G e){w:List Int}(hb:ax w)(hw:e="ring"->r.toNat<=w.length):pC r.toNat U G (bG r e w) (rZ r e w)=bM r U G e w:=by rw[xH,qox,qjn (by have:=ok.r4;omega) hb (qgq hw) λt h=>(ok.tb t h).1];rfl
theorem sZ(ok:q2a r U G e)(w:List Int)(hb:ax w)(hw:e="ring"->r.toNat<=w.length)(hl:w.length<=60):f_y45 [aw r U G e,.lst (w.map D.int)]=some (.lst ((bM r U G e w).map D.int)):=by
 have z4:=jU ok;have r0:=ok.r0;have r4:=ok.r4;have ne:e≠"ended"->cB (.str e) (.str "ended")=some false:=λq=>by
  rcases ok.en with g|g|g
  ·rw[g];exact qD
  ·exact absurd g q
  ·rw[g];exact qC
 have hB:BJ [some (aw r U G e),some (.lst (w.map D.int)),some (.lst (w.map D.int)),none,none,none,none]=some (.nx [some (aw r U G e),some (.lst (w.map D.int)),some (.lst ((w++List.replicate (az r e) 0).map D.int)),none,none,none,none]):=by
  by_cases g:e="ended"
  ·have ez:az r e=r.toNat:=by rw[g];exact if_pos rfl
   have hrep:(dL (aY (am (ae (.int 0)) ag)) (af bj (aa 0) (ae (.int 0)))) [some (aw r U G e),some (.lst (w.map D.int)),some (.lst (w.map D.int)),none,none,none,none]=some (List.replicate r.toNat (D.int 0),[some (aw r U G e),some (.lst (w.map D.int)),some (.lst (w.map D.int)),none,none,none,none]):=sW (zn (by decide)) (y6) (tI r0 (by omega));have:=yW (.tup (U.map D.int)) (.tup (G.map dq)) (.lst (w.map D.int)) r (w.map D.int) _ e _ (by rw[g];exact qE) hrep (by rw[j3,ji];exact dy (by omega));rw[ez,jx,List.map_replicate];exact this
  ·have ez:az r e=0:=if_neg g;rw[ez,List.replicate_zero,List.append_nil];exact yZ (ne g)
 rw[<-E6 ok hb hw,xH];have hul:(w++List.replicate (az r e) 0).length=w.length+az r e:=by rw[je,ji]
 have hbb:ax (w++List.replicate (az r e) 0):=iA hb (lU _);have hst:=lJ ok w hb hw;have ha:=xM (r:=r) (e:=e) kG w hb hw;generalize bG r e w=a at hst ha;generalize w++List.replicate (az r e) 0=u at hB hul hbb;have m0:(0:Int)<2^r.toNat:=Int.pow_pos (by decide);obtain⟨ρ',l1,v5,v6,hρ⟩:=iz (fg:=ai 5) (fb:=av BW
 (cI 4 (pG pF (aa 4) (aa 6))))
   (λk ρ=>∃(v5 v6:Option D),ρ=[some (aw r U G e),some (.lst (w.map D.int)),some (.lst (u.map D.int)),some (.int (bi (2^r.toNat) a (u.take k))),some (.lst (((List.range k).flatMap (gc r.toNat U G a u)).map D.int)),v5,v6]) (cY 0 u.length) 0
   [some (aw r U G e),some (.lst (w.map D.int)),some (.lst (u.map D.int)),some (.int a),some (.lst []),none,none] ⟨none,none,rfl⟩ (by
    rintro i x ρ hx ⟨v5,v6,rfl⟩;obtain⟨hi,rfl⟩:=jW hx;rw[jv];rw[Int.zero_add];have hbi:=hbb _ (xk hi);have ek:u[i]? =some u[i]:=j8 hi;have ga:bO (u.map D.int) (i:Int)=some (.int u[i]):=by rw[jM (by omega) (by rw[j3];omega),jq,jd,ek];rfl
    have hr:=kE m0 (u.take i) a ha;have st:=qv ok i (bi (2^r.toNat) a (u.take i)) u[i] hr.1 (by omega);have es:fq (aF G i) (U.map (dI (2*bi (2^r.toNat) a (u.take i)+u[i])))=gc r.toNat U G a u i:=by unfold gc;rw[jc,ek];rfl
    rw[es]at st;have p4:=yc (U:=U) (G:=G) (m:=r.toNat) (a:=a) (u:=u) i;have p5:=tE ok i;have q4:=qB ok i;have q5:=Ga (U:=U) (G:=G) (m:=r.toNat) (a:=a) (u:=u) i;have hle:(((List.range i).flatMap (gc r.toNat U G a u)).map D.int).length+((gc r.toNat U G a u i).map D.int).length<=sizeLine:=by rw[j3,j3];exact dy (by omega)
    refine⟨_,_,rfl,.inl (yX v6 ga st hle),some (.int (i:Int)),some (.lst ((gc r.toNat U G a u i).map D.int)),?_⟩;rw[gD,jx,cA ek,yb,show 2*bi (2^r.toNat) a (u.take i)+u[i]=bi (2^r.toNat) a (u.take i)+bi (2^r.toNat) a (u.take i)+u[i]from by omega])
 subst hρ;rw[gq,jv]at l1;have ln:((u.map D.int).length:Int)=(u.length:Nat):=by rw[j3]
 have hI:=lR (yY (aw r U G e) (.lst (w.map D.int)) (.int a) (.lst []) (u.map D.int)) (by omega) (by rw[ln];omega);rw[ln,jq]at hI;exact Eo rfl ⟨_,(bN (y9 (by rw[j3];exact dy (by omega)))).trans<|(bN hB).trans<|(bN (y8 hst)).trans<|
  (bN (y7 (by decide))).trans<|qqw hI l1⟩
end
def eE(t:Int×Int×Int):D:=.tup [.int t.1,.int t.2.1,.int t.2.2]
theorem qpq{s z6 c k:Int}{TB:D}{T R:List D}(h1:fY TB (.int s)=some (.lst T))(h2:bO T k=some (.lst R))(h3:bO R z6=some .non):f_y32 [.tup [.int s,.int z6,.int c],TB,.int k]=some .non:=by unfold f_y32 sn;generalize hd:fY=dx at h1 ⊢;clear hd;walk_at "ev"
theorem qpp{s z6 c k x:Int}{TB:D}{T R:List D}(h1:fY TB (.int s)=some (.lst T))(h2:bO T k=some (.lst R))(h3:bO R z6=some (.int x)):f_y32 [.tup [.int s,.int z6,.int c],TB,.int k]=some (.int (c+x)):=by unfold f_y32 sn;generalize hd:fY=dx at h1 ⊢;clear hd;walk_at "ev"
theorem AK{T TB:D}{B:List D}:(aA 3 (aH bI (aa 0))) [some (.lst B),some T,some TB,none,none]=some (.nx [some (.lst B),some T,some TB,some (.int ((B.length:Nat):Int)),none]):=by walk_at "ev"
theorem AJ{B TB k:D}{T A:List D}{FT:dP}(lt:T.length<=sizeLine)(cf:cU 1 [2,3] none (ai 0) FT (aa 0) T [some B,some (.lst T),some TB,some k,none]=some (A,[some B,some (.lst T),some TB,some k,none])):
 (aA 4 (bh (cG 1 [2,3] none (bD (aa 1)) (ai 0) FT (aa 0)))) [some B,some (.lst T),some TB,some k,none]=some (.nx [some B,some (.lst T),some TB,some k,some (.lst A)]):=by
 walk_at "ev"
theorem AI{B T TB k m:D}{A Y:List D}{DM:D->Option D}{FE:aJ}(lt:A.length<=sizeLine)(three:3<=sizeLine)(cm:cU 1 [2,3] none (ai 0) (ae true) FE A [some B,some T,some TB,some k,some (.lst A)]=some (Y,[some B,some T,some TB,some k,some (.lst A)]))(hm:DM (.lst Y)=some m):
 (aE (cc (am (aH DM (bh (cG 1 [2,3] none (bD (aa 4)) (ai 0) (ae true) FE))) (am (aa 0) (am (aa 4) ag))))) [some B,some T,some TB,some k,some (.lst A)]=some (.rt (.tup [m,B,.lst A]) [some B,some T,some TB,some k,some (.lst A)]):=by
 walk_at "ev"
theorem D5{t TB k y:D}(h:f_y32 [t,TB,k]=some y):(a9 f_y32 gF) [some t,some TB,some k]=some (y,[some t,some TB,some k]):=by walk_at "ev"
theorem qpo(o:Option Int)(FC:aJ)(ρ:aB)(h:FC ρ=some (bJ o,ρ)):(bz (af iW FC (ae .non))) ρ=some (o.isSome,ρ):=by
 rw[wH,Dg,h];cases o with
 |none=>rfl
 |some x=>rfl
def rT(d:D):Option (Int×Int×Int):=match d with
 |.tup [.int s,.int r,.int c]=>some (s,r,c)
 |_=>none
theorem Fg(c:Int×Int×Int->Option Int):∀trs:List (Int×Int×Int),(trs.filter λt=>(c t).isSome).map (λt=>bJ (c t))=(trs.filterMap c).map D.int
 |[]=>rfl
 | t::trs=>by
  have ih:=Fg c trs;cases h:c t with
  |none=>rw[List.filter_cons_of_neg (by rw[h];decide),List.filterMap_cons_none h,ih]
  |some x=>rw[List.filter_cons_of_pos (by rw[h];rfl),List.filterMap_cons_some h,jo,jo,ih,h];rfl
theorem qvu(b:List Int)(trs:List (Int×Int×Int))(TB:D)(c:Int×Int×Int->Option Int)(m:Int)(hc:∀t∈trs,f_y32 [eE t,TB,.int (b.length:Nat)]=some (bJ (c t)))(hl:trs.length<=1000)(hm:c5 (trs.filterMap c)=some m):
 f_y33 [.lst (b.map D.int),.lst (trs.map eE),TB]=some (.tup [.int m,.lst (b.map D.int),.lst ((trs.filter λt=>(c t).isSome).map eE)]):=by
 have cf:=qf (n:=1) (js:=[2,3]) (fg:=ai 0) (ft:=bz (af iW (a9 f_y32 gF) (ae .non))) (fe:=aa 0) (ρ:=[some (.lst (b.map D.int)),some (.lst (trs.map eE)),some TB,some (.int ((b.map D.int).length:Nat)),none])
  (λd=>((rT d).bind c).isSome) (λd=>d) (trs.map eE) (λx hx=>by obtain⟨t,ht,rfl⟩:=List.mem_map.mp hx;have h:=hc t ht;refine⟨[some (eE t),some TB,some (.int ((b.map D.int).length:Nat))],rfl,?_,λ_=>rfl⟩;rw[j3];exact qpo (c t) _ _ (D5 h))
 have e1:((trs.map eE).filter λd=>((rT d).bind c).isSome).map (λd=>d)=(trs.filter λt=>(c t).isSome).map eE:=by rw[List.map_id',List.filter_map];rfl
 rw[e1]at cf;have sub:∀t∈trs.filter (λt=>(c t).isSome),t∈trs:=λt ht=>(List.mem_filter.mp ht).1;have la:(trs.filter λt=>(c t).isSome).length<=1000:=jr (List.length_filter_le _ _) hl;have cm:=gC (n:=1) (js:=[2,3]) (fg:=ai 0) (fe:=a9 f_y32 gF) (ρ:=[some (.lst (b.map D.int)),some (.lst (trs.map eE)),some TB,some (.int ((b.map D.int).length:Nat)),some (.lst ((trs.filter λt=>(c t).isSome).map eE))])
  (λd=>bJ ((rT d).bind c)) ((trs.filter λt=>(c t).isSome).map eE) (λx hx=>by obtain⟨t,ht,rfl⟩:=List.mem_map.mp hx;have h:=hc t (sub t ht);refine⟨[some (eE t),some TB,some (.int ((b.map D.int).length:Nat))],rfl,?_⟩;rw[j3,D5 h];rfl)
 have e2:((trs.filter λt=>(c t).isSome).map eE).map (λd=>bJ ((rT d).bind c))=(trs.filterMap c).map D.int:=by rw[<-Fg,jg];rfl
 rw[e2]at cm;have hd:r8 (.lst ((trs.filterMap c).map D.int))=some (.int m):=by
  show(match eF ((trs.filterMap c).map D.int)with
   |some ns=>if ns≠[]then some (D.int ((c5 ns).getD 0))else none
   |none=>none)=_
  rw[gN];have hne:trs.filterMap c≠[]:=λz=>by rw[z]at hm;cases hm
  show(if trs.filterMap c≠[]then some (D.int ((c5 (trs.filterMap c)).getD 0))else none)=_;rw[if_pos hne,hm];rfl
 exact mJ rfl ⟨_,(bN (AK)).trans<|(bN (AJ (by rw[j3];exact dy (by omega)) cf)).trans<|AI (by rw[j3];exact dy (by omega)) (by decide) cm hd⟩
theorem DY{s z6 c x y z:Int}{CH R:List D}(h1:bO CH z6=some (.lst R))(h2:bO R x=some (.tup [.int y,.int z]))(three:3<=sizeLine):f_y34 [.tup [.int s,.int z6,.int c],.int x,.lst CH]=some (.tup [.int s,.int y,.int (c+z)]):=by unfold f_y34 vH;walk_at "ev"
theorem AG{t x CH y:D}(h:f_y34 [t,x,CH]=some y):((a9 f_y34 gF) [some t,some x,some CH]).map (·.1)=some y:=by walk_at "ev"
theorem AH{m B x CH TB:D}{T Y:List D}{FE:aJ}(lt:T.length<=sizeLine)(cm:cU 1 [1,2] none (ai 0) (ae true) FE T [some (.tup [m,B,.lst T]),some x,some CH,some TB,none]=some (Y,[some (.tup [m,B,.lst T]),some x,some CH,some TB,none])):
 (aA 4 (bh (cG 1 [1,2] none A4 (ai 0) (ae true) FE))) [some (.tup [m,B,.lst T]),some x,some CH,some TB,none]=some (.nx [some (.tup [m,B,.lst T]),some x,some CH,some TB,some (.lst Y)]):=by
 walk_at "ev"
theorem AF{m T x CH TB TR y:D}{B:List D}(one:1<=sizeLine)(lb:B.length+1<=sizeLine)(h:f_y33 [.lst (B++[x]),TR,TB]=some y):
 BN [some (.tup [m,.lst B,T]),some x,some CH,some TB,some TR]=some (.rt y [some (.tup [m,.lst B,T]),some x,some CH,some TB,some TR]):=by
 walk_at "ev"
theorem Fs{α β:Type}{f:α->Option β}{q:α->Bool}:∀{xs:List α},(∀x∈xs,(f x).isSome=true->q x=true)->(xs.filter q).filterMap f=xs.filterMap f/\((xs.filter q).filter λx=>(f x).isSome)=xs.filter λx=>(f x).isSome
 |[],_=>⟨rfl,rfl⟩
 | x::xs,h=>by
  obtain⟨h1,h2⟩:=Fs (f:=f) (q:=q) (xs:=xs) λy hy=>h y (j9 _ hy);cases e:f x with
  | none=>
   have n1:¬(f x).isSome=true:=by rw[e];exact λz=>nomatch z
   rw[List.filterMap_cons_none e,List.filter_cons_of_neg (p:=λx=>(f x).isSome) n1];by_cases z:q x=true
   ·rw[List.filter_cons_of_pos z,List.filterMap_cons_none e,List.filter_cons_of_neg (p:=λx=>(f x).isSome) n1];exact⟨h1,h2⟩
   ·rw[List.filter_cons_of_neg z];exact⟨h1,h2⟩
  | some y=>
   have n1:(f x).isSome=true:=by rw[e];rfl
   have z:=h x ja n1;rw[List.filter_cons_of_pos z,List.filterMap_cons_some e,List.filterMap_cons_some e,List.filter_cons_of_pos (p:=λx=>(f x).isSome) n1,List.filter_cons_of_pos (p:=λx=>(f x).isSome) n1,h1,h2];exact⟨rfl,rfl⟩
section
variable(r:Int)(U:List Int)(G:List (List Int))(e:Str)(ts:List Told)(n:Nat)
def oF(b:List Int):List (Int×Int×Int):=((ck r e).filter λs=>(cE r U G e ts n s b).isSome).map λs=>(s,aV r U G e ts n s b)
def cJ(b:List Int):D:=.tup [.int (cH r U G e ts n b),.lst (b.map D.int),.lst ((oF r U G e ts n b).map eE)]
def ir:D:=.dct ((ck r e).map λs=>(Sum.inl s,io (dc r U G e ts n s)))
end
section
variable{r:Int}{U:List Int}{G:List (List Int)}{e:Str}{ts:List Told}{n:Nat}
theorem qic{ss:List Int}{f:Int->D}{s:Int}(h:s∈ss):mi (ss.map λs=>(Sum.inl s,f s)) s=some (f s):=by
 induction ss with
 |nil=>cases h
 | cons a r ih=>
  unfold mi;rw[jo];by_cases z:a=s
  ·subst z;simp[List.find?_cons]
  ·have h1:s∈r:=by
    rcases List.mem_cons.mp h with h|h
    ·exact absurd h.symm z
    ·exact h
   have:=ih h1;unfold mi at this;rw[<-this];simp[List.find?_cons,z]
theorem CP(ts:List Told)(n:Nat):∀(len k:Nat) (st:Sx),st∈bZ r U G ts n k len->st.length=2^r.toNat/\∀ch∈st,ch.length<=2/\∀q∈ch,0<=q.1/\q.1.toNat<2^r.toNat:=by
 intro len;induction len with
 |zero=>intro k st h;cases h
 | succ len ih=>
  intro k st h;have ok1:=oM (r:=r) (U:=U) (G:=G) (ts:=ts) (n:=n) (len+1) k;rw[t8]at h ok1;rcases List.mem_cons.mp h with h|h
  ·subst h;refine⟨ok1.1,λch hc=>⟨?_,(ok1.2.1 ch hc).2⟩⟩;rw[(ok1.2.1 ch hc).1];split<;>omega
  ·exact ih _ _ h
theorem xC(ts:List Told)(n:Nat)(s:Int):(dc r U G e ts n s).length=n+az r e+1:=by unfold dc;rw[yo,jV]
theorem Es{s:Int}{k:Nat}{t:Rw}(h:(dc r U G e ts n s)[k]? =some t):t.length=2^r.toNat:=by
 have hk:k<=n+az r e:=by have:=(List.getElem?_eq_some_iff.mp h).1;rw[xC]at this;omega
 unfold dc at h;rw[<-List.head?_drop,yy _ _ k (by rw[jV];exact hk)]at h;have e1:(bT ((bZ r U G ts n 0 (n+az r e)).drop k) (eJ r e s)).headD []=t:=by rw[List.headD_eq_head?_getD,h];rfl
 rw[<-e1];exact EI (by unfold eJ;simp) λz hz=>(CP ts n _ _ z (List.mem_of_mem_drop hz)).1
theorem qs3{s:Int}{b:List Int}(hs:s∈ck r e)(hb:ax b)(hl:b.length<=n):f_y32 [eE (s,aV r U G e ts n s b),ir r U G e ts n,.int (b.length:Nat)]=some (bJ (cE r U G e ts n s b)):=by
 have hk:b.length<(dc r U G e ts n s).length:=by rw[xC];omega
 have h1:fY (ir r U G e ts n) (.int s)=some (.lst ((dc r U G e ts n s).map dY)):=qic hs;have ek:(dc r U G e ts n s)[b.length]? =some (dc r U G e ts n s)[b.length]:=j8 hk;have h2:bO ((dc r U G e ts n s).map dY) (b.length:Int)=some (.lst ((dc r U G e ts n s)[b.length].map bJ)):=by rw[jM (by omega) (by rw[j3];omega),jq,jd,ek];rfl
 have hr:=oJ (U:=U) (G:=G) (ts:=ts) hs hb hl;have h3:=wD (t:=(dc r U G e ts n s)[b.length]) hr.1 (by rw[Es ek];exact hr.2);have ec:cE r U G e ts n s b=(dR (dc r U G e ts n s)[b.length] (aV r U G e ts n s b).1).map λx=>(aV r U G e ts n s b).2+x:=by unfold cE;rw[jc,ek];rfl
 rw[ec];cases q:dR (dc r U G e ts n s)[b.length] (aV r U G e ts n s b).1 with
 | none=>
  rw[q]at h3;exact qpq h1 h2 h3
 | some x=>
  rw[q]at h3;exact qpp h1 h2 h3
theorem yx(ok:q2a r U G e):(ck r e).length<=16:=by
 have p16:=jQ ok.r0 ok.r4;have pn:=gn (r:=r);unfold ck;split
 ·simp;omega
 ·simp
section
variable(ok:q2a r U G e)(hr:e="ring"->r.toNat<=n)(ht:ts.length=(bn U G (n+az r e)).length)
include ok hr ht
theorem CF{b:List Int}(hb:ax b)(hl:b.length<=n)(q:Int->Bool)(hq:∀s∈ck r e,(cE r U G e ts n s b).isSome=true->q s=true):
 f_y33 [.lst (b.map D.int),.lst ((((ck r e).filter q).map λs=>(s,aV r U G e ts n s b)).map eE),ir r U G e ts n]=some (cJ r U G e ts n b):=by
 obtain⟨k1,k2⟩:=Fs (f:=λs=>cE r U G e ts n s b) hq;have lm:=yx ok;have lf:((ck r e).filter q).length<=16:=jr (List.length_filter_le _ _) lm;have hm:=(qb hr ok.en ht hb hl).1;have h:=qvu b (((ck r e).filter q).map λs=>(s,aV r U G e ts n s b)) (ir r U G e ts n) (λt=>(dR ((dc r U G e ts n t.1).getD b.length []) t.2.1).map λx=>t.2.2+x) (cH r U G e ts n b) (λt ht=>by
  obtain⟨s,hs,rfl⟩:=List.mem_map.mp ht;exact qs3 (List.mem_filter.mp hs).1 hb hl) (by rw[j3];omega) (by
  rw[List.filterMap_map];have e1:(((ck r e).filter q).filterMap ((λt:Int×Int×Int=>(dR ((dc r U G e ts n t.1).getD b.length []) t.2.1).map λx=>t.2.2+x)∘λs=>(s,aV r U G e ts n s b)))=((ck r e).filter q).filterMap λs=>cE r U G e ts n s b:=rfl;rw[e1,k1];exact hm)
 rw[h];unfold cJ oF;rw[List.filter_map,<-k2];rfl
theorem EW{b:List Int}{x:Int}(hb:ax b)(hx:x=0∨x=1)(hl:b.length<n)(hn:n<=60):
 f_y35 [cJ r U G e ts n b,.int x,f6 (stepK r U G ts n b.length),ir r U G e ts n]=some (cJ r U G e ts n (b++[x])):=by
 have lm:=yx ok;have pn:=gn (r:=r);have hbx:ax (b++[x]):=iA hb λy hy=>by rw[List.mem_singleton.mp hy];exact hx
 have lf:((ck r e).filter λs=>(cE r U G e ts n s b).isSome).length<=16:=jr (List.length_filter_le _ _) lm;have cm:=gC (n:=1) (js:=[1,2]) (fg:=ai 0) (fe:=a9 f_y34 gF) (ρ:=[some (cJ r U G e ts n b),some (.int x),some (f6 (stepK r U G ts n b.length)),some (ir r U G e ts n),none])
  (λd=>match d with|.tup (.int s::_)=>eE (s,aV r U G e ts n s (b++[x]))|d=>d) ((oF r U G e ts n b).map eE) (λy hy=>by
    obtain⟨t,ht1,rfl⟩:=List.mem_map.mp hy;obtain⟨s,hs,rfl⟩:=List.mem_map.mp ht1;have hs:=(List.mem_filter.mp hs).1;have hrm:=oJ (U:=U) (G:=G) (ts:=ts) hs hb (Nat.le_of_lt hl);refine⟨[some (eE (s,aV r U G e ts n s b)),some (.int x),some (f6 (stepK r U G ts n b.length))],rfl,AG ?_⟩;show _=some (eE (s,aV r U G e ts n s (b++[x])));rw[Fa x hl];generalize aV r U G e ts n s b=p at hrm;have hlt:p.1<2^r.toNat:=by omega
    have ech:=ya (U:=U) (G:=G) (ts:=ts) (n:=n) (k:=b.length) hrm.1 hlt;have lst':(stepK r U G ts n b.length).length=2^r.toNat:=by unfold L2.stepK;simp
    have a1:bO ((stepK r U G ts n b.length).map gQ) p.1=some (.lst (((eO n b.length).map λy=>ig r U G ts b.length p.1 y).map mU)):=by
     rw[jM hrm.1 (by rw[j3,lst'];omega),jd];have e2:(stepK r U G ts n b.length)[p.1.toNat]? =some ((eO n b.length).map λy=>ig r U G ts b.length p.1 y):=by unfold cy at ech;rw[jc,j8 (by rw[lst'];exact hrm.2)]at ech;rw[j8 (by rw[lst'];exact hrm.2)];exact congrArg some ech
     rw[e2];rfl
    have eb:eO n b.length=[0,1]:=if_pos hl;rw[ech];rw[eb]at a1 ⊢;rcases hx with rfl|rfl
    ·exact DY a1 (GA _ _) (by decide)
    ·exact DY a1 (Gz _ _ _) (by decide))
 have em:((oF r U G e ts n b).map eE).map (λd=>match d with|.tup (.int s::_)=>eE (s,aV r U G e ts n s (b++[x]))|d=>d)=(((ck r e).filter λs=>(cE r U G e ts n s b).isSome).map λs=>(s,aV r U G e ts n s (b++[x]))).map eE:=by unfold oF;rw[jg,jg,jg];rfl
 rw[em]at cm;have h:=CF ok hr ht hbx (by simp;omega) (λs=>(cE r U G e ts n s b).isSome) (λs hs h=>by
  have h1:=qfc hr ok.en ht hs hbx hl (λz=>by rw[z]at h;cases h);cases q:cE r U G e ts n s b with
  |none=>exact absurd q h1
  |some _=>rfl)
 rw[jx]at h;have h:f_y33 [.lst (b.map D.int++[.int x]),_,_]=_:=h;refine mJ rfl ⟨_,(bN (AH (by unfold oF;rw[j3,j3];exact dy (by omega)) cm)).trans<|AF (by decide) (by rw[j3];exact dy (by omega)) h⟩
end
theorem EL:∀E:List (List Int),mj (E.map (cJ r U G e ts n))=some (E.map (cn (cH r U G e ts n)))
 |[]=>rfl
 | b::E=>by
  have h1:lh (cJ r U G e ts n b)=some (cn (cH r U G e ts n) b):=by show(eF (b.map D.int)).map (λns=>(cH r U G e ts n b,ns))=_;rw[gN];rfl
  rw[jo,jo];unfold mj;rw[h1,EL E]
theorem Eh{E:List (List Int)}{k most:Nat}(h2:2<=E.length)(h64:E.length<64)(nd:E.Nodup)(hk:∀b∈E,b.length=k):f_y36 [.lst (E.map (cJ r U G e ts n)),.int (most:Nat)]=some (.lst ((gJ (cH r U G e ts n) most E).map (cJ r U G e ts n))):=by
 show mE _=_;unfold mE;simp only[EL];have ok:t9 (E.map (cn (cH r U G e ts n))):=by
  refine⟨by rw[j3];exact h2,by rw[j3];exact h64,?_,λq hq=>?_⟩
  ·show List.Pairwise (λa b=>a≠b) _;rw[List.pairwise_map];exact List.Pairwise.imp (λ{a b} h z=>h (xN z)) nd
  ·obtain⟨b,hb,rfl⟩:=List.mem_map.mp hq;cases E with
   |nil=>cases hb
   |cons a E=>exact(hk b hb).trans (hk a ja).symm
 rw[if_pos ok,tj (by omega),jq];refine congrArg (λx=>some (D.lst x)) ?_;unfold gJ fS;rw[List.map_take,jg];refine congrArg (List.take most) (List.map_congr_left λi hi=>?_);have li:i<E.length:=by simpa using List.mem_range.mp ((mR _).subset hi)
 show(E.map (cJ r U G e ts n)).getD i .non=cJ r U G e ts n (E.getD i []);rw[jc,jc,jd,j8 li];rfl
end
theorem tM{j:Nat}{P:Addr}{lp:Pos}{q:Str}{f:List D->Option D}{fs:aT}{ρ ρ1:aB}{ds:List D}{d:D}(h1:fs ρ=some (ds,ρ1))(h2:ρ1[j]? =some (some (.tab P lp q)))(h3:f ds=some d):jN j P lp q f fs ρ=some (d,ρ1):=by unfold jN;rw[h1];dsimp only;rw[h2];dsimp only;rw[if_pos ⟨rfl,rfl,rfl⟩,h3];rfl
theorem xU{b:aI}{n N j:Nat}{ds:List D}{d t:D}(hl:ds.length=n)(hj:n<=j)(h:∃ρ,b ((ds.map some++List.replicate (N-n) none).set j (some t))=some (.rt d ρ)):ky false n N j t b ds=some d:=by obtain⟨ρ,h⟩:=h;unfold ky;rw[if_pos ⟨hl,hj⟩,h]
theorem AB{S n T m ST t:D}(hm:f_y25 [S,n,T]=some ST):(aA 4 (a9 f_y25 gF)) [some S,some n,some T,some m,none,none,none,none,none,none,some t]=some (.nx [some S,some n,some T,some m,some ST,none,none,none,none,none,some t]):=by walk_at "ev"
theorem AA{S n T m ST TB t:D}(ht:f_y31 [S,ST]=some TB):Bm [some S,some n,some T,some m,some ST,none,none,none,none,none,some t]=some (.nx [some S,some n,some T,some m,some ST,some TB,none,none,none,none,some t]):=by walk_at "ev"
theorem Ax{s:Int}(three:3<=sizeLine):((cc (am (aa 0) rE)) [some (.int s)]).map (·.1)=some (.tup [.int s,.int s,.int 0]):=by walk_at "ev"
theorem Az{S n T m ST y :D} (t :D)(gs:List (br×D))(KS Y:List D)(FE:aJ)(one:1<=sizeLine)(z0:0<=sizeLine)(hk:lN (.dct gs)=some KS)(l1:KS.length<=sizeLine)
 (cm:cU 1 [] none (ai 0) (ae true) FE KS [some S,some n,some T,some m,some ST,some (.dct gs),none,none,none,none,some t]=some (Y,[some S,some n,some T,some m,some ST,some (.dct gs),none,none,none,none,some t])) (hb:f_y33 [.lst [],.lst Y,.dct gs]=some y):
 (aA 6 (bh (aY (am (a9 f_y33 (am (bh (aY ag)) (am (bh (cG 1 [] none (mF (aa 5)) (ai 0) (ae true) FE)) (am (aa 5) ag)))) ag)))) [some S,some n,some T,some m,some ST,some (.dct gs),none,none,none,none,some t]=some (.nx [some S,some n,some T,some m,some ST,some (.dct gs),some (.lst [y]),none,none,none,some t]):=by
 have h1:mF (aa 5) [some S,some n,some T,some m,some ST,some (.dct gs),none,none,none,none,some t]=some (KS,[some S,some n,some T,some m,some ST,some (.dct gs),none,none,none,none,some t]):=by rw[EF];show((lN (.dct gs)).map λx=>(x,_))=_;rw[hk];rfl
 generalize mF (aa 5)=FK at h1 ⊢;clear hk;walk_at "ev"
theorem Ay{S n T m ST TB FD CH t:D}{v8 v9:Option D}(z0:0<=sizeLine):(cI 8 (aY ag)) [some S,some n,some T,some m,some ST,some TB,some FD,some CH,v8,v9,some t]=some (.nx [some S,some n,some T,some m,some ST,some TB,some FD,some CH,some (.lst []),v9,some t]):=by walk_at "ev"
theorem rc{S n T m ST TB FD CH b y t:D}(x:Int)(Y:List D)(ly:Y.length<sizeLine)(h:f_y35 [b,.int x,CH,TB]=some y):(dU i0 8 (am (a9 f_y35 (am (aa 9) (am (ae (.int x)) (am (aa 7) (am (aa 5) ag))))) ag)) [some S,some n,some T,some m,some ST,some TB,some FD,some CH,some (.lst Y),some b,some t]=some (.nx [some S,some n,some T,some m,some ST,some TB,some FD,some CH,some (.lst (Y++[y])),some b,some t]):=by walk_at "ev"
theorem Av{S n T m ST TB CH t:D}{FD Y:List D}{v9 w9:Option D}{FB:aI}(h:eh (ai 9) FB FD [some S,some n,some T,some m,some ST,some TB,some (.lst FD),some CH,some (.lst []),v9,some t]=some (.nx [some S,some n,some T,some m,some ST,some TB,some (.lst FD),some CH,some (.lst Y),w9,some t])):
 (bA (bD (aa 6)) (ai 9) FB) [some S,some n,some T,some m,some ST,some TB,some (.lst FD),some CH,some (.lst []),v9,some t]=some (.nx [some S,some n,some T,some m,some ST,some TB,some (.lst FD),some CH,some (.lst Y),w9,some t]):=by
 walk_at "ev"
theorem Ar{S n T m ST TB FD CH Y:D}{v9:Option D}{t:D}:(am (aa 8) (am (aa 3) ag)) [some S,some n,some T,some m,some ST,some TB,some FD,some CH,some Y,v9,some t]=some ([Y,m],[some S,some n,some T,some m,some ST,some TB,some FD,some CH,some Y,v9,some t]):=by walk_at "ev"
theorem Aw{S n T m ST TB FD CH Y y t:D}{v9:Option D}{FC:aJ}(h:FC [some S,some n,some T,some m,some ST,some TB,some FD,some CH,some Y,v9,some t]=some (y,[some S,some n,some T,some m,some ST,some TB,some FD,some CH,some Y,v9,some t])):(aA 6 FC) [some S,some n,some T,some m,some ST,some TB,some FD,some CH,some Y,v9,some t]=some (.nx [some S,some n,some T,some m,some ST,some TB,some y,some CH,some Y,v9,some t]):=by walk_at "ev"
theorem Au{S T m TB FD FD' t:D}{n':Int}{ST X:List D}{v7 v8 v9:Option D}{FB:aI}(hc:lZ (.lst ST) none (some n')=some (.lst X))(h:eh (ai 7) FB X [some S,some (.int n'),some T,some m,some (.lst ST),some TB,some FD,none,none,none,some t]=some (.nx [some S,some (.int n'),some T,some m,some (.lst ST),some TB,some FD',v7,v8,v9,some t])):
 (bA Bf (ai 7) FB) [some S,some (.int n'),some T,some m,some (.lst ST),some TB,some FD,none,none,none,some t]=some (.nx [some S,some (.int n'),some T,some m,some (.lst ST),some TB,some FD',v7,v8,v9,some t]):=by
 walk_at "ev"
theorem Aq{S n T m ST TB FD:D}{v7 v8 v9:Option D}{t:D}:(am (aa 6) (am (aa 3) ag)) [some S,some n,some T,some m,some ST,some TB,some FD,v7,v8,v9,some t]=some ([FD,m],[some S,some n,some T,some m,some ST,some TB,some FD,v7,v8,v9,some t]):=by walk_at "ev"
theorem Ap{a b c:D}(two:2<=sizeLine):((cc uI) [some (.tup [a,b,c])]).map (·.1)=some (.tup [a,b]):=by walk_at "ev"
theorem As{S n T m ST TB FD t:D}{X Y:List D}{v7 v8 v9:Option D}{FC FE:aJ}(lx:X.length<=sizeLine)(h:FC [some S,some n,some T,some m,some ST,some TB,some FD,v7,v8,v9,some t]=some (.lst X,[some S,some n,some T,some m,some ST,some TB,some FD,v7,v8,v9,some t]))
 (cm:cU 1 [] none (ai 0) (ae true) FE X [some S,some n,some T,some m,some ST,some TB,some FD,v7,v8,v9,some t]=some (Y,[some S,some n,some T,some m,some ST,some TB,some FD,v7,v8,v9,some t])):
 (aE (bh (cG 1 [] none (bD FC) (ai 0) (ae true) FE))) [some S,some n,some T,some m,some ST,some TB,some FD,v7,v8,v9,some t]=some (.rt (.lst Y) [some S,some n,some T,some m,some ST,some TB,some FD,v7,v8,v9,some t]):=by
 walk_at "ev"
theorem qiv(R:List (List Int))(b:List Int):aK (R++[b])=aK R++[b++[0]]++[b++[1]]:=by unfold aK;rw[List.flatMap_append];simp
theorem xI(R:List (List Int)):(aK R).length=2*R.length:=by
 induction R with
 |nil=>rfl
 | cons b R ih=>
  have:aK (b::R)=(b++[0])::(b++[1])::aK R:=rfl;rw[this,jl,jl,jl,ih];omega
def Gw(L:List Int->Int)(b:List Int):D:=.tup [.int (L b),.lst (b.map D.int)]
section
variable{r:Int}{U:List Int}{G:List (List Int)}{e:Str}{ts:List Told}{n:Nat}
theorem qvy(P0:Addr)(ok:q2a r U G e)(hr:e="ring"->r.toNat<=n)(ht:ts.length=(bn U G (n+az r e)).length)(hn:n<=60)(hn1:1<=n)(h2:2<=(c9 (cH r U G e ts n) 2 n).length):
 f_few P0 [aw r U G e,.int n,.lst (ts.map cW),.int 2]=some (.lst ((c9 (cH r U G e ts n) 2 n).map (Gw (cH r U G e ts n)))):=by
 have z4:=jU ok;have lm:=yx ok;have hm:=CG ok n hn hr ts ht;have htb:=qjx ok ts n hn;have top:=λk (hk:k<=n)=>xD (L:=cH r U G e ts n) (most:=2) (n:=n) (λb hb hl=>F6 hr ok.en ht hb hl) k hk;have tl:∀k,k<=n->1<=(c9 (cH r U G e ts n) 2 k).length/\(c9 (cH r U G e ts n) 2 k).length<=2:=λk hk=>by
  constructor
  ·cases q:c9 (cH r U G e ts n) 2 k with
   | nil=>
    have T:=top k hk;rw[q]at T;have:=(T.out (List.replicate k 0) (lU _) ji (by simp)).1;simp at this
   |cons a R=>simp
  ·cases k with
   |zero=>show([[]]:List (List Int)).length<=2;decide
   |succ k=>exact E9 k
 have hk:lN (ir r U G e ts n)=some ((ck r e).map D.int):=by show some _=some _;rw[jg];rfl
 have cm:=gC (n:=1) (js:=[]) (fg:=ai 0) (fe:=cc (am (aa 0) rE)) (ρ:=[some (aw r U G e),some (.int n),some (.lst (ts.map cW)),some (.int 2),some (gk (bZ r U G ts n 0 (n+az r e))),some (ir r U G e ts n),none,none,none,none,some (.tab P0 dF dE)])
  (λd=>match d with|.int s=>.tup [.int s,.int s,.int 0]|d=>d) ((ck r e).map D.int) (λx hx=>by obtain⟨s,_,rfl⟩:=List.mem_map.mp hx;exact⟨[some (.int s)],rfl,Ax (by decide)⟩)
 have em:((ck r e).map D.int).map (λd=>match d with|.int s=>D.tup [.int s,.int s,.int 0]|d=>d)=(((ck r e).filter λ_=>true).map λs=>(s,aV r U G e ts n s [])).map eE:=by rw[List.filter_eq_self.mpr (λ_ _=>rfl),jg,jg];refine List.map_congr_left λs _=>?_;show _=eE (s,eK _ s 0 []);rw[tR];rfl
 rw[em]at cm;have hb0:=CF ok hr ht (b:=[]) (λ_ h=>nomatch h) (Nat.zero_le _) (λ_=>true) (λ_ _ _=>rfl);have a6:=Az (.tab P0 dF dE) _ _ _ _ (by decide) (by decide) hk (by rw[j3];exact dy (by omega)) cm hb0
 -- the loop
 have hcut:lZ (.lst ((bZ r U G ts n 0 (n+az r e)).map f6)) none (some (n:Int))=some (.lst ((List.range n).map λk=>f6 (stepK r U G ts n k))):=by show some (D.lst (e7 _ _ _))=_;rw[tj (by omega),jq,<-List.map_take];unfold bZ;rw[<-List.range_eq_range',<-List.map_take,List.take_range,Nat.min_eq_left (by omega),jg];rfl
 obtain⟨ρ',l1,v7,v8,v9,hρ⟩:=iz (fg:=ai 7) (fb:=(av (cI 8 (aY ag))
 (av (bA (bD (aa 6)) (ai 9)
   uU)
 (aA 6 (jN 10 P0 dF dE f_y36 (am (aa 8) (am (aa 3) ag)))))))
   (λk ρ=>∃v7 v8 v9,ρ=[some (aw r U G e),some (.int n),some (.lst (ts.map cW)),some (.int 2),some (gk (bZ r U G ts n 0 (n+az r e))),some (ir r U G e ts n),some (.lst ((c9 (cH r U G e ts n) 2 k).map (cJ r U G e ts n))),v7,v8,v9,some (.tab P0 dF dE)])
   ((List.range n).map λk=>f6 (stepK r U G ts n k)) 0
   [some (aw r U G e),some (.int n),some (.lst (ts.map cW)),some (.int 2),some (gk (bZ r U G ts n 0 (n+az r e))),some (ir r U G e ts n),some (.lst [cJ r U G e ts n []]),none,none,none,some (.tab P0 dF dE)] ⟨none,none,none,rfl⟩ (by
    rintro k x ρ hx ⟨v7,v8,v9,rfl⟩;rw[jv];rw[jd]at hx;obtain⟨k',hk1,rfl⟩:=Option.map_eq_some_iff.mp hx;have hkn:k<n:=by have:=(List.getElem?_eq_some_iff.mp hk1).1;simpa using this
    have ek:k'=k:=by rw[xm hkn]at hk1;exact(jb hk1).symm
    subst ek;have T:=top k' (Nat.le_of_lt hkn);obtain⟨t1,t2⟩:=tl k' (Nat.le_of_lt hkn);have et:c9 (cH r U G e ts n) 2 (k'+1)=gJ (cH r U G e ts n) 2 (aK (c9 (cH r U G e ts n) 2 k')):=rfl;rw[et];generalize c9 (cH r U G e ts n) 2 k'=R at T t1 t2;obtain⟨ρ1,m1,w9,hρ1⟩:=iz (fg:=ai 9) (fb:=uU)
     (λi ρ=>∃w9,ρ=[some (aw r U G e),some (.int n),some (.lst (ts.map cW)),some (.int 2),some (gk (bZ r U G ts n 0 (n+az r e))),some (ir r U G e ts n),some (.lst (R.map (cJ r U G e ts n))),some (f6 (stepK r U G ts n k')),some (.lst ((aK (R.take i)).map (cJ r U G e ts n))),w9,some (.tab P0 dF dE)])
     (R.map (cJ r U G e ts n)) 0
     [some (aw r U G e),some (.int n),some (.lst (ts.map cW)),some (.int 2),some (gk (bZ r U G ts n 0 (n+az r e))),some (ir r U G e ts n),some (.lst (R.map (cJ r U G e ts n))),some (f6 (stepK r U G ts n k')),some (.lst []),v9,some (.tab P0 dF dE)] ⟨v9,rfl⟩ (by
      rintro i x ρ hx ⟨w9,rfl⟩;rw[jv];rw[jd]at hx;obtain⟨b,hb1,rfl⟩:=Option.map_eq_some_iff.mp hx;obtain⟨b1,b2⟩:=T.bits b (xi hb1);have o0:=EW ok hr ht b1 (.inl rfl) (by omega) hn;have o1:=EW ok hr ht b1 (.inr rfl) (by omega) hn;rw[b2]at o0 o1;have li:(aK (R.take i)).length<=4:=by rw[xI,jz];omega
      refine⟨_,_,rfl,.inl ((bN (rc 0 _ (by rw[j3];exact jn (by omega:_<1000) (by decide)) o0)).trans (rc 1 _ (by rw[je,j3];exact jn (by simp;omega:_<1000) (by decide)) o1)),some (cJ r U G e ts n b),?_⟩;rw[cA hb1,qiv,jx,jx];rfl)
    subst hρ1;rw[jv,j3,List.take_length]at m1;have nd:=yq (qd T.up);have za:∀b∈aK R,b.length=k'+1:=λx hx=>by obtain⟨b,hb,z⟩:=mem_both.mp hx;obtain⟨_,b2⟩:=T.bits b hb;rcases z with rfl|rfl<;>simp[b2]
    have hf:=Eh (r:=r) (U:=U) (G:=G) (e:=e) (ts:=ts) (n:=n) (E:=aK R) (most:=2) (by rw[xI];omega) (by rw[xI];omega) nd za;refine⟨_,_,rfl,.inl ((bN (Ay (by decide))).trans<|(bN (Av m1)).trans<|Aw (tM (Ar) rfl hf)),_,_,_,rfl⟩)
 subst hρ;rw[jv,j3,List.length_range]at l1;have T:=top n (j7 _);have t2:=(tl n (j7 _)).2;have fid:=qid (most:=2) T.up t2;have hf:=Eh (r:=r) (U:=U) (G:=G) (e:=e) (ts:=ts) (n:=n) (E:=c9 (cH r U G e ts n) 2 n) (k:=n) (most:=2) h2 (by omega) (qd T.up) (λb hb=>(T.bits b hb).2);rw[fid]at hf;have cx:=gC (n:=1) (js:=[]) (fg:=ai 0) (fe:=cc uI) (ρ:=[some (aw r U G e),some (.int n),some (.lst (ts.map cW)),some (.int 2),some (gk (bZ r U G ts n 0 (n+az r e))),some (ir r U G e ts n),some (.lst ((c9 (cH r U G e ts n) 2 n).map (cJ r U G e ts n))),v7,v8,v9,some (.tab P0 dF dE)])
  (λd=>match d with|.tup [a,b,_]=>.tup [a,b]|d=>d) ((c9 (cH r U G e ts n) 2 n).map (cJ r U G e ts n)) (λx hx=>by obtain⟨b,_,rfl⟩:=List.mem_map.mp hx;exact⟨[some (cJ r U G e ts n b)],rfl,Ap (by decide)⟩)
 have ex:((c9 (cH r U G e ts n) 2 n).map (cJ r U G e ts n)).map (λd=>match d with|.tup [a,b,_]=>D.tup [a,b]|d=>d)=(c9 (cH r U G e ts n) 2 n).map (Gw (cH r U G e ts n)):=by rw[jg];rfl
 rw[ex]at cx;exact xU rfl (by decide) ⟨_,(bN (AB hm)).trans<|(bN (AA htb)).trans<|(bN a6).trans<|(bN (Au hcut l1)).trans<|As (by rw[j3];exact dy (by omega)) (tM (Aq) rfl hf) cx⟩
end
theorem AO{S n:D}{P:List D}{t:D}(hp:f_y10 [S,n]=some (.lst P)):(aH bI nY) [some S,some n,none,none,some t]=some (.int ((P.length:Nat):Int),[some S,some n,none,none,some t]):=by walk_at "ev"
theorem AS{S n t:D}(one:1<=sizeLine)(two:2<=sizeLine):(aY (am (cc nZ) ag)) [some S,some n,none,none,some t]=some ([.tup [.str "clear",.int 0]],[some S,some n,none,none,some t]):=by walk_at "ev"
theorem AR{S n t:D}{Z:List D}{FR:aT}(h:FR [some S,some n,none,none,some t]=some (Z,[some S,some n,none,none,some t])):(aA 2 (bh FR)) [some S,some n,none,none,some t]=some (.nx [some S,some n,some (.lst Z),none,some t]):=by walk_at "ev"
theorem AM{S n T t:D}:Bv [some S,some n,some T,none,some t]=some ([S,n,T,.int 2],[some S,some n,some T,none,some t]):=by walk_at "ev"
theorem AQ{S n T y t:D}{FC:aJ}(h:FC [some S,some n,some T,none,some t]=some (y,[some S,some n,some T,none,some t])):(aA 3 FC) [some S,some n,some T,none,some t]=some (.nx [some S,some n,some T,some y,some t]):=by walk_at "ev"
theorem AN{S n T x y t:D}:BI [some S,some n,some T,some (.lst [x,y]),some t]=some (.rt y [some S,some n,some T,some (.lst [x,y]),some t]):=by walk_at "ev"
theorem yr:∀(bs:List Int) (N:Nat),bs.length=N->ax bs->f7 (List.replicate N (.clear 0)) bs=bs.sum
 |[],0,_,_=>rfl
 |[],_+1,h,_=>by simp at h
 |_::_,0,h,_=>by simp at h
 | b::bs,N+1,h,hb=>by have ih:=yr bs N (by simpa using h) λx hx=>hb x (j9 _ hx);unfold f7 at ih ⊢;rw[List.replicate_succ,List.zip_cons_cons,jo,List.sum_cons,List.sum_cons,ih];congr 1;show(if b=0 then(0:Int)else 1)=b;rcases hb b ja with rfl|rfl<;>rfl
theorem xA:∀(bs:List Int),ax bs->0<=bs.sum
 |[],_=>Int.le_refl _
 | b::bs,hb=>by have ih:=xA bs λx hx=>hb x (j9 _ hx);rw[List.sum_cons];rcases hb b ja with rfl|rfl<;>omega
theorem E8:∀(bs:List Int),ax bs->bs.sum=0->bs=List.replicate bs.length 0
 |[],_,_=>rfl
 | b::bs,hb,h=>by
  have hb':ax bs:=λx hx=>hb x (j9 _ hx);have ih:=E8 bs hb';have p:=xA bs hb';rw[List.sum_cons]at h;rcases hb b ja with rfl|rfl
  ·rw[jl,List.replicate_succ,<-ih (by omega)]
  ·omega
theorem qnn(m:Nat):(List.replicate m (0:Int)).sum=0:=by
 induction m with
 |zero=>rfl
 |succ m ih=>rw[List.replicate_succ,List.sum_cons,ih];rfl
section
variable{r:Int}{U:List Int}{G:List (List Int)}{e:Str}{n:Nat}
abbrev bW(U:List Int)(G:List (List Int))(N:Nat):List Told:=List.replicate (bn U G N).length (.clear 0)
theorem oN(ok:q2a r U G e){w:List Int}(hb:ax w)(hw:w.length=n)(hr:e="ring"->r.toNat<=n):fB r U G e (bW U G (n+az r e)) w=(bM r U G e w).sum:=by unfold fB;rw[E6 ok hb (by rw[hw];exact hr)];refine yr _ _ ?_ t7;unfold bM;rw[hw];exact(yB w _).symm
theorem qvt(P0:Addr)(ok:q2a r U G e)(hr:e="ring"->r.toNat<=n)(hn:n<=60)(hn1:1<=n):
 ∃w,f_y37 P0 [aw r U G e,.int n]=some (.tup [.int (bM r U G e w).sum,.lst (w.map D.int)])/\ax w/\w.length=n/\w≠List.replicate n 0/\∀x,ax x->x.length=n->x≠List.replicate n 0->cr ((bM r U G e x).sum,x) ((bM r U G e w).sum,w)=false:=by
 have z4:=jU ok;have lp:=tE ok (n+az r e);have hl:(bW U G (n+az r e)).length=(bn U G (n+az r e)).length:=ji;have hz:fB r U G e (bW U G (n+az r e)) (List.replicate n 0)=0:=by rw[oN ok (lU _) ji hr];unfold bM;rw[qe8,qnn]
 obtain⟨w,e1,w1,w2,w3,w4⟩:=qqh (U:=U) (G:=G) (ts:=bW U G (n+az r e)) hr ok.en hl hn1 hz (λw hw lw=>by rw[oN ok hw lw hr];exact xA _ t7)
 have hf:=qvy (ts:=bW U G (n+az r e)) P0 ok hr hl hn hn1 (by rw[e1];exact j7 _);rw[e1]at hf;have hp:=xR ok n hn hr;have hrep:(dL (aY (am (cc nZ) ag)) (aH bI nY)) [some (aw r U G e),some (.int n),none,none,some (.tab P0 dF dE)]=some ((bW U G (n+az r e)).map cW,[some (aw r U G e),some (.int n),none,none,some (.tab P0 dF dE)]):=by refine sW (AS (by decide) (by decide)) (AO hp) ?_;rw[tI (by omega) (by rw[j3];omega),jq,j3,List.map_replicate];rfl
 refine⟨w,?_,w1,w2,w3,λx x1 x2 x3=>?_⟩
 ·have el:cH r U G e (bW U G (n+az r e)) n w=(bM r U G e w).sum:=by
   rw[F7 hr ok.en hl w1 w2,oN ok w1 w2 hr]
  rw[<-el];exact xU rfl (by decide) ⟨_,(bN (AR hrep)).trans<|(bN (AQ (tM (AM) rfl hf))).trans<|AN⟩
 ·have:=w4 x x1 x2 x3;rw[oN ok x1 x2 hr,oN ok w1 w2 hr]at this;exact this
end
theorem qu(b:Int):f_y46 [.int b]=some (.bl true):=by unfold f_y46 vK;walk_at "ev"
theorem Ao(b:Int)(h0:0<=b)(h1:b<=1):(uK [some (.int b)]).map (·.1)=some (.bl true):=by have h:=qu b;walk_at "ev"
theorem qu5{W Y:List D}{n':Int}{FE:aJ}{DA:D->Option D}(hn:((W.length:Nat):Int)=n')(lw:W.length<=sizeLine)(cm:cU 1 [] none (ai 0) (ae true) FE W [some (.lst W),some (.int n')]=some (Y,[some (.lst W),some (.int n')]))(ha:DA (.lst Y)=some (.bl true)):
 (aM false 2 2 (av BO (aE (aH DA (bh (cG 1 [] none (bD (aa 0)) (ai 0) (ae true) FE)))))) [.lst W,.int n']=some (.bl true):=by
 subst hn;walk_at "ev"
theorem qv7:∀k:Nat,lD (.lst (List.replicate k (.bl true)))=some (.bl true):=λk=>by have h:=FQ (List.replicate k true);rw[List.map_replicate]at h;show(i8 (List.replicate k (.bl true))).map _=_;rw[h];simp
theorem eM{x:D}:∀xs:List D,xs.map (λ_=>x)=List.replicate xs.length x
 |[]=>rfl
 |_::xs=>by rw[jo,eM xs];rfl
theorem qjc(w:List Int)(hb:ax w)(n:Nat)(hl:w.length=n)(hn:n<=1000):f_y47 [.lst (w.map D.int),.int n]=some (.bl true):=by
 have cm:=gC (n:=1) (js:=[]) (fg:=ai 0) (fe:=uK) (ρ:=[some (.lst (w.map D.int)),some (.int (n:Int))]) (λ_=>.bl true) (w.map D.int) (λx hx=>by obtain⟨b,hm,rfl⟩:=List.mem_map.mp hx;have:=hb b hm;exact⟨_,rfl,Ao b (by omega) (by omega)⟩)
 rw[eM]at cm;unfold f_y47 vL;exact qu5 (by rw[j3,hl]) (dy (by rw[j3];omega)) cm (qv7 _)
theorem qv8{S n T s ST EN TB:D}(hm:f_y25 [S,n,T]=some ST)(he:f_y26 [S,s]=some EN)(ha:f_y29 [ST,EN]=some TB):f_y30 [S,n,T,s]=some TB:=by unfold f_y30 rX;walk_at "ev"
theorem qY{S TB s B:D}:(aA 4 (aa 2)) [some S,some TB,some s,some B,none,none,none,none]=some (.nx [some S,some TB,some s,some B,some s,none,none,none]):=by walk_at "ev"
theorem qX{S TB s B:D}:(aA 5 (ae (.int 0))) [some S,some TB,some s,some B,some s,none,none,none]=some (.nx [some S,some TB,some s,some B,some s,some (.int 0),none,none]):=by walk_at "ev"
theorem Ac{S TB s:D}{z k' nz b c x:Int}{B S2:List D}{Y:List Int}(v7:Option D)(hb:bO B k'=some (.int b))(st:f_y43 [S,.int k',.int z,.int b]=some (.tup [.int nz,.lst S2]))(hi:eF S2=some Y)(hY:Y.sum=x):
 uR [some S,some TB,some s,some (.lst B),some (.int z),some (.int c),some (.int k'),v7]=some (.nx [some S,some TB,some s,some (.lst B),some (.int nz),some (.int (c+x)),some (.int k'),some (.lst S2)]):=by
 walk_at "ev"
theorem Ae(S TB s a c:D)(B:List D):(am (aH bI (aa 3)) ag) [some S,some TB,some s,some (.lst B),some a,some c,none,none]=some ([.int ((B.length:Nat):Int)],[some S,some TB,some s,some (.lst B),some a,some c,none,none]):=by walk_at "ev"
theorem qW{S TB s B a c a' c':D}{X:List D}{v6 v7:Option D}{FI:aT}{FB:aI}(hI:FI [some S,some TB,some s,some B,some a,some c,none,none]=some (X,[some S,some TB,some s,some B,some a,some c,none,none]))
 (l1:eh (ai 6) FB X [some S,some TB,some s,some B,some a,some c,none,none]=some (.nx [some S,some TB,some s,some B,some a',some c',v6,v7])):
 (bA FI (ai 6) FB) [some S,some TB,some s,some B,some a,some c,none,none]=some (.nx [some S,some TB,some s,some B,some a',some c',v6,v7]):=by
 walk_at "ev"
theorem qom{S s:D}{TB B R:List D}{z6 c:Int}{k':Int}{v6 v7:Option D}(hk:((B.length:Nat):Int)=k')(h1:bO TB k'=some (.lst R))(h2:bO R z6=some .non)(FX:aI):
 (av BV FX) [some S,some (.lst TB),some s,some (.lst B),some (.int z6),some (.int c),v6,v7]=some (.rt .non [some S,some (.lst TB),some s,some (.lst B),some (.int z6),some (.int c),v6,v7]):=by
 subst hk;walk_at "ev"
theorem qol{S s:D}{TB B R:List D}{z6 c x:Int}{k':Int}{v6 v7:Option D}(hk:((B.length:Nat):Int)=k')(h1:bO TB k'=some (.lst R))(h2:bO R z6=some (.int x)):
 A6 [some S,some (.lst TB),some s,some (.lst B),some (.int z6),some (.int c),v6,v7]=some (.rt (.int (c+x)) [some S,some (.lst TB),some s,some (.lst B),some (.int z6),some (.int c),v6,v7]):=by
 subst hk;walk_at "ev"
section
variable{r:Int}{U:List Int}{G:List (List Int)}{e:Str}{n:Nat}
theorem qbn:∀{i j:Nat},i<=j->(bn U G i).length<=(bn U G j).length:=λ{i j} h=>by
 induction j with
 |zero=>rw[Nat.le_zero.mp h];exact j7 _
 | succ j ih=>
  by_cases z:i=j+1
  ·rw[z];exact j7 _
  ·rw[oO];exact jr (ih (by omega)) (Nat.le_add_right _ _)
theorem qvv(ok:q2a r U G e)(hn:n<=60)(h:e="ring"->r.toNat<=n)(ts:List Told)(hl:ts.length=(bn U G (n+az r e)).length)(s:Int):
 f_y30 [aw r U G e,.int n,.lst (ts.map cW),.int s]=some (io (dc r U G e ts n s)):=by
 have p16:=jQ ok.r0 ok.r4;have pn:=gn (r:=r);have z4:=jU ok;exact qv8 (CG ok n hn h ts hl) (DE ok s) (Fw _ _ (2^r.toNat) (by omega) (by rw[jV];omega) (by unfold eJ;simp) (λst hst=>CP ts n _ _ st hst))
theorem qca{N k:Nat}(hk:k<N):aO U G (bW U G N) k=List.replicate (bF U G k).length (.clear 0):=by have h1:=qbn (U:=U) (G:=G) (show k+1<=N from hk);rw[oO]at h1;unfold aO;rw[List.drop_replicate,List.take_replicate,Nat.min_eq_left (by omega)]
theorem qqj{s x:Int}{b:List Int}(hs:s∈ck r e)(hb:ax b)(hx:x=0∨x=1)(hl:b.length<n)(ok:q2a r U G e):aV r U G e (bW U G (n+az r e)) n s (b++[x])=
 ((2*(aV r U G e (bW U G (n+az r e)) n s b).1+x) % 2^r.toNat,(aV r U G e (bW U G (n+az r e)) n s b).2+(fq (aF G b.length) (U.map (dI (2*(aV r U G e (bW U G (n+az r e)) n s b).1+x)))).sum):=by
 have hrm:=oJ (U:=U) (G:=G) (ts:=bW U G (n+az r e)) hs hb (Nat.le_of_lt hl);have pn:=gn (r:=r);rw[Fa x hl];generalize aV r U G e (bW U G (n+az r e)) n s b=p at hrm;have ech:=ya (U:=U) (G:=G) (ts:=bW U G (n+az r e)) (n:=n) (k:=b.length) hrm.1 (show p.1<2^r.toNat by omega);have eb:eO n b.length=[0,1]:=if_pos hl;have em:(cy (stepK r U G (bW U G (n+az r e)) n b.length) p.1).getD x.toNat (0,0)=ig r U G (bW U G (n+az r e)) b.length p.1 x:=by rw[ech,eb];rcases hx with rfl|rfl<;>rfl
 have ec:f7 (aO U G (bW U G (n+az r e)) b.length) (fq (aF G b.length) (U.map (dI (2*p.1+x))))=(fq (aF G b.length) (U.map (dI (2*p.1+x)))).sum:=by rw[qca (by omega)];refine yr _ _ (qjr ok _ _) λy hy=>?_;rw[qg]at hy;obtain⟨z,_,rfl⟩:=List.mem_map.mp hy;exact qnh
 rw[em,<-ec];rfl
theorem qqd(ok:q2a r U G e)(hn:n<=60){s:Int}{b:List Int}(hs:s∈ck r e)(hb:ax b)(hl:b.length<=n):
 f_y48 [aw r U G e,io (dc r U G e (bW U G (n+az r e)) n s),.int s,.lst (b.map D.int)]=some (bJ (cE r U G e (bW U G (n+az r e)) n s b)):=by
 have hr:=oJ (n:=n) (U:=U) (G:=G) (ts:=bW U G (n+az r e)) hs hb hl;obtain⟨ρ',l1,v6,v7,hρ⟩:=iz (fg:=ai 6) (fb:=uR)
  (λk ρ=>∃v6 v7,ρ=[some (aw r U G e),some (io (dc r U G e (bW U G (n+az r e)) n s)),some (.int s),some (.lst (b.map D.int)),some (.int (aV r U G e (bW U G (n+az r e)) n s (b.take k)).1),some (.int (aV r U G e (bW U G (n+az r e)) n s (b.take k)).2),v6,v7]) (cY 0 b.length) 0
  [some (aw r U G e),some (io (dc r U G e (bW U G (n+az r e)) n s)),some (.int s),some (.lst (b.map D.int)),some (.int s),some (.int 0),none,none] ⟨none,none,by
   show _=[_,_,_,_,some (D.int (eK _ s 0 []).1),some (D.int (eK _ s 0 []).2),_,_];rw[tR]⟩ (by
   rintro i x ρ hx ⟨v6,v7,rfl⟩;obtain⟨hi,rfl⟩:=jW hx;rw[jv,Int.zero_add];have ek:b[i]? =some b[i]:=j8 hi;have hbi:=hb _ (xk hi);have ga:bO (b.map D.int) (i:Int)=some (.int b[i]):=by rw[jM (by omega) (by rw[j3];omega),jq,jd,ek];rfl
   have hbt:ax (b.take i):=λy hy=>hb y (List.mem_of_mem_take hy);have lt':(b.take i).length=i:=by rw[jz];omega
   have hri:=oJ (n:=n) (U:=U) (G:=G) (ts:=bW U G (n+az r e)) hs hbt (by omega);have eo:=qqj (n:=n) (U:=U) (G:=G) hs hbt hbi (by omega) ok;rw[lt']at eo;have st:=qv ok i (aV r U G e (bW U G (n+az r e)) n s (b.take i)).1 b[i] hri.1 (by omega);refine⟨_,_,rfl,.inl (Ac v7 ga st (gN _) rfl),some (.int (i:Int)),some (.lst ((fq (aF G i) (U.map (dI (2*(aV r U G e (bW U G (n+az r e)) n s (b.take i)).1+b[i])))).map D.int)),?_⟩;rw[cA ek,eo])
 subst hρ;rw[gq,jv,List.take_length]at l1;have hk:b.length<(dc r U G e (bW U G (n+az r e)) n s).length:=by rw[xC];omega
 have ek:(dc r U G e (bW U G (n+az r e)) n s)[b.length]? =some (dc r U G e (bW U G (n+az r e)) n s)[b.length]:=j8 hk;have h2:bO ((dc r U G e (bW U G (n+az r e)) n s).map dY) (b.length:Int)=some (.lst ((dc r U G e (bW U G (n+az r e)) n s)[b.length].map bJ)):=by rw[jM (by omega) (by rw[j3];omega),jq,jd,ek];rfl
 have h3:=wD (t:=(dc r U G e (bW U G (n+az r e)) n s)[b.length]) hr.1 (by rw[Es ek];exact hr.2);have ec:cE r U G e (bW U G (n+az r e)) n s b=(dR (dc r U G e (bW U G (n+az r e)) n s)[b.length] (aV r U G e (bW U G (n+az r e)) n s b).1).map λx=>(aV r U G e (bW U G (n+az r e)) n s b).2+x:=by unfold cE;rw[jc,ek];rfl
 have lm:(((b.map D.int).length:Nat):Int)=(b.length:Int):=by rw[j3]
 have hI:=lR (Ae (aw r U G e) (io (dc r U G e (bW U G (n+az r e)) n s)) (.int s) (.int s) (.int 0) (b.map D.int)) (by omega) (by rw[lm];omega);rw[lm,jq]at hI;rw[ec];cases q:dR (dc r U G e (bW U G (n+az r e)) n s)[b.length] (aV r U G e (bW U G (n+az r e)) n s b).1 with
 | none=>
  rw[q]at h3;exact mJ rfl ⟨_,(bN (qY)).trans<|(bN (qX)).trans<|(bN (qW hI l1)).trans<|qom lm h2 h3 _⟩
 | some x=>
  rw[q]at h3;exact mJ rfl ⟨_,(bN (qY)).trans<|(bN (qX)).trans<|(bN (qW hI l1)).trans<|qol lm h2 h3⟩
end
theorem Ab{W Z:List D}(lw:W.length<=sizeLine)(cm:cU 1 [] none (ai 0) (ae true) (ae (.int 0)) W [some (.lst W),none,none,none]=some (Z,[some (.lst W),none,none,none])):BB [some (.lst W),none,none,none]=some (.nx [some (.lst W),some (.lst Z),none,none]):=by walk_at "ev"
theorem Aa{W Z:D}(z0:0<=sizeLine):(cI 2 (aY ag)) [some W,some Z,none,none]=some (.nx [some W,some Z,some (.lst []),none]):=by walk_at "ev"
theorem zX{W:D}{k':Int}{Z Z' F:List D}(one:1<=sizeLine)(hc:lZ (.lst Z) none (some k')=some (.lst Z'))(lz:Z'.length+1<=sizeLine)(lf:F.length<sizeLine):
 uO [some W,some (.lst Z),some (.lst F),some (.int k')]=some (.nx [some W,some (.lst Z),some (.lst (F++[.lst (Z'++[.int 1])])),some (.int k')]):=by
 walk_at "ev"
theorem zY(Z F:D)(W:List D):(am (aH bI (aa 0)) ag) [some (.lst W),some Z,some F,none]=some ([.int ((W.length:Nat):Int)],[some (.lst W),some Z,some F,none]):=by walk_at "ev"
theorem zZ{W Z:D}{X F:List D}{v3:Option D}{FI:aT}{FB:aI}(hI:FI [some W,some Z,some (.lst []),none]=some (X,[some W,some Z,some (.lst []),none]))(l1:eh (ai 3) FB X [some W,some Z,some (.lst []),none]=some (.nx [some W,some Z,some (.lst F),v3])):
 (av (bA FI (ai 3) FB) (kA 2)) [some W,some Z,some (.lst []),none]=some (.rt (.lst F) [some W,some Z,none,v3]):=by
 walk_at "ev"
def gK(k:Nat):List Int:=List.replicate k 0++[1]
theorem qfg(w:List Int)(hl:w.length<=60):f_y49 [.lst (w.map D.int)]=some (.lst ((List.range w.length).map λk=>.lst ((gK k).map D.int))):=by
 have cm:=gC (n:=1) (js:=[]) (fg:=ai 0) (fe:=ae (.int 0)) (ρ:=[some (.lst (w.map D.int)),none,none,none]) (λ_=>.int 0) (w.map D.int) (λx _=>⟨[some x],rfl,rfl⟩);rw[eM,j3]at cm;obtain⟨ρ',l1,v3,hρ⟩:=iz (fg:=ai 3) (fb:=uO)
  (λk ρ=>∃v3,ρ=[some (.lst (w.map D.int)),some (.lst (List.replicate w.length (.int 0))),some (.lst ((List.range k).map λk=>.lst ((gK k).map D.int))),v3]) (cY 0 w.length) 0
  [some (.lst (w.map D.int)),some (.lst (List.replicate w.length (.int 0))),some (.lst []),none] ⟨none,rfl⟩ (by
   rintro i x ρ hx ⟨v3,rfl⟩;obtain⟨hi,rfl⟩:=jW hx;rw[jv,Int.zero_add];have hc:lZ (.lst (List.replicate w.length (D.int 0))) none (some (i:Int))=some (.lst (List.replicate i (.int 0))):=by show some (D.lst (e7 _ _ _))=_;rw[tj (by omega),jq,List.take_replicate,Nat.min_eq_left (by omega)]
   refine⟨_,_,rfl,.inl (zX (by decide) hc (by rw[ji];exact dy (by omega)) (by rw[j3,List.length_range];exact jn (by omega:_<1000) (by decide))),some (.int (i:Int)),?_⟩;rw[List.range_succ,jx];unfold gK;rw[jo,jx,List.map_replicate];rfl)
 subst hρ;rw[gq,jv]at l1;have lm:(((w.map D.int).length:Nat):Int)=(w.length:Int):=by rw[j3]
 have hI:=lR (zY (.lst (List.replicate w.length (.int 0))) (.lst []) (w.map D.int)) (by omega) (by rw[lm];omega);rw[lm,jq]at hI;exact Eo rfl ⟨_,(bN (Ab (by rw[j3];exact dy (by omega)) cm)).trans<|(bN (Aa (by decide))).trans<|zZ hI l1⟩
theorem zO(x:D)(two:2<=sizeLine):((cc nZ) [some x]).map (·.1)=some (.tup [.str "clear",.int 0]):=by walk_at "ev"
theorem zR{S n W:D}{m:Int}{Y:List D}{FE:aJ}(bg:fk m=true)(l1:(cY 0 m.toNat).length<=sizeLine)(cm:cU 1 [] none (ai 0) (ae true) FE (cY 0 m.toNat) [some S,some n,some (.int m),some W,none,none,none,none,none,none]=some (Y,[some S,some n,some (.int m),some W,none,none,none,none,none,none])):
 (aA 4 (bh (cG 1 [] none (fD (am (aa 2) ag)) (ai 0) (ae true) FE))) [some S,some n,some (.int m),some W,none,none,none,none,none,none]=some (.nx [some S,some n,some (.int m),some W,some (.lst Y),none,none,none,none,none]):=by
 walk_at "ev"
theorem zQ{S n m W T:D}(one:1<=sizeLine):Bh [some S,some n,some m,some W,some T,none,none,none,none,none]=some (.nx [some S,some n,some m,some W,some T,some (.lst [.int 0]),none,none,none,none]):=by walk_at "ev"
theorem qw4{R TS RS n m W T X:D}{e:Str}{FX:aI}(h:cB (.str e) (.str "ring")=some false):(cR (bz ma) FX aX) [some (.tup [R,TS,RS,.str e]),some n,some m,some W,some T,some X,none,none,none,none]=some (.nx [some (.tup [R,TS,RS,.str e]),some n,some m,some W,some T,some X,none,none,none,none]):=by walk_at "ev"
theorem qta{TS RS n m W T X:D}{r M:Int}{Y:List D}{e:Str}(h:cB (.str e) (.str "ring")=some true)(hs:cg (.int 1) (.int r)=some (.int M))(hy:eX (.int M)=some Y):
 (cR (bz ma)
 (aA 5 (bh (i7 eX (af cg (ae (.int 1)) (af bj (aa 0) (ae (.int 0)))))))
 aX) [some (.tup [.int r,TS,RS,.str e]),some n,some m,some W,some T,some X,none,none,none,none]=some (.nx [some (.tup [.int r,TS,RS,.str e]),some n,some m,some W,some T,some (.lst Y),none,none,none,none]):=by
 generalize hu:eX=uo at hy ⊢;generalize cg=SH at hs ⊢;clear hu;walk_at "ev"
theorem zP{S n m W X s TB:D}{T:List D}{v7 v8 v9:Option D}(lt:T.length<=sizeLine)(h:f_y30 [S,n,.lst T,s]=some TB):uN [some S,some n,some m,some W,some (.lst T),some X,some s,v7,v8,v9]=some (.nx [some S,some n,some m,some W,some (.lst T),some X,some s,some TB,v8,v9]):=by walk_at "ev"
theorem zN{S n m W T X s TB:D}{LV:List D}{v8 v9 w8 w9:Option D}{FB:aI}(h:f_y49 [W]=some (.lst LV))(l1:eh (ai 8) FB LV [some S,some n,some m,some W,some T,some X,some s,some TB,v8,v9]=some (.nx [some S,some n,some m,some W,some T,some X,some s,some TB,w8,w9])):
 (bA uv (ai 8) FB) [some S,some n,some m,some W,some T,some X,some s,some TB,v8,v9]=some (.nx [some S,some n,some m,some W,some T,some X,some s,some TB,w8,w9]):=by
 walk_at "ev"
theorem nr{S n m W T X s TB B y:D}{v9:Option D}(h:f_y48 [S,TB,s,B]=some y):BD [some S,some n,some m,some W,some T,some X,some s,some TB,some B,v9]=some (.nx [some S,some n,some m,some W,some T,some X,some s,some TB,some B,some y]):=by walk_at "ev"
theorem qw6{S n m W T X s TB B:D}{FX:aI}{FT:dP}:(cR (dM (bz (af iW (aa 9) (ae .non))) FT) FX aX) [some S,some n,some m,some W,some T,some X,some s,some TB,some B,some .non]=some (.nx [some S,some n,some m,some W,some T,some X,some s,some TB,some B,some .non]):=by walk_at "ev"
abbrev uV:=uC
theorem Cs{S n m W T X s TB B:D}{c d:Int}{SE:List D}{Y:List Int}{FX:aI}(hs:f_y45 [S,W]=some (.lst SE))(hi:eF SE=some Y)(hY:Y.sum=d)(hc:¬c<d):(cR (dM (bz (af iW (aa 9) (ae .non))) (bz (af oQ (aa 9) uV))) FX aX) [some S,some n,some m,some W,some T,some X,some s,some TB,some B,some (.int c)]=some (.nx [some S,some n,some m,some W,some T,some X,some s,some TB,some B,some (.int c)]):=by walk_at "ev"
theorem Ct{S n m W T X s TB B y:D}{d:Int}{SE:List D}{Y:List Int}{FX:aI}{FT:dP}(hs:f_y45 [S,W]=some (.lst SE))(hi:eF SE=some Y)(hY:Y.sum=d)(he:cB y (.int d)=some false):(cR (dM (bz (af fj (aa 9) uV)) FT) FX aX) [some S,some n,some m,some W,some T,some X,some s,some TB,some B,some y]=some (.nx [some S,some n,some m,some W,some T,some X,some s,some TB,some B,some y]):=by walk_at "ev"
theorem qw5{S n m T X s TB:D}{d k':Int}{W W' B SE:List D}{Y:List Int}{FX:aI}{DL:D->D->Option D}(hs:f_y45 [S,.lst W]=some (.lst SE))(hi:eF SE=some Y)(hY:Y.sum=d)(hk:((B.length:Nat):Int)=k')(hc:lZ (.lst W) none (some k')=some (.lst W'))(hl:DL (.lst B) (.lst W')=some (.bl false)):
 (cR (dM (bz (af fj (aa 9) uV)) (bz (af DL (aa 8) Bk))) FX aX) [some S,some n,some m,some (.lst W),some T,some X,some s,some TB,some (.lst B),some (.int d)]=some (.nx [some S,some n,some m,some (.lst W),some T,some X,some s,some TB,some (.lst B),some (.int d)]):=by
 subst hk;walk_at "ev"
theorem zM{S n m W T:D}{X:List D}{v6 v7 v8 v9:Option D}{FB:aI}(l1:eh (ai 6) FB X [some S,some n,some m,some W,some T,some (.lst X),none,none,none,none]=some (.nx [some S,some n,some m,some W,some T,some (.lst X),v6,v7,v8,v9])):
 (av (bA (bD (aa 5)) (ai 6) FB) (aE (ae (.bl true)))) [some S,some n,some m,some W,some T,some (.lst X),none,none,none,none]=some (.rt (.bl true) [some S,some n,some m,some W,some T,some (.lst X),v6,v7,v8,v9]):=by
 walk_at "ev"
section
variable{r:Int}{U:List Int}{G:List (List Int)}{e:Str}{n:Nat}
theorem qkd{k:Nat}(hk:k<n){x:List Int}(hp:gK k<+:x):x≠List.replicate n 0:=λz=>by obtain⟨t,rfl⟩:=hp;have:(1:Int)=0:=List.eq_of_mem_replicate (n:=n) (by rw[<-z];unfold gK;simp);cases this
theorem qe0(ok:q2a r U G e)(hn:n<=60)(hr:e="ring"->r.toNat<=n){w:List Int}(w1:ax w)(w2:w.length=n)
 (w4:∀x,ax x->x.length=n->x≠List.replicate n 0->cr ((bM r U G e x).sum,x) ((bM r U G e w).sum,w)=false):
 f_y50 [aw r U G e,.int n,.int (bM r U G e w).length,.lst (w.map D.int)]=some (.bl true):=by
 have z4:=jU ok;have p16:=jQ ok.r0 ok.r4;have pn:=gn (r:=r);have tn:((2:Int)^r.toNat).toNat=2^r.toNat:=by omega
 have lp:=tE ok (n+az r e);have hl:(bW U G (n+az r e)).length=(bn U G (n+az r e)).length:=ji;have hm:(bM r U G e w).length=(bn U G (n+az r e)).length:=by unfold bM;rw[w2];exact(yB w _).symm
 have hs:=sZ ok w w1 (by rw[w2];exact hr) (by omega);have hlv:=qfg w (by omega);rw[w2]at hlv;rw[hm];have cm:=gC (n:=1) (js:=[]) (fg:=ai 0) (fe:=cc nZ) (ρ:=[some (aw r U G e),some (.int n),some (.int (bn U G (n+az r e)).length),some (.lst (w.map D.int)),none,none,none,none,none,none]) (λ_=>.tup [.str "clear",.int 0]) (cY 0 (bn U G (n+az r e)).length) (λx _=>⟨[some x],rfl,zO x (by decide)⟩);rw[eM,gq]at cm;have et:List.replicate (bn U G (n+az r e)).length (D.tup [.str "clear",.int 0])=(bW U G (n+az r e)).map cW:=by rw[List.map_replicate];rfl
 rw[et]at cm;have hsum:∀(s:Int) (k:Nat) (TB:D) (v9:Option D),s∈ck r e->k<n->TB=io (dc r U G e (bW U G (n+az r e)) n s)->∃w9,rO [some (aw r U G e),some (.int n),some (.int (bn U G (n+az r e)).length),some (.lst (w.map D.int)),some (.lst ((bW U G (n+az r e)).map cW)),some (.lst ((ck r e).map D.int)),some (.int s),some TB,some (.lst ((gK k).map D.int)),v9]=some (.nx [some (aw r U G e),some (.int n),some (.int (bn U G (n+az r e)).length),some (.lst (w.map D.int)),some (.lst ((bW U G (n+az r e)).map cW)),some (.lst ((ck r e).map D.int)),some (.int s),some TB,some (.lst ((gK k).map D.int)),w9]):=λs k TB v9 hs0 hk eT=>by
  have lb:(gK k).length=k+1:=by unfold gK;rw[je,ji];rfl
  have bb:ax (gK k):=iA (lU _) λy hy=>.inr (List.mem_singleton.mp hy);have hf:=qqd ok hn hs0 bb (by omega);rw[<-eT]at hf;cases q:cE r U G e (bW U G (n+az r e)) n s (gK k)with
  | none=>
   rw[q]at hf;exact⟨_,(bN (nr hf)).trans<|(bN (qw6)).trans<|Ct hs (gN _) rfl (Gp _)⟩
  | some c=>
   rw[q]at hf;obtain⟨x,x1,x2,x3,_,x5⟩:=xJ hs0 bb (by omega) hr ok.en hl q;rw[oN ok x1 x2 hr]at x5;have hx:=w4 x x1 x2 (qkd hk x3);rw[x5]at hx;unfold cr lQ at hx;simp only at hx;by_cases z:c=(bM r U G e w).sum
   ·rw[if_pos z]at hx;have hc:lZ (.lst (w.map D.int)) none (some ((k+1:Nat):Int))=some (.lst ((w.take (k+1)).map D.int)):=by
     show some (D.lst (e7 _ _ _))=_;rw[tj (by omega),jq,<-List.map_take]
    have hlt:HT.lexLt (gK k) (w.take (k+1))=false:=by
     cases g:HT.lexLt (gK k) (w.take (k+1))with
     |false=>rfl
     | true=>
      obtain⟨t,rfl⟩:=x3;have:=ye t (w.drop (k+1)) (by rw[lb,jz];omega) g;rw[List.take_append_drop,hx]at this;cases this
    have hd:=qv0 (x:=gK k) (y:=w.take (k+1)) (by rw[lb,jz];omega);rw[hlt]at hd;rw[z]at hf;exact⟨_,(bN (nr hf)).trans<|(bN (Cs hs (gN _) rfl (by omega))).trans<|qw5 hs (gN _) rfl (by rw[j3,lb]) hc hd⟩
   ·rw[if_neg z]at hx;have hx:¬c<(bM r U G e w).sum:=by simpa using hx
    refine⟨_,(bN (nr hf)).trans<|(bN (Cs hs (gN _) rfl hx)).trans<|Ct hs (gN _) rfl ?_⟩;refine(D7 _ _).trans ?_;simp[z]
 obtain⟨ρ',l1,v6,v7,v8,v9,hρ⟩:=wJ (fg:=ai 6) (fb:=(av uN
 (bA uv (ai 8)
   rO)))
   (λρ=>∃v6 v7 v8 v9,ρ=[some (aw r U G e),some (.int n),some (.int (bn U G (n+az r e)).length),some (.lst (w.map D.int)),some (.lst ((bW U G (n+az r e)).map cW)),some (.lst ((ck r e).map D.int)),v6,v7,v8,v9]) ((ck r e).map D.int)
   [some (aw r U G e),some (.int n),some (.int (bn U G (n+az r e)).length),some (.lst (w.map D.int)),some (.lst ((bW U G (n+az r e)).map cW)),some (.lst ((ck r e).map D.int)),none,none,none,none] ⟨none,none,none,none,rfl⟩ (by
    rintro x ρ hx ⟨v6,v7,v8,v9,rfl⟩;obtain⟨s,hs0,rfl⟩:=List.mem_map.mp hx;have ha:=qvv ok hn hr (bW U G (n+az r e)) hl s;generalize eT:io (dc r U G e (bW U G (n+az r e)) n s)=TB at ha;obtain⟨ρ1,m1,w8,w9,hρ1⟩:=wJ (fg:=ai 8) (fb:=rO)
     (λρ=>∃w8 w9,ρ=[some (aw r U G e),some (.int n),some (.int (bn U G (n+az r e)).length),some (.lst (w.map D.int)),some (.lst ((bW U G (n+az r e)).map cW)),some (.lst ((ck r e).map D.int)),some (.int s),some TB,w8,w9]) ((List.range n).map λk=>.lst ((gK k).map D.int))
     [some (aw r U G e),some (.int n),some (.int (bn U G (n+az r e)).length),some (.lst (w.map D.int)),some (.lst ((bW U G (n+az r e)).map cW)),some (.lst ((ck r e).map D.int)),some (.int s),some TB,v8,v9] ⟨v8,v9,rfl⟩ (by rintro x ρ hx ⟨w8,w9,rfl⟩;obtain⟨k,hk,rfl⟩:=List.mem_map.mp hx;obtain⟨w9',h9⟩:=hsum s k TB w9 hs0 (List.mem_range.mp hk) eT.symm;exact⟨_,_,rfl,.inl h9,_,_,rfl⟩)
    subst hρ1;exact⟨_,_,rfl,.inl ((bN (zP (by rw[j3,ji];exact dy (by omega)) ha)).trans<|zN hlv m1),_,_,_,_,rfl⟩)
 subst hρ;have h6:(cR (bz ma)
  (aA 5 (bh (i7 eX (af cg (ae (.int 1)) (af bj (aa 0) (ae (.int 0)))))))
  aX) [some (aw r U G e),some (.int n),some (.int (bn U G (n+az r e)).length),some (.lst (w.map D.int)),some (.lst ((bW U G (n+az r e)).map cW)),some (.lst [.int 0]),none,none,none,none]=some (.nx [some (aw r U G e),some (.int n),some (.int (bn U G (n+az r e)).length),some (.lst (w.map D.int)),some (.lst ((bW U G (n+az r e)).map cW)),some (.lst ((ck r e).map D.int)),none,none,none,none]):=by
  by_cases q:e="ring"
  ·refine qta (by rw[q];exact iG) (vn ok) ?_;show(if(0:Int)<=2^r.toNat/\(2:Int)^r.toNat<=1000000 then some ((i4 (2^r.toNat)).map D.int)else none)=_;rw[if_pos ⟨by omega,by omega⟩];unfold i4 ck;rw[tn,if_pos q]
  ·have e5:(ck r e).map D.int=[.int 0]:=by unfold ck;rw[if_neg q];rfl
   rw[e5];refine qw4 ?_;rcases ok.en with g|g|g
   ·rw[g];exact i9
   ·rw[g];exact jp
   ·exact absurd g q
 have bg:fk ((bn U G (n+az r e)).length:Int)=true:=by unfold fk;simp;omega
 exact mJ rfl ⟨_,(bN (zR bg (by rw[gq,jq];exact dy (by omega)) (by rw[jq];exact cm))).trans<|(bN (zQ (by decide))).trans<|(bN h6).trans<|zM l1⟩
end
theorem qiu{f:List D->List D->Option (D×List D)}{fn fs:aT}{ρ ρ1 ρ2:aB}{xs ds ys:List D}{d:D}(h1:fn ρ=some (xs,ρ1))(h2:fs ρ1=some (ds,ρ2))(h3:f xs ds=some (d,ys)):pY f fn fs ρ=some (d,ρ2):=by unfold pY;simp only[h1,h2,h3]
theorem l1(N c s t:D)(hc:f_y38 [N,.int 0]=some c)(hs:f_y39 [c,.int 0]=some (.lst [s])):Bu [some N,none,none,none,none,none,none,none,none,none,none,some t]=some (.nx [some N,some (.lst [s]),none,none,none,none,none,none,none,none,none,some t]):=by walk_at "ev"
theorem l2(N s s' S t:D)(five:5<=sizeLine)(h:f_y41 [s] [.int 4,.lst [.str "open",.str "ended",.str "open",.str "ended",.str "ring"]]=some (S,[s'])):BR [some N,some (.lst [s]),none,none,none,none,none,none,none,none,none,some t]=some (.nx [some N,some (.lst [s']),some S,none,none,none,none,none,none,none,none,some t]):=by walk_at "ev"
theorem qwz{N A R TS RS t:D}{e:Str}{FT:dP}{FX:aI}(h:cB (.str e) (.str "ring")=some false):(cR (dM n6 FT) FX aX) [some N,some A,some (.tup [R,TS,RS,.str e]),none,none,none,none,none,none,none,none,some t]=some (.nx [some N,some A,some (.tup [R,TS,RS,.str e]),none,none,none,none,none,none,none,none,some t]):=by walk_at "ev"
theorem Al{N A TS RS t:D}{r:Int}{e:Str}{FX:aI}(h:cB (.str e) (.str "ring")=some true)(hr:¬2<r):(cR (dM n6 Bt) FX aX) [some N,some A,some (.tup [.int r,TS,RS,.str e]),none,none,none,none,none,none,none,none,some t]=some (.nx [some N,some A,some (.tup [.int r,TS,RS,.str e]),none,none,none,none,none,none,none,none,some t]):=by walk_at "ev"
theorem Ak{N A TS RS t:D}{r:Int}{e:Str}(four:4<=sizeLine)(h:cB (.str e) (.str "ring")=some true)(hr:2<r):uW [some N,some A,some (.tup [.int r,TS,RS,.str e]),none,none,none,none,none,none,none,none,some t]=some (.nx [some N,some A,some (.tup [.int r,TS,RS,.str "ended"]),none,none,none,none,none,none,none,none,some t]):=by walk_at "ev"
theorem Aj{N A S c s t:D}(hc:f_y38 [N,.int 1]=some c)(hs:f_y39 [c,.int 1]=some (.lst [s])):BE [some N,some A,some S,none,none,none,none,none,none,none,none,some t]=some ([s],[some N,some A,some S,none,none,none,none,none,none,none,none,some t]):=by walk_at "ev"
theorem Ai{N A S t:D}:(am (ae (.int 16)) ag) [some N,some A,some S,none,none,none,none,none,none,none,none,some t]=some ([.int 16],[some N,some A,some S,none,none,none,none,none,none,none,none,some t]):=by walk_at "ev"
theorem l4{N A S t:D}{x:Int}{FC:aJ}(h:FC [some N,some A,some S,none,none,none,none,none,none,none,none,some t]=some (.int x,[some N,some A,some S,none,none,none,none,none,none,none,none,some t])):(aA 3 (af cD (ae (.int 1)) FC)) [some N,some A,some S,none,none,none,none,none,none,none,none,some t]=some (.nx [some N,some A,some S,some (.int (1+x)),none,none,none,none,none,none,none,some t]):=by walk_at "ev"
theorem qwy{N A R TS RS x t:D}{e:Str}{FX:aI}(h:cB (.str e) (.str "ring")=some false):(cR n6 FX aX) [some N,some A,some (.tup [R,TS,RS,.str e]),some x,none,none,none,none,none,none,none,some t]=some (.nx [some N,some A,some (.tup [R,TS,RS,.str e]),some x,none,none,none,none,none,none,none,some t]):=by walk_at "ev"
theorem Ah{N A TS RS t:D}{r x m:Int}{e:Str}(h:cB (.str e) (.str "ring")=some true)(hm:(if r>x then r else x)=m):(cR n6
 (aA 3 (jY (λi j=>if j>i then j else i) uE))
 aX) [some N,some A,some (.tup [.int r,TS,RS,.str e]),some (.int x),none,none,none,none,none,none,none,some t]=some (.nx [some N,some A,some (.tup [.int r,TS,RS,.str e]),some (.int m),none,none,none,none,none,none,none,some t]):=by
 subst hm;walk_at "ev"
theorem Ag{N A S n t:D}:(am (aa 2) (am (aa 3) ag)) [some N,some A,some S,some n,none,none,none,none,none,none,none,some t]=some ([S,n],[some N,some A,some S,some n,none,none,none,none,none,none,none,some t]):=by walk_at "ev"
theorem l6(N A S n y t:D)(FC:aJ)(h:FC [some N,some A,some S,some n,none,none,none,none,none,none,none,some t]=some (y,[some N,some A,some S,some n,none,none,none,none,none,none,none,some t])):(aA 4 FC) [some N,some A,some S,some n,none,none,none,none,none,none,none,some t]=some (.nx [some N,some A,some S,some n,some y,none,none,none,none,none,none,some t]):=by walk_at "ev"
theorem l7{N A S n w t:D}{d:Int}{FX:aI}(h:f_y46 [.int d]=some (.bl true)):(cR BZ FX aX) [some N,some A,some S,some n,some (.tup [.int d,w]),none,none,none,none,none,none,some t]=some (.nx [some N,some A,some S,some n,some (.tup [.int d,w]),none,none,none,none,none,none,some t]):=by walk_at "ev"
theorem l8{N A S n t:D}{d c:Int}{W SE:List D}{Y Z:List Int}{FX:aI}(h:f_y47 [.lst W,n]=some (.bl true))(hz:eF W=some Z)(hZ:Z.sum=c)(hc:(c==0)=false)(hs:f_y45 [S,.lst W]=some (.lst SE))(hi:eF SE=some Y)(hY:Y.sum=d):
 (cR B4
 FX aX) [some N,some A,some S,some n,some (.tup [.int d,.lst W]),none,none,none,none,none,none,some t]=some (.nx [some N,some A,some S,some n,some (.tup [.int d,.lst W]),none,none,none,none,none,none,some t]):=by
 walk_at "ev"
theorem b6(N A S n F k c s t:D)(v6 v7 v8 v9 v10:Option D)(hc:f_y38 [N,k]=some c)(hs:f_y39 [c,.int 2]=some (.lst [s])):BF [some N,some A,some S,some n,some F,some k,v6,v7,v8,v9,v10,some t]=some (.nx [some N,some A,some S,some n,some F,some k,some (.lst [s]),v7,v8,v9,v10,some t]):=by walk_at "ev"
theorem b7e{x:D}{s:Int}:(gE f_y40 1 (am (ae (.int 2)) ag)) [some x,some (.lst [.int s])]=some (.int (db s 2),[some x,some (.lst [.int (eV s)])]):=by have h:=kC s 2 (by decide);walk_at "ev"
theorem b7r(N A S F k a t:D)(n:Int)(v7 v8 v9 v10:Option D):(am (aa 3) ag) [some N,some A,some S,some (.int n),some F,some k,some a,v7,v8,v9,v10,some t]=some ([.int n],[some N,some A,some S,some (.int n),some F,some k,some a,v7,v8,v9,v10,some t]):=by walk_at "ev"
theorem b7{N A S n F k a a' t:D}{X Y:List D}{v7 v8 v9 v10:Option D}{FI:aT}{FE:aJ}(lx:X.length<=sizeLine)(hI:FI [some N,some A,some S,some n,some F,some k,some a,v7,v8,v9,v10,some t]=some (X,[some N,some A,some S,some n,some F,some k,some a,v7,v8,v9,v10,some t]))
 (cm:cU 1 [6] (some (6,1)) (ai 0) (ae true) FE X [some N,some A,some S,some n,some F,some k,some a,v7,v8,v9,v10,some t]=some (Y,[some N,some A,some S,some n,some F,some k,some a',v7,v8,v9,v10,some t])):
 (aA 7 (bh (cG 1 [6] (some (6,1)) FI (ai 0) (ae true) FE))) [some N,some A,some S,some n,some F,some k,some a,v7,v8,v9,v10,some t]=some (.nx [some N,some A,some S,some n,some F,some k,some a',some (.lst Y),v8,v9,v10,some t]):=by
 walk_at "ev"
abbrev B1:=Bz
theorem b8e{x s y z:Int}{DX:D->D->Option D}(hy:(if(db s 4==0)=true then(1:Int)else 0)=y)(hx:DX (.int x) (.int y)=some (.int z)):(af DX (aa 0) B1) [some (.int x),some (.lst [.int s])]=some (.int z,[some (.int x),some (.lst [.int (eV s)])]):=by
 have h:=kC s 4 (by decide);cases q:(db s 4==0)with
 | true=>
  rw[q]at hy;have hy:(1:Int)=y:=hy;subst hy;walk_at "ev"
 | false=>
  rw[q]at hy;have hy:(0:Int)=y:=hy;subst hy;walk_at "ev"
theorem b8{N A S n F k a a' t:D}{X Y:List D}{v8 v9 v10:Option D}{FE:aJ}(lx:X.length<=sizeLine)
 (cm:cU 1 [6] (some (6,1)) (ai 0) (ae true) FE X [some N,some A,some S,some n,some F,some k,some a,some (.lst X),v8,v9,v10,some t]=some (Y,[some N,some A,some S,some n,some F,some k,some a',some (.lst X),v8,v9,v10,some t])):
 (aA 8 (bh (cG 1 [6] (some (6,1)) (bD (aa 7)) (ai 0) (ae true) FE))) [some N,some A,some S,some n,some F,some k,some a,some (.lst X),v8,v9,v10,some t]=some (.nx [some N,some A,some S,some n,some F,some k,some a',some (.lst X),some (.lst Y),v9,v10,some t]):=by
 walk_at "ev"
theorem b9{N A S n F k a U V t:D}{SV:List D}{v9 v10:Option D}(h:f_y45 [S,V]=some (.lst SV)):Br [some N,some A,some S,some n,some F,some k,some a,some U,some V,v9,v10,some t]=some (.nx [some N,some A,some S,some n,some F,some k,some a,some U,some V,some (.lst SV),v10,some t]):=by walk_at "ev"
theorem AL{x y z:Int}{DX:D->D->Option D}(h:DX (.int x) (.int y)=some (.int z)):((af DX (aa 0) (aa 1)) [some (.int x),some (.int y)]).map (·.1)=some (.int z):=by walk_at "ev"
theorem b10{N A S n F k a U V t:D}{SU SV Z YD:List D}{Y:List Int}{c:Int}{v10:Option D}{FE:aJ}(h:f_y45 [S,U]=some (.lst SU))(hz:dn SU SV=Z)(lz:Z.length<=sizeLine)
 (cm:cU 2 [] none (eQ 2 (cT (ai 0) (cT (ai 1) e9))) (ae true) FE Z [some N,some A,some S,some n,some F,some k,some a,some U,some V,some (.lst SV),v10,some t]=some (YD,[some N,some A,some S,some n,some F,some k,some a,some U,some V,some (.lst SV),v10,some t])) (hi:eF YD=some Y) (hY:Y.sum=c):
 (aA 10 (aH fX (bh (cG 2 [] none BC (eQ 2 (cT (ai 0) (cT (ai 1) e9))) (ae true) FE)))) [some N,some A,some S,some n,some F,some k,some a,some U,some V,some (.lst SV),v10,some t]=some (.nx [some N,some A,some S,some n,some F,some k,some a,some U,some V,some (.lst SV),some (.int c),some t]):=by
 walk_at "ev"
theorem qv6{N A S n F k a U V s c t:D}{FT:dP}{FX:aI}(h:cB U V=some true):(cR (dM (bz (af kO (aa 7) (aa 8))) FT) FX aX) [some N,some A,some S,some n,some F,some k,some a,some U,some V,some s,some c,some t]=some (.nx [some N,some A,some S,some n,some F,some k,some a,some U,some V,some s,some c,some t]):=by walk_at "ev"
abbrev B2:=BG
theorem qv5{N A S n k a U V s w t:D}{c d:Int}{FX:aI}(h:cB U V=some false)(hc:¬c<d):(cR B2 FX aX) [some N,some A,some S,some n,some (.tup [.int d,w]),some k,some a,some U,some V,some s,some (.int c),some t]=some (.nx [some N,some A,some S,some n,some (.tup [.int d,w]),some k,some a,some U,some V,some s,some (.int c),some t]):=by walk_at "ev"
theorem Af(N:List D)(A S n F t:D)(m:Int)(hm:(if(60:Int)<(N.length:Nat)then(60:Int)else(N.length:Nat))=m):(am (jY (λi j=>if j<i then j else i) uy) ag) [some (.lst N),some A,some S,some n,some F,none,none,none,none,none,none,some t]=some ([.int m],[some (.lst N),some A,some S,some n,some F,none,none,none,none,none,none,some t]):=by subst hm;walk_at "ev"
theorem l9{N A S n F t:D}{X:List D}{v5 v6 v7 v8 v9 v10:Option D}{FI:aT}{FB:aI}(hI:FI [some N,some A,some S,some n,some F,none,none,none,none,none,none,some t]=some (X,[some N,some A,some S,some n,some F,none,none,none,none,none,none,some t]))
 (l:eh (ai 5) FB X [some N,some A,some S,some n,some F,none,none,none,none,none,none,some t]=some (.nx [some N,some A,some S,some n,some F,v5,v6,v7,v8,v9,v10,some t])):(bA FI (ai 5) FB) [some N,some A,some S,some n,some F,none,none,none,none,none,none,some t]=some (.nx [some N,some A,some S,some n,some F,v5,v6,v7,v8,v9,v10,some t]):=by
 walk_at "ev"
theorem l10{G GS:List D->Option D}{N A S n d W t y:D}{SE:List D}{m:Int}{v5 v6 v7 v8 v9 v10:Option D}(hm:((SE.length:Nat):Int)=m)(hs:GS [S,W]=some (.lst SE))(h:G [S,n,.int m,W]=some y):
 (aE (a9 G (am (aa 2) (am (aa 3) (am (aH bI (bh (gO GS (am (aa 2) rM)))) rM))))) [some N,some A,some S,some n,some (.tup [d,W]),v5,v6,v7,v8,v9,v10,some t]=some (.rt y [some N,some A,some S,some n,some (.tup [d,W]),v5,v6,v7,v8,v9,v10,some t]):=by
 subst hm;walk_at "ev"
theorem C2{x y z:Int}(h:Builtin.bitXor x y=z):gU (.int x) (.int y)=some (.int z):=by rw[<-h];rfl
theorem Eu:∀u v:List Int,ax u->ax v->(u.zip v).map (λq=>Builtin.bitXor q.1 q.2)=eI u v
 |[],_,_,_=>rfl
 |_::_,[],_,_=>rfl
 | a::u,b::v,hu,hv=>by
  have ih:=Eu u v (λx hx=>hu x (j9 _ hx)) λx hx=>hv x (j9 _ hx);have h1:Builtin.bitXor a b=if a=b then 0 else 1:=by rcases hu a ja with rfl|rfl<;>rcases hv b ja with rfl|rfl<;>decide
  rw[List.zip_cons_cons,jo,ih,h1];rfl
theorem Fc:∀{u v:List Int},u.length=v.length->eI u v=List.replicate u.length 0->u=v
 |[],[],_,_=>rfl
 |[],_::_,h,_=>by simp at h
 |_::_,[],h,_=>by simp at h
 | a::u,b::v,hl,h=>by
  have h':(if a=b then(0:Int)else 1)::eI u v=0::List.replicate u.length 0:=h;have h1:(if a=b then(0:Int)else 1)=0:=(List.cons.inj h').1;have h2:=(List.cons.inj h').2;by_cases z:a=b
  ·rw[z,Fc (by simpa using hl) h2]
  ·rw[if_neg z]at h1;cases h1
section
variable{r:Int}{U:List Int}{G:List (List Int)}{e:Str}{n:Nat}
theorem qtw(ok:q2a r U G e)(hn:n<=60)(hr:e="ring"->r.toNat<=n){w:List Int}(ns:List Int)
 (w4:∀x,ax x->x.length=n->x≠List.replicate n 0->cr ((bM r U G e x).sum,x) ((bM r U G e w).sum,w)=false) (A t:D) (k:Nat) (v6 v7 v8 v9 v10:Option D):
 ∃w6 w7 w8 w9 w10,rQ [some (.lst (ns.map D.int)),some A,some (aw r U G e),some (.int n),some (.tup [.int (bM r U G e w).sum,.lst (w.map D.int)]),some (.int k),v6,v7,v8,v9,v10,some t]=some (.nx [some (.lst (ns.map D.int)),some A,some (aw r U G e),some (.int n),some (.tup [.int (bM r U G e w).sum,.lst (w.map D.int)]),some (.int k),w6,w7,w8,w9,w10,some t]):=by
 have z4:=jU ok;obtain⟨c,hc⟩:=xW ns (k:Int) (by omega);have hs:=xF c 2 (by decide);generalize (c % 10^60*7368787+1000003*2+17) % 2305843009213693951=s at hs;obtain⟨ys,s2,c1,c2,c3⟩:=p8 (n:=1) (p:=6) (q:=1) (js:=[6]) (fg:=ai 0) (fe:=gE f_y40 1 (am (ae (.int 2)) ag))
  (λs:Int=>[some (.lst (ns.map D.int)),some A,some (aw r U G e),some (.int n),some (.tup [.int (bM r U G e w).sum,.lst (w.map D.int)]),some (.int k),some (.lst [.int s]),v7,v8,v9,v10,some t]) (λy=>∃t:Int,y=.int t/\(t=0∨t=1)) (cY 0 n) (λx _ s=>by have d0:=mD s (m:=2) (by decide);have d2:=mB s (m:=2) (by decide);exact⟨[some x,some (.lst [.int s])],[some x,some (.lst [.int (eV s)])],.int (db s 2),eV s,rfl,b7e,rfl,_,rfl,by omega⟩) s
 obtain⟨u,rfl,hu⟩:=pX c3;rw[j3,gq]at c2;obtain⟨zs,s3,d1,d2,d3⟩:=p8 (n:=1) (p:=6) (q:=1) (js:=[6]) (fg:=ai 0) (fe:=af gU (aa 0) B1)
  (λs:Int=>[some (.lst (ns.map D.int)),some A,some (aw r U G e),some (.int n),some (.tup [.int (bM r U G e w).sum,.lst (w.map D.int)]),some (.int k),some (.lst [.int s]),some (.lst (u.map D.int)),v8,v9,v10,some t]) (λy=>∃t:Int,y=.int t/\(t=0∨t=1)) (u.map D.int) (λx hx s=>by
    obtain⟨b,hb,rfl⟩:=List.mem_map.mp hx;refine⟨[some (.int b),some (.lst [.int s])],[some (.int b),some (.lst [.int (eV s)])],.int (Builtin.bitXor b (if(db s 4==0)=true then 1 else 0)),eV s,rfl,b8e rfl (C2 rfl),rfl,_,rfl,?_⟩;rcases hu b hb with rfl|rfl
    ·split<;>decide
    ·split<;>decide) s2
 obtain⟨v,rfl,hv⟩:=pX d3;rw[j3,j3]at d2;have bu:ax u:=hu;have bv:ax v:=hv;have lv:v.length=n:=by omega
 have su:=sZ ok u bu (by rw[c2];exact hr) (by omega);have sv:=sZ ok v bv (by rw[lv];exact hr) (by omega);have lsu:(bM r U G e u).length<=1000:=by
  have h1:=tE ok (n+az r e);have h2:(bM r U G e u).length=(bn U G (n+az r e)).length:=by unfold bM;rw[c2];exact(yB u _).symm
  omega
 have hz:dn ((bM r U G e u).map D.int) ((bM r U G e v).map D.int)=((bM r U G e u).zip (bM r U G e v)).map λq=>D.tup [.int q.1,.int q.2]:=by rw[xX,tS,jg];rfl
 have bsu:ax (bM r U G e u):=t7;have bsv:ax (bM r U G e v):=t7;have cx:=gC (n:=2) (js:=[]) (fg:=eQ 2 (cT (ai 0) (cT (ai 1) e9))) (fe:=af gU (aa 0) (aa 1)) (ρ:=[some (.lst (ns.map D.int)),some A,some (aw r U G e),some (.int n),some (.tup [.int (bM r U G e w).sum,.lst (w.map D.int)]),some (.int k),some (.lst [.int s3]),some (.lst (u.map D.int)),some (.lst (v.map D.int)),some (.lst ((bM r U G e v).map D.int)),v10,some t])
  (λd=>match d with|.tup [.int a,.int b]=>.int (Builtin.bitXor a b)|d=>d) (((bM r U G e u).zip (bM r U G e v)).map λq=>D.tup [.int q.1,.int q.2]) (λx hx=>by obtain⟨q,_,rfl⟩:=List.mem_map.mp hx;exact⟨[some (.int q.1),some (.int q.2)],rfl,AL (C2 rfl)⟩)
 have ex:(((bM r U G e u).zip (bM r U G e v)).map λq=>D.tup [.int q.1,.int q.2]).map (λd=>match d with|.tup [.int a,.int b]=>D.int (Builtin.bitXor a b)|d=>d)=(eI (bM r U G e u) (bM r U G e v)).map D.int:=by rw[<-Eu _ _ bsu bsv,jg,jg];rfl
 rw[ex]at cx;have eu:eI (bM r U G e u) (bM r U G e v)=bM r U G e (eI u v):=by unfold bM;rw[xE (by omega),lv,c2,qfv bu bv (by omega)]
 have lz:(((bM r U G e u).zip (bM r U G e v)).map λq=>D.tup [.int q.1,.int q.2]).length<=sizeLine:=by rw[j3,xy];exact dy (by omega)
 have hI:=lR (b7r (.lst (ns.map D.int)) A (aw r U G e) (.tup [.int (bM r U G e w).sum,.lst (w.map D.int)]) (.int k) (.lst [.int s]) t (n:Int) v7 v8 v9 v10) (by omega) (by omega);rw[jq]at hI;have h11:∀FX,(cR B2 FX aX) [some (.lst (ns.map D.int)),some A,some (aw r U G e),some (.int n),some (.tup [.int (bM r U G e w).sum,.lst (w.map D.int)]),some (.int k),some (.lst [.int s3]),some (.lst (u.map D.int)),some (.lst (v.map D.int)),some (.lst ((bM r U G e v).map D.int)),some (.int (eI (bM r U G e u) (bM r U G e v)).sum),some t]=some (.nx [some (.lst (ns.map D.int)),some A,some (aw r U G e),some (.int n),some (.tup [.int (bM r U G e w).sum,.lst (w.map D.int)]),some (.int k),some (.lst [.int s3]),some (.lst (u.map D.int)),some (.lst (v.map D.int)),some (.lst ((bM r U G e v).map D.int)),some (.int (eI (bM r U G e u) (bM r U G e v)).sum),some t]):=λFX=>by
  by_cases q:u=v
  ·exact qv6 (by rw[ED,decide_eq_true q])
  ·refine qv5 (by rw[ED,decide_eq_false q]) ?_;rw[eu];have hx:=w4 (eI u v) (Fb _ _) (by rw[xE (by omega),c2]) (λz=>q (Fc (by omega) (by rw[z,c2])));unfold cr lQ at hx;simp only at hx;by_cases z:(bM r U G e (eI u v)).sum=(bM r U G e w).sum
   ·omega
   ·rw[if_neg z]at hx;simpa using hx
 exact⟨_,_,_,_,_,(bN (b6 _ _ _ _ _ _ _ _ _ _ _ _ _ _ hc hs)).trans<|(bN (b7 (by rw[gq];exact dy (by omega)) hI c1)).trans<|
  (bN (b8 (by rw[j3];exact dy (by omega)) d1)).trans<|(bN (b9 sv)).trans<|
  (bN (b10 su hz lz cx (gN _) rfl)).trans<|h11 _⟩
theorem qtx(P0:Addr)(ok:q2a r U G e)(hn:n<=60)(hn1:1<=n)(hr:e="ring"->r.toNat<=n)(ns:List Int)(h63:ns.length<=63)(A:D):∃ρ,
 (av (aA 4 (jN 11 P0 dF dE (f_y37 P0) (am (aa 2) (am (aa 3) ag)))) (av Bd (av Bc (av (bA (fD (am (jY (λi j=>if j<i then j else i) uy) ag)) (ai 5)
 rQ) BH)))) [some (.lst (ns.map D.int)),some A,some (aw r U G e),some (.int n),none,none,none,none,none,none,none,some (.tab P0 dF dE)]=some (.rt (.bl true) ρ):=by
 obtain⟨w,ha,w1,w2,w3,w4⟩:=qvt P0 ok hr hn hn1;have hs:=sZ ok w w1 (by rw[w2];exact hr) (by omega);have hne:(w.sum==0)=false:=beq_eq_false_iff_ne.mpr λz=>w3 (by rw[<-w2];exact E8 w w1 z);obtain⟨m,hm⟩:∃m:Int,(if(60:Int)<((ns.map D.int).length:Nat)then(60:Int)else((ns.map D.int).length:Nat))=m:=⟨_,rfl⟩;have m0:0<=m/\m<=60:=by rw[j3]at hm;split at hm<;>omega
 have hI:=lR (Af (ns.map D.int) A (aw r U G e) (.int n) (.tup [.int (bM r U G e w).sum,.lst (w.map D.int)]) (.tab P0 dF dE) m hm) (by omega) (by omega);obtain⟨ρ',f1,v5,v6,v7,v8,v9,v10,hρ⟩:=wJ (fg:=ai 5) (fb:=rQ)
  (λρ=>∃v5 v6 v7 v8 v9 v10,ρ=[some (.lst (ns.map D.int)),some A,some (aw r U G e),some (.int n),some (.tup [.int (bM r U G e w).sum,.lst (w.map D.int)]),v5,v6,v7,v8,v9,v10,some (.tab P0 dF dE)]) (cY 0 m.toNat)
  [some (.lst (ns.map D.int)),some A,some (aw r U G e),some (.int n),some (.tup [.int (bM r U G e w).sum,.lst (w.map D.int)]),none,none,none,none,none,none,some (.tab P0 dF dE)] ⟨none,none,none,none,none,none,rfl⟩ (by rintro x ρ hx ⟨v5,v6,v7,v8,v9,v10,rfl⟩;obtain⟨k,hk⟩:=List.mem_iff_getElem?.mp hx;obtain⟨_,rfl⟩:=jW hk;rw[Int.zero_add];obtain⟨w6,w7,w8,w9,w10,h⟩:=qtw ok hn hr ns w4 A (.tab P0 dF dE) k v6 v7 v8 v9 v10;exact⟨_,_,rfl,.inl h,_,_,_,_,_,_,rfl⟩)
 subst hρ;have hnl:=qe0 ok hn hr w1 w2 w4;exact⟨_,(bN (l6 _ _ _ _ _ _ _ (tM (Ag) rfl ha))).trans<|(bN (l7 (qu _))).trans<|(bN (l8 (qjc w w1 n w2 (by omega)) (gN _) rfl hne hs (gN _) rfl)).trans<|
  (bN (l9 hI f1)).trans<|l10 (by rw[j3]) hs hnl⟩
end
theorem jF{P0:Addr}(ns:List Int)(h:ns.length<=63):f_law P0 [.lst (ns.map D.int)]=some (.bl true):=by
 obtain⟨c,hc⟩:=xW ns 0 (by decide);have hs:=xF c 0 (by decide);generalize (c % 10^60*7368787+1000003*0+17) % 2305843009213693951=s at hs;obtain⟨r,U,G,e,s',hsch,ok⟩:=qb6 s;obtain⟨c1,hc1⟩:=xW ns 1 (by decide);have hs1:=xF c1 1 (by decide);generalize (c1 % 10^60*7368787+1000003*1+17) % 2305843009213693951=s1 at hs1;have d0:=mD s1 (m:=16) (by decide);have d16:=mB s1 (m:=16) (by decide);have hnx:=kC s1 16 (by decide);obtain⟨e',ok',h3⟩:∃e',q2a r U G e'/\uW [some (.lst (ns.map D.int)),some (.lst [.int s']),some (aw r U G e),none,none,none,none,none,none,none,none,some (.tab P0 dF dE)]=some (.nx [some (.lst (ns.map D.int)),some (.lst [.int s']),some (aw r U G e'),none,none,none,none,none,none,none,none,some (.tab P0 dF dE)]):=by
  by_cases q:e="ring"
  ·by_cases z:2<r
   ·exact⟨"ended",{ok with en:=.inr (.inl rfl)},Ak (by decide) (by rw[q];exact iG) z⟩
   ·exact⟨e,ok,Al (by rw[q];exact iG) z⟩
  ·refine⟨e,ok,qwz ?_⟩;rcases ok.en with g|g|g
   ·rw[g];exact i9
   ·rw[g];exact jp
   ·exact absurd g q
 obtain⟨n,n1,n60,hr,h5⟩:∃n:Nat,1<=n/\n<=60/\(e'="ring"->r.toNat<=n)/\(cR n6
  (aA 3 (jY (λi j=>if j>i then j else i) uE))
  aX) [some (.lst (ns.map D.int)),some (.lst [.int s']),some (aw r U G e'),some (.int (1+db s1 16)),none,none,none,none,none,none,none,some (.tab P0 dF dE)]=some (.nx [some (.lst (ns.map D.int)),some (.lst [.int s']),some (aw r U G e'),some (.int n),none,none,none,none,none,none,none,some (.tab P0 dF dE)]):=by
  have r0:=ok'.r0;have r4:=ok'.r4;by_cases q:e'="ring"
  ·obtain⟨m,hm⟩:∃m,(if r>1+db s1 16 then r else 1+db s1 16)=m:=⟨_,rfl⟩;have hm':1<=m/\m<=60/\r<=m:=by split at hm<;>omega
   refine⟨m.toNat,by omega,by omega,λ_=>by omega,?_⟩;rw[Int.toNat_of_nonneg (by omega)];exact Ah (by rw[q];exact iG) hm
  ·refine⟨(1+db s1 16).toNat,by omega,by omega,λz=>absurd z q,?_⟩;rw[Int.toNat_of_nonneg (by omega)];refine qwy ?_;rcases ok'.en with g|g|g
   ·rw[g];exact i9
   ·rw[g];exact jp
   ·exact absurd g q
 obtain⟨ρ,hb⟩:=qtx P0 ok' n60 n1 hr ns h (.lst [.int s']);exact xU rfl (by decide) ⟨ρ,(bN (l1 _ _ _ _ hc hs)).trans<|(bN (l2 _ _ _ _ _ (by decide) hsch)).trans<|(bN h3).trans<|
  (bN (l4 (qiu (Aj hc1 hs1) (Ai) hnx))).trans<|(bN h5).trans hb⟩
theorem qtv{P:Program}{w:World}{K mg a base}(T:Txt K mg a):FnOk P w K mg base bB 9 a.f_law a.fd_law ["_law_script"] (sX K a.t_y36 dF dE 63):=qoo (qt7 T) jF
local macro_rules|`(tactic|walk_at "k")=>`(tactic|as_aux_lemma=>kernel_rfl)
local macro_rules|`(tactic|walk_at "f")=>`(tactic|exact quc (oc:=.type "function") (od:=none) (osl:=#[]) (by walk_at "k") (by walk_at "k") (by walk_at "k"))
local macro_rules|`(tactic|walk_at "g")=>`(tactic|exact qow (oc:=.type "function") (od:=none) (osl:=#[]) (by walk_at "k") (by walk_at "k") (by walk_at "k"))
local macro_rules|`(tactic|walk_at "b")=>`(tactic|first|exact(.all λus hl=>match us,hl with|[_],_=>rfl)|exact(.all λus hl=>match us,hl with|[_,_],_=>rfl)|exact(.all λus hl=>match us,hl with|[_,_,_],_=>rfl)|exact(.all λus hl=>match us,hl with|[_,_,_,_],_=>rfl)|exact(.all λus hl=>match us,hl with|[_,_,_,_,_],_=>rfl))
local macro_rules|`(tactic|walk_at "kb")=>`(tactic|first|exact q6s|exact q2k (by decide+kernel) (by walk_at "k") (by decide+kernel))
abbrev nf(x:Str)(s:Stmt)(pm:Value)(c:Addr):FuncData:=W.fnOf x x (ie s) (fJ s) (aN s) .none (.none) (.none) pm none (.ref c) (.none)
noncomputable def ad:Ad:=⟨169,195,228,58,65,72,77,82,89,96,103,110,117,124,152,166,192,211,225,237,244,249,254,261,266,271,276,283,288,293,301,308,315,320,327,332,339,345,352,359,366,373,378,385,390,397,404,411,416,423,428,433,438,334,338,nf "rooms_at" nh H27.zm1 57,nf "rooms" ng H27.zm1 64,nf "parity" m9 H27.zm1 71,nf "step" kU H27.zm1 76,nf "sent_at" kT H27.zm1 81,nf "is_ring" m8 H27.zm2 88,nf "check_size" m7 H27.zm2 95,nf "bits_behind" m5 H27.zm2 102,nf "first_rooms" m4 H27.zm2 109,nf "steps_of" mZ H27.zm2 116,nf "places_of" wa H27.zm2 123,(W.fnOf "__init__" "Clear.__init__" (ie pq) (fJ pq) (aN pq) .none (.none) (.none) H27.zm3 none (.ref 151) (.none)),(W.fnOf "cost" "Clear.cost" (ie pr) (fJ pr) (aN pr) .none (.none) (.none) H27.zm3 none (.ref 165) (.none)),(W.fnOf "cost" "Gap.cost" (ie px) (fJ px) (aN px) .none (.none) (.none) H27.zm3 none (.ref 191) (.none)),(W.fnOf "__init__" "Soft.__init__" (ie pz) (fJ pz) (aN pz) .none (.none) (.none) H27.zm3 none (.ref 210) (.none)),(W.fnOf "cost" "Soft.cost" (ie pA) (fJ pA) (aN pA) .none (.none) (.none) H27.zm3 none (.ref 224) (.none)),nf "sign_of" wb H27.zm3 236,nf "check_heard" wc H27.zm4 243,nf "signs_cost" sA H27.zm4 248,nf "signs_by_step" sB H27.zm4 253,nf "move" wd H27.zm4 260,nf "moves_from" sC H27.zm4 265,nf "moves" sE H27.zm4 270,nf "end_costs" sF H27.zm4 275,nf "cost_by" wg H27.zm4 282,nf "least_by" pJ H27.zm4 287,nf "ahead_by" sG H27.zm4 292,(W.fnOf "ahead" "ahead" (ie pB) (fJ pB) (aN pB) (.ref 294) (.none) (.none) H27.zm4 none (.ref 300) (.none)),nf "ahead_by_start" wj H27.zm4 307,nf "cost_of_track" wk H27.zm5 314,nf "beginning" pK H27.zm5 319,nf "track_on" wl H27.zm5 326,nf "beginning_on" sH H27.zm5 331,nf "first_ones" wm H27.zm5 338,(W.fnOf "few" "few" (ie mx) (fJ mx) (aN mx) (.ref 340) (.none) (.none) H27.zm5 none (.ref 344) (.none)),nf "apart" wo (.str "trellisway.apart" 613) 351,nf "_law_cell_at" wq H27.zm0 358,nf "_law_state" wt H27.zm0 365,nf "_law_next" wu H27.zm0 372,nf "_law_scheme" pL H27.zm0 377,nf "_law_odd" wv H27.zm0 384,nf "_law_step" pM H27.zm0 389,nf "_law_start" ww H27.zm0 396,nf "_law_sent" wx H27.zm0 403,nf "_law_whole" wy H27.zm0 410,nf "_law_is_word" sI H27.zm0 415,nf "_law_from" wz H27.zm0 422,nf "_law_leaving" sJ H27.zm0 427,nf "_law_none_less" sK H27.zm0 432,nf "law" ou H27.zm0 437⟩
theorem txt{P:Params}{h:Heap}{mg:Str->Option Value}{fa:Addr}(X:(H27.KH P).In h)(G:h.Ns mainGlobals mg)(hfa:mg "law"=some (.ref fa)):∃a:Ad,Txt (H27.KH P) mg a/\a.f_law=fa/\a.t_y36=334/\∀(s:Shared) (v:Value),BindsTo s a.fd_law ⟨[v],[]⟩ [("_law_script",v)]:=by have e0:438=fa:=Value.ref.inj (jb ((W.mg_of X G (show W.nsIn (H27.KH P) mainGlobals "law"=some (some (.ref 438))from by walk_at "k")).symm.trans hfa));subst e0;have g {x:Str} {v:Value} (h:W.nsIn (H27.KH P) mainGlobals x=some (some v)):mg x=some v:=W.mg_of X G h;refine⟨ad,?_,rfl,rfl,λs v=>.of_eq rfl⟩;constructor<;>first|exact⟨by walk_at "f",by walk_at "b",g (by walk_at "k")⟩|exact W.mg_none_of X G (by walk_at "k")|exact g (by walk_at "k")|walk_at "f"|walk_at "g"|walk_at "b"|exact(Dc (ps:=nX) rfl (show(H27.KH P).lookup 294=some ⟨(.type "tuple"),none,.seq #[.int 0 543] 0,#[]⟩from by walk_at "k") λus hl=>match us,hl with|[_,_,_,_],_=>⟨_,rfl,rfl⟩)|exact(Dc (ps:=rD) rfl (show(H27.KH P).lookup 340=some ⟨(.type "tuple"),none,.seq #[.int 2 606] 0,#[]⟩from by walk_at "k") λus hl=>match us,hl with|[_,_,_,_],_=>⟨_,rfl,rfl⟩)|exact show W.findIn (H27.KH P) (.ref 169) "bit"=some none from by walk_at "k"|exact show W.findIn (H27.KH P) (.ref 228) "one"=some none from by walk_at "k"|exact show W.findIn (H27.KH P) (.ref 228) "zero"=some none from by walk_at "k"|rfl|exact(show∀h:Heap,(H27.KH P).In h->W.CodeHd h 338 334 from Fn (o:=H27.cO "first_ones" 598 "first_ones" 599 600 146 2 3 333 181 334 335 336 337 603 146 604) (by walk_at "k") rfl rfl rfl rfl rfl rfl rfl rfl (by decide))|exact(show∀h:Heap,(H27.KH P).In h->h.BuiltinsAt mg 334 from q9p (bm:=4) (g (by walk_at "k")) (by walk_at "k") (by decide) (by decide) (by decide))|exact q9e (by walk_at "kb") (by walk_at "kb") (by walk_at "kb") (by walk_at "kb") (by walk_at "kb") (by walk_at "kb") (by walk_at "kb")|(refine⟨?_,?_,?_⟩<;>walk_at "k")|(refine⟨?_,?_,?_,?_⟩<;>walk_at "k")|walk_at "k"
theorem two_of{P:Params}{h:Heap}(Y:(H27.KHP P).In h):(H27.KH P).In h/\h.get? 334=some {cls:=.none,data:=.fields #[]}:=⟨λa o e=>Y a o (by show(H27.KH P++_).lookup a=_;rw[List.lookup_append,e];rfl),Y _ _ (show(H27.KHP P).lookup 334=some ⟨.none,none,.fields #[],#[]⟩from by walk_at "k")⟩
theorem no_table:∀P,(H27.KH P).lookup 334=none:=λP=>by walk_at "k"
theorem head_at:∀P (h:Heap),(H27.KH P).In h->W.CodeHd h 338 334:=λP=>Fn (o:=H27.cO "first_ones" 598 "first_ones" 599 600 146 2 3 333 181 334 335 336 337 603 146 604) (by walk_at "k") rfl rfl rfl rfl rfl rfl rfl rfl (by decide)
theorem walk{l:W.OpenLaw}{q:Program}{loose:List Str}{XP:(Str->Option Value)->Heap->Prop}{YP:World->Heap->Prop}{d:DefRec}{K:Params->W.Frag}{P0 c:Addr}(hn:l.most=some 63)(hdf:d.params.defaults=[])(hd:d.name="law")
 (hY:∀(w:World) (h:Heap),YP w h->(K w.params).In h/\h.get? P0=some {cls:=.none,data:=.fields #[]}) (hKP:∀P,(K P).lookup P0=none) (hcd:∀P (h:Heap),(K P).In h->W.CodeHd h c P0)
 (F:∀(w:World) (mg:Str->Option Value) (fa:Addr) (h:Heap),(K w.params).In h->h.Ns mainGlobals mg->mg "law"=some (.ref fa)->∃a:Ad,Txt (K w.params) mg a/\a.f_law=fa/\a.t_y36=P0/\∀(s:Shared) (v:Value),BindsTo s a.fd_law ⟨[v],[]⟩ [("_law_script",v)]):
 W.WalkO q loose XP YP l.row.toRowW d [] (λf vs=>PySem.call f vs):=
 L2.walk_ofL (n:=63) (k:=9) (x:="_law_script") (lp:=dF) (qn:=dE) hn (by decide) hdf ⟨rfl,by decide,by decide⟩ hY hKP hcd
  (λw mg fa h KX G hm=>by rw[hd]at hm;obtain⟨a,T,e,e2,b⟩:=F w mg fa h KX G hm;subst e e2;exact⟨a.fd_law,b,λbase _ _=>qtv T⟩)
end K27
open PySem PySem.W PyProof.Rows
set_option maxRecDepth 100000 in
set_option maxHeartbeats 0 in
theorem PySem.Challenge.cw_trellisway_k27_whole_distance_is_least_holds : PySem.Challenge.rw_trellisway_k27_whole_distance_is_least.Holds := by
 w_on;o_law
 refine holds_open (r:=PySem.Challenge.rw_trellisway_k27_whole_distance_is_least.row) (q:=H27.V) (loose:=["ahead","few"]) (Xt:=(λs=>xlAt H27.V [] s&&recOk (RowW.records (OpenRow.toRowW PySem.Challenge.rw_trellisway_k27_whole_distance_is_least.row)) s)) (XP:=XL H27.V []) (Yf:=Hook.obs (kHook H27.KHP H27.KA H27.ka_eq)) (Ya:=Hook.val (kHook H27.KHP H27.KA H27.ka_eq)) (YP:=Hook.says (kHook H27.KHP H27.KA H27.ka_eq)) (N:=6278) H27.leftR (Hook.of (kHook H27.KHP H27.KA H27.ka_eq)) (Hook.keeps (kHook H27.KHP H27.KA H27.ka_eq)) (λs e=>xl_of s (Bool.and_eq_true_iff.mp e).1) XL.keeps (by rfl) (by rfl) (by rfl) (λs e=>recFacts_of (Bool.and_eq_true_iff.mp e).2) (by rfl) (by first|assumption|decide+kernel) (by decide+kernel) ⟨rfl,rfl,rfl,rfl,rfl,by decide+kernel⟩ ?hw ?hc
 case hw=>w_witness2
 case hc=>exact K27.walk (l:=PySem.Challenge.rw_trellisway_k27_whole_distance_is_least) rfl rfl rfl (λw h Y=>K27.two_of (PySem.W.kIn_of Y)) K27.no_table K27.head_at λw mg fa h KX G hmg=>K27.txt KX G hmg
