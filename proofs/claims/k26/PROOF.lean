import PyProof.Rows.All
import Wide.All
import OpenK.AllK
import Wide.FinOn
import Lean
import KE.KTryMore
import KE.KSortTup
import KE.KRevIter
import KE.KMinKey
import KE.KLam
import KE.KIntText
import PyProof.EqAt
import PyProof.EqKinds
import PyProof.TupleCall
import PySem.Challenge.RW_trellisway_k26_distance_told
set_option Elab.async false
set_option linter.all false
set_option hygiene false
set_option compiler.extract_closed false
set_option bootstrap.genMatcherCode false
set_option maxRecDepth 100000
set_option maxHeartbeats 4000000
noncomputable section
abbrev am:=PySem.W.Frag
abbrev zlw:PySem.Str:="law_trellisway_k26_distance_told"
namespace H26
open PySem PySem.W
abbrev zr:=Challenge.rw_trellisway_k26_distance_told
abbrev zp:=Challenge.pw_trellisway_k26_distance_told
noncomputable def qS(tb:String->Option Builtin)(p:Program)(w:World)(n₀:Nat)(ann:Option Value):Nat->SharedT->Thread->Option SharedT
 |0,_,_=>none
 | n+1,s,t=>match through t with
  |true=>some s
  | false=>match stepOk n₀ ann t with
   |false=>none
   | true=>match stepT (denote tb) p w s t with
    |some (s',t')=>qS tb p w n₀ ann n s' t'
    |none=>none
theorem Hn{tb:String->Option Builtin}{p:Program}{w:World}{n₀:Nat}{ann:Option Value}:∀{n:Nat} {s s':SharedT} {t:Thread},qS tb p w n₀ ann n s t=some s'->topRun tb p w n₀ ann n s.abs t=some s'.abs
 |0,_,_,_,h=>by cases h
 | n+1,s,s',t,h=>by
  unfold qS at h;unfold topRun;split at h
  .rename_i q;rw[q];cases h;rfl
  .rename_i q;rw[q];split at h
   .cases h
   .rename_i q2;dsimp only;rw[q2];split at h
    .rename_i s1 t1 q3;dsimp only;rw[stepT_spec q3];exact Hn h
    .cases h
noncomputable def D4:List Obj->Nat->BT->BT
 |[],_,t=>t
 |o::r,n,t=>D4 r (n+1) (t.ins n o)
noncomputable def wI(P:Params)(os:OsState):SharedT:=⟨D4 (boot_heap P).objs.toList 0 .nil,(boot_heap P).objs.size,(boot_heap P).life,Array.mk [],boot_drawn,boot_toks,os⟩
theorem qjp(P:Params)(os:OsState):(wI P os).abs=⟨boot_heap P,Array.mk [],boot_drawn,boot_toks,os⟩:=by kernel_rfl
theorem qin{p q:Program}{loose:List Str}{Xt:Shared->Bool}{α:Type}{Yf:Shared->α}{Ya:World->α}{N m₀:Nat}{ann:Option Value}(e:opening p=plainProg p.main.scope.names)(hN:Nat.ble 600 N=true)(f:∀s,fenceModules? p s=some s)
 (size:∀P:Params,((boot_heap P).isNs mainGlobals,(boot_heap P).objs.size,(boot_heap P).nsMap mainGlobals "__annotations__")=(true,m₀,ann))
 (run:∀(w:World) (os:OsState),(qS treeTable p w m₀ ann N (wI w.params os) (topStub p)).map (λs=>(staticsOk (importedModules p.main.body) (boot_heap w.params) s.abs.heap&&namesBound p s.abs.heap&&gensDone s.abs&&laidKept (boot_heap w.params) s.abs.heap,
   openSeen q loose (importedModules p.main.body) Xt true s.abs,Yf s.abs))=some (true,openGood q loose,Ya w)):LeftO p q loose Xt Yf Ya N:=λw=>by
 let⟨⟨h,gs,d,k,os⟩,e,e'⟩:=Option.map_eq_some_iff.mp (boot_open e hN f w);obtain⟨rfl,rfl,rfl,rfl⟩:h=boot_heap w.params/\gs=Array.mk []/\d=boot_drawn/\k=boot_toks:=by simpa using e'
 obtain⟨z1,z2,z3⟩:_/\_/\_:=by simpa only[Prod.mk.injEq]using size w.params
 let⟨s,r,l⟩:=Option.map_eq_some_iff.mp (run w os);obtain⟨l1,l2,l3⟩:_/\_/\_:=by simpa only[Prod.mk.injEq]using l
 have r:=Hn r;rw[qjp]at r;have t:topFrom treeTable p w N ⟨boot_heap w.params,Array.mk [],boot_drawn,boot_toks,os⟩=some s.abs:=by unfold topFrom;dsimp only;rw[z1,z2,z3,r];show(match staticsOk (importedModules p.main.body) (boot_heap w.params) s.abs.heap&&namesBound p s.abs.heap&&gensDone s.abs&&laidKept (boot_heap w.params) s.abs.heap with|true=>_|false=>_)=_;rw[l1]
 unfold openEnds;rw[e];show(topFrom treeTable p w N _).map _=_;rw[t];exact congrArg some (Prod.ext l2 l3)
noncomputable def tp(i:Nat):Stmt:=zp.main.body.getD i (.Pass ⟨0,0,0,0⟩)
noncomputable def ic(s:Stmt)(j:Nat):Stmt:=match s with
 |.ClassDef _ _ _ b _ _ _ _ _ _ _=>b.getD j (.Pass ⟨0,0,0,0⟩)
 |_=>.Pass ⟨0,0,0,0⟩
noncomputable def dA(s:Stmt):Arguments:=match s with
 |.FunctionDef _ a _ _ _ _ _ _ _ _=>a
 |_=>{posonlyargs:=[],args:=[],vararg:=none,kwonlyargs:=[],kw_defaults:=[],kwarg:=none,defaults:=[]}
noncomputable def dB(s:Stmt):List Stmt:=match s with
 |.FunctionDef _ _ b _ _ _ _ _ _ _=>b
 |_=>[]
noncomputable def dS(s:Stmt):Scope:=match s with
 |.FunctionDef _ _ _ _ _ _ sc _ _ _=>sc
 |_=>{kind:=.function,names:=[],isGenerator:=false,isCoroutine:=false}
def V:Program:={zp with main:={zp.main with body:=[tp 1,tp 2,tp 3,tp 5,tp 6,tp 7,tp 8,tp 9,tp 11,tp 12,tp 13,tp 14,tp 15,tp 16,tp 18,tp 19,tp 20,tp 21,tp 22,tp 24,tp 25,tp 26,tp 27,tp 28,tp 29,tp 30,tp 31,tp 32,tp 33,tp 34,tp 36,tp 37,tp 38,tp 39,tp 40,tp 43,tp 45,tp 46,tp 47,tp 48,tp 49,tp 50,tp 51,tp 52,tp 53,tp 54,tp 55,tp 56,tp 57]}}
abbrev zm0:Value:=.str zlw 614
abbrev zm1:Value:=.str "trellisway.schemes" 239
abbrev zm2:Value:=.str "trellisway.sending" 276
abbrev zm3:Value:=.str "trellisway.signs" 326
abbrev zm4:Value:=.str "trellisway.costs" 468
abbrev zm5:Value:=.str "trellisway.few" 553
noncomputable def eS(P:Params)(x:Str)(t:Nat)(v:Value):DictEntry:=⟨PyData.keyHash P x,.str x t,v⟩
def fO(x:Str)(s:Stmt)(pm:Value)(cd:Nat):Obj:=⟨.type "function",none,.func (W.fnOf x x (dA s) (dB s) (dS s) .none .none .none pm none (.ref cd) .none),#[]⟩
def eR(P:Params)(x:Str)(t:Nat)(n:Addr):DictEntry:=eS P x t (.ref n)
noncomputable def cN(x:Str)(t:Nat)(y:Str)(u a2 a3 a4 a7 a8 a10 a11 a15 a16 a17 a18:Nat):Obj:=⟨.type "code",none,.fields #[.str x t,.str y u,.str "/claim/cut.py" a2,.int a3 0,.int a4 0,.int 0 0,.int 0 0,.int a7 0,.ref a8,.bool true,.int a10 0,.ref a11,.none,.none,.none,.ref a15,.int a16 0,.int a17 0,.str "/claim/cut.py" a18],#[]⟩
noncomputable def cO(x:Str)(t:Nat)(y:Str)(u a2 a3 a4 a7 a8 a10 a11 a13 a14 a15 a16 a17 a18:Nat):Obj:=⟨.type "code",none,.fields #[.str x t,.str y u,.str "/claim/cut.py" a2,.int a3 0,.int a4 0,.int 0 0,.int 0 0,.int a7 0,.ref a8,.bool true,.int a10 0,.ref a11,.none,.ref a13,.ref a14,.ref a15,.int a16 0,.int a17 0,.str "/claim/cut.py" a18],#[]⟩
def KH(P:Params):W.Frag:=[(3,⟨.type "dict",none,.dict #[eS P "__name__" 165 zm0,eS P "__doc__" 166 (.none),eS P "__package__" 167 (.none),eS P "__loader__" 168 (.builtin "__main__.__loader__#opaque"),eS P "__spec__" 169 (.none),eR P "__annotations__" 170 6,eR P "__builtins__" 171 4,eS P "__file__" 173 (.str "/claim/cut.py" 172),eS P "__cached__" 174 (.none),eR P "WayError" 206 24,eR P "NoWord" 222 37,eR P "NoSigns" 238 49,eR P "rooms_at" 247 58,eR P "rooms" 254 65,eR P "parity" 263 72,eR P "step" 269 77,eR P "sent_at" 275 82,eR P "is_ring" 284 89,eR P "check_size" 292 96,eR P "bits_behind" 299 103,eR P "first_rooms" 306 110,eR P "steps_of" 314 117,eR P "places_of" 325 124,eR P "Sign" 347 134,eR P "Clear" 387 169,eR P "Gap" 418 195,eR P "Soft" 460 228,eR P "sign_of" 467 237,eR P "check_heard" 479 244,eR P "signs_cost" 485 249,eR P "signs_by_step" 491 254,eR P "move" 503 261,eR P "moves_from" 509 266,eR P "moves" 515 271,eR P "end_costs" 521 276,eR P "cost_by" 530 283,eR P "least_by" 536 288,eR P "ahead_by" 542 293,eR P "ahead_by_start" 552 300,eR P "cost_of_track" 564 307,eR P "beginning" 570 312,eR P "track_on" 580 319,eR P "beginning_on" 586 324,eR P "first_ones" 594 331,eR P "few" 601 337,eR P "apart" 613 344,eR P "_law_cell_at" 623 351,eR P "_law_state" 631 358,eR P "_law_next" 639 365,eR P "_law_scheme" 645 370,eR P "_law_odd" 653 377,eR P "_law_step" 659 382,eR P "_law_start" 669 389,eR P "_law_sent" 682 396,eR P "_law_whole" 689 403,eR P "_law_is_word" 695 408,eR P "_law_words" 701 413,eR P "_law_refused" 710 420,eR P "law" 716 425] 59,#[]⟩),
 (4,⟨.type "module",(some 0),.plain,#[]⟩),
 (23,⟨.type "dict",none,.dict #[eS P "__module__" 196 (.str "trellisway.errors" 187),eS P "__firstlineno__" 200 (.int 2 199),eR P "__static_attributes__" 201 22,eR P "__weakref__" 203 25,eS P "__doc__" 204 (.none)] 3,#[]⟩),
 (24,⟨.type "type",none,.cls ⟨"WayError",[.type "ValueError"],[.ref 24,.type "ValueError",.type "Exception",.type "BaseException",.type "object"],23,"WayError",true,[],[.ref 37,.ref 49],false,none,false⟩,#[some (.ref 15),none,some (.str "WayError" 189),some (.str "WayError" 197),some (.builtin "ValueError.__new__"),some (.bool true)]⟩),
 (36,⟨.type "dict",none,.dict #[eS P "__module__" 214 (.str "trellisway.errors" 187),eS P "__firstlineno__" 218 (.int 4 217),eR P "__static_attributes__" 219 35,eS P "__doc__" 220 (.none)] 2,#[]⟩),
 (37,⟨.type "type",none,.cls ⟨"NoWord",[.ref 24],[.ref 37,.ref 24,.type "ValueError",.type "Exception",.type "BaseException",.type "object"],36,"NoWord",true,[],[],false,none,false⟩,#[some (.ref 28),none,some (.str "NoWord" 207),some (.str "NoWord" 215),some (.builtin "ValueError.__new__"),some (.bool true)]⟩),
 (48,⟨.type "dict",none,.dict #[eS P "__module__" 230 (.str "trellisway.errors" 187),eS P "__firstlineno__" 234 (.int 6 233),eR P "__static_attributes__" 235 47,eS P "__doc__" 236 (.none)] 2,#[]⟩),
 (49,⟨.type "type",none,.cls ⟨"NoSigns",[.ref 24],[.ref 49,.ref 24,.type "ValueError",.type "Exception",.type "BaseException",.type "object"],48,"NoSigns",true,[],[],false,none,false⟩,#[some (.ref 40),none,some (.str "NoSigns" 223),some (.str "NoSigns" 231),some (.builtin "ValueError.__new__"),some (.bool true)]⟩),
 (57,cO "rooms_at" 241 "rooms_at" 242 243 9 1 3 52 181 53 54 55 56 245 9 246),
 (58,fO "rooms_at" (tp 5) zm1 57),
 (64,cO "rooms" 248 "rooms" 249 250 11 1 3 59 181 60 61 62 63 252 11 253),
 (65,fO "rooms" (tp 6) zm1 64),
 (71,cO "parity" 255 "parity" 256 257 13 1 3 66 181 67 68 69 70 261 13 262),
 (72,fO "parity" (tp 7) zm1 71),
 (76,cN "step" 264 "step" 265 266 20 3 3 73 181 74 75 267 20 268),
 (77,fO "step" (tp 8) zm1 76),
 (81,cN "sent_at" 270 "sent_at" 271 272 24 3 3 78 181 79 80 273 24 274),
 (82,fO "sent_at" (tp 9) zm1 81),
 (88,cO "is_ring" 278 "is_ring" 279 280 29 1 3 83 181 84 85 86 87 282 29 283),
 (89,fO "is_ring" (tp 11) zm2 88),
 (95,cO "check_size" 285 "check_size" 286 287 31 2 3 90 181 91 92 93 94 290 31 291),
 (96,fO "check_size" (tp 12) zm2 95),
 (102,cO "bits_behind" 293 "bits_behind" 294 295 34 1 3 97 181 98 99 100 101 297 34 298),
 (103,fO "bits_behind" (tp 13) zm2 102),
 (109,cO "first_rooms" 300 "first_rooms" 301 302 36 1 3 104 181 105 106 107 108 304 36 305),
 (110,fO "first_rooms" (tp 14) zm2 109),
 (116,cO "steps_of" 307 "steps_of" 308 309 38 2 3 111 181 112 113 114 115 312 38 313),
 (117,fO "steps_of" (tp 15) zm2 116),
 (123,cO "places_of" 315 "places_of" 316 317 41 2 3 118 181 119 120 121 122 323 41 324),
 (124,fO "places_of" (tp 16) zm2 123),
 (133,⟨.type "dict",none,.dict #[eS P "__module__" 335 zm3,eS P "__firstlineno__" 339 (.int 48 338),eR P "__static_attributes__" 340 132,eR P "__dict__" 342 135,eR P "__weakref__" 344 136,eS P "__doc__" 345 (.none)] 4,#[]⟩),
 (134,⟨.type "type",none,.cls ⟨"Sign",[.type "object"],[.ref 134,.type "object"],133,"Sign",true,[],[.ref 169,.ref 195,.ref 228],false,none,false⟩,#[none,none,some (.str "Sign" 328),some (.str "Sign" 336),some (.builtin "object.__new__"),some (.bool true)]⟩),
 (151,cO "__init__" 360 "Clear.__init__" 361 362 52 2 3 146 181 147 148 149 150 365 52 366),
 (152,⟨.type "function",none,.func (W.fnOf "__init__" "Clear.__init__" (dA (ic (tp 19) 0)) (dB (ic (tp 19) 0)) (dS (ic (tp 19) 0)) (.none) (.none) (.none) zm3 none (.ref 151) (.none)),#[]⟩),
 (158,cO "told" 368 "Clear.told" 369 370 55 1 3 153 181 154 155 156 157 372 55 373),
 (159,⟨.type "function",none,.func (W.fnOf "told" "Clear.told" (dA (ic (tp 19) 1)) (dB (ic (tp 19) 1)) (dS (ic (tp 19) 1)) (.none) (.none) (.none) zm3 none (.ref 158) (.none)),#[]⟩),
 (165,cO "cost" 375 "Clear.cost" 376 377 58 2 3 160 181 161 162 163 164 380 58 381),
 (166,⟨.type "function",none,.func (W.fnOf "cost" "Clear.cost" (dA (ic (tp 19) 2)) (dB (ic (tp 19) 2)) (dS (ic (tp 19) 2)) (.none) (.none) (.none) zm3 none (.ref 165) (.none)),#[]⟩),
 (168,⟨.type "dict",none,.dict #[eS P "__module__" 355 zm3,eS P "__firstlineno__" 359 (.int 50 358),eR P "__init__" 367 152,eR P "told" 374 159,eR P "cost" 382 166,eR P "__static_attributes__" 384 167,eS P "__doc__" 385 (.none)] 2,#[]⟩),
 (169,⟨.type "type",none,.cls ⟨"Clear",[.ref 134],[.ref 169,.ref 134,.type "object"],168,"Clear",true,[],[],false,none,false⟩,#[some (.ref 139),none,some (.str "Clear" 348),some (.str "Clear" 356),some (.builtin "object.__new__"),some (.bool true)]⟩),
 (184,cO "told" 400 "Gap.told" 401 402 62 1 3 179 181 180 181 182 183 404 62 405),
 (185,⟨.type "function",none,.func (W.fnOf "told" "Gap.told" (dA (ic (tp 20) 0)) (dB (ic (tp 20) 0)) (dS (ic (tp 20) 0)) (.none) (.none) (.none) zm3 none (.ref 184) (.none)),#[]⟩),
 (191,cO "cost" 407 "Gap.cost" 408 409 65 2 3 186 181 187 188 189 190 412 65 413),
 (192,⟨.type "function",none,.func (W.fnOf "cost" "Gap.cost" (dA (ic (tp 20) 1)) (dB (ic (tp 20) 1)) (dS (ic (tp 20) 1)) (.none) (.none) (.none) zm3 none (.ref 191) (.none)),#[]⟩),
 (194,⟨.type "dict",none,.dict #[eS P "__module__" 395 zm3,eS P "__firstlineno__" 399 (.int 60 398),eR P "told" 406 185,eR P "cost" 414 192,eR P "__static_attributes__" 415 193,eS P "__doc__" 416 (.none)] 2,#[]⟩),
 (195,⟨.type "type",none,.cls ⟨"Gap",[.ref 134],[.ref 195,.ref 134,.type "object"],194,"Gap",true,[],[],false,none,false⟩,#[some (.ref 172),none,some (.str "Gap" 388),some (.str "Gap" 396),some (.builtin "object.__new__"),some (.bool true)]⟩),
 (210,cO "__init__" 431 "Soft.__init__" 432 433 69 3 3 205 181 206 207 208 209 437 69 438),
 (211,⟨.type "function",none,.func (W.fnOf "__init__" "Soft.__init__" (dA (ic (tp 21) 0)) (dB (ic (tp 21) 0)) (dS (ic (tp 21) 0)) (.none) (.none) (.none) zm3 none (.ref 210) (.none)),#[]⟩),
 (217,cO "told" 440 "Soft.told" 441 442 73 1 3 212 181 213 214 215 216 444 73 445),
 (218,⟨.type "function",none,.func (W.fnOf "told" "Soft.told" (dA (ic (tp 21) 1)) (dB (ic (tp 21) 1)) (dS (ic (tp 21) 1)) (.none) (.none) (.none) zm3 none (.ref 217) (.none)),#[]⟩),
 (224,cO "cost" 447 "Soft.cost" 448 449 76 2 3 219 181 220 221 222 223 452 76 453),
 (225,⟨.type "function",none,.func (W.fnOf "cost" "Soft.cost" (dA (ic (tp 21) 2)) (dB (ic (tp 21) 2)) (dS (ic (tp 21) 2)) (.none) (.none) (.none) zm3 none (.ref 224) (.none)),#[]⟩),
 (227,⟨.type "dict",none,.dict #[eS P "__module__" 426 zm3,eS P "__firstlineno__" 430 (.int 67 429),eR P "__init__" 439 211,eR P "told" 446 218,eR P "cost" 454 225,eR P "__static_attributes__" 457 226,eS P "__doc__" 458 (.none)] 2,#[]⟩),
 (228,⟨.type "type",none,.cls ⟨"Soft",[.ref 134],[.ref 228,.ref 134,.type "object"],227,"Soft",true,[],[],false,none,false⟩,#[some (.ref 198),none,some (.str "Soft" 419),some (.str "Soft" 427),some (.builtin "object.__new__"),some (.bool true)]⟩),
 (236,cO "sign_of" 461 "sign_of" 462 463 78 1 3 231 181 232 233 234 235 465 78 466),
 (237,fO "sign_of" (tp 22) zm3 236),
 (243,cO "check_heard" 470 "check_heard" 471 472 85 3 3 238 181 239 240 241 242 477 85 478),
 (244,fO "check_heard" (tp 24) zm4 243),
 (248,cN "signs_cost" 480 "signs_cost" 481 482 89 2 3 245 181 246 247 483 89 484),
 (249,fO "signs_cost" (tp 25) zm4 248),
 (253,cN "signs_by_step" 486 "signs_by_step" 487 488 91 3 3 250 181 251 252 489 91 490),
 (254,fO "signs_by_step" (tp 26) zm4 253),
 (260,cO "move" 492 "move" 493 494 96 5 3 255 181 256 257 258 259 501 96 502),
 (261,fO "move" (tp 27) zm4 260),
 (265,cN "moves_from" 504 "moves_from" 505 506 99 5 3 262 181 263 264 507 99 508),
 (266,fO "moves_from" (tp 28) zm4 265),
 (270,cN "moves" 510 "moves" 511 512 101 3 3 267 181 268 269 513 101 514),
 (271,fO "moves" (tp 29) zm4 270),
 (275,cN "end_costs" 516 "end_costs" 517 518 108 2 3 272 181 273 274 519 108 520),
 (276,fO "end_costs" (tp 30) zm4 275),
 (282,cO "cost_by" 522 "cost_by" 523 524 113 2 3 277 181 278 279 280 281 528 113 529),
 (283,fO "cost_by" (tp 31) zm4 282),
 (287,cN "least_by" 531 "least_by" 532 533 116 2 3 284 181 285 286 534 116 535),
 (288,fO "least_by" (tp 32) zm4 287),
 (292,cN "ahead_by" 537 "ahead_by" 538 539 119 2 3 289 181 290 291 540 119 541),
 (293,fO "ahead_by" (tp 33) zm4 292),
 (299,cO "ahead_by_start" 543 "ahead_by_start" 544 545 125 2 3 294 181 295 296 297 298 550 125 551),
 (300,fO "ahead_by_start" (tp 34) zm4 299),
 (306,cO "cost_of_track" 555 "cost_of_track" 556 557 131 3 3 301 181 302 303 304 305 562 131 563),
 (307,fO "cost_of_track" (tp 36) zm5 306),
 (311,cN "beginning" 565 "beginning" 566 567 134 3 3 308 181 309 310 568 134 569),
 (312,fO "beginning" (tp 37) zm5 311),
 (318,cO "track_on" 571 "track_on" 572 573 138 3 3 313 181 314 315 316 317 578 138 579),
 (319,fO "track_on" (tp 38) zm5 318),
 (323,cN "beginning_on" 581 "beginning_on" 582 583 141 4 3 320 181 321 322 584 141 585),
 (324,fO "beginning_on" (tp 39) zm5 323),
 (330,cO "first_ones" 587 "first_ones" 588 589 144 2 3 325 181 326 327 328 329 592 144 593),
 (331,fO "first_ones" (tp 40) zm5 330),
 (332,⟨.type "tuple",none,.seq #[.int 2 595] 0,#[]⟩),
 (336,cN "few" 596 "few" 597 598 146 4 3 333 181 334 335 599 146 600),
 (337,⟨.type "function",none,.func (W.fnOf "few" "few" (dA (tp 41)) (dB (tp 41)) (dS (tp 41)) (.ref 332) (.none) (.none) zm5 none (.ref 336) (.none)),#[]⟩),
 (343,cO "apart" 604 "apart" 605 606 158 2 3 338 181 339 340 341 342 611 158 612),
 (344,fO "apart" (tp 43) (.str "trellisway.apart" 602) 343),
 (350,cO "_law_cell_at" 616 "_law_cell_at" 617 618 163 2 3 345 181 346 347 348 349 621 163 622),
 (351,fO "_law_cell_at" (tp 45) zm0 350),
 (357,cO "_law_state" 624 "_law_state" 625 626 167 2 3 352 181 353 354 355 356 629 167 630),
 (358,fO "_law_state" (tp 46) zm0 357),
 (364,cO "_law_next" 632 "_law_next" 633 634 169 2 3 359 181 360 361 362 363 637 169 638),
 (365,fO "_law_next" (tp 47) zm0 364),
 (369,cN "_law_scheme" 640 "_law_scheme" 641 642 172 3 3 366 181 367 368 643 172 644),
 (370,fO "_law_scheme" (tp 48) zm0 369),
 (376,cO "_law_odd" 646 "_law_odd" 647 648 179 1 3 371 181 372 373 374 375 651 179 652),
 (377,fO "_law_odd" (tp 49) zm0 376),
 (381,cN "_law_step" 654 "_law_step" 655 656 185 4 3 378 181 379 380 657 185 658),
 (382,fO "_law_step" (tp 50) zm0 381),
 (388,cO "_law_start" 660 "_law_start" 661 662 190 2 3 383 181 384 385 386 387 667 190 668),
 (389,fO "_law_start" (tp 51) zm0 388),
 (395,cO "_law_sent" 670 "_law_sent" 671 672 196 2 3 390 181 391 392 393 394 680 196 681),
 (396,fO "_law_sent" (tp 52) zm0 395),
 (402,cO "_law_whole" 683 "_law_whole" 684 685 206 1 3 397 181 398 399 400 401 687 206 688),
 (403,fO "_law_whole" (tp 53) zm0 402),
 (407,cN "_law_is_word" 690 "_law_is_word" 691 692 208 2 3 404 181 405 406 693 208 694),
 (408,fO "_law_is_word" (tp 54) zm0 407),
 (412,cN "_law_words" 696 "_law_words" 697 698 212 1 3 409 181 410 411 699 212 700),
 (413,fO "_law_words" (tp 55) zm0 412),
 (419,cO "_law_refused" 702 "_law_refused" 703 704 217 2 3 414 181 415 416 417 418 708 217 709),
 (420,fO "_law_refused" (tp 56) zm0 419),
 (424,cN "law" 711 "law" 712 713 224 1 3 421 181 422 423 714 224 715),
 (425,fO "law" (tp 57) zm0 424)]
def KHP(P:Params):W.Frag:=KH P++[(326,⟨.none,none,.fields #[],#[]⟩)]
noncomputable def KA:List Addr:=[3,4,23,24,36,37,48,49,57,58,64,65,71,72,76,77,81,82,88,89,95,96,102,103,109,110,116,117,123,124,133,134,151,152,158,159,165,166,168,169,184,185,191,192,194,195,210,211,217,218,224,225,227,228,236,237,243,244,248,249,253,254,260,261,265,266,270,271,275,276,282,283,287,288,292,293,299,300,306,307,311,312,318,319,323,324,330,331,332,336,337,343,344,350,351,357,358,364,365,369,370,376,377,381,382,388,389,395,396,402,403,407,408,412,413,419,420,424,425,326]
theorem ka_eq:∀P,KA=(KHP P).map (·.1):=λ_=>rfl
theorem run(w:World)(os:OsState):(qS treeTable zp w 11 (some (.ref 6)) 6148 (wI w.params os) (topStub zp)).map (λs=>(staticsOk (importedModules zp.main.body) (boot_heap w.params) s.abs.heap&&namesBound zp s.abs.heap&&gensDone s.abs&&laidKept (boot_heap w.params) s.abs.heap,
 openSeen V ["few"] (importedModules zp.main.body) (λs=>xlAt V [] s&&recOk (RowW.records (OpenRow.toRowW zr.row)) s) true s.abs,Hook.obs (kHook KHP KA ka_eq) s.abs))=some (true,openGood V ["few"],Hook.val (kHook KHP KA ka_eq) w):=by kernel_rfl
theorem left:LeftO zp V ["few"] (λs=>xlAt V [] s&&recOk (RowW.records (OpenRow.toRowW zr.row)) s) (Hook.obs (kHook KHP KA ka_eq)) (Hook.val (kHook KHP KA ka_eq)) 6148:=qin (by kernel_rfl) (by kernel_rfl) (λs=>by kernel_rfl) (λP=>by kernel_rfl) run
theorem qpi:(OpenRow.toRowW zr.row).prog=zp:=by kernel_rfl
theorem leftR:LeftO (OpenRow.toRowW zr.row).prog V ["few"] (λs=>xlAt V [] s&&recOk (RowW.records (OpenRow.toRowW zr.row)) s) (Hook.obs (kHook KHP KA ka_eq)) (Hook.val (kHook KHP KA ka_eq)) 6148:=by rw[qpi];exact left
end H26
open PySem
abbrev ja:=@wpAny_bind
abbrev jb:=@List.length_map
abbrev jc:=@wpAny_pure
abbrev jd:=@Heap.lt_size
abbrev je:=@Heap.get?_push_of_some
abbrev jf:=@PyProof.Rows.wpS_bind
abbrev jg:=@Nat.le_refl
abbrev jh:=@List.mem_cons_of_mem
abbrev ji:=@List.getElem?_eq_getElem
abbrev jj:=@List.mem_cons_self
abbrev jl:=@Option.some.inj
abbrev jn:=@List.getD_eq_getElem?_getD
abbrev jo:=@Nat.ne_of_lt
abbrev jq:=@List.getElem?_map
abbrev jr:=@List.length_append
abbrev jt:=@List.map_map
abbrev ju:=@Heap.get?_push_size
abbrev jv:=@List.getElem?_set_ne
abbrev jw:=@List.length_cons
abbrev jx:=@List.length_replicate
abbrev jy:=@PyProof.Rows.wpS_pure
abbrev jz:=@Nat.lt_of_lt_of_le
abbrev x5:=@List.size_toArray
abbrev x6:=@Nat.le_trans
abbrev x8:=@List.map_cons
abbrev x9:=@List.mem_append_right
abbrev xf:=@Nat.zero_add
abbrev xg:=@wpAny_field
abbrev xh:=@List.getElem?_eq_none
abbrev xj:=@wpAny_mono
abbrev xk:=@List.map_append
abbrev xl:=@Int.toNat_natCast
abbrev xn:=@Nat.lt_irrefl
abbrev xo:=@List.getElem?_set_self
abbrev xq:=@List.length_set
abbrev xr:=@wpAny_holding
abbrev xu:=@wpAny_Call_Name_kw
abbrev xv:=@List.length_drop
abbrev xw:=@List.getElem_mem
abbrev xx:=@Heap.size_push
abbrev k6:=@List.length_take
abbrev k7:=@PassesOwn.never
abbrev k8:=@List.mem_of_getElem?
abbrev k9:=@wpAny_seqItems
abbrev kc:=@List.getElem?_range
abbrev ke:=@List.getElem?_append_right
abbrev kf:=@wpAny_newObj_type
abbrev kg:=@Heap.get?_update_other
abbrev kh:=@wpAny_call_entry
abbrev ki:=@sizeLine_eq
abbrev kj:=@List.getElem?_replicate
abbrev kl:=@wpAny_truthy_bool
abbrev ku:=@List.getElem?_append_left
abbrev va:=@wpAny_callSpecial?_slot
abbrev vc:=@Heap.get?_update_self
abbrev vd:=@wpAny_passesOwn
abbrev ve:=@wpAny_setField
abbrev vf:=@Heap.SameBut.update
abbrev vg:=@Obj.data_mapFields
abbrev vh:=@List.drop_eq_getElem_cons
abbrev vk:=@plainId_quiet
abbrev vm:=@F.plain_min_loop
abbrev vn:=@List.length_zip
abbrev vo:=@Nat.min_le_left
abbrev vp:=@wpAny_execs_nil
abbrev vq:=@wpAny_setField_rec
abbrev vt:=@wpAny_loadPart'
abbrev vv:=@Heap.get?_none_of_le
abbrev vw:=@Calls.spliced_cons
abbrev vx:=@Around.under_plainId
abbrev vz:=@F.slot_tuple_iterator_next
abbrev sY:=@F.slot_dict_keyiterator_next
abbrev sX:=@wpAny_typeNameOfWhole_keyiter
abbrev Z0:=Value->Shared->Prop
abbrev Z3:=List (Addr×Obj)
abbrev Z9:=List (List Int)
abbrev Za:=Str->Option Value
abbrev Zb:=Result->Shared->Prop
abbrev Zc:=Option Addr
abbrev Zd:=Array Value
abbrev Ze:=List Value
abbrev Zf:=List Int
abbrev Zg:=List Nat
abbrev Zh:=List Stmt
abbrev Zi:=List Expr
abbrev Zj:=List Str
namespace L2
open PySem PySem.Spec PyProof.Rows
abbrev bf:=Sum Int Str
noncomputable def tQ:bf->Value->Bool
 |.inl k,v=>Value.isInt k v
 |.inr x,v=>Value.isStrOf x v
noncomputable def Bm(w:World):bf->Int
 |.inl k=>hashInt k
 |.inr x=>hashStr w x
def jR:∀{k:bf} {v:Value},tQ k v=true->(∃i t,k=Sum.inl i/\v=Value.int i t)∨(∃x t,k=Sum.inr x/\v=Value.str x t)
 | .inl i,v,h=>by let⟨t,e⟩:=Value.isInt_shape (k:=i) (v:=v) h;exact .inl ⟨i,t,rfl,e⟩
 | .inr x,v,h=>by let⟨t,e⟩:=Value.isStrOf_shape (x:=x) (v:=v) h;exact .inr ⟨x,t,rfl,e⟩
def qiq(i:Int)(t:Tok):tQ (.inl i) (.int i t)=true:=by simp[tQ,Value.isInt]
def qwi(a b:Int):decide ((Sum.inl a:bf)=Sum.inl b)=(a==b):=by
 by_cases e:a=b
 .subst e;simp
 .have h:¬(Sum.inl a:bf)=Sum.inl b:=λq=>e (Sum.inl.inj q);rw[decide_eq_false h];exact(beq_eq_false_iff_ne.mpr e).symm
def qwe(a b:Str):decide ((Sum.inr a:bf)=Sum.inr b)=decide (a=b):=by
 by_cases e:a=b
 .subst e;simp
 .have h:¬(Sum.inr a:bf)=Sum.inr b:=λq=>e (Sum.inr.inj q);rw[decide_eq_false h,decide_eq_false e]
def qwh(a:Int)(b:Str):decide ((Sum.inl a:bf)=Sum.inr b)=false:=decide_eq_false (λq=>nomatch q)
def qwf(a:Str)(b:Int):decide ((Sum.inr a:bf)=Sum.inl b)=false:=decide_eq_false (λq=>nomatch q)
def qJ(prog:Program)(w:World):PySem.KeyKind prog w bf where
 is:=tQ
 hash:=Bm w
 inj:=λv a b ha hb=>by
  rcases jR ha with⟨i,t,rfl,rfl⟩|⟨x,t,rfl,rfl⟩
  .rcases jR hb with⟨j,u,rfl,e⟩|⟨y,u,rfl,e⟩
   .injection e with e1 _;rw[e1]
   .exact nomatch e
  .rcases jR hb with⟨j,u,rfl,e⟩|⟨y,u,rfl,e⟩
   .exact nomatch e
   .injection e with e1 _;rw[e1]
 byValue:=λk v h=>by rcases jR h with⟨i,t,rfl,rfl⟩|⟨x,t,rfl,rfl⟩<;>rfl
 pyHash:=λhv h=>by
  rcases jR hv with⟨i,t,rfl,rfl⟩|⟨x,t,rfl,rfl⟩
  .exact wpAny_pyHash_int h
  .exact wpAny_pyHash_str h
 eqBool:=λhu hv h=>by
  rcases jR hu with⟨i,t,rfl,rfl⟩|⟨x,t,rfl,rfl⟩
  .rcases jR hv with⟨j,u,rfl,rfl⟩|⟨y,u,rfl,rfl⟩
   .rw[qwi]at h;exact wpAny_eqBool_int h
   .rw[qwh]at h;exact SeqAt.EqAt.int_str i t y u _ _ _ _ h
  .rcases jR hv with⟨j,u,rfl,rfl⟩|⟨y,u,rfl,rfl⟩
   .rw[qwf]at h;exact SeqAt.EqAt.str_int x t j u _ _ _ _ h
   .rw[qwe]at h;exact wpAny_eqBool_str h
 «strs»:=λk x t v h=>by
  rcases jR h with⟨i,u,rfl,e⟩|⟨y,u,rfl,e⟩
  .exact nomatch e
  .injection e with e1 _;subst e1;cases v<;>rfl
def Hx{prog:Program}{w:World}(i:Int)(t:Tok):(qJ prog w).is (.inl i) (.int i t)=true:=qiq i t
inductive V where
 |non|bl (b:Bool)|int (i:Int)|str (x:Str)|byt (b:Array UInt8)|flt (b:UInt64)|ref (a:Addr)|ty (n:String)
 deriving DecidableEq
def RelV:V->Value->Prop
 |.non,u=>u=Value.none
 |.bl b,u=>u=Value.bool b
 |.int i,u=>∃t,u=Value.int i t
 |.str x,u=>∃t,u=Value.str x t
 |.byt b,u=>∃t,u=Value.bytes b t
 |.flt b,u=>∃t,u=Value.float b t
 |.ref a,u=>u=Value.ref a
 |.ty n,u=>u=Value.type n
abbrev Vals:List V->List Value->Prop:=Paired RelV
def Vals.length{xs:List V}{us:Ze}(r:Vals xs us):xs.length=us.length:=Paired.length r
theorem Vals.get:∀{xs:List V} {us:Ze} {i:Nat} {x:V},Vals xs us->xs[i]? =some x->∃u,us[i]? =some u/\RelV x u
 |_,_,_,_,.nil,e=>by simp at e
 |_,_,0,_,.cons r _,e=>by simp at e;subst e;exact⟨_,rfl,r⟩
 | _,_,i+1,x,.cons _ t,e=>by let⟨u,h1,h2⟩:=Vals.get (i:=i) (x:=x) t (by simpa using e);exact⟨u,by simpa using h1,h2⟩
theorem Vals.set{x:V}{u:Value}(r:RelV x u):∀{xs:List V} {us:Ze} (i:Nat),Vals xs us->Vals (xs.set i x) (us.set i u)
 |_,_,_,.nil=>.nil
 |_,_,0,.cons _ t=>.cons r t
 |_,_,i+1,.cons q t=>.cons q (Vals.set r i t)
theorem Vals.append:∀{xs ys:List V} {us ws:Ze},Vals xs us->Vals ys ws->Vals (xs++ys) (us++ws)
 |_,_,_,_,.nil,s=>s
 |_,_,_,_,.cons r t,s=>.cons r (Vals.append t s)
theorem Vals.take:∀{xs:List V} {us:Ze} (n:Nat),Vals xs us->Vals (xs.take n) (us.take n)
 |_,_,0,_=>.nil
 |_,_,_+1,.nil=>.nil
 |_,_,n+1,.cons r t=>.cons r (Vals.take n t)
theorem Vals.drop:∀{xs:List V} {us:Ze} (n:Nat),Vals xs us->Vals (xs.drop n) (us.drop n)
 |_,_,0,r=>r
 |_,_,_+1,.nil=>.nil
 |_,_,n+1,.cons _ t=>Vals.drop n t
def RelO:Option V->Option Value->Prop
 |some v,some u=>RelV v u
 |none,none=>True
 |_,_=>False
def KV{κ:Type}:List (κ×V)->List (κ×Value)->Prop:=Paired λ(p:κ×V) (q:κ×Value)=>p.1=q.1/\RelV p.2 q.2
noncomputable def kV:bf->V
 |.inl i=>.int i
 |.inr x=>.str x
inductive HO where
 |lst (xs:List V)
 |tup (xs:List V)
 |dK (kvs:List (bf×V))|dT (kvs:List (List bf×V))
 |set (S:Int->Bool) (n:Nat)
 |ins (C dx:Addr) (fs:List (Str×V))
 |own (x:Addr)
 |xd (fs:List (Str×V))
 |met (f x:Addr)
 |rng (lo hi:Int)
 |frz (o:Obj) (u:HO)
 |tbl (ps:Zd)
 |lam (pos:Pos) (q:Str)
 |ext (φ:Heap->Prop)
abbrev Hp:=Addr->Option HO
noncomputable def aN(H:Hp)(a:Addr)(o:HO):Hp:=λb=>if b=a then some o else H b
def cr{H:Hp}{a:Addr}{o:HO}:aN H a o a=some o:=by unfold aN;rw[if_pos rfl]
def aU{H:Hp}{a b:Addr}{o:HO}(h:b≠a):aN H a o b=H b:=by unfold aN;rw[if_neg h]
def Fv{H:Hp}{a:Addr}{o u:HO}:aN (aN H a o) a u=aN H a u:=by funext b;unfold aN;split<;>rfl
def fX{H:Hp}{a b:Addr}{o:HO}(h:H a=some o)(h':H b=none):a≠b:=by intro e;subst e;rw[h]at h';cases h'
def TupN(h:Heap)(a:Addr)(items:Zd):Prop:=∃o,h.get? a=some o/\(o.cls=.type "tuple"/\∃n,o.data=.seq items n)/\o.dict=none
def TupN.tup{h:Heap}{a:Addr}{items:Zd}(x:TupN h a items):IsTup h a items:=let ⟨o,e,c,_⟩:=x;⟨o,e,c⟩
def TupN.lt{h:Heap}{a:Addr}{items:Zd}(x:TupN h a items):a<h.objs.size:=let ⟨_,e,_⟩:=x;jd e
def TupN.new(h:Heap)(items:Zd):TupN (h.push {cls:=.type "tuple",data:=.seq items}) h.objs.size items:=⟨_,ju _ rfl,⟨rfl,_,rfl⟩,rfl⟩
def DictN{P:Program}{w:World}{κ:Type}[DecidableEq κ](knd:KeyKind P w κ)(h:Heap)(a:Addr)(kvs:List (κ×Value))(n:Nat):Prop:=∃o es,h.get? a=some o/\o.ExactDict/\o.data=.dict es n/\KeysOf knd es/\Pairs knd es.toList kvs/\(kvs.map (·.1)).Nodup
def DictN.of{P:Program}{w:World}{κ:Type}[DecidableEq κ]{knd:KeyKind P w κ}{h:Heap}{a:Addr}{kvs:List (κ×Value)}{n:Nat}(x:DictN knd h a kvs n):h.DictOf knd a kvs:=let ⟨o,es,r⟩:=x;⟨o,es,n,r⟩
section
variable(P:Program)(w:World)
def ObjOk(H:Hp)(h:Heap)(a:Addr):HO->Prop
 |.lst xs=>xs.length<=sizeLine/\∃(its:Ze) (n:Nat),Vals xs its/\h.get? a=some {cls:=.type "list",data:=.seq its.toArray n}
 |.tup xs=>xs.length<=sizeLine/\∃its:List Value,Vals xs its/\TupN h a its.toArray
 |.dK kvs=>kvs.length<=sizeLine/\(a==sysModules)=false/\∃vs,KV kvs vs/\DictN (qJ P w) h a vs kvs.length
 |.dT kvs=>kvs.length<=sizeLine/\(a==sysModules)=false/\∃xs:List (List bf×Addr×Value),
  Paired (λ(p:List bf×V) (q:List bf×Addr×Value)=>p.1=q.1/\H q.2.1=some (.tup (p.1.map kV))/\RelV p.2 q.2.2) kvs xs/\
  ∃o es ep,h.get? a=some o/\o.ExactDict/\o.data=.dict es ep/\es.toList=xs.map (entryOfKey (tupleKind (qJ P w)))/\(xs.map (·.1)).Nodup/\ep=kvs.length
 |.set S n=>h.SetOf (intKind P w) a S n
 |.ins C dx fs=>H dx=some (.own a)/\fs.length<=1000/\dx≠a/\h.get? a=some (W.instObj C dx)/\
  ∃mA,h.Ns1 dx mA/\(∀f,RelO (fs.lookup f) (mA f))/\PySem.Within mA (fs.map (·.1))
 |.own _=>∃o,h.get? a=some o
 |.xd fs=>∃mA,h.Ns1 a mA/\∀f,RelO (fs.lookup f) (mA f)
 |.rng lo hi=>∃t u v,h.get? a=some {cls:=.type "range",data:=.fields #[.int lo t,.int hi u,.int 1 v]}
 |.frz o u=>h.get? a=some o/\ObjOk H h a u
 |.tbl ps=>h.get? a=some {cls:=.none,data:=.fields ps}
 |.lam pos q=>∃ps:Array Value,h.get? a=some {cls:=.none,data:=.fields ps}/\TriplesOk ps.toList/\(codeAmong pos ps.toList=none∨∃c',codeAmong pos ps.toList=some (.ref c')/\H c'=some (.own a)/\h.CodeRec (.ref c') q)
 |.met f x=>h.get? a=some (W.methodObj (.ref f) (.ref x))
 |.ext φ=>φ h/\(∃o,h.get? a=some o)/\∀h1 h2:Heap,φ h1->(∀o,h1.get? a=some o->h2.get? a=some o)->φ h2
def HOk(H:Hp)(h:Heap):Prop:=∀a o,H a=some o->ObjOk P w H h a o
end
section
variable{P:Program}{w:World}{H H':Hp}{h h':Heap}{a:Addr}{o:HO}
def ObjOk.lt(x:ObjOk P w H h a o):a<h.objs.size:=by
 cases o with
 |lst xs=>obtain⟨_,_,_,_,e⟩:=x;exact jd e
 |tup xs=>obtain⟨_,_,_,p⟩:=x;exact p.lt
 |dK kvs=>obtain⟨_,_,_,_,o,_,e,_⟩:=x;exact jd e
 |dT kvs=>obtain⟨_,_,_,_,o,_,_,e,_⟩:=x;exact jd e
 |set S n=>obtain⟨o,_,_,_,e,_⟩:=x;exact jd e
 |ins C dx fs=>obtain⟨_,_,_,e,_⟩:=x;exact jd e
 |own y=>obtain⟨_,e⟩:=x;exact jd e
 |xd fs=>obtain⟨_,⟨_,_,_,e,_⟩,_⟩:=x;exact jd e
 |rng lo hi=>obtain⟨_,_,_,e⟩:=x;exact jd e
 |frz ob u=>obtain⟨e,_⟩:=x;exact jd e
 |tbl ps=>exact jd (show h.get? a=some _ from x)
 |lam pos q=>obtain⟨_,e,_⟩:=x;exact jd e
 |met f y=>exact jd (show h.get? a=some _ from x)
 |ext φ=>obtain⟨_,⟨_,e⟩,_⟩:=x;exact jd e
theorem Paired.mapP{α β:Type}{F G:α->β->Prop}:∀{l₁:List α} {l₂:List β},Paired F l₁ l₂->(∀a b,F a b->G a b)->Paired G l₁ l₂
 |_,_,.nil,_=>.nil
 |_,_,.cons r t,f=>.cons (f _ _ r) (Paired.mapP t f)
def ObjOk.stay(x:ObjOk P w H h a o)(k:∀b u,(b=a∨H b=some (.own a))->h.get? b=some u->h'.get? b=some u)
 (ho:∀b,H b=some (.own a)->H' b=some (.own a)) (ht:∀b xs,H b=some (.tup xs)->H' b=some (.tup xs)):ObjOk P w H' h' a o:=by
 induction o with
 |lst xs=>obtain⟨z,its,n,r,e⟩:=x;exact⟨z,its,n,r,k _ _ (.inl rfl) e⟩
 |tup xs=>obtain⟨z,its,r,ob,e,c⟩:=x;exact⟨z,its,r,ob,k _ _ (.inl rfl) e,c⟩
 |dK kvs=>obtain⟨z,y,vs,r,ob,es,e,c⟩:=x;exact⟨z,y,vs,r,ob,es,k _ _ (.inl rfl) e,c⟩
 | dT kvs=>
  obtain⟨z,y,xs,r,ob,es,ep,e,c⟩:=x;exact⟨z,y,xs,Paired.mapP r λp q z=>⟨z.1,ht _ _ z.2.1,z.2.2⟩,ob,es,ep,k _ _ (.inl rfl) e,c⟩
 |set S n=>obtain⟨ob,es,ep,t,e,c⟩:=x;exact⟨ob,es,ep,t,k _ _ (.inl rfl) e,c⟩
 | ins C dx fs=>
  obtain⟨d,z,ne,e,mA,⟨od,es,ep,e2,c⟩,r⟩:=x;exact⟨ho _ d,z,ne,k _ _ (.inl rfl) e,mA,⟨od,es,ep,k _ _ (.inr d) e2,c⟩,r⟩
 |own y=>obtain⟨ob,e⟩:=x;exact⟨ob,k _ _ (.inl rfl) e⟩
 |xd fs=>obtain⟨mA,⟨od,es,ep,e,c⟩,r⟩:=x;exact⟨mA,⟨od,es,ep,k _ _ (.inl rfl) e,c⟩,r⟩
 |rng lo hi=>obtain⟨t,u,v,e⟩:=x;exact⟨t,u,v,k _ _ (.inl rfl) e⟩
 |frz ob u ih=>obtain⟨e,q⟩:=x;exact⟨k _ _ (.inl rfl) e,ih q⟩
 | tbl ps=>
  have e:h.get? a=some {cls:=.none,data:=.fields ps}:=x;show h'.get? a=some {cls:=.none,data:=.fields ps};exact k a _ (.inl rfl) e
 | lam pos q=>
  obtain⟨ps,e,t,r⟩:=x;refine⟨ps,k _ _ (.inl rfl) e,t,?_⟩;rcases r with r|⟨c',r1,r2,c,oc,vs,tq,hc,hoc,hd,hq⟩
  .exact .inl r
  .cases hc;exact .inr ⟨c',r1,ho _ r2,c',oc,vs,tq,rfl,k _ _ (.inr r2) hoc,hd,hq⟩
 | met f y=>
  have e:h.get? a=some (W.methodObj (.ref f) (.ref y)):=x;show h'.get? a=some (W.methodObj (.ref f) (.ref y));exact k a _ (.inl rfl) e
 |ext φ=>obtain⟨p,⟨o,e⟩,st⟩:=x;exact⟨st _ _ p λo q=>k _ _ (.inl rfl) q,⟨o,k _ _ (.inl rfl) e⟩,st⟩
def HOk.lt(x:HOk P w H h)(e:H a=some o):a<h.objs.size:=(x a o e).lt
def HOk.fresh(x:HOk P w H h)(e:h.objs.size<=a):H a=none:=by
 cases q:H a with
 |none=>rfl
 |some u=>exact absurd (jz (x.lt q) e) (xn _)
def HOk.kept(x:HOk P w H h)(k:∀b u,h.get? b=some u->h'.get? b=some u):HOk P w H h':=λa o e=>
 (x a o e).stay (λb u _ q=>k b u q) (λ_ q=>q) λ_ _ q=>q
def HOk.laid(x:HOk P w H h)(k:∀b u,h.get? b=some u->h'.get? b=some u)(hp:h.objs.size<=a)(new:ObjOk P w (aN H a o) h' a o):HOk P w (aN H a o) h':=λb u e=>by
 have hn:=x.fresh hp;by_cases hb:b=a
 .subst hb;rw[cr]at e;cases e;exact new
 .rw[aU hb]at e;exact(x b u e).stay (λc v _ q=>k c v q) (λc q=>by rw[aU (fX q hn)];exact q) λc xs q=>by rw[aU (fX q hn)];exact q
end
def Rd(H:Hp)(a:Addr)(u:HO):Prop:=H a=some u∨∃o,H a=some (.frz o u)
def Rd.ok{P:Program}{w:World}{H:Hp}{h:Heap}{a:Addr}{u:HO}(r:Rd H a u)(x:HOk P w H h):ObjOk P w H h a u:=by
 rcases r with r|⟨o,r⟩
 .exact x a u r
 .let⟨_,q⟩:=x a _ r;exact q
def vK:Option HO->Prop
 |some (.lst _)=>True
 |some (.dK _)=>True
 |some (.dT _)=>True
 |some (.set _ _)=>True
 |some (.ins _ _ _)=>True
 |some (.ext _)=>True
 |some (.lam _ _)=>True
 |_=>False
section
variable{P:Program}{w:World}{H:Hp}{h h':Heap}{x e:Addr}{o':HO}
def HOk.write(ok:HOk P w H h)(mu:vK (H x))(he:e=x∨H e=some (.own x))(k:∀b u,b≠e->h.get? b=some u->h'.get? b=some u)(heo:∃u,h'.get? e=some u)
 (new:ObjOk P w (aN H x o') h' x o'):HOk P w (aN H x o') h':=λb u q=>by
 have nown:∀c y,H c=some (.own y)->c≠x:=λc y r z=>by subst z;rw[r]at mu;exact mu
 have ntup:∀c xs,H c=some (.tup xs)->c≠x:=λc xs r z=>by subst z;rw[r]at mu;exact mu
 by_cases hb:b=x
 .subst hb;rw[cr]at q;cases q;exact new
 .rw[aU hb]at q;by_cases hbe:b=e
  .have q':H b=some (.own x):=by
    rcases he with z|z
    .exact absurd (hbe.trans z) hb
    .rw[hbe];exact z
   rw[q]at q';cases q';obtain⟨v,hv⟩:=heo;exact⟨v,by rw[hbe];exact hv⟩
  .refine(ok b u q).stay (λc v hc r=>k c v ?_ r) (λc r=>by rw[aU (nown c b r)];exact r) λc xs r=>by rw[aU (ntup c xs r)];exact r
   rcases hc with rfl|hc
   .exact hbe
   .rintro rfl;rcases he with z|z
    .exact nown c b hc z
    .rw[hc]at z;cases z;exact hb rfl
end
structure Un(fs ex:List Addr)(H H':Hp)(h h':Heap):Prop where
 keep:∀b o,h.get? b=some o->H b=none->b∉fs->b∉ex->h'.get? b=some o
 slot:∀b o,h.get? b=some o->H b=none->b∈fs->b∉ex->∃sl,h'.get? b=some {o with slots:=sl}
 free:∀b o,h.get? b=some o->H b=none->b∉ex->H' b=none
 there:∀b o,h.get? b=some o->b∉ex->∃o',h'.get? b=some o'
 tups:∀b xs,H b=some (.tup xs)->H' b=some (.tup xs)
 frzs:∀b o u,H b=some (.frz o u)->H' b=some (.frz o u)
 tbls:∀b ps,H b=some (.tbl ps)->∃more,H' b=some (.tbl (ps++more))
section
variable{fs fs' ex ex':List Addr}{H H1 H2:Hp}{h h1 h2 h':Heap}{a x e:Addr}{o:HO}
def Un.any(u:Un fs ex H H1 h h1){b:Addr}{ob:Obj}(q:h.get? b=some ob)(n:H b=none)(hx:b∉ex):∃sl,h1.get? b=some {ob with slots:=sl}:=by
 by_cases hb:b∈fs
 .exact u.slot b ob q n hb hx
 .exact⟨ob.slots,u.keep b ob q n hb hx⟩
def Un.trans(a:Un fs ex H H1 h h1)(b:Un fs ex H1 H2 h1 h2):Un fs ex H H2 h h2 where
 keep:=λc ob q n hc hx=>b.keep c ob (a.keep c ob q n hc hx) (a.free c ob q n hx) hc hx
 slot:=λc ob q n hc hx=>by let⟨sl,e1⟩:=a.slot c ob q n hc hx;let⟨sl',e2⟩:=b.slot c _ e1 (a.free c ob q n hx) hc hx;exact⟨sl',e2⟩
 free:=λc ob q n hx=>by let⟨o',e1⟩:=a.there c ob q hx;exact b.free c o' e1 (a.free c ob q n hx) hx
 there:=λc ob q hx=>by let⟨o',e1⟩:=a.there c ob q hx;exact b.there c o' e1 hx
 tups:=λc xs q=>b.tups c xs (a.tups c xs q)
 frzs:=λc ob xs q=>b.frzs c ob xs (a.frzs c ob xs q)
 tbls:=λc ps q=>by let⟨m1,e1⟩:=a.tbls c ps q;let⟨m2,e2⟩:=b.tbls c _ e1;exact⟨m1++m2,by rw[e2,Array.append_assoc]⟩
def Un.kept(k:∀b u,h.get? b=some u->h'.get? b=some u):Un fs ex H H h h':=
 ⟨λb ob q _ _ _=>k b ob q,λb ob q _ _ _=>⟨ob.slots,k b ob q⟩,λ_ _ _ n _=>n,λb ob q _=>⟨ob,k b ob q⟩,λ_ _ q=>q,λ_ _ _ q=>q,λ_ ps q=>⟨#[],by rw[q];simp⟩⟩
def Un.refl:Un fs ex H H h h:=Un.kept λ_ _ q=>q
def Un.laid(k:∀b u,h.get? b=some u->h'.get? b=some u)(hp:h.objs.size<=a)(hn:H a=none):Un fs ex H (aN H a o) h h' where
 keep:=λb u q _ _ _=>k b u q
 slot:=λb u q _ _ _=>⟨u.slots,k b u q⟩
 free:=λb u q n _=>by rw[aU (jo (jz (jd q) hp))];exact n
 there:=λb u q _=>⟨u,k b u q⟩
 tups:=λb xs q=>by rw[aU (fX q hn)];exact q
 frzs:=λb u xs q=>by rw[aU (fX q hn)];exact q
 tbls:=λb ps q=>⟨#[],by rw[aU (fX q hn),q];simp⟩
def Un.write(mu:vK (H x))(he:e=x∨H e=some (.own x))(k:∀b u,b≠e->h.get? b=some u->h'.get? b=some u)(heo:∃u,h'.get? e=some u):Un fs ex H (aN H x o) h h':=by
 have hx:∀b,H b=none->b≠x:=λb n z=>by subst z;rw[n]at mu;exact mu
 have hb:∀b,H b=none->b≠e:=λb n z=>by
  subst z;rcases he with r|r
  .exact hx b n r
  .rw[n]at r;cases r
 have hm:∀b u,H b=some u->¬vK (some u)->b≠x:=λb u q nm z=>by subst z;rw[q]at mu;exact nm mu
 refine⟨λb u q n _ _=>k b u (hb b n) q,λb u q n _ _=>⟨u.slots,k b u (hb b n) q⟩,λb u q n _=>by rw[aU (hx b n)];exact n,λb u q _=>?_,
  λb xs q=>by rw[aU (hm b _ q λz=>z)];exact q,λb u xs q=>by rw[aU (hm b _ q λz=>z)];exact q,λb ps q=>⟨#[],by rw[aU (hm b _ q λz=>z),q];simp⟩⟩
 by_cases hbe:b=e
 .subst hbe;exact heo
 .exact⟨u,k b u hbe q⟩
def Un.mono(u:Un fs ex H H1 h h1)(hs:∀b∈fs,b∈fs')(hx:∀b∈ex,b∈ex'):Un fs' ex' H H1 h h1:=
 ⟨λb ob q n hb he=>u.keep b ob q n (λz=>hb (hs b z)) λz=>he (hx b z),λ_ _ q n _ he=>u.any q n λz=>he (hx _ z),λb ob q n he=>u.free b ob q n λz=>he (hx b z),λb ob q he=>u.there b ob q λz=>he (hx b z),u.tups,u.frzs,u.tbls⟩
end
noncomputable def tF(h:Heap)(H:Hp):List Addr:=(List.range h.objs.size).filter λa=>(H a).isSome
def fE(h:Heap)(H:Hp):Heap:=W.hideAll h (tF h H)
def qiv{h:Heap}{H:Hp}:(fE h H).objs.size=h.objs.size:=W.hideAll_size _ _
def qm0{h:Heap}{H:Hp}{b:Addr}{o:Obj}(e:h.get? b=some o)(n:H b=none):(fE h H).get? b=some o:=
 W.hideAll_get _ e λhm=>by have q:(H b).isSome=true:=(List.mem_filter.mp hm).2;rw[n]at q;simp at q
def qq5{h:Heap}{H:Hp}{b:Addr}{o:Obj}(e:(fE h H).get? b=some o):h.get? b=some o/\H b=none:=by
 have e':h.get? b=some o:=W.of_hideAll (tF h H) e;refine⟨e',?_⟩;cases q:H b with
 |none=>rfl
 | some x=>
  have hm:b∈tF h H:=List.mem_filter.mpr ⟨List.mem_range.mpr (jd e'),by simp[q]⟩;have z:(fE h H).get? b=none:=W.hideAll_none (tF h H) hm;rw[z]at e;cases e
noncomputable def qsc(g h:Heap)(L:Addr):List (Addr×Obj):=(List.range h.objs.size).filterMap λa=>if a=L∨(g.get? a).isSome=true then none else(h.get? a).map λo=>(a,o)
def rest(g h:Heap)(L d:Addr):List (Addr×Obj):=(qsc g h L).filter λp=>decide (p.1≠d)
structure Mod(K:am)(mg:Za)(base:Heap):Prop where
 kin:K.In base
 glob:base.Ns mainGlobals mg
 blt:∃mb,base.Ns builtinsNs mb/\∀x:Str,x≠"__name__"->mb x=bootBuiltins x
 nolimit:base.NoLimit
structure Cx where
 prog:Program
 w:World
 K:W.Frag
 mg:Str->Option Value
 base:Heap
 A:Around
 N:List Str
 s₀:Shared
 H₀:Hp
 env:Env
 outer:List Env
 stack:List Env
 ex:List Addr
 fn:Str->Bool
 calm:Bool
 pn:List (Addr×Obj)
 xe:Value->Shared->Prop
noncomputable def dD(l:List Env):List Addr:=l.filterMap (·.frame)
abbrev Cx.fs(X:Cx):List Addr:=dD X.outer
def jV(sc:Scope)(x:Str):Prop:=sc.names.lookup x=some .local∨sc.names.lookup x=some .cell∨sc.names.lookup x=some .free
def jX(sc:Scope)(x:Str):Prop:=sc.names.lookup x=some .local∨sc.names.lookup x=some .cell
def BN(env:Env)(h:Heap)(m:Za)(x:Str)(u:Value):Prop:=
 (env.kindOf x=some .local/\m x=some u)∨((env.kindOf x=some .cell∨env.kindOf x=some .free)/\∃c,env.cells.lookup x=some c/\h.IsCell c (some u))
structure Cx.Ok(X:Cx):Prop where
 mod:Mod X.K X.mg X.base
 kind:X.env.scope.kind=.function
 glob:X.env.globals=mainGlobals
 blt:X.env.builtins=builtinsNs
 above:X.s₀.heap.objs.size<=X.env.locals
 inj:∀x y c,X.env.cells.lookup x=some c->X.env.cells.lookup y=some c->x=y
 has:∀x,(X.env.kindOf x=some .cell∨X.env.kindOf x=some .free)->∃c,X.env.cells.lookup x=some c
 cab:∀x c,X.fn x=true->X.env.cells.lookup x=some c->X.s₀.heap.objs.size<=c
 hd:X.calm=true->X.A.handled=none
 frames:X.A.frames=some X.stack
 stk:X.stack=X.outer∨(X.stack=X.env::X.outer/\X.env.frame=some X.env.locals)
 exf:∀b∈X.ex,b≠X.env.locals/\∀x c,X.env.cells.lookup x=some c->c≠b
 bs:∀b o,X.base.get? b=some o->X.s₀.heap.get? b=some o/\X.H₀ b=none
 bsz:X.base.objs.size<=X.s₀.heap.objs.size
 noex:∀b o,X.base.get? b=some o->b∉X.ex
 exfs:∀b∈X.ex,b∉X.fs
 funs:X.s₀.heap.FunFrames X.base X.outer
 frf:∀b∈X.fs,X.H₀ b=none
structure Inv(X:Cx)(z5:Z3)(J:List (Option V))(H:Hp)(s:Shared):Prop where
 ok:X.Ok
 os:s.os=X.s₀.os
 bare:AllBare s.gens
 base:Un X.fs X.ex X.H₀ H X.s₀.heap s.heap
 loc:∃m,s.heap.Ns X.env.locals m/\∀(i:Nat) (x:Str) (v:V),X.N[i]? =some x->J[i]? =some (some v)->jV X.env.scope x->∃u,RelV v u/\BN X.env s.heap m x u
 cell:∀x c,X.env.cells.lookup x=some c->∃v,s.heap.IsCell c v
 free:H X.env.locals=none
 freeC:∀x c,X.env.cells.lookup x=some c->H c=none
 pin:∀p∈X.pn++z5,s.heap.get? p.1=some p.2/\H p.1=none/\p.1≠X.env.locals/\p.1∉X.fs/\∀v,p.2.data≠.cell v
 hok:HOk X.prog X.w H s.heap
 len:J.length=X.N.length
section
variable{X:Cx}{z5:Z3}{J:List (Option V)}{H H':Hp}{s:Shared}{h':Heap}
def Cx.Ok.nofr(ok:X.Ok){b:Addr}{o:Obj}(e:X.base.get? b=some o):b∉X.fs:=λhb=>by have:=(ok.funs.mem hb).1;rw[e]at this;cases this
def Inv.bs(I:Inv X z5 J H s):∀b o,X.base.get? b=some o->s.heap.get? b=some o/\H b=none:=λb o e=>
 ⟨I.base.keep b o (I.ok.bs b o e).1 (I.ok.bs b o e).2 (I.ok.nofr e) (I.ok.noex b o e),I.base.free b o (I.ok.bs b o e).1 (I.ok.bs b o e).2 (I.ok.noex b o e)⟩
def Inv.bk(I:Inv X z5 J H s):∀b o,X.base.get? b=some o->s.heap.get? b=some o:=λb o e=>(I.bs b o e).1
def Inv.mod(I:Inv X z5 J H s):Mod X.K X.mg X.base:=I.ok.mod
def Inv.kIn(I:Inv X z5 J H s):X.K.In s.heap:=I.ok.mod.kin.keeps I.bk
def Inv.fr(I:Inv X z5 J H s):∃m,Fr X.base X.env.locals s.heap m:=
 let ⟨m,hn,_⟩:=I.loc
 ⟨m,hn,I.bk,x6 I.ok.bsz I.ok.above⟩
def Inv.lt(I:Inv X z5 J H s):X.env.locals<s.heap.objs.size:=let ⟨_,hn,_⟩:=I.loc;hn.lt
def Inv.sz(I:Inv X z5 J H s):X.s₀.heap.objs.size<=s.heap.objs.size:=x6 I.ok.above (Nat.le_of_lt I.lt)
def Inv.nofs(I:Inv X z5 J H s){a:Addr}(h:s.heap.objs.size<=a):a∉X.fs:=λhb=>by let⟨_,o,ho,_⟩:=I.ok.funs.mem hb;exact absurd (jz (jd ho) (x6 I.sz h)) (xn _)
def Inv.cne(I:Inv X z5 J H s):∀x c,X.env.cells.lookup x=some c->c≠X.env.locals:=λx c e z=>by let⟨v,o,ho,hd⟩:=I.cell x c e;obtain⟨m,⟨o',es,ep,ho',hd',_⟩,_⟩:=I.loc;rw[z,ho']at ho;cases ho;rw[hd']at hd;cases hd
def Inv.funs(I:Inv X z5 J H s):s.heap.FunFrames X.base X.outer:=by
 have all:∀(l:List Env),(∀b∈dD l,b∈X.fs)->X.s₀.heap.FunFrames X.base l->s.heap.FunFrames X.base l:=by
  intro l;induction l with
  |nil=>intro _ _;trivial
  | cons env r ih=>
   intro hs hl;obtain⟨hk,⟨L,o,hf,hn,ho,hd⟩,hr⟩:=hl;have hL:L∈X.fs:=hs L (by unfold dD;rw[List.filterMap_cons,hf];exact jj);let⟨sl,e⟩:=I.base.slot L o ho (I.ok.frf L hL) hL λz=>I.ok.exfs L z hL;exact⟨hk,⟨L,_,hf,hn,e,hd⟩,ih (λb hb=>hs b (by unfold dD;rw[List.filterMap_cons,hf];exact jh _ hb)) hr⟩
 exact all X.outer (λ_ hb=>hb) I.ok.funs
def Inv.stack(I:Inv X z5 J H s):s.heap.FunFrames X.base X.stack:=by
 rcases I.ok.stk with e|⟨e,hf⟩
 .rw[e];exact I.funs
 .rw[e];obtain⟨m,hn,_⟩:=I.loc;refine .cons (by rw[I.ok.kind];decide) hf hn ?_ I.funs;exact vv (x6 I.ok.bsz I.ok.above)
def Inv.stkSub(I:Inv X z5 J H s):∀b∈dD X.stack,b∈X.env.locals::X.fs:=λb hb=>by
 rcases I.ok.stk with e|⟨e,hf⟩
 .rw[e]at hb;exact jh _ hb
 .rw[e]at hb;unfold dD at hb;rw[List.filterMap_cons,hf]at hb;exact hb
def Inv.stkFree(I:Inv X z5 J H s):∀b∈dD X.stack,H b=none:=λb hb=>by
 rcases List.mem_cons.mp (I.stkSub b hb)with e|hb
 .rw[e];exact I.free
 .let⟨_,o,ho,_⟩:=I.ok.funs.mem hb;exact I.base.free b o ho (I.ok.frf b hb) λz=>I.ok.exfs b z hb
def Inv.step{g':Array GenState}{t':Nat}{d':Drawn}{ch:List Addr}(I:Inv X z5 J H s)
 (hch:∀b∈ch,(b∈X.ex∨X.s₀.heap.objs.size<=b)/\b≠X.env.locals/\(∀x c,X.env.cells.lookup x=some c->c≠b)/\∀p∈X.pn++z5,p.1≠b)
 (keep:∀b o,b≠X.env.locals->b∉X.fs->b∉ch->s.heap.get? b=some o->H b=none->h'.get? b=some o)
 (slot:∀b o,b≠X.env.locals->b∈X.fs->b∉ch->s.heap.get? b=some o->H b=none->∃sl,h'.get? b=some {o with slots:=sl}) (free:∀b o,b∉ch->s.heap.get? b=some o->H b=none->H' b=none)
 (there:∀b o,b∉ch->s.heap.get? b=some o->∃o',h'.get? b=some o')
 (tups:∀b xs,H b=some (.tup xs)->H' b=some (.tup xs)) (frzs:∀b o u,H b=some (.frz o u)->H' b=some (.frz o u)) (tbls:∀b ps,H b=some (.tbl ps)->∃more,H' b=some (.tbl (ps++more)))
 (ns:∀m,s.heap.Ns X.env.locals m->h'.Ns X.env.locals m) (hok:HOk X.prog X.w H' h') (hg:AllBare g'):
 Inv X z5 J H' {s with heap:=h',gens:=g',drawn:=d',toks:=t'}:=by
 have neL:∀b o,X.s₀.heap.get? b=some o->b≠X.env.locals:=λb o e=>jo (jz (jd e) I.ok.above);have neC:∀b o,X.s₀.heap.get? b=some o->b∉X.ex->b∉ch:=λb o e hx hb=>by
  rcases(hch b hb).1 with z|z
  .exact hx z
  .exact absurd (jz (jd e) z) (xn _)
 have cellK:∀x c,X.env.cells.lookup x=some c->∀v,s.heap.IsCell c v->h'.IsCell c v:=λx c e v ⟨o,ho,hd⟩=>by
  have nch:c∉ch:=λz=>(hch c z).2.2.1 x c e rfl;by_cases hc:c∈X.fs
  .let⟨sl,q⟩:=slot c o (I.cne x c e) hc nch ho (I.freeC x c e);exact⟨_,q,hd⟩
  .exact⟨o,keep c o (I.cne x c e) hc nch ho (I.freeC x c e),hd⟩
 refine⟨I.ok,I.os,hg,⟨λb o e n hb hx=>?_,λb o e n hb hx=>?_,λb o e n hx=>?_,λb o e hx=>?_,λb xs e=>tups b xs (I.base.tups b xs e),λb o xs e=>frzs b o xs (I.base.frzs b o xs e),λb ps e=>?_⟩,?_,λx c e=>?_,?_,λx c e=>?_,λp hp=>?_,hok,I.len⟩
 .exact keep b o (neL b o e) hb (neC b o e hx) (I.base.keep b o e n hb hx) (I.base.free b o e n hx)
 .let⟨sl,e1⟩:=I.base.slot b o e n hb hx;let⟨sl',e2⟩:=slot b _ (neL b o e) hb (neC b o e hx) e1 (I.base.free b o e n hx);exact⟨sl',e2⟩
 .let⟨o',e1⟩:=I.base.there b o e hx;exact free b o' (neC b o e hx) e1 (I.base.free b o e n hx)
 .let⟨o',e1⟩:=I.base.there b o e hx;exact there b o' (neC b o e hx) e1
 .let⟨m1,e1⟩:=I.base.tbls b ps e;let⟨m2,e2⟩:=tbls b _ e1;exact⟨m1++m2,by rw[e2,Array.append_assoc]⟩
 .obtain⟨m,hn,hl⟩:=I.loc;refine⟨m,ns m hn,λi x v e1 e2 e3=>?_⟩;let⟨u,r,l⟩:=hl i x v e1 e2 e3;refine⟨u,r,?_⟩;rcases l with l|⟨k,c,e,z⟩
  .exact .inl l
  .exact .inr ⟨k,c,e,cellK x c e _ z⟩
 .let⟨v,z⟩:=I.cell x c e;exact⟨v,cellK x c e v z⟩
 .obtain⟨m,⟨o,_,_,ho,_⟩,_⟩:=I.loc;exact free _ o (λz=>(hch _ z).2.1 rfl) ho I.free
 .let⟨v,o,ho,hd⟩:=I.cell x c e;exact free c o (λz=>(hch c z).2.2.1 x c e rfl) ho (I.freeC x c e)
 .let⟨e,n,ne,nf,d⟩:=I.pin p hp;have nch:p.1∉ch:=λz=>(hch p.1 z).2.2.2 p hp rfl;exact⟨keep p.1 p.2 ne nf nch e n,free p.1 p.2 nch e n,ne,nf,d⟩
def Inv.un{t':Nat}(I:Inv X z5 J H s)(u:Un X.fs [] H H' s.heap h')(hok:HOk X.prog X.w H' h'):Inv X z5 J H' {s with heap:=h',toks:=t'}:=by
 let⟨m,⟨o,es,ep,ho,r⟩,_⟩:=id I.loc;let⟨sl,hL⟩:=u.any ho I.free (by simp);exact I.step (g':=s.gens) (d':=s.drawn) (ch:=[]) (λ_ z=>nomatch z) (λb o _ hb _ e n=>u.keep b o e n hb (by simp)) (λb o _ hb _ e n=>u.slot b o e n hb (by simp)) (λb o _ e n=>u.free b o e n (by simp)) (λb o _ e=>u.there b o e (by simp)) u.tups u.frzs u.tbls (λm' hm=>by obtain⟨o',es',ep',ho',r'⟩:=hm;rw[ho]at ho';cases ho';exact⟨_,es',ep',hL,r'⟩) hok I.bare
def Inv.call{g':Array GenState}{t':Nat}{d':Drawn}{ch:List Addr}(I:Inv X z5 J H s)(u:Un (dD X.stack) ch H H' s.heap h')(hok:HOk X.prog X.w H' h')(hg:AllBare g')
 (hch:∀b∈ch,(b∈X.ex∨X.s₀.heap.objs.size<=b)/\b≠X.env.locals/\(∀x c,X.env.cells.lookup x=some c->c≠b)/\∀p∈X.pn++z5,p.1≠b):
 Inv X z5 J H' {s with heap:=h',gens:=g',drawn:=d',toks:=t'}:=by
 let⟨m,⟨o,es,ep,ho,r⟩,_⟩:=id I.loc;let⟨sl,hL⟩:=u.any ho I.free λz=>(hch _ z).2.1 rfl;exact I.step (ch:=ch) hch (λb o hL hb hc e n=>u.keep b o e n (λz=>(List.mem_cons.mp (I.stkSub b z)).elim hL hb) hc) (λb o _ _ hc e n=>u.any e n hc) (λb o hc e n=>u.free b o e n hc) (λb o hc e=>u.there b o e hc) u.tups u.frzs u.tbls (λm' hm=>by obtain⟨o',es',ep',ho',r'⟩:=hm;rw[ho]at ho';cases ho';exact⟨_,es',ep',hL,r'⟩) hok hg
def Inv.turned{t':Nat}{it:Addr}(I:Inv X z5 J H s)(k:∀b o,b≠it->s.heap.get? b=some o->h'.get? b=some o)(hn:H it=none)(hL:it≠X.env.locals)
 (h1:it∈X.ex∨X.s₀.heap.objs.size<=it) (h2:∀x c,X.env.cells.lookup x=some c->c≠it) (h3:∀p∈X.pn++z5,p.1≠it):Inv X z5 J H {s with heap:=h',toks:=t'}:=by
 have nit:∀b u,H b=some u->b≠it:=λb u e z=>by rw[z,hn]at e;cases e
 refine I.step (g':=s.gens) (d':=s.drawn) (ch:=[it]) (λb hb=>?_) (λb o _ _ hc e _=>k b o (λz=>hc (by simp[z])) e) (λb o _ _ hc e _=>⟨o.slots,k b o (λz=>hc (by simp[z])) e⟩) (λ_ _ _ _ n=>n)
  (λb o hc e=>⟨o,k b o (λz=>hc (by simp[z])) e⟩) (λ_ _ e=>e) (λ_ _ _ e=>e) (λb ps e=>⟨#[],by rw[e];simp⟩) (λm hm=>?_) (λb u e=>?_) I.bare
 .have e:b=it:=by simpa using hb
  subst e;exact⟨h1,hL,h2,h3⟩
 .obtain⟨o,es,ep,ho,r⟩:=hm;exact⟨o,es,ep,k _ o (Ne.symm hL) ho,r⟩
 .refine(I.hok b u e).stay (λc v hc q=>k c v ?_ q) (λ_ q=>q) λ_ _ q=>q;rcases hc with z|z
  .rw[z];exact nit b u e
  .exact nit c _ z
def Inv.tok(I:Inv X z5 J H s)(t:Nat):Inv X z5 J H {s with toks:=t}:=I.un (h':=s.heap) (t':=t) Un.refl I.hok
def Inv.kept{t':Nat}(I:Inv X z5 J H s)(k:∀b u,s.heap.get? b=some u->h'.get? b=some u):Inv X z5 J H {s with heap:=h',toks:=t'}:=I.un (Un.kept k) (I.hok.kept k)
def Inv.laid{a:Addr}{o:HO}{t':Nat}(I:Inv X z5 J H s)(k:∀b u,s.heap.get? b=some u->h'.get? b=some u)(hp:s.heap.objs.size<=a)(new:ObjOk X.prog X.w (aN H a o) h' a o):
 Inv X z5 J (aN H a o) {s with heap:=h',toks:=t'}:=I.un (Un.laid k hp (I.hok.fresh hp)) (I.hok.laid k hp new)
def Inv.write{x e:Addr}{o:HO}{t':Nat}(I:Inv X z5 J H s)(mu:vK (H x))(he:e=x∨H e=some (.own x))(k:∀b u,b≠e->s.heap.get? b=some u->h'.get? b=some u)(heo:∃u,h'.get? e=some u)
 (new:ObjOk X.prog X.w (aN H x o) h' x o):Inv X z5 J (aN H x o) {s with heap:=h',toks:=t'}:=I.un (Un.write mu he k heo) (I.hok.write mu he k heo new)
def Inv.weak{J':List (Option V)}(I:Inv X z5 J H s)(hl:J'.length=J.length)(w:∀(i:Nat) v,J'[i]? =some (some v)->J[i]? =some (some v)):Inv X z5 J' H s:=
 ⟨I.ok,I.os,I.bare,I.base,let ⟨m,hn,hl'⟩:=I.loc;⟨m,hn,λi x v e1 e2 e3=>hl' i x v e1 (w i v e2) e3⟩,I.cell,I.free,I.freeC,I.pin,I.hok,hl.trans I.len⟩
def Inv.pins_of{pins':Z3}(I:Inv X z5 J H s)(h:∀p∈pins',s.heap.get? p.1=some p.2/\H p.1=none/\p.1≠X.env.locals/\p.1∉X.fs/\∀v,p.2.data≠.cell v):Inv X pins' J H s:=
 ⟨I.ok,I.os,I.bare,I.base,I.loc,I.cell,I.free,I.freeC,λp hp=>(List.mem_append.mp hp).elim (λz=>I.pin p (List.mem_append_left _ z)) (h p),I.hok,I.len⟩
def Gc{N:Zj}(hN:N.Nodup){i j:Nat}{x:Str}(a:N[i]? =some x)(b:N[j]? =some x):i=j:=by let⟨h1,e1⟩:=List.getElem?_eq_some_iff.mp a;let⟨h2,e2⟩:=List.getElem?_eq_some_iff.mp b;exact(List.getElem_inj hN).mp (e1.trans e2.symm)
def qfz{ρ:Model}{A:Around}{E:Z0}{i:Nat}{x:Str}{v:V}{u:Value}{Q:Unit->Shared->Prop}(I:Inv X z5 J H s)(hN:X.N.Nodup)(hi:X.N[i]? =some x)(hx:jX X.env.scope x)(r:RelV v u)
 (h:∀s',Inv X z5 (J.set i (some v)) H s'->(∃a,Heap.SameBut a s.heap s'.heap/\(a=X.env.locals∨X.env.cells.lookup x=some a))->Q () s') (hf:X.fn x=true∨X.env.scope.names.lookup x=some .local:=by first|exact .inl rfl|exact .inr rfl|assumption):wpAny ρ A (storeName X.env x u) Q E s:=by
 let⟨m,hn,hl⟩:=id I.loc;have hcls:(X.env.scope.kind==.class||(X.env.scope.kind==.module&&X.env.locals !=X.env.globals))=false:=by rw[I.ok.kind];rfl
 have hiσ:i<J.length:=by rw[I.len];exact(List.getElem?_eq_some_iff.mp hi).1
 have cne:=I.cne;have tracked:∀{a:Addr} {h':Heap},(∃o,s.heap.get? a=some o/\H a=none)->Heap.SameBut a s.heap h'->HOk X.prog X.w H h':=λ{a h'} ha hs b ob e=>by
  obtain⟨_,_,hfree⟩:=ha;refine(I.hok b ob e).stay (λc w' hc q=>(hs.2 c ?_).trans q) (λ_ q=>q) λ_ _ q=>q;rintro rfl;rcases hc with rfl|hc
  .rw[hfree]at e;cases e
  .rw[hfree]at hc;cases hc
 rcases hx with hk|hk
 .refine wpAny_storeName_local hk hn (λh' hn' hs=>?_) hcls;let⟨oL,_,_,hoL,_⟩:=id hn;refine h _ ⟨I.ok,I.os,I.bare,⟨λb o e n hb hx=>?_,λb o e n hb hx=>?_,I.base.free,λb o e hx=>?_,I.base.tups,I.base.frzs,I.base.tbls⟩,⟨_,hn',λj y v' e1 e2 e3=>?_⟩,λy c e=>?_,I.free,I.freeC,λp hp=>?_,tracked ⟨oL,hoL,I.free⟩ hs,by simpa using I.len⟩ ⟨_,hs,.inl rfl⟩
  .exact(hs.2 b (jo (jz (jd e) I.ok.above))).trans (I.base.keep b o e n hb hx)
  .let⟨sl,e1⟩:=I.base.slot b o e n hb hx;exact⟨sl,(hs.2 b (jo (jz (jd e) I.ok.above))).trans e1⟩
  .let⟨o',e1⟩:=I.base.there b o e hx;exact⟨o',(hs.2 b (jo (jz (jd e) I.ok.above))).trans e1⟩
  .by_cases hj:j=i
   .subst hj;rw[hi]at e1;cases e1;rw[xo hiσ]at e2;cases e2;exact⟨u,r,.inl ⟨hk,by simp⟩⟩
   .rw[jv (Ne.symm hj)]at e2;let⟨u',r',q⟩:=hl j y v' e1 e2 e3;refine⟨u',r',?_⟩;rcases q with⟨k,e⟩|⟨k,c,e,z⟩
    .refine .inl ⟨k,?_⟩;have:y≠x:=λe=>hj (Gc hN e1 (e▸hi));simp[this,e]
    .exact .inr ⟨k,c,e,z.sameBut hs (cne y c e)⟩
  .let⟨w',z⟩:=I.cell y c e;exact⟨w',z.sameBut hs (cne y c e)⟩
  .let⟨e,n,ne,nf,d⟩:=I.pin p hp;exact⟨(hs.2 p.1 ne).trans e,n,ne,nf,d⟩
 .have hfn:X.fn x=true:=by
   rcases hf with z|z
   .exact z
   .rw[z]at hk;cases hk
  let⟨c,hc⟩:=I.ok.has x (.inl hk);let⟨w',z⟩:=I.cell x c hc;refine wpAny_storeName_cell I.ok.kind hk hc z (λh' hc' hs=>?_);let⟨oc,hoc,hocd⟩:=id z;refine h {s with heap:=h'} ⟨I.ok,I.os,I.bare,⟨λb o e n hb hx=>?_,λb o e n hb hx=>?_,I.base.free,λb o e hx=>?_,I.base.tups,I.base.frzs,I.base.tbls⟩,⟨m,hn.sameBut hs (Ne.symm (cne x c hc)),λj y v' e1 e2 e3=>?_⟩,λy c' e=>?_,I.free,I.freeC,λp hp=>?_,tracked ⟨oc,hoc,I.freeC x c hc⟩ hs,by simpa using I.len⟩ ⟨c,hs,.inr hc⟩
  .exact(hs.2 b (jo (jz (jd e) (I.ok.cab x c hfn hc)))).trans (I.base.keep b o e n hb hx)
  .let⟨sl,e1⟩:=I.base.slot b o e n hb hx;exact⟨sl,(hs.2 b (jo (jz (jd e) (I.ok.cab x c hfn hc)))).trans e1⟩
  .let⟨o',e1⟩:=I.base.there b o e hx;exact⟨o',(hs.2 b (jo (jz (jd e) (I.ok.cab x c hfn hc)))).trans e1⟩
  .by_cases hj:j=i
   .subst hj;rw[hi]at e1;cases e1;rw[xo hiσ]at e2;cases e2;exact⟨u,r,.inr ⟨.inl hk,c,hc,hc'⟩⟩
   .rw[jv (Ne.symm hj)]at e2;let⟨u',r',q⟩:=hl j y v' e1 e2 e3;refine⟨u',r',?_⟩;rcases q with q|⟨k,c',e,z'⟩
    .exact .inl q
    .refine .inr ⟨k,c',e,z'.sameBut hs ?_⟩;rintro rfl;exact hj (Gc hN e1 (I.ok.inj _ _ _ e hc▸hi))
  .by_cases hcc:c'=c
   .subst hcc;exact⟨_,hc'⟩
   .let⟨w2,z2⟩:=I.cell y c' e;exact⟨w2,z2.sameBut hs hcc⟩
  .let⟨e,n,ne,nf,d⟩:=I.pin p hp;refine⟨(hs.2 p.1 ?_).trans e,n,ne,nf,d⟩;intro q;rw[q,hoc]at e;have q':oc=p.2:=jl e;exact d w' (by rw[<-q'];exact hocd)
def zP{ρ:Model}{A:Around}{E:Z0}{i:Nat}{x:Str}{v:V}{u:Value}{Q:Unit->Shared->Prop}(I:Inv X z5 J H s)(hN:X.N.Nodup)(hi:X.N[i]? =some x)(hx:jX X.env.scope x)(r:RelV v u)
 (h:∀s',Inv X z5 (J.set i (some v)) H s'->Q () s') (hf:X.fn x=true∨X.env.scope.names.lookup x=some .local:=by first|exact .inl rfl|exact .inr rfl|assumption):wpAny ρ A (storeName X.env x u) Q E s:=
 qfz I hN hi hx r (λs' I' _=>h s' I') hf
def Inv.call'{s':Shared}{ch:List Addr}(I:Inv X z5 J H s)(ho:s'.os=s.os)(u:Un (dD X.stack) ch H H' s.heap s'.heap)(hok:HOk X.prog X.w H' s'.heap)(hg:AllBare s'.gens)
 (hch:∀b∈ch,(b∈X.ex∨X.s₀.heap.objs.size<=b)/\b≠X.env.locals/\(∀x c,X.env.cells.lookup x=some c->c≠b)/\∀p∈X.pn++z5,p.1≠b):Inv X z5 J H' s':=by
 obtain⟨h',g',d',t',o'⟩:=s';have e:o'=s.os:=ho;subst e;exact I.call (g':=g') (t':=t') (d':=d') u hok hg hch
end
abbrev XK:=Value->Option Addr->Hp->Prop
abbrev St:=List (Option V)
abbrev VK:=V->Hp->Prop
abbrev TE:=St->Hp->VK->Prop
abbrev TT:=St->Hp->(Bool->Hp->Prop)->Prop
abbrev TA:=St->Hp->(List V->Hp->Prop)->Prop
structure Ends where
 nx:St->Hp->Prop
 rt:VK
 bk:St->Hp->Prop:=λ_ _=>False
 ct:St->Hp->Prop:=λ_ _=>False
abbrev TS:=Ends->St->Hp->Prop
def EP(X:Cx)(z5:Z3)(J:St)(Q:VK)(u:Value)(s':Shared):Prop:=∃v H',Inv X z5 J H' s'/\RelV v u/\Q v H'
def TP(X:Cx)(z5:Z3)(J:St)(Q:Bool->Hp->Prop)(b:Bool)(s':Shared):Prop:=∃H',Inv X z5 J H' s'/\Q b H'
def AP(X:Cx)(z5:Z3)(J:St)(Q:List V->Hp->Prop)(us:Ze)(s':Shared):Prop:=∃vs H',Inv X z5 J H' s'/\Vals vs us/\Q vs H'
def SP(X:Cx)(z5:Z3)(D:Ends)(f:Flow)(s':Shared):Prop:=
 match f with
 |.next=>∃J' H',Inv X z5 J' H' s'/\D.nx J' H'
 |.brk=>∃J' H',Inv X z5 J' H' s'/\D.bk J' H'
 |.cont=>∃J' H',Inv X z5 J' H' s'/\D.ct J' H'
 |.ret u=>∃v J' H',Inv X z5 J' H' s'/\RelV v u/\D.rt v H'
def PE(X:Cx)(e:Expr)(t:TE):Prop:=
 ∀(z5:Z3) (s:Shared) (J:St) (H:Hp) (Q:VK),Inv X z5 J H s->t J H Q->wpAny (model X.prog X.w) X.A (eval e X.env) (EP X z5 J Q) X.xe s
def PT(X:Cx)(e:Expr)(t:TT):Prop:=
 ∀(z5:Z3) (s:Shared) (J:St) (H:Hp) (Q:Bool->Hp->Prop),Inv X z5 J H s->t J H Q->wpAny (model X.prog X.w) X.A (isTrue e X.env (eval e X.env)) (TP X z5 J Q) X.xe s
def PW(X:Cx)(e:Expr)(t:TT):Prop:=
 ∀(j0:Sem Value) (z5:Z3) (s:Shared) (J:St) (H:Hp) (Q:Bool->Hp->Prop),Inv X z5 J H s->t J H Q->wpAny (model X.prog X.w) X.A (isTrue e X.env j0) (TP X z5 J Q) X.xe s
def PW.pt{X:Cx}{e:Expr}{t:TT}(h:PW X e t):PT X e t:=h _
def PA(X:Cx)(es:Zi)(t:TA):Prop:=
 ∀(pos:Pos) (z5:Z3) (s:Shared) (J:St) (H:Hp) (Q:List V->Hp->Prop),Inv X z5 J H s->t J H Q->wpAny (model X.prog X.w) X.A (spliced (backTo pos (starEach es X.env))) (AP X z5 J Q) X.xe s
def PS(X:Cx)(st:Stmt)(t:TS):Prop:=
 ∀(z5:Z3) (s:Shared) (J:St) (H:Hp) (D:Ends),Inv X z5 J H s->t D J H->wpAny (model X.prog X.w) X.A (exec st X.env) (SP X z5 D) X.xe s
def PSs(X:Cx)(st:Zh)(t:TS):Prop:=
 ∀(z5:Z3) (s:Shared) (J:St) (H:Hp) (D:Ends),Inv X z5 J H s->t D J H->wpAny (model X.prog X.w) X.A (execs st X.env) (SP X z5 D) X.xe s
def aW{α:Type}{t:Sem α}{Q Q':α->Shared->Prop}{ρ:Model}{A:Around}{E:Z0}{s:Shared}(h:wpAny ρ A t Q E s)(hQ:∀a s,Q a s->Q' a s):wpAny ρ A t Q' E s:=xj h hQ λ_ _ x=>x
section
variable{X:Cx}
def dq(i:Nat):TE:=λJ H Q=>∃v,J[i]? =some (some v)/\Q v H
def tC(v:V):TE:=λ_ H Q=>Q v H
def qu8{i:Nat}{x:Str}{pos:Pos}(hN:X.N[i]? =some x)(hv:jV X.env.scope x)(hd:(x==("__debug__":Str))=false:=by decide)(hcd:(x==("__classdict__":Str))=false:=by decide):PE X (.Name x pos) (dq i):=by
 intro z5 s J H Q I h;obtain⟨v,e,h⟩:=h;obtain⟨m,hn,hl⟩:=I.loc;let⟨u,r,l⟩:=hl i x v hN e hv;have fin:EP X z5 J Q u s:=⟨v,H,I,r,h⟩;rcases l with⟨hk,hm⟩|⟨hk,c,hc,zt⟩
 .exact wpAny_Name (wpAny_loadName_local I.ok.kind hk hn hm fin) hd
 .rcases hk with hk|hk
  .exact wpAny_Name (wpAny_loadName_cell I.ok.kind hk hc zt fin) hd
  .exact wpAny_Name (wpAny_loadName_free I.ok.kind hk hc zt fin hcd) hd
def aD{i j pos}:PE X (.Constant (.int i) j pos) (tC (.int i)):=λ_ _ _ H _ I h=>wpAny_Constant_int ⟨.int i,H,I.tok _,⟨_,rfl⟩,h⟩
def mf{b j pos}:PE X (.Constant (.bool b) j pos) (tC (.bl b)):=λ_ _ _ H _ I h=>Constant_bool ⟨.bl b,H,I,rfl,h⟩
def iW{j pos}:PE X (.Constant .none j pos) (tC .non):=λ_ _ _ H _ I h=>Constant_none ⟨.non,H,I,rfl,h⟩
def gP{x j pos}:PE X (.Constant (.str x) j pos) (tC (.str x)):=λ_ _ _ H _ I h=>Calls.Constant_str ⟨.str x,H,I.tok _,⟨_,rfl⟩,h⟩
def Gl(X:Cx)(x:Str):Prop:=X.env.kindOf x=some .globalImplicit
def pj{E:Z0}{z5:Z3}{s:Shared}{J:St}{H:Hp}{x:Str}{u:Value}{pos:Pos}{Q:Z0}(I:Inv X z5 J H s)(hg:Gl X x)(hm:X.mg x=some u)(h:Q u s)
 (hd:(x==("__debug__":Str))=false:=by decide):wpAny (model X.prog X.w) X.A (eval (.Name x pos) X.env) Q E s:=
 Calls.Name_function_global I.ok.kind hg (Calls.loadGlobal_global (by rw[I.ok.glob];exact I.mod.glob.keeps I.bk) hm h) hd
def ia{E:Z0}{z5:Z3}{s:Shared}{J:St}{H:Hp}{x:Str}{u:Value}{pos:Pos}{Q:Z0}(I:Inv X z5 J H s)(hg:Gl X x)(hm:X.mg x=none)(hv:bootBuiltins x=some u)(h:Q u s)
 (hn:x≠"__name__":=by decide) (hd:(x==("__debug__":Str))=false:=by decide):wpAny (model X.prog X.w) X.A (eval (.Name x pos) X.env) Q E s:=by
 obtain⟨mb,h1,h2⟩:=I.mod.blt;exact Calls.Name_function_global I.ok.kind hg (Calls.loadGlobal_builtin (by rw[I.ok.glob];exact I.mod.glob.keeps I.bk) hm (by rw[I.ok.blt];exact h1.keeps I.bk) ((h2 x hn).trans hv) h) hd
def uE{x:Str}{v:V}{u:Value}{pos:Pos}(hg:Gl X x)(hm:X.mg x=none)(hv:bootBuiltins x=some u)(r:RelV v u)(hn:x≠"__name__":=by decide)(hd:(x==("__debug__":Str))=false:=by decide):PE X (.Name x pos) (tC v):=
 λ_ _ _ H _ I h=>ia I hg hm hv ⟨v,H,I,r,h⟩ hn hd
variable{a b:Expr}{ta tb:TE}{pos:Pos}
def tB(t:TE):TT:=λJ H Q=>t J H λx H1=>∃c,x=.bl c/\Q c H1
def mw{e:Expr}{t:TE}(h:PE X e t)(he:∀j0,isTrue e X.env j0=(do let v <-j0;standAt e.pos;holding [v] (truthy v)):=by intro _;rfl):PT X e (tB t):=by intro z5 s J H Q I hw;refine isTrue_plain (aW (h z5 s J H _ I hw) λv s1 ⟨x,H1,I1,r1,q1⟩=>?_) (he _);obtain⟨d,rfl,q⟩:=q1;cases r1;exact kl ⟨H1,I1,q⟩
variable{tA tB':TT}{rest:Zi}
def rN(t u:TT):TT:=λJ H Q=>t J H λc H1=>if c=true then u J H1 Q else Q false H1
def CK(t u:TT):TT:=λJ H Q=>t J H λc H1=>if c=true then Q true H1 else u J H1 Q
def rM(t:TT):TT:=λJ H Q=>t J H λc H1=>Q (!c) H1
def lX(ha:PT X a tA):PW X (.BoolOp .And [a] pos) tA:=by
 intro wh z5 s J H Q I h;refine isTrue_and (aW (ha z5 s J H Q I h) λc s1 e=>?_);cases c with
 |true=>exact isTrue_and_nil e
 |false=>exact e
def gL(ha:PT X a tA):PW X (.BoolOp .Or [a] pos) tA:=by
 intro wh z5 s J H Q I h;refine isTrue_or (aW (ha z5 s J H Q I h) λc s1 e=>?_);cases c with
 |false=>exact isTrue_or_nil e
 |true=>exact e
def oF(ha:PT X a tA)(hb:PW X (.BoolOp .And (b::rest) pos) tB'):PW X (.BoolOp .And (a::b::rest) pos) (rN tA tB'):=by
 intro wh z5 s J H Q I h;refine isTrue_and (aW (ha z5 s J H _ I h) λc s1 ⟨H1,I1,q1⟩=>?_);cases c with
 |true=>exact hb wh z5 s1 J H1 Q I1 q1
 |false=>exact⟨H1,I1,q1⟩
def g6(ha:PT X a tA)(hb:PW X (.BoolOp .Or (b::rest) pos) tB'):PW X (.BoolOp .Or (a::b::rest) pos) (CK tA tB'):=by
 intro wh z5 s J H Q I h;refine isTrue_or (aW (ha z5 s J H _ I h) λc s1 ⟨H1,I1,q1⟩=>?_);cases c with
 |true=>exact⟨H1,I1,q1⟩
 |false=>exact hb wh z5 s1 J H1 Q I1 q1
def qF(ha:PT X a tA):PT X (.UnaryOp .Not a pos) (rM tA):=by intro z5 s J H Q I h;exact isTrue_not (ha z5 s J H (λc H1=>Q (!c) H1) I h)
def Dt(ta tb:TE):TE:=λJ H Q=>ta J H λx H1=>∃c,x=.bl c/\if c=true then tb J H1 Q else Q (.bl false) H1
def DF(ta:TE):TE:=λJ H Q=>ta J H λx H1=>∃c,x=.bl c/\Q (.bl (!c)) H1
def En{op}{t:TE}(h:PE X a t):PE X (.BoolOp op [a] pos) t:=λz5 s J H Q I hw=>BoolOp_one (h z5 s J H Q I hw)
def Em(ha:PE X a ta)(hb:PE X (.BoolOp .And (b::rest) pos) tb):PE X (.BoolOp .And (a::b::rest) pos) (Dt ta tb):=by
 intro z5 s J H Q I h;refine BoolOp_and (aW (ha z5 s J H _ I h) λv s1 ⟨x,H1,I1,r1,q1⟩=>?_);obtain⟨c,rfl,q1⟩:=q1;cases r1;refine kl ?_;cases c with
 |true=>exact hb z5 s1 J H1 Q I1 q1
 |false=>exact⟨.bl false,H1,I1,rfl,q1⟩
def qu9(ha:PE X a ta):PE X (.UnaryOp .Not a pos) (DF ta):=by intro z5 s J H Q I h;refine UnaryOp_ (aW (ha z5 s J H _ I h) λv s1 ⟨x,H1,I1,r1,q1⟩=>?_);obtain⟨c,rfl,q1⟩:=q1;cases r1;exact not_of (kl ⟨.bl (!c),H1,I1,rfl,q1⟩)
def wF(t:TT)(ta tb:TE):TE:=λJ H Q=>t J H λc H1=>if c=true then ta J H1 Q else tb J H1 Q
def iZ{c:Expr}(hc:PT X c tA)(ha:PE X a ta)(hb:PE X b tb):PE X (.IfExp c a b pos) (wF tA ta tb):=by
 intro z5 s J H Q I h;refine wpAny_IfExp (aW (hc z5 s J H _ I h) λd s1 ⟨H1,I1,q1⟩=>?_);cases d with
 |true=>exact ha z5 s1 J H1 Q I1 q1
 |false=>exact hb z5 s1 J H1 Q I1 q1
end
def SqL(K:am)(H:Hp)(a:Addr)(xs:List V):Prop:=
 Rd H a (.lst xs)∨
  ∃(o:Obj) (its:Zd) (n:Nat),K.lookup a=some o/\o.cls=.type "list"/\o.dict=none/\o.data=.seq its n/\its.size<=sizeLine/\Vals xs its.toList
def SqT(K:am)(H:Hp)(a:Addr)(xs:List V):Prop:=
 Rd H a (.tup xs)∨
  ∃(o:Obj) (its:Zd) (n:Nat),K.lookup a=some o/\o.cls=.type "tuple"/\o.dict=none/\o.data=.seq its n/\its.size<=sizeLine/\Vals xs its.toList
noncomputable def BM:Value->Option V
 |.none=>some .non
 |.bool b=>some (.bl b)
 |.int i _=>some (.int i)
 |.str x _=>some (.str x)
 |.bytes b _=>some (.byt b)
 |.float b _=>some (.flt b)
 |.ref a=>some (.ref a)
 |.type n=>some (.ty n)
 |_=>none
def RelV.abs{x:V}{u:Value}(r:RelV x u):BM u=some x:=by
 cases x with
 |non=>cases r;rfl
 |bl _=>cases r;rfl
 |int _=>obtain⟨t,rfl⟩:=r;rfl
 |str _=>obtain⟨t,rfl⟩:=r;rfl
 |byt _=>obtain⟨t,rfl⟩:=r;rfl
 |flt _=>obtain⟨t,rfl⟩:=r;rfl
 |ref _=>cases r;rfl
 |ty _=>cases r;rfl
def RelV.inj{x y:V}{u:Value}(r:RelV x u)(q:RelV y u):x=y:=jl (r.abs.symm.trans q.abs)
theorem Vals.inj:∀{xs ys:List V} {us:Ze},Vals xs us->Vals ys us->xs=ys
 |_,_,_,.nil,.nil=>rfl
 |_,_,_,.cons r t,.cons r' t'=>by rw[r.inj r',Vals.inj t t']
section
variable{X:Cx}{z5:Z3}{J:St}{H:Hp}{s:Shared}{a:Addr}{xs ys:List V}
def SqL.of{K:am}(h:H a=some (.lst xs)):SqL K H a xs:=.inl (.inl h)
def SqT.of{K:am}(h:H a=some (.tup xs)):SqT K H a xs:=.inl (.inl h)
def Inv.list(I:Inv X z5 J H s)(h:SqL X.K H a xs):∃its:List Value,Vals xs its/\PlainL s.heap a its.toArray/\xs.length<=sizeLine:=by
 rcases h with h|⟨o,its,n,hk,hc,hd,hs,hz,r⟩
 .let⟨z,its,n,r,e⟩:=h.ok I.hok;exact⟨its,r,⟨_,n,e,rfl,rfl,rfl⟩,z⟩
 .refine⟨its.toList,r,⟨o,n,I.kIn a o hk,hc,hd,by simpa using hs⟩,?_⟩;have e:=r.length;simp only[Array.length_toList]at e;omega
def Inv.tupN(I:Inv X z5 J H s)(h:SqT X.K H a xs):∃its:List Value,Vals xs its/\TupN s.heap a its.toArray/\xs.length<=sizeLine:=by
 rcases h with h|⟨o,its,n,hk,hc,hd,hs,hz,r⟩
 .let⟨z,its,r,p⟩:=h.ok I.hok;exact⟨its,r,p,z⟩
 .refine⟨its.toList,r,⟨o,I.kIn a o hk,⟨hc,n,by simpa using hs⟩,hd⟩,?_⟩;have e:=r.length;simp only[Array.length_toList]at e;omega
def Inv.tuple(I:Inv X z5 J H s)(h:SqT X.K H a xs):∃its:List Value,Vals xs its/\IsTup s.heap a its.toArray/\xs.length<=sizeLine:=let ⟨its,r,p,z⟩:=I.tupN h;⟨its,r,p.tup,z⟩
def Inv.list_inj(I:Inv X z5 J H s)(h:SqL X.K H a xs)(h':SqL X.K H a ys):xs=ys:=by
 let⟨its,r,⟨o,n,e,_,_,d⟩,_⟩:=I.list h;let⟨its',r',⟨o',n',e',_,_,d'⟩,_⟩:=I.list h';rw[e]at e';cases e';rw[d]at d';injection d' with d1 _;have:its=its':=by simpa using congrArg Array.toList d1
 subst this;exact r.inj r'
def Inv.tuple_inj(I:Inv X z5 J H s)(h:SqT X.K H a xs)(h':SqT X.K H a ys):xs=ys:=by
 let⟨its,r,⟨o,e,_,n,d⟩,_⟩:=I.tuple h;let⟨its',r',⟨o',e',_,n',d'⟩,_⟩:=I.tuple h';rw[e]at e';cases e';rw[d]at d';injection d' with d1 _;have:its=its':=by simpa using congrArg Array.toList d1
 subst this;exact r.inj r'
end
abbrev Cx.wish(X:Cx)(E:Z0):Cx:={X with xe:=E}
abbrev Cx.nox(X:Cx):Cx:=X.wish λ_ _=>False
def Cx.Ok.wish{X:Cx}(ok:X.Ok)(E:Z0):(X.wish E).Ok:=
 ⟨ok.mod,ok.kind,ok.glob,ok.blt,ok.above,ok.inj,ok.has,ok.cab,ok.hd,ok.frames,ok.stk,ok.exf,ok.bs,ok.bsz,ok.noex,ok.exfs,ok.funs,ok.frf⟩
def Cx.Ok.unwish{X:Cx}{E:Z0}(ok:(X.wish E).Ok):X.Ok:=
 ⟨ok.mod,ok.kind,ok.glob,ok.blt,ok.above,ok.inj,ok.has,ok.cab,ok.hd,ok.frames,ok.stk,ok.exf,ok.bs,ok.bsz,ok.noex,ok.exfs,ok.funs,ok.frf⟩
section
variable{X:Cx}{z5:Z3}{J:St}{H:Hp}{s:Shared}{E:Z0}
def Inv.wish(I:Inv X z5 J H s)(E:Z0):Inv (X.wish E) z5 J H s:=⟨I.ok.wish E,I.os,I.bare,I.base,I.loc,I.cell,I.free,I.freeC,I.pin,I.hok,I.len⟩
def Inv.unwish(I:Inv (X.wish E) z5 J H s):Inv X z5 J H s:=⟨I.ok.unwish,I.os,I.bare,I.base,I.loc,I.cell,I.free,I.freeC,I.pin,I.hok,I.len⟩
def SP.unwish{D:Ends}{f:Flow}{s':Shared}(h:SP (X.wish E) z5 D f s'):SP X z5 D f s':=by
 cases f with
 |next=>obtain⟨J',H',I,q⟩:=h;exact⟨J',H',I.unwish,q⟩
 |brk=>obtain⟨J',H',I,q⟩:=h;exact⟨J',H',I.unwish,q⟩
 |cont=>obtain⟨J',H',I,q⟩:=h;exact⟨J',H',I.unwish,q⟩
 |ret u=>obtain⟨v,J',H',I,r,q⟩:=h;exact⟨v,J',H',I.unwish,r,q⟩
def PSs.nox{st:Zh}{t:TS}(h:PSs X.nox st t):PSs X st t:=λz5 s J H D I hw=>
 xj (h z5 s J H D (I.wish _) hw) (λ_ _ q=>q.unwish) λ_ _ z=>False.elim z
end
section
variable{X:Cx}{st:Stmt}{rest:Zh}{t u:TS}{e:Expr}{te:TE}{pos:Pos}
def DE:TS:=λD J H=>D.nx J H
def i7(t u:TS):TS:=λD J H=>t {D with nx:=u D} J H
def gC:PSs X [] DE:=λ_ _ J H _ I h=>vp ⟨J,H,I,h⟩
def aX(h1:PS X st t)(h2:PSs X rest u):PSs X (st::rest) (i7 t u):=by
 intro z5 s J H D I h;refine wpAny_execs_cons (aW (h1 z5 s J H {D with nx:=u D} I h) λf s1 q=>?_);cases f with
 | next=>
  obtain⟨J',H',I',q⟩:=q;exact h2 z5 s1 J' H' D I' q
 |ret v=>exact q
 |brk=>exact q
 |cont=>exact q
def aZ(h1:PS X st t):PSs X [st] t:=by
 intro z5 s J H D I h;refine wpAny_execs_cons (aW (h1 z5 s J H D I h) λf s1 q=>?_);cases f with
 |next=>exact vp q
 |ret v=>exact q
 |brk=>exact q
 |cont=>exact q
def Du:TS:=λD J H=>D.ct J H
def qbq:PS X (.Continue pos) Du:=λ_ _ J H _ I h=>wpAny_Continue ⟨J,H,I,h⟩
def Inv.quiet{z5:Z3}{J:St}{H:Hp}{s:Shared}(I:Inv X z5 J H s):interactive X.env=false:=by simp[interactive,I.ok.kind]
def mU(te:TE):TS:=λD J H=>te J H λ_ H1=>D.nx J H1
def kN(he:PE X e te)(hs:swapsWith e none pos.line X.env=pure false:=by rfl):PS X (.Expr e pos) (mU te):=by intro z5 s J H D I h;exact wpAny_Expr_any (aW (he z5 s J H _ I h) λv s1 ⟨x,H1,I1,r1,q1⟩=>⟨J,H1,I1,q1⟩) I.quiet hs
def iq(te:TE):TS:=λD J H=>te J H D.rt
def bW(he:PE X e te):PS X (.Return (some e) pos) (iq te):=by intro z5 s J H D I h;exact wpAny_Return_some (aW (he z5 s J H _ I h) λv s1 ⟨x,H1,I1,r1,q1⟩=>⟨x,J,H1,I1,r1,q1⟩)
def nA(c:TT)(t u:TS):TS:=λD J H=>c J H λb H1=>if b=true then t D J H1 else u D J H1
def gx{c:Expr}{a b:Zh}{tc:TT}(hc:PT X c tc)(ha:PSs X a t)(hb:PSs X b u):PS X (.If c a b pos) (nA tc t u):=by
 intro z5 s J H D I h;refine wpAny_If (aW (hc z5 s J H _ I h) λd s1 ⟨H1,I1,q1⟩=>?_);cases d with
 |true=>exact ha z5 s1 J H1 D I1 q1
 |false=>exact hb z5 s1 J H1 D I1 q1
def EF:TS:=λ_ _ _=>False
def qku:PS X st EF:=λ_ _ _ _ _ _ h=>h.elim
end
abbrev TG:=V->St->Hp->(St->Hp->Prop)->Prop
abbrev jW:=List V->St->Hp->(St->Hp->Prop)->Prop
def PG(X:Cx)(zm:Expr)(t:TG):Prop:=
 ∀(z5:Z3) (s:Shared) (J:St) (H:Hp) (v:V) (u:Value) (Q:St->Hp->Prop),Inv X z5 J H s->RelV v u->t v J H Q->
   wpAny (model X.prog X.w) X.A (assign zm X.env u) (λ_ s'=>∃J' H',Inv X z5 J' H' s'/\Q J' H') X.xe s
def rE(X:Cx)(ts:Zi)(t:jW):Prop:=
 ∀(z5:Z3) (s:Shared) (J:St) (H:Hp) (vs:List V) (us:Ze) (Q:St->Hp->Prop),Inv X z5 J H s->Vals vs us->t vs J H Q->
   wpAny (model X.prog X.w) X.A (assignInOrder ((assignEach ts X.env).map (·.2)) us) (λ_ s'=>∃J' H',Inv X z5 J' H' s'/\Q J' H') X.xe s
abbrev oy:=V->V->V->Hp->(Hp->Prop)->Prop
def oz(X:Cx)(t:oy):Prop:=
 ∀(z5:Z3) (s:Shared) (J:St) (H:Hp) (o i v:V) (ov iv u:Value) (Q:Hp->Prop),Inv X z5 J H s->RelV o ov->RelV i iv->RelV v u->t o i v H Q->
   wpAny (model X.prog X.w) X.A (setItem ov iv u) (λ_ s'=>∃H',Inv X z5 J H' s'/\Q H') X.xe s
section
variable{X:Cx}{pos:Pos}
def gh(i:Nat):TG:=λv J H Q=>Q (J.set i (some v)) H
def jS{i:Nat}{x:Str}(hN:X.N.Nodup)(hi:X.N[i]? =some x)(hx:jX X.env.scope x)(hf:X.fn x=true∨X.env.scope.names.lookup x=some .local:=by first|exact .inl rfl|exact .inr rfl|assumption):PG X (.Name x pos) (gh i):=by intro z5 s J H v u Q I r h;exact wpAny_assign_Name (zP I hN hi hx r (λs' I'=>⟨_,H,I',h⟩) hf)
def gg(i:Nat){x:Str}(hN:X.N.Nodup)(hi:X.N[i]? =some x:=by rfl)(hx:jX X.env.scope x:=by first|exact .inl rfl|exact .inr rfl)(hf:X.fn x=true∨X.env.scope.names.lookup x=some .local:=by first|exact .inl rfl|exact .inr rfl|assumption):PG X (.Name x pos) (gh i):=jS hN hi hx hf
def n9:jW:=λvs J H Q=>vs=[]/\Q J H
def tP(t:TG)(u:jW):jW:=λvs J H Q=>∃v r,vs=v::r/\t v J H λJ' H'=>u r J' H' Q
def qP:rE X [] n9:=by intro z5 s J H vs us Q I r h;obtain⟨e,h⟩:=h;subst e;cases r;exact assignInOrder_nil ⟨J,H,I,h⟩
def jQ{e:Expr}{es:Zi}{t:TG}{u:jW}(h1:PG X e t)(h2:rE X es u)
 (hs:(assignEach (e::es) X.env).map (·.2)=assign e X.env::(assignEach es X.env).map (·.2):=by rfl):rE X (e::es) (tP t u):=by
 intro z5 s J H vs us Q I r h;obtain⟨v,vr,e1,h⟩:=h;subst e1;cases r with
 | cons r rr=>
  rw[hs];refine assignInOrder_cons (aW (h1 z5 s J H _ _ _ I r h) λ_ s1 ⟨J1,H1,I1,q1⟩=>?_);exact h2 z5 s1 J1 H1 _ _ Q I1 rr q1
def lM(K:am)(n:Nat)(t:jW):TG:=λv J H Q=>∃a xs,v=.ref a/\SqT K H a xs/\xs.length=n/\t xs J H Q
def qu7{es:Zi}{k:Nat}{t:jW}{n:Nat}(hc:X.calm=true)(h:rE X es t)
 (hn:(assignEach es X.env).length=n:=by rfl) (hst:(assignEach es X.env).findIdx? (·.1)=none:=by rfl):PG X (.Tuple es k pos) (lM X.K n t):=by
 intro z5 s J H v u Q I r hw;obtain⟨a,xs,e1,hq,hl,hw⟩:=hw;subst e1;cases r;let⟨its,rv,ht,hz⟩:=I.tuple hq;refine assign_Tuple_tuple (I.ok.hd hc) ht (by simp[hn,<-hl,rv.length]) hst λh' hx=>?_;have I1:Inv X z5 J H {s with heap:=h'}:=I.kept (t':=s.toks) λb o e=>hx b o (jo (jd e)) e;exact h z5 _ J H xs _ Q I1 (by simpa using rv) hw
def nZ(to ti:TE)(t:oy):TG:=λv J H Q=>to J H λo H1=>ti J H1 λi H2=>t o i v H2 λH3=>Q J H3
def Eo{o i:Expr}{to ti:TE}{t:oy}(ho:PE X o to)(hi:PE X i ti)(hs:oz X t)
 (ha:∀v,assign (.Subscript o i pos) X.env v=(do
   let ov <-holding [v] (eval o X.env)
   let iv <-holding [v,ov] (eval i X.env)
   standAt pos
   holding [v,ov,iv] (setItem ov iv v)
   release [v,ov,iv] []):=by intro _;rfl):PG X (.Subscript o i pos) (nZ to ti t):=by
 intro z5 s J H v u Q I r h;rw[ha];refine ja (xr (aW (ho z5 s J H _ I h) λov s1 ⟨x,H1,I1,r1,q1⟩=>?_));refine ja (xr (aW (hi z5 s1 J H1 _ I1 q1) λiv s2 ⟨y,H2,I2,r2,q2⟩=>?_));refine ja (wpAny_standAt (ja (xr (aW (hs z5 s2 J H2 x y v ov iv u _ I2 r1 r2 r q2) λ_ s3 ⟨H3,I3,q3⟩=>?_))));exact wpAny_release ⟨J,H3,I3,q3⟩
def eH(te:TE)(g:TG):TS:=λD J H=>te J H λx H1=>g x J H1 D.nx
def ya{tg e:Expr}{te:TE}{g:TG}(he:PE X e te)(hg:PG X tg g)(hs:swapsWithSole [tg] e pos.line X.env=pure false:=by rfl)(hw:swappedStores [tg] e X.env=pure none:=by rfl)
 (h1:(assignEach [tg] X.env).map (·.2)=[assign tg X.env]:=by rfl):PS X (.Assign [tg] e pos) (eH te g):=by
 intro z5 s J H D I h;refine wpAny_Assign_stores (aW (he z5 s J H _ I h) λv s1 ⟨x,H1,I1,r1,q1⟩=>?_) hs hw;rw[h1];exact aW (hg z5 s1 J H1 x v _ I1 r1 q1) λ_ s2 q=>q
def q0t{i:Nat}{x:Str}{e:Expr}{te:TE}{j7:Pos}(hN:X.N.Nodup)(hi:X.N[i]? =some x)(hx:jX X.env.scope x)(he:PE X e te)(hs:swapsWith e (some (.Name x j7)) pos.line X.env=pure false:=by rfl)(hf:X.fn x=true∨X.env.scope.names.lookup x=some .local:=by first|exact .inl rfl|exact .inr rfl|assumption):
 PS X (.Assign [.Name x j7] e pos) (eH te (gh i)):=by
 intro z5 s J H D I h;refine wpAny_Assign_Name (aW (he z5 s J H _ I h) λv s1 ⟨y,H1,I1,r1,q1⟩=>?_) hs;exact zP I1 hN hi hx r1 (λs2 I2=>⟨_,H1,I2,q1⟩) hf
def bM(i:Nat){x:Str}{e:Expr}{te:TE}{j7:Pos}(hN:X.N.Nodup)(he:PE X e te)(hi:X.N[i]? =some x:=by rfl)(hx:jX X.env.scope x:=by first|exact .inl rfl|exact .inr rfl)(hs:swapsWith e (some (.Name x j7)) pos.line X.env=pure false:=by rfl)(hf:X.fn x=true∨X.env.scope.names.lookup x=some .local:=by first|exact .inl rfl|exact .inr rfl|assumption): PS X (.Assign [.Name x j7] e pos) (eH te (gh i)):=q0t hN hi hx he hs hf
def EH(c:TT)(tb:TS):TS:=λD J H=>∃W:Nat->St->Hp->Prop,(∃m,W m J H)/\∀m J H,W m J H->
 c J H λb H1=>if b=true then∃N:St->Hp->Prop,(∀J' H',N J' H'->∃m',m'<m/\W m' J' H')/\tb {D with nx:=N,ct:=N,bk:=D.nx} J H1 else D.nx J H1
def Gj{c:Expr}{body:Zh}{tc:TT}{tb:TS}(hp:PassesOwn (model X.prog X.w) X.A X.env X.xe)(hc:PT X c tc)(hb:PSs X body tb):PS X (.While c body [] pos) (EH tc tb):=by
 intro z5 s J H D I h;obtain⟨W,⟨m0,w0⟩,turn⟩:=h;refine wpAny_While (codeAny_whileLoop (λn s'=>∃J' H',Inv X z5 J' H' s'/\W n J' H') ?_ m0 ⟨J,H,I,w0⟩);rintro n s1 ⟨J1,H1,I1,w1⟩;refine vd hp (aW (hc z5 s1 J1 H1 _ I1 (turn n J1 H1 w1)) λb s2 ⟨H2,I2,q2⟩=>?_);cases b with
 | true=>
  obtain⟨N,hN,q2⟩:=q2;rw[if_pos rfl];refine vd hp (aW (hb z5 s2 J1 H2 _ I2 q2) λf s3 q3=>?_);cases f with
  | next=>
   obtain⟨J3,H3,I3,n3⟩:=q3;let⟨m',hm,w3⟩:=hN J3 H3 n3;exact⟨m',hm,J3,H3,I3,w3⟩
  | cont=>
   obtain⟨J3,H3,I3,n3⟩:=q3;let⟨m',hm,w3⟩:=hN J3 H3 n3;exact⟨m',hm,J3,H3,I3,w3⟩
  |brk=>exact q3
  |ret v=>exact q3
 | false=>
  rw[if_neg Bool.false_ne_true];exact vp ⟨J1,H2,I2,q2⟩
end
structure It where
 go:Nat->Hp->Prop
 yld:Nat->Hp->V->Hp->Prop
 stop:Nat->Hp->Prop
def f8(X:Cx)(z5:Z3)(H:Hp)(b:Addr):Prop:=
 H b=none/\b≠X.env.locals/\b∉X.fs/\(b∈X.ex∨X.s₀.heap.objs.size<=b)/\(∀x c,X.env.cells.lookup x=some c->c≠b)/\∀p∈X.pn++z5,p.1≠b
def Inv.fpOk{X:Cx}{z5:Z3}{J:St}{H H':Hp}{s:Shared}{b:Addr}(I:Inv X z5 J H s)(hb:s.heap.objs.size<=b)(hn:H' b=none):f8 X z5 H' b:=by
 refine⟨hn,Nat.ne_of_gt (jz I.lt hb),I.nofs hb,.inr (x6 I.sz hb),λx c e z=>?_,λp hp z=>?_⟩
 .let⟨v,q⟩:=I.cell x c e;exact absurd (jz q.lt (by rw[z];exact hb)) (xn _)
 .exact absurd (jz (jd (I.pin p hp).1) (by rw[z];exact hb)) (xn _)
structure Turn(P:Program)(w:World)(K:am)(tg:Expr)(σ:It)(fp:List Addr)(it:Addr)(tn:Nat->Heap->Prop):Prop where
 mem:it∈fp
 obj:∀i h,tn i h->∀b∈fp,∃o,h.get? b=some o/\∀v,o.data≠.cell v
 keep:∀i h h',tn i h->(∀b∈fp,∀o,h.get? b=some o->h'.get? b=some o)->tn i h'
 item:∀(X:Cx),X.prog=P->X.w=w->X.K=K->X.calm=true->∀(i:Nat) (z5:Z3) (s:Shared) (J:St) (H:Hp) (E:Z0),Inv X z5 J H s->(∀b∈fp,f8 X z5 H b)->tn i s.heap->σ.go i H->
  wpAny (model P w) X.A (pyNext (.ref it)) (λr s1=>∃u,r=some u/\
   wpAny (model P w) X.A (letOwnedTupleGo tg (.ref it) u) (λ_ s2=>∃x H',Inv X z5 J H' s2/\RelV x u/\σ.yld i H x H'/\tn (i+1) s2.heap/\∀b∈fp,H' b=none) E s1) E s
 done:∀(X:Cx),X.prog=P->X.w=w->X.K=K->X.calm=true->∀(i:Nat) (z5:Z3) (s:Shared) (J:St) (H:Hp) (E:Z0),Inv X z5 J H s->(∀b∈fp,f8 X z5 H b)->tn i s.heap->σ.stop i H->
  wpAny (model P w) X.A (pyNext (.ref it)) (λr s1=>r=none/\Inv X z5 J H s1) E s
 self:∀(A:Around) (i:Nat) (s:Shared) (Q:Z0) (E:Z0),tn i s.heap->Q (.ref it) s->wpAny (model P w) A (pyIter (.ref it)) Q E s
abbrev TI:=St->Hp->(It->Hp->Prop)->Prop
def HL(X:Cx)(z5:Z3)(J:St)(tg:Expr)(R:It->Hp->Prop)(itv:Value)(s2:Shared):Prop:=
 ∃(it:Addr) (fp:List Addr) (tn:Nat->Heap->Prop) (σ:It) (H':Hp),itv=.ref it/\Inv X z5 J H' s2/\Turn X.prog X.w X.K tg σ fp it tn/\tn 0 s2.heap/\(∀b∈fp,f8 X z5 H' b)/\R σ H'
def PI(X:Cx)(tg zf:Expr)(wi:TI):Prop:=
 ∀(z5:Z3) (s:Shared) (J:St) (H:Hp) (R:It->Hp->Prop),Inv X z5 J H s->wi J H R->
   wpAny (model X.prog X.w) X.A (eval zf X.env) (λv s1=>wpAny (model X.prog X.w) X.A (pyIter v) (HL X z5 J tg R) X.xe s1) X.xe s
def p6{ρ:Model}{A:Around}{E:Z0}{s:Shared}{tg:Expr}{it:Addr}{u:Value}{o:Obj}{n:String}{vs:Zd}{Q:Unit->Shared->Prop}(ho:s.heap.get? it=some o)(hc:o.cls=.type n)(hd:o.data=.fields vs)
 (hn:["enumerate","zip","dict_itemiterator","dict_reverseitemiterator","odict_iterator","itertools.zip_longest","itertools.pairwise"].contains n=false) (hQ:Q () s):wpAny ρ A (letOwnedTupleGo tg (.ref it) u) Q E s:=by
 unfold letOwnedTupleGo;cases tg<;>first
  |exact jc hQ
  |(cases u<;>first
     |exact jc hQ
     | (refine ja (wpAny_load ho ?_)
        rw[hc,hd];show wpAny ρ A (if(["enumerate","zip","dict_itemiterator","dict_reverseitemiterator","odict_iterator","itertools.zip_longest","itertools.pairwise"].contains n&&vs[0]? ==some (rawInt _))=true then _ else _) Q E s;rw[if_neg (by intro h;rw[hn,Bool.false_and]at h;cases h)];exact jc hQ))
noncomputable def AA(K:am)(a:Addr):It:=
 ⟨λi H=>∃xs x,SqL K H a xs/\xs[i]? =some x,λi H x H'=>H'=H/\∀xs,SqL K H a xs->xs[i]? =some x,λi H=>∃xs,SqL K H a xs/\xs.length<=i⟩
noncomputable def Az(K:am)(a:Addr):It:=
 ⟨λi H=>∃xs x,SqT K H a xs/\xs[i]? =some x,λi H x H'=>H'=H/\∀xs,SqT K H a xs->xs[i]? =some x,λi H=>∃xs,SqT K H a xs/\xs.length<=i⟩
noncomputable def vN(lo:Int)(n:Nat):It:=⟨λi _=>i<n,λi H x H'=>H'=H/\x=.int (lo+i),λi _=>n<=i⟩
def qfs{P:Program}{w:World}{K:am}{tg:Expr}(a it:Addr):Turn P w K tg (AA K a) [it] it (λi h=>h.IsListIter it a i) where
 mem:=by simp
 obj:=λi h st b hb=>by
  have e:b=it:=by simpa using hb
  subst e;obtain⟨o,e,c,d⟩:=st;exact⟨o,e,λv z=>by rw[d]at z;cases z⟩
 keep:=λi h h' st k=>st.at λo e=>k it (by simp) o e
 item:=by intro X hP hw hK hc i z5 s J H E I hf st hg;subst hP hw hK;obtain⟨xs,x,hq,hx⟩:=hg;let⟨its,rv,p,hz⟩:=I.list hq;let⟨u,hu,ru⟩:=rv.get hx;let⟨f0,f1,f2,f3,f4,f5⟩:=hf it (by simp);refine wpAny_pyNext_list_item st p.isList (x:=u) (by simpa using hu) λh' st' sb=>?_;have I1:Inv X z5 J H {s with heap:=h'}:=I.turned (t':=s.toks) (λb o hb e=>(sb.2 b hb).trans e) f0 f1 f3 f4 f5;let⟨o,e,c,d⟩:=id st';exact⟨u,rfl,p6 (s:={s with heap:=h'}) e c d (by decide) ⟨x,H,I1,ru,⟨rfl,λys hy=>by rw[I.list_inj hy hq];exact hx⟩,st',λb hb=>(hf b hb).1⟩⟩
 done:=by intro X hP hw hK hc i z5 s J H E I hf st hg;subst hP hw hK;obtain⟨xs,hq,hx⟩:=hg;let⟨its,rv,p,hz⟩:=I.list hq;let⟨f0,f1,f2,f3,f4,f5⟩:=hf it (by simp);have hl:=rv.length;exact wpAny_pyNext_list_end (I.ok.hd hc) st p.isList (by simp;omega) λh' eb=>⟨rfl,I.turned (t':=s.toks) (λb o hb e=>eb b o hb e) f0 f1 f3 f4 f5⟩
 self:=λ_ _ _ _ _ st h=>wpAny_pyIter_listiter st h
def qe9{P:Program}{w:World}{K:am}{tg:Expr}(a it:Addr):Turn P w K tg (Az K a) [it] it (λi h=>h.IsTupleIter it a i) where
 mem:=by simp
 obj:=λi h st b hb=>by
  have e:b=it:=by simpa using hb
  subst e;obtain⟨o,e,c,d⟩:=st;exact⟨o,e,λv z=>by rw[d]at z;cases z⟩
 keep:=λi h h' st k=>st.at λo e=>k it (by simp) o e
 item:=by intro X hP hw hK hc i z5 s J H E I hf st hg;subst hP hw hK;obtain⟨xs,x,hq,hx⟩:=hg;let⟨its,rv,p,hz⟩:=I.tuple hq;let⟨u,hu,ru⟩:=rv.get hx;let⟨f0,f1,f2,f3,f4,f5⟩:=hf it (by simp);refine wpAny_pyNext_tuple_item st (show s.heap.IsTuple a its.toArray from p) (x:=u) (by simpa using hu) λh' st' sb=>?_;have I1:Inv X z5 J H {s with heap:=h'}:=I.turned (t':=s.toks) (λb o hb e=>(sb.2 b hb).trans e) f0 f1 f3 f4 f5;let⟨o,e,c,d⟩:=id st';exact⟨u,rfl,p6 (s:={s with heap:=h'}) e c d (by decide) ⟨x,H,I1,ru,⟨rfl,λys hy=>by rw[I.tuple_inj hy hq];exact hx⟩,st',λb hb=>(hf b hb).1⟩⟩
 done:=by intro X hP hw hK hc i z5 s J H E I hf st hg;subst hP hw hK;obtain⟨xs,hq,hx⟩:=hg;let⟨its,rv,p,hz⟩:=I.tuple hq;let⟨f0,f1,f2,f3,f4,f5⟩:=hf it (by simp);have hl:=rv.length;exact wpAny_pyNext_tuple_end (I.ok.hd hc) st (show s.heap.IsTuple a its.toArray from p) (by simp;omega) λh' eb=>⟨rfl,I.turned (t':=s.toks) (λb o hb e=>eb b o hb e) f0 f1 f3 f4 f5⟩
 self:=λ_ _ _ _ _ st h=>wpAny_pyIter_tupleiter st h
def qea{P:Program}{w:World}{K:am}{tg:Expr}{it:Addr}(lo:Int)(n:Nat):Turn P w K tg (vN lo n) [it] it (λi h=>IsRangeIter h it (lo+(i:Nat)*1) ((n:Int)-(i:Nat)) 1) where
 mem:=by simp
 obj:=λi h st b hb=>by
  have e:b=it:=by simpa using hb
  subst e;exact⟨_,st,λv z=>by have z':Data.fields _=Data.cell v:=z;cases z'⟩
 keep:=λi h h' st k=>k it (by simp) _ st
 item:=by intro X hP hw hK hc i z5 s J H E I hf st hg;subst hP hw hK;let⟨f0,f1,f2,f3,f4,f5⟩:=hf it (by simp);have W:=Walks.range (prog:=X.prog) (w:=X.w) (I.ok.hd hc) it lo 1 n;refine W.item i s _ _ hg st λv h' tk hv st' kk=>?_;obtain⟨t,rfl⟩:=hv;have I1:Inv X z5 J H {s with heap:=h',toks:=tk}:=I.turned (λb o hb e=>kk b o (by simpa using hb) e) f0 f1 f3 f4 f5;refine⟨_,rfl,p6 (s:={s with heap:=h',toks:=tk}) (n:="range_iterator") st' rfl rfl (by decide) ⟨.int (lo+i),H,I1,⟨t,?_⟩,⟨rfl,rfl⟩,st',λb hb=>(hf b hb).1⟩⟩;rw[Int.mul_one]
 done:=by intro X hP hw hK hc i z5 s J H E I hf st hg;subst hP hw hK;let⟨f0,f1,f2,f3,f4,f5⟩:=hf it (by simp);exact wpAny_pyNext_range_end (I.ok.hd hc) st (by have:n<=i:=hg;omega) λh' eb=>⟨rfl,I.turned (t':=s.toks) (λb o hb e=>eb b o hb e) f0 f1 f3 f4 f5⟩
 self:=λ_ _ _ _ _ st h=>wpAny_pyIter_rangeiter st h
section
variable{X:Cx}{tg:Expr}
def wJ(K:am)(tl:TE):TI:=λJ H R=>tl J H λx H1=>∃a,x=.ref a/\(∃xs,SqL K H1 a xs)/\R (AA K a) H1
def nY(K:am)(tl:TE):TI:=λJ H R=>tl J H λx H1=>∃a,x=.ref a/\(∃xs,SqT K H1 a xs)/\R (Az K a) H1
def qpk{l:Expr}{tl:TE}(hl:PE X l tl):PI X tg l (wJ X.K tl):=by
 intro z5 s J H R I h;refine aW (hl z5 s J H _ I h) λv s1 ⟨x,H1,I1,r1,q1⟩=>?_;obtain⟨a,e,⟨xs,hq⟩,q⟩:=q1;subst e;cases r1;let⟨its,rv,p,hz⟩:=I1.list hq;refine wpAny_pyIter_list p.isList ?_;refine⟨s1.heap.objs.size,[s1.heap.objs.size],_,_,H1,rfl,I1.kept (t':=s1.toks) λb o e=>je _ e,qfs a _,⟨_,ju _ rfl,rfl,rfl⟩,λb hb=>?_,q⟩;have e:b=s1.heap.objs.size:=by simpa using hb
 subst e;exact I1.fpOk (jg _) (I1.hok.fresh (jg _))
def qu5{l:Expr}{tl:TE}(hl:PE X l tl):PI X tg l (nY X.K tl):=by
 intro z5 s J H R I h;refine aW (hl z5 s J H _ I h) λv s1 ⟨x,H1,I1,r1,q1⟩=>?_;obtain⟨a,e,⟨xs,hq⟩,q⟩:=q1;subst e;cases r1;let⟨its,rv,p,hz⟩:=I1.tuple hq;refine wpAny_pyIter_tuple (show s1.heap.IsTuple a its.toArray from p) ?_;refine⟨s1.heap.objs.size,[s1.heap.objs.size],_,_,H1,rfl,I1.kept (t':=s1.toks) λb o e=>je _ e,qe9 a _,⟨_,ju _ rfl,rfl,rfl⟩,λb hb=>?_,q⟩;have e:b=s1.heap.objs.size:=by simpa using hb
 subst e;exact I1.fpOk (jg _) (I1.hok.fresh (jg _))
def qks{z5:Z3}{J:St}{H:Hp}{s:Shared}{R:It->Hp->Prop}{E:Z0}{lo hi:Int}{t u v:Tok}{tk:Nat}(I:Inv X z5 J H s)(h1: -(2^62)<=lo)(h2:lo<2^62)(h3: -(2^62)<=hi)(h4:hi<2^62)
 (q:R (vN lo (hi-lo).toNat) H):wpAny (model X.prog X.w) X.A (pyIter (.ref s.heap.objs.size)) (HL X z5 J tg R) E {s with heap:=s.heap.push {cls:=.type "range",data:=.fields #[.int lo t,.int hi u,.int 1 v]},toks:=tk}:=by
 refine wpAny_pyIter_range (IsRange.new ..) (small_one h1 h2 h3 h4) ?_;have I1:Inv X z5 J H {s with heap:=s.heap.push {cls:=.type "range",data:=.fields #[.int lo t,.int hi u,.int 1 v]},toks:=tk}:=I.kept λb o e=>je _ e;refine⟨(s.heap.push {cls:=.type "range",data:=.fields #[.int lo t,.int hi u,.int 1 v]}).objs.size,[(s.heap.push {cls:=.type "range",data:=.fields #[.int lo t,.int hi u,.int 1 v]}).objs.size],_,_,H,rfl,
  I1.kept (t':=tk) λb o e=>je _ e,qea lo (hi-lo).toNat,?_,λb hb=>?_,q⟩
 .have e1:lo+((0:Nat):Int)*1=lo:=by simp
  have e2:(((hi-lo).toNat:Nat):Int)-((0:Nat):Int)=Builtin.Range.rangeSize lo hi 1:=by rw[rangeSize_one];split<;>omega
  show IsRangeIter _ _ (lo+((0:Nat):Int)*1) ((((hi-lo).toNat:Nat):Int)-((0:Nat):Int)) 1;rw[e1,e2];exact ju _ rfl
 .have e:b=(s.heap.push {cls:=.type "range",data:=.fields #[.int lo t,.int hi u,.int 1 v]}).objs.size:=by simpa using hb
  subst e;exact I1.fpOk (jg _) (I1.hok.fresh (jg _))
def wK(ta:TA):TI:=λJ H R=>ta J H λvs H1=>∃j:Int,vs=[.int j]/\ -(2^62)<=j/\j<2^62/\R (vN 0 j.toNat) H1
def iN{a:Expr}{ta:TA}{p pos:Pos}(hg:Gl X "range")(hm:X.mg "range"=none)(ha:PA X [a] ta)(hs:starEach [a] X.env=[(false,eval a X.env)]:=by rfl):PI X tg (.Call (.Name "range" p) [a] [] pos) (wK ta):=by
 intro z5 s J H R I h;refine Call_ (ia I hg hm boot_range (PyProof.Rows.callWith_type1 (aW (ha pos z5 s J H _ I h) λus s1 ⟨vs,H1,I1,r1,q1⟩=>?_) hs rfl));obtain⟨j,e,q1,q2,q⟩:=q1;subst e;cases r1 with
 | cons r rr=>
  cases rr;obtain⟨t,rfl⟩:=r;exact call_range_1 (qks I1 (by omega) (by omega) q1 q2 (by simpa using q))
def nB(wi:TI)(g:TG)(tb:TS):TS:=λD J H=>wi J H λσ H1=>∃W:Nat->Nat->St->Hp->Prop,(∃m,W 0 m J H1)/\∀i m J H,W i m J H->
 (σ.stop i H/\D.nx J H)∨(σ.go i H/\∃N:St->Hp->Prop,(∀J' H',N J' H'->∃m',m'<m/\W (i+1) m' J' H')/\∀x H',σ.yld i H x H'->g x J H' λJ2 H2=>tb {D with nx:=N,ct:=N,bk:=D.nx} J2 H2)
noncomputable def qE(fp:List Addr)(h:Heap):List (Addr×Obj):=fp.filterMap λb=>(h.get? b).map λo=>(b,o)
def vA{fp:List Addr}{h:Heap}{b:Addr}{o:Obj}(hb:b∈fp)(e:h.get? b=some o):(b,o)∈qE fp h:=List.mem_filterMap.mpr ⟨b,hb,by rw[e];rfl⟩
def qi2{fp:List Addr}{h:Heap}{p:Addr×Obj}(hp:p∈qE fp h):p.1∈fp/\h.get? p.1=some p.2:=by
 let⟨b,hb,e⟩:=List.mem_filterMap.mp hp;cases q:h.get? b with
 |none=>rw[q]at e;cases e
 | some o=>
  rw[q]at e;have e':(b,o)=p:=jl e;subst e';exact⟨hb,q⟩
def Inv.pinned{z5:Z3}{J:St}{H:Hp}{s:Shared}{fp:List Addr}(I:Inv X z5 J H s)(hf:∀b∈fp,f8 X z5 H b)(ho:∀b∈fp,∃o,s.heap.get? b=some o/\∀v,o.data≠.cell v):Inv X (z5++qE fp s.heap) J H s:=
 I.pins_of λp hp=>(List.mem_append.mp hp).elim (λz=>I.pin p (x9 _ z)) λz=>by let⟨hb,e⟩:=qi2 z;let⟨f0,f1,f2,_⟩:=hf p.1 hb;let⟨o,e',d⟩:=ho p.1 hb;rw[e]at e';cases e';exact⟨e,f0,f1,f2,d⟩
def Inv.unpinned{z5 pl:Z3}{J:St}{H:Hp}{s:Shared}(I:Inv X (z5++pl) J H s):Inv X z5 J H s:=I.pins_of λp hp=>I.pin p (x9 _ (List.mem_append_left _ hp))
def iL{zf:Expr}{body:Zh}{wi:TI}{g:TG}{tb:TS}{pos:Pos}(hp:PassesOwn (model X.prog X.w) X.A X.env X.xe)(hc:X.calm=true)(hi:PI X tg zf wi)(hg:PG X tg g)(hb:PSs X body tb)
 (hs:∀x,foldedSetIterable zf X.env x=pure x:=by intro _;rfl):PS X (.For tg zf body [] pos) (nB wi g tb):=by
 intro z5 s J H D I h;refine wpAny_For (aW (hi z5 s J H _ I h) λv s1 h1=>aW h1 λitv s2 h2=>?_) hs;obtain⟨it,fp,tn,σ,H2,e,I2,T,st2,f2,W,⟨m0,w0⟩,turn⟩:=h2;subst e
 -- what stays true of the iterator's objects through the loop
 have stat:∀{H':Hp},(∀b∈fp,H' b=none)->∀b∈fp,f8 X z5 H' b:=λhn b hb=>⟨hn b hb,(f2 b hb).2⟩;refine codeAny_forLoop_any (λn s'=>∃i J' H',Inv X z5 J' H' s'/\tn i s'.heap/\(∀b∈fp,H' b=none)/\W i n J' H') ?_ m0 ⟨0,J,H2,I2,st2,λb hb=>(f2 b hb).1,w0⟩;rintro n s3 ⟨i,J3,H3,I3,st3,fr3,w3⟩;rcases turn i n J3 H3 w3 with⟨stop,qn⟩|⟨go,N,hN,step⟩
 .refine vd hp (aW (T.done X rfl rfl rfl hc i z5 s3 J3 H3 X.xe I3 (stat fr3) st3 stop) λr s4 ⟨hr,I4⟩=>?_);subst hr;exact vp ⟨J3,H3,I4,qn⟩
 .refine vd hp (aW (T.item X rfl rfl rfl hc i z5 s3 J3 H3 X.xe I3 (stat fr3) st3 go) λr s4 ⟨u,hr,h4⟩=>?_);subst hr;refine vd hp (aW h4 λ_ s5 ⟨x,H5,I5,r5,y5,st5,fr5⟩=>?_);have I5':=I5.pinned (stat fr5) (T.obj _ _ st5);refine vd hp (aW (hg _ s5 J3 H5 x u _ I5' r5 (step x H5 y5)) λ_ s6 ⟨J6,H6,I6,q6⟩=>?_);refine vd hp (aW (hb _ s6 J6 H6 _ I6 q6) λf s7 q7=>?_);have again:∀{J7:St} {H7:Hp},Inv X (z5++qE fp s5.heap) J7 H7 s7->N J7 H7->∃m,m<n/\∃i J' H',Inv X z5 J' H' s7/\tn i s7.heap/\(∀b∈fp,H' b=none)/\W i m J' H':=λ{J7 H7} I7 n7=>by
   let⟨m',hm,w7⟩:=hN J7 H7 n7;refine⟨m',hm,i+1,J7,H7,I7.unpinned,T.keep _ _ _ st5 λb hb o e=>(I7.pin (b,o) (x9 _ (x9 _ (vA hb e)))).1,λb hb=>?_,w7⟩;let⟨o,e,d⟩:=T.obj _ _ st5 b hb;exact(I7.pin (b,o) (x9 _ (x9 _ (vA hb e)))).2.1
  cases f with
  |next=>obtain⟨J7,H7,I7,n7⟩:=q7;exact again I7 n7
  |cont=>obtain⟨J7,H7,I7,n7⟩:=q7;exact again I7 n7
  |brk=>obtain⟨J7,H7,I7,q7⟩:=q7;exact⟨J7,H7,I7.unpinned,q7⟩
  |ret v=>obtain⟨x7,J7,H7,I7,r7,q7⟩:=q7;exact⟨x7,J7,H7,I7.unpinned,r7,q7⟩
end
abbrev R2:=V->V->Hp->VK->Prop
def OpR(X:Cx)(f:Value->Value->Sem Value)(r:R2):Prop:=
 ∀(z5:Z3) (s:Shared) (J:St) (H:Hp) (x y:V) (v u:Value) (Q:VK),Inv X z5 J H s->RelV x v->RelV y u->r x y H Q->
   wpAny (model X.prog X.w) X.A (f v u) (EP X z5 J Q) X.xe s
def Ax(X:Cx)(f:Value->Sem Value)(r:V->Hp->VK->Prop):Prop:=
 ∀(z5:Z3) (s:Shared) (J:St) (H:Hp) (x:V) (v:Value) (Q:VK),Inv X z5 J H s->RelV x v->r x H Q->
   wpAny (model X.prog X.w) X.A (f v) (EP X z5 J Q) X.xe s
def fM(X:Cx)(f:Value)(r:List V->Hp->VK->Prop):Prop:=
 ∀(z5:Z3) (s:Shared) (J:St) (H:Hp) (xs:List V) (us:Ze) (Q:VK),Inv X z5 J H s->Vals xs us->r xs H Q->
   wpAny (model X.prog X.w) X.A (call f us) (EP X z5 J Q) X.xe s
def iQ(r:R2)(ta tb:TE):TE:=λJ H Q=>ta J H λx H1=>tb J H1 λy H2=>r x y H2 Q
def CJ(r:V->Hp->VK->Prop)(ta:TE):TE:=λJ H Q=>ta J H λx H1=>r x H1 Q
def rI(C:Int->Int->Prop)(g:Int->Int->V):R2:=λx y H Q=>∃i j,x=.int i/\y=.int j/\C i j/\Q (g i j) H
def hU(g:Int->Int->V):R2:=λx y H Q=>∃i j,x=.int i/\y=.int j/\Q (g i j) H
def rU(g:Int->V):V->Hp->VK->Prop:=λx H Q=>∃i,x=.int i/\Q (g i) H
section
variable{X:Cx}{a b c:Expr}{ta tb tc:TE}{pos:Pos}
def og(ha:PE X a ta)(hb:PE X b tb){z5:Z3}{s:Shared}{J:St}{H:Hp}{R:V->V->Hp->Prop}(I:Inv X z5 J H s)
 (h:ta J H λx H1=>tb J H1 λy H2=>R x y H2) {Q:Z0} {f:Value->Value->Sem Value}
 (hf:∀v u s2 x y H2,Inv X z5 J H2 s2->RelV x v->RelV y u->R x y H2->wpAny (model X.prog X.w) X.A (f v u) Q X.xe s2):
 wpAny (model X.prog X.w) X.A (eval a X.env) (λv s₁=>wpAny (model X.prog X.w) X.A (eval b X.env) (λu s₂=>wpAny (model X.prog X.w) X.A (f v u) Q X.xe s₂) X.xe s₁) X.xe s:=by
 refine aW (ha z5 s J H _ I h) λv s1 ⟨x,H1,I1,r1,q1⟩=>?_;refine aW (hb z5 s1 J H1 _ I1 q1) λu s2 ⟨y,H2,I2,r2,q2⟩=>?_;exact hf v u s2 x y H2 I2 r1 r2 q2
def bP{op:Operator}{r:R2}(ho:OpR X (binaryOp op) r)(ha:PE X a ta)(hb:PE X b tb):PE X (.BinOp a op b pos) (iQ r ta tb):=by intro z5 s J H Q I h;exact wpAny_BinOp (og ha hb I h λv u s2 x y H2 I2 rx ry q=>ho z5 s2 J H2 x y v u Q I2 rx ry q)
def qyc{op:UnaryOp}{r:V->Hp->VK->Prop}(ho:Ax X (unaryOp op) r)(ha:PE X a ta):PE X (.UnaryOp op a pos) (CJ r ta):=by intro z5 s J H Q I h;exact UnaryOp_ (aW (ha z5 s J H _ I h) λv s1 ⟨x,H1,I1,r1,q1⟩=>ho z5 s1 J H1 x v Q I1 r1 q1)
def rq{f:Value->Value->Sem Value}{C:Int->Int->Prop}{g:Int->Int->Int}
 (rule:∀(i j:Int) (t u:Tok) (s:Shared) (Q:Z0) (E:Z0),C i j->Q (.int (g i j) s.toks) {s with toks:=s.toks+1}->wpAny (model X.prog X.w) X.A (f (.int i t) (.int j u)) Q E s):
 OpR X f (rI C λi j=>.int (g i j)):=by
 intro z5 s J H x y v u Q I rx ry h;obtain⟨i,j,rfl,rfl,hc,q⟩:=h;obtain⟨t,rfl⟩:=rx;obtain⟨t',rfl⟩:=ry;exact rule i j t t' s _ _ hc ⟨.int (g i j),H,I.tok _,⟨_,rfl⟩,q⟩
def nV{f:Value->Value->Sem Value}{g:Int->Int->Int}
 (rule:∀(i j:Int) (t u:Tok) (s:Shared) (Q:Z0) (E:Z0),Q (.int (g i j) s.toks) {s with toks:=s.toks+1}->wpAny (model X.prog X.w) X.A (f (.int i t) (.int j u)) Q E s):
 OpR X f (hU λi j=>.int (g i j)):=by
 intro z5 s J H x y v u Q I rx ry h;obtain⟨i,j,rfl,rfl,q⟩:=h;obtain⟨t,rfl⟩:=rx;obtain⟨t',rfl⟩:=ry;exact rule i j t t' s _ _ ⟨.int (g i j),H,I.tok _,⟨_,rfl⟩,q⟩
def nW{f:Value->Value->Sem Value}{g:Int->Int->Bool}
 (rule:∀(i j:Int) (t u:Tok) (s:Shared) (Q:Z0) (E:Z0),Q (.bool (g i j)) s->wpAny (model X.prog X.w) X.A (f (.int i t) (.int j u)) Q E s):
 OpR X f (hU λi j=>.bl (g i j)):=by
 intro z5 s J H x y v u Q I rx ry h;obtain⟨i,j,rfl,rfl,q⟩:=h;obtain⟨t,rfl⟩:=rx;obtain⟨t',rfl⟩:=ry;exact rule i j t t' s _ _ ⟨.bl (g i j),H,I,rfl,q⟩
def sR(i j:Int):Prop:=0<j/\j<1073741824
def lV(i j:Int):Prop:=0<=j/\j<=1000000/\i.natAbs<2^64
def CMul(i j:Int):Prop:=(-(2^64)<i/\i<2^64)∨(-(2^64)<j/\j<2^64)
def CMul.ok{i j:Int}(h:CMul i j):IntMulOk i j:=by
 rcases h with⟨h1,h2⟩|⟨h1,h2⟩
 .exact .of_left (intBits_le_64 h1 h2)
 .exact .of_right (intBits_le_64 h1 h2)
def op_add:OpR X (binaryOp .Add) (hU λi j=>.int (i+j)):=nV λ_ _ _ _ _ _ _ q=>add_int q
def yU:OpR X (binaryOp .FloorDiv) (rI sR λi j=>.int (i / j)):=rq λi j _ _ _ _ _ hc q=>by have h1:(0:Int)<j:=hc.1;have h2:j<1073741824:=hc.2;exact floordiv_int (by omega) (by rw[Int.fdiv_eq_ediv_of_nonneg i (by omega)];exact q) (.inl (PyProof.noPylong_small (by omega)))
def iK:OpR X (binaryOp .Mod) (rI (λ_ j=>0<j) λi j=>.int (i % j)):=rq λi j _ _ _ _ _ hc q=>by have h1:(0:Int)<j:=hc;exact mod_int' (by omega) (by rw[Int.fmod_eq_emod_of_nonneg i (by omega)];exact q)
def El:OpR X (binaryOp .Pow) (rI lV λi j=>.int (i^j.toNat)):=rq λ_ _ _ _ _ _ _ hc q=>pow_int_small hc.1 hc.2.1 hc.2.2 q
def uk:OpR X (binaryOp .LShift) (rI lV λi j=>.int (i*2^j.toNat)):=rq λ_ _ _ _ _ _ _ hc q=>lshift_int_small hc.1 hc.2.1 hc.2.2 q
def xZ:OpR X (binaryOp .BitAnd) (hU λi j=>.int (Builtin.bitAnd i j)):=nV λ_ _ _ _ _ _ _ q=>and_int q
def qug:OpR X (binaryOp .BitXor) (hU λi j=>.int (Builtin.bitXor i j)):=nV λ_ _ _ _ _ _ _ q=>xor_int q
def unI{f:Value->Sem Value}{g:Int->Int}
 (rule:∀(i:Int) (t:Tok) (s:Shared) (Q:Z0) (E:Z0),Q (.int (g i) s.toks) {s with toks:=s.toks+1}->wpAny (model X.prog X.w) X.A (f (.int i t)) Q E s):
 Ax X f (rU λi=>.int (g i)):=by
 intro z5 s J H x v Q I rx h;obtain⟨i,rfl,q⟩:=h;obtain⟨t,rfl⟩:=rx;exact rule i t s _ _ ⟨.int (g i),H,I.tok _,⟨_,rfl⟩,q⟩
def qsm:Ax X (unaryOp .USub) (rU λi=>.int (-i)):=unI λ_ _ _ _ _ q=>neg_int q
def D2{z5:Z3}{J:St}{H:Hp}{s:Shared}{Q:VK}{k k':Bool}(I:Inv X z5 J H s)(q:Q (.bl k) H)(e:k=k'):EP X z5 J Q (.bool k') s:=by subst e;exact⟨.bl k,H,I,rfl,q⟩
def wR:OpR X (compareOp .Lt) (hU λi j=>.bl (decide (i<j))):=nW λ_ _ _ _ _ _ _ q=>lt_int q
def Dd:OpR X (compareOp .LtE) (hU λi j=>.bl (decide (i<=j))):=nW λ_ _ _ _ _ _ _ q=>le_int q
def wQ:OpR X (compareOp .Gt) (hU λi j=>.bl (decide (j<i))):=nW λ_ _ _ _ _ _ _ q=>gt_int q
def Ek:OpR X (compareOp .Is) (λx y H Q=>y=.non/\Q (.bl (decide (x=.non))) H):=by
 intro z5 s J H x y v u Q I rx ry h;obtain⟨rfl,q⟩:=h;cases ry;refine is_none_gen (D2 I q ?_);cases x<;>first
  |(cases rx;rfl)
  |(obtain⟨t,rfl⟩:=rx;rfl)
def yV:OpR X (compareOp .IsNot) (λx y H Q=>y=.non/\Q (.bl (!decide (x=.non))) H):=by
 intro z5 s J H x y v u Q I rx ry h;obtain⟨rfl,q⟩:=h;cases ry;refine isnot_none_gen (D2 I q ?_);cases x<;>first
  |(cases rx;rfl)
  |(obtain⟨t,rfl⟩:=rx;rfl)
def OpR.or{f:Value->Value->Sem Value}{r r':R2}(h:OpR X f r)(h':OpR X f r'):OpR X f (λx y H Q=>r x y H Q∨r' x y H Q):=by
 intro z5 s J H x y v u Q I rx ry q;rcases q with q|q
 .exact h z5 s J H x y v u Q I rx ry q
 .exact h' z5 s J H x y v u Q I rx ry q
def dj{b:Expr}{op:CmpOp}(h:op≠.In:=by decide)(h2:op≠.NotIn:=by decide):behindInMarks op b=false:=by
 have e1:(op==CmpOp.In)=false:=by cases op<;>first|rfl|exact absurd rfl h
 have e2:(op==CmpOp.NotIn)=false:=by cases op<;>first|rfl|exact absurd rfl h2
 cases b<;>simp[behindInMarks,e1,e2]
def Fj{op:CmpOp}{r:R2}(ho:OpR X (compareOp op) r)(ha:PE X a ta)(hb:PE X b tb)(hm:behindInMarks op b=false):PE X (.Compare a [op] [b] pos) (iQ r ta tb):=by intro z5 s J H Q I h;exact wpAny_Compare1 (og ha hb I h λv u s2 x y H2 I2 rx ry q=>ho z5 s2 J H2 x y v u Q I2 rx ry q) hm
def DG(t:TE):TT:=λJ H Q=>t J H λx H'=>∃k,x=.bl k/\Q k H'
def dE{op:CmpOp}{r:R2}(ho:OpR X (compareOp op) r)(ha:PE X a ta)(hb:PE X b tb)(hm:behindInMarks op b=false):PT X (.Compare a [op] [b] pos) (DG (iQ r ta tb)):=by
 intro z5 s J H Q I h;refine wpAny_isTrue_Compare1 (aW (ha z5 s J H _ I h) λv s1 ⟨x,H1,I1,r1,q1⟩=>aW (hb z5 s1 J H1 _ I1 q1) λu s2 ⟨y,H2,I2,r2,q2⟩=>
  aW (ho z5 s2 J H2 x y v u _ I2 r1 r2 q2) λc s3 ⟨z,H3,I3,r3,k,e,q3⟩=>?_) hm
 subst e;cases r3;exact kl ⟨H3,I3,q3⟩
def EC(r r':R2)(ta tb tc:TE):TE:=λJ H Q=>ta J H λx H1=>tb J H1 λy H2=>r x y H2 λz H3=>∃k,z=.bl k/\
 (if k=true then tc J H3 λw' H4=>r' y w' H4 Q else Q (.bl false) H3)
def qkz{op op':CmpOp}{r r':R2}(ho:OpR X (compareOp op) r)(ho':OpR X (compareOp op') r')(ha:PE X a ta)(hb:PE X b tb)(hc:PE X c tc)
 (hm:lastMarks [op,op'] [b,c]=false:=by with_unfolding_all rfl):PE X (.Compare a [op,op'] [b,c] pos) (EC r r' ta tb tc):=by
 intro z5 s J H Q I h;refine Compare_chain (aW (ha z5 s J H _ I h) λv s1 ⟨x,H1,I1,r1,q1⟩=>chain_link (aW (hb z5 s1 J H1 _ I1 q1) λu s2 ⟨y,H2,I2,r2,q2⟩=>
  aW (ho z5 s2 J H2 x y v u _ I2 r1 r2 q2) λd s3 ⟨z,H3,I3,r3,k,e,q3⟩=>?_)) hm
 subst e;cases r3;refine kl ?_;cases k with
 |false=>exact ite_ff ⟨.bl false,H3,I3,rfl,q3⟩
 |true=>exact ite_tt (chain_last (aW (hc z5 s3 J H3 _ I3 q3) λw' s4 ⟨z',H4,I4,r4,q4⟩=>ho' z5 s4 J H4 y z' u w' Q I4 r2 r4 q4))
def qA:(sizeLine:Nat)<2^63:=by rw[ki];decide
def qep:OpR X (binaryOp .Add) (λx y H Q=>∃i j,x=.str i/\y=.str j/\i.length+j.length<=sizeLine/\Q (.str (i++j)) H):=by intro z5 s J H x y v u Q I rx ry h;obtain⟨i,j,rfl,rfl,hz,q⟩:=h;obtain⟨t,rfl⟩:=rx;obtain⟨t',rfl⟩:=ry;exact add_str (λt' tk=>⟨.str (i++j),H,I.tok _,⟨_,rfl⟩,q⟩) hz
def b9{x:V}{us:Ze}(r:Vals [x] us):∃u,us=[u]/\RelV x u:=by
 cases r with
 |cons r1 r2=>cases r2;exact⟨_,rfl,r1⟩
def ff{x y:V}{us:Ze}(r:Vals [x,y] us):∃u w',us=[u,w']/\RelV x u/\RelV y w':=by
 cases r with
 | cons r1 r2=>
  cases r2 with
  |cons r3 r4=>cases r4;exact⟨_,_,rfl,r1,r3⟩
def GB(hc:X.calm=true):fM X (.builtin "max") (λxs H Q=>∃i j,xs=[.int i,.int j]/\Q (.int (if j>i then j else i)) H):=by
 intro z5 s J H xs us Q I r h;obtain⟨i,j,rfl,q⟩:=h;obtain⟨u,w',rfl,⟨t,rfl⟩,⟨t',rfl⟩⟩:=ff r;refine max_two_ints (I.ok.hd hc) λh' tk k=>⟨_,H,I.kept k,?_,q⟩;by_cases hj:j>i
 .rw[if_pos hj,if_pos hj];exact⟨_,rfl⟩
 .rw[if_neg hj,if_neg hj];exact⟨_,rfl⟩
def GC(hc:X.calm=true):fM X (.builtin "min") (λxs H Q=>∃i j,xs=[.int i,.int j]/\Q (.int (if j<i then j else i)) H):=by
 intro z5 s J H xs us Q I r h;obtain⟨i,j,rfl,q⟩:=h;obtain⟨u,w',rfl,⟨t,rfl⟩,⟨t',rfl⟩⟩:=ff r;refine min_two_ints (I.ok.hd hc) λh' tk k=>⟨_,H,I.kept k,?_,q⟩;by_cases hj:j<i
 .rw[if_pos hj,if_pos hj];exact⟨_,rfl⟩
 .rw[if_neg hj,if_neg hj];exact⟨_,rfl⟩
def qjm:fM X (.type "int") (λxs H Q=>(∃i,xs=[.int i]/\Q (.int i) H)∨∃k,xs=[.bl k]/\Q (.int (if k then 1 else 0)) H):=by
 intro z5 s J H xs us Q I r h;rcases h with⟨i,rfl,q⟩|⟨k,rfl,q⟩
 .obtain⟨u,rfl,t,rfl⟩:=b9 r;exact call_int_int ⟨.int i,H,I,⟨_,rfl⟩,q⟩
 .obtain⟨u,rfl,r1⟩:=b9 r;cases r1;exact call_int_bool ⟨.int (if k then 1 else 0),H,I.tok _,⟨_,rfl⟩,q⟩
end
structure ObjM(h:Heap)(x dx C:Addr)(mA:Za):Prop where
 obj:h.get? x=some (W.instObj C dx)
 ns:h.Ns1 dx mA
 ne:dx≠x
def qim{h:Heap}{dx:Addr}{mA:Za}(n:h.Ns1 dx mA):∃od,h.get? dx=some od/\∀name,W.lookIn name od=some (mA name):=by
 obtain⟨o,es,ep,ho,hd,hk,_,hm⟩:=n;refine⟨o,ho,λname=>?_⟩;have e:=hm name;unfold nsFind findBy at e;rw[<-Array.find?_toList]at e;unfold W.lookIn;rw[hd];dsimp only;split
 .rename_i y q;rw[q]at e;exact congrArg some e
 .rename_i q;rw[q]at e;have a:es.toList.any (·.refKey)=false:=by
   rw[List.any_eq_false];intro y hy;let⟨z,t,hkey⟩:=hk y (Array.mem_toList_iff.mp hy);simp[DictEntry.refKey,hkey]
  have a':¬es.toList.any (·.refKey)=true:=by rw[a];exact Bool.false_ne_true
  rw[if_neg a'];exact congrArg some e
def ObjM.look{h:Heap}{x dx C:Addr}{mA:Za}(I:ObjM h x dx C mA):∃od,W.InstAt h x (W.instObj C dx) C (some od)/\∀name,W.lookIn name od=some (mA name):=
 let ⟨od,ho,hl⟩:=qim I.ns
 ⟨od,⟨I.obj,rfl,rfl,ho⟩,hl⟩
section
variable{prog:Program}{w:World}{A:Around}{E:Z0}{s:Shared}{K:am}{x dx C f:Addr}{mA:Za}{name:Str}{v:Value}
def lY{expr:Bool}{Q:Z0}(X:K.In s.heap)(I:ObjM s.heap x dx C mA)(hg:W.plainGet K C name=true)(hh:W.hasDictIn K C=true)
 (ha:W.findIn K (.ref C) name=some none) (hv:mA name=some v) (hv':W.handedIn v=true) (h:Q v {s with toks:=s.toks+1}):
 wpAny (model prog w) A (getAttr (.ref x) name expr) Q E s:=by
 obtain⟨od,σ,hl⟩:=I.look;exact W.get_value X σ (W.plainGet_of hg).1 (W.findObj_own hh ha rfl (by rw[hl,hv])) hv' h
def qm1{pl:Sem Bool}{Q:Value×List Value->Shared->Prop}(X:K.In s.heap)(I:ObjM s.heap x dx C mA)(hg:W.plainGet K C name=true)
 (hf:W.findIn K (.ref C) name=some (some (.ref f))) (ht:W.isFn K (.ref f)=true) (hv:mA name=none) (h:Q (.ref f,[.ref x]) s):
 wpAny (model prog w) A (getMethod (.ref x) name pl) Q E s:=by
 obtain⟨od,σ,hl⟩:=I.look;exact W.method_fn X σ (W.plainGet_of hg).1 (W.plainGet_of hg).2 hf (beq_iff_eq.mp ht) (by show(W.lookIn name od).map (·.isSome)=some false;rw[hl,hv];rfl) h
def qpa{ns:Zj}{Q:Unit->Shared->Prop}(X:K.In s.heap)(I:ObjM s.heap x dx C mA)
 (hs:W.findIn K (.ref C) "__setattr__"=some (some (.builtin "object.__setattr__"))) (hp:W.plainOver K C=true) (ht:W.takerIn K C name=some none) (hh:W.hasDictIn K C=true)
 (hw:PySem.Within mA ns) (hsz:ns.length<=sizeLine)
 (h:∀h',ObjM h' x dx C (λy=>if y=name then some v else mA y)->Heap.SameBut dx s.heap h'->Q () {s with heap:=h',toks:=s.toks+2}):
 wpAny (model prog w) A (setAttr (.ref x) name v) Q E s:=by
 obtain⟨od,σ,hl⟩:=I.look;refine W.set_plain X σ hs (W.osa_open (s:={s with toks:=s.toks+1}) (r:=none) X σ hp ht λb=>?_);let⟨cd,hc,hd'⟩:=W.any_some hh;have hx:s.heap.get? x=some ⟨.ref C,some dx,.plain,#[]⟩:=I.obj;refine ja (jc (ja (ja (wpAny_loadPart hx (ja (W.Looks.here (s:={s with toks:=s.toks+1}) (W.looks_clsIn X hc) ?_))))));rw[hd'];refine jc (a:=some dx) (ja (jc (ja ?_)));refine wpAny_nsSet1 (s:={s with toks:=s.toks+1}) I.ns λh' hn2 hs2=>?_;let⟨oD,esD,epD,hoD,hdD,hcD⟩:=hn2.count (PySem.Within.cons name v hw);refine ja (wpAny_lookBehind hoD (by rw[hdD];exact pastItsLine_dict (x6 hcD (by rw[jw];omega))) ?_);exact jc (h _ ⟨(hs2.2 _ (Ne.symm I.ne)).trans I.obj,hn2,I.ne⟩ hs2)
def qlo{R:Zb}{vs:Ze}{kw:List (Str×Value)}(X:K.In s.heap)(hm:W.makesIn K C=true)
 (hi:W.findIn K (.ref C) "__init__"=some (some (.ref f))) (hf:W.typeIn K (.ref f)=some (.type "function"))
 (h:codeAny (model prog w) (A.under (.builtin "type.__call__" ⟨.ref C::vs,kw⟩)) (.call (.ref f) ⟨.ref (s.heap.objs.size+1)::vs,kw⟩) (W.InitBack (s.heap.objs.size+1) R)
   {s with heap:=(s.heap.push W.emptyDict).push (W.instObj C s.heap.objs.size)}):
 codeAny (model prog w) A (.call (.ref C) ⟨vs,kw⟩) R s:=by
 obtain⟨hh,g,d,t,os⟩:=s;exact W.make_core (W.makes_of X hm) (W.looks_findIn X hi) (λself=>W.bind_fn X self hf) (.inl rfl) h
def qig{R:Zb}(X:K.In s.heap)(hm:W.makesIn K C=true)
 (hi:W.findIn K (.ref C) "__init__"=some (some (.builtin "object.__init__")))
 (hb:∀self,W.Looks (model prog w) s.heap (bindSpecial (.builtin "object.__init__") self) (.builtin "object.__init__",[self]))
 (h:codeAny (model prog w) (A.under (.builtin "type.__call__" ⟨[.ref C],[]⟩)) (.call (.builtin "object.__init__") ⟨[.ref (s.heap.objs.size+1)],[]⟩) (W.InitBack (s.heap.objs.size+1) R)
   {s with heap:=(s.heap.push W.emptyDict).push (W.instObj C s.heap.objs.size)}):
 codeAny (model prog w) A (.call (.ref C) ⟨[],[]⟩) R s:=by
 obtain⟨hh,g,d,t,os⟩:=s;exact W.make_core (W.makes_of X hm) (W.looks_findIn X hi) hb (.inr ⟨rfl,rfl⟩) h
end
noncomputable def cT(f:Str)(v:V):List (Str×V)->List (Str×V)
 |[]=>[(f,v)]
 |(g,x)::r=>if g=f then(g,v)::r else(g,x)::cT f v r
theorem Hw(f g:Str)(v:V):∀fs:List (Str×V),(cT f v fs).lookup g=if g=f then some v else fs.lookup g
 | []=>by
  show List.lookup g [(f,v)]=_;by_cases h:g=f
  .have hb:(g==f)=true:=beq_iff_eq.mpr h;simp only[List.lookup,hb,if_pos h]
  .have hb:(g==f)=false:=beq_eq_false_iff_ne.mpr h;simp only[List.lookup,hb,if_neg h]
 | (k,x)::r=>by
  have ih:=Hw f g v r;rw[show cT f v ((k,x)::r)=(if k=f then(k,v)::r else(k,x)::cT f v r)from rfl];by_cases hk:k=f
  .rw[if_pos hk];by_cases h:g=k
   .have hb:(g==k)=true:=beq_iff_eq.mpr h;simp only[List.lookup,hb,if_pos (h.trans hk)]
   .have hb:(g==k)=false:=beq_eq_false_iff_ne.mpr h;simp only[List.lookup,hb,if_neg (λe:g=f=>h (e.trans hk.symm))]
  .rw[if_neg hk];by_cases h:g=k
   .have hb:(g==k)=true:=beq_iff_eq.mpr h;simp only[List.lookup,hb,if_neg (λe:g=f=>hk (h.symm.trans e))]
   .have hb:(g==k)=false:=beq_eq_false_iff_ne.mpr h;simp only[List.lookup,hb];exact ih
theorem zY(f:Str)(v:V):∀fs:List (Str×V),f∈(cT f v fs).map (·.1)/\∀g,g∈fs.map (·.1)->g∈(cT f v fs).map (·.1)
 |[]=>⟨by simp[cT],λg h=>by simp at h⟩
 | (k,x)::r=>by
  let⟨i1,i2⟩:=zY f v r;rw[show cT f v ((k,x)::r)=(if k=f then(k,v)::r else(k,x)::cT f v r)from rfl];by_cases hk:k=f
  .rw[if_pos hk];subst hk;exact⟨by simp,λg h=>by simpa using h⟩
  .rw[if_neg hk];refine⟨?_,λg h=>?_⟩
   .rw[x8];exact jh _ i1
   .rw[x8]at h ⊢;rcases List.mem_cons.mp h with e|e
    .exact List.mem_cons.mpr (.inl e)
    .exact jh _ (i2 g e)
theorem Hv(f:Str)(v:V):∀fs:List (Str×V),(cT f v fs).length<=fs.length+1
 |[]=>by simp[cT]
 | (k,x)::r=>by
  have ih:=Hv f v r;rw[show cT f v ((k,x)::r)=(if k=f then(k,v)::r else(k,x)::cT f v r)from rfl];by_cases hk:k=f
  .rw[if_pos hk,jw,jw];omega
  .rw[if_neg hk,jw,jw];omega
def RelO.some_of{v:V}{o:Option Value}(r:RelO (some v) o):∃u,o=some u/\RelV v u:=by
 cases o with
 |none=>exact(show False from r).elim
 |some u=>exact⟨u,rfl,r⟩
def RelO.none_of{o:Option Value}(r:RelO none o):o=none:=by
 cases o with
 |none=>rfl
 |some u=>exact(show False from r).elim
def qix{v:V}{u:Value}(r:RelV v u):W.handedIn u=true:=by
 cases v with
 |non=>cases(show u=Value.none from r);rfl
 |bl b=>cases(show u=Value.bool b from r);rfl
 |int i=>let⟨t,e⟩:=(show∃t,u=Value.int i t from r);cases e;rfl
 |str x=>let⟨t,e⟩:=(show∃t,u=Value.str x t from r);cases e;rfl
 |byt b=>let⟨t,e⟩:=(show∃t,u=Value.bytes b t from r);cases e;rfl
 |flt b=>let⟨t,e⟩:=(show∃t,u=Value.float b t from r);cases e;rfl
 |ref a=>cases(show u=Value.ref a from r);rfl
 |ty n=>cases(show u=Value.type n from r);rfl
section
variable{P:Program}{w:World}{H H':Hp}{h h':Heap}{a C dx:Addr}{fs fs':List (Str×V)}
def uA(hok:HOk P w H h)(e:H a=some (.ins C dx fs)):∃mA,ObjM h a dx C mA/\(∀f,RelO (fs.lookup f) (mA f))/\PySem.Within mA (fs.map (·.1))/\fs.length<=1000/\H dx=some (.own a):=by let⟨d,z,ne,ob,mA,n,r,q⟩:=(show ObjOk P w H h a (.ins C dx fs)from hok a _ e);exact⟨mA,⟨ob,n,ne⟩,r,q,z,d⟩
end
structure Cls(K:am)(C:Addr):Prop where
 pg:W.plainGet K C Str.empty=true
 hd:W.hasDictIn K C=true
 po:W.plainOver K C=true
 sa:W.findIn K (.ref C) "__setattr__"=some (some (.builtin "object.__setattr__"))
def Cls.get{K:am}{C:Addr}(c:Cls K C)(f:Str):W.plainGet K C f=true:=c.pg
def NoAttr(K:am)(C:Addr)(f:Str):Prop:=W.findIn K (.ref C) f=some none
def NoAttr.taker{K:am}{C:Addr}{f:Str}(n:NoAttr K C f):W.takerIn K C f=some none:=by unfold W.takerIn;rw[show W.findIn K (.ref C) f=some none from n];rfl
structure Con(K:am)(C:Addr)(f:Str)(v:V)(u:Value):Prop where
 at_:W.findIn K (.ref C) f=some (some u)
 rel:RelV v u
 get:W.specialIn K u "__get__"=some none
 cp:W.copiedNames.contains f=false
structure Meth(K:am)(C:Addr)(m:Str)(f:Addr):Prop where
 at_:W.findIn K (.ref C) m=some (some (.ref f))
 fn:W.isFn K (.ref f)=true
 kp:W.keepIn K (.ref f)=true
section
variable{X:Cx}{z5:Z3}{J:St}{H:Hp}{s:Shared}{a C dx:Addr}{fs:List (Str×V)}{f:Str}{v:V}{A:Around}{E:Z0}
def qf3{b:Bool}{Q:Z0}(I:Inv X z5 J H s)(e:H a=some (.ins C dx fs))(c:Cls X.K C)(n:NoAttr X.K C f)(l:fs.lookup f=some v)
 (h:∀u s',Inv X z5 J H s'->RelV v u->Q u s'):wpAny (model X.prog X.w) A (getAttr (.ref a) f b) Q E s:=by
 let⟨mA,O,r,_,_,_⟩:=uA I.hok e;let⟨u,hu,ru⟩:=RelO.some_of (v:=v) (o:=mA f) (by rw[<-l];exact r f);exact lY I.kIn O (c.get f) c.hd n hu (qix ru) (h u _ (I.tok _) ru)
def qf2{m:Str}{g:Addr}{pl:Sem Bool}{Q:Value×List Value->Shared->Prop}(I:Inv X z5 J H s)(e:H a=some (.ins C dx fs))(c:Cls X.K C)(k:Meth X.K C m g)(l:fs.lookup m=none)
 (h:Q (.ref g,[.ref a]) s):wpAny (model X.prog X.w) A (getMethod (.ref a) m pl) Q E s:=by
 let⟨mA,O,r,_,_,_⟩:=uA I.hok e;have hn:mA m=none:=RelO.none_of (by rw[<-l];exact r m);exact qm1 I.kIn O (c.get m) k.at_ k.fn hn h
def qee{y:V}{u:Value}{Q:Unit->Shared->Prop}(I:Inv X z5 J H s)(e:H a=some (.ins C dx fs))(c:Cls X.K C)(n:NoAttr X.K C f)(hl:fs.length<1000)(ry:RelV y u)
 (h:∀s',Inv X z5 J (aN H a (.ins C dx (cT f y fs))) s'->Q () s'):wpAny (model X.prog X.w) A (setAttr (.ref a) f u) Q E s:=by
 let⟨mA,O,r,wi,_,ho⟩:=uA I.hok e;have hz:(fs.map (·.1)).length<=sizeLine:=by rw[jb,ki];omega
 refine qpa I.kIn O c.sa c.po n.taker c.hd wi hz λh' O' sb=>h _ ?_;have hd:∃o,h'.get? dx=some o:=let ⟨o,_,_,e',_⟩:=O'.ns;⟨o,e'⟩
 refine I.write (x:=a) (e:=dx) (by rw[e];exact True.intro) (.inr ho) (λb q hb z=>(sb.2 b hb).trans z) hd ?_;refine⟨by rw[aU O.ne];exact ho,?_,O.ne,O'.obj,_,O'.ns,λg=>?_,λg hg=>?_⟩
 .have:=Hv f y fs;omega
 .show RelO ((cT f y fs).lookup g) (if g=f then some u else mA g);rw[Hw];by_cases q:g=f
  .rw[if_pos q,if_pos q];exact ry
  .rw[if_neg q,if_neg q];exact r g
 .by_cases q:g=f
  .rw[q];exact(zY f y fs).1
  .refine(zY f y fs).2 g (wi g λz=>hg ?_);show(if g=f then some u else mA g)=none;rw[if_neg q];exact z
def Inv.made(I:Inv X z5 J H s):Inv X z5 J (aN (aN H s.heap.objs.size (.own (s.heap.objs.size+1))) (s.heap.objs.size+1) (.ins C s.heap.objs.size []))
 {s with heap:=(s.heap.push W.emptyDict).push (W.instObj C s.heap.objs.size)}:=by
 have e1:(s.heap.push W.emptyDict).get? s.heap.objs.size=some W.emptyDict:=ju s.heap rfl;have e2:((s.heap.push W.emptyDict).push (W.instObj C s.heap.objs.size)).get? (s.heap.objs.size+1)=some (W.instObj C s.heap.objs.size):=by
  have:=ju (s.heap.push W.emptyDict) (o:=W.instObj C s.heap.objs.size) rfl
  rwa [xx]at this
 have e3:(s.heap.push W.emptyDict).Ns s.heap.objs.size (λ_=>none):=⟨W.emptyDict,#[],_,e1,rfl,(λe he=>absurd he (by simp)),λ_=>rfl⟩;have I1:=I.laid (a:=s.heap.objs.size) (o:=.own (s.heap.objs.size+1)) (h':=s.heap.push W.emptyDict) (t':=s.toks) (λb u q=>je _ q) (jg _) ⟨_,e1⟩;refine I1.laid (a:=s.heap.objs.size+1) (o:=.ins C s.heap.objs.size []) (t':=s.toks) (λb u q=>je _ q) (Nat.le_of_eq (xx _ _)) ?_;have ne:s.heap.objs.size≠s.heap.objs.size+1:=jo (Nat.lt_succ_self _);refine⟨by rw[aU ne,cr],Nat.zero_le _,ne,e2,λ_=>none,(Heap.Ns1.of_empty e3).at λo q=>je _ q,λ_=>True.intro,λy hy=>absurd rfl hy⟩
def qs5{prog:Program}{w:World}{env:Env}{e:Expr}{f:Str}{pos:Pos}{s:Shared}{Q:Z0}(hb:attributeBase e f env (eval e env)=eval e env)
 (h:wpAny (model prog w) A (eval e env) (λo s₁=>wpAny (model prog w) A (getAttr o f true) Q E s₁) E s):wpAny (model prog w) A (eval (.Attribute e f pos) env) Q E s:=
 Attribute_any_ h (by rw[arm_eval_Attribute,hb])
end
def nC(K:am)(ta:TE)(f:Str):TE:=λJ H Q=>ta J H λx H1=>∃a C dx fs v,x=.ref a/\H1 a=some (.ins C dx fs)/\Cls K C/\NoAttr K C f/\fs.lookup f=some v/\Q v H1
def A5(K:am)(ta tv:TE)(f:Str):TS:=λD J H=>tv J H λy H1=>ta J H1 λx H2=>∃a C dx fs,x=.ref a/\H2 a=some (.ins C dx fs)/\Cls K C/\NoAttr K C f/\fs.length<1000/\
 D.nx J (aN H2 a (.ins C dx (cT f y fs)))
section
variable{X:Cx}{o e value:Expr}{f:Str}{pos j7 tpos:Pos}{ta tv:TE}
def qua(he:PE X e ta)(hb:attributeBase e f X.env (eval e X.env)=eval e X.env):PE X (.Attribute e f pos) (nC X.K ta f):=by intro z5 s J H Q I h;refine qs5 hb (aW (he z5 s J H _ I h) λu s1 ⟨x,H1,I1,rx,a,C,dx,fs,v,ex,ea,c,n,l,q⟩=>?_);subst ex;obtain rfl:u=Value.ref a:=rx;exact qf3 I1 ea c n l λu' s2 I2 ru=>⟨v,H1,I2,ru,q⟩
def yb(ha:PE X o ta)(hv:PE X value tv)(hs:swapsWith value (some (.Attribute o f j7)) pos.line X.env=pure false):PS X (.Assign [.Attribute o f j7] value pos) (A5 X.K ta tv f):=by intro z5 s J H D I h;refine plainObj_wpAny_Assign_Attribute (aW (hv z5 s J H _ I h) λu s1 ⟨y,H1,I1,ry,q⟩=>aW (ha z5 s1 J H1 _ I1 q) λov s2 ⟨x,H2,I2,rx,a,C,dx,fs,ex,ea,c,n,l,q2⟩=>?_) hs;subst ex;obtain rfl:ov=Value.ref a:=rx;exact qee I2 ea c n l ry λs3 I3=>⟨J,_,I3,q2⟩
end
section
variable{X:Cx}{z5:Z3}{J:St}{H:Hp}{s:Shared}{A:Around}{E:Z0}{Q:Z0}{c:Value}{b:Bool}
inductive TyOf(K:am)(H:Hp):V->Value->Prop where
 |non:TyOf K H .non (.type "NoneType")
 |bl (x:Bool):TyOf K H (.bl x) (.type "bool")
 |int (i:Int):TyOf K H (.int i) (.type "int")
 |str (x:Str):TyOf K H (.str x) (.type "str")
 |flt (x:UInt64):TyOf K H (.flt x) (.type "float")
 |lst {a:Addr} {xs:List V} (e:H a=some (.lst xs)):TyOf K H (.ref a) (.type "list")
 |frz {a:Addr} {o:Obj} {xs:List V} (e:H a=some (.frz o (.lst xs))):TyOf K H (.ref a) (.type "list")
 |tup {a:Addr} {xs:List V} (e:H a=some (.tup xs)):TyOf K H (.ref a) (.type "tuple")
 |dK {a:Addr} {kvs:List (bf×V)} (e:H a=some (.dK kvs)):TyOf K H (.ref a) (.type "dict")
 |dT {a:Addr} {kvs:List (List bf×V)} (e:H a=some (.dT kvs)):TyOf K H (.ref a) (.type "dict")
 |ins {a C dx:Addr} {fs:List (Str×V)} (e:H a=some (.ins C dx fs)) (cl:Cls K C) (ha:W.findIn K (.ref C) "__class__"=some (some (.builtin "object.__class__")))
  (hn:W.specialIn K (.builtin "object.__class__") "__get__"=some (some (.builtin "getset_descriptor.__get__"))) (htk:W.takesIn K (.builtin "object.__class__")=some true)
  (hm:W.mroIn K C (.type "object")=some true):TyOf K H (.ref a) (.ref C)
def qis{x:V}{u t:Value}(I:Inv X z5 J H s)(rx:RelV x u)(ty:TyOf X.K H x t)(e:W.kitOne X.K t c=some b)(h:∀tk,Q (.bool b) {s with toks:=tk}):
 wpAny (model X.prog X.w) A (call (.builtin "isinstance") [u,c]) Q E s:=by
 cases ty with
 |non=>cases(show u=Value.none from rx);exact W.kia_one W.kitx_none I.kIn True.intro e (λz=>nomatch z) h
 |bl y=>cases(show u=Value.bool y from rx);exact W.kia_one W.kitx_bool I.kIn True.intro e (λz=>nomatch z) h
 |int i=>let⟨t,q⟩:=(show∃t,u=Value.int i t from rx);cases q;exact W.kia_one W.kitx_int I.kIn True.intro e (λz=>nomatch z) h
 |str y=>let⟨t,q⟩:=(show∃t,u=Value.str y t from rx);cases q;exact W.kia_one W.kitx_str I.kIn True.intro e (λz=>nomatch z) h
 |flt y=>let⟨t,q⟩:=(show∃t,u=Value.float y t from rx);cases q;exact W.kia_one W.kitx_float I.kIn True.intro e (λz=>nomatch z) h
 | @lst a xs ea=>
  cases(show u=Value.ref a from rx);let⟨_,_,n,_,h1⟩:=(show ObjOk X.prog X.w H s.heap a (.lst xs)from I.hok a _ ea);exact W.kia_one W.kitx_list I.kIn ⟨_,h1,rfl⟩ e (λz=>nomatch z) h
 | @frz a ob xs ea=>
  cases(show u=Value.ref a from rx);let⟨_,_,_,n,_,h1⟩:=(show ObjOk X.prog X.w H s.heap a (.frz ob (.lst xs))from I.hok a _ ea);exact W.kia_one W.kitx_list I.kIn ⟨_,h1,rfl⟩ e (λz=>nomatch z) h
 | @tup a xs ea=>
  cases(show u=Value.ref a from rx);let⟨_,_,_,p⟩:=(show ObjOk X.prog X.w H s.heap a (.tup xs)from I.hok a _ ea);obtain⟨o,h1,⟨h2,_⟩,_⟩:=p;exact W.kia_one W.kitx_tuple I.kIn ⟨o,h1,h2⟩ e (λz=>nomatch z) h
 | @dK a kvs ea=>
  cases(show u=Value.ref a from rx);let⟨_,_,vs,_,p⟩:=(show ObjOk X.prog X.w H s.heap a (.dK kvs)from I.hok a _ ea);obtain⟨o,es,h1,h2,_⟩:=p;exact W.kia_one W.kitx_dict I.kIn ⟨o,h1,h2.1⟩ e (λz=>nomatch z) h
 | @dT a kvs ea=>
  cases(show u=Value.ref a from rx);let⟨_,_,xs,_,o,es,ep,h1,h2,_⟩:=(show ObjOk X.prog X.w H s.heap a (.dT kvs)from I.hok a _ ea);exact W.kia_one W.kitx_dict I.kIn ⟨o,h1,h2.1⟩ e (λz=>nomatch z) h
 | @ins a C dx fs ea cl ha hn htk hm=>
  cases(show u=Value.ref a from rx);let⟨mA,O,_⟩:=uA I.hok ea;obtain⟨od,σ,_⟩:=O.look;exact W.kia_one (W.kitx_own (cl.get _) cl.hd ha hn htk hm) I.kIn σ e (λz=>nomatch z) h
end
structure Room(k:Nat)(A:Around):Prop where
 hd:A.handled=none
 dp:A.depth+3*k+5<recursionLimit
 un:A.units+16*k+200<cLine
def Room.mono{j k:Nat}{A:Around}(r:Room k A)(h:j<=k):Room j A:=⟨r.hd,by have:=r.dp;omega,by have:=r.un;omega⟩
def Room.m{j k:Nat}{A:Around}(r:Room k A)(h:j<=k:=by decide):Room j A:=r.mono h
def Room.deeper{k:Nat}{A:Around}(r:Room (k+1) A)(env:Env):Room k (A.deeper env):=
 ⟨r.hd,by have:=r.dp;show A.depth+1+3*k+5<_;omega,by have:=r.un;show A.units+3+16*k+200<_;omega⟩
def Room.in1{k:Nat}{A:Around}(r:Room (k+1) A):Room k A.in1:=
 ⟨r.hd,by have:=r.dp;show A.depth+3*k+5<_;omega,by have:=r.un;show A.units+1+16*k+200<_;omega⟩
def qew{A:Around}{C:Addr}{us:Ze}{kw:List (Str×Value)}:(A.under (.builtin "type.__call__" ⟨.ref C::us,kw⟩)).depth=A.depth+1:=by first|rfl|simp[Around.under,Code.weight,Code.isCreation,Code.isGuard,Code.isCaller,Code.frames,Code.isFrame,guardIds]
def qev{A:Around}{C:Addr}{us:Ze}{kw:List (Str×Value)}:(A.under (.builtin "type.__call__" ⟨.ref C::us,kw⟩)).units=A.units+1:=by first|rfl|simp[Around.under,Code.cUnits,Code.frames,Code.isFrame]
def Room.make{k:Nat}{A:Around}(r:Room (k+1) A)(C:Addr)(us:Ze)(kw:List (Str×Value)):Room k (A.under (.builtin "type.__call__" ⟨.ref C::us,kw⟩)):=
 ⟨r.hd,by have:=r.dp;rw[qew];omega,by have:=r.un;rw[qev];omega⟩
def Room.depth{k:Nat}{A:Around}(r:Room k A):A.depth<recursionLimit:=by have:=r.dp;omega
def Room.units{k:Nat}{A:Around}(r:Room k A):A.units+64<cLine:=by have:=r.un;omega
def fy:TA:=λ_ H Q=>Q [] H
def iT(ta:TE)(tr:TA):TA:=λJ H Q=>ta J H λx H1=>tr J H1 λxs H2=>Q (x::xs) H2
section
variable{X:Cx}{e:Expr}{es:Zi}{te:TE}{t:TA}{pos:Pos}
def aw:PA X [] fy:=λ_ _ _ _ H Q I h=>Calls.spliced_nil ⟨[],H,I,.nil,h⟩
def aj(ha:PE X e te)(hr:PA X es t)(hs:starEach (e::es) X.env=(false,eval e X.env)::starEach es X.env:=by rfl):PA X (e::es) (iT te t):=by intro pos z5 s J H Q I h;rw[hs];show wpAny _ _ (spliced ((false,eval e X.env)::backTo pos (starEach es X.env))) _ _ s;refine vw (aW (ha z5 s J H _ I h) λu s1 ⟨x,H1,I1,r1,q1⟩=>?_);exact aW (hr pos z5 s1 J H1 _ I1 q1) λus s2 ⟨xs,H2,I2,r2,q2⟩=>⟨x::xs,H2,I2,.cons r1 r2,q2⟩
def rK(t:TA):TE:=λJ H Q=>t J H λxs H1=>xs.length<=sizeLine/\∀p,H1 p=none->Q (.ref p) (aN H1 p (.tup xs))
def ny(t:TA):TE:=λJ H Q=>t J H λxs H1=>xs.length<=sizeLine/\∀p,H1 p=none->Q (.ref p) (aN H1 p (.lst xs))
def ie{x1}(h:PA X es t):PE X (.Tuple es x1 pos) (rK t):=by intro z5 s J H Q I hq;refine wpAny_Tuple_spliced (aW (h pos z5 s J H _ I hq) λus s1 ⟨xs,H1,I1,r,z,q⟩=>⟨by rw[<-r.length];exact z,?_⟩);have hf:H1 s1.heap.objs.size=none:=I1.hok.fresh (jg _);refine⟨.ref s1.heap.objs.size,aN H1 s1.heap.objs.size (.tup xs),I1.laid (t':=s1.toks) (λb u e=>je _ e) (jg _) ?_,rfl,q _ hf⟩;exact⟨z,us,r,⟨_,ju _ rfl,⟨rfl,_,rfl⟩,rfl⟩⟩
def eE(h:PA X es t):PE X (.List es pos) (ny t):=by intro z5 s J H Q I hq;refine wpAny_List_spliced (aW (h pos z5 s J H _ I hq) λus s1 ⟨xs,H1,I1,r,z,q⟩=>⟨by rw[<-r.length];exact z,?_⟩);have hf:H1 s1.heap.objs.size=none:=I1.hok.fresh (jg _);refine⟨.ref s1.heap.objs.size,aN H1 s1.heap.objs.size (.lst xs),I1.laid (t':=s1.toks) (λb u e=>je _ e) (jg _) ?_,rfl,q _ hf⟩;exact⟨z,us,0,r,ju _ rfl⟩
end
abbrev Sp:=List V->Hp->VK->XK->Prop
abbrev gr:=List Env->Hp->Shared->XK->Value->Shared->Prop
structure Env0(P:Program)(w:World)(K:am)(mg:Za)(base:Heap)(A:Around)(outer:List Env)(s:Shared)(H:Hp):Prop where
 frames:A.frames=some outer
 mod:Mod K mg base
 bs:∀b o,base.get? b=some o->s.heap.get? b=some o/\H b=none
 bsz:base.objs.size<=s.heap.objs.size
 funs:s.heap.FunFrames base outer
 frf:∀b∈dD outer,H b=none
 hok:HOk P w H s.heap
 bare:AllBare s.gens
def CE(outer:List Env)(P:Program)(w:World)(H:Hp)(s:Shared)(Q:VK)(u:Value)(s':Shared):Prop:=
 ∃v H',s'.os=s.os/\AllBare s'.gens/\Un (dD outer) [] H H' s.heap s'.heap/\HOk P w H' s'.heap/\RelV v u/\Q v H'
def CR(CX:gr)(outer:List Env)(P:Program)(w:World)(H:Hp)(s:Shared)(Q:VK)(E:XK)(r:Result)(s':Shared):Prop:=
 match r with
 |.ok (.ret u)=>CE outer P w H s Q u s'
 |.ok _=>False
 |.error e=>CX outer H s E e s'
structure FnOk(P:Program)(w:World)(K:am)(mg:Za)(base:Heap)(CX:gr)(k:Nat)(f:Addr)(fd:FuncData)(ps:Zj)(sp:Sp):Prop where
 len:∀vs H Q E,sp vs H Q E->vs.length=ps.length
 run:∀(A:Around) (outer:List Env) (s:Shared) (H:Hp) (args:Args) (us:Ze) (vs:List V) (Q:VK) (E:XK),Room k A->Env0 P w K mg base A outer s H->BindsTo s fd args (ps.zip us)->Vals vs us->sp vs H Q E->
  codeAny (model P w) A (.call (.ref f) args) (CR CX outer P w H s Q E) s
def FnOk.mono{P:Program}{w:World}{K:am}{mg:Za}{base:Heap}{CX:gr}{j k:Nat}{f:Addr}{fd:FuncData}{ps:Zj}{sp:Sp}(F:FnOk P w K mg base CX j f fd ps sp)(h:j<=k):
 FnOk P w K mg base CX k f fd ps sp:=⟨F.len,λA outer s H args us vs Q E hr=>F.run A outer s H args us vs Q E (hr.mono h)⟩
def FnOk.imp{P:Program}{w:World}{K:am}{mg:Za}{base:Heap}{CX:gr}{k:Nat}{f:Addr}{fd:FuncData}{ps:Zj}{sp sp':Sp}(F:FnOk P w K mg base CX k f fd ps sp)
 (h:∀vs H Q E,sp' vs H Q E->sp vs H Q E):FnOk P w K mg base CX k f fd ps sp':=
 ⟨λvs H Q E q=>F.len vs H Q E (h _ _ _ _ q),λA outer s H args us vs Q E hr he hb hv hs=>F.run A outer s H args us vs Q E hr he hb hv (h _ _ _ _ hs)⟩
def Env0.make{P:Program}{w:World}{K:am}{mg:Za}{base:Heap}{A:Around}{outer:List Env}{s:Shared}{H:Hp}(e:Env0 P w K mg base A outer s H)(C:Addr)(us:Ze)(kw:List (Str×Value)):
 Env0 P w K mg base (A.under (.builtin "type.__call__" ⟨.ref C::us,kw⟩)) outer s H:=⟨by first|exact e.frames|(simpa[Around.under,Code.envs,Code.isFrame,pushEnvs]using e.frames),e.mod,e.bs,e.bsz,e.funs,e.frf,e.hok,e.bare⟩
def Env0.in1{P:Program}{w:World}{K:am}{mg:Za}{base:Heap}{A:Around}{outer:List Env}{s:Shared}{H:Hp}(e:Env0 P w K mg base A outer s H):
 Env0 P w K mg base A.in1 outer s H:=⟨e.frames,e.mod,e.bs,e.bsz,e.funs,e.frf,e.hok,e.bare⟩
section
variable{X:Cx}{z5:Z3}{J:St}{H:Hp}{s s':Shared}
def Inv.env0(I:Inv X z5 J H s):Env0 X.prog X.w X.K X.mg X.base X.A X.stack s H:=
 ⟨I.ok.frames,I.ok.mod,I.bs,x6 I.ok.bsz I.sz,I.stack,I.stkFree,I.hok,I.bare⟩
def Inv.after{Q:VK}{u:Value}(I:Inv X z5 J H s)(h:CE X.stack X.prog X.w H s Q u s'):EP X z5 J Q u s':=by obtain⟨v,H',os,bare,un,hok,r,q⟩:=h;obtain⟨hh,g,d,t,os'⟩:=s';obtain rfl:os'=s.os:=os;exact⟨v,H',I.call (h':=hh) (g':=g) (d':=d) (t':=t) (ch:=[]) un hok bare (λb z=>absurd z (by simp)),r,q⟩
end
def jH(sp:Sp)(dvs:List V)(E:XK)(t:TA):TE:=λJ H Q=>t J H λvs H1=>sp (vs++dvs) H1 Q E
def Dz(C:Addr)(m:Str)(sp:Sp)(dvs:List V)(E:XK)(ta:TE)(t:TA):TE:=λJ H Q=>ta J H λx H1=>∃a dx fs,x=.ref a/\H1 a=some (.ins C dx fs)/\fs.lookup m=none/\
 t J H1 λvs H2=>sp (x::(vs++dvs)) H2 Q E
def Dy(C:Addr)(sp:Sp)(dvs:List V)(E:XK)(t:TA):TE:=λJ H Q=>t J H λvs H1=>∀x dx,H1 x=none->H1 dx=none->dx≠x->
 sp (.ref x::(vs++dvs)) (aN (aN H1 dx (.own x)) x (.ins C dx [])) (λv H2=>v=.non/\Q (.ref x) H2) E
def Binds(K:am)(fd:FuncData)(ps:Zj)(ds:Ze):Prop:=
 ∀(s:Shared) (us:Ze),K.In s.heap->(us++ds).length=ps.length->BindsTo s fd ⟨us,[]⟩ (ps.zip (us++ds))
def Binds.all{K:am}{fd:FuncData}{ps:Zj}(h:∀us:List Value,us.length=ps.length->bindArgs fd ⟨us,[]⟩=pure (ps.zip us)):Binds K fd ps []:=λs us _ hl=>by rw[List.append_nil]at hl ⊢;exact .of_eq (h us hl)
def mm(CX:gr)(X:Cx)(E:XK):Prop:=∀(z5:Z3) (J:St) (H:Hp) (s:Shared) (e:Value) (s':Shared),Inv X z5 J H s->CX X.stack H s E e s'->X.xe e s'
section
variable{X:Cx}{CX:gr}{k:Nat}{f C:Addr}{fd:FuncData}{ps:Zj}{sp:Sp}{dvs:List V}{ds:Ze}{E:XK}{x m:Str}{p pos zz:Pos}{e o:Expr}{es:Zi}{ta:TE}{t:TA}
def Ew{z5:Z3}{J:St}{H:Hp}{s:Shared}{Q:VK}{us:Ze}{vs:List V}(F:FnOk X.prog X.w X.K X.mg X.base CX k f fd ps sp)(hr:Room k X.A)(hb:Binds X.K fd ps ds)(hd:Vals dvs ds)(hx:mm CX X E)
 (I:Inv X z5 J H s) (r:Vals vs us) (h:sp (vs++dvs) H Q E):wpAny (model X.prog X.w) X.A (call (.ref f) us) (EP X z5 J Q) X.xe s:=by
 have r2:Vals (vs++dvs) (us++ds):=r.append hd;have hl:(us++ds).length=ps.length:=by rw[<-r2.length];exact F.len _ _ _ _ h
 refine wpAny_call (codeAny_mono (F.run X.A X.stack s H ⟨us,[]⟩ (us++ds) (vs++dvs) Q E hr I.env0 (hb s us I.kIn hl) r2 h) λr s' hq=>?_);cases r with
 |error e=>exact hx z5 J H s e s' I hq
 | ok fl=>
  cases fl with
  |ret u=>exact I.after hq
  |next=>exact False.elim hq
  |brk=>exact False.elim hq
  |cont=>exact False.elim hq
def i5(F:FnOk X.prog X.w X.K X.mg X.base CX k f fd ps sp)(hr:Room k X.A)(hg:Gl X x)(hm:X.mg x=some (.ref f))(hk:W.keepIn X.K (.ref f)=true)(hb:Binds X.K fd ps ds)(hd:Vals dvs ds)(hx:mm CX X E)
 (ha:PA X (e::es) t) (hdb:(x==("__debug__":Str))=false:=by decide) (he:starEach (e::es) X.env=(false,eval e X.env)::starEach es X.env:=by rfl) (hpl:(backTo pos (starEach es X.env)).any (·.1)=false:=by rfl):
 PE X (.Call (.Name x p) (e::es) [] pos) (jH sp dvs E t):=by
 intro z5 s J H Q I h;refine xu (pj I hg hm ?_ hdb);refine W.callWith_K (h₀:=X.base) I.ok.mod.kin hk (aW (ha pos z5 s J H _ I h) λus s1 ⟨vs,H1,I1,r,q⟩=>⟨I1.kIn,?_⟩) he hpl;exact Ew F hr hb hd hx I1 r q
def yX{pl:Sem Bool}(he:PE X o ta)(c:Cls X.K C)(hm:Meth X.K C m f)(F:FnOk X.prog X.w X.K X.mg X.base CX k f fd ps sp)(hr:Room k X.A)(hb:Binds X.K fd ps ds)(hd:Vals dvs ds)(hx:mm CX X E)(ha:PA X (e::es) t)
 (hst:starEach (e::es) X.env=(false,eval e X.env)::starEach es X.env:=by rfl) (hpl:(backTo pos (starEach es X.env)).any (·.1)=false:=by rfl)
 (ht:eval (.Call (.Attribute o m zz) (e::es) [] pos) X.env=(do
   let ov <-eval o X.env
   standAt zz.atName
   let (f,first) <-holding [ov] (getMethod ov m pl)
   callWith pos f first (backTo pos (starEach (e::es) X.env)) (backToKw pos (keywordEach [] X.env))):=by rfl):
 PE X (.Call (.Attribute o m zz) (e::es) [] pos) (Dz C m sp dvs E ta t):=by
 intro z5 s J H Q I h;refine W.methodCall_KW (pl:=pl) (aW (he z5 s J H _ I h) λu s1 ⟨x,H1,I1,rx,a,dx,fs,ex,ea,l,q⟩=>?_) ht;subst ex;obtain rfl:u=Value.ref a:=rx;refine qf2 I1 ea c hm l ?_;refine W.callWith_K (first:=[.ref a]) (h₀:=X.base) I.ok.mod.kin hm.kp (aW (ha pos z5 s1 J H1 _ I1 q) λus s2 ⟨vs,H2,I2,r,q2⟩=>⟨I2.kIn,?_⟩) hst hpl;exact Ew (us:=.ref a::us) (vs:=.ref a::vs) F hr hb hd hx I2 (.cons rfl r) q2
structure Mk(K:am)(C f:Addr):Prop where
 makes:W.makesIn K C=true
 init:W.findIn K (.ref C) "__init__"=some (some (.ref f))
 fn:W.isFn K (.ref f)=true
 kp:W.keepIn K (.ref C)=true
def qkq{z5:Z3}{J:St}{H:Hp}{s:Shared}{Q:VK}{us:Ze}{vs:List V}(ρ:Mk X.K C f)(F:FnOk X.prog X.w X.K X.mg X.base CX k f fd ps sp)(hr:Room (k+1) X.A)(hb:Binds X.K fd ps ds)(hd:Vals dvs ds)
 (hx:mm CX X E) (I:Inv X z5 J H s) (r:Vals vs us)
 (h:∀x dx,H x=none->H dx=none->dx≠x->sp (.ref x::(vs++dvs)) (aN (aN H dx (.own x)) x (.ins C dx [])) (λv H2=>v=.non/\Q (.ref x) H2) E):
 wpAny (model X.prog X.w) X.A (call (.ref C) us) (EP X z5 J Q) X.xe s:=by
 have hq:=h (s.heap.objs.size+1) s.heap.objs.size (I.hok.fresh (Nat.le_succ _)) (I.hok.fresh (jg _)) (jo (Nat.lt_succ_self _));have I2:=Inv.made (C:=C) I;have r2:Vals (V.ref (s.heap.objs.size+1)::(vs++dvs)) (Value.ref (s.heap.objs.size+1)::(us++ds)):=.cons rfl (r.append hd);have hl:(Value.ref (s.heap.objs.size+1)::us++ds).length=ps.length:=by have e:=r2.length;rw[F.len _ _ _ _ hq]at e;exact e.symm
 refine wpAny_call (qlo (f:=f) I.kIn ρ.makes ρ.init (beq_iff_eq.mp ρ.fn) (codeAny_mono (F.run _ X.stack _ _ ⟨Value.ref (s.heap.objs.size+1)::us,[]⟩ (Value.ref (s.heap.objs.size+1)::(us++ds)) _ _ E (hr.make C us [])
  (I2.env0.make C us []) (hb _ (Value.ref (s.heap.objs.size+1)::us) I2.kIn hl) r2 hq) λr s' hq'=>?_))
 cases r with
 |error e=>exact hx z5 J _ _ e s' I2 hq'
 | ok fl=>
  cases fl with
  | ret u=>
   let⟨v,H',I3,rv,ev,q3⟩:=I2.after hq';subst ev;exact⟨rv,⟨V.ref (s.heap.objs.size+1),H',I3,rfl,q3⟩⟩
  |next=>exact False.elim hq'
  |brk=>exact False.elim hq'
  |cont=>exact False.elim hq'
def Fk(ρ:Mk X.K C f)(F:FnOk X.prog X.w X.K X.mg X.base CX k f fd ps sp)(hr:Room (k+1) X.A)(hg:Gl X x)(hm:X.mg x=some (.ref C))(hb:Binds X.K fd ps ds)(hd:Vals dvs ds)(hx:mm CX X E)
 (ha:PA X (e::es) t) (hdb:(x==("__debug__":Str))=false:=by decide) (he:starEach (e::es) X.env=(false,eval e X.env)::starEach es X.env:=by rfl) (hpl:(backTo pos (starEach es X.env)).any (·.1)=false:=by rfl):
 PE X (.Call (.Name x p) (e::es) [] pos) (Dy C sp dvs E t):=by
 intro z5 s J H Q I h;refine xu (pj I hg hm ?_ hdb);refine W.callWith_K (h₀:=X.base) I.ok.mod.kin ρ.kp (aW (ha pos z5 s J H _ I h) λus s1 ⟨vs,H1,I1,r,q⟩=>⟨I1.kIn,?_⟩) he hpl;exact qkq ρ F hr hb hd hx I1 r q
end
section
variable{X:Cx}{CX:gr}{k:Nat}{f C:Addr}{fd:FuncData}{ps ks:Zj}{sp:Sp}{E:XK}{x m:Str}{p pos zz kpos:Pos}{e o:Expr}{es:Zi}{kws:List Keyword}{te ta:TE}{t tk:TA}{nm:Option Str}
structure qzk(K:am)(fd:FuncData)(ps ks:Zj)(g:List Value->List Value->List Value)(gV:List V->List V->List V):Prop where
 to:∀(s:Shared) (us ws:Ze),K.In s.heap->(g us ws).length=ps.length->BindsTo s fd ⟨us,ks.zip ws⟩ (ps.zip (g us ws))
 rel:∀{vs:List V} {us:Ze} {zs:List V} {ws:Ze},Vals vs us->Vals zs ws->Vals (gV vs zs) (g us ws)
variable{g:List Value->List Value->List Value}{gV:List V->List V->List V}
end
structure q0k(N P:Zj)(sc:Scope):Prop where
 kind:sc.kind=.function
 co:sc.isCoroutine=false
 gen:sc.isGenerator=false
 nd:N.Nodup
 pre:N.take P.length=P
 par:∀x∈P,sc.names.lookup x=some .local∨sc.names.lookup x=some .cell
 nofree:∀y∈sc.names,y.2≠.free
theorem GA{kindOf:Str->Option NameKind}{x:Str}:∀{zy:List (Str×Value)} {m:Za},(∀v,(x,v)∉zy)->bindL kindOf zy m x=m x
 |[],_,_=>rfl
 | (n,v)::r,m,h=>by
  unfold bindL;rw[GA λw hw=>h w (jh _ hw)];split
  .have:x≠n:=by rintro rfl;exact h v jj
   simp[this]
  .rfl
theorem Gy{kindOf:Str->Option NameKind}{x:Str}:∀{zy:List (Str×Value)} {m:Za},(∀v,(x,v)∉zy)->bindC kindOf zy m x=m x
 |[],_,_=>rfl
 | (n,v)::r,m,h=>by
  unfold bindC;rw[Gy λw hw=>h w (jh _ hw)];split
  .rfl
  .have:x≠n:=by rintro rfl;exact h v jj
   simp[this]
theorem Gz{kindOf:Str->Option NameKind}{x:Str}{v:Value}:∀{P:Zj} {vs:Ze} {i:Nat} {m:Za},P.Nodup->P[i]? =some x->vs[i]? =some v->kindOf x=some .local->
 bindL kindOf (P.zip vs) m x=some v
 |[],_,_,_,_,h,_,_=>by simp at h
 |_::_,[],_,_,_,_,h,_=>by simp at h
 | p::P,w::vs,0,m,nd,h1,h2,hk=>by simp at h1 h2;subst h1;subst h2;show bindL kindOf ((p,w)::P.zip vs) m p=_;unfold bindL;rw[GA λv hv=>(List.nodup_cons.mp nd).1 (List.of_mem_zip hv).1,if_pos hk];simp
 | p::P,w::vs,i+1,m,nd,h1,h2,hk=>by show bindL kindOf ((p,w)::P.zip vs) m x=_;unfold bindL;exact Gz (i:=i) (List.nodup_cons.mp nd).2 (by simpa using h1) (by simpa using h2) hk
theorem Gx{kindOf:Str->Option NameKind}{x:Str}{v:Value}:∀{P:Zj} {vs:Ze} {i:Nat} {m:Za},P.Nodup->P[i]? =some x->vs[i]? =some v->kindOf x≠some .local->
 bindC kindOf (P.zip vs) m x=some v
 |[],_,_,_,_,h,_,_=>by simp at h
 |_::_,[],_,_,_,_,h,_=>by simp at h
 | p::P,w::vs,0,m,nd,h1,h2,hk=>by simp at h1 h2;subst h1;subst h2;show bindC kindOf ((p,w)::P.zip vs) m p=_;unfold bindC;rw[Gy λv hv=>(List.nodup_cons.mp nd).1 (List.of_mem_zip hv).1,if_neg hk];simp
 | p::P,w::vs,i+1,m,nd,h1,h2,hk=>by show bindC kindOf ((p,w)::P.zip vs) m x=_;unfold bindC;exact Gx (i:=i) (List.nodup_cons.mp nd).2 (by simpa using h1) (by simpa using h2) hk
noncomputable def aO(N:Zj)(vs:List V):St:=vs.map some++List.replicate (N.length-vs.length) none
noncomputable def dX(CX:gr)(P:Program)(w:World)(K:am)(mg:Za)(base:Heap)(N:Zj)(qual:Str)(scope:Scope)(f:Addr)(cd:Value)(A:Around)(outer:List Env)(s:Shared)(H:Hp)(E:XK):Cx where
 prog:=P
 w:=w
 K:=K
 mg:=mg
 base:=base
 A:=A.deeper (envOfC qual scope s.heap.objs.size f cd)
 N:=N
 s₀:=s
 H₀:=H
 env:=envOfC qual scope s.heap.objs.size f cd
 outer:=outer
 stack:=envOfC qual scope s.heap.objs.size f cd::outer
 ex:=[]
 calm:=true
 fn:=λ_=>true
 pn:=[]
 xe:=λe s'=>wpAny (model P w) (A.deeper (envOfC qual scope s.heap.objs.size f cd)) (leaving (envOfC qual scope s.heap.objs.size f cd) e) (λ_ s''=>CX outer H s E e s'') (λe' s''=>CX outer H s E e' s'') s'
def FL{sc:Scope}{n:Nat}{x:Str}(h:sc.names.lookup x=some .cell):∃c,(cellsFrom n sc.names []).lookup x=some c:=by have q:=W.cellsFrom_some sc.names n [] (.inl h);exact Option.isSome_iff_exists.mp q
def qiu{CX:gr}{P:Program}{w:World}{K:am}{mg:Za}{base:Heap}{N ps:Zj}{qual:Str}{scope:Scope}{f:Addr}{cd:Value}{A:Around}{outer:List Env}{s s1:Shared}{H:Hp}{E:XK}{us:Ze}{vs:List V}
 (S:q0k N ps scope) (hd:A.handled=none) (e0:Env0 P w K mg base A outer s H) (hl:vs.length=ps.length) (r:Vals vs us)
 (x:InCallC s s.heap.objs.size (bindL (envOfC qual scope s.heap.objs.size f cd).kindOf (ps.zip us) λ_=>none) (cellsFrom (s.heap.objs.size+1) scope.names []) (bindC (envOfC qual scope s.heap.objs.size f cd).kindOf (ps.zip us) λ_=>none) s1):
 Inv (dX CX P w K mg base N qual scope f cd A outer s H E) [] (aO N vs) H s1:=by
 have hpl:ps.length<=N.length:=by have:=congrArg List.length S.pre;rw[k6]at this;omega
 obtain⟨h1,tk,rfl,hk⟩:=x.done;have noA:∀b:Addr,b∉(dX CX P w K mg base N qual scope f cd A outer s H E).ex:=λb z=>absurd (show b∈([]:List Addr)from z) (by simp);refine⟨⟨e0.mod,S.kind,rfl,rfl,jg _,λy z c h1 h2=>?_,λy hy=>?_,λy c _ h=>?_,λ_=>hd,Around.frames_deeper e0.frames,.inr ⟨rfl,rfl⟩,λb z=>absurd z (noA b),e0.bs,e0.bsz,λb _ _=>noA b,λb z=>absurd z (noA b),e0.funs,e0.frf⟩,
  rfl,e0.bare,Un.kept hk,⟨_,x.toInCall.ns,λi y v h1 h2 h3=>?_⟩,λy c h=>⟨_,x.cell y c h⟩,e0.hok.fresh (jg _),λy c h=>?_,λp hp=>absurd (show p∈([]:Z3)from hp) (by simp),e0.hok.kept hk,?_⟩
 .exact name_of_addr x.apart (PySem.mem_of_lookup h1) (PySem.mem_of_lookup h2)
 .have hy:scope.names.lookup y=some .cell∨scope.names.lookup y=some .free:=hy;rcases hy with hy|hy
  .exact FL hy
  .exact absurd rfl (S.nofree _ (PySem.mem_of_lookup hy))
 .exact Nat.le_of_lt (x.above y c (PySem.mem_of_lookup h))
 .have hi:i<vs.length:=by
   unfold aO at h2;by_cases hi:i<vs.length
   .exact hi
   .rw[ke (by simpa using hi)]at h2;rw[kj]at h2;split at h2<;>cases h2
  have ha:vs[i]? =some v:=by
   unfold aO at h2;rw[ku (by simpa using hi),jq]at h2;cases e:vs[i]? with
   |none=>rw[e]at h2;cases h2
   |some a=>rw[e]at h2;cases h2;rfl
  let⟨u,hu,rv⟩:=r.get ha;have hp:ps[i]? =some y:=by rw[<-S.pre,List.getElem?_take_of_lt (by omega)];exact h1
  have ndP:ps.Nodup:=by rw[<-S.pre];exact S.nd.sublist (List.take_sublist _ _)
  refine⟨u,rv,?_⟩;rcases S.par y (k8 hp)with k|k
  .exact .inl ⟨k,Gz ndP hp hu k⟩
  .let⟨c,e⟩:=FL (n:=s.heap.objs.size+1) k;refine .inr ⟨.inl k,c,e,?_⟩;have q:=x.cell y c e;rw[Gx ndP hp hu (by show scope.names.lookup y≠_;rw[k];decide)]at q;exact q
 .exact e0.hok.fresh (Nat.le_of_lt (x.above y c (PySem.mem_of_lookup h)))
 .unfold aO;show _=N.length;rw[jr,jb,jx];omega
def tO{CX:gr}{P:Program}{w:World}{K:am}{mg:Za}{base:Heap}{k:Nat}{f:Addr}{name qual:Str}{params:Arguments}{body:Zh}{scope:Scope}{dV kV doc pm cdv ct oc:Value}{an od:Zc}
 {osl:Array (Option Value)} {N ps:Zj} {sp:Sp} (lk:K.lookup f=some ⟨oc,od,.func (W.fnOf name qual params body scope dV kV doc pm an cdv ct),osl⟩) (hcd:W.codeIn K cdv qual=true) (S:q0k N ps scope)
 (len:∀vs H Q E,sp vs H Q E->vs.length=ps.length)
 (zg:∀(A:Around) (outer:List Env) (s:Shared) (H:Hp) (vs:List V) (Q:VK) (E:XK),Room k (A.deeper (envOfC qual scope s.heap.objs.size f cdv))->sp vs H Q E->
   ∃t,PSs (dX CX P w K mg base N qual scope f cdv A outer s H E) body t/\t {nx:=λ_ H'=>Q .non H',rt:=Q} (aO N vs) H):
 FnOk P w K mg base CX (k+1) f (W.fnOf name qual params body scope dV kV doc pm an cdv ct) ps sp:=by
 refine⟨len,λA outer s H args us vs Q E hr e0 hb r hsp=>?_⟩;have hl:=len _ _ _ _ hsp;have KX:K.In s.heap:=e0.mod.kin.keeps λb o e=>(e0.bs b o e).1;have lim:s.heap.NoLimit:=e0.mod.nolimit.keeps λb o e=>(e0.bs b o e).1;have zj:∀y∈ps.zip us,scope.names.lookup y.1=some .local∨(scope.names.lookup y.1=some .cell/\((cellsFrom (s.heap.objs.size+1) scope.names []).lookup y.1).isSome=true):=λ⟨n,v⟩ hy=>by
  rcases S.par n (List.of_mem_zip hy).1 with q|q
  .exact .inl q
  .exact .inr ⟨q,W.cellsFrom_some _ _ _ (.inl q)⟩
 refine codeAny_call_function hr.depth (KX _ _ lk) rfl S.co S.gen rfl (W.codeRec_of KX hcd) (hb _ _ _ _ ?_);refine wpAny_newFunctionEnv_cells S.kind zj λenv he s1 x=>?_;subst he;refine⟨lim.keeps x.toInCall.keep,codeAny_func ?_⟩;let⟨t,ht,hq⟩:=zg A outer s H vs Q E (hr.deeper _) hsp;have I:Inv (dX CX P w K mg base N qual scope f cdv A outer s H E) [] (aO N vs) H s1:=qiu S hr.hd e0 hl r x;refine xj (ht [] s1 (aO N vs) H _ I hq) (λfl s' hs=>?_) λe s' hs=>hs;have fin:∀{J':St} {H':Hp} {v:V} {u:Value},Inv (dX CX P w K mg base N qual scope f cdv A outer s H E) [] J' H' s'->RelV v u->Q v H'->CE outer P w H s Q u s':=
  λ{J' H' v u} σ rv q=>⟨v,H',σ.os,σ.bare,σ.base,σ.hok,rv,q⟩
 cases fl with
 | ret u=>
  obtain⟨v,J',H',σ,rv,q⟩:=hs;exact fin σ rv q
 | next=>
  obtain⟨J',H',σ,q⟩:=hs;exact fin (v:=V.non) (u:=Value.none) σ rfl q
 | brk=>
  obtain⟨_,_,_,q⟩:=hs;exact False.elim q
 | cont=>
  obtain⟨_,_,_,q⟩:=hs;exact False.elim q
section
variable{X:Cx}{x:Str}{p pos:Pos}{e:Expr}{es:Zi}{t:TA}{id T:String}{r:List V->Hp->VK->Prop}
def jZ(r:List V->Hp->VK->Prop)(t:TA):TE:=λJ H Q=>t J H λvs H1=>r vs H1 Q
def dh(hc:fM X (.builtin id) r)(hg:Gl X x)(hm:X.mg x=none)(hv:bootBuiltins x=some (.builtin id))(ha:PA X (e::es) t)(hn:x≠"__name__":=by decide)(hdb:(x==("__debug__":Str))=false:=by decide)
 (he:starEach (e::es) X.env=(false,eval e X.env)::starEach es X.env:=by rfl) (hpl:(backTo pos (starEach es X.env)).any (·.1)=false:=by rfl):PE X (.Call (.Name x p) (e::es) [] pos) (jZ r t):=by
 intro z5 s J H Q I h;refine xu (ia I hg hm hv ?_ hn hdb);exact PyProof.Rows.callWith_builtin1 (aW (ha pos z5 s J H _ I h) λus s1 ⟨vs,H1,I1,r1,q1⟩=>hc z5 s1 J H1 vs us Q I1 r1 q1) he hpl
def nh(hc:fM X (.type T) r)(hg:Gl X x)(hm:X.mg x=none)(hv:bootBuiltins x=some (.type T))(ha:PA X (e::es) t)(hn:x≠"__name__":=by decide)(hdb:(x==("__debug__":Str))=false:=by decide)
 (he:starEach (e::es) X.env=(false,eval e X.env)::starEach es X.env:=by rfl) (hpl:(backTo pos (starEach es X.env)).any (·.1)=false:=by rfl):PE X (.Call (.Name x p) (e::es) [] pos) (jZ r t):=by
 intro z5 s J H Q I h;refine xu (ia I hg hm hv ?_ hn hdb);exact PyProof.Rows.callWith_type1 (aW (ha pos z5 s J H _ I h) λus s1 ⟨vs,H1,I1,r1,q1⟩=>hc z5 s1 J H1 vs us Q I1 r1 q1) he hpl
end
end L2
namespace HT
open PySem PyProof.Rows
noncomputable def lexLt:List Int->List Int->Bool
 |[],[]=>false
 |[],_::_=>true
 |_::_,[]=>false
 |x::xs,y::ys=>if x=y then lexLt xs ys else decide (x<y)
def lexLt_cons(x y:Int)(xs ys:Zf):lexLt (x::xs) (y::ys)=if x=y then lexLt xs ys else decide (x<y):=rfl
def eqAt_int(A:Around)(s:Shared)(a:Int)(t:Tok)(c:Int)(u:Tok):∃e,SeqAt.EqAt A s (.int a t) (.int c u) e/\(e=true↔a=c):=
 ⟨(a==c),SeqAt.EqAt.int_int a t c u,by simp⟩
def rcLt_int(A:Around)(s:Shared)(a:Int)(t:Tok)(c:Int)(u:Tok)(prog:Program)(w:World)(E:Z0)(Q:Z0)(h:Q (.bool (decide (a<c))) s):
 wpAny (model prog w) A (richCompare .Lt (.int a t) (.int c u)) Q E s:=
 (PyProof.Rows.lt_int h:wpAny (model prog w) A (compareOp .Lt (.int a t) (.int c u)) Q E s)
section
open PySem.SeqAt
open PySem.AutoSeq1 (wpAny_loadPart')
open PySem.MeetsSeq PySem.MeetsSeq2 PySem.MeetsSeq3
end
section
variable{prog:Program}{w:World}{A:Around}{E:Z0}{s:Shared}
noncomputable def sIx(n d:Nat):Option Int->Nat
 |none=>d
 |some v=>if v<0 then(v+(n:Int)).toNat else min v.toNat n
def sIx_none(n d:Nat):sIx n d none=d:=rfl
def qtn{n d:Nat}(hd:d<=n)(o:Option Int):sIx n d o<=n:=by
 cases o with
 |none=>exact hd
 | some v=>
  show(if v<0 then(v+(n:Int)).toNat else min v.toNat n)<=n;by_cases hv:v<0
  .rw[if_pos hv];omega
  .rw[if_neg hv];exact Nat.min_le_right _ _
def ES(v:Int)(n d:Nat):(if v<0 then max (v+(n:Int)) 0 else min v (n:Int))=((sIx n d (some v):Nat):Int):=by
 show(if v<0 then max (v+(n:Int)) 0 else min v (n:Int))=(((if v<0 then(v+(n:Int)).toNat else min v.toNat n):Nat):Int);by_cases hv:v<0
 .simp only[if_pos hv];omega
 .simp only[if_neg hv];omega
def qfk(lo hi:Option Int)(n:Nat):Builtin.Slice.sliceAdjust lo hi 1 (n:Int)=(((sIx n 0 lo:Nat):Int),((sIx n n hi:Nat):Int)):=by
 have h1:¬((1:Int)<0):=by omega
 unfold Builtin.Slice.sliceAdjust;simp only[h1,if_false];refine Prod.ext ?_ ?_
 .cases lo with
  |none=>rfl
  |some v=>exact ES v n 0
 .cases hi with
  |none=>rfl
  |some v=>exact ES v n n
def qem(i j:Nat):Builtin.Slice.slicePlaces (i:Int) (j:Int) 1=j-i:=by
 unfold Builtin.Slice.slicePlaces;have h1:(1:Int)>0:=by omega
 simp only[h1,if_true,Int.ediv_one];split<;>omega
def Hm{v:Value}{o:Option Int}{Q:Option Int->Shared->Prop}(p:IsPart v o)(h:Q o s):wpAny (model prog w) A (Builtin.Slice.slicePartIndex v) Q E s:=by
 cases p with
 |none=>exact slicePart_none h
 |int i t=>exact slicePart_int h
def q69{sl:Addr}{vl vu:Value}{lo hi:Option Int}{n:Nat}{Q:Int×Int×Nat->Shared->Prop}(hs:s.heap.IsSliceOf sl vl vu .none)(pl:IsPart vl lo)(pu:IsPart vu hi)
 (h:Q (((sIx n 0 lo:Nat):Int),1,sIx n n hi-sIx n 0 lo) s):wpAny (model prog w) A (Builtin.Slice.sliceApplied (.ref sl) (pure (n:Int))) Q E s:=by
 let⟨os,hos,hcs,hds⟩:=id hs;unfold Builtin.Slice.sliceApplied Builtin.Slice.sliceFields;refine ja (ja (xg hos hds (x:=vl) rfl (ja (xg hos hds (x:=vu) rfl (ja (xg hos hds (x:=.none) rfl (jc ?_)))))));refine ja (slicePart_none ?_);show wpAny _ _ (if((1:Int)==0)=true then _ else _) _ _ s;rw[if_neg (by decide)];refine ja (Hm pl (ja (Hm pu (ja (jc ?_)))));show wpAny _ _ (match Builtin.Slice.sliceAdjust lo hi 1 (n:Int)with|(lo,hi)=>pure (lo,(1:Int),Builtin.Slice.slicePlaces lo hi 1)) _ _ s;rw[qfk lo hi n];show wpAny _ _ (pure (((sIx n 0 lo:Nat):Int),(1:Int),Builtin.Slice.slicePlaces ((sIx n 0 lo:Nat):Int) ((sIx n n hi:Nat):Int) 1)) _ _ s;rw[qem];exact jc h
def qkv(xs:Zd)(i k:Nat):((List.range k).filterMap λ(m:Nat)=>xs[((i:Int)+(m:Int)*1).toNat]?).toArray=((xs.toList.drop i).take k).toArray:=by
 have e:(λ(m:Nat)=>xs[((i:Int)+(m:Int)*1).toNat]?)=λm=>xs[i+m]? :=by
  funext m;have:((i:Int)+(m:Int)*1).toNat=i+m:=by omega
  rw[this]
 rw[e];have:=pick_run xs i k;rw[List.filterMap_map]at this;have e2:((λx=>xs[x]?)∘λx=>i+x)=λm=>xs[i+m]? :=rfl;rw[e2]at this;rw[this]
def getItem_tuple_cut{t sl:Addr}{items:Zd}{vl vu:Value}{lo hi:Option Int}{Q:Z0}(ht:IsTup s.heap t items)(hs:s.heap.IsSliceOf sl vl vu .none)(pl:IsPart vl lo)(pu:IsPart vu hi)
 (hw:¬(sIx items.size 0 lo=0/\sIx items.size items.size hi=items.size))
 (h:Q (.ref s.heap.objs.size) {s with heap:=s.heap.push {cls:=.type "tuple",data:=.seq ((items.toList.drop (sIx items.size 0 lo)).take (sIx items.size items.size hi-sIx items.size 0 lo)).toArray}})
 (hsz:items.size<=sizeLine):wpAny (model prog w) A (getItem (.ref t) (.ref sl)) Q E s:=by
 have htake:sizeOk (.seq ((items.toList.drop (sIx items.size 0 lo)).take (sIx items.size items.size hi-sIx items.size 0 lo)).toArray):=by show((items.toList.drop (sIx items.size 0 lo)).take (sIx items.size items.size hi-sIx items.size 0 lo)).toArray.size<=sizeLine;rw[x5,k6,xv,Array.length_toList];omega
 have hj:sIx items.size items.size hi<=items.size:=qtn (jg _) hi;let⟨os,hos,hcs,hds⟩:=id hs;have hTs:s.TypeIs (.ref sl) "slice":=⟨os,hos,hcs⟩;unfold getItem
 try with_reducible refine xr ?_
 first|refine ja (jc ?_)|skip
 refine ja (wpAny_sequenceKey ht.typeIs (by decide) ?_);refine ja (va (name:=Str.ofString "__getitem__") ht.typeIs PyProof.Rows.slot_tuple_getitem
  (kh PyProof.Rows.slot_tuple_getitem ht.typeIs entry_tuple_getitem ?_ (args_tuple_getitem _ _)))
 show wpAny _ _ (Builtin.Tuple.tupleItemsOf (.ref t) >>= _) _ _ s;refine ja (tupleItemsOf_ ht ?_);refine ja (wpAny_typeOf hTs ?_);rw[if_pos (by decide)];refine ja (q69 hs pl pu ?_);have hno:¬((((sIx items.size 0 lo:Nat):Int)==0&&(1:Int)==1&&(sIx items.size items.size hi-sIx items.size 0 lo)==items.size)=true):=by intro q;rw[Bool.and_eq_true,Bool.and_eq_true]at q;have q1:((sIx items.size 0 lo:Nat):Int)=0:=eq_of_beq q.1.1;have q2:sIx items.size items.size hi-sIx items.size 0 lo=items.size:=eq_of_beq q.2;exact hw ⟨by omega,by omega⟩
 show wpAny _ _ (if(((sIx items.size 0 lo:Nat):Int)==0&&(1:Int)==1&&(sIx items.size items.size hi-sIx items.size 0 lo)==items.size)=true then _ else _) _ _ s;rw[if_neg hno,qkv]
 first
  |exact ja (m:=Builtin.Tuple.tupleExact _) (kf (jc ⟨_,rfl,jc h⟩) htake)
  |exact ja (m:=Builtin.Tuple.tupleExact _) (kf (ja (jc (jc ⟨_,rfl,jc h⟩))) htake)
  |exact ja (ja (m:=Builtin.Tuple.tupleExact _) (kf (jc (jc ⟨_,rfl,jc h⟩)) htake))
  |exact ja (ja (m:=Builtin.Tuple.tupleExact _) (kf (jc ⟨_,rfl,jc h⟩) htake))
end
end HT
namespace L2
open PySem PySem.Spec PyProof.Rows
abbrev TO:=St->Hp->(Option Int->Hp->Prop)->Prop
def PO(X:Cx)(e:Option Expr)(t:TO):Prop:=
 ∀(z5:Z3) (s:Shared) (J:St) (H:Hp) (Q:Option Int->Hp->Prop),Inv X z5 J H s->t J H Q->
   wpAny (model X.prog X.w) X.A (evalPart e X.env) (λu s'=>∃o H',Inv X z5 J H' s'/\IsPart u o/\Q o H') X.xe s
def zB:TO:=λ_ H Q=>Q none H
def wX(t:TE):TO:=λJ H Q=>t J H λx H1=>∃i,x=.int i/\Q (some i) H1
def du{ns:Zf}:∀{us:Ze},Vals (ns.map V.int) us->IntsAre us ns:=by
 induction ns with
 |nil=>intro us r;rw[List.map_nil]at r;cases r;exact .nil
 | cons n ns ih=>
  intro us r;rw[x8]at r;cases r with
  | cons r1 r2=>
   obtain⟨t,e⟩:=r1;subst e;exact .cons n t (ih r2)
section
variable{X:Cx}{e:Expr}{te:TE}{lo hi:Option Expr}{tl th:TO}{pos p2:Pos}
def y7:PO X none zB:=by intro z5 s J H Q I h;rw[evalPart_none];exact jc ⟨none,H,I,.none,h⟩
def y8(h:PE X e te):PO X (some e) (wX te):=by intro z5 s J H Q I hw;rw[evalPart_some];refine aW (h z5 s J H _ I hw) λu s1 ⟨x,H1,I1,r1,q1⟩=>?_;obtain⟨i,rfl,q⟩:=q1;obtain⟨t,rfl⟩:=r1;exact⟨some i,H1,I1,.int i t,q⟩
def SlR(X:Cx)(r:V->Option Int->Option Int->Hp->VK->Prop):Prop:=
 ∀(z5:Z3) (s:Shared) (J:St) (H:Hp) (x:V) (v vl vu:Value) (lo hi:Option Int) (sl:Addr) (Q:VK),Inv X z5 J H s->RelV x v->s.heap.IsSliceOf sl vl vu .none->IsPart vl lo->IsPart vu hi->r x lo hi H Q->
   ∃T id,typeLookup (.type T) "__getitem__"=pure (some (.builtin id))/\s.TypeIs v T/\wpAny (model X.prog X.w) X.A (getItem v (.ref sl)) (EP X z5 J Q) X.xe s
def SlR.or{r r':V->Option Int->Option Int->Hp->VK->Prop}(h:SlR X r)(h':SlR X r'):SlR X (λx lo hi H Q=>r x lo hi H Q∨r' x lo hi H Q):=by
 intro z5 s J H x v vl vu lo hi sl Q I rx hs pl pu q;rcases q with q|q
 .exact h z5 s J H x v vl vu lo hi sl Q I rx hs pl pu q
 .exact h' z5 s J H x v vl vu lo hi sl Q I rx hs pl pu q
def wD(r:V->Option Int->Option Int->Hp->VK->Prop)(te:TE)(tl th:TO):TE:=λJ H Q=>te J H λx H1=>tl J H1 λl H2=>th J H2 λu H3=>r x l u H3 Q
def zL{r:V->Option Int->Option Int->Hp->VK->Prop}(hr:SlR X r)(he:PE X e te)(hl:PO X lo tl)(hu:PO X hi th):PE X (.Subscript e (.Slice lo hi none p2) pos) (wD r te tl th):=by intro z5 s J H Q I h;refine Subscript_ (aW (he z5 s J H _ I h) λv s1 ⟨x,H1,I1,r1,q1⟩=>?_);refine wpAny_Slice (aW (hl z5 s1 J H1 _ I1 q1) λvl s2 ⟨l,H2,I2,pl,q2⟩=>aW (hu z5 s2 J H2 _ I2 q2) λvu s3 ⟨u,H3,I3,pu,q3⟩=>?_);rw[evalPart_none];refine jc ?_;have I4:Inv X z5 J H3 {s3 with heap:=s3.heap.push {cls:=.type "slice",data:=.fields #[vl,vu,.none]}}:=I3.kept (t':=s3.toks) λb ob q=>je _ q;let⟨T,id,hT,ht,hg⟩:=hr z5 {s3 with heap:=s3.heap.push {cls:=.type "slice",data:=.fields #[vl,vu,.none]}} J H3 x v vl vu l u s3.heap.objs.size Q I4 r1 (Heap.IsSliceOf.new ..) pl pu q3;show wpAny (model X.prog X.w) X.A (subscriptTail e (.Slice lo hi none p2) v (.ref s3.heap.objs.size)) (EP X z5 J Q) X.xe {s3 with heap:=s3.heap.push {cls:=.type "slice",data:=.fields #[vl,vu,.none]}};exact tail_any (ops:=[.ref s3.heap.objs.size,v]) ht hT hg (by with_unfolding_all rfl)
def eJ(xs:List V)(lo hi:Option Int):List V:=(xs.drop (HT.sIx xs.length 0 lo)).take (HT.sIx xs.length xs.length hi-HT.sIx xs.length 0 lo)
def Ht(xs:List V)(lo hi:Option Int):(eJ xs lo hi).length<=xs.length:=by unfold eJ;rw[k6,xv];omega
def rW(K:am):V->Option Int->Option Int->Hp->VK->Prop:=λx lo hi H Q=>∃a xs,x=.ref a/\SqT K H a xs/\
 ¬(HT.sIx xs.length 0 lo=0/\HT.sIx xs.length xs.length hi=xs.length)/\∀p,H p=none->Q (.ref p) (aN H p (.tup (eJ xs lo hi)))
def qt5:SlR X (rW X.K):=by
 intro z5 s J H x v vl vu lo hi sl Q I rx hs pl pu h;obtain⟨a,xs,rfl,hx,hw,q⟩:=h;cases rx;let⟨its,r,ht,hz⟩:=I.tuple hx;have ze:its.toArray.size=xs.length:=by rw[x5];exact r.length.symm
 refine⟨"tuple",_,PyProof.Rows.slot_tuple_getitem.lookup,ht.typeIs,?_⟩;refine HT.getItem_tuple_cut ht hs pl pu (by rw[ze];exact hw) ?_ (by rw[ze];exact hz);rw[ze];refine⟨.ref s.heap.objs.size,_,I.laid (t':=s.toks) (o:=.tup (eJ xs lo hi)) (λb ob q=>je _ q) (jg _) ?_,rfl,q _ (I.hok.fresh (jg _))⟩;exact⟨x6 (Ht xs lo hi) hz,_,(r.drop (HT.sIx xs.length 0 lo)).take (HT.sIx xs.length xs.length hi-HT.sIx xs.length 0 lo),TupN.new _ _⟩
def Vals.nil_iff{xs:List V}{us:Ze}(r:Vals xs us):us=[]↔xs=[]:=by
 cases r with
 |nil=>simp
 |cons _ _=>simp
end
noncomputable def e9(n:Nat)(i:Int):Option Nat:=if 0<=i then(if i<n then some i.toNat else none)else if -(n:Int)<=i then some (i+n).toNat else none
def bX{α:Type}(xs:List α)(i:Int):Option α:=(e9 xs.length i).bind λj=>xs[j]?
def E3{n:Nat}{i:Int}{j:Nat}(h:e9 n i=some j):seqIndex? i n=some j/\j<n/\ -(n:Int)<=i/\i<n:=by
 unfold e9 at h;by_cases h0:0<=i
 .rw[if_pos h0]at h;by_cases h1:i<n
  .rw[if_pos h1]at h;have e:i.toNat=j:=jl h;exact⟨by rw[seqIndex_of h0 h1,e],by omega,by omega,h1⟩
  .rw[if_neg h1]at h;cases h
 .rw[if_neg h0]at h;by_cases h1: -(n:Int)<=i
  .rw[if_pos h1]at h;have e:(i+n).toNat=j:=jl h;exact⟨by rw[seqIndex_neg (by omega) h1,e],by omega,h1,by omega⟩
  .rw[if_neg h1]at h;cases h
def yI{α:Type}{xs:List α}{i:Int}{v:α}(h:bX xs i=some v):∃j,seqIndex? i xs.length=some j/\xs[j]? =some v/\j<xs.length/\ -(xs.length:Int)<=i/\i<xs.length:=by
 unfold bX at h;cases e:e9 xs.length i with
 |none=>rw[e]at h;cases h
 | some j=>
  rw[e]at h;let⟨h1,h2,h3,h4⟩:=E3 e;exact⟨j,h1,h,h2,h3,h4⟩
def yJ{α:Type}{xs:List α}{j:Nat}{v:α}(h:xs[j]? =some v):bX xs (j:Int)=some v:=by
 have hj:j<xs.length:=(List.getElem?_eq_some_iff.mp h).1;have e:e9 xs.length (j:Int)=some j:=by unfold e9;rw[if_pos (by omega),if_pos (by omega)];simp
 unfold bX;rw[e];exact h
def qse(b:Expr):Prop:=∀o i,subscripted b false o i=operate [o,i] (getItem o i)
def IxR(X:Cx)(r:R2):Prop:=
 ∀(value zh:Expr) (z5:Z3) (s:Shared) (J:St) (H:Hp) (x y:V) (v u:Value) (Q:VK),Inv X z5 J H s->RelV x v->RelV y u->r x y H Q->
   subscripted zh false v u=operate [v,u] (getItem v u)->wpAny (model X.prog X.w) X.A (subscriptTail value zh v u) (EP X z5 J Q) X.xe s
def MtR(X:Cx)(id:String)(r:V->List V->Hp->VK->Prop):Prop:=
 ∀(z5:Z3) (s:Shared) (J:St) (H:Hp) (x:V) (xs:List V) (v:Value) (us:Ze) (Q:VK),Inv X z5 J H s->RelV x v->Vals xs us->r x xs H Q->
   wpAny (model X.prog X.w) X.A (call (.builtin id) (v::us)) (EP X z5 J Q) X.xe s
section
variable{X:Cx}{a b:Expr}{ta tb:TE}{pos:Pos}
def IxR.or{r r':R2}(h:IxR X r)(h':IxR X r'):IxR X (λx y H Q=>r x y H Q∨r' x y H Q):=by
 intro value zh z5 s J H x y v u Q I rx ry q hs;rcases q with q|q
 .exact h value zh z5 s J H x y v u Q I rx ry q hs
 .exact h' value zh z5 s J H x y v u Q I rx ry q hs
def bq{r:R2}(hr:IxR X r)(ha:PE X a ta)(hb:PE X b tb)(hs:qse b:=by exact λ_ _=>rfl):PE X (.Subscript a b pos) (iQ r ta tb):=by intro z5 s J H Q I h;exact Subscript_ (og ha hb I h λv u s2 x y H2 I2 rx ry q=>hr a b z5 s2 J H2 x y v u Q I2 rx ry q (hs _ _))
def sg(K:am):R2:=λx y H Q=>∃p xs i v,x=.ref p/\y=.int i/\SqL K H p xs/\bX xs i=some v/\Q v H
def r8(K:am):R2:=λx y H Q=>∃p xs i v,x=.ref p/\y=.int i/\SqT K H p xs/\bX xs i=some v/\Q v H
def r9:R2:=λx y H Q=>∃z i c,x=.str z/\y=.int i/\z.length<=sizeLine/\bX z.cps.toList i=some c/\Q (.str ⟨#[c]⟩) H
def ix_list:IxR X (sg X.K):=by
 intro value zh z5 s J H x y v u Q I rx ry h hs;obtain⟨p,xs,i,z,rfl,rfl,hq,he,q⟩:=h;cases rx;obtain⟨t,rfl⟩:=ry;let⟨its,r,pl,hz⟩:=I.list hq;let⟨j,h1,h2,h3,h4,h5⟩:=yI he;let⟨w,ew,rw'⟩:=r.get h2;have hl:=r.length;have hn:=qA;have fin:EP X z5 J Q w s:=⟨z,H,I,rw',q⟩;by_cases h0:0<=i
 .have hj:i.toNat=j:=by
   rw[seqIndex_of h0 h5]at h1;exact jl h1
  exact item_listR pl.isList h0 (by omega) (by rw[hj];simpa using ew) fin hs
 .have hj:(i+(its.toArray.size:Int)).toNat=j:=by
   rw[seqIndex_neg (by omega) h4]at h1;rw[x5,<-hl];exact jl h1
  exact subscriptTail_builtinR (x:=w) pl.isList.typeIs slot_list_getitem.lookup
   (wpAny_getItem_list_neg (Q:=λr s'=>r=w/\EP X z5 J Q r s') pl.isList (by omega) (by rw[x5]<;>omega) (by omega) (by rw[hj];simpa using ew) ⟨rfl,fin⟩) hs
def ix_tup:IxR X (r8 X.K):=by
 intro value zh z5 s J H x y v u Q I rx ry h hs;obtain⟨p,xs,i,z,rfl,rfl,hq,he,q⟩:=h;cases rx;obtain⟨t,rfl⟩:=ry;let⟨its,r,pl,hz⟩:=I.tuple hq;let⟨j,h1,h2,h3,h4,h5⟩:=yI he;let⟨w,ew,rw'⟩:=r.get h2;have hl:=r.length;have hn:=qA;have fin:EP X z5 J Q w s:=⟨z,H,I,rw',q⟩;exact subscriptTail_builtinR (x:=w) pl.typeIs slot_tuple_getitem.lookup
  (getItem_tuple (j:=j) (Q:=λr s'=>r=w/\EP X z5 J Q r s') pl (by omega) (by omega) (by rw[x5,<-hl];exact h1) (by simpa using ew) ⟨rfl,fin⟩) hs
def qwj:IxR X r9:=by
 intro value zh z5 s J H x y v u Q I rx ry h hs;obtain⟨z,i,c,rfl,rfl,hz,he,q⟩:=h;obtain⟨t,rfl⟩:=rx;obtain⟨t',rfl⟩:=ry;let⟨j,h1,h2,h3,h4,h5⟩:=yI he;have hl:z.cps.toList.length=z.length:=by simp[Str.length]
 rw[hl]at h1 h4 h5;have hn:=qA;exact tail_any (typeIs_str s z t) slot_str_getitem.lookup (getItem_str (c:=c) (by have e1:decide (i< -(2^63:Int))=false:=decide_eq_false (by omega);have e2:decide (i≥2^63)=false:=decide_eq_false (by omega);rw[e1,e2,Bool.or_false]) (by rw[h1];simpa using h2) ⟨.str ⟨#[c]⟩,H,I.tok _,⟨_,rfl⟩,q⟩) hs
def pW(K:am):R2:=λx y H Q=>sg K x y H Q∨r8 K x y H Q∨r9 x y H Q
def qwk:IxR X (pW X.K):=ix_list.or (ix_tup.or qwj)
def qeu(its:Ze)(n j:Nat)(u:Value):Obj.mapSeq (·.setIfInBounds j u) {cls:=.type "list",data:=.seq its.toArray n}={cls:=.type "list",data:=.seq (its.set j u).toArray n}:=by simp[Obj.mapSeq]
def Inv.lst{z5:Z3}{J:St}{H:Hp}{s:Shared}{p:Addr}{xs:List V}(I:Inv X z5 J H s)(h:H p=some (.lst xs)):
 ∃(its:Ze) (n:Nat),Vals xs its/\s.heap.get? p=some {cls:=.type "list",data:=.seq its.toArray n}/\xs.length<=sizeLine:=by
 let⟨z,its,n,r,e⟩:=I.hok p _ h;exact⟨its,n,r,e,z⟩
def Inv.lstUpd{z5:Z3}{J:St}{H:Hp}{s:Shared}{p:Addr}{xs ys:List V}{its its':Ze}{n n':Nat}{f:Obj->Obj}(I:Inv X z5 J H s)(h:H p=some (.lst xs))
 (ho:s.heap.get? p=some {cls:=.type "list",data:=.seq its.toArray n}) (hf:f {cls:=.type "list",data:=.seq its.toArray n}={cls:=.type "list",data:=.seq its'.toArray n'}) (r:Vals ys its') (hz:ys.length<=sizeLine) (t:Nat):
 Inv X z5 J (aN H p (.lst ys)) {s with heap:=s.heap.update p f,toks:=t}:=by
 have e:(s.heap.update p f).get? p=some {cls:=.type "list",data:=.seq its'.toArray n'}:=by rw[vc f ho (by rw[hf]<;>rfl),hf]
 refine I.write (x:=p) (e:=p) (by rw[h];trivial) (.inl rfl) (λb u hb q=>(kg _ _ (Ne.symm hb)).trans q) ⟨_,e⟩ ?_;exact⟨hz,its',n',r,e⟩
def Dq:V->V->V->Hp->(Hp->Prop)->Prop:=λo i v H Q=>∃p xs k j,o=.ref p/\i=.int k/\H p=some (.lst xs)/\e9 xs.length k=some j/\Q (aN H p (.lst (xs.set j v)))
def jB:oz X Dq:=by
 intro z5 s J H o i v ov iv u Q I ro ri rv h;obtain⟨p,xs,k,j,rfl,rfl,hp,hj,q⟩:=h;cases ro;obtain⟨t,rfl⟩:=ri;let⟨its,n,r,ho,hz⟩:=I.lst hp;let⟨h1,h2,h3,h4⟩:=E3 hj;have hl:=r.length;have hn:=qA;have I':Inv X z5 J (aN H p (.lst (xs.set j v))) {s with heap:=s.heap.update p (Obj.mapSeq (·.setIfInBounds j u))}:=
  I.lstUpd hp ho (qeu its n j u) (r.set rv j) (by rw[xq];exact hz) s.toks
 by_cases h0:0<=k
 .have hk:k.toNat=j:=by
   rw[seqIndex_of h0 h4]at h1;exact jl h1
  exact W.ki_setAt ho h0 (by omega) (by rw[x5,<-hl];exact h4) (by rw[hk];exact⟨_,I',q⟩)
 .have hk:(k+(its.toArray.size:Int)).toNat=j:=by
   rw[seqIndex_neg (by omega) h3]at h1;rw[x5,<-hl];exact jl h1
  exact W.ki_setBack ho (by omega) (by rw[x5,<-hl];exact h3) (by omega) (by rw[hk];exact⟨_,I',q⟩)
def qa1(lo hi:Option Int)(n:Nat):(sliceBounds lo hi none n).1=((HT.sIx n 0 lo:Nat):Int)/\(sliceBounds lo hi none n).2.1=((HT.sIx n n hi:Nat):Int)/\(sliceBounds lo hi none n).2.2=1:=by
 refine⟨?_,?_,rfl⟩
 .cases lo with
  |none=>simp[sliceBounds,HT.sIx]
  | some i=>
   simp only[sliceBounds,HT.sIx,Option.getD_none,show(1:Int)>0 by decide,if_true];by_cases h:i<0
   .simp only[h,if_true]<;>omega
   .simp only[h,if_false]<;>omega
 .cases hi with
  |none=>simp[sliceBounds,HT.sIx]
  | some i=>
   simp only[sliceBounds,HT.sIx,Option.getD_none,show(1:Int)>0 by decide,if_true];by_cases h:i<0
   .simp only[h,if_true]<;>omega
   .simp only[h,if_false]<;>omega
def q90(its:Ze)(lo hi:Option Int):slicePick its.toArray lo hi none=((its.drop (HT.sIx its.length 0 lo)).take (HT.sIx its.length its.length hi-HT.sIx its.length 0 lo)).toArray:=by let⟨h1,h2,h3⟩:=qa1 lo hi its.toArray.size;unfold slicePick;rw[h1,h2,h3];simp only[sliceRange_one,pick_run,List.size_toArray]<;>rfl
def rX(K:am):V->Option Int->Option Int->Hp->VK->Prop:=λx lo hi H Q=>∃a xs,x=.ref a/\SqL K H a xs/\∀p,H p=none->Q (.ref p) (aN H p (.lst (eJ xs lo hi)))
def sl_list:SlR X (rX X.K):=by intro z5 s J H x v vl vu lo hi sl Q I rx hs pl pu h;obtain⟨a,xs,rfl,hx,q⟩:=h;cases rx;let⟨its,r,ht,hz⟩:=I.list hx;have ze:=r.length;refine⟨"list",_,slot_list_getitem.lookup,ht.isList.typeIs,?_⟩;refine wpAny_getItem_list_slice ht.isList hs pl pu .none (by simp) ?_ (by rw[List.size_toArray]<;>omega);rw[q90,<-ze];refine⟨.ref s.heap.objs.size,_,I.laid (t':=s.toks) (o:=.lst (eJ xs lo hi)) (λb ob q=>je _ q) (jg _) ?_,rfl,q _ (I.hok.fresh (jg _))⟩;exact⟨x6 (Ht xs lo hi) hz,_,0,(r.drop (HT.sIx xs.length 0 lo)).take (HT.sIx xs.length xs.length hi-HT.sIx xs.length 0 lo),ju _ rfl⟩
def qb7:fM X (.builtin "len") (λxs H Q=>∃p ys,xs=[.ref p]/\(SqL X.K H p ys∨SqT X.K H p ys)/\Q (.int ys.length) H):=by
 intro z5 s J H xs us Q I r h;obtain⟨p,ys,rfl,hq,q⟩:=h;obtain⟨u,rfl,rx⟩:=b9 r;cases rx;have hn:=qA;rcases hq with hq|hq
 .let⟨its,r',pl,hz⟩:=I.list hq;have ze:=r'.length;exact Calls.call_len_list pl.isList (by simp only[List.size_toArray]<;>omega) ⟨.int ys.length,H,I.tok _,⟨s.toks+1,by rw[x5,ze]⟩,q⟩
 .let⟨its,r',pl,hz⟩:=I.tuple hq;have ze:=r'.length;exact len_tuple pl (by simp only[List.size_toArray]<;>omega) ⟨.int ys.length,H,I.tok _,⟨s.toks+1,by rw[x5,ze]⟩,q⟩
def qb6:fM X (.type "list") (λxs H Q=>∃p ys,xs=[.ref p]/\(SqL X.K H p ys∨SqT X.K H p ys)/\∀l,H l=none->Q (.ref l) (aN H l (.lst ys))):=by
 intro z5 s J H xs us Q I r h;obtain⟨p,ys,rfl,hq,q⟩:=h;obtain⟨u,rfl,rx⟩:=b9 r;cases rx;have fin:∀(its:Ze),Vals ys its->ys.length<=sizeLine->∀(h':Heap) (c':Nat),(∀b o',s.heap.get? b=some o'->h'.get? b=some o')->
  h'.get? s.heap.objs.size=some {cls:=.type "list",dict:=none,data:=.seq its.toArray c',slots:=#[]}->EP X z5 J Q (.ref s.heap.objs.size) {s with heap:=h'}:=λits r' hz h' c' kp e=>
  ⟨.ref s.heap.objs.size,_,I.laid (t':=s.toks) kp (jg _) (show ObjOk X.prog X.w _ h' _ (.lst ys)from⟨hz,its,c',r',e⟩),rfl,q _ (I.hok.fresh (jg _))⟩
 rcases hq with hq|hq
 .let⟨its,r',pl,hz⟩:=I.list hq;have ze:=r'.length;obtain⟨o,ho,hc,n,hd⟩:=pl.isList;exact call_list_seq p (.inl rfl) ho hc hd (λh' c' kp e=>fin its r' hz h' c' kp e) (by simp only[List.size_toArray]<;>omega)
 .let⟨its,r',pl,hz⟩:=I.tuple hq;have ze:=r'.length;obtain⟨o,ho,hc,n,hd⟩:=pl;exact call_list_seq p (.inr rfl) ho hc hd (λh' c' kp e=>fin its r' hz h' c' kp e) (by simp only[List.size_toArray]<;>omega)
def q9m:fM X (.type "tuple") (λxs H Q=>∃p ys,xs=[.ref p]/\((SqL X.K H p ys/\∀l,H l=none->Q (.ref l) (aN H l (.tup ys)))∨(SqT X.K H p ys/\Q (.ref p) H))):=by
 intro z5 s J H xs us Q I r h;obtain⟨p,ys,rfl,h⟩:=h;obtain⟨u,rfl,rx⟩:=b9 r;cases rx;rcases h with⟨hq,q⟩|⟨hq,q⟩
 .let⟨its,r',pl,hz⟩:=I.list hq;have ze:=r'.length;refine call_tuple_list pl.isList (λh' kp=>?_) (by simp only[List.size_toArray]<;>omega);have I1:Inv X z5 J H {s with heap:=h'}:=I.kept (t':=s.toks) kp;have I2:Inv X z5 J (aN H h'.objs.size (.tup ys)) {s with heap:=h'.push {cls:=.type "tuple",data:=.seq its.toArray}}:=
   I1.laid (t':=s.toks) (λb o e=>je _ e) (jg _) (show ObjOk X.prog X.w _ _ _ (.tup ys)from⟨hz,its,r',TupN.new _ _⟩)
  exact⟨.ref h'.objs.size,_,I2,rfl,q _ (I1.hok.fresh (jg _))⟩
 .let⟨its,r',pl,hz⟩:=I.tuple hq;exact call_tuple_same pl ⟨.ref p,H,I,rfl,q⟩
def CI(K:am)(T:String)(x:V)(H:Hp):Prop:=match x with
 |.str _=>T="str"
 |.int _=>T="int"
 |.ref p=>(T="list"/\∃xs,SqL K H p xs)∨(T="tuple"/\∃o,K.lookup p=some o/\o.cls=.type "tuple"/\o.dict=none)∨
  (T="dict"/\((∃kvs,H p=some (.dK kvs))∨∃kvs,H p=some (.dT kvs)))∨(T="set"/\∃S n,H p=some (.set S n))
 |_=>False
def qsn{z5:Z3}{J:St}{H:Hp}{s:Shared}{T:String}{x:V}{v:Value}(I:Inv X z5 J H s)(r:RelV x v)(ty:CI X.K T x H):
 s.TypeIs v T/\∀a,v=.ref a->∃ob,s.heap.get? a=some ob/\ob.dict=none:=by
 cases x with
 | str z=>
  obtain⟨t,rfl⟩:=r;cases(show T="str" from ty);exact⟨typeIs_str s z t,λ_ e=>nomatch e⟩
 | int i=>
  obtain⟨t,rfl⟩:=r;cases(show T="int" from ty);exact⟨typeIs_int s i t,λ_ e=>nomatch e⟩
 | ref p=>
  cases r;rcases ty with⟨rfl,xs,hq⟩|⟨rfl,o,hk,hc,hd⟩|⟨rfl,hk⟩|⟨rfl,S,n,hk⟩
  .let⟨its,_,pl,_⟩:=I.list hq;refine⟨pl.isList.typeIs,λa e=>?_⟩;cases e;obtain⟨o,n,e,c,hd,_⟩:=pl;exact⟨o,e,hd⟩
  .refine⟨⟨o,I.kIn p o hk,hc⟩,λa e=>?_⟩;cases e;exact⟨o,I.kIn _ o hk,hd⟩
  .have z:∃o,s.heap.get? p=some o/\o.ExactDict:=by
    rcases hk with⟨kvs,hk⟩|⟨kvs,hk⟩
    .let⟨_,_,_,_,o,_,e,ex,_⟩:=I.hok p _ hk;exact⟨o,e,ex⟩
    .let⟨_,_,_,_,o,_,_,e,ex,_⟩:=I.hok p _ hk;exact⟨o,e,ex⟩
   obtain⟨o,e,ex⟩:=z;refine⟨⟨o,e,ex.1⟩,λa e2=>?_⟩;cases e2;exact⟨o,e,ex.2.1⟩
  .let⟨o,_,_,_,e,ex,_⟩:=I.hok p _ hk;refine⟨⟨o,e,ex.1⟩,λa e2=>?_⟩;cases e2;exact⟨o,e,ex.2.1⟩
 |_=>exact False.elim ty
def tH(K:am)(T:String)(r:V->List V->Hp->VK->Prop)(to:TE)(t:TA):TE:=λJ H Q=>to J H λx H1=>CI K T x H1/\t J H1 λxs H2=>r x xs H2 Q
variable{o e:Expr}{es:Zi}{to:TE}{t:TA}{name:Str}{zz zk:Pos}{T id:String}{r:V->List V->Hp->VK->Prop}
def mQ(pa:PlainAttrs T)(slot:Slot T name id)(hty:typeOf (.builtin id)=pure (.type "method_descriptor"))(hm:MtR X id r)(ho:PE X o to)(ha:PA X (e::es) t)
 (hbase:attributeBase o name X.env (eval o X.env)=eval o X.env:=by rfl)
 (hfew:((backTo zk (starEach (e::es) X.env)).all (λx=>!x.1)&&(backToKw zk (keywordEach [] X.env)).all (λx=>x.1.isSome)
   &&decide ((e::es).length+([]:List Keyword).length+(if([]:List Keyword).isEmpty then 0 else 1)<30))=true:=by rfl)
 (hline:(zz.endLine==zk.line)=true:=by rfl) (hs:starEach (e::es) X.env=(false,eval e X.env)::starEach es X.env:=by rfl) (hplain:(backTo zk (starEach es X.env)).any (·.1)=false:=by rfl):
 PE X (.Call (.Attribute o name zz) (e::es) [] zk) (tH X.K T r to t):=by
 intro z5 s J H Q I h;refine wpAny_Call_method_late hbase hfew hline rfl (aW (ho z5 s J H _ I h) λv s1 ⟨x,H1,I1,r1,ty,q1⟩=>?_);let⟨h1,h2⟩:=qsn I1 r1 ty;refine⟨T,id,pa,slot,hty,h1,h2,?_⟩;have hA:=ha zk z5 s1 J H1 _ I1 q1;rw[hs]at hA ⊢;refine Calls.callWith_builtin (by show(false||(backTo zk (starEach es X.env)).any (·.1))=false;rw[hplain]<;>rfl) (Calls.evalArgs_plain ?_);exact aW hA λus s2 ⟨vs,H2,I2,r2,q2⟩=>hm z5 s2 J H2 x vs v us Q I2 r1 r2 q2
end
def HN(X:Cx)(id:String)(r:V->List V->Hp->VK->Prop):Prop:=
 ∀(z5:Z3) (s:Shared) (J:St) (H:Hp) (x:V) (xs:List V) (v:Value) (us:Ze) (Q:VK),Inv X z5 J H s->RelV x v->Vals xs us->r x xs H Q->
   wpAny (model X.prog X.w) X.A (call (.builtin id) (v::us)) (EP X z5 J Q) X.xe s
def Vals.one:∀{x:V} {us:Ze},Vals [x] us->∃u,us=[u]/\RelV x u
 |_,_,.cons r .nil=>⟨_,rfl,r⟩
def Vals.reverse{xs:List V}{us:Ze}(h:Vals xs us):Vals xs.reverse us.reverse:=by
 induction h with
 |nil=>exact .nil
 |cons r t ih=>rw[List.reverse_cons,List.reverse_cons];exact Vals.append ih (.cons r .nil)
theorem Vals.rep{xs:List V}{us:Ze}(h:Vals xs us):∀k:Nat,Vals (List.replicate k xs).flatten (List.replicate k us).flatten
 |0=>.nil
 | k+1=>by rw[List.replicate_succ,List.replicate_succ,List.flatten_cons,List.flatten_cons];exact Vals.append h (Vals.rep h k)
theorem dQ(its:Ze):∀(k:Nat) (acc:Ze),
 List.foldl (λx1 x2=>x1++x2) acc.toArray (List.replicate k its.toArray)=(acc++(List.replicate k its).flatten).toArray
 |0,acc=>by simp
 | k+1,acc=>by
  have e:acc.toArray++its.toArray=(acc++its).toArray:=by simp
  have e2:(acc++its)++(List.replicate k its).flatten=acc++(List.replicate (k+1) its).flatten:=by rw[List.replicate_succ,List.flatten_cons,List.append_assoc]
  rw[<-e2,<-dQ its k (acc++its),<-e,List.replicate_succ,List.foldl_cons]
section
variable{X:Cx}{z5:Z3}{J:St}{H:Hp}{s:Shared}{l b:Addr}{xs ys zs:List V}
def Inv.lset{its its':Ze}{n:Nat}{f:Array Value->Array Value}{t':Nat}(I:Inv X z5 J H s)(hH:H l=some (.lst xs))
 (e:s.heap.get? l=some {cls:=.type "list",data:=.seq its.toArray n}) (hf:f its.toArray=its'.toArray) (hv:Vals ys its') (hz:ys.length<=sizeLine):
 Inv X z5 J (aN H l (.lst ys)) {s with heap:=s.heap.update l (Obj.mapSeq f),toks:=t'}:=by
 have q:=PySem.IsL.update e f;rw[hf]at q;refine I.write (x:=l) (e:=l) (by rw[hH];exact trivial) (.inl rfl) (λb' u hb hu=>(kg s.heap (Obj.mapSeq f) (Ne.symm hb)).trans hu) ⟨_,q⟩ ?_;exact⟨hz,its',_,hv,q⟩
def Inv.lnew{its:Ze}{t':Nat}(I:Inv X z5 J H s)(hv:Vals ys its)(hz:ys.length<=sizeLine):
 Inv X z5 J (aN H s.heap.objs.size (.lst ys)) {s with heap:=s.heap.push {cls:=.type "list",data:=.seq its.toArray},toks:=t'}:=
 I.laid (λ_ _ q=>je _ q) (jg _) ⟨hz,its,0,hv,ju _ rfl⟩
def Inv.fresh(I:Inv X z5 J H s):H s.heap.objs.size=none:=I.hok.fresh (jg _)
def Inv.lstM(I:Inv X z5 J H s)(hH:H l=some (.lst xs)):xs.length<=sizeLine/\∃(its:Ze) (n:Nat),Vals xs its/\xs.length=its.length/\s.heap.get? l=some {cls:=.type "list",data:=.seq its.toArray n}:=by let⟨z,its,n,r,e⟩:=I.hok l _ hH;exact⟨z,its,n,r,r.length,e⟩
def Gd{n:Nat}(h:n<=sizeLine):Builtin.List.listTooLong n=false:=by unfold Builtin.List.listTooLong;exact decide_eq_false (by omega)
end
section
variable{X:Cx}
def y9:V->List V->Hp->VK->Prop:=λx vs H Q=>∃l xs y,x=.ref l/\vs=[y]/\H l=some (.lst xs)/\xs.length<sizeLine/\Q .non (aN H l (.lst (xs++[y])))
def pE:HN X "list.append" y9:=by intro z5 s J H x vs v us Q I rx rv h;obtain⟨l,xs,y,rfl,rfl,hH,hz,q⟩:=h;cases rx;obtain⟨u,rfl,ru⟩:=rv.one;let⟨z,its,n,r,hl,e⟩:=I.lstM hH;refine call_meets F.slot_list_append ⟨_,e,rfl⟩ F.entry_list_append (F.args_list_append_2 _ _) (PySem.list_append l its.toArray n u (by rw[x5];omega)) ⟨e,?_⟩;refine⟨.non,_,I.lset (its':=its++[u]) hH e (by simp) (r.append (.cons ru .nil)) ?_,rfl,q⟩;rw[jr,List.length_singleton];omega
def Fm:V->List V->Hp->VK->Prop:=λx vs H Q=>∃l b xs zs,x=.ref l/\vs=[.ref b]/\H l=some (.lst xs)/\H b=some (.lst zs)/\xs.length+zs.length<=sizeLine/\Q .non (aN H l (.lst (xs++zs)))
def qi7:HN X "list.extend" Fm:=by
 intro z5 s J H x vs v us Q I rx rv h;obtain⟨l,b,xs,zs,rfl,rfl,hH,hB,hz,q⟩:=h;cases rx;obtain⟨u,rfl,ru⟩:=rv.one;cases ru;let⟨z,its,n,r,hl,e⟩:=I.lstM hH;let⟨z2,its2,n2,r2,hl2,e2⟩:=I.lstM hB;have hsz:its.toArray.size+its2.toArray.size<=sizeLine:=by rw[x5,x5];omega
 have hlong:¬(!its.toArray.isEmpty&&Builtin.List.listTooLong (its.toArray.size+its2.toArray.size))=true:=by rw[Gd hsz,Bool.and_false];exact Bool.false_ne_true
 refine call_meets F.slot_list_extend ⟨_,e,rfl⟩ F.entry_list_extend (F.args_list_extend_2 _ _)
  (AutoSeq1.list_extend_list_list_0 l its.toArray n b its2.toArray n2 hlong (by rw[x5];omega) (by omega)) ⟨e,e2,?_⟩
 refine⟨.non,_,I.lset (its':=its++its2) hH e (by simp) (r.append r2) ?_,rfl,q⟩;rw[jr];omega
def rY:R2:=λx y H Q=>∃l k xs,x=.ref l/\y=.int k/\H l=some (.lst xs)/\ -(2^63)<=k/\k<2^63/\xs.length*k.toNat<=sizeLine/\
 ∀p,H p=none->Q (.ref p) (aN H p (.lst (List.replicate k.toNat xs).flatten))
def hJ{α:Type}(xs:List α)(k:Nat):(List.replicate k xs).flatten.length=k*xs.length:=by
 induction k with
 |zero=>simp
 |succ k ih=>rw[List.replicate_succ,List.flatten_cons,jr,ih,Nat.succ_mul,Nat.add_comm]
def qD:OpR X (binaryOp .Mult) rY:=by
 intro z5 s J H x y v u Q I rx ry h;obtain⟨l,k,xs,rfl,rfl,hH,h1,h2,hz,q⟩:=h;cases rx;obtain⟨t,rfl⟩:=ry;let⟨z,its,n,r,hl,e⟩:=I.lstM hH;have ze:its.toArray.size*k.toNat<=sizeLine:=by rw[x5,<-hl];exact hz
 have hcap:¬its.toArray.size*k.toNat>(2^63-1) / 8:=by
  have:(sizeLine:Nat)<=(2^63-1) / 8:=by decide
  omega
 have hfit:¬(!Builtin.List.listFitsIndex k)=true:=by rw[fitsIndex_both h1 h2];exact Bool.false_ne_true
 have hlong:¬Builtin.List.listTooLong (its.toArray.size*k.toNat)=true:=by rw[Gd ze];exact Bool.false_ne_true
 have hnew:List.foldl (λx1 x2=>x1++x2) #[] (List.replicate (if its.toArray.isEmpty=true then 0 else k.toNat) its.toArray)=(List.replicate k.toNat its).flatten.toArray:=by
  have f0:∀m:Nat,List.foldl (λx1 x2=>x1++x2) #[] (List.replicate m its.toArray)=(List.replicate m its).flatten.toArray:=λm=>by have:=dQ its m [];rw[List.nil_append]at this;exact this
  rw[f0];cases its with
  |nil=>simp
  |cons a r'=>rw[if_neg (by simp)]
 refine wpAny_binaryOp_repeat_ref (T:="list") (U:="int") (by decide) ⟨_,e,rfl⟩ (λs'=>typeIs_int s' k t) noFill_list_mul F.fills_int_mul F.slot_int_rmul repeat_list F.slot_int_index.lookup
  (call_meets F.slot_int_rmul (typeIs_int s k t) F.entry_int_rmul (F.args_int_rmul_2 _ _) (int___rmul___int_list k t l its.toArray n)
    ⟨e,rfl,⟨_,e,rfl⟩,call_meets F.slot_list_mul ⟨_,e,rfl⟩ F.entry_list_mul (F.args_list_mul_2 _ _) (AutoListH.list___mul___list_int_3 l its.toArray n k t hfit hcap hlong) ⟨e,?_⟩⟩)
 rw[hnew];exact⟨.ref _,_,I.lnew (t':=s.toks) (r.rep k.toNat) (by rw[hJ,Nat.mul_comm];exact hz),rfl,q _ I.fresh⟩
end
section
variable{prog:Program}{w:World}{A:Around}{E:Z0}{s:Shared}
end
section
variable{X:Cx}
end
end L2
namespace Att
open PySem PySem.W PySem.Calls PyProof.Rows
def q7h{P:Params}{h:Heap}:∀(ns:Zf) (vs:Ze),WellAll P h vs (ns.map WData.int)->IntsAre vs ns:=by
 intro ns;induction ns with
 | nil=>
  intro vs w;rw[List.map_nil]at w;cases w;exact .nil
 | cons n ns ih=>
  intro vs w;rw[x8]at w;cases w with
  | cons a b=>
   cases a;exact .cons _ _ (ih _ b)
def qg6{l:OpenLaw}{n:Nat}(hn:l.most=some n){P:Params}{h:Heap}{args:List WData}{vals:Ze}
 (hpre:l.row.toRowW.claim.pre args=true) (hwl:WellAll P h vals args):
 ∃a vs ns,vals=[Value.ref a]/\args=[WData.list (ns.map WData.int)]/\h.get? a=some {cls:=.type "list",data:=.seq vs.toArray}/\IntsAre vs ns/\ns.length<=n:=by
 have hsh:WShape.hasAll [] args [.list .int]=true:=(pre_splitW hpre).1;have hc:l.pre.holds [] {args:=args}=true:=(pre_splitW hpre).2;obtain⟨d,r,rfl,h1,h2⟩:=hasAllW_cons hsh;obtain rfl:=hasAllW_nil h2;obtain⟨xs,rfl,h3⟩:=hasW_list h1;obtain⟨ns,rfl⟩:=items_int h3;have ze:ns.length<=n:=by
  unfold OpenLaw.pre at hc;have h4:(WTm.not (.lt (.lit (.int (n:Int))) (.len (.arg 0)))).holds [] {args:=[.list (ns.map .int)]}=true:=by have h4:=(holds_andW hc).1;rw[hn]at h4;exact h4
  have h5:=condW_of h4 (w_not (w_lt w_lit (w_len_list (w_arg rfl))));rw[jb]at h5;refine Nat.le_of_not_lt λq=>?_;have q':(n:Int)<((ns.length:Nat):Int):=by omega
  first
   |(rw[decide_eq_true q']at h5;exact absurd h5 (by decide))
   |(simp at h5;omega)
 cases hwl with
 | cons w1 w2=>
  cases w2;cases w1 with
  |list ho hall=>exact⟨_,_,ns,rfl,rfl,ho,q7h ns _ hall,ze⟩
def qhj(l:OpenLaw)(args:List WData):l.row.toRowW.claim.post args (.bool true) args=true:=
 postW_of (r:=l.row.toRowW) (X:=(true==true))
  (show WShape.has [] (.bool true) .bool=true by first|rfl|decide|simp[WShape.has,WShape.arms,WShape.armsAll])
  (show(WTm.eq .res (.lit (.bool true))).value [] {args:=args,res:=some (.bool true),after:=args}=some (.bool (true==true))from w_eq_bool (w_res rfl) w_lit) rfl
def attach_call{l:OpenLaw}{n:Nat}{q:Program}{loose:Zj}{XP:(Str->Option Value)->Heap->Prop}{YP:World->Heap->Prop}{d:DefRec}
 (hn:l.most=some n) (hdf:d.params.defaults=[])
 (call:∀(w:World) (s₀ s₁:Shared) (mg mb:Za) (fa:Addr) (o:Obj) (pm cd doc:Value) (a:Addr) (vs:Ze) (ns:Zf),
   Ground q loose [] XP w s₀ mg mb s₁.heap->YP w s₁.heap->
   s₁.heap.get? fa=some o->o.data=.func (docDef d.name d.params d.body d.scope pm cd doc)->s₁.heap.CodeRec cd d.name->mg d.name=some (.ref fa)->
   s₁.heap.get? a=some {cls:=.type "list",data:=.seq vs.toArray}->IntsAre vs ns->ns.length<=n->s₁.gens=#[]->
   codeAny (model l.prog w) callerA (.call (.ref fa) ⟨[.ref a],[]⟩) (λr s'=>r=.ok (.ret (.bool true))/\OldK s₁.heap s'.heap/\s'.os=s₁.os/\AllBare s'.gens) s₁):
 WalkO q loose XP YP l.row.toRowW d [] (λf vs=>PySem.call f vs):=by
 intro w s₀ s₁ mg mb G Y fa o pm cd doc dV kV ho hd hcd hD hmg hg args vals as hpre hlay hrd hwl hlo;obtain rfl:dV=.none:=Dflts.none hD hdf;obtain rfl:kV=.none:=Dflts.noKw hD;obtain⟨a,vs,ns,rfl,rfl,hobj,j8,ze⟩:=qg6 hn hpre hwl;refine enter_call (codeAny_mono (call w s₀ s₁ mg mb fa o pm cd doc a vs ns G Y ho (fd_plain hd) hcd hmg hobj j8 ze hg) λr s' hq=>?_);obtain⟨rfl,h2,h3,h4⟩:=hq;exact⟨.inl ⟨.bool true,.bool true,[],rfl,λ_=>rfl,.bool true,qhj l _,λ_=>⟨List.Pairwise.nil,λ_ hm=>(nomatch hm)⟩⟩,h2,h3,h4⟩
section
variable{prog:Program}{w:World}{A:Around}{E:Z0}{s:Shared}{K:Frag}
end
end Att
namespace L2
open PySem PySem.Spec PyProof.Rows
theorem G1:∀{vs:Ze} {ns:Zf},IntsAre vs ns->Vals (ns.map V.int) vs
 |_,_,.nil=>.nil
 |_,_,.cons n t h=>.cons ⟨t,rfl⟩ (G1 h)
noncomputable def dF(s:Stmt)(j:Nat):Stmt:=match s with
 |.ClassDef _ _ _ body _ _ _ _ _ _ _=>body.getD j (.Pass ⟨0,0,0,0⟩)
 |_=>.Pass ⟨0,0,0,0⟩
noncomputable def ii(s:Stmt):Arguments:=match s with
 |.FunctionDef _ a _ _ _ _ _ _ _ _=>a
 |_=>{posonlyargs:=[],args:=[],vararg:=none,kwonlyargs:=[],kw_defaults:=[],kwarg:=none,defaults:=[]}
noncomputable def e8(s:Stmt):List Stmt:=match s with
 |.FunctionDef _ _ b _ _ _ _ _ _ _=>b
 |_=>[]
noncomputable def aT(s:Stmt):Scope:=match s with
 |.FunctionDef _ _ _ _ _ _ sc _ _ _=>sc
 |_=>{kind:=.function,names:=[],isGenerator:=false,isCoroutine:=false}
abbrev br:gr:=λ_ _ _ _ _ _=>False
abbrev E0:XK:=λ_ _ _=>False
def mI{X:Cx}:mm br X E0:=λ_ _ _ _ _ _ _ h=>h.elim
structure Fun(K:am)(x qual:Str)(st:Stmt)(f:Addr)(fd:FuncData):Prop where
 ex:∃(oc:Value) (od:Zc) (kV doc pm:Value) (an:Zc) (cdv ct:Value) (osl:Array (Option Value)),
  fd=W.fnOf x qual (ii st) (e8 st) (aT st) .none kV doc pm an cdv ct/\K.lookup f=some ⟨oc,od,.func fd,osl⟩/\W.codeIn K cdv qual=true
 kp:W.keepIn K (.ref f)=true
section
variable{P:Program}{w:World}{K:am}{mg:Za}{base:Heap}
def Fun.ok{x qual:Str}{st:Stmt}{f:Addr}{fd:FuncData}{N ps:Zj}{k:Nat}{sp:Sp}(F:Fun K x qual st f fd)(S:q0k N ps (aT st))(len:∀vs H Q E,sp vs H Q E->vs.length=ps.length)
 (zg:∀(cdv:Value) (A:Around) (outer:List Env) (s:Shared) (H:Hp) (vs:List V) (Q:VK) (E:XK),Room k (A.deeper (envOfC qual (aT st) s.heap.objs.size f cdv))->sp vs H Q E->
   ∃t,PSs (dX br P w K mg base N qual (aT st) f cdv A outer s H E).nox (e8 st) t/\t {nx:=λ_ H'=>Q .non H',rt:=Q} (aO N vs) H):FnOk P w K mg base br (k+1) f fd ps sp:=by
 obtain⟨oc,od,kV,doc,pm,an,cdv,ct,osl,rfl,lk,hcd⟩:=F.ex;refine tO lk hcd S len λA outer s H vs Q E hr hsp=>?_;let⟨t,h,q⟩:=zg cdv A outer s H vs Q E hr hsp;exact⟨t,h.nox,q⟩
def qwt{x qual:Str}{st:Stmt}{f:Addr}{oc:Value}{od an:Zc}{osl:Array (Option Value)}{kV doc pm cdv ct:Value}(l:K.lookup f=some ⟨oc,od,.func (W.fnOf x qual (ii st) (e8 st) (aT st) .none kV doc pm an cdv ct),osl⟩)
 (c:W.codeIn K cdv qual=true) (k:W.keepIn K (.ref f)=true):Fun K x qual st f (W.fnOf x qual (ii st) (e8 st) (aT st) .none kV doc pm an cdv ct):=⟨⟨oc,od,kV,doc,pm,an,cdv,ct,osl,rfl,l,c⟩,k⟩
end
section
variable{X:Cx}
def pv(i:Nat){x:Str}{pos:Pos}(hN:X.N[i]? =some x:=by rfl)(hv:jV X.env.scope x:=by first|exact Or.inl rfl|exact Or.inr (Or.inl rfl)|exact Or.inr (Or.inr rfl))(hd:(x==("__debug__":Str))=false:=by decide)
 (hcd:(x==("__classdict__":Str))=false:=by decide):PE X (.Name x pos) (dq i):=qu8 hN hv hd hcd
end
def eX{A B:Prop}(h:B):if false=true then A else B:=by rw[if_neg Bool.false_ne_true];exact h
def eW{A B:Prop}(h:A):if true=true then A else B:=by rw[if_pos rfl];exact h
def Same(H H':Hp):Prop:=∀b o,H b=some o->H' b=some o
def Same.refl(H:Hp):Same H H:=λ_ _ h=>h
def Same.trans{H H1 H2:Hp}(a:Same H H1)(b:Same H1 H2):Same H H2:=λc o h=>b c o (a c o h)
def Same.free{H H':Hp}(e:Same H H'){l:Addr}(h:H' l=Option.none):H l=Option.none:=by
 cases q:H l with
 |none=>rfl
 | some o=>
  rw[e l o q]at h;cases h
section
variable{X:Cx}{z5:Z3}{J:St}{H:Hp}{s:Shared}
def Inv.track{d:Addr}{o:HO}(I:Inv X z5 J H s)(hn:H d=none)(hy:X.s₀.heap.objs.size<=d)(hL:d≠X.env.locals)(hc:∀x c,X.env.cells.lookup x=some c->c≠d)
 (hp:∀p∈X.pn++z5,p.1≠d) (new:ObjOk X.prog X.w (aN H d o) s.heap d o):Inv X z5 J (aN H d o) s:=by
 have old:∀b ob,X.s₀.heap.get? b=some ob->b≠d:=λb ob e=>jo (jz (jd e) hy);have was:∀b u,H b=some u->b≠d:=λb u e=>fX e hn;refine⟨I.ok,I.os,I.bare,⟨I.base.keep,I.base.slot,λb ob e n hx=>?_,I.base.there,λb xs e=>?_,λb ob u e=>?_,λb ps e=>?_⟩,I.loc,I.cell,?_,λx c e=>?_,λp z=>?_,λb u e=>?_,I.len⟩
 .rw[aU (old b ob e)];exact I.base.free b ob e n hx
 .have q:=I.base.tups b xs e;rw[aU (was b _ q)];exact q
 .have q:=I.base.frzs b ob u e;rw[aU (was b _ q)];exact q
 .let⟨m,q⟩:=I.base.tbls b ps e;exact⟨m,by rw[aU (was b _ q)];exact q⟩
 .rw[aU (Ne.symm hL)];exact I.free
 .rw[aU (hc x c e)];exact I.freeC x c e
 .let⟨e,n,r⟩:=I.pin p z;exact⟨e,by rw[aU (hp p z)];exact n,r⟩
 .by_cases hb:b=d
  .subst hb;rw[cr]at e;cases e;exact new
  .rw[aU hb]at e;refine(I.hok b u e).stay (λc v _ q=>q) (λc q=>?_) λc xs q=>?_
   .rw[aU (was c _ q)];exact q
   .rw[aU (was c _ q)];exact q
end
theorem Al{env:Env}:∀(names:List (Str×NameKind)) (acc:List (Str×Addr)),(∀y∈names,y.2=.free->∃c,env.cells.lookup y.1=some c)->
 ∃cl,(forIn names acc λ(p:Str×NameKind) (cs:List (Str×Addr))=>(if(p.2==NameKind.free)=true then do let c <-cellOf env p.1;pure (ForInStep.yield ((p.1,c)::cs))else pure (ForInStep.yield cs):Sem (ForInStep (List (Str×Addr)))))=pure cl/\
  (∀x c,cl.lookup x=some c->acc.lookup x=some c∨env.cells.lookup x=some c)/\(∀x c,acc.lookup x=some c->∃c',cl.lookup x=some c')/\∀y∈names,y.2=.free->∃c,cl.lookup y.1=some c
 |[],acc,_=>⟨acc,rfl,λ_ _ h=>.inl h,λ_ c h=>⟨c,h⟩,λ_ h=>nomatch h⟩
 | (n,k)::r,acc,hh=>by
  by_cases hk:k=.free
  .subst hk;let⟨c,hc⟩:=hh (n,.free) jj rfl;let⟨cl,e,h1,h2,h3⟩:=Al (env:=env) r ((n,c)::acc) λy hy=>hh y (jh _ hy);have ec:cellOf env n=pure c:=by
    unfold cellOf;rw[hc]
   have here:∃c',cl.lookup n=some c':=h2 n c (by simp[List.lookup_cons]);refine⟨cl,?_,λx d q=>?_,λx d q=>?_,λy hy hf=>?_⟩
   .rw[List.forIn_cons];simp only[beq_self_eq_true,if_true,ec,pure_bind];exact e
   .rcases h1 x d q with z|z
    .rw[List.lookup_cons]at z;by_cases hx:x=n
     .subst hx;simp only[beq_self_eq_true]at z;cases z;exact .inr hc
     .rw[beq_eq_false_iff_ne.mpr hx]at z;exact .inl z
    .exact .inr z
   .by_cases hx:x=n
    .subst hx;exact here
    .exact h2 x d (by rw[List.lookup_cons,beq_eq_false_iff_ne.mpr hx];exact q)
   .rcases List.mem_cons.mp hy with rfl|hy
    .exact here
    .exact h3 y hy hf
  .let⟨cl,e,h1,h2,h3⟩:=Al (env:=env) r acc λy hy=>hh y (jh _ hy);refine⟨cl,?_,h1,h2,λy hy hf=>?_⟩
   .rw[List.forIn_cons];have hb:(k==NameKind.free)=false:=by simpa using hk
    simp only[hb,Bool.false_eq_true,if_false,pure_bind];exact e
   .rcases List.mem_cons.mp hy with rfl|hy
    .exact absurd hf hk
    .exact h3 y hy hf
def Hz{env:Env}{scope:Scope}(hh:∀y∈scope.names,y.2=.free->∃c,env.cells.lookup y.1=some c):
 ∃cl,closureFor scope env=pure cl/\(∀x c,cl.lookup x=some c->env.cells.lookup x=some c)/\∀y∈scope.names,y.2=.free->∃c,cl.lookup y.1=some c:=by
 let⟨cl,e,h1,_,h3⟩:=Al (env:=env) scope.names [] hh;refine⟨cl,?_,λx c q=>(h1 x c q).elim (λz=>by simp at z) id,h3⟩;unfold closureFor;simp only[bind_pure];exact e
noncomputable def dk(X:Cx)(N:Zj)(scope:Scope)(s:Shared)(H:Hp)(C:Addr)(cl:List (Str×Addr))(fp:List Addr):Cx where
 prog:=X.prog
 w:=X.w
 K:=X.K
 mg:=X.mg
 base:=X.base
 A:=X.A
 N:=N
 s₀:=s
 H₀:=H
 env:=compEnvC scope cl C X.env
 outer:=X.stack
 stack:=X.stack
 ex:=fp
 fn:=λ_=>false
 calm:=X.calm
 pn:=[]
 xe:=λ_ _=>False
noncomputable def cY(n:Nat)(js:Zg)(J:St):St:=List.replicate n none++js.map λj=>(J[j]?).join
def rF(n:Nat)(g:TG):Prop:=∀v J H Q,g v J H Q->g v J H λJ2 H2=>Q J2 H2/\J2.length=J.length/\∀i,n<=i->J2[i]? =J[i]?
def qY{n i:Nat}(h:i<n):rF n (gh i):=λv J H Q q=>⟨q,by simp,λj hj=>by rw[List.getElem?_set_ne (by omega)]⟩
def Ge{K:am}{n i j:Nat}(hi:i<n)(hj:j<n):rF n (lM K 2 (tP (gh i) (tP (gh j) n9))):=λv J H Q q=>by obtain⟨a,xs,e,h,hl,x,r,e1,y,r2,e2,e3,q⟩:=q;exact⟨a,xs,e,h,hl,x,r,e1,y,r2,e2,e3,q,by simp,λk hk=>by rw[List.getElem?_set_ne (by omega),List.getElem?_set_ne (by omega)]⟩
def rD(X:Cx)(ifs:Zi)(t:TT):Prop:=
 ∀(z5:Z3) (s:Shared) (J:St) (H:Hp) (Q:Bool->Hp->Prop),Inv X z5 J H s->t J H Q->
   wpAny (model X.prog X.w) X.A (forIn ifs true λc r=>if r=true then do let ok <-isTrue c X.env (eval c X.env);pure (ForInStep.yield ok)else pure (ForInStep.yield r)) (TP X z5 J Q) X.xe s
def ip:TT:=λ_ H Q=>Q true H
def yZ{X:Cx}:rD X [] ip:=λ_ _ _ H _ I h=>wpAny_tests_nil ⟨H,I,h⟩
def uF{X:Cx}{c:Expr}{t:TT}(hc:PT X c t):rD X [c] t:=λz5 s J H Q I h=>wpAny_tests_one (hc z5 s J H Q I h)
def vG(g:TG)(tt:TT)(te:TE)(J0:St)(Fin:List V->Hp->Prop)(σ:It)(H1:Hp):Prop:=
 ∃W:Nat->Nat->List V->Hp->Prop,(∃m,W 0 m [] H1)/\∀i m ys H2,W i m ys H2->
  (σ.stop i H2/\ys.length<=sizeLine/\Fin ys H2)∨
  (σ.go i H2/\ys.length<sizeLine/\∃N:List V->Hp->Prop,(∀ys' H',N ys' H'->∃m',m'<m/\W (i+1) m' ys' H')/\∀x H3,σ.yld i H2 x H3->g x J0 H3 λσ4 H4=>tt σ4 H4 λb H5=>
    if b=true then te σ4 H5 λy H6=>N (ys++[y]) H6 else N ys H5)
def qq(n:Nat)(js:Zg)(wi:TI)(g:TG)(tt:TT)(te:TE):TE:=λJ H Q=>
 wi J H (vG g tt te (cY n js J) λys H2=>∀D,H2 D=none->Q (.ref D) (aN H2 D (.lst ys)))
def tV(k n:Nat)(js:Zg)(wi:TI)(g:TG)(tt:TT)(te:TE):TS:=λE J H=>
 wi J H (vG g tt te (cY n js J) λys H2=>∀D,H2 D=none->E.nx (J.set k (some (.ref D))) (aN H2 D (.lst ys)))
def qjf{prog:Program}{w:World}{A:Around}{R:Zb}{s:Shared}{elt zm zf:Expr}{ifs:Zi}{scope:Scope}{pos:Pos}{it acc:Value}{env:Env}(I:Nat->Shared->Prop)
 (turn:∀n s,I n s->wpAny (model prog w) A (pyNext it) (λr s₁=>(r=none/\R (.ok .next) s₁)∨∃v,r=some v/\wpAny (model prog w) A (letOwnedTupleGo zm it v) (λ_ s₀=>
   wpAny (model prog w) A (assign zm env v) (λ_ s₂=>
    wpAny (model prog w) A (forIn ifs true λc r=>if r=true then do let ok <-isTrue c env (eval c env);pure (ForInStep.yield ok)else pure (ForInStep.yield r)) (λok s₃=>
     if ok=true then wpAny (model prog w) A (eval elt env) (λx s₄=>wpAny (model prog w) A (call (.builtin "list.append") [acc,x]) (λ_ s₅=>∃m,m<n/\I m s₅) (λ_ _=>False) s₄) (λ_ _=>False) s₃
     else∃m,m<n/\I m s₃) (λ_ _=>False) s₂) (λ_ _=>False) s₀) (λ_ _=>False) s₁) (λ_ _=>False) s)
 (n:Nat) (h:I n s):codeAny (model prog w) A (.compLoop (.ListComp elt [⟨zm,zf,ifs,0⟩] scope pos) 0 it acc env) R s:=by
 have no:∀{E:Z0} (x:Value) (z:Shared),False->E x z:=λ_ _ f=>f.elim;refine codeAny_loop rfl I (λn s hI=>?_) n h;show wpAny _ A ((compTurn (.ListComp elt [⟨zm,zf,ifs,0⟩] scope pos) 0 it acc env).onRaise (λx=>do noteFrame x env;theTreesLotGoes x)) _ _ s;refine wpAny_noted ?_;rw[compTurn_list];refine ja (wpAny_standAt (ja (xj (turn n s hI) (λr s₁ h₁=>?_) no)));rcases h₁ with⟨e,h₁⟩|⟨v,e,h₁⟩
 .subst e;exact jc h₁
 .subst e;refine ja (xj h₁ (λ_ s₀ h₀=>ja (xj h₀ (λ_ s₂ h₂=>ja (xj h₂ (λok s₃ h₃=>?_) no)) no)) no);cases ok with
  |false=>exact jc ⟨rfl,h₃⟩
  | true=>
   have q:wpAny (model prog w) A (eval elt env) _ _ s₃:=h₃;exact ja (ja (xj q (λx s₄ h₄=>ja (xj h₄ (λ_ s₅ h₅=>jc (jc ⟨rfl,h₅⟩)) no)) no))
noncomputable def gy(sc:Scope)(N0 N:Zj)(n:Nat)(js:Zg)(scope:Scope):Bool:=
 decide (scope.kind=.function)&&scope.names.all (λy=>decide (y.2≠.cell))&&scope.names.all (λy=>decide (y.2≠.free)||decide (sc.names.lookup y.1=some .cell)||decide (sc.names.lookup y.1=some .free))&&
 scope.names.all (λy=>decide (y.2≠.local)||decide (scope.names.lookup y.1=some .local))&&decide (js.map (λj=>N0[j]?)=(N.drop n).map some)&&
 (N.drop n).all (λx=>decide (sc.names.lookup x=some .cell)||decide (sc.names.lookup x=some .free))&&(N.drop n).all (λx=>decide (scope.names.lookup x=some .free))&&decide (n+js.length=N.length)
theorem HB{env:Env}:∀{names:List (Str×NameKind)} {x:Str},(names.map λ(n,k)=>if(k==NameKind.free&&env.scope.kind==.function&&env.kindOf n==some .cell)then(n,NameKind.cell)else(n,k)).lookup x=some .cell∨
 (names.map λ(n,k)=>if(k==NameKind.free&&env.scope.kind==.function&&env.kindOf n==some .cell)then(n,NameKind.cell)else(n,k)).lookup x=some .free->(∀y∈names,y.2≠.cell)->∃y∈names,y.1=x/\y.2=.free
 |[],_,h,_=>by rcases h with h|h<;>simp at h
 | (n,k)::r,x,h,hc=>by
  have ih:=@HB env r x;by_cases hx:x=n
  .subst hx;refine⟨(x,k),jj,rfl,?_⟩;have hk:k≠.cell:=hc (x,k) jj;by_cases hf:k=.free
   .exact hf
   .exfalso;have hb:(k==NameKind.free)=false:=by simpa using hf
    simp only[List.map_cons,hb,Bool.false_and,Bool.false_eq_true,if_false,List.lookup_cons,beq_self_eq_true]at h;rcases h with h|h
    .exact hk (jl h)
    .exact hf (jl h)
  .have hb:(x==n)=false:=beq_eq_false_iff_ne.mpr hx;have step:∀(q:Str×NameKind) (l:List (Str×NameKind)),q.1=n->List.lookup x (q::l)=List.lookup x l:=λq l e=>by
    obtain⟨a,b⟩:=q;have e':a=n:=e;subst e';rw[List.lookup_cons,hb]
   have nm:(if(k==NameKind.free&&env.scope.kind==.function&&env.kindOf n==some .cell)then(n,NameKind.cell)else(n,k)).1=n:=by split<;>rfl
   rw[x8,step _ _ nm]at h;let⟨y,hy,r1,r2⟩:=ih h λy hy=>hc y (jh _ hy);exact⟨y,jh _ hy,r1,r2⟩
theorem mem_of_lookup{x:Str}{k:NameKind}:∀{l:List (Str×NameKind)},l.lookup x=some k->(x,k)∈l
 |[],h=>by simp at h
 | (a,b)::r,h=>by
  rw[List.lookup_cons]at h;by_cases hx:x=a
  .subst hx;simp only[beq_self_eq_true]at h;cases h;exact jj
  .rw[beq_eq_false_iff_ne.mpr hx]at h;exact jh _ (mem_of_lookup h)
theorem HD{env:Env}{x:Str}:∀(l:List (Str×NameKind)),l.lookup x=some .free->(l.map λ(n,k)=>if(k==NameKind.free&&env.scope.kind==.function&&env.kindOf n==some .cell)then(n,NameKind.cell)else(n,k)).lookup x≠some .local
 |[],q=>by simp at q
 | (a,b)::r,q=>λz=>by
  rw[List.lookup_cons]at q;by_cases hx:x=a
  .subst hx;simp only[beq_self_eq_true]at q;cases q;rw[x8]at z;dsimp only at z;split at z
   .simp[List.lookup_cons]at z
   .simp[List.lookup_cons]at z
  .rw[beq_eq_false_iff_ne.mpr hx]at q;refine HD (env:=env) r q ?_;by_cases hc:(b==NameKind.free&&env.scope.kind==.function&&env.kindOf a==some .cell)=true
   .simp only[List.map_cons,if_pos hc,List.lookup_cons,beq_eq_false_iff_ne.mpr hx]at z;exact z
   .simp only[List.map_cons,if_neg hc,List.lookup_cons,beq_eq_false_iff_ne.mpr hx]at z;exact z
def FH(n:Nat)(js:Zg)(J:St):(cY n js J).length=n+js.length:=by simp[cY]
def FJ{n:Nat}{js:Zg}{J:St}{i:Nat}(h:i<n):(cY n js J)[i]? =some none:=by unfold cY;rw[ku (by simpa using h),kj,if_pos h]
def qmo{n:Nat}{js:Zg}{J:St}{i:Nat}{v:V}(h:n<=i)(e:(cY n js J)[i]? =some (some v)):∃j,js[i-n]? =some j/\J[j]? =some (some v):=by
 unfold cY at e;rw[ke (by simpa using h),jx,jq]at e;cases q:js[i-n]? with
 |none=>rw[q]at e;cases e
 | some j=>
  rw[q]at e;refine⟨j,rfl,?_⟩;have e':(J[j]?).join=some v:=jl e;cases z:J[j]? with
  |none=>rw[z]at e';cases e'
  |some o=>rw[z]at e';exact congrArg some e'
section
variable{X:Cx}{tg elt zf:Expr}{ifs:Zi}{scope:Scope}{pos:Pos}{N N0:Zj}{n:Nat}{js:Zg}{sc:Scope}{g:TG}{tt:TT}{te:TE}
def Hb{z5:Z3}{J:St}{H:Hp}{s:Shared}{it:Addr}{fp:List Addr}{tn:Nat->Heap->Prop}{σ:It}{cl:List (Str×Addr)}{Fin:List V->Hp->Prop}{RR:Value->Addr->Result->Shared->Prop}{E:Z0}
 (hc:X.calm=true) (hsc:X.env.scope=sc) (hN0:X.N=N0) (ok:gy sc N0 N n js scope=true)
 (hg:∀s H C cl fp,PG (dk X N scope s H C cl fp) tg g) (hgo:rF n g) (ht:∀s H C cl fp,rD (dk X N scope s H C cl fp) ifs tt) (he:∀s H C cl fp,PE (dk X N scope s H C cl fp) elt te)
 (I:Inv X z5 J H s) (T:Turn X.prog X.w X.K tg σ fp it tn) (st:tn 0 s.heap) (fo:∀b∈fp,f8 X z5 H b)
 (hcl:∀x c,cl.lookup x=some c->X.env.cells.lookup x=some c) (hcl2:∀y∈scope.names,y.2=.free->∃c,cl.lookup y.1=some c)
 (G:vG g tt te (cY n js J) Fin σ H)
 (k:∀(D C:Addr) (oC:Obj) (m:Za) (ys:List V) (H':Hp) (s':Shared),Inv X (z5++[(C,oC)]) J (aN H' D (.lst ys)) s'->H' D=none->s'.heap.Ns C m->X.s₀.heap.objs.size<=C->C≠X.env.locals->(∀x c,X.env.cells.lookup x=some c->c≠C)->
   (∀p∈X.pn++z5,p.1≠C)->aN H' D (.lst ys) C=none->Fin ys H'->RR (.ref D) C (.ok .next) s'):
 wpAny (model X.prog X.w) X.A (newList []) (λacc s₃=>wpAny (model X.prog X.w) X.A (newFunctionEnv scope X.env.globals cl [] X.env.qual none .none (some X.env)) (λcenv s₄=>
  codeAny (model X.prog X.w) X.A (.compStart (.ListComp elt [⟨tg,zf,ifs,0⟩] scope pos) 0 (.ref it) acc {cenv with scope:=relabel scope X.env}) (RR acc cenv.locals) s₄) E s₃) E s:=by
 simp only[gy,Bool.and_eq_true,decide_eq_true_eq,List.all_eq_true,Bool.or_eq_true]at ok;obtain⟨⟨⟨⟨⟨⟨⟨kind,cell⟩,free⟩,nms⟩,cap⟩,lc⟩,lf⟩,len⟩:=ok;subst hN0 hsc;refine kf (wpAny_newFunctionEnv cell (by intro y hy;simp at hy) (λh1 ns1 sb1=>?_) kind);dsimp only at ns1 sb1 ⊢;generalize eG:s.heap.push {cls:=.type "list",dict:=none,data:=.seq ([]:Ze).toArray}=G2 at ns1 sb1 ⊢;have eC:G2.objs.size=s.heap.objs.size+1:=by rw[<-eG,xx]
 generalize eCC:G2.objs.size=C at ns1 sb1 eC ⊢;generalize eD:s.heap.objs.size=D at eC ⊢;have ltD:∀b o,s.heap.get? b=some o->b<D:=λb o e=>eD▸jd e;have DC:D≠C:=by rw[eC];exact jo (Nat.lt_succ_self _)
 have bC:∀b:Nat,b<D->b≠C:=λb hb z=>by rw[z,eC]at hb;exact absurd hb (Nat.not_lt.mpr (Nat.le_succ _))
 have old:∀b o,s.heap.get? b=some o->h1.get? b=some o:=λb o e=>by have hb:=ltD b o e;refine sb1.extBut b o (bC b hb) (je _ ?_);rw[<-eG];exact je _ e
 have accD:h1.get? D=some {cls:=.type "list",data:=.seq ([]:Ze).toArray 0}:=by refine sb1.extBut _ _ DC (je _ ?_);rw[<-eG,<-eD];exact ju _ rfl
 have freeD:H D=none:=I.hok.fresh (by rw[eD];exact jg _);have freeC:H C=none:=I.hok.fresh (by rw[eD,eC];exact Nat.le_succ _);have fpD:∀b∈fp,b<D:=λb hb=>let ⟨o,e,_⟩:=T.obj 0 _ st b hb;ltD b o e
 have cellD:∀x c,X.env.cells.lookup x=some c->c<D:=λx c e=>let ⟨v,o,ho,_⟩:=I.cell x c e;ltD c o ho
 have pinD:∀p∈X.pn++z5,p.1<D:=λp hp=>ltD _ _ (I.pin p hp).1;have stkD:∀b∈dD X.stack,b<D:=λb hb=>by
  rcases List.mem_cons.mp (I.stkSub b hb)with e|z
  .subst e;rw[<-eD];exact I.lt
  .let⟨_,o,ho,_⟩:=I.ok.funs.mem z;rw[<-eD];exact jz (jd ho) I.sz
 have fpS:∀b∈fp,b∉dD X.stack:=λb hb z=>by
  let⟨_,f1,f2,_⟩:=fo b hb;rcases List.mem_cons.mp (I.stkSub b z)with e|q
  .exact f1 e
  .exact f2 q
 have kindB:(compEnvC scope cl C X.env).scope.kind=.function:=kind;have okB:(dk X N scope s H C cl fp).Ok:={
  mod:=I.ok.mod
  kind:=kind
  glob:=I.ok.glob
  blt:=I.ok.blt
  above:=by show s.heap.objs.size<=C;rw[eD,eC];exact Nat.le_succ _
  inj:=λx y c e1 e2=>I.ok.inj x y c (hcl x c e1) (hcl y c e2)
  has:=λx hx=>by let⟨y,hy,e,f⟩:=HB (env:=X.env) (names:=scope.names) (x:=x) hx cell;subst e;exact hcl2 y hy f
  cab:=λx c z=>by cases z
  hd:=I.ok.hd
  frames:=I.ok.frames
  stk:=.inl rfl
  exf:=λb hb=>⟨bC b (fpD b hb),λx c e=>(fo b hb).2.2.2.2.1 x c (hcl x c e)⟩
  bs:=λb o e=>I.bs b o e
  bsz:=x6 I.ok.bsz I.sz
  noex:=λb o e hb=>by
   rcases(fo b hb).2.2.2.1 with z|z
   .exact I.ok.noex b o e z
   .exact absurd (jz (jd e) (x6 I.ok.bsz z)) (xn _)
  exfs:=fpS
  funs:=I.stack
  frf:=I.stkFree}
 have upH:∀b o,s.heap.get? b=some o->h1.get? b=some o:=old;have IB:Inv (dk X N scope s H C cl fp) [(D,{cls:=.type "list",data:=.seq ([]:Ze).toArray 0})] (cY n js J) H {s with heap:=h1,toks:=s.toks+([]:List (Str×Value)).length}:=by
  refine⟨okB,rfl,I.bare,Un.kept old,⟨_,ns1,λi x v e1 e2 e3=>?_⟩,λx c e=>?_,freeC,λx c e=>I.freeC x c (hcl x c e),λp hp=>?_,I.hok.kept old,?_⟩
  .have hi:n<=i:=by
    by_cases hlt:i<n
    .rw[FJ hlt]at e2;cases e2
    .omega
   let⟨j,ej,ev⟩:=qmo hi e2;have hxN:(N.drop n)[i-n]? =some x:=by rw[List.getElem?_drop,show n+(i-n)=i by omega];exact e1
   have hxm:x∈N.drop n:=k8 hxN;have eN:X.N[j]? =some x:=by
    have q:(js.map λj=>X.N[j]?)[i-n]? =some (X.N[j]?):=by rw[jq,ej];rfl
    rw[cap,jq,hxN]at q;exact(jl q).symm
   obtain⟨m0,_,hl⟩:=I.loc;have kx:=lc x hxm;have vis:jV X.env.scope x:=by
    rcases kx with z|z
    .exact .inr (.inl z)
    .exact .inr (.inr z)
   let⟨u,r,lk⟩:=hl j x v eN ev vis;refine⟨u,r,?_⟩;rcases lk with⟨q,_⟩|⟨_,c,ec,o,ho,hd⟩
   .exfalso;have q':X.env.scope.names.lookup x=some .local:=q;rcases kx with z|z
    .rw[z]at q';cases q'
    .rw[z]at q';cases q'
   .have fx:scope.names.lookup x=some .free:=lf x hxm;obtain⟨c',ec'⟩:∃c',cl.lookup x=some c':=by
     have hm:(x,NameKind.free)∈scope.names:=mem_of_lookup fx;exact hcl2 _ hm rfl
    have ecc:c'=c:=by have z:=hcl x c' ec';rw[ec]at z;exact(jl z).symm
    subst ecc;refine .inr ⟨?_,c',ec',o,old _ _ ho,hd⟩;rcases e3 with z|z|z
    .exfalso;have z':(relabel scope X.env).names.lookup x=some .local:=z;exact HD _ fx z'
    .exact .inl z
    .exact .inr z
  .let⟨v,o,ho,hd⟩:=I.cell x c (hcl x c e);exact⟨v,o,old _ _ ho,hd⟩
  .have e:p=(D,{cls:=.type "list",data:=.seq ([]:Ze).toArray 0}):=by simpa[dk]using hp
   subst e;exact⟨accD,freeD,DC,λz=>absurd (stkD D z) (xn _),λv=>by intro z;cases z⟩
  .show(cY n js J).length=N.length;rw[FH];exact len
 -- what stays true of the iterator's records
 have stat:∀{H':Hp} {oD:Obj},(∀b∈fp,H' b=none)->∀b∈fp,f8 (dk X N scope s H C cl fp) [(D,oD)] H' b:=λ{H' oD} hn b hb=>
  ⟨hn b hb,bC b (fpD b hb),fpS b hb,.inl hb,λx c e=>(fo b hb).2.2.2.2.1 x c (hcl x c e),λp hp=>by
    have e:p=(D,oD):=by simpa[dk]using hp
    subst e;exact Nat.ne_of_gt (fpD b hb)⟩
 obtain⟨W,⟨m0,w0⟩,turn⟩:=G;have loop:codeAny (model X.prog X.w) X.A (.compLoop (.ListComp elt [⟨tg,zf,ifs,0⟩] scope pos) 0 (.ref it) (.ref D) (compEnvC scope cl C X.env)) (RR (.ref D) C) {s with heap:=h1,toks:=s.toks+([]:List (Str×Value)).length}:=by
  refine qjf (λm s'=>∃(i:Nat) (ys:List V) (its:Ze) (kk:Nat) (J':St) (H':Hp),Inv (dk X N scope s H C cl fp) [(D,{cls:=.type "list",data:=.seq its.toArray kk})] J' H' s'/\Vals ys its/\(J'.length=(cY n js J).length/\∀i,n<=i->J'[i]? =(cY n js J)[i]?)/\
   tn i s'.heap/\(∀b∈fp,H' b=none)/\W i m ys H') ?_ m0 ⟨0,[],[],0,_,H,IB,.nil,⟨rfl,λ_ _=>rfl⟩,T.keep _ _ _ st λb hb o e=>old b o e,λb hb=>(fo b hb).1,w0⟩
  rintro m s3 ⟨i,ys,its,kk,J3,H3,I3,r3,⟨l3,a3⟩,st3,fr3,w3⟩;have I3':Inv (dk X N scope s H C cl fp) [(D,{cls:=.type "list",data:=.seq its.toArray kk})] (cY n js J) H3 s3:=I3.weak l3.symm λj v e=>by
   by_cases hj:j<n
   .rw[FJ hj]at e;cases e
   .rw[a3 j (by omega)];exact e
  rcases turn i m ys H3 w3 with⟨stop,hz,fin⟩|⟨go,hz,Nn,hNn,step⟩
  .refine xj (T.done (dk X N scope s H C cl fp) rfl rfl rfl hc i _ s3 _ H3 (λ_ _=>False) I3' (stat fr3) st3 stop) (λr s4 h4=>?_) λ_ _ z=>z;obtain⟨hr,I4⟩:=h4;refine .inl ⟨hr,?_⟩;have pD:=I4.pin (D,{cls:=.type "list",data:=.seq its.toArray kk}) (by simp[dk]);obtain⟨mC,nsC,_⟩:=I4.loc;let⟨oC,es,ep,hoC,dC,rC⟩:=id nsC;have J4:Inv X z5 J H3 s4:=I.call' (s':=s4) I4.os (ch:=fp) I4.base I4.hok I4.bare λb hb=>by
    let⟨_,f1,f2,f3,f4,f5⟩:=fo b hb;exact⟨f3,f1,f4,f5⟩
   have fC:H3 C=none:=I4.free;have ltL:X.env.locals<D:=eD▸I.lt;have cL:C≠X.env.locals:=(bC _ ltL).symm;have cC:∀x c,X.env.cells.lookup x=some c->c≠C:=λx c e=>bC c (cellD x c e);have cP:∀p∈X.pn++z5,p.1≠C:=λp hp=>bC p.1 (pinD p hp);have cS:X.s₀.heap.objs.size<=C:=x6 I.sz (by rw[eD,eC];exact Nat.le_succ _);have dS:X.s₀.heap.objs.size<=D:=by have:=I.sz;rw[eD]at this;exact this
   have cF:C∉X.fs:=λz=>by let⟨_,o,ho,_⟩:=I.ok.funs.mem z;exact xn _ (jz (jd ho) cS)
   have J5:Inv X (z5++[(C,oC)]) J H3 s4:=J4.pins_of λp hp=>(List.mem_append.mp hp).elim (λz=>J4.pin p (x9 _ z)) λz=>by
    have e:p=(C,oC):=by simpa using z
    subst e;exact⟨hoC,fC,cL,cF,λv z=>by have z':oC.data=.cell v:=z;rw[dC]at z';cases z'⟩
   refine k D C oC mC ys H3 s4 (J5.track pD.2.1 dS (Nat.ne_of_gt ltL) (λx c e=>jo (cellD x c e)) (λp hp=>?_) ?_) pD.2.1 nsC cS cL cC cP ?_ fin
   .rcases List.mem_append.mp hp with z|z
    .exact jo (pinD p (List.mem_append_left _ z))
    .rcases List.mem_append.mp z with z|z
     .exact jo (pinD p (x9 _ z))
     .have e:p=(C,oC):=by simpa using z
      subst e;exact Ne.symm DC
   .exact⟨hz,its,kk,r3,pD.1⟩
   .rw[aU (Ne.symm DC)];exact fC
  .refine xj (T.item (dk X N scope s H C cl fp) rfl rfl rfl hc i _ s3 _ H3 (λ_ _=>False) I3' (stat fr3) st3 go) (λr s4 h4=>?_) λ_ _ z=>z;obtain⟨u,hr,h4⟩:=h4;refine .inr ⟨u,hr,?_⟩;refine aW h4 λ_ s5 h5=>?_;obtain⟨x,H5,I5,r5,y5,st5,fr5⟩:=h5;have I5':=I5.pinned (stat fr5) (T.obj _ _ st5);refine aW (hg s H C cl fp _ s5 _ H5 x u _ I5' r5 (hgo _ _ _ _ (step x H5 y5))) λ_ s6 h6=>?_;obtain⟨J6,H6,I6,q6,l6,a6⟩:=h6;refine aW (ht s H C cl fp _ s6 J6 H6 _ I6 q6) λok s7 h7=>?_;obtain⟨H7,I7,q7⟩:=h7;have stays:∀{H8:Hp} {s8:Shared},Inv (dk X N scope s H C cl fp) ([(D,{cls:=.type "list",data:=.seq its.toArray kk})]++qE fp s5.heap) J6 H8 s8->(∀b∈fp,∀o,s5.heap.get? b=some o->s8.heap.get? b=some o)/\∀b∈fp,H8 b=none:=λ{H8 s8} I8=>
    ⟨λb hb o e=>(I8.pin (b,o) (x9 _ (x9 _ (vA hb e)))).1,λb hb=>by let⟨o,e,d⟩:=T.obj _ _ st5 b hb;exact(I8.pin (b,o) (x9 _ (x9 _ (vA hb e)))).2.1⟩
   cases ok with
   | false=>
    let⟨m',hm,w7⟩:=hNn ys H7 (show Nn ys H7 from q7);let⟨z1,z2⟩:=stays I7;exact⟨m',hm,i+1,ys,its,kk,J6,H7,I7.unpinned,r3,⟨l6,a6⟩,T.keep _ _ _ st5 z1,z2,w7⟩
   | true=>
    show wpAny _ _ (eval elt _) _ _ s7;refine aW (he s H C cl fp _ s7 J6 H7 _ I7 q7) λy s8 h8=>?_;obtain⟨vy,H8,I8,ry,n8⟩:=h8;let⟨m',hm,w8⟩:=hNn _ _ n8;let⟨z1,z2⟩:=stays I8;have pD:=I8.pin (D,{cls:=.type "list",data:=.seq its.toArray kk}) (by simp[dk]);have lenits:its.length<sizeLine:=by rw[<-r3.length];exact hz
    refine append_at pD.1 (λh9 hs9 hD9=>?_) (by simpa using Nat.le_of_lt lenits);have keep9:∀b o,b≠D->s8.heap.get? b=some o->h9.get? b=some o:=λb o hb e=>hs9.extBut b o hb e;have I9:Inv (dk X N scope s H C cl fp) [] J6 H8 {s8 with heap:=h9}:=(I8.pins_of (pins':=[]) λp hp=>nomatch hp).turned (it:=D) keep9 pD.2.1 DC (.inr (by show s.heap.objs.size<=D;rw[eD];exact jg _))
     (λx c e=>jo (cellD x c (hcl x c e))) λp hp=>by simp[dk]at hp
    refine⟨m',hm,i+1,ys++[vy],its++[y],kk+1,J6,H8,I9.pins_of λp hp=>?_,r3.append (.cons ry .nil),⟨l6,a6⟩,T.keep _ _ _ st5 λb hb o e=>keep9 b o (jo (fpD b hb)) (z1 b hb o e),z2,w8⟩;have e:p=(D,{cls:=.type "list",data:=.seq (its++[y]).toArray (kk+1)}):=by simpa using hp
    subst e;refine⟨?_,pD.2.1,DC,λz=>absurd (stkD D z) (xn _),λv z=>by cases z⟩;show h9.get? D=_;rw[hD9,List.push_toArray]
 exact codeAny_compStart_list loop (T.self _ 0 _ _ _ (T.keep _ _ _ st λb hb o e=>old b o e) loop)
end
section
variable{X:Cx}{tg elt zf:Expr}{ifs:Zi}{scope:Scope}{pos:Pos}{N N0:Zj}{n:Nat}{js:Zg}{sc:Scope}{wi:TI}{g:TG}{tt:TT}{te:TE}
def FM{z5:Z3}{J:St}{H:Hp}{s:Shared}(I:Inv X z5 J H s)(hsc:X.env.scope=sc)(ok:gy sc N0 N n js scope=true):∀y∈scope.names,y.2=.free->∃c,X.env.cells.lookup y.1=some c:=by
 simp only[gy,Bool.and_eq_true,decide_eq_true_eq,List.all_eq_true,Bool.or_eq_true]at ok;obtain⟨⟨⟨⟨⟨⟨⟨kind,cell⟩,free⟩,nms⟩,cap⟩,lc⟩,lf⟩,len⟩:=ok;subst hsc;intro y hy hf;rcases free y hy with(z|z)|z
 .exact absurd hf z
 .exact I.ok.has y.1 (.inl z)
 .exact I.ok.has y.1 (.inr z)
def Hc(ok:gy sc N0 N n js scope=true):scope.kind=.function/\∀x∈scope.names,x.2=.local->scope.names.lookup x.1=some .local:=by
 simp only[gy,Bool.and_eq_true,decide_eq_true_eq,List.all_eq_true,Bool.or_eq_true]at ok;obtain⟨⟨⟨⟨⟨⟨⟨kind,cell⟩,free⟩,nms⟩,cap⟩,lc⟩,lf⟩,len⟩:=ok;refine⟨kind,λx hx hl=>?_⟩;rcases nms x hx with z|z
 .exact absurd hl z
 .exact z
def Inv.butC{z5:Z3}{J:St}{H:Hp}{s:Shared}{C:Addr}{oC:Obj}{h':Heap}(I:Inv X (z5++[(C,oC)]) J H s)(hs:Heap.SameBut C s.heap h')(h1:X.s₀.heap.objs.size<=C)(h2:C≠X.env.locals)
 (h3:∀x c,X.env.cells.lookup x=some c->c≠C) (h4:∀p∈X.pn++z5,p.1≠C) (h5:H C=none):Inv X z5 J H {s with heap:=h'}:=
 I.unpinned.turned (it:=C) (t':=s.toks) (λb o hb e=>hs.extBut b o hb e) h5 h2 (.inr h1) h3 h4
def qN(hc:X.calm=true)(hsc:X.env.scope=sc)(hN0:X.N=N0)(ok:gy sc N0 N n js scope=true)(hi:PI X tg zf wi)
 (hg:∀s H C cl fp,PG (dk X N scope s H C cl fp) tg g) (hgo:rF n g) (ht:∀s H C cl fp,rD (dk X N scope s H C cl fp) ifs tt) (he:∀s H C cl fp,PE (dk X N scope s H C cl fp) elt te)
 (hs:∀x,foldedSetIterable zf X.env x=pure x:=by intro _;rfl):PE X (.ListComp elt [⟨tg,zf,ifs,0⟩] scope pos) (qq n js wi g tt te):=by
 intro z5 s J H Q I h;let⟨cl,hclos,c1,c2⟩:=Hz (FM I hsc ok);let⟨kd,nm⟩:=Hc ok;rw[eval_ListComp];refine wpAny_comprehension_free (use:=none) rfl hs hclos kd nm ?_;refine aW (hi z5 s J H _ I h) λv s1 h1=>aW h1 λitv s2 h2=>?_;obtain⟨it,fp,tn,σ,H2,e,I2,T,st2,f2,G⟩:=h2;subst e;refine Hb (RR:=λacc C=>compPost (model X.prog X.w) X.A X.xe none (EP X z5 J Q) acc C) hc hsc hN0 ok hg hgo ht he I2 T st2 f2 c1 c2 G ?_;intro D C oC m ys H' s' I' hD ns k1 k2 k3 k4 k5 fin;exact⟨m,ns,λh' hs'=>⟨.ref D,_,I'.butC hs' k1 k2 k3 k4 k5,rfl,fin D hD⟩⟩
def Fl{k:Nat}{y:Str}{py j6:Pos}(hc:X.calm=true)(hsc:X.env.scope=sc)(hN0:X.N=N0)(ok:gy sc N0 N n js scope=true)(hN:X.N.Nodup)(hk:X.N[k]? =some y)(hy:jX X.env.scope y)
 (hi:PI X tg zf wi) (hg:∀s H C cl fp,PG (dk X N scope s H C cl fp) tg g) (hgo:rF n g) (ht:∀s H C cl fp,rD (dk X N scope s H C cl fp) ifs tt) (he:∀s H C cl fp,PE (dk X N scope s H C cl fp) elt te)
 (hsw:swapsWith (.ListComp elt [⟨tg,zf,ifs,0⟩] scope pos) (some (.Name y py)) j6.line X.env=pure true:=by rfl) (hs:∀x,foldedSetIterable zf X.env x=pure x:=by intro _;rfl)
 (hf:X.fn y=true∨X.env.scope.names.lookup y=some .local:=by first|exact .inl rfl|exact .inr rfl):PS X (.Assign [.Name y py] (.ListComp elt [⟨tg,zf,ifs,0⟩] scope pos) j6) (tV k n js wi g tt te):=by
 intro z5 s J H D0 I h;let⟨cl,hclos,c1,c2⟩:=Hz (FM I hsc ok);let⟨kd,nm⟩:=Hc ok;rw[exec_Assign_Name_used _ _ _ _ hsw];refine ja (wpAny_standAt (ja ?_));show wpAny _ X.A (comprehension (.ListComp elt [⟨tg,zf,ifs,0⟩] scope pos) scope X.env _ (newList []) false (eval zf X.env) (some (assign (.Name y py) X.env)) >>= λ_=>pure ()) _ _ s;refine ja (xj (wpAny_comprehension_free (use:=some (assign (.Name y py) X.env)) (Q:=λ_ s'=>SP X z5 D0 .next s') rfl hs hclos kd nm ?_) (λ_ s' q=>jc (jc q)) λ_ _ z=>z);refine aW (hi z5 s J H _ I h) λv s1 h1=>aW h1 λitv s2 h2=>?_;obtain⟨it,fp,tn,σ,H2,e,I2,T,st2,f2,G⟩:=h2;subst e;refine Hb (RR:=λacc C=>compPost (model X.prog X.w) X.A X.xe (some (assign (.Name y py) X.env)) (λ_ s'=>SP X z5 D0 .next s') acc C) hc hsc hN0 ok hg hgo ht he I2 T st2 f2 c1 c2 G ?_;intro D C oC m ys H' s' I' hD ns k1 k2 k3 k4 k5 fin;show wpAny _ X.A (assign (.Name y py) X.env (.ref D)) _ _ s';refine wpAny_assign_Name (zP I' hN hk hy (v:=.ref D) rfl (λs'' I''=>?_) hf);have pc:=I''.pin (C,oC) (x9 _ (x9 _ jj));obtain⟨o,es,ep,ho,r⟩:=ns;have pc':=I'.pin (C,oC) (x9 _ (x9 _ jj));have eo:o=oC:=by have z:=pc'.1;rw[ho]at z;exact jl z
 subst eo;exact⟨m,⟨o,es,ep,pc.1,r⟩,λh' hs'=>⟨_,_,I''.butC hs' k1 k2 k3 k4 k5,fin D hD⟩⟩
end
def Same.new{H:Hp}{l:Addr}{o:HO}(h:H l=none):Same H (aN H l o):=λb u e=>by rw[aU (fX e h)];exact e
def Same.tup{K:am}{H H':Hp}{a:Addr}{xs:List V}(e:Same H H')(h:SqT K H a xs):SqT K H' a xs:=by
 rcases h with(h|⟨o,h⟩)|h
 .exact .inl (.inl (e _ _ h))
 .exact .inl (.inr ⟨o,e _ _ h⟩)
 .exact .inr h
section
variable{X:Cx}{K:am}
def bz(h:X.K=K):IxR X (pW K):=h▸qwk
def fW(h:X.K=K):fM X (.builtin "len") (λxs H Q=>∃p ys,xs=[.ref p]/\(SqL K H p ys∨SqT K H p ys)/\Q (.int ys.length) H):=by subst h;exact qb7
def qfh(h:X.K=K):fM X (.type "list") (λxs H Q=>∃p ys,xs=[.ref p]/\(SqL K H p ys∨SqT K H p ys)/\∀l,H l=none->Q (.ref l) (aN H l (.lst ys))):=by subst h;exact qb6
def rm(h:X.K=K):fM X (.type "tuple") (λxs H Q=>∃p ys,xs=[.ref p]/\((SqL K H p ys/\∀l,H l=none->Q (.ref l) (aN H l (.tup ys)))∨(SqT K H p ys/\Q (.ref p) H))):=by subst h;exact q9m
def qkw{tg l:Expr}{tl:TE}(h:X.K=K)(hl:PE X l tl):PI X tg l (wJ K tl):=h▸qpk hl
def qpj{tg l:Expr}{tl:TE}(h:X.K=K)(hl:PE X l tl):PI X tg l (nY K tl):=h▸qu5 hl
def qO{es:Zi}{k:Nat}{t:jW}{n:Nat}{pos:Pos}(hK:X.K=K)(hc:X.calm=true)(h:rE X es t)(hn:(assignEach es X.env).length=n:=by rfl)(hst:(assignEach es X.env).findIdx? (·.1)=none:=by rfl):PG X (.Tuple es k pos) (lM K n t):=hK▸qu7 hc h hn hst
def yW{e:Expr}{f:Str}{pos:Pos}{ta:TE}(hK:X.K=K)(he:PE X e ta)(hb:attributeBase e f X.env (eval e X.env)=eval e X.env):PE X (.Attribute e f pos) (nC K ta f):=hK▸qua he hb
end
def PE.or{X:Cx}{e:Expr}{t u:TE}(h:PE X e t)(k:PE X e u):PE X e λJ H Q=>t J H Q∨u J H Q:=λz5 s J H Q I q=>by
 rcases q with q|q
 .exact h z5 s J H Q I q
 .exact k z5 s J H Q I q
noncomputable def sI:V->Option Value
 |.ref a=>some (.ref a)
 |.ty n=>some (.type n)
 |_=>none
def A6(K:am):List V->Hp->VK->Prop:=λxs H Q=>∃x y t c b,xs=[x,y]/\sI y=some c/\TyOf K H x t/\W.kitOne K t c=some b/\Q (.bl b) H
section
variable{X:Cx}
def qmr{K:am}(hK:X.K=K):fM X (.builtin "isinstance") (A6 K):=by
 subst hK;intro z5 s J H xs us Q I r h;obtain⟨x,y,t,c,b,rfl,hc,ty,e,q⟩:=h;obtain⟨u,w,rfl,ru,rw'⟩:=ff r;have ew:w=c:=by
  cases y with
  | ref a=>
   have z:w=Value.ref a:=rw';rw[z];exact jl hc
  | ty n=>
   have z:w=Value.type n:=rw';rw[z];exact jl hc
  |_=>cases hc
 subst ew;exact qis I ru ty e λtk=>⟨.bl b,H,I.tok tk,rfl,q⟩
def q6k{K:am}{v:Value}:W.kitOne K v v=some true:=by unfold W.kitOne;rw[if_pos (beq_self_eq_true v)]
def q1z{K:am}{T U:String}{b:Bool}(hm:W.kitMeta U=true)(h3:W.subIn K (.type T) (.type U)=some b)(hn:Value.type T≠.type U):W.kitOne K (.type T) (.type U)=some b:=by unfold W.kitOne;rw[if_neg (λz=>hn (eq_of_beq z))];unfold W.kitCls;dsimp only;rw[if_pos hm];exact h3
theorem Ho:∀{bs:List Bool} {us:Ze},Vals (bs.map V.bl) us->us=bs.map Value.bool
 |[],us,r=>by cases r;rfl
 | b::bs,us,r=>by
  cases r with
  | cons h t=>
   have e:_=Value.bool b:=h;rw[e,Ho t];rfl
def iE{α:Type}(l:List α)(f:α->Bool)(tr:Nat->Bool)(h:∀i x,l[i]? =some x->tr i=f x):(List.range l.length).all tr=l.all f:=by
 induction l generalizing tr with
 |nil=>rfl
 | cons a l ih=>
  rw[jw,List.range_succ_eq_map,List.all_cons,List.all_map,List.all_cons,h 0 a rfl];congr 1;exact ih (λi=>tr (i+1)) λi x e=>h (i+1) x (by simpa using e)
def FF{K:am}(hK:X.K=K)(hc:X.calm=true):fM X (.builtin "all") (λxs H Q=>∃(p:Addr) (bs:List Bool),xs=[.ref p]/\SqL K H p (bs.map V.bl)/\Q (.bl (bs.all id)) H):=by
 subst hK;intro z5 s J H xs us Q I r h;obtain⟨p,bs,rfl,hq,q⟩:=h;obtain⟨u,rfl,ru⟩:=b9 r;cases ru;let⟨its,rv,pl,hz⟩:=I.list hq;have hh:X.A.in1.handled=none:=I.ok.hd hc;have eits:=Ho rv;have hl:=pl.isList;have hlt:p<s.heap.objs.size:=by obtain⟨_,e,_⟩:=hl;exact jd e
 refine call_all_walk (wpAny_pyIter_list hl ?_);refine⟨_,_,_,_,_,_,λi=>bs.getD i false,rfl,Walks.list hh s.heap.objs.size p (jo hlt) its.toArray,⟨⟨_,ju _ rfl,rfl,rfl⟩,hl.push _⟩,λi v s' Q' E' hP hQ=>?_,λh' tk hk=>?_⟩
 .have e:(bs.map Value.bool)[i]? =some v:=by rw[<-eits];simpa using hP
  rw[jq]at e;cases z:bs[i]? with
  |none=>rw[z]at e;cases e
  | some b=>
   rw[z]at e;have e':v=Value.bool b:=(jl e).symm;subst e';refine kl ?_;have:bs.getD i false=b:=by rw[jn,z];rfl
   dsimp only at hQ;rw[this]at hQ;exact hQ
 .have len:its.toArray.size=bs.length:=by rw[eits];simp
  refine⟨.bl (bs.all id),H,I.kept (t':=tk) λb o e=>hk b o (λz=>?_) (je _ e),?_,q⟩
  .have:=jd e;rw[List.mem_singleton.mp z]at this;exact xn _ this
  .show Value.bool _=Value.bool _;rw[len,iE bs id];intro i x e;rw[jn,e];rfl
mutual
inductive DV(K:am)(H:Hp):V->PyData->Prop
 |non:DV K H .non .none
 |bl (b:Bool):DV K H (.bl b) (.bool b)
 |int (i:Int):DV K H (.int i) (.int i)
 |str (x:Str):DV K H (.str x) (.str x)
 |lst {a:Addr} {xs:List V} {ds:List PyData}:SqL K H a xs->DVs K H xs ds->DV K H (.ref a) (.list ds)
 |tup {a:Addr} {xs:List V} {ds:List PyData}:SqT K H a xs->DVs K H xs ds->DV K H (.ref a) (.tuple ds)
inductive DVs(K:am)(H:Hp):List V->List PyData->Prop
 |nil:DVs K H [] []
 |cons {x:V} {xs:List V} {d:PyData} {ds:List PyData}:DV K H x d->DVs K H xs ds->DVs K H (x::xs) (d::ds)
end
mutual
theorem qU{z5:Z3}{J:St}{H:Hp}{s:Shared}(I:Inv X z5 J H s):∀{x:V} {d:PyData} {u:Value},DV X.K H x d->RelV x u->∃as,Reads s.heap u d as
 |_,_,u,.non,r=>by cases(show u=Value.none from r);exact⟨_,.none⟩
 |_,_,u,.bl b,r=>by cases(show u=Value.bool b from r);exact⟨_,.bool b⟩
 |_,_,u,.int i,r=>by let⟨t,e⟩:=(show∃t,u=Value.int i t from r);cases e;exact⟨_,.int i t⟩
 |_,_,u,.str x,r=>by let⟨t,e⟩:=(show∃t,u=Value.str x t from r);cases e;exact⟨_,.str x t⟩
 | _,_,u,.lst (a:=a) hq hs,r=>by cases(show u=Value.ref a from r);let⟨its,rv,pl,_⟩:=I.list hq;obtain⟨o,e,c,n,dd⟩:=pl.isList;let⟨as,q⟩:=Ar I hs rv;exact⟨_,reads_list_at e c dd (by simpa using q)⟩
 | _,_,u,.tup (a:=a) hq hs,r=>by cases(show u=Value.ref a from r);let⟨its,rv,pl,_⟩:=I.tuple hq;obtain⟨o,e,c,n,dd⟩:=pl;let⟨as,q⟩:=Ar I hs rv;exact⟨_,reads_tuple_at e c dd (by simpa using q)⟩
theorem Ar{z5:Z3}{J:St}{H:Hp}{s:Shared}(I:Inv X z5 J H s):∀{xs:List V} {ds:List PyData} {us:Ze},DVs X.K H xs ds->Vals xs us->∃as,ReadsAll s.heap us ds as
 |_,_,_,.nil,.nil=>⟨_,.nil⟩
 | _,_,_,.cons h t,.cons r rs=>by let⟨as,q⟩:=qU I h r;let⟨bs,p⟩:=Ar I t rs;exact⟨_,.cons q p⟩
end
def sj(K:am):R2:=λx y H Q=>∃d e,DV K H x d/\DV K H y e/\SeqAt.shaped d=true/\SeqAt.shaped e=true/\Q (.bl (PyData.eqv d e)) H
def rZ(K:am):R2:=λx y H Q=>∃d e,DV K H x d/\DV K H y e/\SeqAt.shaped d=true/\SeqAt.shaped e=true/\Q (.bl (!PyData.eqv d e)) H
def gp{K:am}(hK:X.K=K)(hu:X.A.units+64<cLine):OpR X (compareOp .Eq) (sj K):=by subst hK;intro z5 s J H x y v u Q I rx ry h;obtain⟨d,e,hd,he,sd,se,q⟩:=h;let⟨as,ra⟩:=qU I hd rx;let⟨bs,rb⟩:=qU I he ry;exact eq_dataH ra rb sd se hu ⟨.bl _,H,I,rfl,q⟩
def uj{K:am}(hK:X.K=K)(hu:X.A.units+64<cLine):OpR X (compareOp .NotEq) (rZ K):=by subst hK;intro z5 s J H x y v u Q I rx ry h;obtain⟨d,e,hd,he,sd,se,q⟩:=h;let⟨as,ra⟩:=qU I hd rx;let⟨bs,rb⟩:=qU I he ry;exact ne_dataH ra rb sd se hu ⟨.bl _,H,I,rfl,q⟩
structure MkN(K:am)(C:Addr):Prop where
 makes:PySem.W.makesIn K C=true
 init:PySem.W.findIn K (.ref C) "__init__"=some (some (.builtin "object.__init__"))
 kp:PySem.W.keepIn K (.ref C)=true
def EE(C:Addr):TE:=λ_ H Q=>∀x dx,H x=none->H dx=none->dx≠x->Q (.ref x) (aN (aN H dx (.own x)) x (.ins C dx []))
def qh7{C:Addr}{z5:Z3}{J:St}{H:Hp}{s:Shared}{Q:VK}(ρ:MkN X.K C)(I:Inv X z5 J H s)
 (h:∀x dx,H x=none->H dx=none->dx≠x->Q (.ref x) (aN (aN H dx (.own x)) x (.ins C dx []))):wpAny (model X.prog X.w) X.A (call (.ref C) []) (EP X z5 J Q) X.xe s:=by
 have hq:=h (s.heap.objs.size+1) s.heap.objs.size (I.hok.fresh (Nat.le_succ _)) (I.hok.fresh (jg _)) (jo (Nat.lt_succ_self _));have I2:=Inv.made (C:=C) I;refine wpAny_call (qig I.kIn ρ.makes ρ.init (λself=>PySem.W.Looks.of_pure (PySem.W.oi_bind self)) ?_);have Y:=PySem.W.makes_of (M:=model X.prog X.w) I.kIn ρ.makes;have g1:((s.heap.push PySem.W.emptyDict).push (PySem.W.instObj C s.heap.objs.size)).get? (s.heap.objs.size+1)=some (PySem.W.instObj C s.heap.objs.size):=by
  have z:=ju (o:=PySem.W.instObj C s.heap.objs.size) (s.heap.push PySem.W.emptyDict) rfl
  rwa [xx]at z
 have t1:PySem.W.Looks (model X.prog X.w) ((s.heap.push PySem.W.emptyDict).push (PySem.W.instObj C s.heap.objs.size)) (typeOf (.ref (s.heap.objs.size+1))) (.ref C):=(PySem.W.Looks.ld g1).andThen .now;have t2:PySem.W.Looks (model X.prog X.w) ((s.heap.push PySem.W.emptyDict).push (PySem.W.instObj C s.heap.objs.size)) (isInstance (.ref (s.heap.objs.size+1)) (.type "object")) true:=
  t1.andThen (Y.top.keeps λb o e=>je _ (je _ e))
 refine codeAny_call_builtin PySem.W.oi_plain PySem.W.entry_oi (PySem.W.check_slot PySem.W.oi_kind PySem.W.oi_split t2 (PySem.W.oi_args _) ?_);rw[PySem.W.oi_run];exact jc ⟨rfl,⟨.ref (s.heap.objs.size+1),_,I2,rfl,hq⟩⟩
def qky{C:Addr}{x:Str}{p pos:Pos}(ρ:MkN X.K C)(hg:Gl X x)(hm:X.mg x=some (.ref C))(hdb:(x==("__debug__":Str))=false:=by decide):PE X (.Call (.Name x p) [] [] pos) (EE C):=by intro z5 s J H Q I h;refine xu (pj I hg hm ?_ hdb);exact PySem.W.callWith_K0 I.kIn ρ.kp (qh7 ρ I h)
end
def seqIs(b:Bool)(h:Heap)(l:Addr)(xs:Zd):Prop:=match b with
 |true=>h.IsList l xs
 |false=>h.IsTuple l xs
def iterIs(b:Bool)(h:Heap)(i l:Addr)(k:Nat):Prop:=match b with
 |true=>h.IsListIter i l k
 |false=>h.IsTupleIter i l k
noncomputable def mZ(b:Bool)(l:Addr):Obj:={cls:=.type (if b then "list_iterator" else "tuple_iterator"),data:=.fields #[.ref l,.int 0 0]}
def seqIs.at_{b:Bool}{h h':Heap}{l:Addr}{xs:Zd}(q:seqIs b h l xs)(e:∀o,h.get? l=some o->h'.get? l=some o):seqIs b h' l xs:=by
 cases b
 .let⟨o,z,r⟩:=(show h.IsTuple l xs from q);exact(show h'.IsTuple l xs from⟨o,e o z,r⟩)
 .let⟨o,z,r⟩:=(show h.IsList l xs from q);exact(show h'.IsList l xs from⟨o,e o z,r⟩)
def iterIs.at_{b:Bool}{h h':Heap}{i l:Addr}{k:Nat}(q:iterIs b h i l k)(e:∀o,h.get? i=some o->h'.get? i=some o):iterIs b h' i l k:=by
 cases b
 .let⟨o,z,r⟩:=(show h.IsTupleIter i l k from q);exact(show h'.IsTupleIter i l k from⟨o,e o z,r⟩)
 .let⟨o,z,r⟩:=(show h.IsListIter i l k from q);exact(show h'.IsListIter i l k from⟨o,e o z,r⟩)
def iterIs.obj{b:Bool}{h:Heap}{i l:Addr}{k:Nat}(q:iterIs b h i l k):∃o,h.get? i=some o/\∀v,o.data≠.cell v:=by
 cases b
 .let⟨o,z,_,d⟩:=(show h.IsTupleIter i l k from q);exact⟨o,z,λv e=>by rw[d]at e;cases e⟩
 .let⟨o,z,_,d⟩:=(show h.IsListIter i l k from q);exact⟨o,z,λv e=>by rw[d]at e;cases e⟩
def iterIs.mk_{b:Bool}{h:Heap}{i l:Addr}(q:h.get? i=some (mZ b l)):iterIs b h i l 0:=by
 cases b
 .exact(show h.IsTupleIter i l 0 from⟨_,q,rfl,rfl⟩)
 .exact(show h.IsListIter i l 0 from⟨_,q,rfl,rfl⟩)
section
variable{prog:Program}{w:World}{A:Around}{E:Z0}{s:Shared}
def Hj{b:Bool}{l:Addr}{xs:Zd}{Q:Z0}(q:seqIs b s.heap l xs)(h:Q (.ref s.heap.objs.size) {s with heap:=s.heap.push (mZ b l)}):wpAny (model prog w) A (pyIter (.ref l)) Q E s:=by
 cases b
 .exact wpAny_pyIter_tuple (show s.heap.IsTuple l xs from q) h
 .exact wpAny_pyIter_list (show s.heap.IsList l xs from q) h
def qaf{i l:Addr}{k:Nat}{xs:Zd}{x:Value}{Q:Z0}(st:s.heap.IsTupleIter i l k)(tp:s.heap.IsTuple l xs)(e:xs[k]? =some x)
 (h:∀h',h'.IsTupleIter i l (k+1)->Heap.SameBut i s.heap h'->Q x {s with heap:=h'}):wpAny (model prog w) A (Builtin.SmallTypes.nextOf (.ref i)) Q E s:=by
 let⟨oi,gi,ci,di⟩:=id st;obtain⟨ot,gt,_,nt,dt⟩:=tp;unfold Builtin.SmallTypes.nextOf;refine ja (va (name:=Str.ofString "__next__") st.typeIs vz (kh vz st.typeIs F.entry_tuple_iterator_next ?_ (F.args_tuple_iterator_next_1 _)));show wpAny _ _ (field (.ref i) 0 >>= _) _ _ s;refine ja (xg gi di (x:=.ref l) rfl ?_);show wpAny _ _ (if(Value.ref l==Value.none)=true then _ else _) _ _ s;rw[if_neg (by exact Bool.false_ne_true:¬((Value.ref l==Value.none)=true))];show wpAny _ _ (field (.ref i) 1 >>= _) _ _ s;refine ja (xg gi di (x:=.int k 0) rfl ?_);show wpAny _ _ (seqItems? (.ref l) >>= _) _ _ s;refine ja (k9 gt dt ?_);simp only[Int.toNat_natCast,e];refine ja (ve gi di (by simp) (jc ⟨x,rfl,jc (h _ ?_ (vf ..))⟩));refine⟨_,vc _ gi (Obj.isFreed_of_fields (vg di _)),(Obj.cls_mapFields ..).trans ci,?_⟩;rw[vg di];simp[rawInt]
def q6d{i l:Addr}{k:Nat}{xs:Zd}{Q:Z0}(hh:A.handled=none)(st:s.heap.IsTupleIter i l k)(tp:s.heap.IsTuple l xs)(e:xs[k]? =none)
 (h:∀h' x,Heap.ExtBut i s.heap h'->(∃o,h'.get? x=some o/\o.cls=.type "StopIteration")->E (.ref x) {s with heap:=h'}):wpAny (model prog w) A (Builtin.SmallTypes.nextOf (.ref i)) Q E s:=by
 let⟨oi,gi,ci,di⟩:=id st;obtain⟨ot,gt,_,nt,dt⟩:=tp;unfold Builtin.SmallTypes.nextOf;refine ja (va (name:=Str.ofString "__next__") st.typeIs vz (kh vz st.typeIs F.entry_tuple_iterator_next ?_ (F.args_tuple_iterator_next_1 _)));show wpAny _ _ (field (.ref i) 0 >>= _) _ _ s;refine ja (xg gi di (x:=.ref l) rfl ?_);show wpAny _ _ (if(Value.ref l==Value.none)=true then _ else _) _ _ s;rw[if_neg (by exact Bool.false_ne_true:¬((Value.ref l==Value.none)=true))];show wpAny _ _ (field (.ref i) 1 >>= _) _ _ s;refine ja (xg gi di (x:=.int k 0) rfl ?_);show wpAny _ _ (seqItems? (.ref l) >>= _) _ _ s;refine ja (k9 gt dt ?_);simp only[Int.toNat_natCast,e];refine ja (wpAny_rule (ja (ve gi di (by simp) ?_)));show wpAny _ _ (newExc (.type "StopIteration") [] >>= _) _ _ _;refine ja ?_;simp only[newExc,newTuple];refine ja (kf ?_ (by size_fits));refine ja (m:=firstArgMember _ _) (wpAny_of_eq (a:=Value.none) (by first|rfl|(simp only[firstArgMember]<;>rfl)) ?_);refine kf ?_ (by size_fits);simp only[raiseNew];refine ja (wpAny_handled ?_)
 first|rw[(hh:A.in1.handled=none)]|rw[hh]
 refine ja (jc (wpAny_throw ?_));exact h _ _ (((vf ..).extBut.push _).push _) ⟨_,ju _ rfl,rfl⟩
def An{b:Bool}{i l:Addr}{k:Nat}{xs:Zd}{x:Value}{Q:Z0}(st:iterIs b s.heap i l k)(tp:seqIs b s.heap l xs)(e:xs[k]? =some x)
 (h:∀h',iterIs b h' i l (k+1)->Heap.SameBut i s.heap h'->Q x {s with heap:=h'}):wpAny (model prog w) A (Builtin.SmallTypes.nextOf (.ref i)) Q E s:=by
 cases b
 .exact qaf st tp e h
 .exact wpAny_nextOf_list_item st tp e h
def HC{b:Bool}{i l:Addr}{k:Nat}{xs:Zd}{Q:Z0}(hh:A.handled=none)(st:iterIs b s.heap i l k)(tp:seqIs b s.heap l xs)(e:xs[k]? =none)
 (h:∀h' x,Heap.ExtBut i s.heap h'->(∃o,h'.get? x=some o/\o.cls=.type "StopIteration")->E (.ref x) {s with heap:=h'}):wpAny (model prog w) A (Builtin.SmallTypes.nextOf (.ref i)) Q E s:=by
 cases b
 .exact q6d hh st tp e h
 .exact wpAny_nextOf_list_end hh st tp e h
def qk2{z TI TO i1 i2 l1 l2:Addr}{b1 b2:Bool}{k1 k2:Nat}{xs ys:Zd}{x y a b:Value}{Q:Option Value->Shared->Prop}(D:ZipApart z TI TO i1 i2 l1 l2)
 (hz:IsZip s.heap z TI TO .none) (hTI:IsPair s.heap TI (.ref i1) (.ref i2)) (hTO:IsPair s.heap TO a b) (h1:iterIs b1 s.heap i1 l1 k1) (h2:iterIs b2 s.heap i2 l2 k2) (q1:seqIs b1 s.heap l1 xs) (q2:seqIs b2 s.heap l2 ys) (hx:xs[k1]? =some x) (hy:ys[k2]? =some y)
 (hQ:∀h',IsZip h' z TI TO (rawInt s.heap.objs.size)->IsPair h' TO x y->iterIs b1 h' i1 l1 (k1+1)->iterIs b2 h' i2 l2 (k2+1)->IsPair h' s.heap.objs.size x y->
   (∀c o,c≠z->c≠TO->c≠i1->c≠i2->s.heap.get? c=some o->h'.get? c=some o)->Q (some (.ref s.heap.objs.size)) {s with heap:=h'}):wpAny (model prog w) A (pyNext (.ref z)) Q E s:=by
 have ty:s.TypeIs (.ref z) "zip":=⟨_,hz,rfl⟩;unfold pyNext;refine ja (wpAny_attempt (va (name:=Str.ofString "__next__") ty F.slot_zip_next (kh F.slot_zip_next ty F.entry_zip_next ?_ (F.args_zip_next_1 _))));show wpAny _ _ (field (.ref z) 2 >>= _) _ _ _;refine ja (xg hz rfl (x:=.bool false) rfl ?_);show wpAny _ _ (field (.ref z) 3 >>= _) _ _ _;refine ja (xg hz rfl (x:=.ref TI) rfl (ja (k9 hTI rfl ?_)));show wpAny _ _ (Builtin.SmallTypes.ownedTupleIsFree (.ref z) >>= _) _ _ _;refine ja ?_;unfold Builtin.SmallTypes.ownedTupleIsFree;refine ja (xg hz rfl (x:=.none) rfl (jc ?_));simp only[if_true];refine ja (wpAny_rule (ja (xg hz rfl (x:=.ref TO) rfl (ja (vq hz (by simp) λg1 z1 s1=>?_)))));have Z1:IsZip g1 z TI TO .ellipsis:=z1;refine ja ?_;simp only[List.zipIdx_cons,List.zipIdx_nil,List.forIn_cons,List.forIn_nil];refine ja (ja (wpAny_onRaise ?_));show wpAny _ _ (Builtin.SmallTypes.nextOf (.ref i1) >>= _) _ _ _;refine ja (An (h1.at_ λo e=>s1.extBut _ o D.i1z e) (q1.at_ λo e=>s1.extBut _ o D.l1z e) hx λg2 n2 s2=>jc ?_);have P2:IsPair g2 TO a b:=s2.extBut _ _ D.TOi1 (s1.extBut _ _ D.TOz hTO);refine ja (k9 P2 rfl (ja (wpAny_updateSeq_pair P2 λg3 p3 s3=>ja (wpAny_letGo (jc ?_)))));have P3:IsPair g3 TO x b:=p3;refine ja (ja (wpAny_onRaise ?_));show wpAny _ _ (Builtin.SmallTypes.nextOf (.ref i2) >>= _) _ _ _;refine ja (An (h2.at_ λo e=>s3.extBut _ o D.TOi2.symm (s2.extBut _ o D.i12.symm (s1.extBut _ o D.i2z e))) (q2.at_ λo e=>s3.extBut _ o D.l2TO (s2.extBut _ o D.l2i1 (s1.extBut _ o D.l2z e))) hy λg4 n4 s4=>jc ?_);have P4:IsPair g4 TO x b:=s4.extBut _ _ D.TOi2 P3;refine ja (k9 P4 rfl (ja (wpAny_updateSeq_pair P4 λg5 p5 s5=>ja (wpAny_letGo (jc (jc ?_))))));have P5:IsPair g5 TO x y:=p5;refine ja (k9 P5 rfl (ja (wpAny_newTuple ?_)));have sz:g5.objs.size=s.heap.objs.size:=by rw[s5.1,s4.1,s3.1,s2.1,s1.1]
 have Z5:IsZip g5 z TI TO .ellipsis:=s5.extBut _ _ D.TOz.symm (s4.extBut _ _ D.i2z.symm (s3.extBut _ _ D.TOz.symm (s2.extBut _ _ D.i1z.symm Z1)));have K5:∀c o,c≠z->c≠TO->c≠i1->c≠i2->s.heap.get? c=some o->g5.get? c=some o:=λc o c1 c2 c3 c4 e=>s5.extBut _ _ c2 (s4.extBut _ _ c4 (s3.extBut _ _ c2 (s2.extBut _ _ c3 (s1.extBut _ _ c1 e))));have N1:iterIs b1 g5 i1 l1 (k1+1):=n2.at_ λo e=>s5.extBut _ o D.TOi1.symm (s4.extBut _ o D.i12 (s3.extBut _ o D.TOi1.symm e));have N2:iterIs b2 g5 i2 l2 (k2+1):=n4.at_ λo e=>s5.extBut _ o D.TOi2.symm e;have zlt:z<g5.objs.size:=jd Z5;show wpAny _ _ (Builtin.SmallTypes.ownedTupleHandOut (.ref z) (.ref g5.objs.size) >>= _) _ _ _;refine ja ?_;unfold Builtin.SmallTypes.ownedTupleHandOut;have Z6:IsZip (g5.push {cls:=.type "tuple",data:=.seq #[x,y]}) z TI TO .ellipsis:=je _ Z5;refine ja (vq Z6 (by simp) λg7 z7 s7=>?_);have Z7:IsZip g7 z TI TO (rawInt g5.objs.size):=z7;refine vq Z7 (by simp) λg8 z8 s8=>?_;have Z8:IsZip g8 z TI TO (rawInt g5.objs.size):=z8;have up:∀c o,c≠z->g5.get? c=some o->g8.get? c=some o:=λc o c1 e=>s8.extBut _ _ c1 (s7.extBut _ _ c1 (je _ e));have T8:IsPair g8 g5.objs.size x y:=s8.extBut _ _ (Nat.ne_of_gt zlt) (s7.extBut _ _ (Nat.ne_of_gt zlt) (ju _ rfl));rw[sz]at Z8 T8;refine jc ⟨_,rfl,jc ?_⟩;show Q (some (.ref g5.objs.size)) _;rw[sz];exact hQ g8 Z8 (up _ _ D.TOz P5) (N1.at_ λo e=>up _ o D.i1z e) (N2.at_ λo e=>up _ o D.i2z e) T8 λc o c1 c2 c3 c4 e=>up c o c1 (K5 c o c1 c2 c3 c4 e)
def qoy{z TI TO i1 i2 l1 l2:Addr}{b1 b2:Bool}{k1 k2:Nat}{xs ys:Zd}{a b:Value}{Q:Option Value->Shared->Prop}(hh:A.handled=none)(D:ZipApart z TI TO i1 i2 l1 l2)
 (hz:IsZip s.heap z TI TO .none) (hTI:IsPair s.heap TI (.ref i1) (.ref i2)) (hTO:IsPair s.heap TO a b) (h1:iterIs b1 s.heap i1 l1 k1) (h2:iterIs b2 s.heap i2 l2 k2) (q1:seqIs b1 s.heap l1 xs) (q2:seqIs b2 s.heap l2 ys) (hend:xs[k1]? =none∨ys[k2]? =none)
 (hQ:∀h',(∀c o,c≠z->c≠TO->c≠i1->c≠i2->s.heap.get? c=some o->h'.get? c=some o)->Q none {s with heap:=h'}):wpAny (model prog w) A (pyNext (.ref z)) Q E s:=by
 have ty:s.TypeIs (.ref z) "zip":=⟨_,hz,rfl⟩;have fin:∀(h':Heap) (e:Addr),(∀c o,c≠z->c≠TO->c≠i1->c≠i2->s.heap.get? c=some o->h'.get? c=some o)->(∃o,h'.get? e=some o/\o.cls=.type "StopIteration")->
  wpAny (model prog w) A (isInstance (.ref e) (.type "StopIteration") >>= λr=>if r=true then pure none else throw (.ref e)) Q E {s with heap:=h'}:=λh' e hk ⟨o,ho,hc⟩=>
  ja (wpAny_isInstance (T:="StopIteration") (b:=true) ⟨o,ho,hc⟩ isSubtype_stop (jc (hQ _ hk)))
 unfold pyNext;refine ja (wpAny_attempt (va (name:=Str.ofString "__next__") ty F.slot_zip_next (kh F.slot_zip_next ty F.entry_zip_next ?_ (F.args_zip_next_1 _))));show wpAny _ _ (field (.ref z) 2 >>= _) _ _ _;refine ja (xg hz rfl (x:=.bool false) rfl ?_);show wpAny _ _ (field (.ref z) 3 >>= _) _ _ _;refine ja (xg hz rfl (x:=.ref TI) rfl (ja (k9 hTI rfl ?_)));show wpAny _ _ (Builtin.SmallTypes.ownedTupleIsFree (.ref z) >>= _) _ _ _;refine ja ?_;unfold Builtin.SmallTypes.ownedTupleIsFree;refine ja (xg hz rfl (x:=.none) rfl (jc ?_));simp only[if_true];refine ja (wpAny_rule (ja (xg hz rfl (x:=.ref TO) rfl (ja (vq hz (by simp) λg1 z1 s1=>?_)))));have Z1:IsZip g1 z TI TO .ellipsis:=z1;refine ja ?_;simp only[List.zipIdx_cons,List.zipIdx_nil,List.forIn_cons,List.forIn_nil];refine ja (ja (wpAny_onRaise ?_));show wpAny _ _ (Builtin.SmallTypes.nextOf (.ref i1) >>= _) _ _ _;have I1:iterIs b1 g1 i1 l1 k1:=h1.at_ λo e=>s1.extBut _ o D.i1z e;have L1:seqIs b1 g1 l1 xs:=q1.at_ λo e=>s1.extBut _ o D.l1z e;cases ex:xs[k1]? with
 | none=>
  refine ja (HC hh I1 L1 ex λg2 e s2 he=>?_);obtain⟨oe,he,ce⟩:=he;have Z2:IsZip g2 z TI TO .ellipsis:=s2 _ _ D.i1z.symm Z1;have nez:e≠z:=λq=>by subst q;rw[Z2]at he;cases he;simp at ce
  exact vq Z2 (by simp) λg3 _ s3=>fin g3 e (λc o c1 _ c3 _ q=>s3.extBut _ _ c1 (s2 _ _ c3 (s1.extBut _ _ c1 q))) ⟨oe,s3.extBut _ _ nez he,ce⟩
 | some x=>
  have ey:ys[k2]? =none:=by
   rcases hend with q|q
   .rw[ex]at q;cases q
   .exact q
  refine ja (An I1 L1 ex λg2 n2 s2=>jc ?_);have P2:IsPair g2 TO a b:=s2.extBut _ _ D.TOi1 (s1.extBut _ _ D.TOz hTO);refine ja (k9 P2 rfl (ja (wpAny_updateSeq_pair P2 λg3 p3 s3=>ja (wpAny_letGo (jc ?_)))));refine ja (ja (wpAny_onRaise ?_));show wpAny _ _ (Builtin.SmallTypes.nextOf (.ref i2) >>= _) _ _ _;refine ja (HC hh (h2.at_ λo e=>s3.extBut _ o D.TOi2.symm (s2.extBut _ o D.i12.symm (s1.extBut _ o D.i2z e))) (q2.at_ λo e=>s3.extBut _ o D.l2TO (s2.extBut _ o D.l2i1 (s1.extBut _ o D.l2z e))) ey λg4 e s4 he=>?_);obtain⟨oe,he,ce⟩:=he;have Z4:IsZip g4 z TI TO .ellipsis:=s4 _ _ D.i2z.symm (s3.extBut _ _ D.TOz.symm (s2.extBut _ _ D.i1z.symm Z1));have nez:e≠z:=λq=>by subst q;rw[Z4]at he;cases he;simp at ce
  exact vq Z4 (by simp) λg5 _ s5=>fin g5 e (λc o c1 c2 c3 c4 q=>s5.extBut _ _ c1 (s4 _ _ c4 (s3.extBut _ _ c2 (s2.extBut _ _ c3 (s1.extBut _ _ c1 q))))) ⟨oe,s5.extBut _ _ nez he,ce⟩
abbrev sW(b1:Bool)(h:Heap)(l1:Addr):Heap:=h.push (mZ b1 l1)
abbrev sV(b1 b2:Bool)(h:Heap)(l1 l2:Addr):Heap:=(sW b1 h l1).push (mZ b2 l2)
abbrev sU(b1 b2:Bool)(h:Heap)(l1 l2:Addr):Heap:=(sV b1 b2 h l1 l2).push {cls:=.type "tuple",data:=.seq #[.ref h.objs.size,.ref (sW b1 h l1).objs.size]}
abbrev sT(b1 b2:Bool)(h:Heap)(l1 l2:Addr):Heap:=(sU b1 b2 h l1 l2).push {cls:=.type "tuple",data:=.seq #[.none,.none]}
abbrev oG(b1 b2:Bool)(h:Heap)(l1 l2:Addr):Heap:=(sT b1 b2 h l1 l2).push {cls:=.type "zip",data:=.fields #[.none,.bool false,.bool false,.ref (sV b1 b2 h l1 l2).objs.size,.ref (sU b1 b2 h l1 l2).objs.size]}
def qox(b1 b2:Bool)(l1 l2:Addr)(xs ys:Zd):Meets (Builtin.«zip.__new__» ⟨[.type "zip",.ref l1,.ref l2],[]⟩) (λ_ R s=>seqIs b1 s.heap l1 xs/\seqIs b2 s.heap l2 ys/\
 R (.ok (.ret (.ref (sT b1 b2 s.heap l1 l2).objs.size))) {s with heap:=oG b1 b2 s.heap l1 l2}):=by
 refine .of_wp λprog w A R s q=>?_;obtain⟨hp,g,d,tk,os⟩:=s;obtain⟨q1,q2,q⟩:=q;have sub:=sub_zip;have L1:seqIs b1 (Shared.heap ⟨hp,g,d,tk,os⟩) l1 xs:=q1;have L2':seqIs b2 (Shared.heap ⟨hp.push (mZ b1 l1),g,d,tk,os⟩) l2 ys:=q2.at_ λo z=>je _ z
 wp_walk using Hj L1,Hj L2'
 exact⟨_,rfl,q⟩
def qmq{b1 b2:Bool}{l1 l2:Addr}{xs ys:Zd}{Q:Z0}(q1:seqIs b1 s.heap l1 xs)(q2:seqIs b2 s.heap l2 ys)
 (h:∀h',IsZip h' (s.heap.objs.size+4) (s.heap.objs.size+2) (s.heap.objs.size+3) .none->IsPair h' (s.heap.objs.size+2) (.ref s.heap.objs.size) (.ref (s.heap.objs.size+1))->IsPair h' (s.heap.objs.size+3) .none .none->
   iterIs b1 h' s.heap.objs.size l1 0->iterIs b2 h' (s.heap.objs.size+1) l2 0->(∀c o,s.heap.get? c=some o->h'.get? c=some o)->Q (.ref (s.heap.objs.size+4)) {s with heap:=h'}):
 wpAny (model prog w) A (call (.type "zip") [.ref l1,.ref l2]) Q E s:=by
 refine callType_new F.called_zip (by decide) (F.typeCall_zip_2 _ _) (F.newCall_zip_2 _ _) (λobj=>F.args_object_init_3 obj _ _) F.entry_zip_new (qox b1 b2 l1 l2 xs ys) ⟨q1,q2,?_⟩;have y1:(sW b1 s.heap l1).objs.size=s.heap.objs.size+1:=xx ..;have y2:(sV b1 b2 s.heap l1 l2).objs.size=s.heap.objs.size+2:=by rw[xx,y1]
 have y3:(sU b1 b2 s.heap l1 l2).objs.size=s.heap.objs.size+3:=by rw[xx,y2]
 have y4:(sT b1 b2 s.heap l1 l2).objs.size=s.heap.objs.size+4:=by rw[xx,y3]
 have k5:(oG b1 b2 s.heap l1 l2).get? (sT b1 b2 s.heap l1 l2).objs.size=some _:=ju _ rfl;have k4:(oG b1 b2 s.heap l1 l2).get? (sU b1 b2 s.heap l1 l2).objs.size=some _:=je _ (ju _ rfl);have k3:(oG b1 b2 s.heap l1 l2).get? (sV b1 b2 s.heap l1 l2).objs.size=some _:=je _ (je _ (ju _ rfl));have k2:(oG b1 b2 s.heap l1 l2).get? (sW b1 s.heap l1).objs.size=some (mZ b2 l2):=je _ (je _ (je _ (ju _ (by cases b2<;>rfl))));have k1:(oG b1 b2 s.heap l1 l2).get? s.heap.objs.size=some (mZ b1 l1):=je _ (je _ (je _ (je _ (ju _ (by cases b1<;>rfl)))));show _/\_;rw[y2,y3,y4]at k5;rw[y1,y2]at k3;rw[y3]at k4;rw[y1]at k2;rw[y4];exact⟨⟨_,k5,rfl⟩,h _ k5 k3 k4 (iterIs.mk_ k1) (iterIs.mk_ k2) λc o x=>je _ (je _ (je _ (je _ (je _ x))))⟩
end
def SqB(K:am)(b:Bool)(H:Hp)(p:Addr)(xs:List V):Prop:=match b with
 |true=>SqL K H p xs
 |false=>SqT K H p xs
section
variable{X:Cx}{z5:Z3}{J:St}{H:Hp}{s:Shared}{b b1 b2:Bool}{p p1 p2:Addr}{xs ys:List V}
def Inv.seqB(I:Inv X z5 J H s)(h:SqB X.K b H p xs):∃its:List Value,Vals xs its/\seqIs b s.heap p its.toArray/\xs.length<=sizeLine:=by
 cases b
 .let⟨its,r,q,hz⟩:=I.tuple (show SqT X.K H p xs from h);exact⟨its,r,(show s.heap.IsTuple p its.toArray from q),hz⟩
 .let⟨its,r,q,hz⟩:=I.list (show SqL X.K H p xs from h);exact⟨its,r,(show s.heap.IsList p its.toArray from q.isList),hz⟩
def Inv.seqB_inj(I:Inv X z5 J H s)(h:SqB X.K b H p xs)(h':SqB X.K b H p ys):xs=ys:=by
 cases b
 .exact I.tuple_inj h h'
 .exact I.list_inj h h'
end
def Ay(K:am)(b1 b2:Bool)(p1 p2:Addr):It:=
 ⟨λi H=>∃xs ys x y,SqB K b1 H p1 xs/\SqB K b2 H p2 ys/\xs[i]? =some x/\ys[i]? =some y,
  λi H v H'=>∃T x y,v=.ref T/\H T=none/\H'=aN H T (.tup [x,y])/\(∀xs,SqB K b1 H p1 xs->xs[i]? =some x)/\∀ys,SqB K b2 H p2 ys->ys[i]? =some y,
  λi H=>∃xs ys,SqB K b1 H p1 xs/\SqB K b2 H p2 ys/\(xs.length<=i∨ys.length<=i)⟩
def qxw(b1 b2:Bool)(p1 p2 z TI TO i1 i2:Addr)(i:Nat)(h:Heap):Prop:=IsZip h z TI TO .none/\IsPair h TI (.ref i1) (.ref i2)/\(∃a b,IsPair h TO a b)/\iterIs b1 h i1 p1 i/\iterIs b2 h i2 p2 i
def qkd{P:Program}{w:World}{K:am}{zr:Zi}{x1:Nat}{pos:Pos}(b1 b2:Bool){p1 p2 z TI TO i1 i2:Addr}(D:ZipApart z TI TO i1 i2 p1 p2):
 Turn P w K (.Tuple zr x1 pos) (Ay K b1 b2 p1 p2) [z,TI,TO,i1,i2] z (qxw b1 b2 p1 p2 z TI TO i1 i2) where
 mem:=by simp
 obj:=λi h st c hc=>by
  obtain⟨hz,hI,⟨a,b,hO⟩,j1,j2⟩:=st;simp only[List.mem_cons,List.not_mem_nil,or_false]at hc;rcases hc with rfl|rfl|rfl|rfl|rfl
  .exact⟨_,hz,λv e=>by cases e⟩
  .exact⟨_,hI,λv e=>by cases e⟩
  .exact⟨_,hO,λv e=>by cases e⟩
  .exact j1.obj
  .exact j2.obj
 keep:=λi h h' st k=>by obtain⟨hz,hI,⟨a,b,hO⟩,j1,j2⟩:=st;exact⟨k z (by simp) _ hz,k TI (by simp) _ hI,⟨a,b,k TO (by simp) _ hO⟩,j1.at_ λo e=>k i1 (by simp) o e,j2.at_ λo e=>k i2 (by simp) o e⟩
 item:=by
  intro X hP hw hK hc i z5 s J H E I hf st hg;subst hP hw hK;obtain⟨xs,ys,x,y,q1,q2,ex,ey⟩:=hg;let⟨it1,r1,t1,_⟩:=I.seqB q1;let⟨it2,r2,t2,_⟩:=I.seqB q2;let⟨u,eu,ru⟩:=r1.get ex;let⟨v,ev,rv⟩:=r2.get ey;obtain⟨hz,hI,⟨a,b,hO⟩,j1,j2⟩:=st;refine qk2 D hz hI hO j1 j2 t1 t2 (x:=u) (y:=v) (by simpa using eu) (by simpa using ev) λh' z' o' n1 n2 tp kk=>?_;refine⟨_,rfl,?_⟩;refine wpAny_letOwnedTupleGo_zip z' λh'' z'' s''=>?_;have fresh:H s.heap.objs.size=none:=I.hok.fresh (jg _);have zne:s.heap.objs.size≠z:=λe=>by have:=jd hz;rw[<-e]at this;exact xn _ this
  have keep:∀c o,c∉[z,TI,TO,i1,i2]->s.heap.get? c=some o->h''.get? c=some o:=λc o hc e=>by simp only[List.mem_cons,List.not_mem_nil,or_false,not_or]at hc;exact s''.extBut c o hc.1 (kk c o hc.1 hc.2.2.1 hc.2.2.2.1 hc.2.2.2.2 e)
  have tp':h''.get? s.heap.objs.size=some {cls:=.type "tuple",data:=.seq #[u,v]}:=s''.extBut _ _ zne tp;have I':Inv X z5 J (aN H s.heap.objs.size (.tup [x,y])) {s with heap:=h'',toks:=s.toks}:=by
   refine I.step (g':=s.gens) (d':=s.drawn) (ch:=[z,TI,TO,i1,i2]) (λc hc=>?_) (λc o _ _ hc e _=>keep c o hc e) (λc o _ _ hc e _=>⟨o.slots,keep c o hc e⟩) (λc o _ e n=>?_) (λc o hc e=>⟨o,keep c o hc e⟩)
    (λc zs e=>?_) (λc o w' e=>?_) (λc ps e=>⟨#[],?_⟩) (λm hm=>?_) (λc o e=>?_) I.bare
   .let⟨_,f1,f2,f3,f4,f5⟩:=hf c hc;exact⟨f3,f1,f4,f5⟩
   .rw[aU (jo (jd e))];exact n
   .rw[aU (fX e fresh)];exact e
   .rw[aU (fX e fresh)];exact e
   .rw[aU (fX e fresh),e];simp
   .obtain⟨o,es,ep,ho,r⟩:=hm;exact⟨o,es,ep,keep _ o (λq=>(hf _ q).2.1 rfl) ho,r⟩
   .by_cases hb:c=s.heap.objs.size
    .subst hb;rw[cr]at e;cases e;exact⟨by show 2<=sizeLine;decide,[u,v],.cons ru (.cons rv .nil),⟨_,tp',⟨rfl,_,rfl⟩,rfl⟩⟩
    .rw[aU hb]at e;refine(I.hok c o e).stay (λd w' hd q=>keep d w' (λm=>?_) q) (λd q=>?_) λd zs q=>?_
     .have n:=(hf d m).1;rcases hd with rfl|hd
      .rw[n]at e;cases e
      .rw[n]at hd;cases hd
     .rw[aU (fX q fresh)];exact q
     .rw[aU (fX q fresh)];exact q
  refine⟨.ref s.heap.objs.size,_,I',rfl,⟨_,x,y,rfl,fresh,rfl,λzs q=>by rw[I.seqB_inj q q1];exact ex,λzs q=>by rw[I.seqB_inj q q2];exact ey⟩,?_,λc hc=>?_⟩
  .refine⟨z'',s''.extBut _ _ D.TIz (kk _ _ D.TIz D.TITO D.TIi1 D.TIi2 hI),⟨u,v,s''.extBut _ _ D.TOz o'⟩,n1.at_ λo e=>s''.extBut _ o D.i1z e,n2.at_ λo e=>s''.extBut _ o D.i2z e⟩
  .have lt:c<s.heap.objs.size:=by
    simp only[List.mem_cons,List.not_mem_nil,or_false]at hc;rcases hc with rfl|rfl|rfl|rfl|rfl
    .exact jd hz
    .exact jd hI
    .exact jd hO
    .obtain⟨o,e,_⟩:=j1.obj;exact jd e
    .obtain⟨o,e,_⟩:=j2.obj;exact jd e
   rw[aU (jo lt)];exact(hf c hc).1
 done:=by
  intro X hP hw hK hc i z5 s J H E I hf st hg;subst hP hw hK;obtain⟨xs,ys,q1,q2,hl⟩:=hg;let⟨it1,r1,t1,_⟩:=I.seqB q1;let⟨it2,r2,t2,_⟩:=I.seqB q2;obtain⟨hz,hI,⟨a,b,hO⟩,j1,j2⟩:=st;have l1:=r1.length;have l2:=r2.length;refine qoy (I.ok.hd hc) D hz hI hO j1 j2 t1 t2 (by rcases hl with h|h;exact .inl (by simp;omega);exact .inr (by simp;omega)) λh' kk=>⟨rfl,?_⟩;have keep:∀c o,c∉[z,TI,TO,i1,i2]->s.heap.get? c=some o->h'.get? c=some o:=λc o hc e=>by simp only[List.mem_cons,List.not_mem_nil,or_false,not_or]at hc;exact kk c o hc.1 hc.2.2.1 hc.2.2.2.1 hc.2.2.2.2 e
  show Inv X z5 J H {s with heap:=h',toks:=s.toks};refine I.step (g':=s.gens) (d':=s.drawn) (ch:=[z,TI,TO,i1,i2]) (λc hc=>?_) (λc o _ _ hc e _=>keep c o hc e) (λc o _ _ hc e _=>⟨o.slots,keep c o hc e⟩) (λc o _ e n=>n) (λc o hc e=>⟨o,keep c o hc e⟩)
   (λc zs e=>e) (λc o w' e=>e) (λc ps e=>⟨#[],by rw[e];simp⟩) (λm hm=>?_) (λc o e=>?_) I.bare
  .let⟨_,f1,f2,f3,f4,f5⟩:=hf c hc;exact⟨f3,f1,f4,f5⟩
  .obtain⟨o,es,ep,ho,r⟩:=hm;exact⟨o,es,ep,keep _ o (λq=>(hf _ q).2.1 rfl) ho,r⟩
  .refine(I.hok c o e).stay (λd w' hd q=>keep d w' (λm=>?_) q) (λd q=>q) λd zs q=>q;have n:=(hf d m).1;rcases hd with rfl|hd
   .rw[n]at e;cases e
   .rw[n]at hd;cases hd
 self:=λ_ _ _ _ _ st h=>wpAny_pyIter_zip st.1 h
section
variable{X:Cx}{a b:Expr}{ta:TA}{p pos:Pos}{zr:Zi}{x1:Nat}{tp:Pos}
def iB(K:am)(b1 b2:Bool)(ta:TA):TI:=λJ H R=>ta J H λvs H1=>∃p1 p2,vs=[.ref p1,.ref p2]/\(∃xs,SqB K b1 H1 p1 xs)/\(∃ys,SqB K b2 H1 p2 ys)/\R (Ay K b1 b2 p1 p2) H1
def um{K:am}(b1 b2:Bool)(hK:X.K=K)(hg:Gl X "zip")(hm:X.mg "zip"=none)(ha:PA X [a,b] ta)(he:starEach [a,b] X.env=(false,eval a X.env)::starEach [b] X.env:=by rfl)(hpl:(backTo pos (starEach [b] X.env)).any (·.1)=false:=by rfl):
 PI X (.Tuple zr x1 tp) (.Call (.Name "zip" p) [a,b] [] pos) (iB K b1 b2 ta):=by
 subst hK;intro z5 s J H R I h;refine xu (ia I hg hm (u:=.type "zip") (by rfl) ?_);refine PyProof.Rows.callWith_type1 (aW (ha pos z5 s J H _ I h) λus s1 h1=>?_) he hpl;obtain⟨vs,H1,I1,r1,p1,p2,rfl,⟨xs,q1⟩,⟨ys,q2⟩,k⟩:=h1;obtain⟨u,w',rfl,ru,rw'⟩:=ff r1;cases(show u=Value.ref p1 from ru);cases(show w'=Value.ref p2 from rw');let⟨it1,r1,t1,_⟩:=I1.seqB q1;let⟨it2,r2,t2,_⟩:=I1.seqB q2;have lt:∀{c:Addr} {b:Bool} {zs:Zd},seqIs b s1.heap c zs->c<s1.heap.objs.size:=λ{c b zs} q=>by
  cases b
  .let⟨o,e,_⟩:=(show s1.heap.IsTuple c zs from q);exact jd e
  .let⟨o,e,_⟩:=(show s1.heap.IsList c zs from q);exact jd e
 refine qmq t1 t2 λh' hz hI hO j1 j2 kk=>wpAny_pyIter_zip hz ?_;have D:=zipApart_new (lt t1) (lt t2);have I2:Inv X z5 J H1 {s1 with heap:=h',toks:=s1.toks}:=I1.kept kk;refine⟨_,_,_,_,H1,rfl,I2,qkd b1 b2 D,⟨hz,hI,⟨_,_,hO⟩,j1,j2⟩,λc hc=>?_,k⟩;have le:s1.heap.objs.size<=c:=by simp only[List.mem_cons,List.not_mem_nil,or_false]at hc;rcases hc with rfl|rfl|rfl|rfl|rfl<;>first|exact jg _|exact Nat.le_add_right _ _
 exact I1.fpOk le (I1.hok.fresh le)
end
section
variable{X:Cx}
theorem Hy:∀(ns:Zf) (k:Nat),k<=ns.length->preSum (λi=>ns.getD i 0) k=(ns.take k).sum
 |ns,0,_=>by simp[preSum]
 | ns,k+1,h=>by
  have hk:k<ns.length:=h;rw[preSum,Hy ns k (Nat.le_of_lt hk),List.take_add_one,ji hk,List.sum_append];have e:ns.getD k 0=ns[k]:=by rw[jn,ji hk];rfl
  rw[e];simp
theorem mH:∀{ns:Zf} {us:Ze} {i:Nat} {v:Value},Vals (ns.map V.int) us->us[i]? =some v->∃t,v=.int (ns.getD i 0) t
 |[],us,i,v,r,e=>by cases r;simp at e
 | n::ns,us,0,v,r,e=>by
  cases r with
  | cons h t=>
   obtain⟨tk,q⟩:=h;simp at e;exact⟨tk,by rw[<-e,q];rfl⟩
 | n::ns,us,i+1,v,r,e=>by
  cases r with
  | cons h t=>
   obtain⟨tk,q⟩:=mH (i:=i) t (by simpa using e);exact⟨tk,by rw[q];rfl⟩
def FG{K:am}(hK:X.K=K)(hc:X.calm=true):fM X (.builtin "sum") (λxs H Q=>∃(p:Addr) (ns:Zf),xs=[.ref p]/\SqL K H p (ns.map V.int)/\Q (.int ns.sum) H):=by
 subst hK;intro z5 s J H xs us Q I r h;obtain⟨p,ns,rfl,hq,q⟩:=h;obtain⟨u,rfl,ru⟩:=b9 r;cases ru;let⟨its,rv,pl,hz⟩:=I.list hq;have hh:X.A.in1.handled=none:=I.ok.hd hc;have hl:=pl.isList;have hlt:p<s.heap.objs.size:=by obtain⟨_,e,_⟩:=hl;exact jd e
 refine call_sum_walkG (wpAny_pyIter_list hl ?_);refine⟨_,_,_,_,_,_,λi=>ns.getD i 0,rfl,Walks.list hh s.heap.objs.size p (jo hlt) its.toArray,⟨⟨_,ju _ rfl,rfl,rfl⟩,hl.push _⟩,λb hb=>?_,λi v hP=>mH rv (by simpa using hP),λh' tk t' hk=>?_⟩
 .show b<(s.heap.push _).objs.size;rw[xx];rcases List.mem_cons.mp hb with rfl|hb
  .exact Nat.lt_succ_self _
  .rw[List.mem_singleton.mp hb];exact Nat.lt_succ_of_lt hlt
 .have len:its.toArray.size=ns.length:=by have:=rv.length;simp at this;simp;omega
  refine⟨.int ns.sum,H,I.kept (t':=tk) λb o e=>hk b o (λz=>?_) (je _ e),⟨t',?_⟩,q⟩
  .have:=jd e;rw[List.mem_singleton.mp z]at this;exact xn _ this
  .rw[len,Hy ns _ (jg _),List.take_length]
end
def Exc(B:Heap)(e:Addr)(cls fl:Value)(h:Heap):Prop:=
 ∃oe vs T oT ts,h.get? e=some oe/\oe.cls=cls/\oe.dict=none/\oe.data=.fields vs/\vs[1]? =some (.ref T)/\B.get? T=none/\T≠e/\h.get? T=some oT/\oT.data=.fields ts/\ts[3]? =some fl
structure FlyD(B:Heap)(l:List Env)(e:Addr)(cls fl:Value)(h:Heap):Prop where
 st:B.StaysIn h
 new:B.get? e=none
 fr:h.FunFrames B l
 ex:Exc B e cls fl h
section
variable{ρ:Model}{A:Around}{E:Z0}{s:Shared}{B:Heap}{env:Env}{outer l:List Env}{L e:Addr}{cls fl:Value}{Q:Unit->Shared->Prop}
def CW{h:Heap}(hl:h.FunFrames B l){b:Addr}{o:Obj}{vs:Zd}(ho:h.get? b=some o)(hd:o.data=.fields vs):b∉l.filterMap (·.frame):=λhb=>by let⟨_,o1,e1,d1⟩:=hl.mem hb;rw[ho]at e1;cases e1;exact d1 vs hd
def zO{h:Heap}{b:Addr}{o:Obj}{vs:Zd}{g:Array Value->Array Value}(st:B.StaysIn h)(hl:h.FunFrames B l)(hn:B.get? b=none)(ho:h.get? b=some o)(hd:o.data=.fields vs):
 B.StaysIn (h.update b (Obj.mapFields g))/\(h.update b (Obj.mapFields g)).FunFrames B l/\h.UpToSlots (h.update b (Obj.mapFields g))/\(h.update b (Obj.mapFields g)).get? b=some (Obj.mapFields g o)/\∀c,c≠b->(h.update b (Obj.mapFields g)).get? c=h.get? c:=by
 have oth:∀c,c≠b->(h.update b (Obj.mapFields g)).get? c=h.get? c:=λc hc=>kg _ _ (Ne.symm hc);have nrec:∀c u,h.get? c=some u->(∀ws,u.data≠.fields ws)->c≠b:=λc u q nf z=>by rw[z,ho]at q;cases q;exact nf vs hd
 refine⟨λc u q=>(oth c λz=>by rw[z,hn]at q;cases q).trans (st c u q),hl.of_keeps λc u q nf=>⟨u,(oth c (nrec c u q nf)).trans q,rfl⟩,λc u q nf=>⟨u.slots,(oth c (nrec c u q nf)).trans q⟩,?_,oth⟩;exact vc _ ho (Obj.isFreed_of_fields (vg hd g))
def uL(F:FlyD B l e cls fl s.heap)(k:∀h',FlyD B l e cls .none h'->s.heap.UpToSlots h'->Q () {s with heap:=h'}):wpAny ρ A (setFlight (.ref e) none) Q E s:=by obtain⟨oe,vs,T,oT,ts,he,hc,hdn,hd,h1,hnT,hTe,hT,hdT,h3⟩:=F.ex;let⟨k1,k2,k3,k4,k5⟩:=zO (g:=(·.setIfInBounds 3 ((none:Zc).elim Value.none λf=>rawInt f))) F.st F.fr hnT hT hdT;unfold setFlight;refine ja (xg he hd h1 ?_);rw[if_pos (by simp:(Value.ref T !=Value.none)=true)];refine ve hT hdT (Array.getElem?_eq_some_iff.mp h3).1 (k _ ⟨k1,F.new,k2,?_⟩ k3);have sz:=(Array.getElem?_eq_some_iff.mp h3).1;exact⟨oe,vs,T,_,_,(k5 e (Ne.symm hTe)).trans he,hc,hdn,hd,h1,hnT,hTe,k4,vg hdT _,by simp[sz]⟩
def GM{oe:Obj}{vs:Zd}{head:Value}{hn:Bool}(hfr:A.frames=some (env::outer))(hf:env.frame=some L)(st:B.StaysIn s.heap)(hl:s.heap.FunFrames B (env::outer))(new:B.get? e=none)
 (he:s.heap.get? e=some oe) (hd:oe.data=.fields vs) (hdn:oe.dict=none) (sz:1<vs.size)
 (k:∀h',FlyD B (env::outer) e oe.cls (rawInt L) h'->s.heap.UpToSlots h'->Q () {s with heap:=h'}):
 wpAny ρ A (do let a <-frameOf env;let pl <-entryPlaceOf L hn;let b <-EntryCells.newEntry head a .none (rawInt L) .none pl;setField (.ref e) 1 b) Q E s:=by
 have nef:=CW hl he hd;refine ja (wpAny_frameOf_fun hfr hl hf λh1 so=>ja (wpAny_entryPlaceOf λpl hpl=>?_));have st1:B.StaysIn h1:=λb o q=>(so.2.1 b λz=>by rw[(hl.mem z).1]at q;cases q).trans (st b o q);have fr1:h1.FunFrames B (env::outer):=hl.of_keeps λb o q nf=>by let⟨sl,z⟩:=so.2.2 b o q;exact⟨_,z,rfl⟩
 have e1:h1.get? e=some oe:=(so.2.1 e nef).trans he;unfold EntryCells.newEntry newFields;refine ja (kf ?_ (hpl.sizeOk5 _ _ _ _ _));generalize hO:({cls:=.type "traceback",dict:=none,data:=.fields ([head,.ref L,.none,rawInt L,.none]++(if pl.isEmpty then List.replicate 6 Value.none else pl)).toArray}:Obj)=oT;have dT:oT.data=.fields ([head,.ref L,.none,rawInt L,.none]++(if pl.isEmpty then List.replicate 6 Value.none else pl)).toArray:=by rw[<-hO]
 have nfT:oT.isFreed=false:=by rw[<-hO];rfl
 have kp:∀b o,h1.get? b=some o->(h1.push oT).get? b=some o:=λb o q=>je oT q;have fr2:(h1.push oT).FunFrames B (env::outer):=fr1.of_keeps λb o q nf=>⟨o,kp b o q,rfl⟩;let⟨k1,k2,k3,k4,k5⟩:=zO (g:=(·.setIfInBounds 1 (Value.ref h1.objs.size))) (λb o q=>kp b o (st1 b o q)) fr2 new (kp _ _ e1) hd;have neT:h1.objs.size≠e:=Nat.ne_of_gt (jd e1);refine ve (kp _ _ e1) hd sz (k _ ⟨k1,new,k2,_,_,h1.objs.size,oT,_,k4,Obj.cls_mapFields _ _,?_,vg hd _,by simp[sz],st1.fresh,neT,(k5 _ neT).trans (ju h1 nfT),dT,?_⟩ ?_)
 .obtain⟨c,d,dt,sl⟩:=oe;cases dt<;>exact hdn
 .simp
 .refine Heap.UpToSlots.trans (λb o q nf=>?_) k3;let⟨sl,z⟩:=so.2.2 b o q;exact⟨sl,kp _ _ z⟩
def qla{oe:Obj}{vs:Zd}(hfr:A.frames=some (env::outer))(hf:env.frame=some L)(st:B.StaysIn s.heap)(hl:s.heap.FunFrames B (env::outer))(new:B.get? e=none)
 (he:s.heap.get? e=some oe) (hd:oe.data=.fields vs) (hdn:oe.dict=none) (h1:vs[1]? =some .none)
 (k:∀h',FlyD B (env::outer) e oe.cls (rawInt L) h'->s.heap.UpToSlots h'->Q () {s with heap:=h'}):wpAny ρ A (noteFrame (.ref e) env) Q E s:=by
 unfold noteFrame;simp only[hf];refine ja (xg he hd h1 ?_);rw[if_neg (by decide)];exact GM hfr hf st hl new he hd hdn (Array.getElem?_eq_some_iff.mp h1).1 k
def E9(hfr:A.frames=some (env::outer))(hf:env.frame=some L)(F:FlyD B (env::outer) e cls .none s.heap)
 (k:∀h',FlyD B (env::outer) e cls (rawInt L) h'->s.heap.UpToSlots h'->Q () {s with heap:=h'}):wpAny ρ A (noteFrame (.ref e) env) Q E s:=by
 obtain⟨oe,vs,T,oT,ts,he,hc,hdn,hd,h1,hnT,hTe,hT,hdT,h3⟩:=F.ex;subst hc;let⟨k1,k2,k3,k4,k5⟩:=zO (g:=(·.setIfInBounds 3 Value.none)) F.st F.fr hnT hT hdT;unfold noteFrame;simp only[hf];refine ja (xg he hd h1 ?_);rw[if_pos (by simp:(Value.ref T !=Value.none)=true)];refine ja (xg hT hdT h3 ?_);rw[if_neg (by simp[rawInt]:¬((Value.none==rawInt L)=true))];refine ja (ve hT hdT (Array.getElem?_eq_some_iff.mp h3).1 ?_);exact GM hfr hf k1 k2 F.new ((k5 e (Ne.symm hTe)).trans he) hd hdn (Array.getElem?_eq_some_iff.mp h1).1 λh' F' up=>k h' F' (k3.trans up)
def FlyD.less{fl:Value}{h:Heap}(F:FlyD B (env::outer) e cls fl h):FlyD B outer e cls fl h:=⟨F.st,F.new,F.fr.2.2,F.ex⟩
def qwa{oe:Obj}{vs:Zd}(hfr:A.frames=some (env::outer))(hf:env.frame=some L)(st:B.StaysIn s.heap)(hl:s.heap.FunFrames B (env::outer))(new:B.get? e=none)
 (he:s.heap.get? e=some oe) (hd:oe.data=.fields vs) (hdn:oe.dict=none) (h1:vs[1]? =some .none)
 (k:∀h',FlyD B outer e oe.cls .none h'->s.heap.UpToSlots h'->Q () {s with heap:=h'}):wpAny ρ A (leaving env (.ref e)) Q E s:=by
 unfold leaving;exact ja (qla hfr hf st hl new he hd hdn h1 λh' F up=>uL (s:={s with heap:=h'}) F λh2 F2 up2=>k h2 F2.less (up.trans up2))
def qz9(hfr:A.frames=some (env::outer))(hf:env.frame=some L)(F:FlyD B (env::outer) e cls .none s.heap)
 (k:∀h',FlyD B outer e cls .none h'->s.heap.UpToSlots h'->Q () {s with heap:=h'}):wpAny ρ A (leaving env (.ref e)) Q E s:=by
 unfold leaving;exact ja (E9 hfr hf F λh' F up=>uL (s:={s with heap:=h'}) F λh2 F2 up2=>k h2 F2.less (up.trans up2))
end
structure Flies(P:Program)(w:World)(l:List Env)(H:Hp)(s:Shared)(cls:Value)(e:Addr)(H':Hp)(s':Shared):Prop where
 os:s'.os=s.os
 bare:AllBare s'.gens
 un:Un (dD l) [] H H' s.heap s'.heap
 hok:HOk P w H' s'.heap
 fly:∃B,FlyD B l e cls .none s'.heap/\∀b o,s'.heap.get? b=some o->b∉dD l->(H' b≠none∨∃o',s.heap.get? b=some o')->B.get? b=some o
def kX(P:Program)(w:World):gr:=λouter H s E e s'=>∃ea cls H',e=.ref ea/\Flies P w outer H s cls ea H' s'/\E cls none H'
def ObjOk.there{P:Program}{w:World}{H:Hp}{h:Heap}{a:Addr}{o:HO}(x:ObjOk P w H h a o):∃u,h.get? a=some u:=by
 cases o with
 |lst xs=>obtain⟨_,_,_,_,e⟩:=x;exact⟨_,e⟩
 |tup xs=>obtain⟨_,_,_,ob,e,_⟩:=x;exact⟨_,e⟩
 |dK kvs=>obtain⟨_,_,_,_,o,_,e,_⟩:=x;exact⟨_,e⟩
 |dT kvs=>obtain⟨_,_,_,_,o,_,_,e,_⟩:=x;exact⟨_,e⟩
 |set S n=>obtain⟨o,_,_,_,e,_⟩:=x;exact⟨_,e⟩
 |ins C dx fs=>obtain⟨_,_,_,e,_⟩:=x;exact⟨_,e⟩
 |own y=>exact x
 |xd fs=>obtain⟨_,⟨_,_,_,e,_⟩,_⟩:=x;exact⟨_,e⟩
 |rng lo hi=>obtain⟨_,_,_,e⟩:=x;exact⟨_,e⟩
 |frz ob u=>obtain⟨e,_⟩:=x;exact⟨_,e⟩
 |tbl ps=>exact⟨_,(show h.get? a=some _ from x)⟩
 |lam pos q=>obtain⟨_,e,_⟩:=x;exact⟨_,e⟩
 |met f y=>exact⟨_,(show h.get? a=some _ from x)⟩
 |ext φ=>obtain⟨_,⟨_,e⟩,_⟩:=x;exact⟨_,e⟩
section
variable{X:Cx}{z5:Z3}{J:St}{H H':Hp}{s:Shared}
def GL{hm:Heap}{s2:Shared}{B:Heap}{e:Addr}{cls:Value}(I:Inv X z5 J H s)(zv:X.stack=X.env::X.outer)(hfr:X.env.frame=some X.env.locals)(hex:X.ex=[])(os:s2.os=s.os)(bare:AllBare s2.gens)(U:Un (dD X.stack) [] H H' s.heap hm)
 (hok:HOk X.prog X.w H' hm) (cond:∀b o,hm.get? b=some o->b∉dD X.stack->(H' b≠none∨∃o',s.heap.get? b=some o')->B.get? b=some o)
 (fl:FlyD B X.outer e cls .none s2.heap) (up:hm.UpToSlots s2.heap):Flies X.prog X.w X.outer X.H₀ X.s₀ cls e H' s2:=by
 have fsub:∀b,b∉X.fs->b≠X.env.locals->b∉dD X.stack:=λb h1 h2 z=>(List.mem_cons.mp (I.stkSub b z)).elim h2 h1;have fin:∀b∈X.fs,b∈dD X.stack:=λb hb=>by rw[zv];show b∈(X.env::X.outer).filterMap (·.frame);rw[List.filterMap_cons,hfr];exact jh _ hb
 have neL:∀b o,X.s₀.heap.get? b=some o->b≠X.env.locals:=λb o e z=>by have q:=I.ok.above;rw[<-z]at q;exact absurd (jz (jd e) q) (xn _)
 have fr_data:∀b∈dD X.stack,∀o,hm.get? b=some o->∀vs,o.data≠.fields vs:=λb hb o eo vs q=>by let⟨_,o1,e1,d1⟩:=I.stack.mem hb;let⟨sl,e2⟩:=U.slot b o1 e1 (I.stkFree b hb) hb (by simp);rw[eo]at e2;cases e2;exact d1 vs q
 have free_fr:∀b∈dD X.stack,H' b=none:=λb hb=>by let⟨_,o1,e1,d1⟩:=I.stack.mem hb;exact U.free b o1 e1 (I.stkFree b hb) (by simp)
 have at_b:∀b o o0,s.heap.get? b=some o0->hm.get? b=some o->b∉dD X.stack->s2.heap.get? b=some o:=λb o o0 e0 e1 nb=>fl.st b o (cond b o e1 nb (.inr ⟨o0,e0⟩));have base:=I.base;rw[hex]at base;have nx:∀b:Addr,b∉([]:List Addr):=λb=>by simp
 have tracked:∀b u,H' b≠none->hm.get? b=some u->s2.heap.get? b=some u:=λb u hb e=>fl.st b u (cond b u e (λz=>hb (free_fr b z)) (.inl hb));refine⟨os.trans I.os,bare,⟨λb o e n hf _=>?_,λb o e n hf _=>?_,λb o e n _=>?_,λb o e _=>?_,λb xs e=>U.tups b xs (base.tups b xs e),λb o u e=>U.frzs b o u (base.frzs b o u e),λb ps e=>?_⟩,λa o e=>?_,B,fl,λb o e nf h=>?_⟩
 .have e1:=base.keep b o e n hf (nx b);have nb:=fsub b hf (neL b o e);exact at_b b o o e1 (U.keep b o e1 (base.free b o e n (nx b)) nb (nx b)) nb
 .let⟨sl1,e1⟩:=base.slot b o e n hf (nx b);let⟨sl2,e2⟩:=U.slot b _ e1 (base.free b o e n (nx b)) (fin b hf) (nx b);let⟨sl3,e3⟩:=up b _ e2 (fr_data b (fin b hf) _ e2);exact⟨sl3,e3⟩
 .let⟨o1,e1⟩:=base.there b o e (nx b);exact U.free b o1 e1 (base.free b o e n (nx b)) (nx b)
 .let⟨o1,e1⟩:=base.there b o e (nx b);let⟨o2,e2⟩:=U.there b o1 e1 (nx b);by_cases hb:b∈dD X.stack
  .let⟨sl3,e3⟩:=up b _ e2 (fr_data b hb _ e2);exact⟨_,e3⟩
  .exact⟨_,at_b b o2 o1 e1 e2 hb⟩
 .let⟨m1,e1⟩:=base.tbls b ps e;let⟨m2,e2⟩:=U.tbls b _ e1;exact⟨m1++m2,by rw[e2,Array.append_assoc]⟩
 .refine(hok a o e).stay (λb u hb q=>tracked b u ?_ q) (λ_ q=>q) λ_ _ q=>q;rcases hb with rfl|hb
  .rw[e];exact λz=>nomatch z
  .rw[hb];exact λz=>nomatch z
 .rcases h with h|⟨o0,e0⟩
  .cases q:H' b with
   |none=>exact absurd q h
   | some u=>
    let⟨o1,e1⟩:=(hok b u q).there;have e2:=tracked b o1 h e1;rw[e]at e2;cases e2;exact cond b o e1 (λz=>h (free_fr b z)) (.inl h)
  .have nb:=fsub b nf (neL b o0 e0);let⟨o1,e1⟩:=base.there b o0 e0 (nx b);let⟨o2,e2⟩:=U.there b o1 e1 (nx b);have e3:=at_b b o2 o1 e1 e2 nb;rw[e]at e3;cases e3;exact cond b o e2 nb (.inr ⟨o1,e1⟩)
end
section
variable{P:Program}{w:World}{K:am}{mg:Za}{base:Heap}{N:Zj}{qual:Str}{scope:Scope}{f:Addr}{cd:Value}{A:Around}{outer:List Env}{s₀:Shared}{H₀:Hp}{E:XK}
abbrev nq(P:Program)(w:World)(K:am)(mg:Za)(base:Heap)(N:Zj)(qual:Str)(scope:Scope)(f:Addr)(cd:Value)(A:Around)(outer:List Env)(s₀:Shared)(H₀:Hp)(E:XK):Cx:=dX (kX P w) P w K mg base N qual scope f cd A outer s₀ H₀ E
def wV:mm (kX P w) (nq P w K mg base N qual scope f cd A outer s₀ H₀ E) E:=by intro z5 J H s e s' I h;obtain⟨ea,cls,H',rfl,F,hE⟩:=h;obtain⟨B,fl,cond⟩:=F.fly;show wpAny (model P w) _ (leaving _ (.ref ea)) _ _ s';refine qz9 (L:=s₀.heap.objs.size) I.ok.frames rfl fl λh' fl' up=>?_;exact⟨ea,cls,H',rfl,GL (s2:={s' with heap:=h'}) I rfl rfl rfl F.os F.bare F.un F.hok cond fl' up,hE⟩
def sQ(X:Cx)(E:XK):Prop:=∀(z5:Z3) (J:St) (H:Hp) (s:Shared) (h':Heap) (e:Addr) (cls:Value) (vs:Ze),Inv X z5 J H s->Heap.MadeExcOf s.heap h' e cls vs->E cls none H->X.xe (.ref e) {s with heap:=h'}
def Bg:sQ (nq P w K mg base N qual scope f cd A outer s₀ H₀ E) E:=by
 intro z5 J H s h' e cls vs I hx hE;show wpAny (model P w) _ (leaving _ (.ref e)) _ _ _;have hin:∀env∈(nq P w K mg base N qual scope f cd A outer s₀ H₀ E).stack,∀a,env.frame=some a->a∈dD (nq P w K mg base N qual scope f cd A outer s₀ H₀ E).stack:=λenv he a hb=>List.mem_filterMap.mpr ⟨env,he,hb⟩;obtain⟨t,he,_,_⟩:=hx.there;refine qwa (L:=s₀.heap.objs.size) (B:=PySem.W.hideAll s.heap (dD (nq P w K mg base N qual scope f cd A outer s₀ H₀ E).stack)) I.ok.frames rfl (λb o q=>hx.keeps b o (PySem.W.of_hideAll _ q)) ((PySem.W.funFrames_hide I.stack hin).of_keeps λb o q _=>⟨o,hx.keeps b o q,rfl⟩) ?_ he rfl rfl rfl λh2 fl up=>?_
 .cases q:(PySem.W.hideAll s.heap (dD (nq P w K mg base N qual scope f cd A outer s₀ H₀ E).stack)).get? e with
  |none=>rfl
  | some o=>
   have z:=PySem.W.of_hideAll _ q;rw[hx.new]at z;cases z
 refine⟨e,cls,H,rfl,GL (s2:={s with heap:=h2}) (hm:=s.heap) I rfl rfl rfl rfl I.bare Un.refl I.hok (λb o e1 nb _=>PySem.W.hideAll_get _ e1 nb) fl ((Heap.UpToSlots.of_keeps hx.keeps).trans up),hE⟩
end
def qsf(h:Heap)(C:Addr)(bmB:Ze)(zp:String):Prop:=
 ∃bm N nm q bs hdct sn sub ab col dd k0 k1 k2 k3 k5 mN,h.get? C=some (excClassObj nm q C N bs bm hdct sn sub ab col dd k0 k1 k2 k3 k5 zp)/\h.Ns N mN/\mN "__init__"=none/\OwnTail h bmB bm
def qma{K:am}{h:Heap}{C:Addr}{bmB:Ze}{zp:String}(kin:K.In h)(q:PySem.W.excIn K C bmB zp=true):qsf h C bmB zp:=by
 rw[PySem.W.excIn]at q;split at q
 case h_2=>cases q
 case h_1 dd cd sl eC=>
  split at q
  case h_2=>cases q
  case h_1 C1 bm k0 k1 k2 k3 n k5 hm hs=>
   obtain⟨sl⟩:=sl;obtain⟨nm,bs,mro,ns,qn,hd,sn,sub,ab,col,del⟩:=cd;simp only[Bool.and_eq_true,beq_iff_eq,Bool.not_eq_true']at q hm hs;obtain⟨⟨⟨⟨⟨q1,q2⟩,q3⟩,q4⟩,q5⟩,q6⟩:=q;subst hm hs q1 q2 q3;exact⟨bm,ns,nm,qn,bs,hd,sn,sub,ab,col,dd,k0,k1,k2,k3,k5,h.nsMap ns,kin _ _ eC,Heap.Ns.of_isNs (PySem.W.isNs_of_in kin q5),PySem.W.nsMap_none_of_in kin q5 q6,PySem.W.tail_of_in kin q4⟩
section
variable{X:Cx}{x:Str}{C:Addr}{bmB:Ze}{B zp initId:String}{np zk pos:Pos}{e:Expr}{es:Zi}{t:TA}{E:XK}
def yH(C:Addr)(E:XK)(t:TA):TS:=λ_ J H=>t J H λvs H1=>vs.length<=sizeLine/\E (.ref C) none H1
def qkt(new:sQ X E)(hc:X.calm=true)(hg:Gl X x)(hm:X.mg x=some (.ref C))(q:PySem.W.excIn X.K C bmB zp=true)(FB:ExcBaseFacts B zp initId bmB)(ha:PA X (e::es) t)
 (he:starEach (e::es) X.env=(false,eval e X.env)::starEach es X.env:=by rfl) (hpl:(backTo zk (starEach es X.env)).any (·.1)=false:=by rfl) (hd:(x==("__debug__":Str))=false:=by decide):
 PS X (.Raise (some (.Call (.Name x np) (e::es) [] zk)) none pos) (yH C E t):=by
 intro z5 s J H D I h;let⟨bm,N,nm,qn,bs,hdct,sn,sub,ab,col,dd,k0,k1,k2,k3,k5,mN,hC,hN,hni,T⟩:=qma I.ok.mod.kin q;refine wpAny_Raise_call_subT (C:=C) (nm:=nm) (q:=qn) (N:=N) (bs:=bs) (bm:=bm) (hdct:=hdct) (sn:=sn) (sub:=sub) (ab:=ab) (col:=col) (dd:=dd) (k0:=k0) (k1:=k1) (k2:=k2) (k3:=k3) (k5:=k5)
  FB (mN:=mN) (T.hasType FB.hasBase) (I.ok.hd hc) (by rw[he];show(false||(backTo zk (starEach es X.env)).any (·.1))=false;rw[hpl];rfl) hni (pj I hg hm ⟨rfl,?_⟩ hd)
 have ha':=ha zk z5 s J H _ I h;rw[he]at ha' ⊢;refine Calls.evalArgs_plain (aW ha' λus s1 ⟨vs,H1,I1,r,hl,hE⟩=>?_);exact⟨rfl,by rw[<-r.length];exact hl,I1.bk _ _ hC,hN.keeps I1.bk,T.keeps I1.bk,λh' ea hx=>new z5 J H1 s1 h' ea (.ref C) us I1 hx hE⟩
end
abbrev Cx.suite(X:Cx)(e:Addr):Cx:={X with A:=X.A.mark (some (.ref e)),calm:=false,xe:=λ_ _=>False}
noncomputable def sF(e:Addr)(cls:Value):HO:=.ext λh=>∃oe vs,h.get? e=some oe/\oe.cls=cls/\oe.dict=none/\oe.data=.fields vs
section
variable{X:Cx}{z5:Z3}{J:St}{H H':Hp}{s s1:Shared}{e:Addr}{cls fl:Value}
def Cx.Ok.suite(ok:X.Ok)(e:Addr):(X.suite e).Ok:=
 ⟨ok.mod,ok.kind,ok.glob,ok.blt,ok.above,ok.inj,ok.has,ok.cab,(λz=>nomatch z),ok.frames,ok.stk,ok.exf,ok.bs,ok.bsz,ok.noex,ok.exfs,ok.funs,ok.frf⟩
def Inv.suite(I:Inv X z5 J H s)(e:Addr):Inv (X.suite e) z5 J H s:=⟨I.ok.suite e,I.os,I.bare,I.base,I.loc,I.cell,I.free,I.freeC,I.pin,I.hok,I.len⟩
def Inv.unsuite(ok:X.Ok)(I:Inv (X.suite e) z5 J H s):Inv X z5 J H s:=⟨ok,I.os,I.bare,I.base,I.loc,I.cell,I.free,I.freeC,I.pin,I.hok,I.len⟩
def Flies.fresh{l:List Env}{P:Program}{w:World}(F:Flies P w l H s cls e H' s1):s.heap.get? e=none/\H' e=none:=by
 obtain⟨B,fl,cond⟩:=F.fly;obtain⟨oe,vs,T,oT,ts,he,hc,hdn,hd,_⟩:=fl.ex;have nf:=CW fl.fr he hd;have no:¬(H' e≠none∨∃o',s.heap.get? e=some o'):=λz=>by have q:=cond e oe he nf z;rw[fl.new]at q;cases q
 constructor
 .cases q:s.heap.get? e with
  |none=>rfl
  |some o=>exact absurd (.inr ⟨o,q⟩) no
 .cases q:H' e with
  |none=>rfl
  |some o=>exact absurd (.inl (by rw[q];exact λz=>nomatch z)) no
def FV{h2 B:Heap}(I:Inv X z5 J H s)(F:Flies X.prog X.w X.stack H s cls e H' s1)(fl:FlyD B X.stack e cls fl h2)(cond:∀b o,s1.heap.get? b=some o->b∉dD X.stack->(H' b≠none∨∃o',s.heap.get? b=some o')->B.get? b=some o)
 (up:s1.heap.UpToSlots h2):Inv X z5 J H' {s1 with heap:=h2}:=by
 have free_fr:∀b∈dD X.stack,H' b=none:=λb hb=>by let⟨_,o1,e1,d1⟩:=I.stack.mem hb;exact F.un.free b o1 e1 (I.stkFree b hb) (by simp)
 have fr_data:∀b∈dD X.stack,∀o,s1.heap.get? b=some o->∀vs,o.data≠.fields vs:=λb hb o eo vs q=>by let⟨_,o1,e1,d1⟩:=I.stack.mem hb;let⟨sl,e2⟩:=F.un.slot b o1 e1 (I.stkFree b hb) hb (by simp);rw[eo]at e2;cases e2;exact d1 vs q
 refine I.call' (s':={s1 with heap:=h2}) (ch:=[]) F.os ⟨λb o e n hf _=>?_,λb o e n hf _=>?_,F.un.free,λb o e _=>?_,F.un.tups,F.un.frzs,F.un.tbls⟩ (λa o q=>?_) F.bare (λb hb=>absurd hb (by simp))
 .exact fl.st b o (cond b o (F.un.keep b o e n hf (by simp)) hf (.inr ⟨o,e⟩))
 .let⟨sl,e1⟩:=F.un.slot b o e n hf (by simp);let⟨sl2,e2⟩:=up b _ e1 (fr_data b hf _ e1);exact⟨sl2,e2⟩
 .let⟨o1,e1⟩:=F.un.there b o e (by simp);by_cases hb:b∈dD X.stack
  .let⟨sl2,e2⟩:=up b _ e1 (fr_data b hb _ e1);exact⟨_,e2⟩
  .exact⟨o1,fl.st b o1 (cond b o1 e1 hb (.inr ⟨o,e⟩))⟩
 .refine(F.hok a o q).stay (λb u hb z=>?_) (λ_ q=>q) λ_ _ q=>q;have nb:H' b≠none:=by
   rcases hb with rfl|hb
   .rw[q];exact λz=>nomatch z
   .rw[hb];exact λz=>nomatch z
  exact fl.st b u (cond b u z (λy=>nb (free_fr b y)) (.inl nb))
end
section
variable{X:Cx}{z5:Z3}{J:St}{H H':Hp}{s s1:Shared}{e:Addr}{cls c:Value}{i:Nat}{x n:Str}{np pos hpos:Pos}{b₀:Stmt}{suite:Zh}{ts:TS}{D:Ends}
def qil{ρ:Model}{h:Heap}{oe:Obj}(he:h.get? e=some oe)(hc:oe.cls=cls):PySem.W.Looks ρ h (typeOf (.ref e)) cls:=hc▸(PySem.W.Looks.ld he).andThen .now
def SP.unsuite{f:Flow}(ok:X.Ok)(h:SP (X.suite e) z5 D f s):SP X z5 D f s:=by
 cases f with
 |next=>obtain⟨J',H',I,q⟩:=h;exact⟨J',H',I.unsuite ok,q⟩
 |brk=>obtain⟨J',H',I,q⟩:=h;exact⟨J',H',I.unsuite ok,q⟩
 |cont=>obtain⟨J',H',I,q⟩:=h;exact⟨J',H',I.unsuite ok,q⟩
 |ret u=>obtain⟨v,J',H',I,r,q⟩:=h;exact⟨v,J',H',I.unsuite ok,r,q⟩
def qiw(I:Inv X z5 J H s)(zv:X.stack=X.env::X.outer)(hfr:X.env.frame=some X.env.locals)(hg:Gl X x)(hm:X.mg x=some c)
 (hd:(x==("__debug__":Str))=false) (F:Flies X.prog X.w X.stack H s cls e H' s1) (hx:PySem.W.exmOne X.K cls c=some true) (hs:PSs (X.suite e) (b₀::suite) ts) (h:ts D J H'):
 wpAny (model X.prog X.w) X.A (noteFrame (.ref e) X.env) (λ_ s2=>wpAny (model X.prog X.w) X.A (setFlight (.ref e) none) (λ_ s3=>
  wpAny (model X.prog X.w) X.A (handleBy (.ref e) X.env [.ExceptHandler (some (.Name x np)) none (b₀::suite) hpos]) (SP X z5 D) X.xe s3) X.xe s2) X.xe s1:=by
 obtain⟨B,fl,cond⟩:=F.fly;have hfs:X.A.frames=some (X.env::X.outer):=by rw[<-zv];exact I.ok.frames
 rw[zv]at fl;refine E9 hfs hfr fl λh4 fl4 up4=>?_;refine uL (s:={s1 with heap:=h4}) fl4 λh5 fl5 up5=>?_;have fl5':=fl5;rw[<-zv]at fl5';have I5:=(FV I F fl5' cond (up4.trans up5)).suite e;refine wpAny_handleBy_cons (codeAny_handlers_test (pj I5 hg hm ?_ hd)) (λq=>nomatch q);obtain⟨oe,vs,T,oT,ts',he,hc,_⟩:=fl5.ex;refine(PySem.W.exm_one I5.kIn (qil he hc) hx).here ?_;show codeAny _ _ _ _ _;refine codeAny_handlers_suite ?_;refine uL (s:={s1 with heap:=h5}) fl5 λh6 fl6 up6=>?_;have fl6':=fl6;rw[<-zv]at fl6';have I6:=(FV I F fl6' cond ((up4.trans up5).trans up6)).suite e;refine xj (hs z5 {s1 with heap:=h6} _ _ _ I6 h) (λf s9 q=>?_) λ_ _ z=>z.elim;exact q.unsuite I.ok
end
def sP(X:Cx)(z5:Z3)(J:St)(e:Expr)(t:TE):Prop:=∀(s:Shared) (H:Hp) (Q:VK),Inv X z5 J H s->t J H Q->wpAny (model X.prog X.w) X.A (eval e X.env) (EP X z5 J Q) X.xe s
def sO(X:Cx)(z5:Z3)(J:St)(st:Stmt)(t:TS):Prop:=∀(s:Shared) (H:Hp) (D:Ends),Inv X z5 J H s->t D J H->wpAny (model X.prog X.w) X.A (exec st X.env) (SP X z5 D) X.xe s
def CN(X:Cx)(z5:Z3)(J:St)(st:Zh)(t:TS):Prop:=∀(s:Shared) (H:Hp) (D:Ends),Inv X z5 J H s->t D J H->wpAny (model X.prog X.w) X.A (execs st X.env) (SP X z5 D) X.xe s
def Fx(CX:gr)(X:Cx)(z5:Z3)(J:St)(E:XK):Prop:=∀(H:Hp) (s:Shared) (e:Value) (s':Shared),Inv X z5 J H s->CX X.stack H s E e s'->X.xe e s'
section
variable{X:Cx}{z5:Z3}{J:St}{CX:gr}{k:Nat}{f:Addr}{fd:FuncData}{ps:Zj}{sp:Sp}{dvs:List V}{ds:Ze}{E:XK}{x:Str}{p pos zk:Pos}{e c:Expr}{es:Zi}{t:TA}{te:TE}{tc:TT}{st:Stmt}{a b:Zh}{ta tb u:TS}
def qs8(F:FnOk X.prog X.w X.K X.mg X.base CX k f fd ps sp)(hr:Room k X.A)(hg:Gl X x)(hm:X.mg x=some (.ref f))(hk:PySem.W.keepIn X.K (.ref f)=true)(hb:Binds X.K fd ps ds)(hd:Vals dvs ds)(hx:Fx CX X z5 J E)
 (ha:PA X (e::es) t) (hdb:(x==("__debug__":Str))=false:=by decide) (he:starEach (e::es) X.env=(false,eval e X.env)::starEach es X.env:=by rfl) (hpl:(backTo pos (starEach es X.env)).any (·.1)=false:=by rfl):
 sP X z5 J (.Call (.Name x p) (e::es) [] pos) (jH sp dvs E t):=by
 intro s H Q I h;refine xu (pj I hg hm ?_ hdb);refine PySem.W.callWith_K (h₀:=X.base) I.ok.mod.kin hk (aW (ha pos z5 s J H _ I h) λus s1 ⟨vs,H1,I1,r,q⟩=>⟨I1.kIn,?_⟩) he hpl;have r2:Vals (vs++dvs) (us++ds):=r.append hd;have hl:(us++ds).length=ps.length:=by rw[<-r2.length];exact F.len _ _ _ _ q
 refine wpAny_call (codeAny_mono (F.run X.A X.stack s1 H1 ⟨us,[]⟩ (us++ds) (vs++dvs) Q E hr I1.env0 (hb s1 us I1.kIn hl) r2 q) λr s' hq=>?_);cases r with
 |error e=>exact hx H1 s1 e s' I1 hq
 | ok fl=>
  cases fl with
  |ret u=>exact I1.after hq
  |next=>exact False.elim hq
  |brk=>exact False.elim hq
  |cont=>exact False.elim hq
def qs7(he:sP X z5 J e te)(hs:swapsWith e none pos.line X.env=pure false:=by rfl):sO X z5 J (.Expr e pos) (mU te):=by intro s H D I h;exact wpAny_Expr_any (aW (he s H _ I h) λv s1 ⟨x,H1,I1,r1,q1⟩=>⟨J,H1,I1,q1⟩) I.quiet hs
def qxn(h1:sO X z5 J st ta):CN X z5 J [st] ta:=by
 intro s H D I h;refine wpAny_execs_cons (aW (h1 s H D I h) λf s1 q=>?_);cases f with
 |next=>exact vp q
 |ret v=>exact q
 |brk=>exact q
 |cont=>exact q
end
section
variable{X:Cx}{c:Value}{i:Nat}{x n:Str}{np pos hpos:Pos}{body:Zh}{b₀:Stmt}{suite:Zh}{ts:TS}{tb:XK->TS}
def rL(K:am)(c:Value)(tb:XK->TS)(ts:TS):TS:=λD J H=>tb (λcls _ H'=>PySem.W.exmOne K cls c=some true/\ts D J H') D J H
def qu2(zv:X.stack=X.env::X.outer)(hfr:X.env.frame=some X.env.locals)(hg:Gl X x)(hm:X.mg x=some c)
 (hb:∀xe z5 J E,Fx (kX X.prog X.w) (X.wish xe) z5 J E->CN (X.wish xe) z5 J body (tb E)) (hs:∀e,PSs (X.suite e) (b₀::suite) ts) (hd:(x==("__debug__":Str))=false:=by decide):
 PS X (.Try body [.ExceptHandler (some (.Name x np)) none (b₀::suite) hpos] [] [] pos) (rL X.K c tb ts):=by
 intro z5 s J H D I h;refine wpAny_Try_except ?_;refine xj (hb (λe s1=>wpAny (model X.prog X.w) X.A (noteFrame e X.env) (λ_ s2=>wpAny (model X.prog X.w) X.A (setFlight e none) (λ_ s3=>
  wpAny (model X.prog X.w) X.A (handleBy e X.env [.ExceptHandler (some (.Name x np)) none (b₀::suite) hpos]) (SP X z5 D) X.xe s3) X.xe s2) X.xe s1) z5 J _ (λH1 s1 e s' I1 q=>?_) s H D (I.wish _) h) (λf s1 q=>?_) λ_ _ z=>z
 .obtain⟨ea,cls,H',rfl,F,hx,hE⟩:=q;exact qiw I1.unwish zv hfr hg hm hd F hx (hs ea) hE
 .have q:=q.unwish;cases f with
  |next=>exact vp q
  |ret v=>exact q
  |brk=>exact q
  |cont=>exact q
end
section
variable{P:Program}{w:World}{K:am}{mg:Za}{base:Heap}
def Fun.okX{x qual:Str}{st:Stmt}{f:Addr}{fd:FuncData}{N ps:Zj}{k:Nat}{sp:Sp}(F:Fun K x qual st f fd)(S:q0k N ps (aT st))(len:∀vs H Q E,sp vs H Q E->vs.length=ps.length)
 (zg:∀(cdv:Value) (A:Around) (outer:List Env) (s:Shared) (H:Hp) (vs:List V) (Q:VK) (E:XK),Room k (A.deeper (envOfC qual (aT st) s.heap.objs.size f cdv))->sp vs H Q E->
   ∃t,PSs (nq P w K mg base N qual (aT st) f cdv A outer s H E) (e8 st) t/\t {nx:=λ_ H'=>Q .non H',rt:=Q} (aO N vs) H):FnOk P w K mg base (kX P w) (k+1) f fd ps sp:=by
 obtain⟨oc,od,kV,doc,pm,an,cdv,ct,osl,rfl,lk,hcd⟩:=F.ex;exact tO lk hcd S len λA outer s H vs Q E hr hsp=>zg cdv A outer s H vs Q E hr hsp
end
section
variable{prog:Program}{w:World}{A:Around}{E:Z0}{s:Shared}{K:am}{e C:Addr}{oe:Obj}
end
structure ExcK(K:am)(C:Addr):Prop where
 cls:PySem.W.isClsIn K C=true
 ty:PySem.W.typeIn K (.ref C)=some (.type "type")
 sf:PySem.W.subIn K (.ref C) (.ref C)=some true
 ga:PySem.W.findIn K (.ref C) "__getattribute__"=some (some (.builtin "BaseException.__getattribute__"))
 gt:PySem.W.findIn K (.ref C) "__getattr__"=some none
 bs:PySem.W.subIn K (.ref C) (.type "BaseException")=some true
 ha:PySem.W.findIn K (.ref C) "__class__"=some (some (.builtin "object.__class__"))
 hn:PySem.W.specialIn K (.builtin "object.__class__") "__get__"=some (some (.builtin "getset_descriptor.__get__"))
 tk:PySem.W.takesIn K (.builtin "object.__class__")=some true
 hm:PySem.W.mroIn K C (.type "object")=some true
section
variable{X:Cx}{z5:Z3}{J:St}{H:Hp}{s:Shared}{A:Around}{E:Z0}{Q:Z0}{c:Value}{b:Bool}{a C:Addr}
end
inductive D where
 |non
 |bl (b:Bool)
 |int (i:Int)
 |str (x:Str)
 |lst (xs:List D)
 |tup (xs:List D)
 |obj (x:Str) (fs:List (Str×D))
 |dct (kvs:List (bf×D))
 |dit (kvs:List (List bf×D))
 |exc (x:Str)
 |fn (x:Str)
 |tab (P:Addr) (pos:Pos) (q:Str)
mutual
inductive Rp(K:am)(R:Hp):V->D->Prop
 |non:Rp K R .non .non
 |bl (b:Bool):Rp K R (.bl b) (.bl b)
 |int (i:Int):Rp K R (.int i) (.int i)
 |str (x:Str):Rp K R (.str x) (.str x)
 |lst {a:Addr} {xs:List V} {ds:List D}:SqL K R a xs->Rps K R xs ds->Rp K R (.ref a) (.lst ds)
 |tup {a:Addr} {xs:List V} {ds:List D}:R a=some (.tup xs)->Rps K R xs ds->Rp K R (.ref a) (.tup ds)
 |obj {a C dx:Addr} {x:Str} {fs:List (Str×V)} {gs:List (Str×D)}:PySem.W.nsIn K mainGlobals x=some (some (.ref C))->R a=some (.ins C dx fs)->Rfs K R fs gs->Rp K R (.ref a) (.obj x gs)
 |dct {a:Addr} {kvs:List (bf×V)} {gs:List (bf×D)}:R a=some (.dK kvs)->Rkk K R kvs gs->Rp K R (.ref a) (.dct gs)
 |dit {a:Addr} {kvs:List (List bf×V)} {gs:List (List bf×D)}:R a=some (.dT kvs)->Rkt K R kvs gs->Rp K R (.ref a) (.dit gs)
 |exc {a C:Addr} {x:Str}:PySem.W.nsIn K mainGlobals x=some (some (.ref C))->ExcK K C->R a=some (sF a (.ref C))->Rp K R (.ref a) (.exc x)
 |fn {l:Addr} {x:Str}:PySem.W.nsIn K mainGlobals x=some (some (.ref l))->Rp K R (.ref l) (.fn x)
 |tab {P:Addr} {pos:Pos} {q:Str}:R P=some (.lam pos q)->Rp K R (.ref P) (.tab P pos q)
inductive Rps(K:am)(R:Hp):List V->List D->Prop
 |nil:Rps K R [] []
 |cons {x:V} {xs:List V} {d:D} {ds:List D}:Rp K R x d->Rps K R xs ds->Rps K R (x::xs) (d::ds)
inductive Rfs(K:am)(R:Hp):List (Str×V)->List (Str×D)->Prop
 |nil:Rfs K R [] []
 |cons {f:Str} {x:V} {xs:List (Str×V)} {d:D} {ds:List (Str×D)}:Rp K R x d->Rfs K R xs ds->Rfs K R ((f,x)::xs) ((f,d)::ds)
inductive Rkk(K:am)(R:Hp):List (bf×V)->List (bf×D)->Prop
 |nil:Rkk K R [] []
 |cons {f:bf} {x:V} {xs:List (bf×V)} {d:D} {ds:List (bf×D)}:Rp K R x d->Rkk K R xs ds->Rkk K R ((f,x)::xs) ((f,d)::ds)
inductive Rkt(K:am)(R:Hp):List (List bf×V)->List (List bf×D)->Prop
 |nil:Rkt K R [] []
 |cons {f:List bf} {x:V} {xs:List (List bf×V)} {d:D} {ds:List (List bf×D)}:Rp K R x d->Rkt K R xs ds->Rkt K R ((f,x)::xs) ((f,d)::ds)
end
section
variable{K:am}{R:Hp}
def Rp.isI{x:V}{i:Int}(h:Rp K R x (.int i)):x=.int i:=by cases h;rfl
def Rp.isS{x:V}{i:Str}(h:Rp K R x (.str i)):x=.str i:=by cases h;rfl
def Rp.isB{x:V}{i:Bool}(h:Rp K R x (.bl i)):x=.bl i:=by cases h;rfl
def Rp.isN{x:V}(h:Rp K R x .non):x=.non:=by cases h;rfl
noncomputable def qzg:D->Option V
 |.int i=>some (.int i)
 |.str i=>some (.str i)
 |.bl i=>some (.bl i)
 |.non=>some .non
 |_=>none
def Rp.isA{x v:V}:{d:D}->Rp K R x d->qzg d=some v->x=v
 |.int _,h,e=>h.isI.trans (jl e)
 |.str _,h,e=>h.isS.trans (jl e)
 |.bl _,h,e=>h.isB.trans (jl e)
 |.non,h,e=>h.isN.trans (jl e)
def Rp.isL{x:V}{ds:List D}(h:Rp K R x (.lst ds)):∃a xs,x=.ref a/\SqL K R a xs/\Rps K R xs ds:=by
 cases h with
 |@lst a xs ds h r=>exact⟨a,xs,rfl,h,r⟩
def Rp.isT{x:V}{ds:List D}(h:Rp K R x (.tup ds)):∃a xs,x=.ref a/\R a=some (.tup xs)/\Rps K R xs ds:=by
 cases h with
 |@tup a xs ds h r=>exact⟨a,xs,rfl,h,r⟩
def Rps.isC{xs:List V}{d:D}{ds:List D}(h:Rps K R xs (d::ds)):∃x ys,xs=x::ys/\Rp K R x d/\Rps K R ys ds:=by
 cases h with
 |@cons x ys d ds h r=>exact⟨x,ys,rfl,h,r⟩
end
abbrev av:=List (Option D)
abbrev aS:=av->Option (List D×av)
abbrev aJ:=av->Option (D×av)
abbrev dL:=av->Option (Bool×av)
abbrev dW:=D->av->Option av
def Same.sqL{K:am}{H H':Hp}{a:Addr}{xs:List V}(e:Same H H')(h:SqL K H a xs):SqL K H' a xs:=by
 rcases h with(h|⟨o,h⟩)|h
 .exact .inl (.inl (e _ _ h))
 .exact .inl (.inr ⟨o,e _ _ h⟩)
 .exact .inr h
section
variable{K:am}{R R':Hp}
def Rp.mono(s:Same R R'){v:V}{d:D}(h:Rp K R v d):Rp K R' v d:=
 Rp.rec (motive_1:=λv d _=>Rp K R' v d) (motive_2:=λxs ds _=>Rps K R' xs ds) (motive_3:=λxs ds _=>Rfs K R' xs ds) (motive_4:=λxs ds _=>Rkk K R' xs ds) (motive_5:=λxs ds _=>Rkt K R' xs ds)
  .non .bl .int .str (λh _ r=>.lst (s.sqL h) r) (λh _ r=>.tup (s _ _ h) r) (λn h _ r=>.obj n (s _ _ h) r) (λh _ r=>.dct (s _ _ h) r) (λh _ r=>.dit (s _ _ h) r) (λn k h=>.exc n k (s _ _ h)) (λn=>.fn n) (λh=>.tab (s _ _ h))
  .nil (λ_ _ h r=>.cons h r) .nil (λ_ _ h r=>.cons h r) .nil (λ_ _ h r=>.cons h r) .nil (λ_ _ h r=>.cons h r) h
def Rps.mono(s:Same R R'){xs:List V}{ds:List D}(h:Rps K R xs ds):Rps K R' xs ds:=
 Rps.rec (motive_1:=λv d _=>Rp K R' v d) (motive_2:=λxs ds _=>Rps K R' xs ds) (motive_3:=λxs ds _=>Rfs K R' xs ds) (motive_4:=λxs ds _=>Rkk K R' xs ds) (motive_5:=λxs ds _=>Rkt K R' xs ds)
  .non .bl .int .str (λh _ r=>.lst (s.sqL h) r) (λh _ r=>.tup (s _ _ h) r) (λn h _ r=>.obj n (s _ _ h) r) (λh _ r=>.dct (s _ _ h) r) (λh _ r=>.dit (s _ _ h) r) (λn k h=>.exc n k (s _ _ h)) (λn=>.fn n) (λh=>.tab (s _ _ h))
  .nil (λ_ _ h r=>.cons h r) .nil (λ_ _ h r=>.cons h r) .nil (λ_ _ h r=>.cons h r) .nil (λ_ _ h r=>.cons h r) h
def Rfs.mono(s:Same R R'){xs:List (Str×V)}{ds:List (Str×D)}(h:Rfs K R xs ds):Rfs K R' xs ds:=
 Rfs.rec (motive_1:=λv d _=>Rp K R' v d) (motive_2:=λxs ds _=>Rps K R' xs ds) (motive_3:=λxs ds _=>Rfs K R' xs ds) (motive_4:=λxs ds _=>Rkk K R' xs ds) (motive_5:=λxs ds _=>Rkt K R' xs ds)
  .non .bl .int .str (λh _ r=>.lst (s.sqL h) r) (λh _ r=>.tup (s _ _ h) r) (λn h _ r=>.obj n (s _ _ h) r) (λh _ r=>.dct (s _ _ h) r) (λh _ r=>.dit (s _ _ h) r) (λn k h=>.exc n k (s _ _ h)) (λn=>.fn n) (λh=>.tab (s _ _ h))
  .nil (λ_ _ h r=>.cons h r) .nil (λ_ _ h r=>.cons h r) .nil (λ_ _ h r=>.cons h r) .nil (λ_ _ h r=>.cons h r) h
def Rkk.mono(s:Same R R'){xs:List (bf×V)}{ds:List (bf×D)}(h:Rkk K R xs ds):Rkk K R' xs ds:=
 Rkk.rec (motive_1:=λv d _=>Rp K R' v d) (motive_2:=λxs ds _=>Rps K R' xs ds) (motive_3:=λxs ds _=>Rfs K R' xs ds) (motive_4:=λxs ds _=>Rkk K R' xs ds) (motive_5:=λxs ds _=>Rkt K R' xs ds)
  .non .bl .int .str (λh _ r=>.lst (s.sqL h) r) (λh _ r=>.tup (s _ _ h) r) (λn h _ r=>.obj n (s _ _ h) r) (λh _ r=>.dct (s _ _ h) r) (λh _ r=>.dit (s _ _ h) r) (λn k h=>.exc n k (s _ _ h)) (λn=>.fn n) (λh=>.tab (s _ _ h))
  .nil (λ_ _ h r=>.cons h r) .nil (λ_ _ h r=>.cons h r) .nil (λ_ _ h r=>.cons h r) .nil (λ_ _ h r=>.cons h r) h
def Rkt.mono(s:Same R R'){xs:List (List bf×V)}{ds:List (List bf×D)}(h:Rkt K R xs ds):Rkt K R' xs ds:=
 Rkt.rec (motive_1:=λv d _=>Rp K R' v d) (motive_2:=λxs ds _=>Rps K R' xs ds) (motive_3:=λxs ds _=>Rfs K R' xs ds) (motive_4:=λxs ds _=>Rkk K R' xs ds) (motive_5:=λxs ds _=>Rkt K R' xs ds)
  .non .bl .int .str (λh _ r=>.lst (s.sqL h) r) (λh _ r=>.tup (s _ _ h) r) (λn h _ r=>.obj n (s _ _ h) r) (λh _ r=>.dct (s _ _ h) r) (λh _ r=>.dit (s _ _ h) r) (λn k h=>.exc n k (s _ _ h)) (λn=>.fn n) (λh=>.tab (s _ _ h))
  .nil (λ_ _ h r=>.cons h r) .nil (λ_ _ h r=>.cons h r) .nil (λ_ _ h r=>.cons h r) .nil (λ_ _ h r=>.cons h r) h
theorem Rps.length:∀{xs:List V} {ds:List D},Rps K R xs ds->xs.length=ds.length
 |_,_,.nil=>rfl
 |_,_,.cons _ r=>by rw[jw,jw,Rps.length r]
theorem Rps.get:∀{xs:List V} {ds:List D} {i:Nat} {d:D},Rps K R xs ds->ds[i]? =some d->∃v,xs[i]? =some v/\Rp K R v d
 |_,_,_,_,.nil,e=>by simp at e
 |_,_,0,_,.cons h _,e=>by simp at e;subst e;exact⟨_,rfl,h⟩
 | _,_,i+1,d,.cons _ r,e=>by let⟨v,h1,h2⟩:=Rps.get (i:=i) (d:=d) r (by simpa using e);exact⟨v,by simpa using h1,h2⟩
theorem Rps.get':∀{xs:List V} {ds:List D} {i:Nat} {v:V},Rps K R xs ds->xs[i]? =some v->∃d,ds[i]? =some d/\Rp K R v d
 |_,_,_,_,.nil,e=>by simp at e
 |_,_,0,_,.cons h _,e=>by simp at e;subst e;exact⟨_,rfl,h⟩
 | _,_,i+1,v,.cons _ r,e=>by let⟨d,h1,h2⟩:=Rps.get' (i:=i) (v:=v) r (by simpa using e);exact⟨d,by simpa using h1,h2⟩
theorem Rps.append:∀{xs ys:List V} {ds es:List D},Rps K R xs ds->Rps K R ys es->Rps K R (xs++ys) (ds++es)
 |_,_,_,_,.nil,s=>s
 |_,_,_,_,.cons r t,s=>.cons r (Rps.append t s)
theorem Rps.take:∀{xs:List V} {ds:List D} (n:Nat),Rps K R xs ds->Rps K R (xs.take n) (ds.take n)
 |_,_,0,_=>.nil
 |_,_,_+1,.nil=>.nil
 |_,_,n+1,.cons r t=>.cons r (Rps.take n t)
theorem Rps.drop:∀{xs:List V} {ds:List D} (n:Nat),Rps K R xs ds->Rps K R (xs.drop n) (ds.drop n)
 |_,_,0,r=>r
 |_,_,_+1,.nil=>.nil
 |_,_,n+1,.cons _ t=>Rps.drop n t
theorem Rps.set{x:V}{d:D}(r:Rp K R x d):∀{xs:List V} {ds:List D} (i:Nat),Rps K R xs ds->Rps K R (xs.set i x) (ds.set i d)
 |_,_,_,.nil=>.nil
 |_,_,0,.cons _ t=>.cons r t
 |_,_,i+1,.cons q t=>.cons q (Rps.set r i t)
def Rps.one{x:V}{d:D}(r:Rp K R x d):Rps K R [x] [d]:=.cons r .nil
theorem Rps.ints:∀ns:List Int,Rps K R (ns.map V.int) (ns.map D.int)
 |[]=>.nil
 |n::ns=>.cons (.int n) (Rps.ints ns)
def Rps.snoc{xs:List V}{ds:List D}{x:V}{d:D}(h:Rps K R xs ds)(r:Rp K R x d):Rps K R (xs++[x]) (ds++[d]):=h.append (.one r)
end
inductive Sc:V->D->Prop
 |non:Sc .non .non
 |bl (b:Bool):Sc (.bl b) (.bl b)
 |int (i:Int):Sc (.int i) (.int i)
 |str (x:Str):Sc (.str x) (.str x)
def Sc.rp{K:am}{R:Hp}{v:V}{d:D}(h:Sc v d):Rp K R v d:=by
 cases h with
 |non=>exact .non
 |bl b=>exact .bl b
 |int i=>exact .int i
 |str x=>exact .str x
def Frh(H:Hp)(a:Addr):Prop:=H a=none∨∃xs,H a=some (.tup xs)
def Liv(H H':Hp)(a:Addr):Prop:=H' a≠none/\∀xs,H' a=some (.tup xs)->H a=some (.tup xs)
def Liv.refl{H:Hp}{a:Addr}(h:H a≠none):Liv H H a:=⟨h,λ_ e=>e⟩
def Liv.trans{H H1 H2:Hp}{a:Addr}(x:Liv H H1 a)(y:Liv H1 H2 a):Liv H H2 a:=⟨y.1,λxs e=>x.2 xs (y.2 xs e)⟩
def Frh.back{H H1:Hp}{a:Addr}(h:H a≠none->Liv H H1 a)(z:Frh H1 a):Frh H a:=by
 cases q:H a with
 |none=>exact .inl q
 | some o=>
  have v:=h (by rw[q];exact λz=>nomatch z);rcases z with z|⟨xs,z⟩
  .exact absurd z v.1
  .exact .inr ⟨xs,v.2 xs z⟩
structure Ext(H R H' R':Hp):Prop where
 h:Same H H'
 r:Same R R'
 s:∀a o,R' a=some o->H' a=some o
 n:∀a,R' a≠none->R a≠none∨Frh H a
def Ext.refl{H R:Hp}(s:∀a o,R a=some o->H a=some o):Ext H R H R:=⟨Same.refl _,Same.refl _,s,λ_ h=>.inl h⟩
def Same.some{H H':Hp}(s:Same H H'){a:Addr}(h:H a≠none):H' a≠none:=by
 cases q:H a with
 |none=>exact absurd q h
 |some o=>rw[s a o q];exact λz=>nomatch z
def Same.liv{H H':Hp}(s:Same H H'){a:Addr}(h:H a≠none):Liv H H' a:=⟨s.some h,λxs e=>by
 cases q:H a with
 |none=>exact absurd q h
 |some o=>rw[s a o q]at e;exact e⟩
def Ext.trans{H R H1 R1 H2 R2:Hp}(x:Ext H R H1 R1)(y:Ext H1 R1 H2 R2):Ext H R H2 R2:=by
 refine⟨x.h.trans y.h,x.r.trans y.r,y.s,λa h=>?_⟩;rcases y.n a h with z|z
 .exact x.n a z
 .exact .inr (z.back x.h.liv)
def Ext.new{H R:Hp}{a:Addr}{o:HO}(s:∀a o,R a=some o->H a=some o)(h:H a=none):Ext H R (aN H a o) (aN R a o):=by
 have hr:R a=none:=by
  cases q:R a with
  |none=>rfl
  |some u=>rw[s a u q]at h;cases h
 refine⟨Same.new h,Same.new hr,λb u e=>?_,λb e=>?_⟩
 .by_cases hb:b=a
  .subst hb;rw[cr]at e ⊢;exact e
  .rw[aU hb]at e ⊢;exact s b u e
 .by_cases hb:b=a
  .subst hb;exact .inr (.inl h)
  .rw[aU hb]at e;exact .inl e
def Ext.hid{H R:Hp}{a:Addr}{o:HO}(s:∀a o,R a=some o->H a=some o)(h:H a=none):Ext H R (aN H a o) R:=
 ⟨Same.new h,Same.refl _,λb u e=>Same.new h _ _ (s b u e),λ_ e=>.inl e⟩
structure Anc where
 H0:Hp
 R0:Hp
 L:Addr->Prop
 P:List Nat
inductive Ob(K:am)(R:Hp):HO->D->Prop
 |lst {vs:List V} {ds:List D}:Rps K R vs ds->Ob K R (.lst vs) (.lst ds)
 |dct {kvs:List (bf×V)} {gs:List (bf×D)}:Rkk K R kvs gs->Ob K R (.dK kvs) (.dct gs)
 |dit {kvs:List (List bf×V)} {gs:List (List bf×D)}:Rkt K R kvs gs->Ob K R (.dT kvs) (.dit gs)
def Ob.isL{K:am}{R:Hp}{o:HO}{ds:List D}(h:Ob K R o (.lst ds)):∃vs,o=.lst vs/\Rps K R vs ds:=by
 cases h with
 |lst r=>exact⟨_,rfl,r⟩
def Ob.mono{K:am}{R R':Hp}{o:HO}{d:D}(s:Same R R')(h:Ob K R o d):Ob K R' o d:=by
 cases h with
 |lst r=>exact .lst (r.mono s)
 |dct r=>exact .dct (r.mono s)
 |dit r=>exact .dit (r.mono s)
def Ob.noF{K:am}{H R:Hp}{o:HO}{d:D}{l:Addr}(h:Ob K R o d)(e:H l=some o)(z:Frh H l):False:=by
 rcases z with z|⟨xs,z⟩
 .rw[e]at z;cases z
 .rw[e]at z;cases z;cases h
def Ob.rp{K:am}{R:Hp}{o:HO}{d:D}{l:Addr}(h:Ob K R o d)(e:R l=some o):Rp K R (.ref l) d:=by
 cases h with
 |lst r=>exact .lst (SqL.of e) r
 |dct r=>exact .dct e r
 |dit r=>exact .dit e r
structure StR(K:am)(Z:Anc)(O:Zg)(J:St)(H R:Hp)(M:av):Prop where
 sub:∀a o,R a=some o->H a=some o
 len:J.length=M.length
 env:∀i d,i∉O->M[i]? =some (some d)->∃v,J[i]? =some (some v)/\Rp K R v d
 own:∀i,i∈O->∃l vs ds,M[i]? =some (some ds)/\J[i]? =some (some (.ref l))/\H l=some vs/\R l=none/\Ob K R vs ds
 dis:∀i j,i∈O->j∈O->i≠j->∀l,J[i]? =some (some (.ref l))->J[j]? ≠some (some (.ref l))
 ah:∀a o,Z.H0 a=some o->¬Z.L a->H a=some o
 ar:Same Z.R0 R
 an:∀a,R a≠none->Z.R0 a≠none∨Frh Z.H0 a
 ad:∀a,Z.H0 a≠none->Liv Z.H0 H a
 ao:∀i,i∈O->i∉Z.P->∀l,J[i]? =some (some (.ref l))->Z.H0 l=none
 ap:∀i,i∈O->i∈Z.P->∀l,J[i]? =some (some (.ref l))->Z.L l
structure Stp(O:Zg)(J:St)(H R H' R':Hp):Prop where
 r:Same R R'
 h:∀a o,H a=some o->(∀i,i∈O->J[i]? ≠some (some (.ref a)))->H' a=some o
 n:∀a,R' a≠none->R a≠none∨Frh H a
 d:∀a,H a≠none->Liv H H' a
def Stp.refl(O:Zg)(J:St)(H R:Hp):Stp O J H R H R:=⟨Same.refl _,λ_ _ e _=>e,λ_ h=>.inl h,λ_ h=>.refl h⟩
def Stp.trans{O:Zg}{J:St}{H R H1 R1 H2 R2:Hp}(x:Stp O J H R H1 R1)(y:Stp O J H1 R1 H2 R2):Stp O J H R H2 R2:=by
 refine⟨x.r.trans y.r,λa o e n=>y.h a o (x.h a o e n) n,λa h=>?_,λa h=>(x.d a h).trans (y.d a (x.d a h).1)⟩;rcases y.n a h with z|z
 .exact x.n a z
 .exact .inr (z.back (x.d a))
def Ext.stp{O:Zg}{J:St}{H R H' R':Hp}(x:Ext H R H' R'):Stp O J H R H' R':=⟨x.r,λa o e _=>x.h a o e,x.n,λ_ h=>x.h.liv h⟩
section
variable{K:am}{Z:Anc}{O O':Zg}{J J':St}{H R H' R':Hp}{M M':av}
def StR.ext(S:StR K Z O J H R M)(x:Ext H R H' R'):StR K Z O J H' R' M:=by
 refine⟨x.s,S.len,λi d hi e=>?_,λi hi=>?_,S.dis,λa o e n=>x.h a o (S.ah a o e n),S.ar.trans x.r,λa h=>?_,λa h=>(S.ad a h).trans (x.h.liv (S.ad a h).1),S.ao,S.ap⟩
 .let⟨v,h1,h2⟩:=S.env i d hi e;exact⟨v,h1,h2.mono x.r⟩
 .let⟨l,vs,ds,h1,h2,h3,h4,h5⟩:=S.own i hi;refine⟨l,vs,ds,h1,h2,x.h _ _ h3,?_,h5.mono x.r⟩;cases q:R' l with
  |none=>rfl
  | some o=>
   rcases x.n l (by rw[q];exact λz=>nomatch z)with z|z
   .exact absurd h4 z
   .exact(h5.noF h3 z).elim
 .rcases x.n a h with z|z
  .exact S.an a z
  .exact .inr (z.back (S.ad a))
noncomputable def c7(O O':Zg)(J:St)(H R:Hp):Hp:=λa=>open Classical in if∃i,i∈O/\i∉O'/\J[i]? =some (some (.ref a))then H a else R a
def StR.freeze(S:StR K Z O J H R M)(hs:∀i,i∈O'->i∈O)(hp:∀i,i∈Z.P->i∈O->i∈O'):StR K Z O' J H (c7 O O' J H R) M/\Same R (c7 O O' J H R):=by
 have same:Same R (c7 O O' J H R):=λa o e=>by
  unfold c7;split
  .exact S.sub a o e
  .exact e
 refine⟨⟨λa o e=>?_,S.len,λi d hi e=>?_,λi hi=>?_,λi j hi hj=>S.dis i j (hs i hi) (hs j hj),S.ah,S.ar.trans same,λa h=>?_,S.ad,λi hi=>S.ao i (hs i hi),λi hi=>S.ap i (hs i hi)⟩,same⟩
 .unfold c7 at e;split at e
  .exact e
  .exact S.sub a o e
 .by_cases hO:i∈O
  .let⟨l,vs,ds,h1,h2,h3,h4,h5⟩:=S.own i hO;rw[e]at h1;have ed:d=ds:=jl (jl h1);subst ed;refine⟨.ref l,h2,(h5.mono same).rp ?_⟩;unfold c7;rw[if_pos ⟨i,hO,hi,h2⟩];exact h3
  .let⟨v,h1,h2⟩:=S.env i d hO e;exact⟨v,h1,h2.mono same⟩
 .let⟨l,vs,ds,h1,h2,h3,h4,h5⟩:=S.own i (hs i hi);refine⟨l,vs,ds,h1,h2,h3,?_,h5.mono same⟩;unfold c7;rw[if_neg ?_]
  .exact h4
  .rintro⟨j,hj,hj',e⟩;exact S.dis j i hj (hs i hi) (λz=>hj' (z▸hi)) l e h2
 .unfold c7 at h;split at h
  .rename_i z;obtain⟨j,hj,hj',e⟩:=z;exact .inr (.inl (S.ao j hj (λz=>hj' (hp j z hj)) a e))
  .exact S.an a h
def StR.set(S:StR K Z O J H R M){i:Nat}{v:V}{d:D}(hi:i∉O)(r:Rp K R v d):StR K Z O (J.set i (some v)) H R (M.set i (some d)):=by
 have ne:∀j,j∈O->i≠j:=λj hj z=>hi (z▸hj);refine⟨S.sub,by rw[xq,xq];exact S.len,λj e hj q=>?_,λj hj=>?_,λj k hj hk n l e=>?_,S.ah,S.ar,S.an,S.ad,λj hj hp l e=>?_,λj hj hp l e=>?_⟩
 .by_cases hij:i=j
  .subst hij;have hl:i<M.length:=by
    have:=(List.getElem?_eq_some_iff.mp q).1
    rwa [xq]at this
   rw[xo hl]at q;have e':d=e:=jl (jl q);subst e';exact⟨v,by rw[xo (by rw[S.len];exact hl)],r⟩
  .rw[jv hij]at q;let⟨w,h1,h2⟩:=S.env j e hj q;exact⟨w,by rw[jv hij];exact h1,h2⟩
 .let⟨l,vs,ds,h1,h2,h3,h4,h5⟩:=S.own j hj;exact⟨l,vs,ds,by rw[jv (ne j hj)];exact h1,by rw[jv (ne j hj)];exact h2,h3,h4,h5⟩
 .rw[jv (ne j hj)]at e;rw[jv (ne k hk)];exact S.dis j k hj hk n l e
 .rw[jv (ne j hj)]at e;exact S.ao j hj hp l e
 .rw[jv (ne j hj)]at e;exact S.ap j hj hp l e
def StR.write(S:StR K Z O J H R M){i:Nat}{l:Addr}{vs:HO}{ds:D}(hi:i∈O)(hl:J[i]? =some (some (.ref l)))(r:Ob K R vs ds):StR K Z O J (aN H l vs) R (M.set i (some ds)):=by
 let⟨l0,vs0,ds0,h1,h2,h3,h4,h5⟩:=S.own i hi;rw[hl]at h2;cases h2;have other:∀j,j∈O->i≠j->∀k,J[j]? =some (some (.ref k))->k≠l:=λj hj n k e z=>by subst z;exact S.dis i j hi hj n k hl e
 refine⟨λa o e=>?_,by rw[xq];exact S.len,λj d hj q=>?_,λj hj=>?_,S.dis,λa o e n=>?_,S.ar,S.an,λa h=>?_,S.ao,S.ap⟩
 .have ne:a≠l:=λz=>by subst z;rw[h4]at e;cases e
  rw[aU ne];exact S.sub a o e
 .have n:i≠j:=λz=>hj (z▸hi);rw[jv n]at q;exact S.env j d hj q
 .by_cases n:i=j
  .subst n;have ze:i<M.length:=(List.getElem?_eq_some_iff.mp h1).1;exact⟨l,vs,ds,by rw[xo ze],hl,cr,h4,r⟩
  .let⟨k,vs',ds',g1,g2,g3,g4,g5⟩:=S.own j hj;exact⟨k,vs',ds',by rw[jv n];exact g1,g2,by rw[aU (other j hj n k g2)];exact g3,g4,g5⟩
 .have ne:a≠l:=λz=>by
   subst z;by_cases hp:i∈Z.P
   .exact n (S.ap i hi hp a hl)
   .rw[S.ao i hi hp a hl]at e;cases e
  rw[aU ne];exact S.ah a o e n
 .by_cases ha:a=l
  .subst ha;exact⟨by rw[cr];exact(λz=>(nomatch z)),λxs e=>by rw[cr]at e;cases e;cases r⟩
  .exact⟨by rw[aU ha];exact(S.ad a h).1,λxs e=>by rw[aU ha]at e;exact(S.ad a h).2 xs e⟩
def StR.take(S:StR K Z O J H R M){i:Nat}{l:Addr}{vs:HO}{ds:D}(hi:i∉O)(hin:i∈O')(hO:∀j,j∈O'->j=i∨j∈O)(hp:i∉Z.P)(ze:i<M.length)(h0:Z.H0 l=none)(hH:H l=some vs)(hR:R l=none)(hn:∀j,j∈O->J[j]? ≠some (some (.ref l)))(hs:∀j,j∈O->j∈O')(r:Ob K R vs ds):
 StR K Z O' (J.set i (some (.ref l))) H R (M.set i (some ds)):=by
 have ne:∀j,j∈O->i≠j:=λj hj z=>hi (z▸hj);have hl:i<J.length:=by rw[S.len];exact ze
 refine⟨S.sub,by rw[xq,xq];exact S.len,λj e hj q=>?_,λj hj=>?_,λj k hj hk n m e=>?_,S.ah,S.ar,S.an,S.ad,λj hj hp l e=>?_,λj hj hp' l e=>?_⟩
 .by_cases hij:i=j
  .subst hij;rw[xo ze]at q;have e':ds=e:=jl (jl q);subst e';exact absurd hin hj
  .rw[jv hij]at q;let⟨w,h1,h2⟩:=S.env j e (λz=>hj (hs j z)) q;exact⟨w,by rw[jv hij];exact h1,h2⟩
 .rcases hO j hj with rfl|hj'
  .exact⟨l,vs,ds,by rw[xo ze],by rw[xo hl],hH,hR,r⟩
  .let⟨k,vs',ds',g1,g2,g3,g4,g5⟩:=S.own j hj';exact⟨k,vs',ds',by rw[jv (ne j hj')];exact g1,by rw[jv (ne j hj')];exact g2,g3,g4,g5⟩
 .rcases hO j hj with rfl|hj'
  .rw[xo hl]at e;cases e;rcases hO k hk with rfl|hk'
   .exact absurd rfl n
   .rw[jv (ne k hk')];exact hn k hk'
  .rw[jv (ne j hj')]at e;rcases hO k hk with rfl|hk'
   .rw[xo hl];intro z;cases z;exact hn j hj' e
   .rw[jv (ne k hk')];exact S.dis j k hj' hk' n m e
 .rcases hO j hj with rfl|hj'
  .rw[xo hl]at e;cases e;exact h0
  .rw[jv (ne j hj')]at e;exact S.ao j hj' hp l e
 .rcases hO j hj with rfl|hj'
  .exact absurd hp' hp
  .rw[jv (ne j hj')]at e;exact S.ap j hj' hp' l e
end
noncomputable def bO{α β:Type}(a:av->Option (α×av))(k:α->av->Option (β×av)):av->Option (β×av):=λM=>match a M with
 |none=>none
 |some (x,M1)=>k x M1
noncomputable def ae{α:Type}(x:α):av->Option (α×av):=λM=>some (x,M)
noncomputable def da{α:Type}(o:Option α):av->Option (α×av):=λM=>match o with
 |none=>none
 |some x=>some (x,M)
def bD{α β:Type}{a:av->Option (α×av)}{k:α->av->Option (β×av)}{M:av}{r:β×av}(h:bO a k M=some r):∃x M1,a M=some (x,M1)/\k x M1=some r:=by
 unfold bO at h;cases e:a M with
 |none=>rw[e]at h;cases h
 |some p=>rw[e]at h;exact⟨p.1,p.2,rfl,h⟩
def cQ{α:Type}{o:Option α}{M:av}{x:α}{M':av}(h:da o M=some (x,M')):o=some x/\M'=M:=by
 unfold da at h;cases o with
 |none=>cases h
 |some y=>cases h;exact⟨rfl,rfl⟩
noncomputable def aa(i:Nat):aJ:=λM=>match M[i]? with
 |some (some d)=>some (d,M)
 |_=>none
def zZ{i:Nat}{M M':av}{d:D}(h:aa i M=some (d,M')):M[i]? =some (some d)/\M'=M:=by
 unfold aa at h;cases e:M[i]? with
 |none=>rw[e]at h;cases h
 | some o=>
  rw[e]at h;cases o with
  |none=>cases h
  |some y=>cases h;exact⟨rfl,rfl⟩
section
variable(K:am)(O:Zg)
def ME(t:TE)(f:aJ):Prop:=∀(Z:Anc) (J:St) (H R:Hp) (M:av) (d:D) (M':av) (Q:VK),StR K Z O J H R M->f M=some (d,M')->(∀v H' R',StR K Z O J H' R' M'->Stp O J H R H' R'->Rp K R' v d->Q v H')->t J H Q
def MB(t:TE)(f:aJ):Prop:=∀(Z:Anc) (J:St) (H R:Hp) (M:av) (d:D) (M':av) (Q:VK),StR K Z O J H R M->f M=some (d,M')->(∀v H' R',StR K Z O J H' R' M'->Stp O J H R H' R'->Rp K H' v d->Q v H')->t J H Q
def MT(t:TT)(f:dL):Prop:=∀(Z:Anc) (J:St) (H R:Hp) (M:av) (b:Bool) (M':av) (Q:Bool->Hp->Prop),StR K Z O J H R M->f M=some (b,M')->(∀H' R',StR K Z O J H' R' M'->Stp O J H R H' R'->Q b H')->t J H Q
def MA(t:TA)(f:aS):Prop:=∀(Z:Anc) (J:St) (H R:Hp) (M:av) (ds:List D) (M':av) (Q:List V->Hp->Prop),StR K Z O J H R M->f M=some (ds,M')->(∀vs H' R',StR K Z O J H' R' M'->Stp O J H R H' R'->Rps K R' vs ds->Q vs H')->t J H Q
def MN(t:TE)(f:aS):Prop:=∀(Z:Anc) (J:St) (H R:Hp) (M:av) (ds:List D) (M':av) (Q:VK),StR K Z O J H R M->f M=some (ds,M')->(∀l vs H' R',StR K Z O J H' R' M'->Stp O J H R H' R'->H l=none->H' l=some (.lst vs)->R' l=none->Rps K R' vs ds->Q (.ref l) H')->t J H Q
end
section
variable{K:am}{Z:Anc}{O:Zg}{t ta tb tc:TE}{tA tB':TT}{tr:TA}
def StR.same{J:St}{H R:Hp}{M:av}(S:StR K Z O J H R M):Same R H:=S.sub
def ME.mb{f:aJ}(h:ME K O t f):MB K O t f:=λZ J H R M d M' Q S e k=>h Z J H R M d M' Q S e λv H' R' S' st r=>k v H' R' S' st (r.mono S'.same)
def StR.notnew{J:St}{H R:Hp}{M:av}(S:StR K Z O J H R M){l:Addr}(h:H l=none):∀j,j∈O->J[j]? ≠some (some (.ref l)):=λj hj e=>by
 let⟨k,vs,ds,_,h2,h3,_⟩:=S.own j hj;rw[e]at h2
 (first|obtain rfl:=h2.isA rfl|cases h2)
 rw[h]at h3
 (first|obtain rfl:=h3.isA rfl|cases h3)
def StR.know{J:St}{H R:Hp}{M:av}{l:Addr}{vs:HO}(S:StR K Z O J H R M)(h0:Z.H0 l=none)(hH:H l=some vs)(hR:R l=none)(hn:∀j,j∈O->J[j]? ≠some (some (.ref l))):StR K Z O J H (aN R l vs) M:=by
 have same:Same R (aN R l vs):=Same.new hR;refine⟨λa o e=>?_,S.len,λi d hi e=>?_,λi hi=>?_,S.dis,S.ah,S.ar.trans same,λa h=>?_,S.ad,S.ao,S.ap⟩
 .by_cases ha:a=l
  .subst ha;rw[cr]at e;rw[hH,e]
  .rw[aU ha]at e;exact S.sub a o e
 .let⟨v,h1,h2⟩:=S.env i d hi e;exact⟨v,h1,h2.mono same⟩
 .let⟨k,ws,ds,h1,h2,h3,h4,h5⟩:=S.own i hi;refine⟨k,ws,ds,h1,h2,h3,?_,h5.mono same⟩;rw[aU (λz=>hn i hi (by rw[<-z];exact h2))];exact h4
 .by_cases ha:a=l
  .subst ha;exact .inr (.inl h0)
  .rw[aU ha]at h;exact S.an a h
def StR.new0{J:St}{H R:Hp}{M:av}{l:Addr}(S:StR K Z O J H R M)(h:H l=none):Z.H0 l=none:=by
 cases q:Z.H0 l with
 |none=>rfl
 |some o=>exact absurd h (S.ad l (by rw[q];exact λz=>nomatch z)).1
def Stp.know{J:St}{H R H' R':Hp}{l:Addr}{o:HO}(x:Stp O J H R H' R')(h:H l=none)(hr:R' l=none):Stp O J H R H' (aN R' l o):=by
 refine⟨x.r.trans (Same.new hr),x.h,λb e=>?_,x.d⟩;by_cases hb:b=l
 .subst hb;exact .inr (.inl h)
 .rw[aU hb]at e;exact x.n b e
def MN.me{f:aS}(h:MN K O t f):ME K O t (bO f λds=>ae (.lst ds)):=λZ J H R M d M' Q S e k=>by let⟨ds,M1,e1,e2⟩:=bD e;cases e2;refine h Z J H R M ds _ Q S e1 λl vs H' R' S' st h0 hH hR r=>?_;refine k _ H' (aN R' l (.lst vs)) (S'.know (S.new0 h0) hH hR ?_) (st.know h0 hR) (.lst (SqL.of cr) (r.mono (Same.new hR)));exact S.notnew h0
def aE{i:Nat}(hi:i∉O:=by decide):ME K O (dq i) (aa i):=λZ J H R M d M' Q S e k=>by obtain⟨e1,rfl⟩:=zZ e;let⟨v,h1,h2⟩:=S.env i d hi e1;exact⟨v,h1,k v H R S (Stp.refl _ _ _ _) h2⟩
def jN{i:Nat}:MB K O (dq i) (aa i):=λZ J H R M d M' Q S e k=>by
 obtain⟨e1,rfl⟩:=zZ e;by_cases hi:i∈O
 .let⟨l,vs,ds,h1,h2,h3,h4,h5⟩:=S.own i hi;rw[e1]at h1
  (first|obtain rfl:=h1.isA rfl|cases h1)
  exact⟨.ref l,h2,k _ H R S (Stp.refl _ _ _ _) ((h5.mono S.same).rp h3)⟩
 .let⟨v,h1,h2⟩:=S.env i d hi e1;exact⟨v,h1,k v H R S (Stp.refl _ _ _ _) (h2.mono S.same)⟩
def lD{v:V}{d:D}(h:Sc v d):ME K O (tC v) (ae d):=λZ J H R M e M' Q S q k=>by
 (first|obtain rfl:=q.isA rfl|cases q)
 exact k v H R S (Stp.refl _ _ _ _) h.rp
def me_int{i:Int}:ME K O (tC (.int i)) (ae (.int i)):=lD (.int i)
def mq{x:Str}:ME K O (tC (.str x)) (ae (.str x)):=lD (.str x)
def C0{b:Bool}:ME K O (tC (.bl b)) (ae (.bl b)):=lD (.bl b)
def me_non:ME K O (tC .non) (ae .non):=lD .non
def ag(g:D->D->Option D)(fa fb:aJ):aJ:=bO fa λx=>bO fb λy=>da (g x y)
def OpS(K:am)(r:R2)(g:D->D->Option D):Prop:=∀(H:Hp) (x y:V) (d e u:D) (Q:VK),Rp K H x d->Rp K H y e->g d e=some u->(∀v,Sc v u->Q v H)->r x y H Q
def gY(K:am)(r:R2)(g:D->D->Option D):Prop:=∀(H R:Hp) (x y:V) (d e u:D) (Q:VK),(∀a o,R a=some o->H a=some o)->Rp K R x d->Rp K R y e->g d e=some u->(∀v H' R',Ext H R H' R'->Rp K R' v u->Q v H')->r x y H Q
def OpS.g{r:R2}{g:D->D->Option D}(h:OpS K r g):gY K r g:=λH R x y d e u Q s rx ry q k=>
 h H x y d e u Q (rx.mono s) (ry.mono s) q λv z=>k v H R (Ext.refl s) z.rp
def d8{r:R2}{g:D->D->Option D}{fa fb:aJ}(h:gY K r g)(ha:ME K O ta fa)(hb:ME K O tb fb):ME K O (iQ r ta tb) (ag g fa fb):=λZ J H R M d M' Q S e k=>by let⟨x,M1,e1,e⟩:=bD e;let⟨y,M2,e2,e⟩:=bD e;obtain⟨e3,rfl⟩:=cQ e;refine ha Z J H R M x M1 _ S e1 λv H1 R1 S1 st1 r1=>hb Z J H1 R1 M1 y _ _ S1 e2 λw H2 R2 S2 st2 r2=>?_;exact h H2 R2 v w x y d Q S2.sub (r1.mono st2.r) r2 e3 λz H3 R3 x3 r3=>k z H3 R3 (S2.ext x3) ((st1.trans st2).trans x3.stp) r3
def kF{r:R2}{g:D->D->Option D}{fa fb:aJ}(h:OpS K r g)(ha:ME K O ta fa)(hb:MB K O tb fb):ME K O (iQ r ta tb) (ag g fa fb):=λZ J H R M d M' Q S e k=>by let⟨x,M1,e1,e⟩:=bD e;let⟨y,M2,e2,e⟩:=bD e;obtain⟨e3,rfl⟩:=cQ e;refine ha Z J H R M x M1 _ S e1 λv H1 R1 S1 st1 r1=>hb Z J H1 R1 M1 y _ _ S1 e2 λw H2 R2 S2 st2 r2=>?_;exact h H2 v w x y d Q ((r1.mono st2.r).mono S2.same) r2 e3 λz q=>k z H2 R2 S2 (st1.trans st2) q.rp
def iz(i:Nat)(fb:aJ):aJ:=bO fb λy=>bO (aa i) λx=>da (match x,y with
 |.lst xs,.int j=>bX xs j
 |_,_=>none)
def yK{R:Hp}{xs:List V}{ds:List D}{i:Int}{d:D}(r:Rps K R xs ds)(h:bX ds i=some d):∃v,bX xs i=some v/\Rp K R v d:=by
 unfold bX at h ⊢;rw[r.length];cases e:e9 ds.length i with
 |none=>rw[e]at h;cases h
 | some j=>
  rw[e]at h;exact r.get h
def xX{i:Nat}{fb:aJ}(hi:i∈O)(hb:ME K O tb fb):ME K O (iQ (pW K) (dq i) tb) (iz i fb):=λZ J H R M d M' Q S e k=>by
 let⟨y,M1,e1,e⟩:=bD e;let⟨x,M2,e2,e⟩:=bD e;obtain⟨e3,rfl⟩:=cQ e;obtain⟨e4,rfl⟩:=zZ e2;let⟨l,vs,ds,h1,h2,h3,_⟩:=S.own i hi;refine⟨.ref l,h2,hb Z J H R M y _ _ S e1 λw H1 R1 S1 st1 r1=>?_⟩;let⟨l',vs',ds',g1,g2,g3,g4,g5⟩:=S1.own i hi;rw[h2]at g2;cases g2;rw[e4]at g1;cases g1;split at e3
 .obtain rfl:=r1.isA rfl;obtain⟨us,rfl,q5⟩:=g5.isL;let⟨v,q1,q2⟩:=yK q5 e3;exact .inl ⟨l,_,_,v,rfl,rfl,SqL.of g3,q1,k v H1 R1 S1 st1 q2⟩
 .cases e3
def bA:D->D->Option D
 |.lst xs,.int i=>bX xs i
 |.tup xs,.int i=>bX xs i
 |.str z,.int i=>if z.length<=sizeLine then(bX z.cps.toList i).map λc=>.str ⟨#[c]⟩else none
 |_,_=>none
def hW:gY K (pW K) bA:=λH R x y d e u Q s rx ry q k=>by
 unfold bA at q;split at q
 .rename_i xs i
  (first|obtain rfl:=ry.isA rfl|cases ry)
  obtain⟨_,_,rfl,h,r⟩:=rx.isL;let⟨v,q1,q2⟩:=yK r q;exact .inl ⟨_,_,i,v,rfl,rfl,Same.sqL s h,q1,k v H R (Ext.refl s) q2⟩
 .rename_i xs i
  (first|obtain rfl:=ry.isA rfl|cases ry)
  obtain⟨_,_,rfl,h,r⟩:=rx.isT;let⟨v,q1,q2⟩:=yK r q;exact .inr (.inl ⟨_,_,i,v,rfl,rfl,SqT.of (s _ _ h),q1,k v H R (Ext.refl s) q2⟩)
 .rename_i z i
  (first|obtain rfl:=ry.isA rfl|cases ry)
  (first|obtain rfl:=rx.isA rfl|cases rx)
  split at q
  .rename_i hz;cases e':bX z.cps.toList i with
   |none=>rw[e']at q;cases q
   | some c=>
    rw[e']at q
    (first|obtain rfl:=q.isA rfl|cases q)
    exact .inr (.inr ⟨z,i,c,rfl,rfl,hz,e',k _ H R (Ext.refl s) (.str _)⟩)
  ·(first|obtain rfl:=q.isA rfl|cases q)
 ·(first|obtain rfl:=q.isA rfl|cases q)
noncomputable def kW(C:Int->Int->Bool)(g:Int->Int->Int):D->D->Option D
 |.int i,.int j=>if C i j=true then some (.int (g i j))else none
 |_,_=>none
def lB{C:Int->Int->Bool}{P:Int->Int->Prop}{g:Int->Int->Int}(hc:∀i j,C i j=true->P i j):gY K (rI P λi j=>.int (g i j)) (kW C g):=λH R x y d e u Q s rx ry q k=>by
 unfold kW at q;split at q
 .rename_i i j;split at q
  .rename_i h
   (first|obtain rfl:=q.isA rfl|cases q)
   (first|obtain rfl:=rx.isA rfl|cases rx)
   (first|obtain rfl:=ry.isA rfl|cases ry)
   exact⟨i,j,rfl,rfl,hc i j h,k _ H R (Ext.refl s) (.int _)⟩
  ·(first|obtain rfl:=q.isA rfl|cases q)
 ·(first|obtain rfl:=q.isA rfl|cases q)
noncomputable def rB(g:Int->Int->Int):D->D->Option D
 |.int i,.int j=>some (.int (g i j))
 |_,_=>none
def Dc{g:Int->Int->Int}:gY K (hU λi j=>.int (g i j)) (rB g):=λH R x y d e u Q s rx ry q k=>by
 unfold rB at q;split at q
 .rename_i i j
  (first|obtain rfl:=q.isA rfl|cases q)
  (first|obtain rfl:=rx.isA rfl|cases rx)
  (first|obtain rfl:=ry.isA rfl|cases ry)
  exact⟨i,j,rfl,rfl,k _ H R (Ext.refl s) (.int _)⟩
 ·(first|obtain rfl:=q.isA rfl|cases q)
noncomputable def pH(g:Int->Int->Bool):D->D->Option D
 |.int i,.int j=>some (.bl (g i j))
 |_,_=>none
end
section
variable{K:am}{Z:Anc}{O:Zg}{t ta tb tc:TE}{tA tB':TT}{tr:TA}{fa fb fc:aJ}{ga gb:dL}{fs:aS}
def bB(f:aJ):dL:=bO f λd=>da (match d with
 |.bl b=>some b
 |_=>none)
def mx(h:ME K O t fa):MT K O (DG t) (bB fa):=λZ J H R M b M' Q S e k=>by
 let⟨d,M1,e1,e⟩:=bD e;obtain⟨e2,rfl⟩:=cQ e;refine h Z J H R M d _ _ S e1 λv H' R' S' st r=>?_
 (first|split at e2)
 .obtain rfl:=r.isA rfl;cases e2;exact⟨_,rfl,k H' R' S' st⟩
 .cases e2
def pe(h:ME K O t fa):MT K O (tB t) (bB fa):=λZ J H R M b M' Q S e k=>by
 let⟨d,M1,e1,e⟩:=bD e;obtain⟨e2,rfl⟩:=cQ e;refine h Z J H R M d _ _ S e1 λv H' R' S' st r=>?_
 (first|split at e2)
 .obtain rfl:=r.isA rfl;cases e2;exact⟨_,rfl,k H' R' S' st⟩
 .cases e2
def fB(f:dL):dL:=bO f λb=>ae (!b)
def uf(h:MT K O tA ga):MT K O (rM tA) (fB ga):=λZ J H R M b M' Q S e k=>by let⟨c,M1,e1,e⟩:=bD e;cases e;exact h Z J H R M c _ _ S e1 λH' R' S' st=>k H' R' S' st
def lG(f g:dL):dL:=bO f λb=>if b=true then g else ae false
def gX(f g:dL):dL:=bO f λb=>if b=true then ae true else g
def Ee(h:MT K O tA ga)(h2:MT K O tB' gb):MT K O (rN tA tB') (lG ga gb):=λZ J H R M b M' Q S e k=>by
 let⟨c,M1,e1,e⟩:=bD e;refine h Z J H R M c _ _ S e1 λH' R' S' st=>?_;cases c with
 |true=>exact eW (h2 Z J H' R' M1 b M' Q S' e λH2 R2 S2 st2=>k H2 R2 S2 (st.trans st2))
 |false=>cases e;exact eX (k H' R' S' st)
def tT(h:MT K O tA ga)(h2:MT K O tB' gb):MT K O (CK tA tB') (gX ga gb):=λZ J H R M b M' Q S e k=>by
 let⟨c,M1,e1,e⟩:=bD e;refine h Z J H R M c _ _ S e1 λH' R' S' st=>?_;cases c with
 |true=>cases e;exact eW (k H' R' S' st)
 |false=>exact eX (h2 Z J H' R' M1 b M' Q S' e λH2 R2 S2 st2=>k H2 R2 S2 (st.trans st2))
def qv(f g:aJ):aJ:=bO (bB f) λb=>if b=true then g else ae (.bl false)
def tR(f:aJ):aJ:=bO (bB f) λb=>ae (.bl (!b))
def D9(h:ME K O ta fa)(h2:ME K O tb fb):ME K O (Dt ta tb) (qv fa fb):=λZ J H R M d M' Q S e k=>by
 let⟨c,M1,e1,e⟩:=bD e;let⟨x,M2,e1,e2⟩:=bD e1;obtain⟨e2,rfl⟩:=cQ e2;refine h Z J H R M x _ _ S e1 λv H' R' S' st r=>?_
 (first|split at e2)
 .obtain rfl:=r.isA rfl;cases e2;refine⟨_,rfl,?_⟩;cases c with
  |true=>exact eW (h2 Z J H' R' _ d M' Q S' e λv H2 R2 S2 st2 r2=>k v H2 R2 S2 (st.trans st2) r2)
  |false=>cases e;exact eX (k _ H' R' S' st (.bl false))
 .cases e2
def qw4(h:ME K O ta fa):ME K O (DF ta) (tR fa):=λZ J H R M d M' Q S e k=>by
 let⟨c,M1,e1,e⟩:=bD e;let⟨x,M2,e1,e2⟩:=bD e1;obtain⟨e2,rfl⟩:=cQ e2;refine h Z J H R M x _ _ S e1 λv H' R' S' st r=>?_
 (first|split at e2)
 .obtain rfl:=r.isA rfl;cases e2;cases e;exact⟨_,rfl,k _ H' R' S' st (.bl _)⟩
 .cases e2
def iP(f:dL)(g h:aJ):aJ:=bO f λb=>if b=true then g else h
def wL(h:MT K O tA ga)(h1:ME K O ta fa)(h2:ME K O tb fb):ME K O (wF tA ta tb) (iP ga fa fb):=λZ J H R M d M' Q S e k=>by
 let⟨c,M1,e1,e⟩:=bD e;refine h Z J H R M c _ _ S e1 λH' R' S' st=>?_;cases c with
 |true=>exact eW (h1 Z J H' R' M1 d M' Q S' e λv H2 R2 S2 st2 r2=>k v H2 R2 S2 (st.trans st2) r2)
 |false=>exact eX (h2 Z J H' R' M1 d M' Q S' e λv H2 R2 S2 st2 r2=>k v H2 R2 S2 (st.trans st2) r2)
def af:aS:=ae []
def ak(f:aJ)(g:aS):aS:=bO f λx=>bO g λxs=>ae (x::xs)
def aR:MA K O fy af:=λZ J H R M ds M' Q S e k=>by cases e;exact k [] H R S (Stp.refl _ _ _ _) .nil
def aB(h:ME K O t fa)(h2:MA K O tr fs):MA K O (iT t tr) (ak fa fs):=λZ J H R M ds M' Q S e k=>by let⟨x,M1,e1,e⟩:=bD e;let⟨xs,M2,e2,e⟩:=bD e;cases e;refine h Z J H R M x _ _ S e1 λv H1 R1 S1 st1 r1=>h2 Z J H1 R1 M1 xs _ _ S1 e2 λvs H2 R2 S2 st2 r2=>?_;exact k (v::vs) H2 R2 S2 (st1.trans st2) (.cons (r1.mono st2.r) r2)
def bZ(f:aS):aJ:=bO f λxs=>da (if xs.length<=sizeLine then some (.tup xs)else none)
def jO(h:MA K O tr fs):ME K O (rK tr) (bZ fs):=λZ J H R M d M' Q S e k=>by
 let⟨xs,M1,e1,e⟩:=bD e;obtain⟨e2,rfl⟩:=cQ e;refine h Z J H R M xs _ _ S e1 λvs H1 R1 S1 st1 r1=>?_;split at e2
 .rename_i hz;cases e2;refine⟨by rw[r1.length];exact hz,λp np=>?_⟩;have x:=Ext.new (o:=.tup vs) S1.sub np;exact k _ _ _ (S1.ext x) (st1.trans x.stp) (.tup cr (r1.mono x.r))
 .cases e2
def aV(f:aS):aS:=bO f λxs=>da (if xs.length<=sizeLine then some xs else none)
def StR.out{J:St}{H R:Hp}{M:av}{l:Addr}(S:StR K Z O J H R M)(h:H l=none):R l=none:=by
 cases q:R l with
 |none=>rfl
 |some o=>rw[S.sub l o q]at h;cases h
def Stp.new{J:St}{H R H' R':Hp}{l:Addr}(x:Stp O J H R H' R')(h:H' l=none):H l=none:=by
 cases q:H l with
 |none=>rfl
 |some o=>exact absurd h (x.d l (by rw[q];exact λz=>nomatch z)).1
def gA(h:MA K O tr fs):MN K O (ny tr) (aV fs):=λZ J H R M ds M' Q S e k=>by
 let⟨xs,M1,e1,e⟩:=bD e;obtain⟨e2,rfl⟩:=cQ e;refine h Z J H R M xs _ _ S e1 λvs H1 R1 S1 st1 r1=>?_;split at e2
 .rename_i hz;cases e2;refine⟨by rw[r1.length];exact hz,λp np=>?_⟩;have x:=Ext.hid (o:=.lst vs) S1.sub np;exact k p vs _ _ (S1.ext x) (st1.trans x.stp) (st1.new np) cr (S1.out np) r1
 .cases e2
def oM(K:am)(r:List V->Hp->VK->Prop)(g:D->Option D):Prop:=∀(H:Hp) (x:V) (d u:D) (Q:VK),Rp K H x d->g d=some u->(∀v,Sc v u->Q v H)->r [x] H Q
def aG(g:D->Option D)(f:aJ):aJ:=bO f λx=>da (g x)
def gT{r:List V->Hp->VK->Prop}{g:D->Option D}(h:oM K r g)(ha:MB K O t fa):ME K O (jZ r (iT t fy)) (aG g fa):=λZ J H R M d M' Q S e k=>by let⟨x,M1,e1,e⟩:=bD e;obtain⟨e2,rfl⟩:=cQ e;refine ha Z J H R M x _ _ S e1 λv H1 R1 S1 st1 r1=>?_;exact h H1 v x d Q r1 e2 λw z=>k w H1 R1 S1 st1 z.rp
noncomputable def bU:D->Option D
 |.lst xs=>some (.int xs.length)
 |.tup xs=>some (.int xs.length)
 |_=>none
def kC:oM K (λxs H Q=>∃p ys,xs=[.ref p]/\(SqL K H p ys∨SqT K H p ys)/\Q (.int ys.length) H) bU:=λH x d u Q r e k=>by
 (first|split at e|(unfold bU at e;split at e))
 .obtain⟨_,_,rfl,h,q⟩:=r.isL;cases e;refine⟨_,_,rfl,.inl h,?_⟩;rw[q.length];exact k _ (.int _)
 .obtain⟨_,_,rfl,h,q⟩:=r.isT;cases e;refine⟨_,_,rfl,.inr (SqT.of h),?_⟩;rw[q.length];exact k _ (.int _)
 .cases e
noncomputable def iD:D->Option D
 |.int i=>some (.int i)
 |.bl b=>some (.int (if b then 1 else 0))
 |_=>none
def DT:oM K (λxs H Q=>(∃i,xs=[.int i]/\Q (.int i) H)∨∃k,xs=[.bl k]/\Q (.int (if k then 1 else 0)) H) iD:=λH x d u Q r e k=>by
 (first|split at e|(unfold iD at e;split at e))
 .rename_i i;obtain rfl:=r.isA rfl;cases e;exact .inl ⟨i,rfl,k _ (.int _)⟩
 .rename_i b;obtain rfl:=r.isA rfl;cases e;exact .inr ⟨b,rfl,k _ (.int _)⟩
 .cases e
noncomputable def dH:List D->Option (List Int)
 |[]=>some []
 |.int i::r=>(dH r).map (i:: ·)
 |_=>none
noncomputable def iV:List D->Option (List Bool)
 |[]=>some []
 |.bl i::r=>(iV r).map (i:: ·)
 |_=>none
theorem m9{R:Hp}:∀{xs:List V} {ds:List D} {ns:Zf},Rps K R xs ds->dH ds=some ns->xs=ns.map V.int
 |_,_,ns,.nil,e=>by cases e;rfl
 | _,_,ns,.cons (d:=d) h r,e=>by
  cases h with
  | int i=>
   unfold dH at e;cases q:dH _ with
   |none=>rw[q]at e;cases e
   |some ms=>rw[q]at e;cases e;rw[m9 r q];rfl
  |_=>cases e
theorem G9{R:Hp}:∀{xs:List V} {ds:List D} {ns:List Bool},Rps K R xs ds->iV ds=some ns->xs=ns.map V.bl
 |_,_,ns,.nil,e=>by cases e;rfl
 | _,_,ns,.cons (d:=d) h r,e=>by
  cases h with
  | bl i=>
   unfold iV at e;cases q:iV _ with
   |none=>rw[q]at e;cases e
   |some ms=>rw[q]at e;cases e;rw[G9 r q];rfl
  |_=>cases e
theorem i3:∀ns:List Int,dH (ns.map D.int)=some ns
 |[]=>rfl
 |n::ns=>by rw[x8,dH,i3 ns];rfl
theorem G8:∀ns:List Bool,iV (ns.map D.bl)=some ns
 |[]=>rfl
 |n::ns=>by rw[x8,iV,G8 ns];rfl
def eI:D->Option D
 |.lst xs=>(dH xs).map λns=>.int ns.sum
 |_=>none
def xT:oM K (λxs H Q=>∃(p:Addr) (ns:Zf),xs=[.ref p]/\SqL K H p (ns.map V.int)/\Q (.int ns.sum) H) eI:=λH x d u Q r e k=>by
 cases r with
 | lst h q=>
  rename_i ds;have e':(dH ds).map (λns=>D.int ns.sum)=some u:=e;cases z:dH ds with
  |none=>rw[z]at e';cases e'
  | some ns=>
   rw[z]at e';cases e';have ex:=m9 q z;subst ex;exact⟨_,ns,rfl,h,k _ (.int _)⟩
 |_=>cases e
def jp:D->Option D
 |.lst xs=>(iV xs).map λbs=>.bl (bs.all id)
 |_=>none
def DR:oM K (λxs H Q=>∃(p:Addr) (bs:List Bool),xs=[.ref p]/\SqL K H p (bs.map V.bl)/\Q (.bl (bs.all id)) H) jp:=λH x d u Q r e k=>by
 cases r with
 | lst h q=>
  rename_i ds;have e':(iV ds).map (λbs=>D.bl (bs.all id))=some u:=e;cases z:iV ds with
  |none=>rw[z]at e';cases e'
  | some ns=>
   rw[z]at e';cases e';have ex:=G9 q z;subst ex;exact⟨_,ns,rfl,h,k _ (.bl _)⟩
 |_=>cases e
end
def ItOk(K:am)(σ:It)(R:Hp)(ds:List D):Prop:=∀(H' R':Hp),Same R R'->(∀a o,R' a=some o->H' a=some o)->∀i:Nat,(i=ds.length->σ.stop i H')/\∀d,ds[i]? =some d->σ.go i H'/\∀x H'',σ.yld i H' x H''->∃R'',Ext H' R' H'' R''/\Rp K R'' x d
def ItOk.mono{K:am}{σ:It}{R R1:Hp}{ds:List D}(h:ItOk K σ R ds)(s:Same R R1):ItOk K σ R1 ds:=λH' R' s' b=>h H' R' (s.trans s') b
def MI(K:am)(O:Zg)(wi:TI)(f:aS):Prop:=∀(Z:Anc) (J:St) (H R:Hp) (M:av) (ds:List D) (M':av) (Q:It->Hp->Prop),StR K Z O J H R M->f M=some (ds,M')->(∀σ H' R',StR K Z O J H' R' M'->Stp O J H R H' R'->ItOk K σ R' ds->Q σ H')->wi J H Q
def sB(K:am)(tl:TE):TI:=λJ H R=>wJ K tl J H R∨nY K tl J H R
def fu{X:Cx}{K:am}{tg l:Expr}{tl:TE}(h:X.K=K)(hl:PE X l tl):PI X tg l (sB K tl):=λz5 s J H R I q=>by
 rcases q with q|q
 .exact qkw h hl z5 s J H R I q
 .exact qpj h hl z5 s J H R I q
def bn(f:aJ):aS:=bO f λd=>da (match d with
 |.lst xs=>some xs
 |.tup xs=>some xs
 |_=>none)
section
variable{K:am}{O:Zg}{t:TE}{tr:TA}{fa:aJ}{fs:aS}
def qqs{R:Hp}{a:Addr}{xs:List V}{ds:List D}(h:SqL K R a xs)(r:Rps K R xs ds):ItOk K (AA K a) R ds:=λH' R' s b i=>by have q:SqL K H' a xs:=Same.sqL b (Same.sqL s h);refine⟨λe=>⟨xs,q,by rw[r.length];omega⟩,λd e=>?_⟩;let⟨v,h1,h2⟩:=r.get e;refine⟨⟨xs,v,q,h1⟩,λx H'' y=>?_⟩;obtain⟨rfl,y⟩:=y;have ex:=y xs q;rw[h1]at ex;cases ex;exact⟨R',Ext.refl b,h2.mono s⟩
def qwn{R:Hp}{a:Addr}{xs:List V}{ds:List D}(h:SqT K R a xs)(r:Rps K R xs ds):ItOk K (Az K a) R ds:=λH' R' s b i=>by have q:SqT K H' a xs:=Same.tup b (Same.tup s h);refine⟨λe=>⟨xs,q,by rw[r.length];omega⟩,λd e=>?_⟩;let⟨v,h1,h2⟩:=r.get e;refine⟨⟨xs,v,q,h1⟩,λx H'' y=>?_⟩;obtain⟨rfl,y⟩:=y;have ex:=y xs q;rw[h1]at ex;cases ex;exact⟨R',Ext.refl b,h2.mono s⟩
def mr(h:ME K O t fa):MI K O (sB K t) (bn fa):=λZ J H R M ds M' Q S e k=>by
 let⟨d,M1,e1,e⟩:=bD e;obtain⟨e2,rfl⟩:=cQ e;cases d with
 | lst xs=>
  cases e2;refine .inl (h Z J H R M _ _ _ S e1 λv H1 R1 S1 st1 r1=>?_);obtain⟨_,_,rfl,q,r⟩:=r1.isL;exact⟨_,rfl,⟨_,Same.sqL S1.same q⟩,k _ H1 R1 S1 st1 (qqs q r)⟩
 | tup xs=>
  cases e2;refine .inr (h Z J H R M _ _ _ S e1 λv H1 R1 S1 st1 r1=>?_);obtain⟨_,_,rfl,q,r⟩:=r1.isT;exact⟨_,rfl,⟨_,SqT.of (S1.same _ _ q)⟩,k _ H1 R1 S1 st1 (qwn (SqT.of q) r)⟩
 |_=>cases e2
noncomputable def cK(lo:Int)(n:Nat):List D:=(List.range n).map λ(k:Nat)=>D.int (lo+(k:Int))
def qlu{R:Hp}(lo:Int)(n:Nat):ItOk K (vN lo n) R (cK lo n):=λH' R' s b i=>by
 have len:(cK lo n).length=n:=by simp[cK]
 refine⟨λe=>by show n<=i;omega,λd e=>?_⟩;have hi:i<n:=by have:=(List.getElem?_eq_some_iff.mp e).1;omega
 have ed:d=D.int (lo+(i:Int)):=by unfold cK at e;rw[jq,kc hi]at e;exact(jl e).symm
 subst ed;refine⟨hi,λx H'' y=>?_⟩;obtain⟨rfl,rfl⟩:=y;exact⟨R',Ext.refl b,.int _⟩
noncomputable def eQ(j:Int):Bool:=decide (-(2^62)<=j)&&decide (j<2^62)
def fU(f:aS):aS:=bO f λds=>da (match ds with
 |[.int j]=>if eQ j=true then some (cK 0 j.toNat)else none
 |_=>none)
def ng(h:MA K O tr fs):MI K O (wK tr) (fU fs):=λZ J H R M ds M' Q S e k=>by
 let⟨xs,M1,e1,e⟩:=bD e;obtain⟨e2,rfl⟩:=cQ e;split at e2
 .rename_i j;split at e2
  .rename_i hb;cases e2;refine h Z J H R M _ _ _ S e1 λvs H1 R1 S1 st1 r1=>?_;obtain⟨_,_,rfl,q,r⟩:=r1.isC
   (first|obtain rfl:=r.isA rfl|cases r)
   (first|obtain rfl:=q.isA rfl|cases q)
   unfold eQ at hb;rw[Bool.and_eq_true]at hb;exact⟨j,rfl,of_decide_eq_true hb.1,of_decide_eq_true hb.2,k _ H1 R1 S1 st1 (qlu 0 _)⟩
  .cases e2
 .cases e2
end
def MG(K:am)(O T:Zg)(g:TG)(f:dW):Prop:=∀(Z:Anc) (J:St) (H R:Hp) (M:av) (x:V) (d:D) (M':av) (Q:St->Hp->Prop),StR K Z O J H R M->Rp K R x d->f d M=some M'->(∀J',StR K Z O J' H R M'->(∀j,j∉T->J'[j]? =J[j]?)->Q J' H)->g x J H Q
def vL(K:am)(O T:Zg)(g:jW)(f:List D->av->Option av):Prop:=∀(Z:Anc) (J:St) (H R:Hp) (M:av) (xs:List V) (ds:List D) (M':av) (Q:St->Hp->Prop),StR K Z O J H R M->Rps K R xs ds->f ds M=some M'->(∀J',StR K Z O J' H R M'->(∀j,j∉T->J'[j]? =J[j]?)->Q J' H)->g xs J H Q
noncomputable def ai(i:Nat):dW:=λd M=>some (M.set i (some d))
noncomputable def fT:List D->av->Option av:=λds M=>match ds with
 |[]=>some M
 |_=>none
noncomputable def db(f:dW)(g:List D->av->Option av):List D->av->Option av:=λds M=>match ds with
 | d::r=>match f d M with
  |some M1=>g r M1
  |none=>none
 |[]=>none
noncomputable def fP(n:Nat)(f:List D->av->Option av):dW:=λd M=>match d with
 |.tup ds=>if ds.length=n then f ds M else none
 |_=>none
section
variable{K:am}{O T T':Zg}{g:TG}{gs:jW}{f:dW}{fs:List D->av->Option av}
def dz{i:Nat}(hi:i∉O:=by decide):MG K O [i] (gh i) (ai i):=λZ J H R M x d M' Q S r e k=>by cases e;exact k _ (S.set hi r) λj hj=>jv (λ(z:i=j)=>hj (by rw[z];exact List.mem_singleton_self j))
def pk:vL K O [] n9 fT:=λZ J H R M xs ds M' Q S r e k=>by
 cases r with
 |nil=>cases e;exact⟨rfl,k J S λ_ _=>rfl⟩
 |cons _ _=>cases e
def iY(h:MG K O T g f)(h2:vL K O T' gs fs):vL K O (T++T') (tP g gs) (db f fs):=λZ J H R M xs ds M' Q S r e k=>by
 cases r with
 |nil=>cases e
 | cons q r=>
  rename_i x xs d ds;unfold db at e;cases e1:f d M with
  |none=>simp only[e1]at e;cases e
  | some M1=>
   simp only[e1]at e;refine⟨x,xs,rfl,h Z J H R M x d M1 _ S q e1 λJ1 S1 n1=>h2 Z J1 H R M1 xs ds M' _ S1 r e λJ2 S2 n2=>?_⟩;refine k J2 S2 λj hj=>?_;rw[List.mem_append,not_or]at hj;rw[n2 j hj.2,n1 j hj.1]
def o8{n:Nat}(h:vL K O T gs fs):MG K O T (lM K n gs) (fP n fs):=λZ J H R M x d M' Q S r e k=>by
 cases r with
 | tup q rs=>
  unfold fP at e;simp only at e;split at e
  .rename_i hn;exact⟨_,_,rfl,SqT.of (S.same _ _ q),by rw[rs.length];exact hn,h Z J H R M _ _ M' Q S rs e k⟩
  .cases e
 |_=>cases e
end
noncomputable def hV(n:Nat)(js:Zg)(M:av):av:=List.replicate n none++js.map λj=>(M[j]?).join
noncomputable def fw:Option (Nat×Nat)->List Nat
 |none=>[]
 |some p=>[p.2]
noncomputable def gO(bw:Option (Nat×Nat))(M Mb:av):av:=match bw with
 |none=>M
 | some p=>match Mb[p.2]? with
  |some x=>M.set p.1 x
  |none=>M
noncomputable def fG(n:Nat)(js O:Zg)(bw:Option (Nat×Nat)):Bool:=match bw with
 |none=>js.all λj=>!O.contains j
 |some p=>O.contains p.1&&decide (n<=p.2)&&decide (js[p.2-n]? =some p.1)&&(List.range js.length).all λk=>decide (n+k=p.2)|| !O.contains (js.getD k 0)
noncomputable def cz(n:Nat)(js:Zg)(bw:Option (Nat×Nat))(fg:dW)(ft:dL)(fe:aJ):List D->aS
 |[],M=>some ([],M)
 | d::r,M=>match fg d (hV n js M)with
  |none=>none
  | some M1=>match ft M1 with
   |none=>none
   |some (false,M2)=>cz n js bw fg ft fe r (gO bw M M2)
   | some (true,M2)=>match fe M2 with
    |none=>none
    | some (y,M3)=>match cz n js bw fg ft fe r (gO bw M M3)with
     |none=>none
     |some (ys,M4)=>some (y::ys,M4)
section
variable{K:am}{Z Z':Anc}{O:Zg}{J σ4:St}{H R H6 R6:Hp}{M M3:av}{n:Nat}{js:Zg}{bw:Option (Nat×Nat)}
def qji:(hV n js M).length=n+js.length:=by simp[hV]
def qjj{i:Nat}{d:D}(e:(hV n js M)[i]? =some (some d)):n<=i/\∃j,js[i-n]? =some j/\M[j]? =some (some d):=by
 unfold hV at e;by_cases h:i<n
 .rw[ku (by simpa using h),kj,if_pos h]at e;cases e
 .refine⟨by omega,?_⟩;rw[ke (by simp;omega),jx,jq]at e;cases q:js[i-n]? with
  |none=>rw[q]at e;cases e
  | some j=>
   rw[q]at e;refine⟨j,rfl,?_⟩;have e':(M[j]?).join=some d:=jl e;cases z:M[j]? with
   |none=>rw[z]at e';cases e'
   |some o=>rw[z]at e';have:o=some d:=e';rw[this]
def qmp{i j:Nat}(h:n<=i)(e:js[i-n]? =some j){d:D}(q:M[j]? =some (some d)):(hV n js M)[i]? =some (some d):=by unfold hV;rw[ke (by simp;omega),jx,jq,e];show some ((M[j]?).join)=_;rw[q];rfl
def uy{i j:Nat}(h:n<=i)(e:js[i-n]? =some j){v:V}(q:J[j]? =some (some v)):(cY n js J)[i]? =some (some v):=by unfold cY;rw[ke (by simp;omega),jx,jq,e];show some ((J[j]?).join)=_;rw[q];rfl
def bwL(bw:Option (Nat×Nat))(J:St):Addr->Prop:=match bw with
 |none=>λ_=>False
 |some p=>λl=>J[p.1]? =some (some (.ref l))
def StR.block(S:StR K Z O J H R M)(hb:fG n js O bw=true):StR K ⟨H,R,bwL bw J,fw bw⟩ (fw bw) (cY n js J) H R (hV n js M):=by
 have noO:∀i j,n<=i->js[i-n]? =some j->i∉fw bw->j∉O:=λi j hi hj hn hO=>by
  cases bw with
  | none=>
   unfold fG at hb;have z:=List.all_eq_true.mp hb j (k8 hj);simp at z;exact z hO
  | some p=>
   unfold fG at hb;simp only[Bool.and_eq_true]at hb;have hk:i-n<js.length:=(List.getElem?_eq_some_iff.mp hj).1;have z:=List.all_eq_true.mp hb.2 (i-n) (List.mem_range.mpr hk);have ej:js.getD (i-n) 0=j:=by rw[jn,hj];rfl
   rw[ej]at z;simp only[Bool.or_eq_true,decide_eq_true_eq]at z;rcases z with z|z
   .exact hn (by show i∈[p.2];rw[List.mem_singleton];omega)
   .simp at z;exact z hO
 have jU:∀p,bw=some p->p.1∈O/\n<=p.2/\js[p.2-n]? =some p.1:=λp e=>by subst e;unfold fG at hb;simp only[Bool.and_eq_true,decide_eq_true_eq]at hb;exact⟨by simpa using hb.1.1.1,hb.1.1.2,hb.1.2⟩
 have only:∀i,i∈fw bw->∃p,bw=some p/\i=p.2:=λi hi=>by
  cases bw with
  |none=>exact absurd hi (by simp[fw])
  |some p=>exact⟨p,rfl,by simpa[fw]using hi⟩
 refine⟨S.sub,by rw[qji,FH],λi d hi e=>?_,λi hi=>?_,λi j hi hj hn=>?_,λa o e _=>e,Same.refl _,λa h=>.inl h,λa h=>.refl h,λi hi hp=>absurd hi hp,λi hi _ l e=>?_⟩
 .let⟨h1,j,h2,h3⟩:=qjj e;let⟨v,q1,q2⟩:=S.env j d (noO i j h1 h2 hi) h3;exact⟨v,uy h1 h2 q1,q2⟩
 .obtain⟨p,rfl,rfl⟩:=only i hi;let⟨h1,h2,h3⟩:=jU p rfl;let⟨l,vs,ds,q1,q2,q3⟩:=S.own p.1 h1;exact⟨l,vs,ds,qmp h2 h3 q1,uy h2 h3 q2,q3⟩
 .obtain⟨p,rfl,rfl⟩:=only i hi;obtain⟨p',e,rfl⟩:=only j hj;cases e;exact absurd rfl hn
 .obtain⟨p,rfl,rfl⟩:=only i hi;let⟨h1,h2,h3⟩:=jU p rfl;let⟨l',vs,ds,q1,q2,q3⟩:=S.own p.1 h1;rw[uy h2 h3 q2]at e;cases e;exact q2
def StR.back(S:StR K Z O J H R M)(hb:fG n js O bw=true)(Sb:StR K Z' (fw bw) σ4 H6 R6 M3)(st:Stp (fw bw) σ4 H R H6 R6)(hσ:∀p,bw=some p->σ4[p.2]? =J[p.1]?):
 StR K Z O J H6 R6 (gO bw M M3)/\Stp O J H R H6 R6:=by
 have jU:∀p,bw=some p->p.1∈O:=λp e=>by subst e;unfold fG at hb;simp only[Bool.and_eq_true,decide_eq_true_eq]at hb;simpa using hb.1.1.1
 have only:∀i,i∈fw bw->∃p,bw=some p/\i=p.2:=λi hi=>by
  cases bw with
  |none=>exact absurd hi (by simp[fw])
  |some p=>exact⟨p,rfl,by simpa[fw]using hi⟩
 have st':Stp O J H R H6 R6:=⟨st.r,λa o e n=>st.h a o e λi hi z=>by obtain⟨p,e1,rfl⟩:=only i hi;rw[hσ p e1]at z;exact n p.1 (jU p e1) z,st.n,st.d⟩
 have keepH0:∀a o,Z.H0 a=some o->¬Z.L a->H6 a=some o:=λa o e n=>by
  refine st'.h a o (S.ah a o e n) λi hi z=>?_;by_cases hp:i∈Z.P
  .exact n (S.ap i hi hp a z)
  .rw[S.ao i hi hp a z]at e;cases e
 have len:(gO bw M M3).length=M.length:=by
  unfold gO;cases bw with
  |none=>rfl
  | some p=>
   dsimp only;split
   .rw[xq]
   .rfl
 have other:∀i,(∀p,bw=some p->p.1≠i)->(gO bw M M3)[i]? =M[i]? :=λi h=>by
  unfold gO;cases bw with
  |none=>rfl
  | some p=>
   dsimp only;split
   .rw[jv (h p rfl)]
   .rfl
 refine⟨⟨Sb.sub,by rw[len];exact S.len,λi d hi e=>?_,λi hi=>?_,S.dis,keepH0,S.ar.trans st.r,λa h=>?_,λa h=>(S.ad a h).trans (st.d a (S.ad a h).1),S.ao,S.ap⟩,st'⟩
 .rw[other i λp e1 z=>hi (z▸jU p e1)]at e;let⟨v,h1,h2⟩:=S.env i d hi e;exact⟨v,h1,h2.mono st.r⟩
 .by_cases hp:∃p,bw=some p/\p.1=i
  .obtain⟨p,rfl,rfl⟩:=hp;let⟨l,vs,ds,q1,q2,q3,q4,q5⟩:=Sb.own p.2 (by simp[fw]);rw[hσ p rfl]at q2;let⟨_,_,_,g1,_⟩:=S.own p.1 hi;have ze:p.1<M.length:=(List.getElem?_eq_some_iff.mp g1).1;refine⟨l,vs,ds,?_,q2,q3,q4,q5⟩;unfold gO;dsimp only;rw[q1];exact xo ze
  .have hne:∀p,bw=some p->p.1≠i:=λp e z=>hp ⟨p,e,z⟩;let⟨l,vs,ds,q1,q2,q3,q4,q5⟩:=S.own i hi;have nob:∀j,j∈fw bw->σ4[j]? ≠some (some (.ref l)):=λj hj z=>by
    obtain⟨p,e1,rfl⟩:=only j hj;rw[hσ p e1]at z;exact S.dis p.1 i (jU p e1) hi (hne p e1) l z q2
   refine⟨l,vs,ds,by rw[other i hne];exact q1,q2,st.h l _ q3 nob,?_,q5.mono st.r⟩;cases q:R6 l with
   |none=>rfl
   | some o=>
    rcases st.n l (by rw[q];exact λz=>nomatch z)with z|z
    .exact absurd q4 z
    .exact(q5.noF q3 z).elim
 .rcases st.n a h with z|z
  .exact S.an a z
  .exact .inr (z.back (S.ad a))
end
def qfb{K:am}{Z:Anc}{O T:Zg}{J:St}{H R:Hp}{M M':av}{n:Nat}{js:Zg}{bw:Option (Nat×Nat)}{g:TG}{tt:TT}{te:TE}{fg:dW}{ft:dL}{fe:aJ}{σ:It}{ds ys:List D}{Fin:List V->Hp->Prop}
 (hb:fG n js O bw=true) (hg:MG K (fw bw) T g fg) (hT:∀p,bw=some p->p.2∉T) (ht:MT K (fw bw) tt ft) (he:ME K (fw bw) te fe) (S:StR K Z O J H R M) (ok:ItOk K σ R ds) (e:cz n js bw fg ft fe ds M=some (ys,M')) (hz:ds.length<=sizeLine)
 (fin:∀vs H' R',StR K Z O J H' R' M'->Stp O J H R H' R'->Rps K R' vs ys->vs.length<=sizeLine->Fin vs H'):vG g tt te (cY n js J) Fin σ H:=by
 refine⟨λi m vs H2=>m=ds.length-i/\i<=ds.length/\vs.length<=i/\∃R2 M2 ys1 ys2,StR K Z O J H2 R2 M2/\Stp O J H R H2 R2/\Rps K R2 vs ys1/\cz n js bw fg ft fe (ds.drop i) M2=some (ys2,M')/\ys1++ys2=ys,
  ⟨ds.length,by simp,Nat.zero_le _,Nat.zero_le _,R,M,[],ys,S,Stp.refl _ _ _ _,.nil,by rw[List.drop_zero];exact e,rfl⟩,?_⟩
 rintro i m vs H2 ⟨rfl,hi,hv,R2,M2,ys1,ys2,S2,st2,r2,e2,ey⟩;let⟨o1,o2⟩:=ok H2 R2 st2.r S2.sub i;by_cases hlt:i<ds.length
 .let⟨g1,g2⟩:=o2 ds[i] (ji hlt);rw[vh hlt]at e2;refine .inr ⟨g1,by omega,λvs' H'=>∃R' M2 ys1 ys2,vs'.length<=i+1/\StR K Z O J H' R' M2/\Stp O J H R H' R'/\Rps K R' vs' ys1/\cz n js bw fg ft fe (ds.drop (i+1)) M2=some (ys2,M')/\ys1++ys2=ys,?_,λx H3 y=>?_⟩
  .rintro vs' H' ⟨R',M3,mJ,zs2,q0,q1,q2,q3,q4,q5⟩;exact⟨ds.length-(i+1),by omega,rfl,hlt,q0,R',M3,mJ,zs2,q1,q2,q3,q4,q5⟩
  .let⟨R3,x3,r3⟩:=g2 x H3 y;have S3:=S2.ext x3;have B3:=S3.block hb;unfold cz at e2;cases e3:fg ds[i] (hV n js M2)with
   |none=>rw[e3]at e2;cases e2
   | some Mb1=>
    rw[e3]at e2;dsimp only at e2;refine hg _ _ _ _ _ x _ Mb1 _ B3 r3 e3 λσ4 S4 n4=>?_;have cap:∀p,bw=some p->σ4[p.2]? =J[p.1]? :=λp e1=>by rw[n4 p.2 (hT p e1)];subst e1;unfold fG at hb;simp only[Bool.and_eq_true,decide_eq_true_eq]at hb;let⟨l,_,_,_,q2,_⟩:=S3.own p.1 (by simpa using hb.1.1.1);rw[uy hb.1.1.2 hb.1.2 q2,q2]
    cases e4:ft Mb1 with
    |none=>rw[e4]at e2;cases e2
    | some c=>
     obtain⟨b,Mb2⟩:=c;rw[e4]at e2;refine ht _ σ4 H3 R3 Mb1 b Mb2 _ S4 e4 λH5 R5 S5 st5=>?_;cases b with
     | false=>
      dsimp only at e2;let⟨T1,T2⟩:=S3.back hb S5 st5 cap;exact eX ⟨R5,_,ys1,ys2,by omega,T1,(st2.trans x3.stp).trans T2,(r2.mono x3.r).mono st5.r,e2,ey⟩
     | true=>
      dsimp only at e2;cases e5:fe Mb2 with
      |none=>rw[e5]at e2;cases e2
      | some c=>
       obtain⟨y0,Mb3⟩:=c;rw[e5]at e2;dsimp only at e2;cases e6:cz n js bw fg ft fe (ds.drop (i+1)) (gO bw M2 Mb3)with
       |none=>rw[e6]at e2;cases e2
       | some c=>
        obtain⟨zs,M6⟩:=c;rw[e6]at e2;dsimp only at e2;cases e2;refine eW (he _ σ4 H5 R5 Mb2 y0 Mb3 _ S5 e5 λw H6 R6 S6 st6 r6=>?_);let⟨T1,T2⟩:=S3.back hb S6 (st5.trans st6) cap;refine⟨R6,_,ys1++[y0],zs,by rw[jr];show vs.length+1<=i+1;omega,T1,(st2.trans x3.stp).trans T2,(((r2.mono x3.r).mono st5.r).mono st6.r).snoc r6,e6,?_⟩;rw[<-ey,List.append_assoc];rfl
 .have ei:i=ds.length:=by omega
  subst ei;rw[List.drop_length]at e2;unfold cz at e2;cases e2;rw[List.append_nil]at ey;subst ey;exact .inl ⟨o1 rfl,by omega,fin vs H2 R2 S2 st2 r2 (by omega)⟩
def ck(n:Nat)(js:Zg)(bw:Option (Nat×Nat))(fi:aS)(fg:dW)(ft:dL)(fe:aJ):aS:=bO fi λds M=>if ds.length<=sizeLine then cz n js bw fg ft fe ds M else none
def kH{K:am}{O:Zg}:MT K O ip (ae true):=λZ J H R M b M' Q S e k=>by cases e;exact k H R S (Stp.refl _ _ _ _)
def iX{K:am}{O T:Zg}{n:Nat}{js:Zg}{bw:Option (Nat×Nat)}{wi:TI}{g:TG}{tt:TT}{te:TE}{fi:aS}{fg:dW}{ft:dL}{fe:aJ}
 (hi:MI K O wi fi) (hg:MG K (fw bw) T g fg) (ht:MT K (fw bw) tt ft) (he:ME K (fw bw) te fe) (hb:fG n js O bw=true:=by decide) (hT:∀p,bw=some p->p.2∉T:=by decide):MN K O (qq n js wi g tt te) (ck n js bw fi fg ft fe):=λZ J H R M ds M' Q S e k=>by
 let⟨xs,M1,e1,e⟩:=bD e;split at e
 .rename_i hz;refine hi Z J H R M xs M1 _ S e1 λσ H1 R1 S1 st1 ok=>?_;refine qfb hb hg hT ht he S1 ok e hz λvs H2 R2 S2 st2 r2 l2 D nD=>?_;have x:=Ext.hid (o:=.lst vs) S2.sub nD;exact k D vs _ _ (S2.ext x) ((st1.trans st2).trans x.stp) ((st1.trans st2).new nD) cr (S2.out nD) r2
 .cases e
inductive Out where
 |nx (M:av)
 |rt (d:D) (M:av)
 |bk (M:av)
 |ct (M:av)
abbrev aH:=av->Option Out
structure MC where
 K:PySem.W.Frag
 fr:Bool
 P:List Nat
 Ol:List Nat
def pJ(K:am)(fr:Bool)(H:Hp)(v:V)(d:D)(H' R':Hp):Prop:=match fr with
 |false=>Rp K R' v d
 |true=>∃l vs ds,v=.ref l/\d=.lst ds/\H l=none/\H' l=some (.lst vs)/\R' l=none/\Rps K R' vs ds
def Ends.ok(c:MC)(Z:Anc)(O':Zg)(R:Hp)(E:Ends):Out->Prop
 |.nx M'=>∀J' H' R',StR c.K Z O' J' H' R' M'->Same R R'->E.nx J' H'
 |.bk M'=>∀J' H' R',StR c.K Z c.Ol J' H' R' M'->Same R R'->E.bk J' H'
 |.ct M'=>∀J' H' R',StR c.K Z c.Ol J' H' R' M'->Same R R'->E.ct J' H'
 |.rt d M'=>∀v J' H' R',StR c.K Z c.P J' H' R' M'->pJ c.K c.fr Z.H0 v d H' R'->E.rt v H'
def MS(c:MC)(O O':Zg)(t:TS)(f:aH):Prop:=∀(Z:Anc) (E:Ends) (J:St) (H R:Hp) (M:av) (o:Out),Z.P=c.P->StR c.K Z O J H R M->f M=some o->E.ok c Z O' R o->t E J H
noncomputable def cA(c:MC)(O O':Zg):Bool:=O'.all (λi=>O.contains i)&&c.P.all λi=>!O.contains i||O'.contains i
section
variable{c:MC}{O O' O1:Zg}{t u:TS}{te:TE}{tt:TT}{g:TG}{f h:aH}{fe:aJ}{fn:aS}{ft:dL}{fg:dW}
def StR.sub'{Z:Anc}{J:St}{H R:Hp}{M:av}(S:StR c.K Z O J H R M)(hP:Z.P=c.P)(hs:cA c O O'=true):StR c.K Z O' J H (c7 O O' J H R) M/\Same R (c7 O O' J H R):=by
 unfold cA at hs;simp only[Bool.and_eq_true,List.all_eq_true]at hs;refine S.freeze (λi hi=>by simpa using hs.1 i hi) λi hi hO=>?_;rw[hP]at hi;have z:=hs.2 i hi;simp only[Bool.or_eq_true]at z;rcases z with z|z
 .simp at z;exact absurd hO z
 .simpa using z
noncomputable def bh:aH:=λM=>some (.nx M)
def gB(hs:cA c O O'=true):MS c O O' DE bh:=λZ E J H R M o hP S e k=>by cases e;let⟨S',s⟩:=S.sub' hP hs;exact k J H _ S' s
noncomputable def aq(f h:aH):aH:=λM=>match f M with
 |none=>none
 |some (.nx M1)=>h M1
 |some o=>some o
def aY(h1:MS c O O1 t f)(h2:MS c O1 O' u h):MS c O O' (i7 t u) (aq f h):=λZ E J H R M o hP S e k=>by
 unfold aq at e;cases e1:f M with
 |none=>rw[e1]at e;cases e
 | some o1=>
  rw[e1]at e;cases o1 with
  | nx M1=>
   refine h1 Z _ J H R M _ hP S e1 λJ' H' R' S' s'=>?_;refine h2 Z E J' H' R' M1 o hP S' e ?_;cases o with
   |nx M'=>exact λJ2 H2 R2 S2 s2=>k J2 H2 R2 S2 (s'.trans s2)
   |bk M'=>exact λJ2 H2 R2 S2 s2=>k J2 H2 R2 S2 (s'.trans s2)
   |ct M'=>exact λJ2 H2 R2 S2 s2=>k J2 H2 R2 S2 (s'.trans s2)
   |rt d M'=>exact k
  |bk M1=>cases e;exact h1 Z _ J H R M _ hP S e1 k
  |ct M1=>cases e;exact h1 Z _ J H R M _ hP S e1 k
  |rt d M1=>cases e;exact h1 Z _ J H R M _ hP S e1 k
noncomputable def aA(i:Nat)(fe:aJ):aH:=λM=>match fe M with
 |none=>none
 |some (d,M1)=>some (.nx (M1.set i (some d)))
def cc{i:Nat}(he:ME c.K O te fe)(hs:cA c O O'=true:=by rfl)(hi:i∉O':=by decide):MS c O O' (eH te (gh i)) (aA i fe):=λZ E J H R M o hP S e k=>by
 unfold aA at e;cases e1:fe M with
 |none=>rw[e1]at e;cases e
 | some p=>
  obtain⟨d,M1⟩:=p;rw[e1]at e;cases e;refine he Z J H R M d M1 _ S e1 λv H1 R1 S1 st1 r1=>?_;let⟨S2,s2⟩:=S1.sub' hP hs;exact k _ H1 _ (S2.set hi (r1.mono s2)) (st1.r.trans s2)
noncomputable def cE(i:Nat)(fn:aS):aH:=λM=>match fn M with
 |none=>none
 |some (ds,M1)=>if i<M1.length then some (.nx (M1.set i (some (.lst ds))))else none
def lA(c:MC)(i:Nat)(O O':Zg):Bool:=cA c O (O'.filter λj=>decide (j≠i))&&O'.contains i&& !c.P.contains i
def kG{i:Nat}(he:MN c.K O te fn)(hs:lA c i O O'=true):MS c O O' (eH te (gh i)) (cE i fn):=λZ E J H R M o hP S e k=>by
 unfold cE at e;unfold lA at hs;simp only[Bool.and_eq_true]at hs;cases e1:fn M with
 |none=>rw[e1]at e;cases e
 | some p=>
  obtain⟨ds,M1⟩:=p;rw[e1]at e;dsimp only at e;split at e
  .rename_i ze;cases e;refine he Z J H R M ds M1 _ S e1 λl vs H1 R1 S1 st1 h0 hH hR r1=>?_;let⟨S2,s2⟩:=S1.sub' hP hs.1.1;have notown:∀j,j∈O->J[j]? ≠some (some (.ref l)):=S.notnew h0;have hO':∀j,j∈O'.filter (λj=>decide (j≠i))->j∈O:=λj hj=>by
    have z:=hs.1.1;unfold cA at z;simp only[Bool.and_eq_true,List.all_eq_true]at z;simpa using z.1 j hj
   refine k _ H1 _ (S2.take (i:=i) (l:=l) (vs:=.lst vs) (ds:=.lst ds) (by simp) (by simpa using hs.1.2) (λj hj=>?_) (by rw[hP];simpa using hs.2) ze (S.new0 h0) hH ?_ (λj hj=>notown j (hO' j hj)) (λj hj=>(List.mem_filter.mp hj).1) (.lst (r1.mono s2))) (st1.r.trans s2)
   .by_cases z:j=i
    .exact .inl z
    .exact .inr (List.mem_filter.mpr ⟨hj,by simpa using z⟩)
   .unfold c7;rw[if_neg ?_]
    .exact hR
    .rintro⟨j,hj,_,z⟩;exact notown j hj z
  .cases e
noncomputable def i8(fe:aJ)(fg:dW):aH:=λM=>match fe M with
 |none=>none
 | some (d,M1)=>match fg d M1 with
  |none=>none
  |some M2=>some (.nx M2)
def qvx{T:Zg}(he:ME c.K O te fe)(hs:cA c O O'=true)(hg:MG c.K O' T g fg):MS c O O' (eH te g) (i8 fe fg):=λZ E J H R M o hP S e k=>by
 unfold i8 at e;cases e1:fe M with
 |none=>rw[e1]at e;cases e
 | some p=>
  obtain⟨d,M1⟩:=p;rw[e1]at e;dsimp only at e;cases e2:fg d M1 with
  |none=>rw[e2]at e;cases e
  | some M2=>
   rw[e2]at e;cases e;refine he Z J H R M d M1 _ S e1 λv H1 R1 S1 st1 r1=>?_;let⟨S2,s2⟩:=S1.sub' hP hs;exact hg Z J H1 _ M1 v d M2 _ S2 (r1.mono s2) e2 λJ' S3 _=>k J' H1 _ S3 (st1.r.trans s2)
noncomputable def cU(ft:dL)(f h:aH):aH:=λM=>match ft M with
 |none=>none
 |some (b,M1)=>if b=true then f M1 else h M1
def gw(ht:MT c.K O tt ft)(h1:MS c O O' t f)(h2:MS c O O' u h):MS c O O' (nA tt t u) (cU ft f h):=λZ E J H R M o hP S e k=>by
 unfold cU at e;cases e1:ft M with
 |none=>rw[e1]at e;cases e
 | some p=>
  obtain⟨b,M1⟩:=p;rw[e1]at e;dsimp only at e;refine ht Z J H R M b M1 _ S e1 λH1 R1 S1 st1=>?_;have k':E.ok c Z O' R1 o:=by
   cases o with
   |nx M'=>exact λJ2 H2 R2 S2 s2=>k J2 H2 R2 S2 (st1.r.trans s2)
   |bk M'=>exact λJ2 H2 R2 S2 s2=>k J2 H2 R2 S2 (st1.r.trans s2)
   |ct M'=>exact λJ2 H2 R2 S2 s2=>k J2 H2 R2 S2 (st1.r.trans s2)
   |rt d M'=>exact k
  cases b with
  |true=>exact eW (h1 Z E J H1 R1 M1 o hP S1 e k')
  |false=>exact eX (h2 Z E J H1 R1 M1 o hP S1 e k')
noncomputable def aF(fe:aJ):aH:=λM=>match fe M with
 |none=>none
 |some (d,M1)=>some (.rt d M1)
def cn(hf:c.fr=false)(he:ME c.K O te fe)(hs:cA c O c.P=true):MS c O O' (iq te) (aF fe):=λZ E J H R M o hP S e k=>by
 unfold aF at e;cases e1:fe M with
 |none=>rw[e1]at e;cases e
 | some p=>
  obtain⟨d,M1⟩:=p;rw[e1]at e;cases e;refine he Z J H R M d M1 _ S e1 λv H1 R1 S1 st1 r1=>?_;let⟨S2,s2⟩:=S1.sub' hP hs;refine k v J H1 _ S2 ?_;unfold pJ;rw[hf];exact r1.mono s2
noncomputable def mh(fn:aS):aH:=λM=>match fn M with
 |none=>none
 |some (ds,M1)=>some (.rt (.lst ds) M1)
def yT(hf:c.fr=true)(he:MN c.K O te fn)(hs:cA c O c.P=true):MS c O O' (iq te) (mh fn):=λZ E J H R M o hP S e k=>by
 unfold mh at e;cases e1:fn M with
 |none=>rw[e1]at e;cases e
 | some p=>
  obtain⟨ds,M1⟩:=p;rw[e1]at e;cases e;refine he Z J H R M ds M1 _ S e1 λl vs H1 R1 S1 st1 h0 hH hR r1=>?_;let⟨S2,s2⟩:=S1.sub' hP hs;refine k _ J H1 _ S2 ?_;unfold pJ;rw[hf];refine⟨l,vs,ds,rfl,rfl,S.new0 h0,hH,?_,r1.mono s2⟩;unfold c7;rw[if_neg ?_]
  .exact hR
  .rintro⟨j,hj,_,z⟩;exact S.notnew h0 j hj z
def StR.drop{K:am}{Z:Anc}{J:St}{H R:Hp}{M:av}{i:Nat}(S:StR K Z O J H R M)(hO:∀j,j∈O'->j∈O/\j≠i)(hc:∀j,j∈O->j≠i->j∈O'):StR K Z O' J H R (M.set i none):=by
 refine⟨S.sub,by rw[xq];exact S.len,λj d hj e=>?_,λj hj=>?_,λj k hj hk=>S.dis j k (hO j hj).1 (hO k hk).1,S.ah,S.ar,S.an,S.ad,λj hj=>S.ao j (hO j hj).1,λj hj=>S.ap j (hO j hj).1⟩
 .by_cases z:i=j
  .subst z;have hl:i<M.length:=by
    have:=(List.getElem?_eq_some_iff.mp e).1
    rwa [xq]at this
   rw[xo hl]at e;cases e
  .rw[jv z]at e;exact S.env j d (λq=>hj (hc j q (Ne.symm z))) e
 .let⟨l,vs,ds,h1,h2⟩:=S.own j (hO j hj).1;exact⟨l,vs,ds,by rw[jv (Ne.symm (hO j hj).2)];exact h1,h2⟩
noncomputable def mT(i:Nat):aH:=λM=>match M[i]? with
 |some (some (.lst xs))=>some (.rt (.lst xs) (M.set i none))
 |_=>none
def E8{i:Nat}(hf:c.fr=true)(hi:i∈O)(hs:cA c O (i::c.P)=true)(hp:i∉c.P):MS c O O' (iq (dq i)) (mT i):=λZ E J H R M o hP S e k=>by
 let⟨S2,s2⟩:=S.sub' hP hs;let⟨l,vs,ds,h1,h2,h3,h4,h5⟩:=S2.own i jj;unfold mT at e;rw[h1]at e;have hd:∃xs,ds=.lst xs:=by
  cases h5 with
  |lst _=>exact⟨_,rfl⟩
  |_=>cases e
 obtain⟨xs,rfl⟩:=hd;cases e;refine⟨.ref l,h2,k _ J H _ (S2.drop (i:=i) (O':=c.P) (λj hj=>⟨jh _ hj,λz=>hp (z▸hj)⟩) λj hj n=>?_) ?_⟩
 .rcases List.mem_cons.mp hj with z|z
  .exact absurd z n
  .exact z
 .unfold pJ;rw[hf];cases h5 with
  |lst h5=>exact⟨l,_,_,rfl,rfl,S2.ao i jj (by rw[hP];exact hp) l h2,h3,h4,h5⟩
noncomputable def tI:aH:=λM=>some (.ct M)
def qc5(hs:cA c O c.Ol=true):MS c O O' Du tI:=λZ E J H R M o hP S e k=>by cases e;let⟨S2,s2⟩:=S.sub' hP hs;exact k J H _ S2 s2
def qlh{O O':Zg}:MS c O O' EF (λ_=>none):=λZ E J H R M o hP S e k=>by cases e
noncomputable def eB(fg:dW)(fb:aH):List D->aH
 |[],M=>some (.nx M)
 | d::r,M=>match fg d M with
  |none=>none
  | some M1=>match fb M1 with
   |none=>none
   |some (.nx M2)=>eB fg fb r M2
   |some (.ct M2)=>eB fg fb r M2
   |some (.bk M2)=>some (.nx M2)
   |some (.rt d M2)=>some (.rt d M2)
def bS(fi:aS)(fg:dW)(fb:aH):aH:=λM=>match fi M with
 |none=>none
 |some (ds,M1)=>eB fg fb ds M1
def iJ{T:Zg}{wi:TI}{fi:aS}{tb:TS}{fb:aH}(hi:MI c.K O wi fi)(hs:cA c O O'=true)(hg:MG c.K O' T g fg)(hb:MS {c with Ol:=O'} O' O' tb fb):MS c O O' (nB wi g tb) (bS fi fg fb):=λZ E J H R M o hP S e k=>by
 unfold bS at e;cases e1:fi M with
 |none=>rw[e1]at e;cases e
 | some p=>
  obtain⟨ds,M1⟩:=p;rw[e1]at e;dsimp only at e;refine hi Z J H R M ds M1 _ S e1 λσ H1 R1 S1 st1 ok=>?_;let⟨S2,s2⟩:=S1.sub' hP hs;have ok2:=ok.mono s2;refine⟨λi m J' H'=>m=ds.length-i/\i<=ds.length/\∃R' M',StR c.K Z O' J' H' R' M'/\Same (c7 O O' J H1 R1) R'/\eB fg fb (ds.drop i) M'=some o,⟨ds.length,by simp,Nat.zero_le _,_,M1,S2,Same.refl _,by rw[List.drop_zero];exact e⟩,?_⟩;rintro i m J' H' ⟨rfl,hi',R',M',S',s',e'⟩;let⟨o1,o2⟩:=ok2 H' R' s' S'.sub i;by_cases hlt:i<ds.length
  .let⟨g1,g2⟩:=o2 ds[i] (ji hlt);rw[vh hlt]at e';refine .inr ⟨g1,λJ3 H3=>∃R3 M3,StR c.K Z O' J3 H3 R3 M3/\Same (c7 O O' J H1 R1) R3/\eB fg fb (ds.drop (i+1)) M3=some o,?_,λx H3 y=>?_⟩
   .rintro J3 H3 ⟨R3,M3,q1,q2,q3⟩;exact⟨ds.length-(i+1),by omega,rfl,hlt,R3,M3,q1,q2,q3⟩
   .let⟨R3,x3,r3⟩:=g2 x H3 y;have S3:=S'.ext x3;unfold eB at e';cases e3:fg ds[i] M' with
    |none=>rw[e3]at e';cases e'
    | some M4=>
     rw[e3]at e';dsimp only at e';refine hg Z J' H3 R3 M' x _ M4 _ S3 r3 e3 λσ4 S4 _=>?_;cases e4:fb M4 with
     |none=>rw[e4]at e';cases e'
     | some o4=>
           rw[e4]at e';refine hb Z _ σ4 H3 R3 M4 o4 hP S4 e4 ?_;cases o4 with
           |nx M5=>exact λσ5 H5 R5 S5 s5=>⟨R5,M5,S5,(s'.trans x3.r).trans s5,e'⟩
           |ct M5=>exact λσ5 H5 R5 S5 s5=>⟨R5,M5,S5,(s'.trans x3.r).trans s5,e'⟩
           | bk M5=>
            cases e';exact λσ5 H5 R5 S5 s5=>k σ5 H5 R5 S5 (((st1.r.trans s2).trans s').trans (x3.r.trans s5))
           | rt d M5=>
            cases e';exact k
  .have ei:i=ds.length:=by omega
   subst ei;rw[List.drop_length]at e';unfold eB at e';cases e';exact .inl ⟨o1 rfl,k J' H' R' S' ((st1.r.trans s2).trans s')⟩
noncomputable def gU(ft:dL)(fb:aH):Nat->aH
 |0,_=>none
 | n+1,M=>match ft M with
  |none=>none
  |some (false,M1)=>some (.nx M1)
  | some (true,M1)=>match fb M1 with
   |none=>none
   |some (.nx M2)=>gU ft fb n M2
   |some (.ct M2)=>gU ft fb n M2
   |some (.bk M2)=>some (.nx M2)
   |some (.rt d M2)=>some (.rt d M2)
def Gb{n:Nat}{tb:TS}{fb:aH}(ht:MT c.K O' tt ft)(hs:cA c O O'=true)(hb:MS {c with Ol:=O'} O' O' tb fb):MS c O O' (EH tt tb) (gU ft fb n):=λZ E J H R M o hP S e k=>by
 let⟨S2,s2⟩:=S.sub' hP hs;refine⟨λm J' H'=>∃R' M',StR c.K Z O' J' H' R' M'/\Same (c7 O O' J H R) R'/\gU ft fb m M'=some o,⟨n,_,M,S2,Same.refl _,e⟩,?_⟩;rintro m J' H' ⟨R',M',S',s',e'⟩;cases m with
 |zero=>cases e'
 | succ m=>
  unfold gU at e';cases e1:ft M' with
  |none=>rw[e1]at e';cases e'
  | some p=>
   obtain⟨b,M1⟩:=p;rw[e1]at e';refine ht Z J' H' R' M' b M1 _ S' e1 λH1 R1 S1 st1=>?_;cases b with
   | false=>
    dsimp only at e';cases e';exact eX (k J' H1 R1 S1 ((s2.trans s').trans st1.r))
   | true=>
    dsimp only at e';refine eW ⟨λJ3 H3=>∃R3 M3,StR c.K Z O' J3 H3 R3 M3/\Same (c7 O O' J H R) R3/\gU ft fb m M3=some o,λJ3 H3 q=>⟨m,Nat.lt_succ_self _,q⟩,?_⟩;cases e4:fb M1 with
    |none=>rw[e4]at e';cases e'
    | some o4=>
     rw[e4]at e';refine hb Z _ J' H1 R1 M1 o4 hP S1 e4 ?_;cases o4 with
     |nx M5=>exact λσ5 H5 R5 S5 s5=>⟨R5,M5,S5,(s'.trans st1.r).trans s5,e'⟩
     |ct M5=>exact λσ5 H5 R5 S5 s5=>⟨R5,M5,S5,(s'.trans st1.r).trans s5,e'⟩
     | bk M5=>
           cases e';exact λσ5 H5 R5 S5 s5=>k σ5 H5 R5 S5 ((s2.trans s').trans (st1.r.trans s5))
     | rt d M5=>
           cases e';exact k
end
section
variable{c:MC}{O O':Zg}{te ti:TE}{fe fi:aJ}{tr:TA}{fs:aS}
noncomputable def isL(M:av)(i:Nat):Bool:=match M[i]? with
 |some (some (.lst _))=>true
 |_=>false
def D5{K:am}{R:Hp}{M:av}{i:Nat}{o:HO}{d:D}(h:isL M i=true)(e:M[i]? =some (some d))(b:Ob K R o d):∃vs ds,o=.lst vs/\d=.lst ds/\Rps K R vs ds:=by
 unfold isL at h;rw[e]at h;cases b with
 |lst r=>exact⟨_,_,rfl,rfl,r⟩
 |_=>cases h
def dN(g:List D->List D->Option (List D))(i:Nat)(fs:aS):aH:=λM=>if isL M i=true then(match fs M with
 |none=>none
 | some (as,M1)=>match M1[i]? with
  | some (some (.lst xs))=>match g xs as with
   |some ys=>some (.nx (M1.set i (some (.lst ys))))
   |none=>none
  |_=>none)else none
def CM(K:am)(r:V->List V->Hp->VK->Prop)(g:List D->List D->Option (List D)):Prop:=∀(H R:Hp) (l:Addr) (xs:List V) (ds:List D) (vs:List V) (as bs:List D) (Q:VK),(∀a o,R a=some o->H a=some o)->H l=some (.lst xs)->R l=none->Rps K R xs ds->Rps K R vs as->g ds as=some bs->(∀ys,Rps K R ys bs->Q .non (aN H l (.lst ys)))->r (.ref l) vs H Q
def qB{r:V->List V->Hp->VK->Prop}{g:List D->List D->Option (List D)}{i:Nat}(hm:CM c.K r g)(hi:i∈O)(ha:MA c.K O tr fs)(hs:cA c O O'=true):MS c O O' (mU (tH c.K "list" r (dq i) tr)) (dN g i fs):=λZ E J H R M o hP S e k=>by
 unfold dN at e;split at e
 case isFalse=>cases e
 rename_i hL;cases e1:fs M with
 |none=>rw[e1]at e;cases e
 | some p=>
  obtain⟨as,M1⟩:=p;rw[e1]at e;dsimp only at e;let⟨l,vs,ds,h1,h2,h3,h4,h5⟩:=S.own i hi;obtain⟨us,_,rfl,rfl,_⟩:=D5 hL h1 h5;refine⟨.ref l,h2,.inl ⟨rfl,us,SqL.of h3⟩,ha Z J H R M as M1 _ S e1 λws H1 R1 S1 st1 r1=>?_⟩;let⟨l',vs',ds',g1,g2,g3,g4,g5⟩:=S1.own i hi;rw[h2]at g2;cases g2;rw[g1]at e;cases g5 with
  |dct _=>cases e
  |dit _=>cases e
  |lst g5=>
  rename_i vs' ds';dsimp only at e;cases e2:g ds' as with
  |none=>rw[e2]at e;cases e
  | some ys=>
   rw[e2]at e;cases e;refine hm H1 R1 l vs' ds' ws as ys _ S1.sub g3 g4 g5 r1 e2 λzs rz=>?_;let⟨S2,s2⟩:=(S1.write hi h2 (.lst rz)).sub' hP hs;exact k J _ _ S2 (st1.r.trans s2)
noncomputable def i4:List D->List D->Option (List D):=λxs as=>match as with
 |[d]=>if xs.length<sizeLine then some (xs++[d])else none
 |_=>none
def rd{K:am}:CM K y9 i4:=λH R l xs ds vs as bs Q s h hr r ra e k=>by
 cases ra with
 |nil=>cases e
 | cons q t=>
  cases t with
  |cons _ _=>cases e
  | nil=>
   rename_i x d;have e':(if ds.length<sizeLine then some (ds++[d])else none)=some bs:=e;split at e'
   .rename_i hz;cases e';exact⟨l,xs,x,rfl,rfl,h,by rw[r.length];exact hz,k _ (r.snoc q)⟩
   .cases e'
noncomputable def qxv:List D->List D->Option (List D):=λxs as=>match as with
 |[.int 0,d]=>if xs.length<sizeLine then some (d::xs)else none
 |_=>none
def qf(i:Nat)(fe fi:aJ):aH:=λM=>match fe M with
 |none=>none
 | some (d,M1)=>match fi M1 with
  | some (.int k,M2)=>match M2[i]? with
   | some (some (.lst xs))=>match e9 xs.length k with
    |some j=>some (.nx (M2.set i (some (.lst (xs.set j d)))))
    |none=>none
   |_=>none
  |_=>none
def qq9{i:Nat}(hi:i∈O)(he:ME c.K O te fe)(hx:ME c.K O ti fi)(hs:cA c O O'=true):MS c O O' (eH te (nZ (dq i) ti Dq)) (qf i fe fi):=λZ E J H R M o hP S e k=>by
 unfold qf at e;cases e1:fe M with
 |none=>rw[e1]at e;cases e
 | some p=>
  obtain⟨d,M1⟩:=p;rw[e1]at e;dsimp only at e;cases e2:fi M1 with
  |none=>rw[e2]at e;cases e
  | some p=>
   obtain⟨x,M2⟩:=p;rw[e2]at e;refine he Z J H R M d M1 _ S e1 λv H1 R1 S1 st1 r1=>?_;let⟨l,vs,ds,h1,h2,h3,h4,h5⟩:=S1.own i hi;refine⟨.ref l,h2,hx Z J H1 R1 M1 x M2 _ S1 e2 λw H2 R2 S2 st2 r2=>?_⟩;let⟨l',vs',ds',g1,g2,g3,g4,g5⟩:=S2.own i hi;rw[h2]at g2;cases g2;cases r2 with
   | int j=>
    dsimp only at e;rw[g1]at e;cases g5 with
    |dct _=>cases e
    |dit _=>cases e
    |lst g5=>
    rename_i vs' ds';dsimp only at e;cases e3:e9 ds'.length j with
    |none=>rw[e3]at e;cases e
    | some m=>
     rw[e3]at e;cases e;refine⟨l,vs',j,m,rfl,rfl,g3,by rw[g5.length];exact e3,?_⟩;let⟨S3,s3⟩:=(S2.write hi h2 (.lst (g5.set (r1.mono st2.r) m))).sub' hP hs;exact k J _ _ S3 ((st1.r.trans st2.r).trans s3)
   |_=>cases e
end
noncomputable def aM(fr:Bool)(n N:Nat)(f:aH)(ds:List D):Option D:=if ds.length=n then match f (ds.map some++List.replicate (N-n) none)with
 |some (.rt d _)=>some d
 |some (.nx _)=>if fr=true then none else some .non
 |_=>none
 else none
def cj(K:am)(fr:Bool)(n:Nat)(f:List D->Option D):Sp:=λvs H Q _=>vs.length=n/\∃R ds d,(∀a o,R a=some o->H a=some o)/\Rps K R vs ds/\f ds=some d/\∀v H' R',Ext H R H' R'->pJ K fr H v d H' R'->Q v H'
def rg{N:Zj}{vs:List V}{i:Nat}{v:V}(h:vs[i]? =some v):(aO N vs)[i]? =some (some v):=by unfold aO;have hi:i<vs.length:=(List.getElem?_eq_some_iff.mp h).1;rw[ku (by simpa using hi),jq,h];rfl
def re{ds:List D}{m i:Nat}{d:D}(h:(ds.map some++List.replicate m none)[i]? =some (some d)):ds[i]? =some d:=by
 by_cases hi:i<ds.length
 .rw[ku (by simpa using hi),jq]at h;cases q:ds[i]? with
  |none=>rw[q]at h;cases h
  |some e=>rw[q]at h;cases h;rfl
 .rw[ke (by simpa using hi),kj]at h;split at h<;>cases h
def HE{K:am}{fr:Bool}{n:Nat}{Nms:Zj}{O':Zg}{t:TS}{f:aH}{vs:List V}{H:Hp}{Q:VK}{E:XK}(hm:MS ⟨K,fr,[],[]⟩ [] O' t f)(h:cj K fr n (aM fr n Nms.length f) vs H Q E):t {nx:=λ_ H'=>Q .non H',rt:=Q} (aO Nms vs) H:=by
 obtain⟨hn,R,ds,d,sub,r,e,k⟩:=h;unfold aM at e;split at e
 .rename_i hl;have S:StR K ⟨H,R,λ_=>False,[]⟩ [] (aO Nms vs) H R (ds.map some++List.replicate (Nms.length-n) none):=by
   refine⟨sub,?_,λi d _ q=>?_,λi hi=>absurd hi (by simp),λi j hi=>absurd hi (by simp),λa o q _=>q,Same.refl _,λa q=>.inl q,λa q=>.refl q,λi hi=>absurd hi (by simp),λi hi=>absurd hi (by simp)⟩
   .unfold aO;rw[jr,jr,jb,jb,jx,jx,hn,hl]
   .let⟨v,h1,h2⟩:=r.get (re q);exact⟨v,rg h1,h2⟩
  have ext:∀{O1:Zg} {J':St} {H' R':Hp} {M':av},StR K ⟨H,R,λ_=>False,[]⟩ O1 J' H' R' M'->Ext H R H' R':=λS'=>⟨λa o q=>S'.ah a o q (λz=>z),S'.ar,S'.sub,S'.an⟩;cases e1:f (ds.map some++List.replicate (Nms.length-n) none)with
  |none=>rw[e1]at e;cases e
  | some o=>
   rw[e1]at e;refine hm _ _ _ _ _ _ o rfl S e1 ?_;cases o with
   | nx M'=>
    dsimp only at e;split at e
    .cases e
    .rename_i hf;cases e;refine λJ' H' R' S' _=>k .non H' R' (ext S') ?_;cases fr with
     |false=>exact .non
     |true=>exact absurd rfl hf
   |bk M'=>cases e
   |ct M'=>cases e
   | rt d' M'=>
    cases e;exact λv J' H' R' S' q=>k v H' R' (ext S') q
 .cases e
noncomputable def fZ(fr:Bool)(n N:Nat)(f:aH)(xs ds:List D):Option (D×List D):=if ds.length+1=n then match f (some (.lst xs)::(ds.map some++List.replicate (N-n) none))with
 | some (.rt d M)=>(match (M[0]? :Option (Option D))with
  |some (some (D.lst ys))=>some (d,ys)
  |_=>none)
 | some (.nx M)=>if fr=true then none else(match (M[0]? :Option (Option D))with
  |some (some (D.lst ys))=>some (.non,ys)
  |_=>none)
 |_=>none
 else none
structure ExtS(l:Addr)(H R H' R':Hp):Prop where
 h:∀a o,a≠l->H a=some o->H' a=some o
 r:Same R R'
 s:∀a o,R' a=some o->H' a=some o
 n:∀a,R' a≠none->R a≠none∨Frh H a
 d:∀a,H a≠none->Liv H H' a
def pV(K:am)(fr:Bool)(n:Nat)(f:List D->List D->Option (D×List D)):Sp:=λvs H Q _=>vs.length=n/\∃l ws R us xs ds d ys,vs=.ref l::ws/\H l=some (.lst us)/\R l=none/\(∀a o,R a=some o->H a=some o)/\Rps K R us xs/\Rps K R ws ds/\f xs ds=some (d,ys)/\
 ∀v H' R' us',ExtS l H R H' R'->H' l=some (.lst us')->R' l=none->Rps K R' us' ys->pJ K fr H v d H' R'->Q v H'
def Gq{K:am}{fr:Bool}{n:Nat}{Nms:Zj}{O':Zg}{t:TS}{f:aH}{vs:List V}{H:Hp}{Q:VK}{E:XK}(hm:MS ⟨K,fr,[0],[]⟩ [0] [0] t f)(h:pV K fr n (fZ fr n Nms.length f) vs H Q E):t {nx:=λ_ H'=>Q .non H',rt:=Q} (aO Nms vs) H:=by
 obtain⟨hn,l,ws,R,us,xs,ds,d,ys,rfl,hH,hR,sub,ru,r,e,k⟩:=h;unfold fZ at e;split at e
 .rename_i hl;have ln:ws.length+1=n:=by simpa using hn
  have S:StR K ⟨H,R,λa=>a=l,[0]⟩ [0] (aO Nms (.ref l::ws)) H R (some (.lst xs)::(ds.map some++List.replicate (Nms.length-n) none)):=by
   have one:∀i,i∈[0]->i=0:=λi hi=>by simpa using hi
   refine⟨sub,?_,λi d hi q=>?_,λi hi=>?_,λi j hi hj z=>absurd ((one i hi).trans (one j hj).symm) z,λa o q _=>q,Same.refl _,λa q=>.inl q,λa q=>.refl q,λi hi z=>absurd hi z,λi hi _ a q=>?_⟩
   .unfold aO;simp only[List.map_cons,List.cons_append,List.length_cons,List.length_append,List.length_map,List.length_replicate];omega
   .cases i with
    |zero=>exact absurd (by simp) hi
    | succ i=>
     rw[List.getElem?_cons_succ]at q;let⟨v,h1,h2⟩:=r.get (re q);exact⟨v,rg (by rw[List.getElem?_cons_succ];exact h1),h2⟩
   .cases one i hi;exact⟨l,.lst us,.lst xs,rfl,rfl,hH,hR,.lst ru⟩
   .cases one i hi;have q':some (some (V.ref l))=some (some (V.ref a)):=q;cases q';rfl
  have ext:∀{J':St} {H' R':Hp} {M':av},StR K ⟨H,R,λa=>a=l,[0]⟩ [0] J' H' R' M'->ExtS l H R H' R'/\∃us' zs,M'[0]? =some (some zs)/\H' l=some us'/\R' l=none/\Ob K R' us' zs:=λ{J' H' R' M'} S'=>by refine⟨⟨λa o n q=>S'.ah a o q n,S'.ar,S'.sub,S'.an,S'.ad⟩,?_⟩;let⟨l',us',zs,h1,h2,h3,h4,h5⟩:=S'.own 0 (by simp);have el:l'=l:=S'.ap 0 (by simp) (by simp) l' h2;subst el;exact⟨us',zs,h1,h3,h4,h5⟩
  cases e1:f (some (.lst xs)::(ds.map some++List.replicate (Nms.length-n) none))with
  |none=>rw[e1]at e;cases e
  | some o=>
   rw[e1]at e;refine hm _ _ _ _ _ _ o rfl S e1 ?_;cases o with
   | nx M'=>
    dsimp only at e;split at e
    .cases e
    .rename_i hf;refine λJ' H' R' S' _=>?_;let⟨x,us',zs,q1,q2,q3,q4⟩:=ext S';rw[q1]at e;cases q4 with
     |dct _=>cases e
     |dit _=>cases e
     |lst q4=>
     cases e;refine k .non H' R' _ x q2 q3 q4 ?_;cases fr with
     |false=>exact .non
     |true=>exact absurd rfl hf
   |bk M'=>cases e
   |ct M'=>cases e
   | rt d' M'=>
    dsimp only at e;refine λv J' H' R' S' q=>?_;let⟨x,us',zs,q1,q2,q3,q4⟩:=ext S';rw[q1]at e;cases q4 with
    |dct _=>cases e
    |dit _=>cases e
    |lst q4=>
    cases e;exact k v H' R' _ x q2 q3 q4 q
 .cases e
section
variable{K:am}{O:Zg}{tr:TA}{fs:aS}{E:XK}{n:Nat}
def a9(f:List D->Option D)(fs:aS):aJ:=bO fs λds=>da (f ds)
def bV(n:Nat)(f:List D->Option D):Prop:=∀ds d,f ds=some d->ds.length=n
def cJ{fr:Bool}{n N:Nat}{f:aH}:bV n (aM fr n N f):=λds d e=>by
 unfold aM at e;split at e
 .assumption
 .cases e
def fV{f:List D->Option D}(hf:bV n f)(h:MA K O tr fs):ME K O (jH (cj K false n f) [] E tr) (a9 f fs):=λZ J H R M d M' Q S e k=>by let⟨ds,M1,e1,e⟩:=bD e;obtain⟨e2,rfl⟩:=cQ e;refine h Z J H R M ds _ _ S e1 λvs H1 R1 S1 st1 r1=>?_;show cj K false n f (vs++[]) H1 Q E;rw[List.append_nil];exact⟨by rw[r1.length];exact hf ds d e2,R1,ds,d,S1.sub,r1,e2,λv H2 R2 x q=>k v H2 R2 (S1.ext x) (st1.trans x.stp) q⟩
noncomputable def oU(o:Option D):Option (List D):=match o with
 |some (.lst ds)=>some ds
 |_=>none
def kT(f:List D->Option D)(fs:aS):aS:=bO fs λds=>da (oU (f ds))
def Hh{o:Option D}{ds:List D}(h:oU o=some ds):o=some (.lst ds):=by
 unfold oU at h;split at h
 .cases h;rfl
 ·(first|obtain rfl:=h.isA rfl|cases h)
def uM{f:List D->Option D}(hf:bV n f)(h:MA K O tr fs):MN K O (jH (cj K true n f) [] E tr) (kT f fs):=λZ J H R M d M' Q S e k=>by let⟨ds,M1,e1,e⟩:=bD e;obtain⟨e2,rfl⟩:=cQ e;have e3:=Hh e2;refine h Z J H R M ds _ _ S e1 λvs H1 R1 S1 st1 r1=>?_;show cj K true n f (vs++[]) H1 Q E;rw[List.append_nil];refine⟨by rw[r1.length];exact hf ds _ e3,R1,ds,_,S1.sub,r1,e3,λv H2 R2 x q=>?_⟩;obtain⟨l,us,gs,rfl,e4,h0,hH,hR,r⟩:=q;cases e4;exact k l us H2 R2 (S1.ext x) (st1.trans x.stp) (st1.new h0) hH hR r
def gW(f:List D->List D->Option (D×List D))(i:Nat)(fs:aS):aJ:=bO fs λds M=>match M[i]? with
 | some (some (.lst xs))=>match f xs ds with
  |some (d,ys)=>some (d,M.set i (some (.lst ys)))
  |none=>none
 |_=>none
def tU(n:Nat)(f:List D->List D->Option (D×List D)):Prop:=∀xs ds r,f xs ds=some r->ds.length+1=n
def Eu{fr:Bool}{n N:Nat}{f:aH}:tU n (fZ fr n N f):=λxs ds r e=>by
 unfold fZ at e;split at e
 .assumption
 .cases e
def mD{f:List D->List D->Option (D×List D)}{i:Nat}(hf:tU n f)(hi:i∈O)(h:MA K O tr fs):ME K O (jH (pV K false n f) [] E (iT (dq i) tr)) (gW f i fs):=λZ J H R M d M' Q S e k=>by
 let⟨ds,M1,e1,e⟩:=bD e;let⟨l,vs0,ds0,h1,h2,h3,h4,h5⟩:=S.own i hi;refine⟨.ref l,h2,h Z J H R M ds M1 _ S e1 λvs H1 R1 S1 st1 r1=>?_⟩;let⟨l',us,xs,g1,g2,g3,g4,g5⟩:=S1.own i hi;rw[h2]at g2;cases g2;rw[g1]at e;cases g5 with
 |dct _=>cases e
 |dit _=>cases e
 |lst g5=>
 rename_i us xs;dsimp only at e;cases e2:f xs ds with
 |none=>rw[e2]at e;cases e
 | some p=>
  obtain⟨d',ys⟩:=p;rw[e2]at e;cases e;show pV K false n f (.ref l::vs++[]) H1 Q E;rw[List.append_nil];refine⟨by rw[jw,r1.length];exact hf _ _ _ e2,l,vs,R1,us,xs,ds,d,ys,rfl,g3,g4,S1.sub,g5,r1,e2,λv H2 R2 us' x hH hR ru q=>?_⟩;have ze:i<M1.length:=(List.getElem?_eq_some_iff.mp g1).1;have st2:Stp O J H1 R1 H2 R2:=⟨x.r,λa o e n=>x.h a o (λz=>by subst z;exact n i hi h2) e,x.n,x.d⟩;have other:∀j,j∈O->i≠j->∀m,J[j]? =some (some (.ref m))->m≠l:=λj hj n m e z=>by subst z;exact S1.dis i j hi hj n m h2 e
  refine k v H2 R2 ⟨x.s,by rw[xq];exact S1.len,λj e hj q=>?_,λj hj=>?_,S1.dis,λa o e n=>?_,S1.ar.trans x.r,λa h=>?_,λa h=>(S1.ad a h).trans (x.d a (S1.ad a h).1),S1.ao,S1.ap⟩ (st1.trans st2) q
  .have n:i≠j:=λz=>hj (z▸hi);rw[jv n]at q;let⟨w,q1,q2⟩:=S1.env j e hj q;exact⟨w,q1,q2.mono x.r⟩
  .by_cases n:i=j
   .subst n;exact⟨l,.lst us',.lst ys,by rw[xo ze],h2,hH,hR,.lst ru⟩
   .let⟨m,vs',ds',q1,q2,q3,q4,q5⟩:=S1.own j hj;refine⟨m,vs',ds',by rw[jv n];exact q1,q2,x.h _ _ (other j hj n m q2) q3,?_,q5.mono x.r⟩;cases z:R2 m with
    |none=>rfl
    | some o=>
     rcases x.n m (by rw[z];exact λy=>nomatch y)with y|y
     .exact absurd q4 y
     .exact(q5.noF q3 y).elim
  .have ne:a≠l:=λz=>by
    subst z;by_cases hp:i∈Z.P
    .exact n (S1.ap i hi hp a h2)
    .rw[S1.ao i hi hp a h2]at e;cases e
   exact x.h a o ne (S1.ah a o e n)
  .rcases x.n a h with z|z
   .exact S1.an a z
   .exact .inr (z.back (S1.ad a))
end
def Di(K:am):R2:=λx y H Q=>∃l b xs zs,x=.ref l/\y=.ref b/\SqL K H l xs/\SqL K H b zs/\xs.length+zs.length<=sizeLine/\∀p,H p=none->Q (.ref p) (aN H p (.lst (xs++zs)))
def Dj(K:am):R2:=λx y H Q=>∃a b xs ys,x=.ref a/\y=.ref b/\SqT K H a xs/\SqT K H b ys/\xs.length+ys.length<=sizeLine/\
 (xs=[]->Q (.ref b) H)/\(xs≠[]->ys=[]->Q (.ref a) H)/\(xs≠[]->ys≠[]->∀p,H p=none->Q (.ref p) (aN H p (.tup (xs++ys))))
section
variable{X:Cx}{K:am}
def qpz(hK:X.K=K):OpR X (binaryOp .Add) (Di K):=by
 subst hK;intro z5 s J H x y v u Q I rx ry h;obtain⟨l,b,xs,zs,rfl,rfl,hH,hB,hz,q⟩:=h
 (first|obtain rfl:=rx.isA rfl|cases rx)
 (first|obtain rfl:=ry.isA rfl|cases ry)
 let⟨its,r,pl,z⟩:=I.list hH;let⟨its2,r2,pl2,z2⟩:=I.list hB;obtain⟨⟨cls,dd,data,sl⟩,ho,hc,n,hd⟩:=pl.isList;obtain⟨⟨cls2,dd2,data2,sl2⟩,ho2,hc2,n2,hd2⟩:=pl2.isList;simp only at hc hd hc2 hd2;subst hc hd hc2 hd2;have e:its.toArray++its2.toArray=(its++its2).toArray:=by simp
 refine concat_meets ⟨_,ho,rfl⟩ ⟨_,ho2,rfl⟩ noFill_list_add seq_list_add PySem.F.slot_list_add PySem.F.entry_list_add (PySem.F.args_list_add_2 _ _) (list_addW l b its.toArray its2.toArray n n2 dd dd2 sl sl2 (by rw[x5,x5,<-r.length,<-r2.length];exact hz)) ⟨ho,ho2,?_⟩;rw[e];exact⟨.ref _,_,I.lnew (t':=s.toks) (r.append r2) (by rw[jr];omega),rfl,q _ I.fresh⟩
def qpy(hK:X.K=K):OpR X (binaryOp .Add) (Dj K):=by
 subst hK;intro z5 s J H x y v u Q I rx ry h;obtain⟨a,b,xs,ys,rfl,rfl,ha,hb,hz,q0,q1,q2⟩:=h
 (first|obtain rfl:=rx.isA rfl|cases rx)
 (first|obtain rfl:=ry.isA rfl|cases ry)
 let⟨its,r1,p1,_⟩:=I.tuple ha;let⟨its2,r2,p2,_⟩:=I.tuple hb;let⟨⟨cls,dd,data,sl⟩,ho,hc,n,hd⟩:=id p1;let⟨⟨cls2,dd2,data2,sl2⟩,ho2,hc2,n2,hd2⟩:=id p2;simp only at hc hd hc2 hd2;subst hc hd hc2 hd2;have e:its.toArray++its2.toArray=(its++its2).toArray:=by simp
 by_cases hv:its=[]
 .exact concat_meets ⟨_,ho,rfl⟩ ⟨_,ho2,rfl⟩ noFill_tuple_add seq_tuple_add PySem.F.slot_tuple_add PySem.F.entry_tuple_add (PySem.F.args_tuple_add_2 _ _)
   (tuple_addW0 a b its.toArray its2.toArray n n2 dd dd2 sl sl2 (by simp[hv])) ⟨ho,ho2,⟨.ref b,H,I,rfl,q0 (r1.nil_iff.mp hv)⟩⟩
 .have hx:xs≠[]:=λz=>hv (r1.nil_iff.mpr z);by_cases hw:its2=[]
  .exact concat_meets ⟨_,ho,rfl⟩ ⟨_,ho2,rfl⟩ noFill_tuple_add seq_tuple_add PySem.F.slot_tuple_add PySem.F.entry_tuple_add (PySem.F.args_tuple_add_2 _ _)
    (tuple_addW1 a b its.toArray its2.toArray n n2 dd dd2 sl sl2 (by simpa using hv) (by simp[hw])) ⟨ho,ho2,⟨.ref a,H,I,rfl,q1 hx (r2.nil_iff.mp hw)⟩⟩
  .refine concat_meets ⟨_,ho,rfl⟩ ⟨_,ho2,rfl⟩ noFill_tuple_add seq_tuple_add PySem.F.slot_tuple_add PySem.F.entry_tuple_add (PySem.F.args_tuple_add_2 _ _)
    (tuple_addW2 a b its.toArray its2.toArray n n2 dd dd2 sl sl2 (by simpa using hv) (by simpa using hw) (by rw[List.size_toArray,List.size_toArray,<-r1.length,<-r2.length];exact hz)) ⟨ho,ho2,?_⟩
   rw[e];refine⟨.ref s.heap.objs.size,_,I.laid (t':=s.toks) (o:=.tup (xs++ys)) (λb ob q=>je _ q) (jg _) ?_,rfl,q2 hx (λw=>hw (r2.nil_iff.mpr w)) _ (I.hok.fresh (jg _))⟩;exact⟨by rw[jr];exact hz,_,r1.append r2,TupN.new _ _⟩
def wW(K:am):R2:=λx y H Q=>hU (λi j=>.int (i+j)) x y H Q∨Di K x y H Q∨Dj K x y H Q∨∃i j,x=.str i/\y=.str j/\i.length+j.length<=sizeLine/\Q (.str (i++j)) H
def fq(hK:X.K=K):OpR X (binaryOp .Add) (wW K):=op_add.or ((qpz hK).or ((qpy hK).or qep))
end
section
variable{K:am}{O:Zg}
noncomputable def b8:D->D->Option D
 |.int i,.int j=>some (.int (i+j))
 |.lst xs,.lst ys=>if xs.length+ys.length<=sizeLine then some (.lst (xs++ys))else none
 |.tup xs,.tup ys=>if xs.length+ys.length<=sizeLine then some (.tup (xs++ys))else none
 |.str x,.str y=>if x.length+y.length<=sizeLine then some (.str (x++y))else none
 |_,_=>none
def qC:gY K (wW K) b8:=λH R x y d e u Q s rx ry q k=>by
 unfold b8 at q;split at q
 .rename_i i j
  (first|obtain rfl:=q.isA rfl|cases q)
  (first|obtain rfl:=rx.isA rfl|cases rx)
  (first|obtain rfl:=ry.isA rfl|cases ry)
  exact .inl ⟨i,j,rfl,rfl,k _ H R (Ext.refl s) (.int _)⟩
 .split at q
  .rename_i hz
   (first|obtain rfl:=q.isA rfl|cases q)
   obtain⟨a1,xs,rfl,h,r⟩:=rx.isL;obtain⟨a2,ys,rfl,h2,r2⟩:=ry.isL;refine .inr (.inl ⟨_,_,_,_,rfl,rfl,Same.sqL s h,Same.sqL s h2,by rw[r.length,r2.length];exact hz,λp np=>?_⟩);have x:=Ext.new (o:=.lst (xs++ys)) s np;exact k _ _ _ x (.lst (SqL.of cr) ((r.append r2).mono x.r))
  ·(first|obtain rfl:=q.isA rfl|cases q)
 .split at q
  .rename_i hz
   (first|obtain rfl:=q.isA rfl|cases q)
   obtain⟨a1,xs,rfl,h,r⟩:=rx.isT;obtain⟨a2,ys,rfl,h2,r2⟩:=ry.isT;refine .inr (.inr (.inl ⟨_,_,_,_,rfl,rfl,SqT.of (s _ _ h),SqT.of (s _ _ h2),by rw[r.length,r2.length];exact hz,λz=>?_,λ_ z=>?_,λ_ _ p np=>?_⟩))
   .subst z
    (first|obtain rfl:=r.isA rfl|cases r)
    exact k _ H R (Ext.refl s) (.tup h2 r2)
   .subst z
    (first|obtain rfl:=r2.isA rfl|cases r2)
    rw[List.append_nil]at k;exact k _ H R (Ext.refl s) (.tup h r)
   .have x:=Ext.new (o:=.tup (xs++ys)) s np;exact k _ _ _ x (.tup cr ((r.append r2).mono x.r))
  ·(first|obtain rfl:=q.isA rfl|cases q)
 .rename_i i j;split at q
  .rename_i hz
   (first|obtain rfl:=q.isA rfl|cases q)
   (first|obtain rfl:=rx.isA rfl|cases rx)
   (first|obtain rfl:=ry.isA rfl|cases ry)
   exact .inr (.inr (.inr ⟨i,j,rfl,rfl,hz,k _ H R (Ext.refl s) (.str _)⟩))
  ·(first|obtain rfl:=q.isA rfl|cases q)
 ·(first|obtain rfl:=q.isA rfl|cases q)
def HM(K:am)(r:R2)(g:D->D->Option (List D)):Prop:=∀(H R:Hp) (x y:V) (d e:D) (us:List D) (Q:VK),(∀a o,R a=some o->H a=some o)->Rp K R x d->Rp K R y e->g d e=some us->(∀l vs,H l=none->Rps K R vs us->Q (.ref l) (aN H l (.lst vs)))->r x y H Q
def qu(g:D->D->Option (List D))(fa fb:aJ):aS:=bO fa λx=>bO fb λy=>da (g x y)
def qz6{ta tb:TE}{r:R2}{g:D->D->Option (List D)}{fa fb:aJ}(h:HM K r g)(ha:ME K O ta fa)(hb:ME K O tb fb):MN K O (iQ r ta tb) (qu g fa fb):=λZ J H R M d M' Q S e k=>by let⟨x,M1,e1,e⟩:=bD e;let⟨y,M2,e2,e⟩:=bD e;obtain⟨e3,rfl⟩:=cQ e;refine ha Z J H R M x M1 _ S e1 λv H1 R1 S1 st1 r1=>hb Z J H1 R1 M1 y _ _ S1 e2 λw H2 R2 S2 st2 r2=>?_;refine h H2 R2 v w x y d Q S2.sub (r1.mono st2.r) r2 e3 λl vs hl rv=>?_;have x:=Ext.hid (o:=.lst vs) S2.sub hl;exact k l vs _ _ (S2.ext x) ((st1.trans st2).trans x.stp) ((st1.trans st2).new hl) cr (S2.out hl) rv
noncomputable def qt:D->D->Option (List D)
 |.lst xs,.lst ys=>if xs.length+ys.length<=sizeLine then some (xs++ys)else none
 |_,_=>none
def quk:HM K (wW K) qt:=λH R x y d e u Q s rx ry q k=>by
 unfold qt at q;split at q
 .split at q
  .rename_i hz
   (first|obtain rfl:=q.isA rfl|cases q)
   obtain⟨_,_,rfl,h,r⟩:=rx.isL;obtain⟨_,_,rfl,h2,r2⟩:=ry.isL;exact .inr (.inl ⟨_,_,_,_,rfl,rfl,Same.sqL s h,Same.sqL s h2,by rw[r.length,r2.length];exact hz,λp np=>k p _ np (r.append r2)⟩)
  ·(first|obtain rfl:=q.isA rfl|cases q)
 ·(first|obtain rfl:=q.isA rfl|cases q)
end
mutual
noncomputable def D.toP:D->Option PyData
 |.non=>some .none
 |.bl b=>some (.bool b)
 |.int i=>some (.int i)
 |.str x=>some (.str x)
 |.lst xs=>(D.toPs xs).map PyData.list
 |.tup xs=>(D.toPs xs).map PyData.tuple
 |.obj _ _=>none
 |.dct _=>none
 |.exc _=>none
 |.fn _=>none
 |.tab _ _ _=>none
 |.dit _=>none
noncomputable def D.toPs:List D->Option (List PyData)
 |[]=>some []
 | d::r=>match D.toP d,D.toPs r with
  |some p,some ps=>some (p::ps)
  |_,_=>none
end
section
variable{K:am}{O:Zg}{R:Hp}
def qxg(p:PyData)(e:D.toP .non=some p):DV K R .non p:=by simp only[D.toP]at e;cases e;exact .non
def qzf(b:Bool)(p:PyData)(e:D.toP (.bl b)=some p):DV K R (.bl b) p:=by simp only[D.toP]at e;cases e;exact .bl b
def qxi(b:Int)(p:PyData)(e:D.toP (.int b)=some p):DV K R (.int b) p:=by simp only[D.toP]at e;cases e;exact .int b
def qxf(b:Str)(p:PyData)(e:D.toP (.str b)=some p):DV K R (.str b) p:=by simp only[D.toP]at e;cases e;exact .str b
def qxh{a:Addr}{xs:List V}{ds:List D}{p:PyData}(h:SqL K R a xs)(r:∀ps,D.toPs ds=some ps->DVs K R xs ps)(e:D.toP (.lst ds)=some p):DV K R (.ref a) p:=by
 simp only[D.toP]at e;cases z:D.toPs ds with
 |none=>rw[z]at e;cases e
 |some ps=>rw[z]at e;cases e;exact .lst h (r _ z)
def qxe{a:Addr}{xs:List V}{ds:List D}{p:PyData}(h:R a=some (.tup xs))(r:∀ps,D.toPs ds=some ps->DVs K R xs ps)(e:D.toP (.tup ds)=some p):DV K R (.ref a) p:=by
 simp only[D.toP]at e;cases z:D.toPs ds with
 |none=>rw[z]at e;cases e
 |some ps=>rw[z]at e;cases e;exact .tup (SqT.of h) (r _ z)
def qrp(ps:List PyData)(e:D.toPs []=some ps):DVs K R [] ps:=by simp only[D.toPs]at e;cases e;exact .nil
def qmk{x:V}{xs:List V}{d:D}{ds:List D}{ps:List PyData}(h:∀p,d.toP=some p->DV K R x p)(r:∀ps,D.toPs ds=some ps->DVs K R xs ps)(e:D.toPs (d::ds)=some ps):DVs K R (x::xs) ps:=by
 simp only[D.toPs]at e;cases z:d.toP with
 |none=>rw[z]at e;cases e
 | some p=>
  cases w:D.toPs ds with
  |none=>rw[z,w]at e;cases e
  |some qs=>rw[z,w]at e;cases e;exact .cons (h _ z) (r _ w)
def Rp.dv{v:V}{d:D}{p:PyData}(h:Rp K R v d)(e:d.toP=some p):DV K R v p:=
 Rp.rec (motive_1:=λv d _=>∀p,d.toP=some p->DV K R v p) (motive_2:=λxs ds _=>∀ps,D.toPs ds=some ps->DVs K R xs ps) (motive_3:=λ_ _ _=>True) (motive_4:=λ_ _ _=>True) (motive_5:=λ_ _ _=>True)
  qxg qzf qxi qxf (λh _ r _=>qxh h r) (λh _ r _=>qxe h r) (λ_ _ _ _ _ e=>by simp only[D.toP]at e;cases e) (λ_ _ _ _ e=>by simp only[D.toP]at e;cases e) (λ_ _ _ _ e=>by simp only[D.toP]at e;cases e) (λ_ _ _ _ e=>by simp only[D.toP]at e;cases e) (λ_ _ e=>by simp only[D.toP]at e;cases e) (λ_ _ e=>by simp only[D.toP]at e;cases e)
  qrp (λ_ _ h r _=>qmk h r) trivial (λ_ _ _ _=>trivial) trivial (λ_ _ _ _=>trivial) trivial (λ_ _ _ _=>trivial) h _ e
def cV(d e:D):Option Bool:=match d.toP,e.toP with
 |some p,some q=>if SeqAt.shaped p=true/\SeqAt.shaped q=true then some (PyData.eqv p q)else none
 |_,_=>none
def fQ(d e:D):Option D:=(cV d e).map .bl
def gq(d e:D):Option D:=(cV d e).map λb=>.bl (!b)
def FQ{d e:D}{b:Bool}(h:cV d e=some b):∃p q,d.toP=some p/\e.toP=some q/\SeqAt.shaped p=true/\SeqAt.shaped q=true/\PyData.eqv p q=b:=by
 unfold cV at h;cases h1:d.toP with
 |none=>rw[h1]at h;cases h
 | some p=>
  cases h2:e.toP with
  |none=>rw[h1,h2]at h;cases h
  | some q=>
   rw[h1,h2]at h;dsimp only at h;split at h
   .rename_i z;exact⟨p,q,rfl,rfl,z.1,z.2,jl h⟩
   ·(first|obtain rfl:=h.isA rfl|cases h)
def g9:OpS K (sj K) fQ:=λH x y d e u Q rx ry q k=>by
 unfold fQ at q;cases h:cV d e with
 |none=>rw[h]at q;cases q
 | some b=>
  rw[h]at q
  (first|obtain rfl:=q.isA rfl|cases q)
  let⟨p,r,h1,h2,h3,h4,h5⟩:=FQ h;refine⟨p,r,rx.dv h1,ry.dv h2,h3,h4,?_⟩;rw[h5];exact k _ (.bl _)
def wU:OpS K (rZ K) gq:=λH x y d e u Q rx ry q k=>by
 unfold gq at q;cases h:cV d e with
 |none=>rw[h]at q;cases q
 | some b=>
  rw[h]at q
  (first|obtain rfl:=q.isA rfl|cases q)
  let⟨p,r,h1,h2,h3,h4,h5⟩:=FQ h;refine⟨p,r,rx.dv h1,ry.dv h2,h3,h4,?_⟩;rw[h5];exact k _ (.bl _)
noncomputable def i9(d e:D):Option D:=match e with
 |.non=>some (.bl (match d with|.non=>true|_=>false))
 |_=>none
noncomputable def iU(d e:D):Option D:=match e with
 |.non=>some (.bl (match d with|.non=>false|_=>true))
 |_=>none
def quf:OpS K (λx y H Q=>y=.non/\Q (.bl (decide (x=.non))) H) i9:=λH x y d e u Q rx ry q k=>by
 (first|split at q|(unfold i9 at q;split at q))
 .obtain rfl:=ry.isA rfl;refine⟨rfl,?_⟩;cases rx<;>(cases q;exact k _ (.bl _))
 .cases q
def Fc:OpS K (λx y H Q=>y=.non/\Q (.bl (!decide (x=.non))) H) iU:=λH x y d e u Q rx ry q k=>by
 (first|split at q|(unfold iU at q;split at q))
 .obtain rfl:=ry.isA rfl;refine⟨rfl,?_⟩;cases rx<;>(cases q;exact k _ (.bl _))
 .cases q
end
section
variable{K:am}{O:Zg}{t ta tb tc:TE}{tr:TA}{fa fb fc:aJ}{fs:aS}
def wH(K:am)(r:List V->Hp->VK->Prop)(g:D->Option D):Prop:=∀(H R:Hp) (x:V) (d u:D) (Q:VK),(∀a o,R a=some o->H a=some o)->Rp K R x d->g d=some u->(∀v H' R',Ext H R H' R'->Rp K R' v u->Q v H')->r [x] H Q
def pB{r:List V->Hp->VK->Prop}{g:D->Option D}(h:wH K r g)(ha:ME K O t fa):ME K O (jZ r (iT t fy)) (aG g fa):=λZ J H R M d M' Q S e k=>by let⟨x,M1,e1,e⟩:=bD e;obtain⟨e2,rfl⟩:=cQ e;refine ha Z J H R M x _ _ S e1 λv H1 R1 S1 st1 r1=>?_;exact h H1 R1 v x d Q S1.sub r1 e2 λw H2 R2 x2 r2=>k w H2 R2 (S1.ext x2) (st1.trans x2.stp) r2
def CL(K:am)(r:List V->Hp->VK->Prop)(g:D->Option (List D)):Prop:=∀(H R:Hp) (x:V) (d:D) (us:List D) (Q:VK),(∀a o,R a=some o->H a=some o)->Rp K R x d->g d=some us->(∀l vs,H l=none->Rps K R vs us->Q (.ref l) (aN H l (.lst vs)))->r [x] H Q
def jI(g:D->Option (List D))(f:aJ):aS:=bO f λx=>da (g x)
def qli{r:List V->Hp->VK->Prop}{g:D->Option (List D)}(h:CL K r g)(ha:ME K O t fa):MN K O (jZ r (iT t fy)) (jI g fa):=λZ J H R M d M' Q S e k=>by let⟨x,M1,e1,e⟩:=bD e;obtain⟨e2,rfl⟩:=cQ e;refine ha Z J H R M x _ _ S e1 λv H1 R1 S1 st1 r1=>?_;refine h H1 R1 v x d Q S1.sub r1 e2 λl vs hl rv=>?_;have y:=Ext.hid (o:=.lst vs) S1.sub hl;exact k l vs _ _ (S1.ext y) (st1.trans y.stp) (st1.new hl) cr (S1.out hl) rv
noncomputable def dO:D->Option (List D)
 |.lst xs=>some xs
 |.tup xs=>some xs
 |_=>none
def qru:CL K (λxs H Q=>∃p ys,xs=[.ref p]/\(SqL K H p ys∨SqT K H p ys)/\∀l,H l=none->Q (.ref l) (aN H l (.lst ys))) dO:=λH R x d us Q s r e k=>by
 (first|split at e|(unfold dO at e;split at e))
 .obtain⟨_,_,rfl,h,q⟩:=r.isL;cases e;exact⟨_,_,rfl,.inl (Same.sqL s h),λl hl=>k l _ hl q⟩
 .obtain⟨_,_,rfl,h,q⟩:=r.isT;cases e;exact⟨_,_,rfl,.inr (SqT.of (s _ _ h)),λl hl=>k l _ hl q⟩
 .cases e
noncomputable def mz:D->Option D
 |.lst xs=>some (.tup xs)
 |.tup xs=>some (.tup xs)
 |_=>none
def qT:wH K (λxs H Q=>∃p ys,xs=[.ref p]/\((SqL K H p ys/\∀l,H l=none->Q (.ref l) (aN H l (.tup ys)))∨(SqT K H p ys/\Q (.ref p) H))) mz:=λH R x d u Q s r e k=>by
 cases r with
 | lst h q=>
  cases e;refine⟨_,_,rfl,.inl ⟨Same.sqL s h,λl hl=>?_⟩⟩;rename_i a xs ds;have y:=Ext.new (o:=.tup xs) s hl;exact k _ _ _ y (.tup cr (q.mono y.r))
 |tup h q=>cases e;exact⟨_,_,rfl,.inr ⟨SqT.of (s _ _ h),k _ H R (Ext.refl s) (.tup h q)⟩⟩
 |_=>cases e
def MO(K:am)(O:Zg)(t:TO)(f:av->Option (Option Int×av)):Prop:=∀(Z:Anc) (J:St) (H R:Hp) (M:av) (o:Option Int) (M':av) (Q:Option Int->Hp->Prop),StR K Z O J H R M->f M=some (o,M')->(∀H' R',StR K Z O J H' R' M'->Stp O J H R H' R'->Q o H')->t J H Q
def E6:MO K O zB (ae none):=λZ J H R M o M' Q S e k=>by cases e;exact k H R S (Stp.refl _ _ _ _)
def qI(f:aJ):av->Option (Option Int×av):=bO f λd=>da (match d with
 |.int i=>some (some i)
 |_=>none)
def E7(h:ME K O t fa):MO K O (wX t) (qI fa):=λZ J H R M o M' Q S e k=>by
 let⟨x,M1,e1,e⟩:=bD e;obtain⟨e2,rfl⟩:=cQ e;refine h Z J H R M x _ _ S e1 λv H1 R1 S1 st1 r1=>?_
 (first|split at e2)
 .rename_i i;obtain rfl:=r1.isA rfl;cases e2;exact⟨i,rfl,k H1 R1 S1 st1⟩
 .cases e2
def dY(xs:List D)(lo hi:Option Int):List D:=(xs.drop (HT.sIx xs.length 0 lo)).take (HT.sIx xs.length xs.length hi-HT.sIx xs.length 0 lo)
def Rps.cut{R:Hp}{xs:List V}{ds:List D}(r:Rps K R xs ds)(lo hi:Option Int):Rps K R (eJ xs lo hi) (dY ds lo hi):=by unfold eJ dY;rw[r.length];exact(r.drop _).take _
def nT(K:am):V->Option Int->Option Int->Hp->VK->Prop:=λx lo hi H Q=>rX K x lo hi H Q∨rW K x lo hi H Q
def zA{X:Cx}(h:X.K=K):SlR X (nT K):=by subst h;exact sl_list.or qt5
def nj(d:D)(lo hi:Option Int):Option D:=match d with
 |.lst xs=>some (.lst (dY xs lo hi))
 |.tup xs=>if HT.sIx xs.length 0 lo=0/\HT.sIx xs.length xs.length hi=xs.length then none else some (.tup (dY xs lo hi))
 |_=>none
def rA(f:aJ)(fl fh:av->Option (Option Int×av)):aJ:=bO f λd=>bO fl λlo=>bO fh λhi=>da (nj d lo hi)
def Ga{tl th:TO}{fl fh:av->Option (Option Int×av)}(h:ME K O t fa)(hl:MO K O tl fl)(hh:MO K O th fh):ME K O (wD (nT K) t tl th) (rA fa fl fh):=λZ J H R M d M' Q S e k=>by
 let⟨x,M1,e1,e⟩:=bD e;let⟨lo,M2,e2,e⟩:=bD e;let⟨hi,M3,e3,e⟩:=bD e;obtain⟨e4,rfl⟩:=cQ e;refine h Z J H R M x _ _ S e1 λv H1 R1 S1 st1 r1=>hl Z J H1 R1 M1 lo _ _ S1 e2 λH2 R2 S2 st2=>hh Z J H2 R2 M2 hi _ _ S2 e3 λH3 R3 S3 st3=>?_;have r3:=(r1.mono st2.r).mono st3.r;have st:=(st1.trans st2).trans st3;cases r3 with
 | @lst a xs ds q r=>
  cases e4;refine .inl ⟨a,xs,rfl,Same.sqL S3.same q,λp np=>?_⟩;have y:=Ext.new (o:=.lst (eJ xs lo hi)) S3.sub np;exact k _ _ _ (S3.ext y) (st.trans y.stp) (.lst (SqL.of cr) ((r.cut lo hi).mono y.r))
 | @tup a xs ds q r=>
  have e5:(if HT.sIx ds.length 0 lo=0/\HT.sIx ds.length ds.length hi=ds.length then none else some (D.tup (dY ds lo hi)))=some d:=e4;split at e5
  .cases e5
  .rename_i hn;cases e5;refine .inr ⟨a,xs,rfl,SqT.of (S3.same _ _ q),by rw[r.length];exact hn,λp np=>?_⟩;have y:=Ext.new (o:=.tup (eJ xs lo hi)) S3.sub np;exact k _ _ _ (S3.ext y) (st.trans y.stp) (.tup cr ((r.cut lo hi).mono y.r))
 |_=>cases e4
def uI(g g':D->D->Option D)(fa fb fc:aJ):aJ:=bO fa λx=>bO fb λy=>bO (bB (da (g x y))) λb=>if b=true then bO fc λz=>da (g' y z)else ae (.bl false)
def qln{r r':R2}{g g':D->D->Option D}(h:OpS K r g)(h':OpS K r' g')(ha:ME K O ta fa)(hb:ME K O tb fb)(hc:ME K O tc fc):ME K O (EC r r' ta tb tc) (uI g g' fa fb fc):=λZ J H R M d M' Q S e k=>by
 let⟨x,M1,e1,e⟩:=bD e;let⟨y,M2,e2,e⟩:=bD e;let⟨b,M3,e3,e⟩:=bD e;let⟨u,M4,f3,e4⟩:=bD e3;obtain⟨g3,rfl⟩:=cQ f3;obtain⟨g4,rfl⟩:=cQ e4;refine ha Z J H R M x _ _ S e1 λv H1 R1 S1 st1 r1=>hb Z J H1 R1 M1 y _ _ S1 e2 λw H2 R2 S2 st2 r2=>?_;refine h H2 v w x y u _ ((r1.mono st2.r).mono S2.same) (r2.mono S2.same) g3 λz q=>?_;cases q with
 | bl c=>
  cases g4;refine⟨_,rfl,?_⟩;cases b with
  | true=>
   let⟨z,M5,e5,f⟩:=bD e;obtain⟨e6,rfl⟩:=cQ f;refine eW (hc Z J H2 R2 _ z _ _ S2 e5 λw' H3 R3 S3 st3 r3=>?_);exact h' H3 w w' y z d Q ((r2.mono st3.r).mono S3.same) (r3.mono S3.same) e6 λv' q'=>k v' H3 R3 S3 ((st1.trans st2).trans st3) q'.rp
  |false=>cases e;exact eX (k _ H2 R2 S2 (st1.trans st2) (.bl false))
 |_=>cases g4
def qb{g:Int->Int->Bool}:OpS K (hU λi j=>.bl (g i j)) (pH g):=λH x y d e u Q rx ry q k=>by
 unfold pH at q;split at q
 .rename_i i j
  (first|obtain rfl:=q.isA rfl|cases q)
  (first|obtain rfl:=rx.isA rfl|cases rx)
  (first|obtain rfl:=ry.isA rfl|cases ry)
  exact⟨i,j,rfl,rfl,k _ (.bl _)⟩
 ·(first|obtain rfl:=q.isA rfl|cases q)
def qz8(f:aS):aJ:=bO f λds=>da (match ds with
 |[.int i,.int j]=>if 0<j/\j<1073741824 then some (.tup [.int (i / j),.int (i % j)])else none
 |_=>none)
def iO(g:Int->Int->Int)(f:aS):aJ:=bO f λds=>da (match ds with
 |[.int i,.int j]=>some (.int (g i j))
 |_=>none)
def tS{g:Int->Int->Int}(h:MA K O tr fs):ME K O (jZ (λxs H Q=>∃i j,xs=[.int i,.int j]/\Q (.int (g i j)) H) tr) (iO g fs):=λZ J H R M d M' Q S e k=>by
 let⟨xs,M1,e1,e⟩:=bD e;obtain⟨e2,rfl⟩:=cQ e;refine h Z J H R M xs _ _ S e1 λvs H1 R1 S1 st1 r1=>?_;split at e2
 .rename_i i j;cases e2;obtain⟨_,_,rfl,q,r⟩:=r1.isC
  (first|obtain rfl:=q.isA rfl|cases q)
  cases r with
  | cons q r=>
   (first|obtain rfl:=q.isA rfl|cases q)
   (first|obtain rfl:=r.isA rfl|cases r)
   exact⟨i,j,rfl,k _ H1 R1 S1 st1 (.int _)⟩
 .cases e2
def CZ(K:am)(ta:TA):TI:=λJ H R=>(iB K true true ta J H R∨iB K true false ta J H R)∨(iB K false true ta J H R∨iB K false false ta J H R)
def yY{X:Cx}{a b:Expr}{ta:TA}{p pos:Pos}{zr:Zi}{x1:Nat}{tp:Pos}(hK:X.K=K)(hg:Gl X "zip")(hm:X.mg "zip"=none)(ha:PA X [a,b] ta)(he:starEach [a,b] X.env=(false,eval a X.env)::starEach [b] X.env:=by rfl)(hpl:(backTo pos (starEach [b] X.env)).any (·.1)=false:=by rfl):
 PI X (.Tuple zr x1 tp) (.Call (.Name "zip" p) [a,b] [] pos) (CZ K ta):=λz5 s J H R I q=>by
 rcases q with(q|q)|(q|q)
 .exact um true true hK hg hm ha he hpl z5 s J H R I q
 .exact um true false hK hg hm ha he hpl z5 s J H R I q
 .exact um false true hK hg hm ha he hpl z5 s J H R I q
 .exact um false false hK hg hm ha he hpl z5 s J H R I q
noncomputable def dn(xs ys:List D):List D:=List.zipWith (λx y=>D.tup [x,y]) xs ys
def gH(f:aS):aS:=bO f λds=>da (match ds with
 | [x,y]=>match dO x,dO y with
  |some xs,some ys=>some (dn xs ys)
  |_,_=>none
 |_=>none)
def SqB.inj_same{K:am}{b:Bool}{R H:Hp}{p:Addr}{xs:List V}(s:Same R H)(h:SqB K b R p xs):SqB K b H p xs:=by
 cases b
 .exact Same.tup s h
 .exact Same.sqL s h
def qwm{R:Hp}{b1 b2:Bool}{p1 p2:Addr}{xs ys:List V}{ds es:List D}(h1:SqB K b1 R p1 xs)(h2:SqB K b2 R p2 ys)(r1:Rps K R xs ds)(r2:Rps K R ys es):ItOk K (Ay K b1 b2 p1 p2) R (dn ds es):=λH' R' s b i=>by
 have q1:=(SqB.inj_same s h1);have q2:=(SqB.inj_same s h2);have g1:=(SqB.inj_same b q1);have g2:=(SqB.inj_same b q2);have len:(dn ds es).length=min ds.length es.length:=by simp[dn]
 have l1:=r1.length;have l2:=r2.length;refine⟨λe=>⟨xs,ys,g1,g2,by omega⟩,λd e=>?_⟩;unfold dn at e;rw[List.getElem?_zipWith]at e;cases e1:ds[i]? with
 |none=>rw[e1]at e;cases e
 | some d1=>
  cases e2:es[i]? with
  |none=>rw[e1,e2]at e;cases e
  | some d2=>
   rw[e1,e2]at e;cases e;let⟨v1,a1,a2⟩:=r1.get e1;let⟨v2,c1,c2⟩:=r2.get e2;refine⟨⟨xs,ys,v1,v2,g1,g2,a1,c1⟩,λx H'' y=>?_⟩;obtain⟨T,x1,y1,rfl,hT,rfl,z1,z2⟩:=y;have w1:=z1 xs g1;have w2:=z2 ys g2;rw[a1]at w1;rw[c1]at w2;cases w1;cases w2;have y:=Ext.new (o:=.tup [v1,v2]) b hT;exact⟨_,y,.tup cr (.cons ((a2.mono s).mono y.r) (.cons ((c2.mono s).mono y.r) .nil))⟩
def GG{x:D}{ds:List D}(h:dO x=some ds):x=.lst ds∨x=.tup ds:=by
 unfold dO at h;split at h
 .cases h;exact .inl rfl
 .cases h;exact .inr rfl
 ·(first|obtain rfl:=h.isA rfl|cases h)
def ue(h:MA K O tr fs):MI K O (CZ K tr) (gH fs):=λZ J H R M ds M' Q S e k=>by
 let⟨xs,M1,e1,e⟩:=bD e;obtain⟨e2,rfl⟩:=cQ e;have go:∀(b1 b2:Bool) (x y:D) (as bs:List D),xs=[x,y]->ds=dn as bs->(∀(R1:Hp) (v:V),Rp K R1 v x->∃p vs,v=.ref p/\SqB K b1 R1 p vs/\Rps K R1 vs as)->(∀(R1:Hp) (v:V),Rp K R1 v y->∃p vs,v=.ref p/\SqB K b2 R1 p vs/\Rps K R1 vs bs)->iB K b1 b2 tr J H Q:=λb1 b2 x y as bs hx hd g1 g2=>by
  subst hx hd;refine h Z J H R M _ _ _ S e1 λvs H1 R1 S1 st1 r1=>?_;obtain⟨_,_,rfl,q,r⟩:=r1.isC;obtain⟨_,_,rfl,q',r⟩:=r.isC
  (first|obtain rfl:=r.isA rfl|cases r)
  obtain⟨p1,us,rfl,s1,t1⟩:=g1 _ _ q;obtain⟨p2,ws,rfl,s2,t2⟩:=g2 _ _ q';exact⟨p1,p2,rfl,⟨us,SqB.inj_same S1.same s1⟩,⟨ws,SqB.inj_same S1.same s2⟩,k _ H1 R1 S1 st1 (qwm s1 s2 t1 t2)⟩
 have gl:∀(as:List D) (R1:Hp) (v:V),Rp K R1 v (.lst as)->∃p vs,v=.ref p/\SqB K true R1 p vs/\Rps K R1 vs as:=λas R1 v r=>by obtain⟨_,_,rfl,h,q⟩:=r.isL;exact⟨_,_,rfl,h,q⟩
 have gt:∀(as:List D) (R1:Hp) (v:V),Rp K R1 v (.tup as)->∃p vs,v=.ref p/\SqB K false R1 p vs/\Rps K R1 vs as:=λas R1 v r=>by obtain⟨_,_,rfl,h,q⟩:=r.isT;exact⟨_,_,rfl,SqT.of h,q⟩
 split at e2
 .rename_i x y;split at e2
  .rename_i as bs h1 h2;cases e2;rcases GG h1 with rfl|rfl<;>rcases GG h2 with rfl|rfl
   .exact .inl (.inl (go true true _ _ as bs rfl rfl (gl as) (gl bs)))
   .exact .inl (.inr (go true false _ _ as bs rfl rfl (gl as) (gt bs)))
   .exact .inr (.inl (go false true _ _ as bs rfl rfl (gt as) (gl bs)))
   .exact .inr (.inr (go false false _ _ as bs rfl rfl (gt as) (gt bs)))
  .cases e2
 .cases e2
end
inductive TyO(K:am)(H:Hp):V->Value->Prop where
 |of {x:V} {t:Value} (h:TyOf K H x t):TyO K H x t
 |sl {a:Addr} {xs:List V} (h:SqL K H a xs):TyO K H (.ref a) (.type "list")
 |st {a:Addr} {xs:List V} (h:SqT K H a xs):TyO K H (.ref a) (.type "tuple")
def si(K:am):List V->Hp->VK->Prop:=λxs H Q=>∃x y t c b,xs=[x,y]/\sI y=some c/\TyO K H x t/\PySem.W.kitOne K t c=some b/\Q (.bl b) H
section
variable{X:Cx}{K:am}{O:Zg}{t:TE}{fa:aJ}
def uJ(hK:X.K=K):fM X (.builtin "isinstance") (si K):=by
 subst hK;intro z5 s J H xs us Q I r h;obtain⟨x,y,t,c,b,rfl,hc,ty,e,q⟩:=h;cases ty with
 |of h=>exact qmr rfl z5 s J H [x,y] us Q I r ⟨x,y,t,c,b,rfl,hc,h,e,q⟩
 | sl h=>
  obtain⟨u,w,rfl,ru,rw'⟩:=ff r
  (first|obtain rfl:=ru.isA rfl|cases ru)
  have ew:w=c:=by
   cases y with
   |ref a=>exact(show w=Value.ref a from rw').trans (jl hc)
   |ty n=>exact(show w=Value.type n from rw').trans (jl hc)
   |_=>cases hc
  subst ew;let⟨its,rv,pl,_⟩:=I.list h;obtain⟨o,e1,c1,_⟩:=pl.isList;exact PySem.W.kia_one PySem.W.kitx_list I.kIn ⟨o,e1,c1⟩ e (λz=>nomatch z) λtk=>⟨.bl b,H,I.tok tk,rfl,q⟩
 | st h=>
  obtain⟨u,w,rfl,ru,rw'⟩:=ff r
  (first|obtain rfl:=ru.isA rfl|cases ru)
  have ew:w=c:=by
   cases y with
   |ref a=>exact(show w=Value.ref a from rw').trans (jl hc)
   |ty n=>exact(show w=Value.type n from rw').trans (jl hc)
   |_=>cases hc
  subst ew;let⟨its,rv,pl,_⟩:=I.tuple h;obtain⟨o,e1,c1,_⟩:=pl;exact PySem.W.kia_one PySem.W.kitx_tuple I.kIn ⟨o,e1,c1⟩ e (λz=>nomatch z) λtk=>⟨.bl b,H,I.tok tk,rfl,q⟩
noncomputable def tE:D->Option String
 |.non=>some "NoneType"
 |.bl _=>some "bool"
 |.int _=>some "int"
 |.str _=>some "str"
 |.lst _=>some "list"
 |.tup _=>some "tuple"
 |.dct _=>some "dict"
 |.exc _=>none
 |.fn _=>none
 |.tab _ _ _=>none
 |.dit _=>some "dict"
 |.obj _ _=>none
def qso{H:Hp}{v:V}{d:D}{n:String}(r:Rp K H v d)(e:tE d=some n):TyO K H v (.type n):=by
 cases r with
 |non=>cases e;exact .of .non
 |bl b=>cases e;exact .of (.bl b)
 |int i=>cases e;exact .of (.int i)
 |str x=>cases e;exact .of (.str x)
 |lst h _=>cases e;exact .sl h
 |tup h _=>cases e;exact .st (SqT.of h)
 |dct h _=>cases e;exact .of (.dK h)
 |dit h _=>cases e;exact .of (.dT h)
 |obj _ _=>cases e
 |exc _ _ _=>cases e
 |fn _=>cases e
 |tab _=>cases e
def eZ(K:am)(Y:String)(f:String->Option Bool):Prop:=∀s b,f s=some b->PySem.W.kitOne K (.type s) (.type Y)=some b
noncomputable def gv(Y:String):String->Option Bool:=λs=>
 if s="NoneType" then some (decide (Y="NoneType"))else if s="bool" then some (decide (Y="bool")||decide (Y="int"))else if s="int" then some (decide (Y="int"))else if s="str" then some (decide (Y="str"))
 else if s="list" then some (decide (Y="list"))else if s="tuple" then some (decide (Y="tuple"))else if s="dict" then some (decide (Y="dict"))else none
def q9d{Y:String}(h1:PySem.W.kitOne K (.type "NoneType") (.type Y)=some (decide (Y="NoneType")))(h2:PySem.W.kitOne K (.type "bool") (.type Y)=some (decide (Y="bool")||decide (Y="int")))(h3:PySem.W.kitOne K (.type "int") (.type Y)=some (decide (Y="int")))
 (h4:PySem.W.kitOne K (.type "str") (.type Y)=some (decide (Y="str"))) (h5:PySem.W.kitOne K (.type "list") (.type Y)=some (decide (Y="list"))) (h6:PySem.W.kitOne K (.type "tuple") (.type Y)=some (decide (Y="tuple"))) (h7:PySem.W.kitOne K (.type "dict") (.type Y)=some (decide (Y="dict"))):eZ K Y (gv Y):=λs b e=>by
 unfold gv at e;split at e
 .rename_i z;subst z;rw[<-e];exact h1
 split at e
 .rename_i z;subst z;rw[<-e];exact h2
 split at e
 .rename_i z;subst z;rw[<-e];exact h3
 split at e
 .rename_i z;subst z;rw[<-e];exact h4
 split at e
 .rename_i z;subst z;rw[<-e];exact h5
 split at e
 .rename_i z;subst z;rw[<-e];exact h6
 split at e
 .rename_i z;subst z;rw[<-e];exact h7
 .cases e
def gK(f:String->Option Bool)(d:D):Option D:=match tE d with
 |some s=>(f s).map .bl
 |none=>none
def ud{Y:String}{f:String->Option Bool}(hk:eZ K Y f)(ha:MB K O t fa):ME K O (jZ (si K) (iT t (iT (tC (.ty Y)) fy))) (aG (gK f) fa):=λZ J H R M d M' Q S e k=>by
 let⟨x,M1,e1,e⟩:=bD e;obtain⟨e2,rfl⟩:=cQ e;refine ha Z J H R M x _ _ S e1 λv H1 R1 S1 st1 r1=>?_;unfold gK at e2;cases e3:tE x with
 |none=>rw[e3]at e2;cases e2
 | some s=>
  rw[e3]at e2;dsimp only at e2;cases e4:f s with
  |none=>rw[e4]at e2;cases e2
  | some b=>
   rw[e4]at e2;cases e2;exact⟨v,.ty Y,.type s,.type Y,b,rfl,rfl,qso r1 e3,hk s b e4,k _ H1 R1 S1 st1 (.bl b)⟩
end
def bc(f:aS):aJ:=bO f λds=>ae (D.lst ds)
section
variable{K:am}{O O1 O':Zg}{t:TE}{c:MC}{u:TS}{f:aH}{fn:aS}
def dy(h:MN K O t fn):ME K O t (bc fn):=h.me
def qL(h:MS c O O1 u f)(hs:cA c O1 O'=true):MS c O O' u f:=λZ E J H R M o hP S e k=>by
 refine h Z E J H R M o hP S e ?_;cases o with
 | nx M'=>
  intro J' H' R' S' s';let⟨S2,s2⟩:=S'.sub' hP hs;exact k J' H' _ S2 (s'.trans s2)
 |bk M'=>exact k
 |ct M'=>exact k
 |rt d M'=>exact k
def qK{k n:Nat}{js:Zg}{wi:TI}{g:TG}{tt:TT}{te:TE}(he:MN c.K O (qq n js wi g tt te) fn)(hs:cA c O O'=true)(hi:k∉O'):MS c O O' (tV k n js wi g tt te) (aA k (bc fn)):=
 show MS c O O' (eH (qq n js wi g tt te) (gh k)) (aA k (bc fn))from cc (dy he) hs hi
noncomputable def mj(fe:aJ):aH:=λM=>match fe M with
 |none=>none
 |some (_,M1)=>some (.nx M1)
def uC{fe:aJ}(he:ME c.K O t fe)(hs:cA c O O'=true):MS c O O' (mU t) (mj fe):=λZ E J H R M o hP S e k=>by
 unfold mj at e;cases e1:fe M with
 |none=>rw[e1]at e;cases e
 | some p=>
  obtain⟨d,M1⟩:=p;rw[e1]at e;cases e;refine he Z J H R M d M1 _ S e1 λv H1 R1 S1 st1 r1=>?_;let⟨S2,s2⟩:=S1.sub' hP hs;exact k J H1 _ S2 (st1.r.trans s2)
end
noncomputable def wN(i j:Int):Bool:=(decide (-(2^64)<i)&&decide (i<2^64))||(decide (-(2^64)<j)&&decide (j<2^64))
noncomputable def wM(_ j:Int):Bool:=decide (0<j)&&decide (j<1073741824)
noncomputable def C4(_ j:Int):Bool:=decide (0<j)
noncomputable def mP(i j:Int):Bool:=decide (0<=j)&&decide (j<=1000000)&&decide (i.natAbs<2^64)
abbrev lO:D->D->Option D:=kW wM λi j=>i / j
abbrev de:D->D->Option D:=kW C4 λi j=>i % j
abbrev sH:D->D->Option D:=kW mP λi j=>i^j.toNat
abbrev cB:D->D->Option D:=kW mP λi j=>i*2^j.toNat
abbrev oa:D->D->Option D:=rB λi j=>Builtin.bitAnd i j
abbrev sG:D->D->Option D:=rB λi j=>Builtin.bitXor i j
abbrev Au:D->D->Option D:=pH λi j=>decide (i<j)
abbrev HJ:D->D->Option D:=pH λi j=>decide (i<=j)
abbrev Av:D->D->Option D:=pH λi j=>decide (j<i)
section
variable{K:am}
def Eg:gY K (rI sR λi j=>.int (i / j)) lO:=lB λi j h=>by unfold wM at h;simp only[Bool.and_eq_true,decide_eq_true_eq]at h;exact h
def ug:gY K (rI (λ_ j=>0<j) λi j=>.int (i % j)) de:=lB λi j h=>of_decide_eq_true h
def qvm:gY K (rI lV λi j=>.int (i^j.toNat)) sH:=lB λi j h=>by unfold mP at h;simp only[Bool.and_eq_true,decide_eq_true_eq]at h;exact⟨h.1.1,h.1.2,h.2⟩
def xY:gY K (rI lV λi j=>.int (i*2^j.toNat)) cB:=lB λi j h=>by unfold mP at h;simp only[Bool.and_eq_true,decide_eq_true_eq]at h;exact⟨h.1.1,h.1.2,h.2⟩
def qvn:gY K (hU λi j=>.int (Builtin.bitAnd i j)) oa:=Dc
def qvl:gY K (hU λi j=>.int (Builtin.bitXor i j)) sG:=Dc
end
section
variable{K:am}{O O':Zg}{t ta tb:TE}{fa fb:aJ}{fn:aS}{c:MC}
noncomputable def lN:D->Option D
 |.int i=>some (.int (-i))
 |_=>none
def qw5(h:ME K O t fa):ME K O (CJ (rU λi=>.int (-i)) t) (aG lN fa):=λZ J H R M d M' Q S e k=>by
 let⟨x,M1,e1,e⟩:=bD e;obtain⟨e2,rfl⟩:=cQ e;refine h Z J H R M x _ _ S e1 λv H1 R1 S1 st1 r1=>?_
 (first|split at e2|(unfold lN at e2;split at e2))
 .rename_i i;obtain rfl:=r1.isA rfl;cases e2;exact⟨i,rfl,k _ H1 R1 S1 st1 (.int _)⟩
 .cases e2
def dAny:D->Option D
 |.lst xs=>(iV xs).map λbs=>.bl (bs.any id)
 |_=>none
def iw(i:Nat)(fn:aS):aH:=λM=>if isL M i=true then(match fn M with
 |none=>none
 | some (ys,M1)=>match M1[i]? with
  |some (some (.lst xs))=>if xs.length+ys.length<=sizeLine then some (.nx (M1.set i (some (.lst (xs++ys)))))else none
  |_=>none)else none
def Ec{i:Nat}(hi:i∈O)(ha:MN c.K O ta fn)(hs:cA c O O'=true):MS c O O' (mU (tH c.K "list" Fm (dq i) (iT ta fy))) (iw i fn):=λZ E J H R M o hP S e k=>by
 unfold iw at e;split at e
 case isFalse=>cases e
 rename_i hL;cases e1:fn M with
 |none=>rw[e1]at e;cases e
 | some p=>
  obtain⟨ys,M1⟩:=p;rw[e1]at e;dsimp only at e;let⟨l,vs,ds,h1,h2,h3,h4,h5⟩:=S.own i hi;obtain⟨us,_,rfl,rfl,_⟩:=D5 hL h1 h5;refine⟨.ref l,h2,.inl ⟨rfl,us,SqL.of h3⟩,ha Z J H R M ys M1 _ S e1 λb zs H1 R1 S1 st1 b0 bH bR r1=>?_⟩;let⟨l',vs',ds',g1,g2,g3,g4,g5⟩:=S1.own i hi;rw[h2]at g2;cases g2;rw[g1]at e;cases g5 with
  |dct _=>cases e
  |dit _=>cases e
  |lst g5=>
  rename_i vs' ds';dsimp only at e;split at e
  .rename_i hz;cases e;refine⟨l,b,vs',zs,rfl,rfl,g3,bH,by rw[g5.length,r1.length];exact hz,?_⟩;let⟨S2,s2⟩:=(S1.write hi h2 (.lst (g5.append r1))).sub' hP hs;exact k J _ _ S2 (st1.r.trans s2)
  .cases e
def dc(fn:aS)(fb:aJ):aS:=bO fn λxs=>bO fb λy=>da (match y with
 |.int k=>if -(2^63)<=k/\k<2^63/\xs.length*k.toNat<=sizeLine then some (List.replicate k.toNat xs).flatten else none
 |_=>none)
theorem Rps.rep{R:Hp}{xs:List V}{ds:List D}(r:Rps K R xs ds):∀k:Nat,Rps K R (List.replicate k xs).flatten (List.replicate k ds).flatten
 |0=>.nil
 | k+1=>by rw[List.replicate_succ,List.replicate_succ,List.flatten_cons,List.flatten_cons];exact r.append (Rps.rep r k)
def o9(ha:MN K O ta fn)(hb:ME K O tb fb):MN K O (iQ rY ta tb) (dc fn fb):=λZ J H R M d M' Q S e k=>by
 let⟨xs,M1,e1,e⟩:=bD e;let⟨y,M2,e2,e⟩:=bD e;obtain⟨e3,rfl⟩:=cQ e;refine ha Z J H R M xs M1 _ S e1 λl vs H1 R1 S1 st1 h0 hH hR r1=>hb Z J H1 R1 M1 y _ _ S1 e2 λw H2 R2 S2 st2 r2=>?_
 (first|split at e3)
 .rename_i j;obtain rfl:=r2.isA rfl;have e4:(if -(2^63)<=j/\j<2^63/\xs.length*j.toNat<=sizeLine then some (List.replicate j.toNat xs).flatten else none)=some d:=e3;split at e4
  .rename_i hz;cases e4;refine⟨l,j,vs,rfl,rfl,st2.h l _ hH (λi hi=>S.notnew h0 i hi),hz.1,hz.2.1,by rw[r1.length];exact hz.2.2,λp np=>?_⟩;have y:=Ext.hid (o:=.lst (List.replicate j.toNat vs).flatten) S2.sub np;exact k p _ _ _ (S2.ext y) ((st1.trans st2).trans y.stp) ((st1.trans st2).new np) cr (S2.out np) ((r1.mono st2.r).rep _)
  .cases e4
 .cases e3
end
section
variable{ρ:Model}{A:Around}{E:Z0}{s:Shared}
end
section
variable{X:Cx}{K:am}
end
section
variable{c:MC}{O O':Zg}{te:TE}{fn:aS}
end
theorem dw{α:Type}(a:Array α):∀(k:Nat) (acc:Array α),(List.foldl (λx1 x2=>x1++x2) acc (List.replicate k a)).size=acc.size+k*a.size
 |0,acc=>by simp
 | k+1,acc=>by rw[List.replicate_succ,List.foldl_cons,dw a k,Array.size_append,Nat.succ_mul];omega
def q6c:fillsNumberSlot (.type "tuple") "mul"=pure false:=
 PySem.fillsNumberSlot_seq (id:="tuple.__mul__") (r:=some (.builtin "tuple.__rmul__")) F.slot_tuple_mul.lookup (by decide+kernel) F.slot_tuple_rmul.lookup (by decide+kernel)
def qa3:seqRepeat? (.type "tuple")=pure (some (.builtin "tuple.__mul__")):=by unfold seqRepeat?;rw[PySem.seqSlot_of (T:="tuple") (name:="__mul__") (id:="tuple.__mul__") F.slot_tuple_mul.lookup (by decide+kernel),PySem.seqSlot_of (T:="tuple") (name:="__rmul__") (id:="tuple.__rmul__") F.slot_tuple_rmul.lookup (by decide+kernel)];rfl
def q7t(a:Int)(t:Tok)(l:Addr)(items:Zd)(n:Nat)(dd:Zc)(sl:Array (Option Value)):
 Meets (Builtin.«int.__rmul__» ⟨[.int a t,.ref l],[]⟩) (λ_ R s=>s.heap.get? l=some {cls:=.type "tuple",dict:=dd,data:=.seq items n,slots:=sl}/\R (.ok (.ret Value.notImplemented)) s):=
 .of_wp λprog w A R s h=>by obtain⟨hp,g,d,tk,os⟩:=s;obtain⟨hl,h⟩:=h;wp_walk;exact⟨_,rfl,h⟩
def qec(l:Addr)(items:Zd)(n:Nat)(dd:Zc)(sl:Array (Option Value))(x:Int)(u:Tok)(h1:1<x)(h2:x<=1000)(he:items.isEmpty=false)(hz:items.size<=1000):
 Meets (Builtin.«tuple.__mul__» ⟨[.ref l,.int x u],[]⟩) (λ_ R s=>s.heap.get? l=some {cls:=.type "tuple",dict:=dd,data:=.seq items n,slots:=sl}/\R (.ok (.ret (Value.ref s.heap.objs.size))) {s with heap:=s.heap.push {cls:=Value.type "tuple",data:=Data.seq (List.foldl (λx1 x2=>x1++x2) #[] (List.replicate x.toNat items))},toks:=s.toks}):=
 .of_wp λprog w A R s h=>by
  obtain⟨hp,g,d,tk,os⟩:=s;obtain⟨hl,h⟩:=h;have f1:=AutoSeq1.idx_int;have f2:=AutoSeq1.sub_tuple_tuple;have hc0:¬(decide (x< -2^63)||decide (x≥2^63))=true:=by simp only[Bool.or_eq_true,decide_eq_true_eq];omega
  have hc1:¬(items.isEmpty||x==1)=true:=by rw[he,Bool.false_or];simp;omega
  have hc2:¬(decide (x<=0)||items.isEmpty)=true:=by rw[he,Bool.or_false];simp;omega
  have hm:(items.size:Int)*x<=1000*1000:=Int.le_trans (Int.mul_le_mul_of_nonneg_left h2 (Int.natCast_nonneg _)) (Int.mul_le_mul_of_nonneg_right (by omega) (by decide));have hc3:¬(items.size:Int)*x>(2^63-1) / 8:=by omega
  have hc4:¬Builtin.Tuple.tupleTooMany ((items.size:Int)*x)=true:=by
   unfold Builtin.Tuple.tupleTooMany;have:(sizeLine:Int)≥1000*1000:=by decide
   simp;omega
  wp_walk using vt hl
  rw[if_neg hc0]
  wp_walk using vt hl
  rw[if_neg hc1];rw[if_neg hc2];rw[if_neg hc3];rw[if_neg hc4]
  wp_walk using vt hl
  have hc5:¬(List.foldl (λx1 x2=>x1++x2) #[] (List.replicate x.toNat items)).size>sizeLine:=by
   rw[dw];have h7:x.toNat*items.size<=1000*1000:=Nat.mul_le_mul (by omega) hz;have h8:(sizeLine:Nat)≥1000*1000:=by decide
   simp;omega
  rw[if_neg hc5]
  wp_walk using vt hl
  exact⟨_,rfl,h⟩
def Do(K:am):R2:=λx y H Q=>∃l k xs,x=.ref l/\y=.int k/\SqT K H l xs/\1<k/\k<=1000/\xs≠[]/\xs.length<=1000/\∀p,H p=none->Q (.ref p) (aN H p (.tup (List.replicate k.toNat xs).flatten))
section
variable{X:Cx}{K:am}
def qpv(hK:X.K=K):OpR X (binaryOp .Mult) (Do K):=by
 subst hK;intro z5 s J H x y v u Q I rx ry h;obtain⟨l,k,xs,rfl,rfl,hH,h1,h2,hx,hz,q⟩:=h
 (first|obtain rfl:=rx.isA rfl|cases rx)
 obtain⟨t,rfl⟩:=ry;let⟨its,r1,p1,_⟩:=I.tuple hH;let⟨⟨cls,dd,data,sl⟩,ho,hc,n,hd⟩:=id p1;simp only at hc hd;subst hc hd;have ze:=r1.length;have he:its.toArray.isEmpty=false:=by
  cases its with
  |nil=>exact absurd (r1.nil_iff.mp rfl) hx
  |cons a r=>rfl
 have f0:List.foldl (λx1 x2=>x1++x2) #[] (List.replicate k.toNat its.toArray)=(List.replicate k.toNat its).flatten.toArray:=by have:=dQ its k.toNat [];rw[List.nil_append]at this;exact this
 refine wpAny_binaryOp_repeat_ref (T:="tuple") (U:="int") (by decide) ⟨_,ho,rfl⟩ (λs'=>typeIs_int s' k t) q6c F.fills_int_mul F.slot_int_rmul qa3 F.slot_int_index.lookup
  (call_meets F.slot_int_rmul (typeIs_int s k t) F.entry_int_rmul (F.args_int_rmul_2 _ _) (q7t k t l its.toArray n dd sl)
    ⟨ho,rfl,⟨_,ho,rfl⟩,call_meets F.slot_tuple_mul ⟨_,ho,rfl⟩ F.entry_tuple_mul (F.args_tuple_mul_2 _ _) (qec l its.toArray n dd sl k t h1 h2 he (by rw[x5];omega)) ⟨ho,?_⟩⟩)
 rw[f0];have hsz:(List.replicate k.toNat xs).flatten.length<=sizeLine:=by rw[hJ];exact x6 (Nat.mul_le_mul (by omega:k.toNat<=1000) hz) (by decide)
 refine⟨.ref s.heap.objs.size,_,I.laid (t':=s.toks) (o:=.tup (List.replicate k.toNat xs).flatten) (λb ob q=>je _ q) (jg _) ?_,rfl,q _ (I.hok.fresh (jg _))⟩;exact⟨hsz,_,r1.rep k.toNat,TupN.new _ _⟩
noncomputable def uv(z:Str)(k:Int):Str:=if(k==1||z.length==0)=true then z else⟨List.foldl (λx1 x2=>x1++x2) #[] (List.replicate k.toNat z.cps)⟩
def qhx:OpR X (binaryOp .Mult) (λx y H Q=>∃z k,x=.str z/\y=.int k/\0<k/\k<=1000/\0<z.length/\z.length<=1000/\Q (.str (uv z k)) H):=by
 intro z5 s J H x y v u Q I rx ry h;obtain⟨z,k,rfl,rfl,h1,h2,h3,h4,q⟩:=h;obtain⟨t,rfl⟩:=rx;obtain⟨t',rfl⟩:=ry;have hm:z.length*k.toNat<=1000*1000:=Nat.mul_le_mul h4 (by omega);refine PySem.P.mul_str (by simp;omega) (λ_ _=>?_) (λ_ _=>?_) ?_
 .intro hgt;have h5:((2:Int)^63-1) / 1000<=(2^63-1) / k:=by
   refine Int.le_ediv_of_mul_le h1 ?_;have:((2:Int)^63-1) / 1000*k<=(2^63-1) / 1000*1000:=Int.mul_le_mul_of_nonneg_left h2 (by decide);exact Int.le_trans this (by decide)
  have h6:(1000:Int)<(2^63-1) / 1000:=by decide
  omega
 .unfold Builtin.Str.tooLong;have:(sizeLine:Nat)≥1000*1000:=by decide
  simp;omega
 .rw[if_neg (by omega)];unfold uv at q;split
  .rename_i hh;rw[if_pos hh]at q;exact⟨.str z,H,I,⟨t,rfl⟩,q⟩
  .rename_i hh;rw[if_neg hh]at q;refine⟨?_,⟨.str _,H,I.tok _,⟨_,rfl⟩,q⟩⟩;show(List.foldl (λx1 x2=>x1++x2) #[] (List.replicate k.toNat z.cps)).size<=sizeLine;rw[dw];have h7:k.toNat*z.cps.size<=1000*1000:=Nat.mul_le_mul (by omega) h4;have h8:(sizeLine:Nat)≥1000*1000:=by decide
   simp;omega
def CMul2(i j:Int):Prop:=CMul i j∨(i.natAbs<2^250/\j.natAbs<2^250)
def EO{k:Int}(h:k.natAbs<2^250):Builtin.Int.intBits k<=250:=by
 unfold Builtin.Int.intBits;split
 .exact Nat.zero_le _
 .rename_i h0;have hk:k.natAbs≠0:=λz=>h0 (by simpa using z);have:k.natAbs.log2<250:=(Nat.log2_lt hk).mpr h;omega
def CMul2.ok{i j:Int}(h:CMul2 i j):IntMulOk i j:=by
 rcases h with h|⟨h1,h2⟩
 .exact h.ok
 .exact IntMulOk.of_le (EO h1) (EO h2) (by decide)
def op_mul2:OpR X (binaryOp .Mult) (rI CMul2 λi j=>.int (i*j)):=rq λ_ _ _ _ _ _ _ hc q=>mul_int q hc.ok
noncomputable def oh(i:Int):Bool:=decide (i.natAbs<2^250)
def uh(i j:Int):Bool:=wN i j||(oh i&&oh j)
def qhz{i j:Int}(h:uh i j=true):CMul2 i j:=by
 unfold uh wN oh at h;simp only[Bool.or_eq_true,Bool.and_eq_true,decide_eq_true_eq]at h;rcases h with h|h
 .exact .inl h
 .exact .inr h
def Dm(K:am):R2:=λx y H Q=>rI CMul2 (λi j=>.int (i*j)) x y H Q∨Do K x y H Q∨∃z k,x=.str z/\y=.int k/\0<k/\k<=1000/\0<z.length/\z.length<=1000/\Q (.str (uv z k)) H
def pp(hK:X.K=K):OpR X (binaryOp .Mult) (Dm K):=op_mul2.or ((qpv hK).or qhx)
end
def ml:D->D->Option D
 |.int i,.int j=>if uh i j=true then some (.int (i*j))else none
 |.tup xs,.int k=>if 1<k/\k<=1000/\xs≠[]/\xs.length<=1000 then some (.tup (List.replicate k.toNat xs).flatten)else none
 |.str z,.int k=>if 0<k/\k<=1000/\0<z.length/\z.length<=1000 then some (.str (uv z k))else none
 |_,_=>none
def Fb{K:am}:gY K (Dm K) ml:=λH R x y d e u Q s rx ry q k=>by
 unfold ml at q;split at q
 .rename_i i j;split at q
  .rename_i h
   (first|obtain rfl:=q.isA rfl|cases q)
   (first|obtain rfl:=rx.isA rfl|cases rx)
   (first|obtain rfl:=ry.isA rfl|cases ry)
   exact .inl ⟨i,j,rfl,rfl,qhz h,k _ H R (Ext.refl s) (.int _)⟩
  ·(first|obtain rfl:=q.isA rfl|cases q)
 .rename_i ds j;split at q
  .rename_i hc
   (first|obtain rfl:=q.isA rfl|cases q)
   (first|obtain rfl:=ry.isA rfl|cases ry)
   obtain⟨a,xs,rfl,h,r⟩:=rx.isT;refine .inr (.inl ⟨a,j,xs,rfl,rfl,SqT.of (s _ _ h),hc.1,hc.2.1,λz=>?_,by rw[r.length];exact hc.2.2.2,λp np=>?_⟩)
   .subst z
    (first|obtain rfl:=r.isA rfl|cases r)
    exact hc.2.2.1 rfl
   .have y:=Ext.new (o:=.tup (List.replicate j.toNat xs).flatten) s np;exact k _ _ _ y (.tup cr ((r.rep _).mono y.r))
  ·(first|obtain rfl:=q.isA rfl|cases q)
 .rename_i z j;split at q
  .rename_i hc
   (first|obtain rfl:=q.isA rfl|cases q)
   (first|obtain rfl:=ry.isA rfl|cases ry)
   (first|obtain rfl:=rx.isA rfl|cases rx)
   exact .inr (.inr ⟨z,j,rfl,rfl,hc.1,hc.2.1,hc.2.2.1,hc.2.2.2,k _ H R (Ext.refl s) (.str _)⟩)
  ·(first|obtain rfl:=q.isA rfl|cases q)
 ·(first|obtain rfl:=q.isA rfl|cases q)
section
variable{X:Cx}{K:am}{O:Zg}{pos:Pos}
end
inductive TyX(K:am)(H:Hp):V->Value->Prop where
 |exc {a C:Addr} (h:H a=some (sF a (.ref C))) (k:ExcK K C):TyX K H (.ref a) (.ref C)
 |non:TyX K H .non (.type "NoneType")
section
variable{X:Cx}{K:am}{O:Zg}{t:TE}{fa:aJ}
structure KitE(K:am)(c:Value)(sub:Str->Option Bool):Prop where
 exc:∀x C b,PySem.W.nsIn K mainGlobals x=some (some (.ref C))->sub x=some b->PySem.W.kitOne K (.ref C) c=some b
 non:PySem.W.kitOne K (.type "NoneType") c=some false
structure z02(K:am)(cs:Ze)(sub:Str->Option Bool):Prop where
 exc:∀x C b,PySem.W.nsIn K mainGlobals x=some (some (.ref C))->sub x=some b->PySem.W.kitAny K (.ref C) cs=some b
 non:PySem.W.kitAny K (.type "NoneType") cs=some false
end
abbrev Xr:=av->Option (Str×av)
def nu(K:am)(E:XK)(C:Str)(H:Hp):Prop:=∀v,PySem.W.nsIn K mainGlobals C=some (some v)->E v none H
section
variable(K:am)(O:Zg)
def MX(t:TE)(E:XK)(fx:Xr):Prop:=∀(Z:Anc) (J:St) (H R:Hp) (M:av) (C:Str) (M':av) (Q:VK),StR K Z O J H R M->fx M=some (C,M')->(∀H' R',StR K Z O J H' R' M'->Stp O J H R H' R'->nu K E C H')->t J H Q
def HP(t:TT)(E:XK)(fx:Xr):Prop:=∀(Z:Anc) (J:St) (H R:Hp) (M:av) (C:Str) (M':av) (Q:Bool->Hp->Prop),StR K Z O J H R M->fx M=some (C,M')->(∀H' R',StR K Z O J H' R' M'->Stp O J H R H' R'->nu K E C H')->t J H Q
def pK(t:TA)(E:XK)(fx:Xr):Prop:=∀(Z:Anc) (J:St) (H R:Hp) (M:av) (C:Str) (M':av) (Q:List V->Hp->Prop),StR K Z O J H R M->fx M=some (C,M')->(∀H' R',StR K Z O J H' R' M'->Stp O J H R H' R'->nu K E C H')->t J H Q
def HQ(t:TI)(E:XK)(fx:Xr):Prop:=∀(Z:Anc) (J:St) (H R:Hp) (M:av) (C:Str) (M':av) (Q:It->Hp->Prop),StR K Z O J H R M->fx M=some (C,M')->(∀H' R',StR K Z O J H' R' M'->Stp O J H R H' R'->nu K E C H')->t J H Q
end
noncomputable def fj:Xr:=λ_=>none
noncomputable def mi{α:Type}(fa:av->Option (α×av))(xa xb:Xr):Xr:=λM=>match xa M with
 |some r=>some r
 | none=>match fa M with
  |some (_,M1)=>xb M1
  |none=>none
def Hr{α:Type}{fa:av->Option (α×av)}{xa xb:Xr}{M:av}{r:Str×av}(h:mi fa xa xb M=some r):xa M=some r∨∃a M1,fa M=some (a,M1)/\xb M1=some r:=by
 unfold mi at h;cases e:xa M with
 |some q=>rw[e]at h;cases h;exact .inl rfl
 | none=>
  rw[e]at h;cases e2:fa M with
  |none=>rw[e2]at h;cases h
  |some p=>rw[e2]at h;exact .inr ⟨p.1,p.2,rfl,h⟩
section
variable{K:am}{O:Zg}{E:XK}{t ta tb:TE}{tr:TA}{tt:TT}{fa fb:aJ}{fs:aS}{xa xb xs:Xr}
def qz4:MX K O t E fj:=λ_ _ _ _ _ _ _ _ _ e=>by cases e
def qvu:HP K O tt E fj:=λ_ _ _ _ _ _ _ _ _ e=>by cases e
def o7:pK K O tr E fj:=λ_ _ _ _ _ _ _ _ _ e=>by cases e
def qz3{r:R2}(ha:ME K O ta fa)(ka:MX K O ta E xa)(kb:MX K O tb E xb):MX K O (iQ r ta tb) E (mi fa xa xb):=λZ J H R M C M' Q S e k=>by
 rcases Hr e with e|⟨a,M1,e1,e2⟩
 .exact ka Z J H R M C M' _ S e k
 .exact ha Z J H R M a M1 _ S e1 λv H1 R1 S1 st1 r1=>kb Z J H1 R1 M1 C M' _ S1 e2 λH2 R2 S2 st2=>k H2 R2 S2 (st1.trans st2)
def gc(ha:ME K O ta fa)(ka:MX K O ta E xa)(kr:pK K O tr E xs):pK K O (iT ta tr) E (mi fa xa xs):=λZ J H R M C M' Q S e k=>by
 rcases Hr e with e|⟨a,M1,e1,e2⟩
 .exact ka Z J H R M C M' _ S e k
 .exact ha Z J H R M a M1 _ S e1 λv H1 R1 S1 st1 r1=>kr Z J H1 R1 M1 C M' _ S1 e2 λH2 R2 S2 st2=>k H2 R2 S2 (st1.trans st2)
def qz5{r:List V->Hp->VK->Prop}(h:pK K O tr E xs):MX K O (jZ r tr) E xs:=λZ J H R M C M' Q S e k=>h Z J H R M C M' _ S e k
def dM(K:am)(fr:Bool)(n:Nat)(f:List D->Option D)(fx:List D->Option Str):Sp:=λvs H Q E=>cj K fr n f vs H Q E∨
 (vs.length=n/\∃R ds C,(∀a o,R a=some o->H a=some o)/\Rps K R vs ds/\fx ds=some C/\∀H' R',Ext H R H' R'->nu K E C H')
def uP{fr:Bool}{n:Nat}{f:List D->Option D}{fx:List D->Option Str}{vs:List V}{H:Hp}{Q:VK}(h:dM K fr n f fx vs H Q E):vs.length=n:=by
 rcases h with h|h
 .exact h.1
 .exact h.1
noncomputable def mV(fx:List D->Option Str)(fs:aS)(xs:Xr):Xr:=λM=>match xs M with
 |some r=>some r
 | none=>match fs M with
  |some (ds,M1)=>(fx ds).map λC=>(C,M1)
  |none=>none
def oX(n:Nat)(fx:List D->Option Str):Prop:=∀ds C,fx ds=some C->ds.length=n
def uD{n:Nat}{fr:Bool}{f:List D->Option D}{fx:List D->Option Str}(hf:oX n fx)(h:MA K O tr fs)(hx:pK K O tr E xs):MX K O (jH (dM K fr n f fx) [] E tr) E (mV fx fs xs):=λZ J H R M C M' Q S e k=>by
 unfold mV at e;cases e1:xs M with
 |some r=>rw[e1]at e;cases e;exact hx Z J H R M C M' _ S e1 k
 | none=>
  rw[e1]at e;cases e2:fs M with
  |none=>rw[e2]at e;cases e
  | some p=>
   obtain⟨ds,M1⟩:=p;rw[e2]at e;dsimp only at e;cases e3:fx ds with
   |none=>rw[e3]at e;cases e
   | some C1=>
    rw[e3]at e;cases e;refine h Z J H R M ds _ _ S e2 λvs H1 R1 S1 st1 r1=>?_;show dM K fr n f fx (vs++[]) H1 Q E;rw[List.append_nil];exact .inr ⟨by rw[r1.length];exact hf ds C e3,R1,ds,C,S1.sub,r1,e3,λH2 R2 x=>k H2 R2 (S1.ext x) (st1.trans x.stp)⟩
def m5{n:Nat}{f:List D->Option D}{fx:List D->Option Str}(hf:bV n f)(h:MA K O tr fs):ME K O (jH (dM K false n f fx) [] E tr) (a9 f fs):=λZ J H R M d M' Q S e k=>by let⟨ds,M1,e1,e⟩:=bD e;obtain⟨e2,rfl⟩:=cQ e;refine h Z J H R M ds _ _ S e1 λvs H1 R1 S1 st1 r1=>?_;show dM K false n f fx (vs++[]) H1 Q E;rw[List.append_nil];exact .inl ⟨by rw[r1.length];exact hf ds d e2,R1,ds,d,S1.sub,r1,e2,λv H2 R2 x q=>k v H2 R2 (S1.ext x) (st1.trans x.stp) q⟩
end
def i6(c:MC)(O:Zg)(t:TS)(E:XK)(fx:Xr):Prop:=∀(Z:Anc) (D:Ends) (J:St) (H R:Hp) (M:av) (C:Str) (M':av),Z.P=c.P->StR c.K Z O J H R M->fx M=some (C,M')->(∀O' J' H' R',StR c.K Z O' J' H' R' M'->nu c.K E C H')->t D J H
def MSXa(c:MC)(O:Zg)(t:TS)(E:XK)(fx:Xr):Prop:=∀(Z:Anc) (D:Ends) (J:St) (H R:Hp) (M:av) (C:Str) (M':av),Z.P=c.P->StR c.K Z O J H R M->fx M=some (C,M')->(∀H' R',StR c.K Z O J H' R' M'->Same R R'->nu c.K E C H')->t D J H
def MSXa.g{c:MC}{O:Zg}{t:TS}{E:XK}{fx:Xr}(h:MSXa c O t E fx):i6 c O t E fx:=λZ D J H R M C M' hP S e k=>h Z D J H R M C M' hP S e λH' R' S' _=>k O J H' R' S'
section
variable{c:MC}{O O' O1:Zg}{t u:TS}{te:TE}{tt:TT}{tr:TA}{g:TG}{f h:aH}{fe:aJ}{fs:aS}{ft:dL}{E:XK}{xe xt fx hx:Xr}
def pd:i6 c O t E fj:=λ_ _ _ _ _ _ _ _ _ _ e=>by cases e
def GT(h:MX c.K O te E xe):MSXa c O (mU te) E xe:=λZ D J H R M C M' hP S e k=>h Z J H R M C M' _ S e λH' R' S' st=>k H' R' S' st.r
def qld(h:MX c.K O te E xe):MSXa c O (eH te g) E xe:=λZ D J H R M C M' hP S e k=>h Z J H R M C M' _ S e λH' R' S' st=>k H' R' S' st.r
noncomputable def ux(C:Str)(fs:aS):Xr:=λM=>match fs M with
 |some (ds,M1)=>if ds.length<=sizeLine then some (C,M1)else none
 |none=>none
def qer{x:Str}{a:Addr}(hx:PySem.W.nsIn c.K mainGlobals x=some (some (.ref a)))(h:MA c.K O tr fs):MSXa c O (yH a E tr) E (ux x fs):=λZ D J H R M C M' hP S e k=>by
 unfold ux at e;cases e1:fs M with
 |none=>rw[e1]at e;cases e
 | some p=>
  obtain⟨ds,M1⟩:=p;rw[e1]at e;dsimp only at e;split at e
  .rename_i hl;cases e;refine h Z J H R M ds _ _ S e1 λvs H1 R1 S1 st1 r1=>⟨by rw[r1.length];exact hl,k H1 R1 S1 st1.r _ hx⟩
  .cases e
def qlg{a:Addr}:MS c O O' (yH a E tr) (λ_=>none):=λ_ _ _ _ _ _ _ _ _ e=>by cases e
noncomputable def pL(ft:dL)(xt fx hx:Xr):Xr:=λM=>match xt M with
 |some r=>some r
 | none=>match ft M with
  |some (true,M1)=>fx M1
  |some (false,M1)=>hx M1
  |none=>none
def qk7{M:av}{r:Str×av}(e:pL ft xt fx hx M=some r):xt M=some r∨(∃M1,ft M=some (true,M1)/\fx M1=some r)∨∃M1,ft M=some (false,M1)/\hx M1=some r:=by
 unfold pL at e;cases e1:xt M with
 |some q=>rw[e1]at e;cases e;exact .inl rfl
 | none=>
  rw[e1]at e;cases e2:ft M with
  |none=>rw[e2]at e;cases e
  | some p=>
   obtain⟨b,M1⟩:=p;rw[e2]at e;cases b with
   |true=>exact .inr (.inl ⟨M1,rfl,e⟩)
   |false=>exact .inr (.inr ⟨M1,rfl,e⟩)
def qvv(ht:MT c.K O tt ft)(kt:HP c.K O tt E xt)(k1:i6 c O t E fx)(k2:i6 c O u E hx):i6 c O (nA tt t u) E (pL ft xt fx hx):=λZ D J H R M C M' hP S e k=>by
 rcases qk7 e with e|⟨M1,e1,e2⟩|⟨M1,e1,e2⟩
 .exact kt Z J H R M C M' _ S e λH' R' S' st=>k O J H' R' S'
 .exact ht Z J H R M true M1 _ S e1 λH1 R1 S1 st1=>eW (k1 Z D J H1 R1 M1 C M' hP S1 e2 k)
 .exact ht Z J H R M false M1 _ S e1 λH1 R1 S1 st1=>eX (k2 Z D J H1 R1 M1 C M' hP S1 e2 k)
noncomputable def fY(f:aH)(fx hx:Xr):Xr:=λM=>match fx M with
 |some r=>some r
 | none=>match f M with
  |some (.nx M1)=>hx M1
  |_=>none
def qM(h1:MS c O O1 t f)(k1:i6 c O t E fx)(k2:i6 c O1 u E hx):i6 c O (i7 t u) E (fY f fx hx):=λZ D J H R M C M' hP S e k=>by
 unfold fY at e;cases e1:fx M with
 |some q=>rw[e1]at e;cases e;exact k1 Z _ J H R M C M' hP S e1 k
 | none=>
  rw[e1]at e;cases e2:f M with
  |none=>rw[e2]at e;cases e
  | some o=>
   rw[e2]at e;cases o with
   |nx M1=>exact h1 Z _ J H R M _ hP S e2 λJ1 H1 R1 S1 _=>k2 Z D J1 H1 R1 M1 C M' hP S1 e k
   |_=>cases e
end
noncomputable def qpt(i:Nat):Out->Out
 |.nx M=>.nx (M.set i none)
 |.bk M=>.bk (M.set i none)
 |.ct M=>.ct (M.set i none)
 |.rt d M=>.rt d (M.set i none)
def qzi(i:Nat)(sub:Str->Bool)(fb:aH)(xb:Xr)(fh:aH):aH:=λM=>match xb M with
 |some (C,M1)=>if sub C=true then(fh (M1.set i (some (.exc C)))).map (qpt i)else none
 |none=>fb M
noncomputable def lh(sub:Str->Bool)(fb:aH)(xb:Xr)(fh:aH):aH:=λM=>match xb M with
 |some (C,M1)=>if sub C=true then fh M1 else none
 |none=>fb M
def oA(K:am)(c:Value)(sub:Str->Bool):Prop:=∀C v,PySem.W.nsIn K mainGlobals C=some (some v)->sub C=true->PySem.W.exmOne K v c=some true/\∃a,v=.ref a/\ExcK K a
section
variable{c:MC}{O O':Zg}{cv:Value}{i:Nat}{sub:Str->Bool}{tb:XK->TS}{ts:TS}{fb fh:aH}{xb:Xr}
def qvw(km:oA c.K cv sub)(hb:∀E,MS c O O' (tb E) fb)(kb:∀E,MSXa c O (tb E) E xb)(hs:MS c O O' ts fh):
 MS c O O' (rL c.K cv tb ts) (lh sub fb xb fh):=λZ D J H R M o hP S e k=>by
 unfold lh at e;cases e1:xb M with
 |none=>rw[e1]at e;exact hb _ Z D J H R M o hP S e k
 | some p=>
  obtain⟨C,M1⟩:=p;rw[e1]at e;dsimp only at e;split at e
  .rename_i hsub;refine kb _ Z D J H R M C M1 hP S e1 λH' R' S' s' v hv=>?_;let⟨q1,_⟩:=km C v hv hsub;refine⟨q1,hs Z D _ _ _ _ o hP S' e ?_⟩;cases o with
   |nx M2=>exact λJ3 H3 R3 S3 s3=>k _ H3 R3 S3 (s'.trans s3)
   |bk M2=>exact λJ3 H3 R3 S3 s3=>k _ H3 R3 S3 (s'.trans s3)
   |ct M2=>exact λJ3 H3 R3 S3 s3=>k _ H3 R3 S3 (s'.trans s3)
   |rt d M2=>exact k
  .cases e
end
noncomputable def eV(n N:Nat)(fx:Xr)(ds:List D):Option Str:=if ds.length=n then(fx (ds.map some++List.replicate (N-n) none)).map (·.1)else none
def ur{n N:Nat}{fx:Xr}:oX n (eV n N fx):=λds C e=>by
 unfold eV at e;split at e
 .assumption
 .cases e
def uZ{K:am}{fr:Bool}{n:Nat}{Nms:Zj}{O':Zg}{t:TS}{f:aH}{fx:Xr}{vs:List V}{H:Hp}{Q:VK}{E:XK}(hm:MS ⟨K,fr,[],[]⟩ [] O' t f)(hx:i6 ⟨K,fr,[],[]⟩ [] t E fx)
 (h:dM K fr n (aM fr n Nms.length f) (eV n Nms.length fx) vs H Q E):t {nx:=λ_ H'=>Q .non H',rt:=Q} (aO Nms vs) H:=by
 rcases h with h|⟨hn,R,ds,C,sub,r,e,k⟩
 .exact HE hm h
 .unfold eV at e;split at e
  .rename_i hl;have S:StR K ⟨H,R,λ_=>False,[]⟩ [] (aO Nms vs) H R (ds.map some++List.replicate (Nms.length-n) none):=by
    refine⟨sub,?_,λi d _ q=>?_,λi hi=>absurd hi (by simp),λi j hi=>absurd hi (by simp),λa o q _=>q,Same.refl _,λa q=>.inl q,λa q=>.refl q,λi hi=>absurd hi (by simp),λi hi=>absurd hi (by simp)⟩
    .unfold aO;rw[jr,jr,jb,jb,jx,jx,hn,hl]
    .let⟨v,h1,h2⟩:=r.get (re q);exact⟨v,rg h1,h2⟩
   cases e1:fx (ds.map some++List.replicate (Nms.length-n) none)with
   |none=>rw[e1]at e;cases e
   | some p=>
    obtain⟨C1,M1⟩:=p;rw[e1]at e;cases e;exact hx _ _ _ _ _ _ _ M1 rfl S e1 λO2 J' H' R' S'=>k H' R' ⟨λa o q=>S'.ah a o q (λz=>z),S'.ar,S'.sub,S'.an⟩
  .cases e
def qd{X:Cx}{P:Program}{w:World}:mm (kX P w) X E0:=λ_ _ _ _ _ _ _ h=>by obtain⟨_,_,_,_,_,z⟩:=h;exact z.elim
section
variable{K:am}{O:Zg}{tr:TA}{fs:aS}{E:XK}{n:Nat}
def qX{f:List D->Option D}{fx:List D->Option Str}(hf:bV n f)(h:MA K O tr fs):MN K O (jH (dM K true n f fx) [] E tr) (kT f fs):=λZ J H R M ds M' Q S e k=>by let⟨as,M1,e1,e⟩:=bD e;obtain⟨e2,rfl⟩:=cQ e;have e3:=Hh e2;refine h Z J H R M as _ _ S e1 λvs H1 R1 S1 st1 r1=>?_;show dM K true n f fx (vs++[]) H1 Q E;rw[List.append_nil];refine .inl ⟨by rw[r1.length];exact hf as _ e3,R1,as,_,S1.sub,r1,e3,λv H2 R2 x q=>?_⟩;obtain⟨l,us,gs,rfl,e4,h0,hH,hR,r⟩:=q;cases e4;exact k l us H2 R2 (S1.ext x) (st1.trans x.stp) (st1.new h0) hH hR r
end
section
variable{K:am}
def qwv{t:Value}{d:Addr}{b:Bool}(h0:PySem.W.subIn K (.ref d) (.type "BaseException")=some true)(h1:PySem.W.isClsIn K d=true)(h2:PySem.W.typeIn K (.ref d)=some (.type "type"))(h3:PySem.W.subIn K t (.ref d)=some b):PySem.W.exmOne K t (.ref d)=some b:=by
 unfold PySem.W.exmOne;rw[h0,if_pos (beq_self_eq_true _)];unfold PySem.W.kitCls;have e:((PySem.W.clsIn K d).isSome&&PySem.W.typeIn K (.ref d)==some (.type "type"))=true:=by rw[h2,beq_self_eq_true,Bool.and_true];exact h1
 dsimp only;rw[if_pos e];exact h3
def qqp{c:Value}{tab:Zj}(h:∀x∈tab,∃a,PySem.W.nsIn K mainGlobals x=some (some (.ref a))/\PySem.W.exmOne K (.ref a) c=some true/\ExcK K a):oA K c (λx=>tab.contains x):=λC v e q=>by let⟨a,e2,k,x⟩:=h C (by simpa using q);rw[e]at e2;cases e2;exact⟨k,a,rfl,x⟩
end
def PS.nox{X:Cx}{st:Stmt}{t:TS}(h:PS X.nox st t):PS X st t:=λz5 s J H D I hw=>
 xj (h z5 s J H D (I.wish _) hw) (λ_ _ q=>q.unwish) λ_ _ z=>False.elim z
def PS.or{X:Cx}{st:Stmt}{t u:TS}(h1:PS X st t)(h2:PS X st u):PS X st (λD J H=>t D J H∨u D J H):=λz5 s J H D I h=>by
 rcases h with h|h
 .exact h1 z5 s J H D I h
 .exact h2 z5 s J H D I h
def Dv(wi:TI):TS:=λ_ J H=>wi J H λ_ _=>False
def qph{X:Cx}{tg zf:Expr}{body:Zh}{wi:TI}{pos:Pos}(hi:PI X tg zf wi)(hs:∀x,foldedSetIterable zf X.env x=pure x:=by intro _;rfl):PS X (.For tg zf body [] pos) (Dv wi):=by intro z5 s J H D I h;refine wpAny_For (aW (hi z5 s J H _ I h) λv s1 h1=>aW h1 λitv s2 h2=>?_) hs;obtain⟨_,_,_,_,_,_,_,_,_,_,z⟩:=h2;exact z.elim
def Ed{c:MC}{O O':Zg}{t u:TS}{f:aH}(h:MS c O O' t f):MS c O O' (λD J H=>t D J H∨u D J H) f:=λZ E J H R M o hP S e k=>.inl (h Z E J H R M o hP S e k)
def qle{c:MC}{O:Zg}{t:TS}{wi:TI}{E:XK}{xi:Xr}(h:HQ c.K O wi E xi):i6 c O (λD J H=>t D J H∨Dv wi D J H) E xi:=λZ D J H R M C M' hP S e k=>.inr (h Z J H R M C M' _ S e λH' R' S' _=>k O J H' R' S')
def qlj{K:am}{O:Zg}{ta:TA}{E:XK}{xs:Xr}(h:pK K O ta E xs):HQ K O (wK ta) E xs:=λZ J H R M C M' Q S e k=>h Z J H R M C M' _ S e k
section
variable(K:am)(O:Zg)
end
section
variable{K:am}{O:Zg}{ta:TE}{tr:TA}{fa:aJ}{fs:aS}{E:XK}{n:Nat}
end
def FW{α:Type}{o:Option (α×av)}{x:α}(h:o.map (·.1)=some x):∃M,o=some (x,M):=by
 cases o with
 |none=>cases h
 |some p=>cases h;exact⟨p.2,rfl⟩
theorem gn{n:Nat}{js:Zg}{fg:dW}{fe:aJ}{M:av}(g:D->D):∀(xs:List D),(∀x∈xs,∃M1,fg x (hV n js M)=some M1/\(fe M1).map (·.1)=some (g x))->cz n js none fg (ae true) fe xs M=some (xs.map g,M)
 |[],_=>rfl
 | x::xs,h=>by let⟨M1,h1,h2⟩:=h x jj;let⟨M2,h2⟩:=FW h2;have ih:=gn (n:=n) (js:=js) (fg:=fg) (fe:=fe) (M:=M) g xs λy hy=>h y (jh _ hy);simp only[cz,h1,ae,h2,gO];rw[ih];rfl
theorem rc{n:Nat}{js:Zg}{fg:dW}{ft:dL}{fe:aJ}{M:av}(p:D->Bool)(g:D->D):∀(xs:List D),(∀x∈xs,∃M1,fg x (hV n js M)=some M1/\ft M1=some (p x,M1)/\(p x=true->(fe M1).map (·.1)=some (g x)))->cz n js none fg ft fe xs M=some ((xs.filter p).map g,M)
 |[],_=>rfl
 | x::xs,h=>by
  let⟨M1,h1,h2,h3⟩:=h x jj;have ih:=rc (n:=n) (js:=js) (fg:=fg) (ft:=ft) (fe:=fe) (M:=M) p g xs λy hy=>h y (jh _ hy);cases hp:p x with
  | false=>
   rw[hp]at h2;simp only[cz,h1,h2,gO];rw[ih,List.filter_cons_of_neg (by rw[hp];exact Bool.false_ne_true)]
  | true=>
   rw[hp]at h2;let⟨M3,h4⟩:=FW (h3 hp);simp only[cz,h1,h2,h4,gO];rw[ih,List.filter_cons_of_pos hp];rfl
theorem zF{n p q:Nat}{js:Zg}{fg:dW}{fe:aJ}{S:Type}(M:S->av)(G:D->Prop):∀(xs:List D),(∀x∈xs,∀s,∃M1 M2 y s',fg x (hV n js (M s))=some M1/\fe M1=some (y,M2)/\gO (some (p,q)) (M s) M2=M s'/\G y)->∀s,∃ys s',cz n js (some (p,q)) fg (ae true) fe xs (M s)=some (ys,M s')/\ys.length=xs.length/\∀y∈ys,G y
 |[],_,s=>⟨[],s,rfl,rfl,λ_ h=>nomatch h⟩
 | x::xs,h,s=>by
  let⟨M1,M2,y,s1,h1,h2,h3,h4⟩:=h x jj s;let⟨ys,s2,g1,g2,g3⟩:=zF M G xs (λy hy=>h y (jh _ hy)) s1;refine⟨y::ys,s2,?_,by rw[jw,jw,g2],λz hz=>?_⟩
  .simp only[cz,h1,ae,h2,h3];rw[g1]
  .rcases List.mem_cons.mp hz with rfl|hz
   .exact h4
   .exact g3 z hz
theorem iM{fg:dW}{fb:aH}(I:Nat->av->Prop):∀(xs:List D) (k:Nat) (M:av),I k M->(∀i x M,xs[i]? =some x->I (k+i) M->∃M1 M2,fg x M=some M1/\(fb M1=some (.nx M2)∨fb M1=some (.ct M2))/\I (k+i+1) M2)->∃M',eB fg fb xs M=some (.nx M')/\I (k+xs.length) M'
 |[],k,M,h0,_=>⟨M,rfl,h0⟩
 | x::xs,k,M,h0,hs=>by
  let⟨M1,M2,h1,h2,h3⟩:=hs 0 x M rfl h0;obtain⟨M',g1,g2⟩:=iM I xs (k+1) M2 h3 λi y M e hi=>by
   have e1:k+1+i=k+(i+1):=by omega
   rw[e1]at hi ⊢;exact hs (i+1) y M (by simpa using e) hi
  refine ⟨M', ?_, by rw[jw];have e1:k+(xs.length+1)=k+1+xs.length:=by omega
                     rw[e1];exact g2⟩
  simp only[eB,h1];rcases h2 with h2|h2
  .rw[h2];exact g1
  .rw[h2];exact g1
def qr1{fg:dW}{fb:aH}(I:av->Prop):∀(xs:List D) (M:av),I M->(∀x M,x∈xs->I M->∃M1 M2,fg x M=some M1/\(fb M1=some (.nx M2)∨fb M1=some (.ct M2))/\I M2)->∃M',eB fg fb xs M=some (.nx M')/\I M':=λxs M h0 hs=>by let⟨M',h1,h2⟩:=iM (fg:=fg) (fb:=fb) (λ_=>I) xs 0 M h0 λi x M e hi=>hs x M (k8 e) hi;exact⟨M',h1,h2⟩
def HK{α:Type}(x:α)(xs:List α):bX (x::xs) 0=some x:=by unfold bX e9;simp
def nr{α:Type}(x y:α)(xs:List α):bX (x::y::xs) 1=some y:=yJ (j:=1) rfl
def at2{α:Type}(x y z:α)(xs:List α):bX (x::y::z::xs) 2=some z:=yJ (j:=2) rfl
def at3{α:Type}(x y z u:α)(xs:List α):bX (x::y::z::u::xs) 3=some u:=yJ (j:=3) rfl
def mo{α:Type}{xs:List α}{i:Int}(h0:0<=i)(h:i<xs.length):bX xs i=xs[i.toNat]? :=by unfold bX e9;rw[if_pos h0,if_pos h];rfl
def dg{n:Nat}(h:n<=1000000):n<=sizeLine:=x6 h (by decide)
def ig(lo:Int)(n:Nat):(cK lo n).length=n:=by simp[cK]
def mG{lo:Int}{n i:Nat}{d:D}(h:(cK lo n)[i]? =some d):i<n/\d=.int (lo+(i:Int)):=by
 have hi:i<n:=by
  have:=(List.getElem?_eq_some_iff.mp h).1
  rwa [ig]at this
 refine⟨hi,?_⟩;unfold cK at h;rw[jq,kc hi]at h;exact(jl h).symm
noncomputable def nx(s:Int):Int:=(s*1181783497276652981+12345678910987) % (2^61-1)
def qrn(i j:Int):cV (.int i) (.int j)=some (i==j):=by simp[cV,D.toP,SeqAt.shaped,PyData.canLay0,PyData.depth,PyData.eqv]
def gQ{i j:Str}(hi:PyData.strOk i=true)(hj:PyData.strOk j=true):cV (.str i) (.str j)=some (i==j):=by simp[cV,D.toP,SeqAt.shaped,PyData.canLay0,PyData.depth,PyData.eqv,hi,hj]
section
variable{α β:Type}{a:av->Option (α×av)}{k:α->av->Option (β×av)}{M:av}{fa fb fc:aJ}{ga gb:dL}{fs:aS}{g g':D->D->Option D}{g1:D->Option D}{gl:D->Option (List D)}{g2:D->D->Option (List D)}{fl fh:av->Option (Option Int×av)}
def cq:bO a k M=(a M).bind λp=>k p.1 p.2:=by unfold bO;cases a M<;>rfl
def DZ{x:α}:ae x M=some (x,M):=rfl
def eF{o:Option α}:da o M=o.map λx=>(x,M):=by cases o<;>rfl
def xU{i:Nat}:aa i M=(M[i]?).join.map λd=>(d,M):=by
 unfold aa;cases h:M[i]? with
 |none=>rfl
 |some o=>cases o<;>rfl
def DX:ag g fa fb M=(fa M).bind λp=>(fb p.2).bind λq=>(g p.1 q.1).map λx=>(x,q.2):=by unfold ag;rw[cq];congr 1;funext p;rw[cq];congr 1;funext q;rw[eF]
def qx3:aG g1 fa M=(fa M).bind λp=>(g1 p.1).map λx=>(x,p.2):=by unfold aG;rw[cq];congr 1;funext p;rw[eF]
def qre:jI gl fa M=(fa M).bind λp=>(gl p.1).map λx=>(x,p.2):=by unfold jI;rw[cq];congr 1;funext p;rw[eF]
def qrd:qu g2 fa fb M=(fa M).bind λp=>(fb p.2).bind λq=>(g2 p.1 q.1).map λx=>(x,q.2):=by unfold qu;rw[cq];congr 1;funext p;rw[cq];congr 1;funext q;rw[eF]
def HI:D->D->Option D
 |.lst xs,.int j=>bX xs j
 |_,_=>none
def qx7{i:Nat}:iz i fb M=(fb M).bind λq=>((q.2[i]?).join).bind λx=>(HI x q.1).map λz=>(z,q.2):=by
 unfold iz;rw[cq];congr 1;funext q;rw[cq,xU];cases(q.2[i]?).join with
 |none=>rfl
 |some x=>show da _ _=_;rw[eF];first|rfl|(cases x<;>(cases q.1<;>rfl))
noncomputable def Aw:D->Option Bool
 |.bl b=>some b
 |_=>none
def yO:bB fa M=(fa M).bind λp=>(Aw p.1).map λx=>(x,p.2):=by
 unfold bB;rw[cq];congr 1;funext p;rw[eF]
 first|rfl|(cases p.1<;>rfl)
def qx5:fB ga M=(ga M).map λp=>(!p.1,p.2):=by unfold fB;rw[cq];cases ga M<;>rfl
def qxa:lG ga gb M=(ga M).bind λp=>if p.1=true then gb p.2 else some (false,p.2):=by unfold lG;rw[cq];congr 1;funext p;split<;>rfl
def qzd:gX ga gb M=(ga M).bind λp=>if p.1=true then some (true,p.2)else gb p.2:=by unfold gX;rw[cq];congr 1;funext p;split<;>rfl
def qrm:qv fa fb M=(bB fa M).bind λp=>if p.1=true then fb p.2 else some (.bl false,p.2):=by unfold qv;rw[cq];congr 1;funext p;split<;>rfl
def qrf:tR fa M=(bB fa M).map λp=>(.bl (!p.1),p.2):=by unfold tR;rw[cq];cases bB fa M<;>rfl
def qze:iP ga fa fb M=(ga M).bind λp=>if p.1=true then fa p.2 else fb p.2:=by unfold iP;rw[cq];congr 1;funext p;split<;>rfl
def DW:af M=some ([],M):=rfl
def EX:ak fa fs M=(fa M).bind λp=>(fs p.2).map λq=>(p.1::q.1,q.2):=by unfold ak;rw[cq];congr 1;funext p;rw[cq];cases fs p.2<;>rfl
def qwx:bZ fs M=(fs M).bind λp=>if p.1.length<=sizeLine then some (.tup p.1,p.2)else none:=by unfold bZ;rw[cq];congr 1;funext p;rw[eF];split<;>rfl
def qx6:aV fs M=(fs M).bind λp=>if p.1.length<=sizeLine then some (p.1,p.2)else none:=by unfold aV;rw[cq];congr 1;funext p;rw[eF];split<;>rfl
def CU:bc fs M=(fs M).map λp=>(.lst p.1,p.2):=by unfold bc;rw[cq];cases fs M<;>rfl
def qrl{f:List D->Option D}:a9 f fs M=(fs M).bind λp=>(f p.1).map λx=>(x,p.2):=by unfold a9;rw[cq];congr 1;funext p;rw[eF]
def FS{f:List D->Option D}:kT f fs M=(fs M).bind λp=>(oU (f p.1)).map λx=>(x,p.2):=by unfold kT;rw[cq];congr 1;funext p;rw[eF]
noncomputable def jT:D->Option (List D)
 |.lst xs=>some xs
 |_=>none
def qmg{f:List D->List D->Option (D×List D)}{i:Nat}:gW f i fs M=(fs M).bind λp=>((p.2[i]?).join.bind jT).bind λxs=>(f xs p.1).map λr=>(r.1,p.2.set i (some (.lst r.2))):=by
 unfold gW;rw[cq];congr 1;funext p;cases h:p.2[i]? with
 |none=>rfl
 | some o=>
  cases o with
  |none=>rfl
  | some d=>
   cases d with
   | lst xs=>
    show(match f xs p.1 with|some (d,ys)=>some (d,p.2.set i (some (.lst ys)))|none=>none)=_;show _=(f xs p.1).map _;cases f xs p.1<;>rfl
   |_=>rfl
def qrk{n:Nat}{js:Zg}{bw:Option (Nat×Nat)}{fg:dW}:ck n js bw fs fg ga fa M=(fs M).bind λp=>if p.1.length<=sizeLine then cz n js bw fg ga fa p.1 p.2 else none:=by unfold ck;rw[cq]
def D1:bn fa M=(fa M).bind λp=>(dO p.1).map λx=>(x,p.2):=by unfold bn;rw[cq];congr 1;funext p;rw[eF];cases p.1<;>rfl
def rV:List D->Option (List D)
 |[.int j]=>if eQ j=true then some (cK 0 j.toNat)else none
 |_=>none
def EZ:fU fs M=(fs M).bind λp=>(rV p.1).map λx=>(x,p.2):=by unfold fU;rw[cq];congr 1;funext p;rw[eF];rfl
def rH:List D->Option (List D)
 | [x,y]=>match dO x,dO y with
  |some xs,some ys=>some (dn xs ys)
  |_,_=>none
 |_=>none
def qww:gH fs M=(fs M).bind λp=>(rH p.1).map λx=>(x,p.2):=by unfold gH;rw[cq];congr 1;funext p;rw[eF];rfl
noncomputable def jU:D->Option (Option Int)
 |.int i=>some (some i)
 |_=>none
def EY:qI fa M=(fa M).bind λp=>(jU p.1).map λx=>(x,p.2):=by unfold qI;rw[cq];congr 1;funext p;rw[eF];cases p.1<;>rfl
def CV:rA fa fl fh M=(fa M).bind λp=>(fl p.2).bind λq=>(fh q.2).bind λr=>(nj p.1 q.1 r.1).map λx=>(x,r.2):=by unfold rA;rw[cq];congr 1;funext p;rw[cq];congr 1;funext q;rw[cq];congr 1;funext r;rw[eF]
def qmf:uI g g' fa fb fc M=(fa M).bind λp=>(fb p.2).bind λq=>((g p.1 q.1).bind Aw).bind λb=>if b=true then(fc q.2).bind λr=>(g' q.1 r.1).map λx=>(x,r.2)else some (.bl false,q.2):=by
 unfold uI;rw[cq];congr 1;funext p;rw[cq];congr 1;funext q;rw[cq,yO,eF];cases g p.1 q.1 with
 |none=>rfl
 | some d=>
  cases d with
  | bl b=>
   cases b with
   | true=>
    show bO fc (λz=>da (g' q.1 z)) q.2=_;rw[cq];show _=(fc q.2).bind _;congr 1;funext r;rw[eF]
   |false=>rfl
  |_=>rfl
def E2{f h:aH}:aq f h M=(f M).bind λo=>match o with
 |.nx M1=>h M1
 |o=>some o:=by
 unfold aq;cases f M with
 |none=>rfl
 |some o=>cases o<;>rfl
def qr3{i:Nat}:aA i fa M=(fa M).map λp=>.nx (p.2.set i (some p.1)):=by unfold aA;cases fa M<;>rfl
def qr5{i:Nat}:cE i fs M=(fs M).bind λp=>if i<p.2.length then some (.nx (p.2.set i (some (.lst p.1))))else none:=by unfold cE;cases fs M<;>rfl
def qra{fg:dW}:i8 fa fg M=(fa M).bind λp=>(fg p.1 p.2).map .nx:=by
 unfold i8;cases fa M with
 |none=>rfl
 | some p=>
  obtain⟨d,M1⟩:=p;show(match fg d M1 with|none=>none|some M2=>some (Out.nx M2))=(fg d M1).map _;cases fg d M1<;>rfl
def qwz{f h:aH}:cU ga f h M=(ga M).bind λp=>if p.1=true then f p.2 else h p.2:=by unfold cU;cases ga M<;>rfl
def qr4:aF fa M=(fa M).map λp=>.rt p.1 p.2:=by unfold aF;cases fa M<;>rfl
def qmd:mh fs M=(fs M).map λp=>.rt (.lst p.1) p.2:=by unfold mh;cases fs M<;>rfl
def qmc{i:Nat}:mT i M=((M[i]?).join.bind jT).map λd=>.rt (.lst d) (M.set i none):=by
 unfold mT;cases h:M[i]? with
 |none=>rfl
 | some o=>
  cases o with
  |none=>rfl
  |some d=>cases d<;>rfl
def F6{α:Type}{i:Nat}{x:Option α}:(if isL M i=true then x else none)=((M[i]?).join.bind jT).bind λ_=>x:=by
 unfold isL;cases h:M[i]? with
 |none=>rfl
 | some o=>
  cases o with
  |none=>rfl
  |some d=>cases d<;>rfl
def qr6:bh M=some (.nx M):=rfl
def qx0:tI M=some (.ct M):=rfl
def qme:mj fa M=(fa M).map λp=>.nx p.2:=by unfold mj;cases fa M<;>rfl
def qr7{gm:List D->List D->Option (List D)}{i:Nat}:dN gm i fs M=((M[i]?).join.bind jT).bind λ_=>(fs M).bind λp=>((p.2[i]?).join.bind jT).bind λxs=>(gm xs p.1).map λys=>.nx (p.2.set i (some (.lst ys))):=by
 refine Eq.trans ?_ (F6);unfold dN;congr 1;cases fs M with
 |none=>rfl
 | some p=>
  show(match p.2[i]? with|some (some (.lst xs))=>_|_=>none)=_;show _=((p.2[i]?).join.bind jT).bind _;cases h:p.2[i]? with
  |none=>rfl
  | some o=>
   cases o with
   |none=>rfl
   | some d=>
    cases d with
    | lst xs=>
     show(match gm xs p.1 with|some ys=>some (Out.nx _)|none=>none)=(gm xs p.1).map _;cases gm xs p.1<;>rfl
    |_=>rfl
def qr9{i:Nat}:iw i fs M=((M[i]?).join.bind jT).bind λ_=>(fs M).bind λp=>((p.2[i]?).join.bind jT).bind λxs=>if xs.length+p.1.length<=sizeLine then some (.nx (p.2.set i (some (.lst (xs++p.1)))))else none:=by
 refine Eq.trans ?_ (F6);unfold iw;congr 1;cases fs M with
 |none=>rfl
 | some p=>
  show(match p.2[i]? with|some (some (.lst xs))=>_|_=>none)=_;show _=((p.2[i]?).join.bind jT).bind _;cases h:p.2[i]? with
  |none=>rfl
  | some o=>
   cases o with
   |none=>rfl
   |some d=>cases d<;>rfl
def rO(x d k:D):Option D:=match x,k with
 |.lst xs,.int j=>(e9 xs.length j).map λm=>.lst (xs.set m d)
 |_,_=>none
def qmb{i:Nat}:qf i fa fb M=(fa M).bind λp=>(fb p.2).bind λq=>((q.2[i]?).join).bind λx=>(rO x p.1 q.1).map λy=>.nx (q.2.set i (some y)):=by
 unfold qf;cases fa M with
 |none=>rfl
 | some p=>
  show(match fb p.2 with|some (.int k,M2)=>_|_=>none)=(fb p.2).bind _;cases fb p.2 with
  |none=>rfl
  | some q=>
   obtain⟨y,M2⟩:=q;cases y with
   | int j=>
    show(match M2[i]? with|some (some (.lst xs))=>_|_=>none)=((M2[i]?).join).bind _;cases h:M2[i]? with
    |none=>rfl
    | some o=>
     cases o with
     |none=>rfl
     | some d=>
           cases d with
           | lst xs=>
            show(match e9 xs.length j with|some m=>some (Out.nx _)|none=>none)=((e9 xs.length j).map _).map _;cases e9 xs.length j<;>rfl
           |_=>rfl
   | _=>
    show none=((M2[i]?).join).bind _;cases h:(M2[i]?).join with
    |none=>rfl
    |some x=>cases x<;>rfl
def qr8{fg:dW}{f:aH}:bS fs fg f M=(fs M).bind λp=>eB fg f p.1 p.2:=by unfold bS;cases fs M<;>rfl
def qri{i:Nat}{d:D}:ai i d M=some (M.set i (some d)):=rfl
end
def qqm{n:Nat}(h:n<=1000000):(n<=sizeLine)=True:=eq_true (dg h)
def Fp{n d:Nat}{k:Int}(h:0<=k):HT.sIx n d (some k)=min k.toNat n:=by show(if k<0 then(k+(n:Int)).toNat else min k.toNat n)=_;rw[if_neg (by omega)]
def EV{xs:List D}{k:Int}(h:0<=k):dY xs none (some k)=xs.take k.toNat:=by unfold dY;rw[Fp h,HT.sIx_none,List.drop_zero,Nat.sub_zero];exact List.take_eq_take_min.symm
def qjb(xs:List D){k:Int}(h:0<=k):dY xs (some k) none=xs.drop k.toNat:=by
 unfold dY;rw[Fp h,HT.sIx_none];by_cases hk:k.toNat<=xs.length
 .rw[Nat.min_eq_left hk];exact List.take_of_length_le (by rw[xv];exact jg _)
 .rw[Nat.min_eq_right (by omega),List.drop_eq_nil_of_le (jg _),List.drop_eq_nil_of_le (by omega)];simp
def GH{xs:List D}{k:Int}(h0:0<=k):nj (.lst xs) (some k) none=some (.lst (xs.drop k.toNat)):=by show some (D.lst (dY xs (some k) none))=_;rw[qjb xs h0]
def vO(K:am)(p:Addr):It:=
 ⟨λi H=>∃xs x,SqL K H p xs/\xs[i]? =some x,
  λi H v H'=>∃T x,v=.ref T/\H T=none/\H'=aN H T (.tup [.int (i:Int),x])/\∀xs,SqL K H p xs->xs[i]? =some x,
  λi H=>∃xs,SqL K H p xs/\xs.length<=i⟩
def qxc(p e it:Addr)(i:Nat)(h:Heap):Prop:=(∃old,IsEnum h e it (i:Int) old)/\h.IsListIter it p i
def qft{P:Program}{w:World}{K:am}{zr:Zi}{x1:Nat}{pos:Pos}{p e it:Addr}(hei:e≠it):
 Turn P w K (.Tuple zr x1 pos) (vO K p) [e,it] e (qxc p e it) where
 mem:=by simp
 obj:=λi h st c hc=>by
  obtain⟨⟨old,he⟩,o,go,_,gd⟩:=st;simp only[List.mem_cons,List.not_mem_nil,or_false]at hc;rcases hc with rfl|rfl
  .exact⟨_,he,λv e=>by cases e⟩
  .exact⟨o,go,λv e=>by rw[gd]at e;cases e⟩
 keep:=λi h h' st k=>by obtain⟨⟨old,he⟩,o,go,r⟩:=st;exact⟨⟨old,k e (by simp) _ he⟩,o,k it (by simp) _ go,r⟩
 item:=by
  intro X hP hw hK hc i z5 s J H E I hf st hg;subst hP hw hK;obtain⟨xs,x,q1,ex⟩:=hg;let⟨it1,r1,t1,_⟩:=I.list q1;let⟨u,eu,ru⟩:=r1.get ex;obtain⟨⟨old,he⟩,j1⟩:=st;refine wpAny_pyNext_enum_item he j1 t1.isList (x:=u) (by simpa using eu) hei λh' ho n1 tp sz kk=>?_;refine⟨_,rfl,?_⟩;refine wpAny_letOwnedTupleGo_enum ho λh'' z'' s''=>?_;have fresh:H s.heap.objs.size=none:=I.hok.fresh (jg _);have zne:s.heap.objs.size≠e:=λq=>by have:=jd he;rw[<-q]at this;exact xn _ this
  have keep:∀c o,c∉[e,it]->s.heap.get? c=some o->h''.get? c=some o:=λc o hc q=>by simp only[List.mem_cons,List.not_mem_nil,or_false,not_or]at hc;exact s''.extBut c o hc.1 (kk c o hc.1 hc.2 q)
  have tp':h''.get? s.heap.objs.size=some {cls:=.type "tuple",data:=.seq #[.int i s.toks,u]}:=s''.extBut _ _ zne tp;have I':Inv X z5 J (aN H s.heap.objs.size (.tup [.int (i:Int),x])) {s with heap:=h'',toks:=s.toks+1}:=by
   refine I.step (g':=s.gens) (d':=s.drawn) (ch:=[e,it]) (λc hc=>?_) (λc o _ _ hc e _=>keep c o hc e) (λc o _ _ hc e _=>⟨o.slots,keep c o hc e⟩) (λc o _ e n=>?_) (λc o hc e=>⟨o,keep c o hc e⟩)
    (λc zs e=>?_) (λc o w' e=>?_) (λc ps e=>⟨#[],?_⟩) (λm hm=>?_) (λc o e=>?_) I.bare
   .let⟨_,f1,f2,f3,f4,f5⟩:=hf c hc;exact⟨f3,f1,f4,f5⟩
   .rw[aU (jo (jd e))];exact n
   .rw[aU (fX e fresh)];exact e
   .rw[aU (fX e fresh)];exact e
   .rw[aU (fX e fresh),e];simp
   .obtain⟨o,es,ep,ho,r⟩:=hm;exact⟨o,es,ep,keep _ o (λq=>(hf _ q).2.1 rfl) ho,r⟩
   .by_cases hb:c=s.heap.objs.size
    .subst hb;rw[cr]at e;cases e;exact⟨by show 2<=sizeLine;decide,[.int i s.toks,u],.cons ⟨_,rfl⟩ (.cons ru .nil),⟨_,tp',⟨rfl,_,rfl⟩,rfl⟩⟩
    .rw[aU hb]at e;refine(I.hok c o e).stay (λd w' hd q=>keep d w' (λm=>?_) q) (λd q=>?_) λd zs q=>?_
     .have n:=(hf d m).1;rcases hd with rfl|hd
      .rw[n]at e;cases e
      .rw[n]at hd;cases hd
     .rw[aU (fX q fresh)];exact q
     .rw[aU (fX q fresh)];exact q
  have lt:∀c∈[e,it],c<s.heap.objs.size:=λc hc=>by
   simp only[List.mem_cons,List.not_mem_nil,or_false]at hc;rcases hc with rfl|rfl
   .exact jd he
   .obtain⟨o,e,_⟩:=j1;exact jd e
  refine⟨.ref s.heap.objs.size,_,I',rfl,⟨_,x,rfl,fresh,rfl,λzs q=>by rw[I.list_inj q q1];exact ex⟩,?_,λc hc=>?_⟩
  .obtain⟨o,go,r⟩:=n1;exact⟨⟨u,by simpa using z''⟩,o,s''.extBut _ _ hei.symm go,r⟩
  .rw[aU (jo (lt c hc))];exact(hf c hc).1
 done:=by
  intro X hP hw hK hc i z5 s J H E I hf st hg;subst hP hw hK;obtain⟨xs,q1,hl⟩:=hg;let⟨it1,r1,t1,_⟩:=I.list q1;obtain⟨⟨old,he⟩,j1⟩:=st;have l1:=r1.length;refine wpAny_pyNext_enum_end (I.ok.hd hc) he j1 t1.isList (by simp;omega) λh' kk=>⟨rfl,?_⟩;have keep:∀c o,c∉[e,it]->s.heap.get? c=some o->h'.get? c=some o:=λc o hc q=>by simp only[List.mem_cons,List.not_mem_nil,or_false,not_or]at hc;exact kk c o hc.2 q
  show Inv X z5 J H {s with heap:=h',toks:=s.toks};refine I.step (g':=s.gens) (d':=s.drawn) (ch:=[e,it]) (λc hc=>?_) (λc o _ _ hc e _=>keep c o hc e) (λc o _ _ hc e _=>⟨o.slots,keep c o hc e⟩) (λc o _ e n=>n) (λc o hc e=>⟨o,keep c o hc e⟩)
   (λc zs e=>e) (λc o w' e=>e) (λc ps e=>⟨#[],by rw[e];simp⟩) (λm hm=>?_) (λc o e=>?_) I.bare
  .let⟨_,f1,f2,f3,f4,f5⟩:=hf c hc;exact⟨f3,f1,f4,f5⟩
  .obtain⟨o,es,ep,ho,r⟩:=hm;exact⟨o,es,ep,keep _ o (λq=>(hf _ q).2.1 rfl) ho,r⟩
  .refine(I.hok c o e).stay (λd w' hd q=>keep d w' (λm=>?_) q) (λd q=>q) λd zs q=>q;have n:=(hf d m).1;rcases hd with rfl|hd
   .rw[n]at e;cases e
   .rw[n]at hd;cases hd
 self:=λ_ _ _ _ _ st h=>by obtain⟨⟨old,he⟩,_⟩:=st;exact wpAny_pyIter_enum he h
section
variable{X:Cx}{a:Expr}{ta:TE}{p pos:Pos}{zr:Zi}{x1:Nat}{tp:Pos}
def CY(K:am)(ta:TE):TI:=λJ H R=>ta J H λv H1=>∃p1,[v]=[V.ref p1]/\(∃xs,SqL K H1 p1 xs)/\R (vO K p1) H1
def qpl{K:am}(hK:X.K=K)(hg:Gl X "enumerate")(hm:X.mg "enumerate"=none)(ha:PE X a ta)(he:starEach [a] X.env=(false,eval a X.env)::starEach [] X.env:=by rfl)(hpl:(backTo pos (starEach [] X.env)).any (·.1)=false:=by rfl):
 PI X (.Tuple zr x1 tp) (.Call (.Name "enumerate" p) [a] [] pos) (CY K ta):=by
 subst hK;intro z5 s J H R I h;refine xu (ia I hg hm (u:=.type "enumerate") (by rfl) ?_);refine PyProof.Rows.callWith_type1 (aW ((aj ha aw he) pos z5 s J H (λvs H1=>∃p1,vs=[.ref p1]/\(∃xs,SqL X.K H1 p1 xs)/\R (vO X.K p1) H1) I h) λus s1 h1=>?_) he hpl;obtain⟨vs,H1,I1,r1,p1,rfl,⟨xs,q1⟩,k⟩:=h1;obtain⟨u,rfl,ru⟩:=b9 r1;cases(show u=Value.ref p1 from ru);let⟨it1,r1,t1,_⟩:=I1.list q1;have lt:p1<s1.heap.objs.size:=by obtain⟨o,e,_⟩:=t1.isList;exact jd e
 refine call_enumerate_list t1.isList λh' hz j1 sz kk=>wpAny_pyIter_enum hz ?_;have I2:Inv X z5 J H1 {s1 with heap:=h',toks:=s1.toks}:=I1.kept kk;refine⟨_,_,_,_,H1,rfl,I2,qft (p:=p1) (e:=s1.heap.objs.size+1) (it:=s1.heap.objs.size) (Nat.ne_of_gt (Nat.lt_succ_self _)),⟨⟨_,hz⟩,j1⟩,λc hc=>?_,k⟩;have le:s1.heap.objs.size<=c:=by simp only[List.mem_cons,List.not_mem_nil,or_false]at hc;rcases hc with rfl|rfl<;>first|exact jg _|exact Nat.le_add_right _ _
 exact I1.fpOk le (I1.hok.fresh le)
end
noncomputable def iS(xs:List D):List D:=xs.zipIdx.map λq=>D.tup [.int (q.2:Int),q.1]
section
variable{K:am}{O:Zg}{t:TE}{fa:aJ}
def GI{xs:List D}{i:Nat}:(iS xs)[i]? =(xs[i]?).map λx=>D.tup [.int (i:Int),x]:=by
 unfold iS;rw[jq,List.getElem?_zipIdx];cases xs[i]? with
 |none=>rfl
 |some x=>simp
def qqt{R:Hp}{p:Addr}{xs:List V}{ds:List D}(h:SqL K R p xs)(r:Rps K R xs ds):ItOk K (vO K p) R (iS ds):=λH' R' s b i=>by
 have g1:=Same.sqL b (Same.sqL s h);have l1:=r.length;have len:(iS ds).length=ds.length:=by simp[iS]
 refine⟨λe=>⟨xs,g1,by omega⟩,λd e=>?_⟩;rw[GI]at e;cases e1:ds[i]? with
 |none=>rw[e1]at e;cases e
 | some d1=>
  rw[e1]at e;cases e;let⟨v1,a1,a2⟩:=r.get e1;refine⟨⟨xs,v1,g1,a1⟩,λx H'' y=>?_⟩;obtain⟨T,x1,rfl,hT,rfl,z1⟩:=y;have w1:=z1 xs g1;rw[a1]at w1;cases w1;have y:=Ext.new (o:=.tup [.int (i:Int),v1]) b hT;exact⟨_,y,.tup cr (.cons (.int _) (.cons ((a2.mono s).mono y.r) .nil))⟩
def p7(f:aJ):aS:=bO f λd=>da (match d with
 |.lst xs=>some (iS xs)
 |_=>none)
def qqh(h:ME K O t fa):MI K O (CY K t) (p7 fa):=λZ J H R M ds M' Q S e k=>by
 let⟨d,M1,e1,e⟩:=bD e;obtain⟨e2,rfl⟩:=cQ e;cases d with
 | lst xs=>
  cases e2;refine h Z J H R M _ _ _ S e1 λv H1 R1 S1 st1 r1=>?_;obtain⟨_,_,rfl,q,r⟩:=r1.isL;exact⟨_,rfl,⟨_,Same.sqL S1.same q⟩,k _ H1 R1 S1 st1 (qqt q r)⟩
 |_=>cases e2
def CT:D->Option (List D)
 |.lst xs=>some (iS xs)
 |_=>none
def qrj{M:av}:p7 fa M=(fa M).bind λp=>(CT p.1).map λx=>(x,p.2):=by unfold p7;rw[cq];congr 1;funext p;rw[eF];cases p.1<;>rfl
end
section
variable{X:Cx}{K:am}{c:MC}{O O':Zg}{t:TE}{fa:aJ}
end
section
variable{M:av}{fa fb:aJ}{fs:aS}
noncomputable def gG(xs:List D):D->Option (List D)
 |.int k=>if -(2^63)<=k/\k<2^63/\xs.length*k.toNat<=sizeLine then some (List.replicate k.toNat xs).flatten else none
 |_=>none
def DY:dc fs fb M=(fs M).bind λp=>(fb p.2).bind λq=>(gG p.1 q.1).map λx=>(x,q.2):=by unfold dc;rw[cq];congr 1;funext p;rw[cq];congr 1;funext q;rw[eF];cases q.1<;>rfl
def qG{M1 M2:av}{xs zs:List D}{y:D}(h1:fs M=some (xs,M1))(h2:fb M1=some (y,M2))(h3:gG xs y=some zs):dc fs fb M=some (zs,M2):=by rw[DY,h1];show(fb M1).bind _=_;rw[h2];show(gG xs y).map _=_;rw[h3];rfl
def qR{x:D}{k:Int}(h0:0<=k)(h:k<=1000000):gG [x] (.int k)=some (List.replicate k.toNat x):=by
 have hz:[x].length*k.toNat<=sizeLine:=by rw[List.length_singleton,Nat.one_mul];exact dg (by omega)
 show(if -(2^63)<=k/\k<2^63/\[x].length*k.toNat<=sizeLine then some (List.replicate k.toNat [x]).flatten else none)=_;rw[if_pos ⟨by omega,by omega,hz⟩,List.flatten_replicate_singleton]
def qfo{xs ys:Zf}:dn (xs.map D.int) (ys.map D.int)=(xs.zip ys).map λq=>D.tup [.int q.1,.int q.2]:=by unfold dn;rw[List.zipWith_map,List.zip,List.map_zipWith]
end
section
variable{prog:Program}{w:World}{A:Around}{E:Z0}{s:Shared}{a₀:Array Keyed}
end
section
variable{X:Cx}{K:am}
end
section
variable{K:am}{O:Zg}{t tb:TE}{fa fb:aJ}
end
section
variable{X:Cx}
end
section
variable{K:am}{O:Zg}{t tb:TE}{fa fb:aJ}
end
section
variable{c:MC}{O O':Zg}{te:TE}{fe:aJ}
end
section
variable{K:am}{O:Zg}{tr:TA}{fs:aS}{E:XK}{n:Nat}
end
section
variable{X:Cx}{K:am}{o e:Expr}{es:Zi}{to:TE}{t:TA}{name:Str}{zz zk:Pos}{T id:String}{r:V->List V->Hp->VK->Prop}
end
end L2
namespace L2
open PySem PySem.NumText
end L2
namespace L2
open PySem PySem.Spec
section
variable{fa:aJ}{fl fh:av->Option (Option Int×av)}{M:av}
end
end L2
namespace L2
open PySem PySem.Spec PyProof.Rows
section
variable{X:Cx}
end
section
variable{K:am}{O:Zg}{t tb:TE}{fa fb:aJ}
def lE(f:dL)(g h:aS):aS:=bO f λb=>if b=true then g else h
def qz7{tA:TT}{ga:dL}{fa fb:aS}(h:MT K O tA ga)(h1:MN K O t fa)(h2:MN K O tb fb):MN K O (wF tA t tb) (lE ga fa fb):=λZ J H R M d M' Q S e k=>by
 let⟨c,M1,e1,e⟩:=bD e;refine h Z J H R M c _ _ S e1 λH' R' S' st=>?_;cases c with
 |true=>exact eW (h1 Z J H' R' M1 d M' Q S' e λl vs H2 R2 S2 st2 a1 a2 a3 a4=>k l vs H2 R2 S2 (st.trans st2) (st.new a1) a2 a3 a4)
 |false=>exact eX (h2 Z J H' R' M1 d M' Q S' e λl vs H2 R2 S2 st2 a1 a2 a3 a4=>k l vs H2 R2 S2 (st.trans st2) (st.new a1) a2 a3 a4)
def qx8{ga:dL}{fa fb:aS}{M:av}:lE ga fa fb M=(ga M).bind λp=>if p.1=true then fa p.2 else fb p.2:=by unfold lE;rw[cq];congr 1;funext p;split<;>rfl
end
end L2
namespace L2
open PySem PySem.Spec
end L2
namespace L2
open PySem PySem.Spec PyProof.Rows
section
variable{X:Cx}
end
section
variable{K:am}{O:Zg}{t tb:TE}{fa fb:aJ}
end
section
variable{X:Cx}{z5:Z3}{J:St}{CX:gr}{k:Nat}{f:Addr}{fd:FuncData}{ps:Zj}{sp:Sp}{dvs:List V}{ds:Ze}{E:XK}{x:Str}{p pos:Pos}{e:Expr}{es:Zi}{t:TA}{i:Nat}
end
section
variable{K:am}{O:Zg}{tr:TA}{fs:aS}{E:XK}{n:Nat}
end
section
variable{prog:Program}{w:World}{A:Around}{E:Z0}{s:Shared}
end
section
variable{X:Cx}{a b:Expr}{ta:TA}{p pos:Pos}{zr:Zi}{x1:Nat}{tp:Pos}
end
section
variable{K:am}{O:Zg}{tr:TA}{fs:aS}
end
end L2
namespace L2
def az(w:Zf):Prop:=∀b∈w,b=0∨b=1
noncomputable def aP(w:Zf):Int:=w.foldl (λx b=>x*2+b) 0
def Ai(w:Zf)(b:Int):aP (w++[b])=aP w*2+b:=by unfold aP;rw[List.foldl_append];rfl
noncomputable def ba(m a:Int)(bs:Zf):Int:=bs.foldl (λx b=>(x+x+b) % m) a
def zV(m a:Int)(bs:Zf)(b:Int):ba m a (bs++[b])=(ba m a bs+ba m a bs+b) % m:=by unfold ba;rw[List.foldl_append];rfl
def cI{α:Type}{u:List α}{i:Nat}{b:α}(q:u[i]? =some b):u.take (i+1)=u.take i++[b]:=List.take_add_one.trans (by rw[q];rfl)
noncomputable def hZ(a:Int)(w:Zf):Int:=w.foldl (λx b=>x*2+b) a
theorem kQ:∀(w:Zf) (a:Int),hZ a w=a*2^w.length+aP w
 |[],a=>by simp[hZ,aP]
 | b::bs,a=>by have h1:=kQ bs (a*2+b);have h2:=kQ bs (0*2+b);have e1:hZ a (b::bs)=hZ (a*2+b) bs:=rfl;have e2:aP (b::bs)=hZ (0*2+b) bs:=rfl;rw[e1,e2,h1,h2,jw,Int.pow_succ];generalize (2:Int)^bs.length=p;generalize aP bs=z;rw[Int.add_mul,Int.add_mul,Int.zero_mul,Int.zero_mul,Int.zero_add,Int.mul_assoc,Int.mul_comm 2 p];omega
theorem qV(m:Int):∀(w:Zf) (a:Int),ba m a w % m=hZ a w % m
 |[],a=>rfl
 | b::bs,a=>by
  have e1:ba m a (b::bs)=ba m ((a+a+b) % m) bs:=rfl;have e2:hZ a (b::bs)=hZ (a*2+b) bs:=rfl;rw[e1,e2,qV m bs,kQ,kQ];have e3:a+a+b=a*2+b:=by omega
  rw[e3,Int.add_emod,Int.mul_emod,Int.emod_emod,<-Int.mul_emod,<-Int.add_emod]
theorem kL{m:Int}(hm:0<m):∀(w:Zf) (a:Int),(0<=a/\a<m)->0<=ba m a w/\ba m a w<m
 |[],a,h=>h
 |b::bs,a,h=>kL hm bs ((a+a+b) % m) ⟨Int.emod_nonneg _ (by omega),Int.emod_lt_of_pos _ hm⟩
theorem kO:∀(w:Zf),(∀b∈w,b=0∨b=1)->0<=aP w/\aP w<2^w.length
 |[],_=>by decide
 | b::bs,h=>by
  have h1:=kO bs λx hx=>h x (jh _ hx);have e2:aP (b::bs)=hZ (0*2+b) bs:=rfl;rw[e2,kQ,jw,Int.pow_succ];generalize (2:Int)^bs.length=p at h1 ⊢;rcases h b jj with rfl|rfl
  .simp only[Int.zero_mul,Int.zero_add];omega
  .simp only[Int.zero_mul,Int.zero_add,Int.one_mul];omega
def q9(u v:Zf):aP (u++v)=aP u*2^v.length+aP v:=by
 have:aP (u++v)=hZ (aP u) v:=by unfold aP hZ;rw[List.foldl_append]
 rw[this,kQ]
theorem Aj:∀n,aP (List.replicate n 0)=0
 |0=>rfl
 | n+1=>by rw[List.replicate_succ',q9,Aj n];rfl
def qj7(n:Nat)(w:Zf):ba (2^n) 0 (w++List.replicate n 0)=0:=by have m0:(0:Int)<2^n:=Int.pow_pos (by decide);have h1:=qV (2^n) (w++List.replicate n 0) 0;rw[kQ,Int.zero_mul,Int.zero_add,q9,Aj,jx,Int.add_zero,Int.mul_emod_left]at h1;have h2:=kL m0 (w++List.replicate n 0) 0 ⟨Int.le_refl _,m0⟩;rw[Int.emod_eq_of_lt h2.1 h2.2]at h1;exact h1
def FP(n:Nat)(pre u:Zf)(hp:pre.length=n)(hb:az pre)(hu:az u)(k:Nat)(hk:k<=u.length):
 ba (2^n) (aP pre) (u.take k)=aP (((pre++u).drop k).take n):=by
 have m0:(0:Int)<2^n:=Int.pow_pos (by decide);have ha:=kO pre hb;rw[hp]at ha;have h1:=qV (2^n) (u.take k) (aP pre);have e1:hZ (aP pre) (u.take k)=aP (pre++u.take k):=by unfold aP hZ;rw[List.foldl_append]
 have e2:pre++u.take k=(pre++u).take k++((pre++u).drop k).take n:=by rw[<-List.take_add,Nat.add_comm k n,<-hp,List.take_length_add_append]
 have hl:(((pre++u).drop k).take n).length=n:=by rw[k6,xv,jr];omega
 have hlt:=kO (((pre++u).drop k).take n) λb h=>by
  rcases List.mem_append.mp (List.mem_of_mem_drop (List.mem_of_mem_take h))with h|h
  .exact hb b h
  .exact hu b h
 rw[hl]at hlt;rw[e1,e2,q9,hl,Int.add_comm,Int.add_mul_emod_self_right,Int.emod_eq_of_lt hlt.1 hlt.2]at h1;have h2:=kL m0 (u.take k) (aP pre) ha;rw[Int.emod_eq_of_lt h2.1 h2.2]at h1;exact h1
noncomputable def bT:Nat->Nat->Nat
 |0,_=>0
 |f+1,n=>(n % 2+bT f (n / 2)) % 2
theorem uW:∀f,bT f 0=0
 |0=>rfl
 |f+1=>by unfold bT;rw[show(0:Nat) / 2=0 from rfl,uW f]
def Fi:∀f n,bT f n<2
 |0,_=>Nat.zero_lt_two
 |f+1,n=>Nat.mod_lt _ (by decide)
def dZ(win tap:Int):Int:=(bT 5 (win.toNat &&& tap.toNat):Nat)
def qne(x y:Nat):(x &&& y) / 2=x / 2 &&& y / 2:=by apply Nat.eq_of_testBit_eq;intro i;rw[Nat.testBit_div_two,Nat.testBit_and,Nat.testBit_and,Nat.testBit_div_two,Nat.testBit_div_two]
def qs9(x y:Nat):(x &&& y) % 2=(x % 2)*(y % 2):=by have h:=Nat.testBit_and x y 0;simp only[Nat.testBit_zero]at h;have h1:=Nat.mod_two_eq_zero_or_one x;have h2:=Nat.mod_two_eq_zero_or_one y;have h3:=Nat.mod_two_eq_zero_or_one (x &&& y);rcases h1 with h1|h1<;>rcases h2 with h2|h2<;>rcases h3 with h3|h3<;>simp_all
noncomputable def fD:List Int->Int->Int
 |[],_=>0
 |b::bs,t=>(t % 2)*b+fD bs (t / 2)
theorem GW:∀(f:Nat) (ws:Zf) (t:Int),az ws->ws.length<=f->0<=t->((bT f ((aP ws.reverse).toNat &&& t.toNat):Nat):Int)=fD ws t % 2
 | f,[],t,_,_,_=>by have:(aP ([]:Zf).reverse).toNat=0:=rfl;rw[this,Nat.zero_and,uW];rfl
 |0,b::bs,t,_,h,_=>by simp at h
 | f+1,b::bs,t,hb,hl,ht=>by
  have ih:=GW f bs (t / 2) (λx hx=>hb x (jh _ hx)) (by simpa using hl) (by omega);have hw:=kO bs.reverse λx hx=>hb x (jh _ (List.mem_reverse.mp hx));have hbb:=hb b jj;rw[List.reverse_cons,Ai];unfold bT fD;rw[qne,qs9];have e1:(aP bs.reverse*2+b).toNat / 2=(aP bs.reverse).toNat:=by omega
  have e2:t.toNat / 2=(t / 2).toNat:=by omega
  have e3:(aP bs.reverse*2+b).toNat % 2=b.toNat:=by omega
  have e4:(t.toNat % 2:Nat)=(t % 2).toNat:=by omega
  rw[e1,e2,e3,e4];generalize bT f ((aP bs.reverse).toNat &&& (t / 2).toNat)=P at ih ⊢;generalize fD bs (t / 2)=Q at ih ⊢;have t2:t % 2=0∨t % 2=1:=by omega
  rcases hbb with rfl|rfl<;>rcases t2 with q|q<;>rw[q]<;>simp<;>omega
def qkk{ws:Zf}(t:Int)(hb:az ws)(hl:ws.length<=5)(ht:0<=t):dZ (aP ws.reverse) t=fD ws t % 2:=GW 5 ws t hb hl ht
noncomputable def gk(row:Zf)(signs:Zf):List Int:=((signs.zip row).filter λq=>q.2==1).map (·.1)
def Ag(row U:Zf)(g:Int->Int):gk row (U.map g)=((U.zip row).filter λq=>q.2==1).map λq=>g q.1:=by unfold gk;rw[List.zip_map_left,List.filter_map,jt];rfl
noncomputable def aK(G:Z9)(k:Nat):List Int:=(G[k % G.length]?).getD []
def fN(n:Nat)(U:Zf)(G:Z9)(a:Int)(u:Zf)(k:Nat):List Int:=
 gk (aK G k) (U.map (dZ (2*ba (2^n) a (u.take k)+u.getD k 0)))
def qp(n:Nat)(U:Zf)(G:Z9)(a:Int)(u:Zf):List Int:=(List.range u.length).flatMap (fN n U G a u)
def i0{α:Type}(f:Nat->List α)(k:Nat):(List.range (k+1)).flatMap f=(List.range k).flatMap f++f k:=by rw[List.range_succ,List.flatMap_append];simp
theorem uK{α:Type}(f:Nat->List α)(m:Nat)(h:∀k,(f k).length<=m):∀n,((List.range n).flatMap f).length<=n*m
 |0=>by simp
 | n+1=>by rw[i0,jr];have:=uK f m h n;have:=h n;rw[Nat.succ_mul];omega
noncomputable def cX(zc:Bool)(n:Nat)(w:Zf):List Int:=if zc=true then w.drop (w.length-n)else List.replicate n 0
noncomputable def dP(zc:Bool)(w:Zf)(i:Int):Int:=if 0<=i/\i<w.length then w.getD i.toNat 0 else if zc=true then w.getD (i+w.length).toNat 0 else 0
def Gi{zc:Bool}{n:Nat}{w:Zf}(h:zc=true->n<=w.length):(cX zc n w).length=n:=by
 unfold cX;split
 .rename_i q;have:=h q;rw[xv];omega
 .rw[jx]
def GX{zc:Bool}{n:Nat}{w:Zf}(h:az w):az (cX zc n w):=by
 unfold cX;split
 .exact λb hb=>h b (List.mem_of_mem_drop hb)
 .exact λb hb=>.inl (List.eq_of_mem_replicate hb)
def qsb{zc:Bool}{n z:Nat}{w:Zf}(h:zc=true->n<=w.length/\z=0){i:Nat}(hi:i<n+(w.length+z)):
 (cX zc n w++(w++List.replicate z 0))[i]? =some (dP zc w ((i:Int)-n)):=by
 have hl:(cX zc n w).length=n:=Gi λq=>(h q).1;by_cases h1:i<n
 .rw[ku (by omega)];unfold dP;rw[if_neg (by omega)];unfold cX;cases zc with
  | true=>
   let⟨h2,h3⟩:=h rfl;simp only[if_true];have e:w.length-n+i<w.length:=by omega
   have e2:((i:Int)-n+w.length).toNat=w.length-n+i:=by omega
   rw[List.getElem?_drop,ji e,e2,jn,ji e];rfl
  | false=>
   simp only[Bool.false_eq_true,if_false];rw[kj,if_pos h1]
 .rw[ke (by omega),hl];have e2:((i:Int)-n).toNat=i-n:=by omega
  unfold dP;by_cases h4:i-n<w.length
  .rw[if_pos ⟨by omega,by omega⟩,e2,ku h4,jn,ji h4];rfl
  .rw[if_neg (by omega)];cases zc with
   | true=>
    let⟨h2,h3⟩:=h rfl;omega
   | false=>
    simp only[Bool.false_eq_true,if_false];rw[ke (by omega),kj,if_pos (by omega)]
def iR(zc:Bool)(w:Zf)(k:Int)(n:Nat):List Int:=(List.range n).map λ(j:Nat)=>dP zc w (k-(j:Int))
def gS{u v:Zf}(hu:az u)(hv:az v):az (u++v):=λb h=>by
 rcases List.mem_append.mp h with h|h
 .exact hu b h
 .exact hv b h
def px(z:Nat):az (List.replicate z 0):=λb h=>.inl (List.eq_of_mem_replicate h)
def qsi{zc:Bool}{n z:Nat}{w:Zf}(hb:az w)(h:zc=true->n<=w.length/\z=0){k:Nat}(hk:k<w.length+z):
 2*ba (2^n) (aP (cX zc n w)) ((w++List.replicate z 0).take k)+(w++List.replicate z 0).getD k 0=aP (iR zc w k (n+1)).reverse/\az (iR zc w k (n+1)):=by
 have hl:(cX zc n w).length=n:=Gi λq=>(h q).1;have hu:az (w++List.replicate z 0):=gS hb (px z);have hul:(w++List.replicate z 0).length=w.length+z:=by rw[jr,jx]
 have ga:∀i,i<n+(w.length+z)->(cX zc n w++(w++List.replicate z 0))[i]? =some (dP zc w ((i:Int)-n)):=λi hi=>qsb h hi;have gu:∀j,j<w.length+z->(w++List.replicate z 0)[j]? =some (dP zc w (j:Int)):=λj hj=>by have:=ga (n+j) (by omega);rw[ke (by omega),hl,show n+j-n=j from by omega]at this;rw[this];congr 2;omega
 rw[FP n (cX zc n w) (w++List.replicate z 0) hl (GX hb) hu k (by omega)];have hBs:az (cX zc n w++(w++List.replicate z 0)):=gS (GX hb) hu;have hLl:(cX zc n w++(w++List.replicate z 0)).length=n+(w.length+z):=by rw[jr,hl,hul]
 generalize hL:cX zc n w++(w++List.replicate z 0)=L at ga hBs hLl ⊢;have e1:(w++List.replicate z 0).getD k 0=dP zc w (k:Int):=by rw[jn,gu k hk];rfl
 rw[e1];have e2:(iR zc w k (n+1)).reverse=(L.drop k).take n++[dP zc w (k:Int)]:=by
  apply List.ext_getElem?;intro i;have lb:(iR zc w k (n+1)).length=n+1:=by unfold iR;rw[jb,List.length_range]
  have lt:((L.drop k).take n).length=n:=by rw[k6,xv];omega
  by_cases hi:i<n+1
  .rw[List.getElem?_reverse (by omega),lb];unfold iR;rw[jq,kc (by omega)];by_cases hi2:i<n
   .rw[ku (by omega),List.getElem?_take_of_lt hi2,List.getElem?_drop,ga (k+i) (by omega)];show some (dP zc w ((k:Int)-((n+1-1-i:Nat):Int)))=some (dP zc w (((k+i:Nat):Int)-(n:Int)));congr 2;omega
   .have:i=n:=by omega
    subst this;rw[ke (by omega),lt,Nat.sub_self];show some (dP zc w ((k:Int)-((i+1-1-i:Nat):Int)))=some (dP zc w (k:Int));congr 2;omega
  .rw[xh (by rw[List.length_reverse];omega),xh (by rw[jr,List.length_singleton];omega)]
 refine⟨by rw[e2,Ai];omega,λb hb'=>?_⟩;have:b∈(iR zc w k (n+1)).reverse:=List.mem_reverse.mpr hb';rw[e2]at this;rcases List.mem_append.mp this with q|q
 .exact hBs b (List.mem_of_mem_drop (List.mem_of_mem_take q))
 .rw[List.mem_singleton.mp q,<-e1];rw[jn,ji (by omega)];exact hu _ (xw _)
def qkl{zc:Bool}{n z:Nat}{w:Zf}(hn:n<=4)(hb:az w)(h:zc=true->n<=w.length/\z=0){k:Nat}(hk:k<w.length+z){t:Int}(ht:0<=t):
 dZ (2*ba (2^n) (aP (cX zc n w)) ((w++List.replicate z 0).take k)+(w++List.replicate z 0).getD k 0) t=fD (iR zc w k (n+1)) t % 2:=by
 let⟨h1,h2⟩:=qsi hb h hk;rw[h1];exact qkk t h2 (by unfold iR;rw[jb,List.length_range];omega) ht
def bF(U:Zf)(G:Z9)(k:Nat):List (Int×Int):=(U.zip (aK G k)).filter λq=>q.2==1
def qkn{U:Zf}{G:Z9}{k:Nat}{q:Int×Int}(h:q∈bF U G k):q.1∈U:=by have:=(List.mem_filter.mp h).1;exact(List.of_mem_zip (show(q.1,q.2)∈_ from this)).1
def jK(zc:Bool)(n:Nat)(U:Zf)(G:Z9)(w:Zf)(N:Nat):List Int:=
 (List.range N).flatMap λk=>(bF U G k).map λq=>fD (iR zc w k (n+1)) q.1 % 2
def qf4{α:Type}{f g:Nat->List α}{N:Nat}(h:∀k,k<N->f k=g k):(List.range N).flatMap f=(List.range N).flatMap g:=by
 induction N with
 |zero=>rfl
 |succ N ih=>rw[i0,i0,ih λk hk=>h k (by omega),h N (by omega)]
def qkm{zc:Bool}{n z:Nat}{U:Zf}{G:Z9}{w:Zf}(hn:n<=4)(hb:az w)(h:zc=true->n<=w.length/\z=0)(ht:∀t∈U,0<=t):
 qp n U G (aP (cX zc n w)) (w++List.replicate z 0)=jK zc n U G w (w.length+z):=by
 unfold qp jK;rw[jr,jx];refine qf4 λk hk=>?_;unfold fN;rw[Ag];show(bF U G k).map _=_;refine List.map_congr_left λq hq=>?_;exact qkl hn hb h hk (ht _ (qkn hq))
theorem GS:∀(js:Zf) (t:Int),(∀b∈js,b=0)->fD js t=0
 |[],_,_=>rfl
 | b::js,t,h=>by unfold fD;rw[h b jj,GS js (t / 2) λx hx=>h x (jh _ hx)];simp
def qef{zc:Bool}{n N m:Nat}{U:Zf}{G:Z9}:jK zc n U G (List.replicate m 0) N=List.replicate (jK zc n U G (List.replicate m 0) N).length 0:=by
 refine List.eq_replicate_iff.mpr ⟨rfl,λb hb=>?_⟩;unfold jK at hb;let⟨k,hk,hb⟩:=List.mem_flatMap.mp hb;obtain⟨q,hq,rfl⟩:=List.mem_map.mp hb;rw[GS _ _ λx hx=>?_]
 .rfl
 .unfold iR at hx;obtain⟨j,_,rfl⟩:=List.mem_map.mp hx;have g:∀j,(List.replicate m (0:Int)).getD j 0=0:=λj=>by
   rw[jn,kj];split<;>rfl
  unfold dP;split
  .exact g _
  .split
   .exact g _
   .rfl
def Hl{zc:Bool}{n N:Nat}{U:Zf}{G:Z9}{w:Zf}:az (jK zc n U G w N):=λb hb=>by unfold jK at hb;let⟨k,hk,hb⟩:=List.mem_flatMap.mp hb;obtain⟨q,hq,rfl⟩:=List.mem_map.mp hb;omega
end L2
namespace L2
open PySem
noncomputable def cW(row:Zf):D:=.tup (row.map D.int)
def au(r:Int)(U:Zf)(G:Z9)(e:Str):D:=.tup [.int r,.tup (U.map D.int),.tup (G.map cW),.str e]
structure q1w(r:Int)(U:Zf)(G:Z9)(e:Str):Prop where
 r0:0<=r
 r4:r<=4
 t1:1<=U.length
 t4:U.length<=4
 tb:∀t∈U,0<=t/\t<2*2^r.toNat
 m1:1<=G.length
 m6:G.length<=6
 rw:∀row∈G,row.length=U.length/\∀b∈row,b=0∨b=1
 en:e="open"∨e="ended"∨e="ring"
theorem yQ{P:Int->Prop}:∀{ys:List D},(∀y∈ys,∃t,y=.int t/\P t)->∃ts:List Int,ys=ts.map D.int/\∀t∈ts,P t
 |[],_=>⟨[],rfl,λ_ h=>nomatch h⟩
 | y::ys,h=>by
  obtain⟨t,rfl,ht⟩:=h y jj;obtain⟨ts,rfl,hs⟩:=yQ (P:=P) λz hz=>h z (jh _ hz);refine⟨t::ts,rfl,λu hu=>?_⟩;rcases List.mem_cons.mp hu with rfl|hu
  .exact ht
  .exact hs u hu
def nR:cV (.str "open") (.str "ring")=some false:=by rw[gQ (by decide+kernel) (by decide+kernel)];decide+kernel
def nS:cV (.str "ended") (.str "ring")=some false:=by rw[gQ (by decide+kernel) (by decide+kernel)];decide+kernel
def nQ:cV (.str "ring") (.str "ring")=some true:=by rw[gQ (by decide+kernel) (by decide+kernel)];decide+kernel
def rS:cV (.str "open") (.str "ended")=some false:=by rw[gQ (by decide+kernel) (by decide+kernel)];decide+kernel
def rT:cV (.str "ended") (.str "ended")=some true:=by rw[gQ (by decide+kernel) (by decide+kernel)];decide+kernel
def rR:cV (.str "ring") (.str "ended")=some false:=by rw[gQ (by decide+kernel) (by decide+kernel)];decide+kernel
def bo(r:Int)(e:Str)(w:Zf):Int:=if e="ring" then aP (w.drop (w.length-r.toNat))else 0
noncomputable def tM(r:Int)(e:Str)(w:Zf):List Int:=if e="ended" then w++List.replicate r.toNat 0 else w
def qs6{α:Type}{xs:List α}{x:α}:bX (xs++[x]) (-1)=some x:=by
 unfold bX e9;have h1:¬((0:Int)<= -1):=by decide
 have h2:(-(((xs++[x]).length:Nat):Int)<= -1):=by rw[jr,List.length_singleton];omega
 have h3:((-1:Int)+(((xs++[x]).length:Nat):Int)).toNat=xs.length:=by rw[jr,List.length_singleton];omega
 rw[if_neg h1,if_pos h2,h3];show(xs++[x])[xs.length]? =some x;rw[ke (jg _),Nat.sub_self];rfl
def qmi(n:Nat)(w:Zf)(hb:∀b∈w,b=0∨b=1)(hn:n<=w.length):ba (2^n) (aP (w.drop (w.length-n))) w=aP (w.drop (w.length-n)):=by
 have m0:(0:Int)<2^n:=Int.pow_pos (by decide);have hl:(w.drop (w.length-n)).length=n:=by rw[xv];omega
 have ha:=kO (w.drop (w.length-n)) λb h=>hb b (List.mem_of_mem_drop h);rw[hl]at ha;generalize hz:aP (w.drop (w.length-n))=a at ha ⊢;have h1:=qV (2^n) w a;have hw:aP w=aP (w.take (w.length-n))*2^n+a:=by have:=q9 (w.take (w.length-n)) (w.drop (w.length-n));rw[List.take_append_drop,hl,hz]at this;exact this
 have hp:(2:Int)^w.length=2^(w.length-n)*2^n:=by rw[<-Int.pow_add];congr 1;omega
 rw[kQ,hw,hp,<-Int.mul_assoc,<-Int.add_assoc,<-Int.add_mul,Int.add_comm,Int.add_mul_emod_self_right,Int.emod_eq_of_lt ha.1 ha.2]at h1;have h2:=kL m0 w a ha;rw[Int.emod_eq_of_lt h2.1 h2.2]at h1;exact h1
noncomputable def bi(e:Str):Bool:=decide (e="ring")
noncomputable def aC(r:Int)(e:Str):Nat:=if e="ended" then r.toNat else 0
def zD(r:Int)(e:Str)(w:Zf):tM r e w=w++List.replicate (aC r e) 0:=by
 unfold tM aC;split
 .rfl
 .simp
def qqy(r:Int)(e:Str)(w:Zf):bo r e w=aP (cX (bi e) r.toNat w):=by
 unfold bo cX bi;by_cases h:e="ring"
 .rw[if_pos h,decide_eq_true h,if_pos rfl]
 .rw[if_neg h,decide_eq_false h,if_neg (by decide),Aj]
def qha{r:Int}{e:Str}{n:Nat}(hw:e="ring"->r.toNat<=n):bi e=true->r.toNat<=n/\aC r e=0:=λh=>by have he:e="ring":=of_decide_eq_true h;subst he;exact⟨hw rfl,if_neg (by decide)⟩
def qsa{x:Int}(h:0<=x):Builtin.bitAnd x 1=x % 2:=by unfold Builtin.bitAnd;rw[decide_eq_true h,decide_eq_true (by decide:(0:Int)<=1)];show((x.toNat &&& 1:Nat):Int)=x % 2;rw[Nat.and_one_is_mod];omega
def EK{x y:Int}(h:0<=x)(g:0<=y):Builtin.bitAnd x y=((x.toNat &&& y.toNat:Nat):Int):=by unfold Builtin.bitAnd;rw[decide_eq_true h,decide_eq_true g]
def qk3{x y:Int}(h:x=0∨x=1)(g:y=0∨y=1):Builtin.bitXor x y=(x+y) % 2:=by rcases h with rfl|rfl<;>rcases g with rfl|rfl<;>decide
def kM{r:Int}(r0:0<=r)(r4:r<=4):(1:Int)<=2^r.toNat/\(2:Int)^r.toNat<=16:=by rcases(by omega:r=0∨r=1∨r=2∨r=3∨r=4)with rfl|rfl|rfl|rfl|rfl<;>decide
end L2
namespace L2
open PySem PySem.Spec
def DOk(n:Nat)(d:D):Prop:=∃p,d.toP=some p/\p.canLay0=true/\p.depth<=n
def DOks(n:Nat)(ds:List D):Prop:=∃ps,D.toPs ds=some ps/\PyData.canLayAll0 ps=true/\PyData.depthAll ps<=n
def DOk.int(n:Nat)(i:Int):DOk n (.int i):=⟨.int i,by simp only[D.toP],by simp only[PyData.canLay0],by simp only[PyData.depth];exact Nat.zero_le _⟩
def DOk.bl(n:Nat)(i:Bool):DOk n (.bl i):=⟨.bool i,by simp only[D.toP],by simp only[PyData.canLay0],by simp only[PyData.depth];exact Nat.zero_le _⟩
def DOk.str(n:Nat){x:Str}(h:PyData.strOk x=true):DOk n (.str x):=⟨.str x,by simp only[D.toP],by simp only[PyData.canLay0];exact h,by simp only[PyData.depth];exact Nat.zero_le _⟩
def DOks.nil(n:Nat):DOks n []:=⟨[],by simp only[D.toPs],by simp only[PyData.canLayAll0],by simp only[PyData.depthAll];exact Nat.zero_le _⟩
def DOks.cons{n:Nat}{d:D}{ds:List D}(h:DOk n d)(r:DOks n ds):DOks n (d::ds):=by obtain⟨p,h1,h2,h3⟩:=h;obtain⟨ps,g1,g2,g3⟩:=r;refine⟨p::ps,by simp only[D.toPs,h1,g1],by simp only[PyData.canLayAll0,h2,g2];rfl,?_⟩;simp only[PyData.depthAll];exact Nat.max_le.mpr ⟨h3,g3⟩
theorem DOks.all{n:Nat}:∀{ds:List D},(∀d∈ds,DOk n d)->DOks n ds
 |[],_=>DOks.nil n
 |d::ds,h=>DOks.cons (h d jj) (DOks.all λx hx=>h x (jh _ hx))
def DOks.lst{n:Nat}{ds:List D}(h:DOks n ds):DOk (n+1) (.lst ds):=by obtain⟨ps,g1,g2,g3⟩:=h;exact⟨.list ps,by simp only[D.toP,g1];rfl,by simp only[PyData.canLay0];exact g2,by simp only[PyData.depth];omega⟩
def DOks.tup{n:Nat}{ds:List D}(h:DOks n ds):DOk (n+1) (.tup ds):=by obtain⟨ps,g1,g2,g3⟩:=h;exact⟨.tuple ps,by simp only[D.toP,g1];rfl,by simp only[PyData.canLay0];exact g2,by simp only[PyData.depth];omega⟩
def qmh{n:Nat}{d:D}(h:DOk n d)(hn:n<=64):cV d d=some true:=by
 obtain⟨p,h1,h2,h3⟩:=h;have hs:SeqAt.shaped p=true:=by unfold SeqAt.shaped;rw[h2,decide_eq_true (by omega:p.depth<=64)];rfl
 unfold cV;rw[h1];show(if SeqAt.shaped p=true/\SeqAt.shaped p=true then some (PyData.eqv p p)else none)=some true;rw[if_pos ⟨hs,hs⟩,SeqAt.eqv_refl p h2]
def DOk.ints(xs:Zf):DOk 1 (.lst (xs.map D.int)):=DOks.lst (.all λd hd=>by obtain⟨i,_,rfl⟩:=List.mem_map.mp hd;exact .int _ i)
def DOk.le{n m:Nat}{d:D}(h:DOk n d)(hn:n<=m):DOk m d:=by obtain⟨p,h1,h2,h3⟩:=h;exact⟨p,h1,h2,by omega⟩
end L2
namespace L2
open PySem PySem.Spec PySem.NumText
section
variable{K:am}{O:Zg}{E:XK}
end
end L2
namespace L2
open PySem PySem.Spec PyProof.Rows
section
variable{c:MC}{O O':Zg}{te:TE}{fa:aJ}
end
section
variable{ρ:Model}{A:Around}{E:Z0}{s:Shared}{B:Heap}{env:Env}{outer l:List Env}{L e:Addr}{cls fl:Value}{Q:Unit->Shared->Prop}
end
section
variable{X:Cx}{z5:Z3}{J:St}{H H':Hp}{s:Shared}
end
section
variable{P:Program}{w:World}{K:am}{mg:Za}{base:Heap}{N:Zj}{qual:Str}{scope:Scope}{f:Addr}{cd:Value}{A:Around}{outer:List Env}{s₀:Shared}{H₀:Hp}{E:XK}
end
section
variable{X:Cx}{tg elt zf:Expr}{ifs:Zi}{scope:Scope}{pos:Pos}{N N0:Zj}{n:Nat}{js:Zg}{sc:Scope}{wi:TI}{g:TG}{tt:TT}{te:TE}
end
@[irreducible] def QSs(X:Cx)(st:Zh)(t:TS):Prop:=PSs X st t
section
variable{X:Cx}{st:Stmt}{sts a b:Zh}{t u:TS}{tc:TT}{c tg zf:Expr}{wi:TI}{g:TG}{pos:Pos}
def QSs.out(h:QSs X sts t):PSs X sts t:=by unfold QSs at h;exact h
end
inductive Inn(K:am)(H R:Hp):List Addr->List (List D)->Prop
 |nil:Inn K H R [] []
 |cons {a:Addr} {as:List Addr} {vs:List V} {ds:List D} {dss:List (List D)}:H a=some (.lst vs)->R a=none->Rps K R vs ds->Inn K H R as dss->Inn K H R (a::as) (ds::dss)
structure Deep(K:am)(H R:Hp)(l:Addr)(as:List Addr)(dss:List (List D)):Prop where
 top:H l=some (.lst (as.map V.ref))
 rl:R l=none
 inn:Inn K H R as dss
 nd:(l::as).Nodup
def StR.put{K:am}{Z:Anc}{O:Zg}{J:St}{H R:Hp}{M:av}{a:Addr}{o:HO}(S:StR K Z O J H R M)(hr:R a=none)(n:∀i,i∈O->J[i]? ≠some (some (.ref a)))(z:Z.H0 a=none):StR K Z O J (aN H a o) R M:=by
 have ne:∀b u,Z.H0 b=some u->b≠a:=λb u e q=>by rw[q,z]at e;cases e
 refine⟨λb u e=>?_,S.len,S.env,λi hi=>?_,S.dis,λb u e nl=>?_,S.ar,S.an,λb h=>?_,S.ao,S.ap⟩
 .have q:b≠a:=λq=>by rw[q,hr]at e;cases e
  rw[aU q];exact S.sub b u e
 .let⟨l,vs,ds,h1,h2,h3,h4,h5⟩:=S.own i hi;have q:l≠a:=λq=>n i hi (by rw[h2,q]);exact⟨l,vs,ds,h1,h2,by rw[aU q];exact h3,h4,h5⟩
 .rw[aU (ne b u e)];exact S.ah b u e nl
 .have q:b≠a:=λq=>h (by rw[q];exact z);have l:=S.ad b h;unfold Liv at l ⊢;rw[aU q];exact l
def Inn.has{K:am}{H R:Hp}{as:List Addr}{dss:List (List D)}(h:Inn K H R as dss):∀a∈as,∃vs,H a=some (.lst vs):=by
 induction h with
 |nil=>exact λ_ h=>nomatch h
 | cons h1 _ _ _ ih=>
  intro a ha;rcases List.mem_cons.mp ha with rfl|ha
  .exact⟨_,h1⟩
  .exact ih a ha
def Inn.wr{K:am}{H R:Hp}{as:List Addr}{dss:List (List D)}{b:Addr}{o:HO}(h:Inn K H R as dss)(n:b∉as):Inn K (aN H b o) R as dss:=by
 induction h with
 |nil=>exact .nil
 | cons h1 h2 h3 _ ih=>
  exact .cons (by rw[aU λq=>n (by rw[q];exact jj)];exact h1) h2 h3 (ih λq=>n (jh _ q))
def Inn.len{K:am}{H R:Hp}{as:List Addr}{dss:List (List D)}(h:Inn K H R as dss):as.length=dss.length:=by
 induction h with
 |nil=>rfl
 |cons _ _ _ _ ih=>rw[jw,jw,ih]
def Inn.at{K:am}{H R:Hp}{as:List Addr}{dss:List (List D)}(h:Inn K H R as dss):∀{k:Nat} {a:Addr},as[k]? =some a->∃vs ds,dss[k]? =some ds/\H a=some (.lst vs)/\R a=none/\Rps K R vs ds:=by
 induction h with
 |nil=>intro k a e;simp at e
 | cons h1 h2 h3 _ ih=>
  intro k a e;cases k with
  | zero=>
   cases e;exact⟨_,_,rfl,h1,h2,h3⟩
  |succ k=>exact ih e
def Inn.setAt{K:am}{H R:Hp}{as:List Addr}{dss:List (List D)}{vs:List V}{ds:List D}(h:Inn K H R as dss)(r:Rps K R vs ds):∀{k:Nat} {a:Addr},as.Nodup->as[k]? =some a->Inn K (aN H a (.lst vs)) R as (dss.set k ds):=by
 induction h with
 |nil=>intro k a _ e;simp at e
 | @cons b _ _ _ _ h1 h2 h3 t ih=>
  intro k a nd e;let⟨n1,n2⟩:=List.nodup_cons.mp nd;cases k with
  | zero=>
   cases e;exact .cons cr h2 r (t.wr n1)
  | succ k=>
   rw[List.getElem?_cons_succ]at e;have m:=k8 e;have ne:b≠a:=λq=>n1 (by rw[q];exact m);exact .cons (by rw[aU ne];exact h1) h2 h3 (ih n2 e)
def Deep.setAt{K:am}{H R:Hp}{l a:Addr}{as:List Addr}{dss:List (List D)}{vs:List V}{ds:List D}{k:Nat}(h:Deep K H R l as dss)(e:as[k]? =some a)(r:Rps K R vs ds):Deep K (aN H a (.lst vs)) R l as (dss.set k ds):=by let⟨n1,n2⟩:=List.nodup_cons.mp h.nd;have ne:l≠a:=λq=>n1 (by rw[q];exact k8 e);exact⟨by rw[aU ne];exact h.top,h.rl,h.inn.setAt r n2 e,h.nd⟩
def Inn.other{K:am}{H R:Hp}{as:List Addr}{dss:List (List D)}{b:Addr}{o:HO}(h:Inn K H R as dss)(n:b∉as)(hb:R b=none):Inn K H (aN R b o) as dss:=by
 have s:Same R (aN R b o):=λa u e=>by
  have q:a≠b:=λq=>by rw[q,hb]at e;cases e
  rw[aU q];exact e
 induction h with
 |nil=>exact .nil
 | cons h1 h2 h3 _ ih=>
  exact .cons h1 (by rw[aU λq=>n (by rw[q];exact jj)];exact h2) (h3.mono s) (ih λq=>n (jh _ q))
theorem StR.knowAll{K:am}{Z:Anc}{O:Zg}{J:St}{H:Hp}{M:av}:∀{as:List Addr} {dss:List (List D)} {R:Hp},StR K Z O J H R M->Inn K H R as dss->as.Nodup->(∀a∈as,Z.H0 a=none/\∀j,j∈O->J[j]? ≠some (some (.ref a)))->∃R1,StR K Z O J H R1 M/\Same R R1/\Rps K R1 (as.map V.ref) (dss.map D.lst)/\∀b,b∉as->R1 b=R b
 | [],dss,R,S,h,_,_=>by
  have l:=h.len;cases dss with
  |cons x r=>simp at l
  |nil=>exact⟨R,S,Same.refl _,.nil,λ_ _=>rfl⟩
 | a::as,dss,R,S,h,nd,hz=>by
  cases h with
  | @cons _ _ vs ds dss h1 h2 h3 h4=>
   let⟨na,nd'⟩:=List.nodup_cons.mp nd;let⟨z1,z2⟩:=hz a jj;have s:Same R (aN R a (.lst vs)):=λb u e=>by
    have q:b≠a:=λq=>by rw[q,h2]at e;cases e
    rw[aU q];exact e
   let⟨R1,S1,s1,r1,o1⟩:=StR.knowAll (S.know z1 h1 h2 z2) (h4.other na h2) nd' λb hb=>hz b (jh _ hb);refine⟨R1,S1,s.trans s1,.cons (.lst (SqL.of (s1 _ _ cr)) ((h3.mono s).mono s1)) r1,λb hb=>?_⟩;have hb1:b≠a:=λq=>hb (by rw[q];exact jj);rw[o1 b λq=>hb (jh _ q),aU hb1]
def Inn.stp{K:am}{O:Zg}{J:St}{H R H' R':Hp}{as:List Addr}{dss:List (List D)}(h:Inn K H R as dss)(s:Stp O J H R H' R')(ow:∀a∈as,∀j,j∈O->J[j]? ≠some (some (.ref a))):Inn K H' R' as dss:=by
 induction h with
 |nil=>exact .nil
 | @cons a as vs ds dss h1 h2 h3 _ ih=>
  refine .cons (s.h _ _ h1 (ow a jj)) ?_ (h3.mono s.r) (ih λb hb=>ow b (jh _ hb));cases q:R' a with
  |none=>rfl
  | some o=>
   rcases s.n a (by rw[q];exact λz=>nomatch z)with z|z
   .exact absurd h2 z
   .rcases z with z|⟨xs,z⟩<;>(rw[h1]at z;cases z)
structure StD(K:am)(Z:Anc)(O:Zg)(i:Nat)(J:St)(H R:Hp)(M:av)(l:Addr)(as:List Addr)(dss:List (List D)):Prop where
 st:StR K Z O J H R M
 hi:i∉O
 no:M[i]? =some none
 at':J[i]? =some (some (.ref l))
 dp:Deep K H R l as dss
 z0:∀a∈l::as,Z.H0 a=none
 ow:∀a∈l::as,∀j,j∈O->J[j]? ≠some (some (.ref a))
section
variable{K:am}{Z:Anc}{O:Zg}{i j:Nat}{J:St}{H R H' R':Hp}{M M':av}{l:Addr}{as:List Addr}{dss:List (List D)}
def StD.stp(S:StD K Z O i J H R M l as dss)(T:StR K Z O J H' R' M')(s:Stp O J H R H' R')(no:M'[i]? =some none):StD K Z O i J H' R' M' l as dss:=by
 refine⟨T,S.hi,no,S.at',⟨s.h _ _ S.dp.top (S.ow l jj),?_,S.dp.inn.stp s λa ha=>S.ow a (jh _ ha),S.dp.nd⟩,S.z0,S.ow⟩;cases q:R' l with
 |none=>rfl
 | some o=>
  rcases s.n l (by rw[q];exact λz=>nomatch z)with z|z
  .exact absurd S.dp.rl z
  .rcases z with z|⟨xs,z⟩<;>(rw[S.dp.top]at z;cases z)
def StD.grown(S:StD K Z O i J H R M l as dss)(s:Same H H'):StD K Z O i J H' R M l as dss:=
 have y:Ext H R H' R:=⟨s,Same.refl _,λa o z=>s _ _ (S.st.sub a o z),λ_ z=>.inl z⟩
 S.stp (S.st.ext y) y.stp S.no
def StD.set(S:StD K Z O i J H R M l as dss){v:V}{d:D}(hj:j∉O)(ij:j≠i)(r:Rp K R v d):StD K Z O i (J.set j (some v)) H R (M.set j (some d)) l as dss:=
 ⟨S.st.set hj r,S.hi,by rw[jv ij];exact S.no,by rw[jv ij];exact S.at',S.dp,S.z0,λa ha k hk=>by rw[jv λ(q:j=k)=>hj (q▸hk)];exact S.ow a ha k hk⟩
def StR.blind{v:V}(S:StR K Z O J H R M)(hj:j∉O):StR K Z O (J.set j (some v)) H R (M.set j none):=by
 have ne:∀k,k∈O->j≠k:=λk hk z=>hj (z▸hk);refine⟨S.sub,by rw[xq,xq];exact S.len,λk e hk q=>?_,λk hk=>?_,λk m hk hm n l e=>?_,S.ah,S.ar,S.an,S.ad,λk hk hp l e=>?_,λk hk hp l e=>?_⟩
 .by_cases hij:j=k
  .subst hij;have hl:j<M.length:=by
    have:=(List.getElem?_eq_some_iff.mp q).1
    rwa [xq]at this
   rw[xo hl]at q;cases q
  .rw[jv hij]at q ⊢;exact S.env k e hk q
 .rw[jv (ne k hk),jv (ne k hk)];exact S.own k hk
 .rw[jv (ne k hk)]at e;rw[jv (ne m hm)];exact S.dis k m hk hm n l e
 .rw[jv (ne k hk)]at e;exact S.ao k hk hp l e
 .rw[jv (ne k hk)]at e;exact S.ap k hk hp l e
def StD.wrAt{k:Nat}{a:Addr}{vs:List V}{ds:List D}(S:StD K Z O i J H R M l as dss)(e:as[k]? =some a)(r:Rps K R vs ds):StD K Z O i J (aN H a (.lst vs)) R M l as (dss.set k ds):=by have m:a∈l::as:=jh _ (k8 e);let⟨_,_,_,_,hr,_⟩:=S.dp.inn.at e;exact⟨S.st.put hr (λj hj=>S.ow a m j hj) (S.z0 a m),S.hi,S.no,S.at',S.dp.setAt e r,S.z0,S.ow⟩
end
abbrev Fd:=av->List (List D)->Option (av×List (List D))
def rG(K:am)(O:Zg)(i:Nat)(t:TS)(f:Fd):Prop:=∀(Z:Anc) (E:Ends) (J:St) (H R:Hp) (M:av) (l:Addr) (as:List Addr) (dss:List (List D)) (M':av) (j4:List (List D)),StD K Z O i J H R M l as dss->f M dss=some (M',j4)->
 (∀J' H' R' as',StD K Z O i J' H' R' M' l as' j4->Same R R'->E.nx J' H')->t E J H
section
variable{K:am}{O:Zg}{i j:Nat}{t u:TS}{te:TE}{tt:TT}{tr:TA}{f h:Fd}{fe:aJ}{fs:aS}{ft:dL}
noncomputable def c8(M:av)(i:Nat):Bool:=match M[i]? with
 |some none=>true
 |_=>false
def uU{M:av}{i:Nat}(h:c8 M i=true):M[i]? =some none:=by
 unfold c8 at h;split at h
 .assumption
 .cases h
end
def wG(K:am)(n:Nat)(f:List D->Option (List (List D))):Sp:=λvs H Q _=>vs.length=n/\∃R ds dss,(∀a o,R a=some o->H a=some o)/\Rps K R vs ds/\f ds=some dss/\
 ∀l as H' R',Ext H R H' R'->(∀a∈l::as,H a=none)->Deep K H' R' l as dss->Q (.ref l) H'
noncomputable def oP(o:Option (List (List D))):Option D:=o.map λdss=>.lst (dss.map D.lst)
def Deep.known{K:am}{H R H' R':Hp}{l:Addr}{as:List Addr}{dss:List (List D)}(x:Ext H R H' R')(z:∀a∈l::as,H a=none)(h:Deep K H' R' l as dss):∃R1,Ext H R H' R1/\Rp K R1 (.ref l) (.lst (dss.map D.lst)):=by
 have S:StR K ⟨H,R,λ_=>False,[]⟩ [] [] H' R' []:=⟨x.s,rfl,λi d _ q=>by simp at q,λi hi=>(nomatch hi),λi j hi=>(nomatch hi),λa o q _=>x.h a o q,x.r,x.n,λa q=>x.h.liv q,λi hi=>(nomatch hi),λi hi=>(nomatch hi)⟩;let⟨nl,nd⟩:=List.nodup_cons.mp h.nd;let⟨R1,S1,s1,r1,o1⟩:=S.knowAll h.inn nd λa ha=>⟨z a (jh _ ha),λj hj=>(nomatch hj)⟩;have e1:R1 l=none:=by rw[o1 l nl];exact h.rl
 have S2:=S1.know (z l jj) h.top e1 λj hj=>(nomatch hj);exact⟨_,⟨λa o q=>S2.ah a o q (λz=>z),S2.ar,S2.sub,S2.an⟩,.lst (SqL.of cr) (r1.mono (Same.new e1))⟩
def qy1{K:am}{n:Nat}{f:List D->Option (List (List D))}{vs:List V}{H:Hp}{Q:VK}{E:XK}(h:cj K false n (λds=>oP (f ds)) vs H Q E):wG K n f vs H Q E:=by
 obtain⟨hn,R,ds,d,sub,r,e,k⟩:=h;have e:oP (f ds)=some d:=e;cases q:f ds with
 |none=>rw[q]at e;cases e
 | some dss=>
  rw[q]at e;cases e;refine⟨hn,R,ds,dss,sub,r,q,λl as H' R' x z dp=>?_⟩;let⟨R1,x1,r1⟩:=dp.known x z;exact k _ H' R1 x1 r1
def qm6{K:am}{Nms:Zj}{n:Nat}{H R:Hp}{vs:List V}{ds:List D}(hn:vs.length=n)(hl:ds.length=n)(sub:∀a o,R a=some o->H a=some o)(r:Rps K R vs ds):StR K ⟨H,R,λ_=>False,[]⟩ [] (aO Nms vs) H R (ds.map some++List.replicate (Nms.length-n) none):=by
 refine⟨sub,?_,λi d _ q=>?_,λi hi=>absurd hi (by simp),λi j hi=>absurd hi (by simp),λa o q _=>q,Same.refl _,λa q=>.inl q,λa q=>.refl q,λi hi=>absurd hi (by simp),λi hi=>absurd hi (by simp)⟩
 .unfold aO;rw[jr,jr,jb,jb,jx,jx,hn,hl]
 .let⟨v,h1,h2⟩:=r.get (re q);exact⟨v,rg h1,h2⟩
section
variable{K:am}{O T:Zg}{i:Nat}{t:TS}{te:TE}{tr:TA}{g:TG}{f:Fd}{fe:aJ}{fs:aS}{fg:dW}
noncomputable def kE(i:Nat)(fg:dW)(f:Fd):List D->Fd
 |[],M,dss=>some (M,dss)
 | d::r,M,dss=>match fg d M with
  | some M1=>if c8 M1 i=true then(match f M1 dss with
   |some p=>kE i fg f r p.1 p.2
   |none=>none)else none
  |none=>none
def ub(i:Nat)(fg:dW)(fi:aS)(f:Fd):Fd:=λM dss=>match fi M with
 |some (ds,M1)=>if c8 M1 i=true then kE i fg f ds M1 dss else none
 |none=>none
def StD.tgt{Z:Anc}{J J':St}{H R:Hp}{M M':av}{l:Addr}{as:List Addr}{dss:List (List D)}(S:StD K Z O i J H R M l as dss)(S':StR K Z O J' H R M')(n:∀j,j∉T->J'[j]? =J[j]?)(hT:∀k∈i::O,k∉T)(no:M'[i]? =some none):StD K Z O i J' H R M' l as dss:=
 ⟨S',S.hi,no,by rw[n i (hT i jj)];exact S.at',S.dp,S.z0,λa ha k hk=>by rw[n k (hT k (jh _ hk))];exact S.ow a ha k hk⟩
def qlf{wi:TI}{fi:aS}{tb:TS}(hi:MI K O wi fi)(hg:MG K O T g fg)(hT:∀k∈i::O,k∉T)(hb:rG K O i tb f):rG K O i (nB wi g tb) (ub i fg fi f):=λZ E J H R M l as dss M' j4 S e k=>by
 unfold ub at e;split at e
 .rename_i ds M1 q;split at e
  .rename_i z;have no:=uU z;refine hi Z J H R M ds M1 _ S.st q λσ H1 R1 S1 st1 ok=>?_;have S2:=S.stp S1 st1 no;refine⟨λn m J' H'=>m=ds.length-n/\n<=ds.length/\∃R2 M2 as2 dss2,StD K Z O i J' H' R2 M2 l as2 dss2/\Same R1 R2/\kE i fg f (ds.drop n) M2 dss2=some (M',j4),⟨ds.length,by simp,Nat.zero_le _,R1,M1,as,dss,S2,Same.refl _,by rw[List.drop_zero];exact e⟩,?_⟩;rintro n m J' H' ⟨rfl,hn,R2,M2,as2,dss2,S3,s3,e3⟩;let⟨o1,o2⟩:=ok H' R2 s3 S3.st.sub n;by_cases hlt:n<ds.length
   .let⟨g1,g2⟩:=o2 ds[n] (ji hlt);rw[vh hlt]at e3;refine .inr ⟨g1,λJ3 H3=>∃R2 M2 as2 dss2,StD K Z O i J3 H3 R2 M2 l as2 dss2/\Same R1 R2/\kE i fg f (ds.drop (n+1)) M2 dss2=some (M',j4),?_,λx H3 y=>?_⟩
    .rintro J3 H3 ⟨R3,M3,as3,dss3,q1,q2,q3⟩;exact⟨ds.length-(n+1),by omega,rfl,hlt,R3,M3,as3,dss3,q1,q2,q3⟩
    .let⟨R3,x3,r3⟩:=g2 x H3 y;have S4:=S3.stp (S3.st.ext x3) x3.stp S3.no;unfold kE at e3;split at e3
     .rename_i M4 e4;split at e3
      .rename_i z4;have no4:=uU z4;refine hg Z J' H3 R3 M2 x ds[n] M4 _ S4.st r3 e4 λσ4 S5 n5=>?_;have S6:=S4.tgt S5 n5 hT no4;split at e3
       .rename_i p e5;exact hb Z _ _ H3 R3 _ l as2 dss2 p.1 p.2 S6 e5 λσ5 H5 R5 as5 S7 s5=>⟨R5,p.1,as5,p.2,S7,(s3.trans x3.r).trans s5,e3⟩
       .cases e3
      .cases e3
     .cases e3
   .have en:n=ds.length:=by omega
    subst en;rw[List.drop_length]at e3;unfold kE at e3;cases e3;exact .inl ⟨o1 rfl,k J' H' R2 as2 S3 (st1.r.trans s3)⟩
  .cases e
 .cases e
noncomputable def qH(dss:List (List D))(n:Int)(d:D):Option (List (List D)):=if 0<=n then(match dss[n.toNat]? with
 |some ds=>if ds.length<sizeLine then some (dss.set n.toNat (ds++[d]))else none
 |none=>none)else none
def pA(i:Nat)(fe:aJ)(fs:aS):Fd:=λM dss=>match fe M with
 | some (.int n,M0)=>if c8 M0 i=true then(match fs M0 with
  |some ([d],M1)=>if c8 M1 i=true then(qH dss n d).map λx=>(M1,x)else none
  |_=>none)else none
 |_=>none
def qes(he:ME K O te fe)(ha:MA K O tr fs):rG K O i (mU (tH K "list" y9 (iQ (pW K) (dq i) te) tr)) (pA i fe fs):=λZ E J H R M l as dss M' j4 S e k=>by
 unfold pA at e;split at e
 .rename_i n M0 q0;split at e
  .rename_i z0;have no0:=uU z0;split at e
   .rename_i d M1 q;split at e
    .rename_i z;have no:=uU z;cases w:qH dss n d with
     |none=>rw[w]at e;cases e
     | some x=>
      rw[w]at e;cases e;unfold qH at w;split at w
      .rename_i hn0;split at w
       .rename_i ds w1;split at w
        .rename_i w2;cases w;refine⟨.ref l,S.at',he Z J H R M (.int n) M0 _ S.st q0 λv0 H0 R0 S0 st0 r0=>?_⟩;cases r0;have T0:=S.stp S0 st0 no0;have ln:=T0.dp.inn.len;have hk:n.toNat<as.length:=by rw[ln];exact(List.getElem?_eq_some_iff.mp w1).1
         have ea:as[n.toNat]? =some as[n.toNat]:=ji hk;let⟨vs,ds2,g1,g2,g3,g4⟩:=T0.dp.inn.at ea;rw[w1]at g1;cases g1;refine .inl ⟨l,_,n,.ref as[n.toNat],rfl,rfl,SqL.of T0.dp.top,?_,?_⟩
         .unfold bX;have e1:e9 (as.map V.ref).length n=some n.toNat:=by
           rw[jb];unfold e9;rw[if_pos hn0,if_pos (by omega)]
          rw[e1];show(as.map V.ref)[n.toNat]? =_;rw[jq,ea];rfl
         .refine⟨.inl ⟨rfl,vs,SqL.of g2⟩,ha Z J H0 R0 M0 [d] _ _ T0.st q λws H1 R1 S1 st1 r1=>?_⟩;obtain⟨v,_,rfl,rv,rn⟩:=r1.isC;cases rn;have S2:=T0.stp S1 st1 no;let⟨vs2,ds3,g1,g2,g3,g4⟩:=S2.dp.inn.at ea;rw[w1]at g1;cases g1;exact⟨_,vs2,v,rfl,rfl,g2,by rw[g4.length];exact w2,k J _ R1 as (S2.wrAt ea (g4.snoc rv)) (st0.r.trans st1.r)⟩
        .cases w
       .cases w
      .cases w
    .cases e
   .cases e
  .cases e
 .cases e
end
def ED(i n:Nat)(js:Zg)(wi:TI)(t:TS):TS:=i7 (tV i n js wi (gh 0) ip (ny fy)) (i7 t (iq (dq i)))
theorem Inn.empty{K:am}{H R:Hp}:∀{as:List Addr},(∀a∈as,H a=some (.lst []))->(∀a∈as,R a=none)->Inn K H R as (List.replicate as.length [])
 |[],_,_=>.nil
 |a::as,h,r=>.cons (h a jj) (r a jj) .nil (Inn.empty (λb hb=>h b (jh _ hb)) λb hb=>r b (jh _ hb))
def qf7{K:am}{i n:Nat}{js:Zg}{wi:TI}{fi:aS}{t:TS}{f:Fd}{H R H1 R1:Hp}{J:St}{M M1:av}{ds:List D}{dss:List (List D)}{Q:VK}(hw:MI K [] wi fi)(hm:rG K [] i t f)(S:StR K ⟨H,R,λ_=>False,[]⟩ [] J H1 R1 M)(e1:fi M=some (ds,M1))(hl:i<M1.length)(hz:ds.length<=sizeLine){M':av}(e:f (M1.set i none) (List.replicate ds.length [])=some (M',dss))
 (k:∀l as H' R',Ext H R H' R'->(∀a∈l::as,H a=none)->Deep K H' R' l as dss->Q (.ref l) H'):ED i n js wi t {nx:=λ_ H'=>Q .non H',rt:=Q} J H1:=by
 refine hw _ J H1 R1 M ds M1 _ S e1 λσ H2 R2 S2 st2 ok=>?_;refine⟨λc m ys H3=>m=ds.length-c/\c<=ds.length/\∃(R3:Hp) (as:List Addr),ys=as.map V.ref/\as.length=c/\as.Nodup/\(∀a∈as,H a=none)/\(∀a∈as,H3 a=some (.lst []))/\(∀a∈as,R3 a=none)/\Same R2 R3/\StR K ⟨H,R,λ_=>False,[]⟩ [] J H3 R3 M1,
  ⟨ds.length,by simp,Nat.zero_le _,R2,[],rfl,rfl,List.nodup_nil,λ_ h=>(nomatch h),λ_ h=>(nomatch h),λ_ h=>(nomatch h),Same.refl _,S2⟩,?_⟩
 rintro c m ys H3 ⟨rfl,hc,R3,as,rfl,la,nd,a1,a2,a3,s3,S3⟩;let⟨o1,o2⟩:=ok H3 R3 s3 S3.sub c;by_cases hlt:c<ds.length
 .let⟨g1,g2⟩:=o2 ds[c] (ji hlt);refine .inr ⟨g1,by rw[jb];omega,λys' H'=>∃(R3:Hp) (as:List Addr),ys'=as.map V.ref/\as.length=c+1/\as.Nodup/\(∀a∈as,H a=none)/\(∀a∈as,H' a=some (.lst []))/\(∀a∈as,R3 a=none)/\Same R2 R3/\StR K ⟨H,R,λ_=>False,[]⟩ [] J H' R3 M1,?_,λx H4 y=>?_⟩
  .rintro ys' H' ⟨R4,as4,q⟩;exact⟨ds.length-(c+1),by omega,rfl,hlt,R4,as4,q⟩
  .let⟨R4,x4,r4⟩:=g2 x H4 y;have S4:=S3.ext x4;dsimp only[gh,ip];rw[if_pos rfl];refine⟨by show 0<=sizeLine;exact Nat.zero_le _,λp hp=>?_⟩;have b2:∀a∈as,H4 a=some (.lst []):=λa ha=>x4.h a _ (a2 a ha);have np:p∉as:=λq=>by have:=b2 p q;rw[hp]at this;cases this
   have b3:∀a∈as,R4 a=none:=λa ha=>by
    cases q:R4 a with
    |none=>rfl
    | some o=>
     rcases x4.n a (by rw[q];exact λz=>nomatch z)with z|z
     .exact absurd (a3 a ha) z
     .rcases z with z|⟨xs,z⟩<;>(rw[a2 a ha]at z;cases z)
   refine⟨R4,as++[p],by rw[xk];rfl,by rw[jr,la];rfl,List.nodup_append.mpr ⟨nd,by simp,λu hu v hv q=>np (by rw[List.mem_singleton.mp hv]at q;exact q▸hu)⟩,λa ha=>?_,λa ha=>?_,λa ha=>?_,s3.trans x4.r,S4.ext (Ext.hid S4.sub hp)⟩
   .rcases List.mem_append.mp ha with ha|ha
    .exact a1 a ha
    .rw[List.mem_singleton.mp ha];exact S4.new0 hp
   .rcases List.mem_append.mp ha with ha|ha
    .rw[aU λq=>np (by rw[<-q];exact ha)];exact b2 a ha
    .rw[List.mem_singleton.mp ha];exact cr
   .rcases List.mem_append.mp ha with ha|ha
    .exact b3 a ha
    .rw[List.mem_singleton.mp ha];exact S4.out hp
 .have ec:c=ds.length:=by omega
  subst ec;refine .inl ⟨o1 rfl,by rw[jb,la];exact hz,λp hp=>?_⟩;have np:p∉as:=λq=>by have:=a2 p q;rw[hp]at this;cases this
  have x:=Ext.hid (o:=.lst (as.map V.ref)) S3.sub hp;have S4:=S3.ext x;have T:StD K ⟨H,R,λ_=>False,[]⟩ [] i (J.set i (some (.ref p))) (aN H3 p (.lst (as.map V.ref))) R3 (M1.set i none) p as (List.replicate ds.length []):=by
   refine⟨S4.blind (by simp),by simp,List.getElem?_set_self hl,List.getElem?_set_self (by rw[S3.len];exact hl),⟨cr,S3.out hp,?_,List.nodup_cons.mpr ⟨np,nd⟩⟩,λa ha=>?_,λa ha j hj=>(nomatch hj)⟩
   .rw[<-la];exact Inn.empty (λa ha=>by rw[aU λq=>np (by rw[<-q];exact ha)];exact a2 a ha) a3
   .rcases List.mem_cons.mp ha with ha|ha
    .rw[ha];exact S3.new0 hp
    .exact a1 a ha
  refine hm _ _ _ _ R3 _ p as _ M' dss T e λJ' H' R' as' S' s'=>?_;exact⟨.ref p,S'.at',k p as' H' R' ⟨λa o q=>S'.st.ah a o q (λz=>z),S'.st.ar,S'.st.sub,S'.st.an⟩ S'.z0 S'.dp⟩
noncomputable def mR(n N i:Nat)(fi:aS)(f:Fd)(ds:List D):Option (List (List D)):=if ds.length=n then match fi (ds.map some++List.replicate (N-n) none)with
 | some (xs,M1)=>if i<M1.length/\xs.length<=sizeLine then(match f (M1.set i none) (List.replicate xs.length [])with
  |some p=>some p.2
  |none=>none)else none
 |none=>none
 else none
def qpe{n N i:Nat}{fi:aS}{f:Fd}:bV n (λds=>oP (mR n N i fi f ds)):=λds d e=>by
 have e:oP (mR n N i fi f ds)=some d:=e;unfold mR at e;split at e
 .assumption
 .cases e
def qg4{K:am}{n i m:Nat}{js:Zg}{Nms:Zj}{wi:TI}{fi:aS}{t:TS}{f:Fd}{vs:List V}{H:Hp}{Q:VK}{E:XK}(hw:MI K [] wi fi)(hm:rG K [] i t f)(h:wG K n (mR n Nms.length i fi f) vs H Q E):ED i m js wi t {nx:=λ_ H'=>Q .non H',rt:=Q} (aO Nms vs) H:=by
 obtain⟨hn,R,ds,dss,sub,r,e,k⟩:=h;unfold mR at e;split at e
 .rename_i hl;split at e
  .rename_i xs M1 e1;split at e
   .rename_i hz;split at e
    .rename_i p e2;cases e;exact qf7 hw hm (qm6 hn hl sub r) e1 hz.1 hz.2 e2 k
    .cases e
   .cases e
  .cases e
 .cases e
def qi5:typeLookup (.type "list_reverseiterator") (Str.ofString "__len__")=pure none:=by kernel_rfl
def qlz:typeLookup (.type "list_reverseiterator") (Str.ofString "__length_hint__")=pure (some (.builtin "list_reverseiterator.__length_hint__")):=by kernel_rfl
noncomputable def vM(K:am)(a:Addr)(n:Nat):It:=
 ⟨λi H=>∃xs,SqL K H a xs/\xs.length=n/\i<n,λi H x H'=>H'=H/\∀xs,SqL K H a xs->xs[n-1-i]? =some x,λi H=>i=n⟩
def qke{P:Program}{w:World}{K:am}{tg:Expr}(a it:Addr)(n:Nat):Turn P w K tg (vM K a n) [it] it (λi h=>i<=n/\h.IsRevIter it a ((n:Int)-1-i)) where
 mem:=by simp
 obj:=λi h st b hb=>by
  have e:b=it:=by simpa using hb
  subst e;obtain⟨_,o,e,c,d⟩:=st;exact⟨o,e,λv z=>by rw[d]at z;cases z⟩
 keep:=λi h h' st k=>⟨st.1,by obtain⟨o,e,c⟩:=st.2;exact⟨o,k it (by simp) o e,c⟩⟩
 item:=by
  intro X hP hw hK hc i z5 s J H E I hf st hg;subst hP hw hK;obtain⟨xs,hq,hl,hi⟩:=hg;let⟨its,rv,p,hz⟩:=I.list hq;have hx:xs[n-1-i]? =some (xs[n-1-i]'(by omega)):=ji (by omega);let⟨u,hu,ru⟩:=rv.get hx;let⟨f0,f1,f2,f3,f4,f5⟩:=hf it (by simp);have st2:=st.2;have en:((n:Int)-1-i)=((n-1-i:Nat):Int):=by omega
  rw[en]at st2;refine wpAny_pyNext_rev_item st2 p.isList (x:=u) (by simpa using hu) λh' st' sb=>?_;have I1:Inv X z5 J H {s with heap:=h'}:=I.turned (t':=s.toks) (λb o hb e=>(sb.2 b hb).trans e) f0 f1 f3 f4 f5;have st3:h'.IsRevIter it a ((n:Int)-1-(i+1:Nat)):=by
   have e2:((n:Int)-1-(i+1:Nat))=((n-1-i:Nat):Int)-1:=by omega
   rw[e2];exact st'
  let⟨o,e,c,d⟩:=id st';exact⟨u,rfl,p6 (s:={s with heap:=h'}) e c d (by decide) ⟨_,H,I1,ru,⟨rfl,λys hy=>by rw[I.list_inj hy hq];exact hx⟩,⟨by omega,st3⟩,λb hb=>(hf b hb).1⟩⟩
 done:=by
  intro X hP hw hK hc i z5 s J H E I hf st hg;subst hP hw hK;have hi:i=n:=hg;let⟨f0,f1,f2,f3,f4,f5⟩:=hf it (by simp);have st2:=st.2;have en:((n:Int)-1-i)= -1:=by omega
  rw[en]at st2;exact wpAny_pyNext_rev_end (I.ok.hd hc) st2 λh' eb=>⟨rfl,I.turned (t':=s.toks) (λb o hb e=>eb b o hb e) f0 f1 f3 f4 f5⟩
 self:=λ_ _ _ _ _ st h=>wpAny_pyIter_revIter st.2 h
section
variable{X:Cx}{K:am}{a tg:Expr}{ta:TE}{p pos:Pos}
def sC(K:am)(ta:TE):TI:=λJ H R=>ta J H λv H1=>∃p1 xs,[v]=[V.ref p1]/\SqL K H1 p1 xs/\R (vM K p1 xs.length) H1
def qu6(hK:X.K=K)(hg:Gl X "reversed")(hm:X.mg "reversed"=none)(ha:PE X a ta)(he:starEach [a] X.env=(false,eval a X.env)::starEach [] X.env:=by rfl)(hpl:(backTo pos (starEach [] X.env)).any (·.1)=false:=by rfl):
 PI X tg (.Call (.Name "reversed" p) [a] [] pos) (sC K ta):=by
 subst hK;intro z5 s J H R I h;refine xu (ia I hg hm (u:=.type "reversed") (by rfl) ?_);refine PyProof.Rows.callWith_type1 (aW ((aj ha aw he) pos z5 s J H (λvs H1=>∃p1 xs,vs=[V.ref p1]/\SqL X.K H1 p1 xs/\R (vM X.K p1 xs.length) H1) I h) λus s1 h1=>?_) he hpl;obtain⟨vs,H1,I1,r1,p1,xs,rfl,q1,k⟩:=h1;obtain⟨u,rfl,ru⟩:=b9 r1;cases(show u=Value.ref p1 from ru);let⟨its,rv,pl,hz⟩:=I1.list q1;have ln:its.length=xs.length:=by have:=rv.length;omega
 refine call_reversed_list pl.isList (wpAny_pyIter_revIter ⟨_,ju _ rfl,rfl,rfl⟩ ?_);refine⟨s1.heap.objs.size,[s1.heap.objs.size],_,_,H1,rfl,I1.kept (t':=s1.toks) λb o e=>je _ e,qke p1 _ xs.length,⟨Nat.zero_le _,_,ju _ rfl,rfl,?_⟩,λb hb=>?_,k⟩
 .show Data.fields #[Value.ref p1,rawInt ((its.toArray.size:Int)-1)]=_;rw[x5,ln];simp
 .have e:b=s1.heap.objs.size:=by simpa using hb
  subst e;exact I1.fpOk (jg _) (I1.hok.fresh (jg _))
end
def qf5{prog:Program}{w:World}{A:Around}{s:Shared}{R:Zb}{I l S:Addr}{items:Zd}{c₀:Nat}{res:Value}(hh:A.in1.handled=none)(hn:items.size<=sizeLine)(gI:s.heap.IsRevIter I l ((items.size:Int)-1))(gl:s.heap.IsList l items)(lI:l≠I)(SI:S≠I)(Sl:S≠l)
 (hS:s.heap.get? S=some {cls:=.type "list",data:=.seq #[] c₀})
 (hR:∀s' acc c',Moved [S,I] (λa b=>b=a) s s'->s'.heap.get? S=some {cls:=.type "list",data:=.seq acc c'}->ItemsOf (λi v=>items[items.size-1-i]? =some v) acc items.size->R (.ok (.ret res)) s'):
 wpAny (model prog w) A.in1 (Builtin.List.listExtendWith (.ref S) (.ref I) res) (λfin s'=>match fin with
  |.done f=>R (.ok f) s'
  |.again c'=>c'.quiet=true/\codeAny (model prog w) A c' R s') (λe s'=>R (.error e) s') s:=by
 have ty:s.TypeIs (.ref I) "list_reverseiterator":=by obtain⟨o,e,c,_⟩:=gI;exact⟨o,e,c⟩
 have W:=(Walks.listRev (prog:=prog) (w:=w) hh I l lI items).toS;unfold Builtin.List.listExtendWith;refine ja (wpAny_typeOf ty ?_);have h1:Builtin.List.listSameRef (.ref S) (.ref I)=false:=by unfold Builtin.List.listSameRef;simp[SI]
 have h2:(Value.type "list_reverseiterator"==Value.type "list")=false:=by decide
 have h3:(Value.type "list_reverseiterator"==Value.type "tuple")=false:=by decide
 simp only[h1,h2,h3,Bool.or_false,Bool.false_eq_true,if_false];refine ja (wpAny_pyIter_revIter gI ?_);refine ja (xr ?_);unfold Builtin.List.listLengthHint;refine ja (wpAny_specialOf ty qi5 ?_);show wpAny _ _ (specialOf (.ref I) (Str.ofString "__length_hint__") >>= _) _ _ s;refine ja (wpAny_specialOf ty qlz ?_);show wpAny _ _ (isInstance (.ref I) (.type "list_reverseiterator") >>= _) _ _ s;refine ja (wpAny_isInstance ty (b:=true) (by kernel_rfl) ?_);show wpAny _ _ (pure false) _ _ s;refine jc ?_;show wpAny _ _ (again (.builtin "list.extend.loop" ⟨[.ref S,.ref I,res],[]⟩)) _ _ s;refine jc ⟨vk F.plain_extend_loop _,?_⟩;refine codeAny_extend_loopS W hn S (by simp;exact⟨SI,Sl⟩) res items.size 0 s #[] c₀ rfl (Nat.zero_le _) ⟨Nat.zero_le _,by simpa using gI,gl⟩ hS (.nil _) λs' acc c' m e i=>hR s' acc c' ?_ e i;exact m
def qly{prog:Program}{w:World}{A:Around}{s:Shared}{R:Zb}{I l S:Addr}{items:Zd}(hh:A.in1.handled=none)(hn:items.size<=sizeLine)(gI:s.heap.IsRevIter I l ((items.size:Int)-1))(gl:s.heap.IsList l items)(lI:l≠I)(SI:S≠I)(Sl:S≠l)
 (hS:s.heap.get? S=some {cls:=.type "list",data:=.seq #[]})
 (hR:∀s' acc c',Moved [S,I] (λa b=>b=a) s s'->s'.heap.get? S=some {cls:=.type "list",data:=.seq acc c'}->ItemsOf (λi v=>items[items.size-1-i]? =some v) acc items.size->R (.ok (.ret .none)) s'):
 wpAny (model prog w) A.in1 (Builtin.«list.__init__» ⟨[.ref S,.ref I],[]⟩) (λfin s'=>match fin with
  |.done f=>R (.ok f) s'
  |.again c'=>c'.quiet=true/\codeAny (model prog w) A c' R s') (λe s'=>R (.error e) s') s:=by
 show wpAny _ _ (Builtin.List.listItems (.ref S) >>= _) _ _ s;refine ja ?_;unfold Builtin.List.listItems;refine ja (k9 hS rfl (jc ?_));show wpAny _ _ (Builtin.List.listUpdate (.ref S) _ >>= _) _ _ s;unfold Builtin.List.listUpdate;refine ja (wpAny_updateSeq hS rfl ?_ (by simp) (by simp));have hS2:=vc (Obj.mapSeq λ_=>#[]) hS rfl;have oth:∀b o,b≠S->s.heap.get? b=some o->(s.heap.update S (Obj.mapSeq λ_=>#[])).get? b=some o:=λb o hb e=>(kg s.heap (Obj.mapSeq λ_=>#[]) (Ne.symm hb)).trans e;refine ja (wpAny_letGo ?_);refine qf5 (s:={s with heap:=s.heap.update S (Obj.mapSeq λ_=>#[])}) hh hn ?_ ?_ lI SI Sl hS2 λs' acc c' m e i=>hR s' acc c' ?_ e i
 .obtain⟨o,e,c⟩:=gI;exact⟨o,oth I o (Ne.symm SI) e,c⟩
 .obtain⟨o,e,c⟩:=gl;exact⟨o,oth l o (Ne.symm Sl) e,c⟩
 .exact⟨λb o nb e=>m.heap b o nb (oth b o (λq=>nb (by rw[q];simp)) e),m.gens,m.drawn,m.os,m.toks⟩
def q9n{prog:Program}{w:World}{A:Around}{E:Z0}{s:Shared}{Q:Z0}{I l:Addr}{items:Zd}(hh:A.in1.in1.handled=none)(hn:items.size<=sizeLine)(gI:s.heap.IsRevIter I l ((items.size:Int)-1))(gl:s.heap.IsList l items)(lI:l≠I)
 (hQ:∀s' acc c',(∀b o,b≠I->s.heap.get? b=some o->s'.heap.get? b=some o)->s'.gens=s.gens->s'.drawn=s.drawn->s'.os=s.os->s'.heap.get? s.heap.objs.size=some {cls:=.type "list",data:=.seq acc c'}->ItemsOf (λi v=>items[items.size-1-i]? =some v) acc items.size->Q (.ref s.heap.objs.size) s'):
 wpAny (model prog w) A (call (.type "list") [.ref I]) Q E s:=by
 have ltI:I<s.heap.objs.size:=by obtain⟨o,e,_⟩:=gI;exact jd e
 have ltl:l<s.heap.objs.size:=by obtain⟨o,e,_⟩:=gl;exact jd e
 refine callType_codes F.called_list (F.typeCall_list_1 _) F.entry_list_init (Q₁:=λv s1=>v=.ref s.heap.objs.size/\s1={s with heap:=s.heap.push {cls:=.type "list",data:=.seq #[]}}) (code_list_new _ ⟨rfl,rfl⟩) λobj s1 h1=>?_;obtain⟨rfl,rfl⟩:=h1;have hS:=ju s.heap (o:={cls:=.type "list",data:=.seq #[]}) rfl;refine⟨⟨_,hS,rfl⟩,F.args_list_init_2 _ _,?_⟩;refine qly (l:=l) (items:=items) hh hn ?_ ?_ lI (Nat.ne_of_gt ltI) (Nat.ne_of_gt ltl) hS λs' acc c' m e i=>⟨rfl,hQ s' acc c' (λb o nb eb=>?_) m.gens m.drawn m.os e i⟩
 .obtain⟨o,e,c⟩:=gI;exact⟨o,je _ e,c⟩
 .obtain⟨o,e,c⟩:=gl;exact⟨o,je _ e,c⟩
 .refine m.heap b o (λq=>?_) (je _ eb);rcases List.mem_cons.mp q with q|q
  .have:=jd eb;rw[q]at this;exact xn _ this
  .exact nb (List.mem_singleton.mp q)
section
variable{X:Cx}{K:am}{O:Zg}{a:Expr}{ta:TE}{p p2 pos zo:Pos}{fa:aJ}
def Dw(K:am)(ta:TE):TE:=λJ H Q=>ta J H λv H1=>∃p xs,[v]=[V.ref p]/\SqL K H1 p xs/\∀q,H1 q=none->Q (.ref q) (aN H1 q (.lst xs.reverse))
def qpp(hK:X.K=K)(hc:X.calm=true)(hg:Gl X "list")(hm:X.mg "list"=none)(hg2:Gl X "reversed")(hm2:X.mg "reversed"=none)(ha:PE X a ta)(he2:starEach [a] X.env=(false,eval a X.env)::starEach [] X.env:=by rfl)(hpl2:(backTo pos (starEach [] X.env)).any (·.1)=false:=by rfl)
 (he:starEach [.Call (.Name "reversed" p) [a] [] pos] X.env=(false,eval (.Call (.Name "reversed" p) [a] [] pos) X.env)::starEach [] X.env:=by rfl) (hpl:(backTo zo (starEach [] X.env)).any (·.1)=false:=by rfl):
 PE X (.Call (.Name "list" p2) [.Call (.Name "reversed" p) [a] [] pos] [] zo) (Dw K ta):=by
 subst hK;intro z5 s J H Q I h;refine xu (ia I hg hm (u:=.type "list") (by rfl) ?_);refine PyProof.Rows.callWith_type1 ?_ he hpl;rw[he];show wpAny _ _ (spliced ((false,eval (.Call (.Name "reversed" p) [a] [] pos) X.env)::backTo zo (starEach [] X.env))) _ _ s;refine vw ?_;refine xu (ia I hg2 hm2 (u:=.type "reversed") (by rfl) ?_);refine PyProof.Rows.callWith_type1 (aW ((aj ha aw he2) pos z5 s J H (λvs H1=>∃p1 xs,vs=[V.ref p1]/\SqL X.K H1 p1 xs/\∀q,H1 q=none->Q (.ref q) (aN H1 q (.lst xs.reverse))) I h) λus s1 h1=>?_) he2 hpl2;obtain⟨vs,H1,I1,r1,p1,xs,rfl,q1,k⟩:=h1;obtain⟨u,rfl,ru⟩:=b9 r1;cases(show u=Value.ref p1 from ru);let⟨its,rv,pl,hz⟩:=I1.list q1;have ln:its.length=xs.length:=by have:=rv.length;omega
 have lp:p1<s1.heap.objs.size:=by obtain⟨o,e,_⟩:=pl.isList;exact jd e
 refine call_reversed_list pl.isList (Calls.spliced_nil ?_);have gl:(s1.heap.push (revObj p1 ((its.toArray.size:Int)-1))).IsList p1 its.toArray:=by obtain⟨o,e,c⟩:=pl.isList;exact⟨o,je _ e,c⟩
 refine q9n (l:=p1) (items:=its.toArray) (I1.ok.hd hc) (by rw[x5];omega) ⟨_,ju _ rfl,rfl,rfl⟩ gl (jo lp) λs2 acc c' kp eg ed eo e i=>?_;have es:s2={s1 with heap:=s2.heap,toks:=s2.toks}:=by obtain⟨h2,g2,d2,t2,o2⟩:=s2;cases eg;cases ed;cases eo;rfl
 have hf:H1 (s1.heap.push (revObj p1 ((its.toArray.size:Int)-1))).objs.size=none:=I1.hok.fresh (by rw[xx];exact Nat.le_succ _);have ea:acc.toList=its.reverse:=by
  apply List.ext_getElem?;intro j;by_cases hj:j<its.length
  .have hj2:j<acc.size:=by rw[i.1,x5];exact hj
   have v2:=i.2 j acc[j] (Array.getElem?_eq_getElem hj2);rw[List.getElem?_reverse hj];have v2':its[its.length-1-j]? =some acc[j]:=by simpa using v2
   rw[v2'];simp
  .rw[xh (by simp;have:=i.1;simp at this;omega),xh (by simp;omega)]
 refine⟨.ref _,_,?_,rfl,k _ hf⟩;rw[es];refine I1.laid (t':=s2.toks) (λb o eb=>kp b o (jo (jd eb)) (je _ eb)) (by rw[xx];exact Nat.le_succ _) ?_;refine⟨by rw[List.length_reverse];exact hz,its.reverse,c',rv.reverse,?_⟩;rw[e,<-ea]
def qwo{R:Hp}{b:Addr}{xs:List V}{ds:List D}(h:SqL K R b xs)(r:Rps K R xs ds):ItOk K (vM K b xs.length) R ds.reverse:=λH' R' s sb i=>by
 have q:SqL K H' b xs:=Same.sqL sb (Same.sqL s h);have ln:=r.length;refine⟨λe=>by show i=xs.length;rw[e,List.length_reverse];exact ln.symm,λd e=>?_⟩;have hi:i<ds.length:=by
  have:=(List.getElem?_eq_some_iff.mp e).1
  rwa [List.length_reverse]at this
 rw[List.getElem?_reverse hi]at e;let⟨v,h1,h2⟩:=r.get e;refine⟨⟨xs,q,rfl,by omega⟩,λx H'' y=>?_⟩;obtain⟨rfl,y⟩:=y;have ex:=y xs q;rw[ln,h1]at ex;cases ex;exact⟨R',Ext.refl sb,h2.mono s⟩
noncomputable def ix:D->Option (List D)
 |.lst xs=>some xs.reverse
 |_=>none
def f6(f:aJ):aS:=bO f λd=>da (ix d)
def qw1(h:ME K O ta fa):MI K O (sC K ta) (f6 fa):=λZ J H R M ds M' Q S e k=>by
 let⟨x,M1,e1,e⟩:=bD e;obtain⟨e3,rfl⟩:=cQ e;refine h Z J H R M x _ _ S e1 λv H1 R1 S1 st1 r1=>?_;unfold ix at e3;split at e3
 .cases e3;obtain⟨b,xs,rfl,q,r⟩:=r1.isL;exact⟨b,xs,rfl,Same.sqL S1.sub q,k _ H1 R1 S1 st1 (qwo q r)⟩
 .cases e3
def qx1{M:av}:f6 fa M=(fa M).bind λp=>(ix p.1).map λx=>(x,p.2):=by
 unfold f6 bO da;cases fa M with
 |none=>rfl
 |some p=>cases h:ix p.1<;>simp[h]
theorem Rps.rev{R:Hp}:∀{xs:List V} {ds:List D},Rps K R xs ds->Rps K R xs.reverse ds.reverse
 |_,_,.nil=>.nil
 | _,_,.cons h r=>by rw[List.reverse_cons,List.reverse_cons];exact(Rps.rev r).snoc h
end
structure Kp(I S:Addr)(s0 s:Shared):Prop where
 heap:∀b o,b≠I->b≠S->s0.heap.get? b=some o->s.heap.get? b=some o
 gens:s.gens=s0.gens
 drawn:s.drawn=s0.drawn
 os:s.os=s0.os
structure Kq(s s':Shared):Prop where
 heap:∀b o,s.heap.get? b=some o->s'.heap.get? b=some o
 gens:s'.gens=s.gens
 drawn:s'.drawn=s.drawn
 os:s'.os=s.os
def Kp.on{I S:Addr}{s0 s s':Shared}(x:Kp I S s0 s)(heap:∀b o,b≠I->b≠S->s.heap.get? b=some o->s'.heap.get? b=some o)(g:s'.gens=s.gens)(d:s'.drawn=s.drawn)(o:s'.os=s.os):Kp I S s0 s':=
 ⟨λb u h1 h2 e=>heap b u h1 h2 (x.heap b u h1 h2 e),g.trans x.gens,d.trans x.drawn,o.trans x.os⟩
def jA(prog:Program)(w:World)(A:Around)(I S:Addr)(s0:Shared)(its:Zd)(bt:Nat->Nat->Bool):Prop:=
 ∀(i j:Nat) (vi vj:Value) (s:Shared) (Q:Z0) (E:Z0),its[i]? =some vi->its[j]? =some vj->Kp I S s0 s->(∀s',Kq s s'->Q (.bool (bt i j)) s')->wpAny (model prog w) A (richCompare .Lt vi vj) Q E s
section
variable{prog:Program}{w:World}{A:Around}{R:Zb}{I S l:Addr}{its:Zd}{s0:Shared}{bt:Nat->Nat->Bool}{kw:List (Str×Value)}
abbrev StL(I l:Addr)(its:Zd)(i:Nat)(h:Heap):Prop:=h.IsListIter I l i/\h.IsList l its
def StL.keep{i:Nat}{h h':Heap}(st:StL I l its i h)(k:∀b o,b=I∨b=l->h.get? b=some o->h'.get? b=some o):StL I l its i h':=by obtain⟨⟨o,e,c⟩,⟨o2,e2,c2⟩⟩:=st;exact⟨⟨o,k I o (.inl rfl) e,c⟩,⟨o2,k l o2 (.inr rfl) e2,c2⟩⟩
def qic(hh:A.in1.handled=none)(lI:l≠I)(SI:S≠I)(Sl:S≠l)(zu:jA prog w A.in1 I S s0 its bt)(hR:∀v s',its[argBest bt (its.size-1)]? =some v->Kp I S s0 s'->R (.ok (.ret v)) s'):
 ∀(k j:Nat) (s:Shared) (vb:Value) (c:Nat),its.size-(j+1)=k->j+1<=its.size->StL I l its (j+1) s.heap->its[argBest bt j]? =some vb->s.heap.get? S=some {cls:=.type "list",data:=.seq #[vb,vb] c}->Kp I S s0 s->
   codeAny (model prog w) A (.builtin "min.loop" ⟨[.ref I,.none,.ref S],kw⟩) R s:=by
 intro k;induction k with
 | zero=>
  intro j s vb c hk hj st hb hS K;have en:j+1=its.size:=by omega
  refine codeAny_builtin F.entry_min_loop ?_;rw[vx vm];show wpAny _ _ (seqItems? (.ref S) >>= _) _ _ s;refine ja (k9 hS rfl ?_);refine ja (wpAny_tryCatch ?_);refine wpAny_pyNext_list_end hh st.1 st.2 (Array.getElem?_eq_none (by omega)) λh' eb=>?_;have hS2:h'.get? S=some {cls:=.type "list",data:=.seq #[vb,vb] c}:=eb S _ SI hS;show wpAny _ _ (updateSeq S (λ_=>#[]) >>= _) _ _ {s with heap:=h'};refine ja (wpAny_updateSeq (s:={s with heap:=h'}) hS2 rfl ?_ (by simp[sizeLine_eq]) (by simp[sizeLine_eq]));refine ja (wpAny_letGo ?_);refine jc ?_;have ej:its.size-1=j:=by omega
  refine hR vb _ (by rw[ej];exact hb) (K.on (λb o h1 h2 e=>?_) rfl rfl rfl);exact(kg h' _ (Ne.symm h2)).trans (eb b o h1 e)
 | succ k ih=>
  intro j s vb c hk hj st hb hS K;have lt:j+1<its.size:=by omega
  refine codeAny_builtin F.entry_min_loop ?_;rw[vx vm];show wpAny _ _ (seqItems? (.ref S) >>= _) _ _ s;refine ja (k9 hS rfl ?_);refine ja (wpAny_tryCatch ?_);have hx:its[j+1]? =some its[j+1]:=Array.getElem?_eq_getElem lt;refine wpAny_pyNext_list_item st.1 st.2 (x:=its[j+1]) hx λh' st' sb=>?_;have kI:∀b o,b≠I->s.heap.get? b=some o->h'.get? b=some o:=λb o hb e=>(sb.2 b hb).trans e;have hS2:h'.get? S=some {cls:=.type "list",data:=.seq #[vb,vb] c}:=kI S _ SI hS;have L2:h'.IsList l its:=by obtain⟨o,e,q⟩:=st.2;exact⟨o,kI l o lI e,q⟩
  have K2:Kp I S s0 {s with heap:=h'}:=K.on (λb o h1 _ e=>kI b o h1 e) rfl rfl rfl;show wpAny _ _ (pure its[j+1] >>= _) _ _ {s with heap:=h'};refine ja (jc ?_);show wpAny _ _ (Sem.tryCatch _ _ >>= _) _ _ {s with heap:=h'};refine ja (wpAny_tryCatch (xr ?_));refine ja (zu (j+1) (argBest bt j) _ vb _ _ _ hx hb K2 λs3 q3=>?_);refine ja (xr (kl ?_));refine ja (wpAny_letGo ?_);refine jc ?_;have hS3:=q3.heap S _ hS2;have st3:StL I l its (j+1+1) s3.heap:=StL.keep ⟨st',L2⟩ λb o _ e=>q3.heap b o e;have K3:Kp I S s0 s3:=K2.on (λb o _ _ e=>q3.heap b o e) q3.gens q3.drawn q3.os;have eb:argBest bt (j+1)=if bt (j+1) (argBest bt j)=true then j+1 else argBest bt j:=by rw[argBest]
  cases q:bt (j+1) (argBest bt j)with
  | true=>
   rw[q,if_pos rfl]at eb;show wpAny _ _ (updateSeq S _ >>= _) _ _ s3;refine ja (wpAny_updateSeq hS3 rfl ?_ (by simp[sizeLine_eq]) (by simp[sizeLine_eq]));refine ja (wpAny_letGo ?_);refine jc ⟨vk vm _,?_⟩;have hS4:=vc (Obj.mapSeq λ_=>#[its[j+1],its[j+1]]) hS3 rfl;refine ih (j+1) _ its[j+1] _ (by omega) lt (st3.keep λb o hb e=>?_) (by rw[eb];exact hx) hS4 (K3.on (λb o h1 h2 e=>(kg s3.heap _ (Ne.symm h2)).trans e) rfl rfl rfl);refine(kg s3.heap _ ?_).trans e;rcases hb with rfl|rfl
   .exact SI
   .exact Sl
  | false=>
   rw[q,if_neg (by decide)]at eb;show wpAny _ _ (letGo _ >>= _) _ _ s3;refine ja (wpAny_letGo ?_);refine jc ⟨vk vm _,?_⟩;exact ih (j+1) s3 vb c (by omega) lt st3 (by rw[eb];exact hb) hS3 K3
def qet(hh:A.in1.handled=none)(lI:l≠I)(SI:S≠I)(Sl:S≠l)(zu:jA prog w A.in1 I S s0 its bt)(hR:∀v s',its[argBest bt (its.size-1)]? =some v->Kp I S s0 s'->R (.ok (.ret v)) s')
 (hD:its.size=0->∃x d r,kw=(x,d)::r/\∀s',Kp I S s0 s'->R (.ok (.ret d)) s')
 {s:Shared} {c:Nat} (st:StL I l its 0 s.heap) (hS:s.heap.get? S=some {cls:=.type "list",data:=.seq #[] c}) (K:Kp I S s0 s):codeAny (model prog w) A (.builtin "min.loop" ⟨[.ref I,.none,.ref S],kw⟩) R s:=by
 refine codeAny_builtin F.entry_min_loop ?_;rw[vx vm];show wpAny _ _ (seqItems? (.ref S) >>= _) _ _ s;refine ja (k9 hS rfl ?_);refine ja (wpAny_tryCatch ?_);by_cases h0:its.size=0
 .obtain⟨x,d,r,rfl,hE⟩:=hD h0;refine wpAny_pyNext_list_end hh st.1 st.2 (Array.getElem?_eq_none (by omega)) λh' eb=>?_;show wpAny _ _ (rule _ >>= _) _ _ {s with heap:=h'};refine ja (wpAny_rule ?_);refine jc ?_;exact hE _ (K.on (λb o h1 h2 e=>eb b o h1 e) rfl rfl rfl)
 .have lt:0<its.size:=by omega
  have hx:its[0]? =some its[0]:=Array.getElem?_eq_getElem lt;refine wpAny_pyNext_list_item st.1 st.2 (x:=its[0]) hx λh' st' sb=>?_;have kI:∀b o,b≠I->s.heap.get? b=some o->h'.get? b=some o:=λb o hb e=>(sb.2 b hb).trans e;have hS2:h'.get? S=some {cls:=.type "list",data:=.seq #[] c}:=kI S _ SI hS;have L2:h'.IsList l its:=by obtain⟨o,e,q⟩:=st.2;exact⟨o,kI l o lI e,q⟩
  show wpAny _ _ (pure its[0] >>= _) _ _ {s with heap:=h'};refine ja (jc ?_);show wpAny _ _ (updateSeq S _ >>= _) _ _ {s with heap:=h'};refine ja (wpAny_updateSeq (s:={s with heap:=h'}) hS2 rfl ?_ (by simp[sizeLine_eq]) (by simp[sizeLine_eq]));refine jc ⟨vk vm _,?_⟩;have hS4:=vc (Obj.mapSeq λ_=>#[its[0],its[0]]) hS2 rfl;refine qic hh lI SI Sl zu hR (its.size-1) 0 _ its[0] _ rfl lt (StL.keep ⟨st',L2⟩ λb o hb e=>?_) hx hS4 (K.on (λb o h1 h2 e=>(kg h' _ (Ne.symm h2)).trans (kI b o h1 e)) rfl rfl rfl);refine(kg h' _ ?_).trans e;rcases hb with rfl|rfl
  .exact SI
  .exact Sl
end
section
variable{X:Cx}{z5:Z3}{J:St}{H:Hp}{s:Shared}
def qlq{P c:Addr}{params:Arguments}{body:Expr}{scope:Scope}{zw:List (Str×Addr)}{pos:Pos}{Q:Z0}{E:Z0}(I:Inv X z5 J H s)(hH:H P=some (.lam pos (X.env.qual++"<lambda>")))(hdef:defaultsOf params X.env=([],[]))(hcl:closureFor scope X.env=pure zw)(hge0:X.env.globals=mainGlobals)(j3:X.env.code=.ref c)(C:W.CodeHd X.base c P)(hb:X.base.BuiltinsAt X.mg P)
 (k:∀(f c':Addr) (ctv:Value) (H':Hp) (s':Shared),Inv X z5 J H' s'->(∀a o,H a=some o->H' a=some o)->(∀a,H' a≠none->H a≠none∨s.heap.objs.size<=a)->s'.heap.get? f=some (W.kla_obj "<lambda>" (X.env.qual++"<lambda>") params body scope zw ((X.mg "__name__").getD .none) c' ctv)->H' f=none->s.heap.objs.size<=f->s'.heap.CodeRec (.ref c') (X.env.qual++"<lambda>")->H' c'=some (.own P)->(∃ps:Array Value,s'.heap.get? P=some {cls:=.none,data:=.fields ps}/\TriplesOk ps.toList/\codeAmong pos ps.toList=some (.ref c'))->Q (.ref f) s'):
 wpAny (model X.prog X.w) X.A (eval (.Lambda params body scope pos) X.env) Q E s:=by
 let⟨ps,e,t,r⟩:=I.hok P _ hH;have hgs:s.heap.Ns mainGlobals X.mg:=I.mod.glob.keeps I.bk;have hgP:mainGlobals≠P:=λq=>by obtain⟨o,es,ep,e1,hd,_⟩:=I.mod.glob;have:=(I.bs _ _ e1).2;rw[q,hH]at this;cases this
 obtain⟨bm,ob,b1,b2,b3,b4,b5,b6⟩:=hb;have hb':s.heap.BuiltinsAt X.mg P:=⟨bm,ob,b1,b2,b3,b4,I.bk _ _ b5,b6⟩;have nP:∀b,H b=none->b≠P:=λb h q=>by rw[q,hH]at h;cases h
 refine W.kla_eval hdef ?_;rcases r with hnf|⟨c',hf,hc,hcd⟩
 .refine W.kla_makeFunction (mg:=X.mg) hcl hge0 hgs j3 (C.keeps I.bk) e t hnf hgP hb' λc' ctv h' tk hx hge hlt hrec htb=>?_;have hc0:H c'=none:=I.hok.fresh hge;have up:∀b o,b≠P->s.heap.get? b=some o->(h'.push (W.kla_obj "<lambda>" (X.env.qual++"<lambda>") params body scope zw ((X.mg "__name__").getD .none) c' ctv)).get? b=some o:=λb o hb e=>je _ (hx b o hb e);have hne:∀b o,H b=some o->b≠c':=λb o h q=>by rw[q,hc0]at h;cases h
  have hpc:P≠c':=hne P _ hH;have hrec2:=hrec.push (W.kla_obj "<lambda>" (X.env.qual++"<lambda>") params body scope zw ((X.mg "__name__").getD .none) c' ctv);have hok:HOk X.prog X.w (aN H c' (.own P)) (h'.push (W.kla_obj "<lambda>" (X.env.qual++"<lambda>") params body scope zw ((X.mg "__name__").getD .none) c' ctv)):=λb o hb=>by
   by_cases q:b=c'
   .subst q;rw[cr]at hb;cases hb;obtain⟨c2,oc,vs,tq,hc2,hoc,_⟩:=hrec2;cases hc2;exact⟨oc,hoc⟩
   .rw[aU q]at hb;by_cases q2:b=P
    .subst q2;rw[hH]at hb;cases hb;refine⟨ps++#[rawInt pos.line,rawInt pos.col,.ref c'],je _ htb,?_,.inr ⟨c',?_,cr,hrec2⟩⟩
     .rw[Array.toList_append];exact TriplesOk_snoc _ _ _ _ t
     .rw[Array.toList_append];exact codeAmong_snoc _ t hnf
    .refine(I.hok b o hb).stay (λd u hd e1=>up d u ?_ e1) (λd hd=>by rw[aU (hne d _ hd)];exact hd) λd xs hd=>by rw[aU (hne d _ hd)];exact hd
     rcases hd with rfl|hd
     .exact q2
     .exact λz=>by rw[z,hH]at hd;cases hd
  have I2:Inv X z5 J (aN H c' (.own P)) {s with heap:=h'.push (W.kla_obj "<lambda>" (X.env.qual++"<lambda>") params body scope zw ((X.mg "__name__").getD .none) c' ctv),toks:=tk}:=
   I.step (g':=s.gens) (d':=s.drawn) (ch:=[]) (λ_ z=>nomatch z) (λb o _ _ _ e1 n=>up b o (nP b n) e1) (λb o _ _ _ e1 n=>⟨o.slots,up b o (nP b n) e1⟩)
    (λb o _ e1 n=>by rw[aU (jo (jz (jd e1) hge))];exact n)
    (λb o _ e1=>by
      by_cases q:b=P
      .rw[q];exact⟨_,je _ htb⟩
      .exact⟨o,up b o q e1⟩)
    (λb xs h=>by rw[aU (hne b _ h)];exact h) (λb o u h=>by rw[aU (hne b _ h)];exact h) (λb ps h=>⟨#[],by rw[aU (hne b _ h),h];simp⟩)
    (λm hn=>(hn.extBut hx (nP _ I.free)).push _) hok I.bare
  have hfs:s.heap.objs.size<=h'.objs.size:=x6 hge (Nat.le_of_lt hlt);refine k h'.objs.size c' ctv _ _ I2 (λa o h=>by rw[aU (hne a o h)];exact h) (λa h=>?_) (ju _ rfl) ?_ hfs hrec2 cr ⟨ps++#[rawInt pos.line,rawInt pos.col,.ref c'],je _ htb,by rw[Array.toList_append];exact TriplesOk_snoc _ _ _ _ t,by rw[Array.toList_append];exact codeAmong_snoc _ t hnf⟩
  .by_cases q:a=c'
   .rw[q];exact .inr hge
   .rw[aU q]at h;exact .inl h
  .rw[aU (Nat.ne_of_gt hlt)];exact I.hok.fresh hfs
 .refine W.kla_makeFunctionHit (mg:=X.mg) hcl hge0 hgs j3 (C.keeps I.bk) e t hf hb' λctv h' tk hk hsz=>?_;have up:∀b o,s.heap.get? b=some o->(h'.push (W.kla_obj "<lambda>" (X.env.qual++"<lambda>") params body scope zw ((X.mg "__name__").getD .none) c' ctv)).get? b=some o:=λb o e=>je _ (hk b o e);have I2:Inv X z5 J H {s with heap:=h'.push (W.kla_obj "<lambda>" (X.env.qual++"<lambda>") params body scope zw ((X.mg "__name__").getD .none) c' ctv),toks:=tk}:=
   I.step (g':=s.gens) (d':=s.drawn) (ch:=[]) (λ_ z=>nomatch z) (λb o _ _ _ e1 n=>up b o e1) (λb o _ _ _ e1 n=>⟨o.slots,up b o e1⟩) (λb o _ e1 n=>n) (λb o _ e1=>⟨o,up b o e1⟩) (λb xs h=>h) (λb o u h=>h) (λb ps h=>⟨#[],by rw[h];simp⟩)
    (λm hn=>hn.keeps up) (I.hok.kept up) I.bare
  exact k h'.objs.size c' ctv _ _ I2 (λa o h=>h) (λa h=>.inl h) (ju _ rfl) (I.hok.fresh hsz) hsz (hcd.keeps up) hc ⟨ps,up _ _ e,t,hf⟩
end
section
open PySem.SeqAt PySem.MeetsSeq PySem.MeetsSeq2 PySem.MeetsSeq3
def mB{ρ:Model}{A:Around}{E:Z0}{s:Shared}{l:Addr}{items:Zd}{n:Nat}{dd:Zc}{sl:Array (Option Value)}{Q:Array Value->Shared->Prop}(h:s.heap.get? l=some {cls:=.type "list",dict:=dd,data:=.seq items n,slots:=sl})(q:Q items s):wpAny ρ A (Builtin.List.listItems (.ref l)) Q E s:=by unfold Builtin.List.listItems;exact ja (k9 h rfl (jc q))
def pi:∀{vs:Ze} {ns:Zf},IntsAre vs ns->∀{i:Nat} {a:Int},ns[i]? =some a->∃t,vs[i]? =some (.int a t):=by
 intro vs ns h;induction h with
 |nil=>intro i a e;simp at e
 | cons a t _ ih=>
  intro i b e;cases i with
  |zero=>cases e;exact⟨t,rfl⟩
  |succ i=>exact ih e
def qqk(l b:Addr)(items zd:Zd)(n n2:Nat)(dd dd2:Zc)(sl sl2:Array (Option Value))(ns ms:Zf)(hi:IntsAre items.toList ns)(hj:IntsAre zd.toList ms)(hl:ns.length=ms.length):
 ∀(k i:Nat),ns.length-i=k->i<=ns.length->Meets (Builtin.«list.__eq__.loop» ⟨[.ref l,.ref b,rawInt i,rawInt 0],[]⟩)
   (λ_ R s=>s.heap.get? l=some {cls:=.type "list",dict:=dd,data:=.seq items n,slots:=sl}/\s.heap.get? b=some {cls:=.type "list",dict:=dd2,data:=.seq zd n2,slots:=sl2}/\
     R (.ok (.ret (.bool (HT.lexLt (ns.drop i) (ms.drop i))))) s):=by
 have z1:items.size=ns.length:=by rw[<-hi.length];simp
 have z2:zd.size=ms.length:=by rw[<-hj.length];simp
 intro k;induction k with
 | zero=>
  intro i hk hle prog w A R s h;obtain⟨h1,h2,h⟩:=h;have e1:items[i]? =none:=Array.getElem?_eq_none (by omega);rw[List.drop_eq_nil_of_le (as:=ns) (by omega),List.drop_eq_nil_of_le (as:=ms) (by omega)]at h;show wpAny _ _ (Builtin.List.listItems (.ref l) >>= _) _ _ s;refine ja (mB h1 (ja (mB h2 ?_)));simp only[Int.toNat_natCast,e1];refine ja (mB h1 (ja (mB h2 (jc ?_))));have ez:items.size=zd.size:=by omega
  show R (.ok (.ret (.bool (decide (items.size<zd.size))))) s;rw[ez,decide_eq_false (xn _)];exact h
 | succ k ih=>
  intro i hk hle prog w A R s h;obtain⟨h1,h2,h⟩:=h;have lt1:i<ns.length:=by omega
  have lt2:i<ms.length:=by omega
  let⟨t,e1⟩:=pi hi (ji lt1);let⟨u,e2⟩:=pi hj (ji lt2);have e1:items[i]? =some (.int ns[i] t):=by simpa using e1
  have e2:zd[i]? =some (.int ms[i] u):=by simpa using e2
  rw[vh lt1,vh lt2,HT.lexLt_cons]at h;show wpAny _ _ (Builtin.List.listItems (.ref l) >>= _) _ _ s;refine ja (mB h1 (ja (mB h2 ?_)));simp only[Int.toNat_natCast,e1,e2];let⟨e,he,hiff⟩:=HT.eqAt_int A.in1 s ns[i] t ms[i] u;refine ja (he prog w _ _ ?_);cases e with
  | true=>
   rw[if_pos (hiff.mp rfl)]at h;simp only[if_true];refine jc ⟨vk plain_eq_loop _,?_⟩;refine codeAny_builtin entry_eq_loop ?_;rw[vx plain_eq_loop];have ei:rawInt ((i:Int)+1)=rawInt ((i+1:Nat):Int):=by rw[Int.natCast_add];rfl
   rw[ei];exact ih (i+1) (by omega) (by omega) prog w A R s ⟨h1,h2,h⟩
  | false=>
   rw[if_neg (λq=>absurd (hiff.mpr q) Bool.false_ne_true)]at h;simp only[Bool.false_eq_true,if_false];refine ja (mB h1 (ja (mB h2 ?_)));simp only[e1,e2];refine ja (HT.rcLt_int A.in1 s _ t _ u prog w _ _ ?_);exact jc h
def HA(l b:Addr)(items zd:Zd)(n n2:Nat)(dd dd2:Zc)(sl sl2:Array (Option Value))(ns ms:Zf)(hi:IntsAre items.toList ns)(hj:IntsAre zd.toList ms)(hl:ns.length=ms.length):
 Meets (Builtin.«list.__lt__» ⟨[.ref l,.ref b],[]⟩)
  (λ_ R s=>s.heap.get? l=some {cls:=.type "list",dict:=dd,data:=.seq items n,slots:=sl}/\s.heap.get? b=some {cls:=.type "list",dict:=dd2,data:=.seq zd n2,slots:=sl2}/\
    R (.ok (.ret (.bool (HT.lexLt ns ms)))) s):=λprog w A R s h=>by
 obtain⟨h1,h2,h⟩:=h;have ty:s.TypeIs (.ref b) "list":=⟨_,h2,rfl⟩;show wpAny _ _ (isInstance (.ref b) (.type "list") >>= _) _ _ s;refine ja (wpAny_isInstance ty (b:=true) sub_list_self ?_);show wpAny _ _ (again (.builtin "list.__eq__.loop" ⟨[.ref l,.ref b,rawInt 0,rawInt 0],[]⟩)) _ _ s;refine jc ⟨vk plain_eq_loop _,?_⟩;refine codeAny_builtin entry_eq_loop ?_;rw[vx plain_eq_loop];exact qqk l b items zd n n2 dd dd2 sl sl2 ns ms hi hj hl _ 0 rfl (Nat.zero_le _) prog w A R s ⟨h1,h2,h⟩
end
section
variable{prog:Program}{w:World}{A:Around}{E:Z0}{s:Shared}
def GY{l b:Addr}{items zd:Zd}{ns ms:Zf}{Q:Z0}(hl:s.heap.IsList l items)(hb:s.heap.IsList b zd)(hi:IntsAre items.toList ns)(hj:IntsAre zd.toList ms)(hn:ns.length=ms.length)
 (hu:A.units<cLine) (h:Q (.bool (HT.lexLt ns ms)) s):wpAny (model prog w) A (richCompare .Lt (.ref l) (.ref b)) Q E s:=by
 let⟨⟨cls,dd,data,sl⟩,ho,hc,n,hd⟩:=id hl;let⟨⟨cls2,dd2,data2,sl2⟩,ho2,hc2,n2,hd2⟩:=id hb;simp only at hc hd hc2 hd2;subst hc hd hc2 hd2;exact richCompare_meets_room (op:=.Lt) ⟨_,ho,rfl⟩ ⟨_,ho2,rfl⟩ F.slot_list_lt F.entry_list_lt (F.args_list_lt_2 _ _) (HA l b items zd n n2 dd dd2 sl sl2 ns ms hi hj hn)
  ⟨ho,ho2,show Value.bool (HT.lexLt ns ms)≠Value.notImplemented/\Q (.bool (HT.lexLt ns ms)) s from⟨(λx=>nomatch x),h⟩⟩ hu
end
inductive Cmps(A:Around)(s:Shared):List Value->List Value->Bool->Prop
 |nil:Cmps A s [] [] false
 |eq {x y:Value} {vs ws:Ze} {r:Bool}:SeqAt.EqAt A s x y true->Cmps A s vs ws r->Cmps A s (x::vs) (y::ws) r
 |ne {x y:Value} {vs ws:Ze} {r:Bool}:SeqAt.EqAt A s x y false->(∀(prog:Program) (w:World) (E Q:Z0),Q (.bool r) s->wpAny (model prog w) A (richCompare .Lt x y) Q E s)->vs.length=ws.length->Cmps A s (x::vs) (y::ws) r
def Cmps.len{A:Around}{s:Shared}{vs ws:Ze}{r:Bool}(h:Cmps A s vs ws r):vs.length=ws.length:=by
 induction h with
 |nil=>rfl
 |eq _ _ ih=>rw[jw,jw,ih]
 |ne _ _ e=>rw[jw,jw,e]
section
open PySem.SeqAt
open PySem.AutoSeq1 (wpAny_loadPart')
open PySem.MeetsSeq PySem.MeetsSeq2 PySem.MeetsSeq3
def q9x(l b:Addr)(items zd:Zd)(n n2:Nat)(dd dd2:Zc)(sl sl2:Array (Option Value))(r:Bool):
 Meets (Builtin.«tuple.__lt__» ⟨[.ref l,.ref b],[]⟩)
  (λA R s=>s.heap.get? l=some {cls:=.type "tuple",dict:=dd,data:=.seq items n,slots:=sl}/\s.heap.get? b=some {cls:=.type "tuple",dict:=dd2,data:=.seq zd n2,slots:=sl2}/\
    Cmps A.in1 s items.toList zd.toList r/\R (.ok (.ret (.bool r))) s):=
 .of_wp λprog w A R s h=>by
  obtain⟨hp,g,d,tk,os⟩:=s;obtain⟨hl,hb,hC,h⟩:=h;have f2:=AutoSeq1.sub_tuple_tuple;have z:items.size=zd.size:=by have:=hC.len;simpa using this
  wp_walk using vt hl,vt hb,wpAny_forIn_list _ (λrest b s'=>b.1=none/\s'=⟨hp,g,d,tk,os⟩/\∃(vs ws:Ze),rest=vs.zip ws/\
   Cmps A.in1 ⟨hp,g,d,tk,os⟩ vs ws r) _
  case turn=>
   rintro⟨y,x⟩ rest b s' ⟨hb',rfl,vs,ws,hz,hv⟩;cases hv with
   |nil=>cases hz
   | eq he hr=>
    rw[List.zip_cons_cons]at hz;injection hz with hyx hrest;injection hyx with hy hx;subst hy hx;refine ja (he prog w _ _ ?_)
    wp_walk
    exact⟨rfl,rfl,_,_,hrest,hr⟩
   | ne he hc hl'=>
    rw[List.zip_cons_cons]at hz;injection hz with hyx hrest;injection hyx with hy hx;subst hy hx;refine ja (he prog w _ _ ?_);have hri:=hc prog w
    wp_walk using hri
    exact⟨_,rfl,by simpa using h⟩
  case fin=>
   rintro⟨b1,b2⟩ s' ⟨hb',rfl,vs,ws,hz,hv⟩;simp only at hb';subst hb';cases hv with
   | nil=>
    wp_walk
    exact⟨_,rfl,by simpa[Builtin.Tuple.tupleCompareSizes,z]using h⟩
   |eq he hr=>rw[List.zip_cons_cons]at hz;cases hz
   |ne he hc hl'=>rw[List.zip_cons_cons]at hz;cases hz
  case h=>
   exact⟨rfl,rfl,items.toList,zd.toList,rfl,hC⟩
end
section
variable{prog:Program}{w:World}{A:Around}{E:Z0}{s:Shared}
def qkr{l b:Addr}{items zd:Zd}{r:Bool}{Q:Z0}(hl:IsTup s.heap l items)(hb:IsTup s.heap b zd)(hC:Cmps A.in1 s items.toList zd.toList r)
 (hu:A.units<cLine) (h:Q (.bool r) s):wpAny (model prog w) A (richCompare .Lt (.ref l) (.ref b)) Q E s:=by
 let⟨⟨cls,dd,data,sl⟩,ho,hc,n,hd⟩:=id hl;let⟨⟨cls2,dd2,data2,sl2⟩,ho2,hc2,n2,hd2⟩:=id hb;simp only at hc hd hc2 hd2;subst hc hd hc2 hd2;exact richCompare_meets_room (op:=.Lt) ⟨_,ho,rfl⟩ ⟨_,ho2,rfl⟩ F.slot_tuple_lt F.entry_tuple_lt (F.args_tuple_lt_2 _ _) (q9x l b items zd n n2 dd dd2 sl sl2 r)
  ⟨ho,ho2,hC,show Value.bool r≠Value.notImplemented/\Q (.bool r) s from⟨(λx=>nomatch x),h⟩⟩ hu
end
theorem u9:∀ns:List Int,HT.lexLt ns ns=false
 |[]=>rfl
 |n::ns=>by rw[HT.lexLt_cons,if_pos rfl,u9 ns]
def GN{A:Around}{s:Shared}{l b:Addr}{vs ws:Ze}{ns ms:Zf}(hl:s.heap.IsList l vs.toArray)(hb:s.heap.IsList b ws.toArray)(hi:IntsAre vs ns)(hj:IntsAre ws ms)(hn:ns.length=ms.length)(hu:A.units<cLine):SeqAt.EqAt A s (.ref l) (.ref b) (decide (ns=ms)):=by
 by_cases q:l=b
 .subst q;have e:vs=ws:=by
   obtain⟨o,e1,c1,n1,d1⟩:=hl;obtain⟨o2,e2,c2,n2,d2⟩:=hb;rw[e1]at e2;cases e2;rw[d1]at d2;injection d2 with d3 _;simpa using d3
  subst e;have en:ns=ms:=by
   apply List.ext_getElem?;intro i;by_cases h:i<ns.length
   .let⟨t,e1⟩:=pi hi (ji h);let⟨u,e2⟩:=pi hj (ji (show i<ms.length by omega));rw[e1]at e2;injection e2 with e3;injection e3 with e4 _;rw[ji h,ji (show i<ms.length by omega),e4]
   .rw[xh (by omega),xh (by omega)]
  rw[decide_eq_true en];exact SeqAt.EqAt.same _
 .have lv:vs.length=ns.length:=hi.length;have lw:ws.length=ms.length:=hj.length;have h:=SeqAt.RcAt.lists (A:=A) (e:=λj=>decide (ns[j]? =ms[j]?)) hl hb (by simp;omega) hu λj h1 h2=>by
   have h1':j<ns.length:=by simp at h1;omega
   have h2':j<ms.length:=by omega
   let⟨t,e1⟩:=pi hi (ji h1');let⟨u,e2⟩:=pi hj (ji h2');let⟨e,he,hiff⟩:=HT.eqAt_int A.in1 s ns[j] t ms[j] u;have g1:vs.toArray[j]=.int ns[j] t:=by have:=(List.getElem?_eq_some_iff.mp e1).2;simpa using this
   have g2:ws.toArray[j]=.int ms[j] u:=by have:=(List.getElem?_eq_some_iff.mp e2).2;simpa using this
   rw[g1,g2];have ee:decide (ns[j]? =ms[j]?)=e:=by
    rw[ji h1',ji h2'];cases e with
    |true=>simp[hiff.mp rfl]
    | false=>
     have:¬ns[j]=ms[j]:=λz=>absurd (hiff.mpr z) (by decide);simp[this]
   rw[ee];exact he
  have ea:(List.range vs.toArray.size).all (λj=>decide (ns[j]? =ms[j]?))=decide (ns=ms):=by
   rw[Bool.eq_iff_iff];simp only[List.all_eq_true,decide_eq_true_eq,List.mem_range,List.size_toArray];constructor
   .intro z;apply List.ext_getElem?;intro i;by_cases hi:i<ns.length
    .exact z i (by omega)
    .rw[xh (by omega),xh (by omega)]
   .intro z i _;rw[z]
  rw[ea]at h;exact SeqAt.EqAt.of_refs q h
def kJ(a c:Int)(ns ms:Zf):Bool:=if a=c then HT.lexLt ns ms else decide (a<c)
def qhc{prog:Program}{w:World}{A:Around}{E:Z0}{s:Shared}{l b p q:Addr}{a c:Int}{t u:Tok}{vs ws:Ze}{ns ms:Zf}{Q:Z0}(hl:IsTup s.heap l #[.int a t,.ref p])(hb:IsTup s.heap b #[.int c u,.ref q])(hp:s.heap.IsList p vs.toArray)(hq:s.heap.IsList q ws.toArray)(hi:IntsAre vs ns)(hj:IntsAre ws ms)(hn:ns.length=ms.length)
 (hu:A.units+1<cLine) (h:Q (.bool (kJ a c ns ms)) s):wpAny (model prog w) A (richCompare .Lt (.ref l) (.ref b)) Q E s:=by
 have hu1:A.in1.units<cLine:=hu;refine qkr (r:=kJ a c ns ms) hl hb ?_ (by omega) h;let⟨e,he,hiff⟩:=HT.eqAt_int A.in1 s a t c u;unfold kJ;cases e with
 | true=>
  have eac:=hiff.mp rfl;rw[if_pos eac];refine .eq he ?_;have ee:=GN (A:=A.in1) hp hq hi hj hn hu1;by_cases z:ns=ms
  .rw[decide_eq_true z]at ee;subst z;rw[u9];exact .eq ee .nil
  .rw[decide_eq_false z]at ee;exact .ne ee (λprog w E Q h=>GY hp hq (by simpa using hi) (by simpa using hj) hn hu1 h) rfl
 | false=>
  rw[if_neg λz=>absurd (hiff.mpr z) (by decide)];exact .ne he (λprog w E Q h=>HT.rcLt_int A.in1 s a t c u prog w E Q h) rfl
def qk0{a d:Value}:argsOk "min" ⟨[a],[(Str.ofString "default",d)]⟩:=by kernel_rfl
section
variable{prog:Program}{w:World}{A:Around}{E:Z0}{s:Shared}{Q:Z0}{p:Addr}{its:Zd}{bt:Nat->Nat->Bool}
def Eb(hh:A.in1.handled=none)(hl:s.heap.IsList p its){kw:List (Str×Value)}{dflt:Option Value}(hk:kw=dflt.toList.map λd=>(Str.ofString "default",d))
 (zu:jA prog w A.in1 s.heap.objs.size (s.heap.objs.size+1) s its bt)
 (hD:its.size=0->∃d,dflt=some d/\∀s',Kq s s'->Q d s') (hQ:∀v s',its[argBest bt (its.size-1)]? =some v->Kq s s'->Q v s'):
 wpAny (model prog w) A.in1 (do let it <-pyIter (.ref p);let b <-newList [];again (.builtin "min.loop" ⟨[it,.none,b],kw⟩)) (λfin s'=>match fin with
  | .done f=>(match (Except.ok f:Result)with
   |.ok (.ret v)=>Q v s'
   |.ok _=>False
   |.error e=>E e s')
  | .again c'=>c'.quiet=true/\codeAny (model prog w) A c' (λr s'=>match r with
   |.ok (.ret v)=>Q v s'
   |.ok _=>False
   |.error e=>E e s') s') E s:=by
 have lp:p<s.heap.objs.size:=by obtain⟨o,e,_⟩:=hl;exact jd e
 refine ja (wpAny_pyIter_list hl ?_);refine ja (kf ?_ (by first|exact Nat.zero_le _|(show(0:Nat)<=sizeLine;exact Nat.zero_le _)));refine jc ⟨vk vm _,?_⟩;have push2:∀b o,s.heap.get? b=some o->((s.heap.push {cls:=.type "list_iterator",data:=.fields #[.ref p,.int 0 0]}).push {cls:=.type "list",data:=.seq #[]}).get? b=some o:=λb o e=>je _ (je _ e);have sz:(s.heap.push {cls:=.type "list_iterator",data:=.fields #[.ref p,.int 0 0]}).objs.size=s.heap.objs.size+1:=xx _ _;have kq:∀s',Kp s.heap.objs.size (s.heap.objs.size+1) s s'->Kq s s':=λs' k=>⟨λb o e=>k.heap b o (jo (jd e)) (jo (Nat.lt_succ_of_lt (jd e))) e,k.gens,k.drawn,k.os⟩;dsimp only;rw[sz];refine qet (s0:=s) hh (jo lp) (Nat.ne_of_gt (Nat.lt_succ_self _)) (Nat.ne_of_gt (Nat.lt_succ_of_lt lp)) zu (λv s' e k=>hQ v s' e (kq s' k)) (λh0=>?_) (c:=0) ⟨⟨_,je _ (ju _ rfl),rfl,rfl⟩,?_⟩ ?_ ⟨λb o _ _ e=>push2 b o e,rfl,rfl,rfl⟩
 .let⟨d,e,k⟩:=hD h0;subst e;exact⟨_,d,[],by rw[hk];rfl,λs' k'=>k s' (kq s' k')⟩
 .obtain⟨o,e,c⟩:=hl;exact⟨o,push2 p o e,c⟩
 .have:=ju (s.heap.push {cls:=.type "list_iterator",data:=.fields #[.ref p,.int 0 0]}) (o:={cls:=.type "list",data:=.seq #[]}) rfl;rw[sz]at this;exact this
def qjl(hh:A.in1.handled=none)(hl:s.heap.IsList p its){d:Value}(zu:jA prog w A.in1 s.heap.objs.size (s.heap.objs.size+1) s its bt)
 (hD:its.size=0->∀s',Kq s s'->Q d s') (hQ:∀v s',0<its.size->its[argBest bt (its.size-1)]? =some v->Kq s s'->Q v s'):wpAny (model prog w) A (call (.builtin "min") [.ref p] [(Str.ofString "default",d)]) Q E s:=by
 refine kmk_tree F.kind_min F.plain_min F.entry_min (qk0) ?_;show wpAny _ _ (Builtin.Builtins.bindParams "min" ["key","default"] 0 ⟨[],[(Str.ofString "default",d)]⟩ >>= _) _ _ s;refine ja (wpAny_of_eq (show _=pure [none,some d]from by rfl) ?_);show wpAny _ _ (pure (Value.ref p) >>= _) _ _ s;refine ja (jc ?_);dsimp only;rw[show(toString "min"++toString ".loop")="min.loop" from by decide];exact Eb hh hl (dflt:=some d) rfl zu (λh=>⟨d,rfl,hD h⟩) λv s' e k=>hQ v s' (by
  rcases Nat.eq_zero_or_pos its.size with z|z
  .rw[Array.getElem?_eq_none (by omega)]at e;cases e
  .exact z) e k
def GD(hh:A.in1.handled=none)(hl:s.heap.IsList p its)(h0:0<its.size)(zu:jA prog w A.in1 s.heap.objs.size (s.heap.objs.size+1) s its bt)
 (hQ:∀v s',its[argBest bt (its.size-1)]? =some v->Kq s s'->Q v s'):wpAny (model prog w) A (call (.builtin "min") [.ref p]) Q E s:=by
 refine kmk_tree F.kind_min F.plain_min F.entry_min (F.args_min1 _) ?_;show wpAny _ _ (Builtin.Builtins.bindParams "min" ["key","default"] 0 ⟨[],[]⟩ >>= _) _ _ s;refine ja (wpAny_of_eq (show _=pure [none,none]from by rfl) ?_);show wpAny _ _ (pure (Value.ref p) >>= _) _ _ s;refine ja (jc ?_);dsimp only;rw[show(toString "min"++toString ".loop")="min.loop" from by decide];exact Eb hh hl (dflt:=none) rfl zu (λh=>absurd h (by omega)) hQ
end
def G7{α:Type}{lt:α->α->Bool}{f:Nat->α}(h1:∀a,lt a a=false)(h2:∀a b c,lt a b=true->lt c b=false->lt c a=false)(n:Nat):argBest (λi j=>lt (f i) (f j)) n<=n/\∀i,i<=n->lt (f i) (f (argBest (λi j=>lt (f i) (f j)) n))=false:=by
 induction n with
 | zero=>
  rw[argBest];exact⟨jg _,λi hi=>by rw[Nat.le_zero.mp hi];exact h1 _⟩
 | succ n ih=>
  obtain⟨h3,h4⟩:=ih;rw[argBest];cases q:lt (f (n+1)) (f (argBest (λi j=>lt (f i) (f j)) n))with
  | true=>
   rw[if_pos rfl];refine⟨jg _,λi hi=>?_⟩;rcases Nat.lt_or_ge i (n+1)with z|z
   .exact h2 _ _ _ q (h4 i (by omega))
   .have e:i=n+1:=by omega
    rw[e];exact h1 _
  | false=>
   rw[if_neg (by decide)];refine⟨by omega,λi hi=>?_⟩;rcases Nat.lt_or_ge i (n+1)with z|z
   .exact h4 i (by omega)
   .have e:i=n+1:=by omega
    rw[e];exact q
def uc{X:Cx}{z5:Z3}{J:St}{H:Hp}{s s':Shared}(I:Inv X z5 J H s)(k:Kq s s'):Inv X z5 J H s':=by
 have es:s'={s with heap:=s'.heap,toks:=s'.toks}:=by obtain⟨h2,g2,d2,t2,o2⟩:=s';obtain⟨_,eg,ed,eo⟩:=k;cases eg;cases ed;cases eo;rfl
 rw[es];exact I.kept k.heap
noncomputable def vH(ns:Zf):Nat->Nat->Bool:=λi j=>decide (ns.getD i 0<ns.getD j 0)
def cG(ns:Zf):Option Int:=match ns with
 |[]=>none
 |_=>some (ns.getD (argBest (vH ns) (ns.length-1)) 0)
def p9(ns:Zf):V:=match cG ns with
 |none=>.non
 |some m=>.int m
def uB{ns:Zf}{m:Int}(h:cG ns=some m):m∈ns/\∀x∈ns,m<=x:=by
 cases ns with
 |nil=>cases h
 | cons a r=>
  cases h;let⟨h1,h2⟩:=G7 (lt:=λ(x y:Int)=>decide (x<y)) (f:=λi=>(a::r).getD i 0) (λa=>by simp) (λa b c=>by simp;omega) ((a::r).length-1);have hb:argBest (vH (a::r)) ((a::r).length-1)<(a::r).length:=Nat.lt_of_le_of_lt h1 (by simp);refine⟨?_,λx hx=>?_⟩
  .rw[jn,ji hb];exact xw hb
  .obtain⟨i,hi,rfl⟩:=List.mem_iff_getElem.mp hx;have:=h2 i (by omega);simp only[decide_eq_false_iff_not]at this;rw[jn (i:=i),ji hi]at this;exact Int.not_lt.mp this
def Ac{ns:Zf}(h:cG ns=none):ns=[]:=by
 cases ns with
 |nil=>rfl
 |cons a r=>cases h
def qqg{ns:Zf}{m:Int}(h:m∈ns)(k:∀x∈ns,m<=x):cG ns=some m:=by
 cases q:cG ns with
 |none=>rw[Ac q]at h;cases h
 | some y=>
  let⟨h1,h2⟩:=uB q;have e1:=h2 m h;have e2:=k y h1;congr 1;omega
section
variable{X:Cx}{K:am}{O:Zg}{e:Expr}{d:Expr}{te:TE}{p kp pos:Pos}{fe:aJ}
def DB(K:am)(te:TE):TE:=λJ H Q=>te J H λv H1=>∃(p:Addr) (ns:Zf),[v]=[V.ref p]/\SqL K H1 p (ns.map V.int)/\Q (p9 ns) H1
def qpn(hK:X.K=K)(hc:X.calm=true)(hg:Gl X "min")(hm:X.mg "min"=none)(ha:PE X e te)(hd:PE X d (tC .non))(he:starEach [e] X.env=(false,eval e X.env)::starEach [] X.env:=by rfl)
 (h1:backTo pos (starEach [e] X.env)=(false,eval e X.env)::backTo pos (starEach [] X.env):=by rfl) (h2:(backTo pos (starEach [e] X.env)).any (·.1)=false:=by rfl)
 (h3:(backToKw pos (keywordEach [⟨some "default",d,kp⟩] X.env)).all (λx=>x.1.isSome)=true:=by rfl) (h4:(backToKw pos (keywordEach [⟨some "default",d,kp⟩] X.env)).any (λx=>x.1.isNone)=false:=by rfl)
 (h5:(backToKw pos (keywordEach [⟨some "default",d,kp⟩] X.env)).filterMap (·.1)=[Str.ofString "default"]:=by rfl):
 PE X (.Call (.Name "min" p) [e] [⟨some "default",d,kp⟩] pos) (DB K te):=by
 subst hK;intro z5 s J H Q I h;refine xu (ia I hg hm (u:=.builtin "min") (by rfl) ?_);refine callWith_kw (aW ((aj ha aw he) pos z5 s J H (λvs H1=>∃(p1:Addr) (ns:Zf),vs=[V.ref p1]/\SqL X.K H1 p1 (ns.map V.int)/\Q (p9 ns) H1) I h) λus s1 hh1=>?_) h1 h2 h3 h4;obtain⟨vs,H1,I1,r1,p1,ns,rfl,q1,k⟩:=hh1;obtain⟨u,rfl,ru⟩:=b9 r1;cases(show u=Value.ref p1 from ru);refine kws_cons (aW (hd z5 s1 J H1 (λv H2=>v=.non/\H2=H1) I1 ⟨rfl,rfl⟩) λdv s2 hh2=>?_);obtain⟨x,H2,I2,r2,rfl,rfl⟩:=hh2;cases r2;refine kws_nil ?_;rw[h5];let⟨its,rv,pl,hz⟩:=I2.list q1;have ln:its.length=ns.length:=by have:=rv.length;simp at this;omega
 have hh:X.A.in1.handled=none:=I2.ok.hd hc;show wpAny _ _ (call (.builtin "min") [.ref p1] [(Str.ofString "default",.none)]) _ _ s2;refine qjl (its:=its.toArray) (bt:=vH ns) hh pl.isList (λi j vi vj s Q E hi hj _ q=>?_) (λh0 s' k'=>?_) λv s' h0 ev k'=>?_
 .obtain⟨t,rfl⟩:=mH rv (by simpa using hi);obtain⟨t',rfl⟩:=mH rv (by simpa using hj);exact HT.rcLt_int _ s _ t _ t' _ _ _ _ (q s ⟨λ_ _ e=>e,rfl,rfl,rfl⟩)
 .have en:ns=[]:=List.eq_nil_of_length_eq_zero (by simp at h0;rw[h0]at ln;simpa using ln.symm);subst en;exact⟨.non,_,uc I2 k',rfl,k⟩
 .have hn:ns≠[]:=λz=>by rw[z]at ln;simp at h0 ln;rw[ln]at h0;exact absurd h0 (by simp)
  rw[x5,ln]at ev;obtain⟨t,rfl⟩:=mH rv (by simpa using ev);refine⟨_,_,uc I2 k',?_,k⟩;unfold p9 cG;cases ns with
  |nil=>exact absurd rfl hn
  |cons a r=>exact⟨t,rfl⟩
noncomputable def bJ:Option Int->D
 |none=>.non
 |some m=>.int m
def oQ:D->Option D
 |.lst xs=>(dH xs).map λns=>bJ (cG ns)
 |_=>none
def qqi(h:MB K O te fe):ME K O (DB K te) (aG oQ fe):=λZ J H R M d M' Q S e k=>by
 let⟨x,M1,e1,e⟩:=bD e;obtain⟨e3,rfl⟩:=cQ e;refine h Z J H R M x _ _ S e1 λv H1 R1 S1 st1 r1=>?_;unfold oQ at e3;split at e3
 .rename_i xs;obtain⟨b,vs,rfl,q,r⟩:=r1.isL;cases z:dH xs with
  |none=>rw[z]at e3;cases e3
  | some ns=>
   rw[z]at e3;cases e3;have ex:=m9 r z;subst ex;refine⟨b,ns,rfl,q,k _ H1 R1 S1 st1 ?_⟩;show Rp K R1 (p9 ns) (bJ (cG ns));unfold p9;cases cG ns with
   |none=>exact .non
   |some m=>exact .int m
 .cases e3
end
theorem GR:∀a b c:List Int,HT.lexLt a b=true->HT.lexLt c b=false->HT.lexLt c a=false
 |[],[],_,h,_=>by cases h
 |[],_::_,[],_,g=>by cases g
 |[],_::_,_::_,_,_=>rfl
 |_::_,[],_,h,_=>by cases h
 |_::_,_::_,[],_,g=>by cases g
 | x::xs,y::ys,z::zs,h,g=>by
  rw[HT.lexLt_cons]at h g ⊢;by_cases q:x=y
  .rw[if_pos q]at h;subst q;by_cases r:z=x
   .rw[if_pos r]at g ⊢;exact GR xs ys zs h g
   .rw[if_neg r]at g ⊢;exact g
  .rw[if_neg q]at h;simp only[decide_eq_true_eq]at h;by_cases r:z=y
   .rw[if_neg (by omega)];simp;omega
   .rw[if_neg r]at g;simp only[decide_eq_false_iff_not]at g;rw[if_neg (by omega)];simp;omega
def bY(x y:Int×List Int):Bool:=kJ x.1 y.1 x.2 y.2
def qZ(x:Int×List Int):bY x x=false:=by unfold bY kJ;rw[if_pos rfl,u9]
def qQ(a b c:Int×List Int)(h:bY a b=true)(g:bY c b=false):bY c a=false:=by
 unfold bY kJ at h g ⊢;by_cases q:a.1=b.1
 .rw[if_pos q]at h;rw[q];by_cases r:c.1=b.1
  .rw[if_pos r]at g ⊢;exact GR _ _ _ h g
  .rw[if_neg r]at g ⊢;exact g
 .rw[if_neg q]at h;simp only[decide_eq_true_eq]at h;by_cases r:c.1=b.1
  .rw[if_neg (by omega)];simp;omega
  .rw[if_neg r]at g;simp only[decide_eq_false_iff_not]at g;rw[if_neg (by omega)];simp;omega
def pI(qs:List (Int×List Int)):Nat->Nat->Bool:=λi j=>bY (qs.getD i (0,[])) (qs.getD j (0,[]))
def jL(qs:List (Int×List Int)):Int×List Int:=qs.getD (argBest (pI qs) (qs.length-1)) (0,[])
def GP{qs:List (Int×List Int)}(h:qs≠[]):jL qs∈qs/\∀x∈qs,bY x (jL qs)=false:=by
 let⟨h1,h2⟩:=G7 (lt:=bY) (f:=λi=>qs.getD i (0,[])) qZ qQ (qs.length-1);have hp:0<qs.length:=List.length_pos_iff.mpr h;have hb:argBest (pI qs) (qs.length-1)<qs.length:=Nat.lt_of_le_of_lt h1 (by omega);refine⟨?_,λx hx=>?_⟩
 .unfold jL;rw[jn,ji hb];exact xw hb
 .obtain⟨i,hi,rfl⟩:=List.mem_iff_getElem.mp hx;have:=h2 i (by omega);rw[jn (i:=i),ji hi]at this;exact this
section
variable{X:Cx}{K:am}{O:Zg}
def PrV(K:am)(H:Hp)(v:V)(q:Int×List Int):Prop:=∃a b,v=.ref a/\SqT K H a [.int q.1,.ref b]/\SqL K H b (q.2.map V.int)
def Dl(K:am):List V->Hp->VK->Prop:=λxs H Q=>∃(p:Addr) (vs:List V) (qs:List (Int×List Int)) (n:Nat),xs=[.ref p]/\SqL K H p vs/\vs.length=qs.length/\(∀i v,vs[i]? =some v->PrV K H v (qs.getD i (0,[])))/\(∀q∈qs,q.2.length=n)/\qs≠[]/\∀v,vs[argBest (pI qs) (qs.length-1)]? =some v->Q v H
def Ep{X:Cx}{z5:Z3}{J:St}{H:Hp}{s:Shared}{v:V}{q:Int×List Int}{u:Value}(I:Inv X z5 J H s)(h:PrV X.K H v q)(r:RelV v u):∃a b t vs,u=.ref a/\IsTup s.heap a #[.int q.1 t,.ref b]/\s.heap.IsList b vs.toArray/\IntsAre vs q.2:=by
 obtain⟨a,b,rfl,h1,h2⟩:=h;cases r;let⟨its,rv,p,_⟩:=I.tuple h1;let⟨its2,rv2,p2,_⟩:=I.list h2;cases rv with
 | cons r1 r2=>
  cases r2 with
  | cons r2 r3=>
   cases r3;obtain⟨t,rfl⟩:=r1;cases r2;exact⟨a,b,t,its2,rfl,p,p2.isList,du rv2⟩
theorem rh:∀{xs:List V} {us:Ze} {i:Nat} {u:Value},Vals xs us->us[i]? =some u->∃x,xs[i]? =some x/\RelV x u
 |_,_,_,_,.nil,e=>by simp at e
 |_,_,0,_,.cons r _,e=>by simp at e;subst e;exact⟨_,rfl,r⟩
 | _,_,i+1,u,.cons _ t,e=>by let⟨x,h1,h2⟩:=rh (i:=i) (u:=u) t (by simpa using e);exact⟨x,by simpa using h1,h2⟩
def qff(hK:X.K=K)(hc:X.calm=true)(hu:X.A.units+64<cLine):fM X (.builtin "min") (Dl K):=by
 subst hK;intro z5 s J H xs us Q I r h;obtain⟨p,vs,qs,n,rfl,hq,hl,hp,hn,h0,k⟩:=h;obtain⟨u,rfl,ru⟩:=b9 r;cases ru;let⟨its,rv,pl,hz⟩:=I.list hq;have ln:its.length=qs.length:=by have:=rv.length;omega
 have hh:X.A.in1.handled=none:=I.ok.hd hc;have h0':0<qs.length:=List.length_pos_iff.mpr h0;have old:∀s',Kp s.heap.objs.size (s.heap.objs.size+1) s s'->∀b o,s.heap.get? b=some o->s'.heap.get? b=some o:=λs' k b o e=>k.heap b o (jo (jd e)) (jo (Nat.lt_succ_of_lt (jd e))) e;have ql:∀i,i<qs.length->(qs.getD i (0,[])).2.length=n:=λi hi=>by rw[jn,ji hi];exact hn _ (xw hi)
 refine GD (its:=its.toArray) (bt:=pI qs) hh pl.isList (by simp;omega) (λi j vi vj s1 Q1 E1 hi hj kp q=>?_) λv s' ev k'=>?_
 .let⟨x,hx,rx⟩:=rh rv (show its[i]? =some vi by simpa using hi);let⟨y,hy,ry⟩:=rh rv (show its[j]? =some vj by simpa using hj);obtain⟨a,b,t,us,rfl,g1,g2,g3⟩:=Ep I (hp i x hx) rx;obtain⟨a',b',t',us',rfl,g1',g2',g3'⟩:=Ep I (hp j y hy) ry;have hi':i<qs.length:=by have:=(List.getElem?_eq_some_iff.mp hx).1;omega
  have hj':j<qs.length:=by have:=(List.getElem?_eq_some_iff.mp hy).1;omega
  have up:=old s1 kp;refine qhc (t:=t) (u:=t') (p:=b) (q:=b') ?_ ?_ ?_ ?_ g3 g3' (by rw[ql i hi',ql j hj']) (by show X.A.units+1+1<cLine;omega) (q s1 ⟨λ_ _ e=>e,rfl,rfl,rfl⟩)
  .obtain⟨o,e,c⟩:=g1;exact⟨o,up _ o e,c⟩
  .obtain⟨o,e,c⟩:=g1';exact⟨o,up _ o e,c⟩
  .obtain⟨o,e,c⟩:=g2;exact⟨o,up _ o e,c⟩
  .obtain⟨o,e,c⟩:=g2';exact⟨o,up _ o e,c⟩
 .rw[x5,ln]at ev;let⟨x,hx,rx⟩:=rh rv (show its[argBest (pI qs) (qs.length-1)]? =some v by simpa using ev);exact⟨x,H,uc I k',rx,k x hx⟩
def qc:D->Option (Int×List Int)
 |.tup [.int a,.lst xs]=>(dH xs).map λns=>(a,ns)
 |_=>none
noncomputable def mv:List D->Option (List (Int×List Int))
 |[]=>some []
 | d::r=>match qc d,mv r with
  |some q,some qs=>some (q::qs)
  |_,_=>none
noncomputable def bK(q:Int×List Int):D:=.tup [.int q.1,.lst (q.2.map D.int)]
def kA:D->Option D
 | .lst xs=>match mv xs with
  |some qs=>if qs≠[]/\(qs.all λq=>decide (q.2.length=(jL qs).2.length))=true then some (bK (jL qs))else none
  |none=>none
 |_=>none
theorem F5:∀{xs:List D} {ns:Zf},dH xs=some ns->xs=ns.map D.int
 |[],ns,h=>by cases h;rfl
 | d::r,ns,h=>by
  cases d with
  | int i=>
   have h:(dH r).map (λx=>i::x)=some ns:=h;cases q:dH r with
   |none=>rw[q]at h;cases h
   | some ms=>
    rw[q]at h;cases h;rw[F5 q];rfl
  |_=>cases h
def ql0{R:Hp}{v:V}{d:D}{q:Int×List Int}(r:Rp K R v d)(e:qc d=some q):PrV K R v q/\d=bK q:=by
 unfold qc at e;split at e
 .rename_i a xs;cases z:dH xs with
  |none=>rw[z]at e;cases e
  | some ns=>
   rw[z]at e;cases e;obtain⟨l,vs,rfl,h,r⟩:=r.isT;obtain⟨v1,_,rfl,r1,r⟩:=r.isC;obtain⟨v2,_,rfl,r2,r⟩:=r.isC;cases r;obtain rfl:=r1.isI;obtain⟨b,ws,rfl,h2,r3⟩:=r2.isL;have ex:=m9 r3 z;subst ex;refine⟨⟨l,b,rfl,SqT.of h,h2⟩,?_⟩;unfold bK;rw[F5 z]
 .cases e
theorem Hi{R:Hp}:∀{vs:List V} {ds:List D} {qs:List (Int×List Int)},Rps K R vs ds->mv ds=some qs->vs.length=qs.length/\ds=qs.map bK/\∀i v,vs[i]? =some v->PrV K R v (qs.getD i (0,[]))
 | _,[],qs,.nil,e=>by unfold mv at e;cases e;exact⟨rfl,rfl,λi v e=>by simp at e⟩
 | v::vs,d::ds,qs,.cons r t,e=>by
  unfold mv at e;split at e
  .rename_i q qs' e1 e2;cases e;let⟨h1,h2⟩:=ql0 r e1;let⟨g1,g2,g3⟩:=Hi t e2;refine⟨by rw[jw,jw,g1],by rw[h2,g2];rfl,λi w e=>?_⟩;cases i with
   |zero=>cases e;exact h1
   |succ i=>exact g3 i w e
  .cases e
def PrV.mono{H R:Hp}{v:V}{q:Int×List Int}(s:Same R H)(h:PrV K R v q):PrV K H v q:=by obtain⟨a,b,e,h1,h2⟩:=h;exact⟨a,b,e,Same.tup s h1,Same.sqL s h2⟩
def qrw:wH K (Dl K) kA:=λH R x d u Q s r e k=>by
 unfold kA at e;split at e
 .rename_i xs;split at e
  .rename_i qs e1;split at e
   .rename_i hc;cases e;obtain⟨p,vs,rfl,h,rs⟩:=r.isL;let⟨g1,g2,g3⟩:=Hi rs e1;subst g2;refine⟨p,vs,qs,_,rfl,Same.sqL s h,g1,λi v e=>(g3 i v e).mono s,λq hq=>by simpa using List.all_eq_true.mp hc.2 q hq,hc.1,λv hv=>?_⟩;have hd:(qs.map bK)[argBest (pI qs) (qs.length-1)]? =some (bK (jL qs)):=by
     let⟨d,hd,_⟩:=rs.get' hv;have hb:=(List.getElem?_eq_some_iff.mp hd).1;rw[jb]at hb;unfold jL;rw[jq,jn,ji hb];rfl
    let⟨w,hw,rw'⟩:=rs.get hd;rw[hv]at hw;cases hw;exact k _ H R (Ext.refl s) rw'
   .cases e
  .cases e
 .cases e
end
def yG(C:Addr)(names:Zj):Sp:=λvs H Q _=>∃(x dx:Addr) (args:List V),vs=.ref x::args/\args.length=names.length/\H x=some (.ins C dx [])/\Q .non (aN H x (.ins C dx (names.zip args)))
section
variable{K:am}{R:Hp}{O:Zg}{t ta:TE}{tr:TA}{fa fb:aJ}{fs:aS}{E:XK}{C:Addr}{x m f:Str}
theorem Rfs.zip:∀{names:Zj} {vs:List V} {ds:List D},Rps K R vs ds->Rfs K R (names.zip vs) (names.zip ds)
 |[],_,_,_=>.nil
 |_::_,_,_,.nil=>.nil
 |_::_,_,_,.cons h r=>.cons h (Rfs.zip r)
theorem Rfs.lookup:∀{fs:List (Str×V)} {gs:List (Str×D)} {d:D},Rfs K R fs gs->gs.lookup f=some d->∃v,fs.lookup f=some v/\Rp K R v d
 |_,_,_,.nil,e=>by cases e
 | _,_,d,.cons (f:=g) (x:=v) (d:=d') h r,e=>by
  rw[List.lookup_cons]at e ⊢;cases q:f==g with
  | true=>
   rw[q]at e;cases e;exact⟨v,rfl,h⟩
  | false=>
   rw[q]at e;exact Rfs.lookup r e
theorem Rfs.lookup_none:∀{fs:List (Str×V)} {gs:List (Str×D)},Rfs K R fs gs->gs.lookup f=none->fs.lookup f=none
 |_,_,.nil,_=>rfl
 | _,_,.cons (f:=g) h r,e=>by
  rw[List.lookup_cons]at e ⊢;cases q:f==g with
  |true=>rw[q]at e;cases e
  | false=>
   rw[q]at e;exact Rfs.lookup_none r e
def p8(x:Str)(names:Zj)(fs:aS):aJ:=bO fs λds=>da (if ds.length=names.length then some (.obj x (names.zip ds))else none)
def E5{names:Zj}(n:W.nsIn K mainGlobals x=some (some (.ref C)))(h:MA K O tr fs):ME K O (Dy C (yG C names) [] E tr) (p8 x names fs):=λZ J H R M d M' Q S e k=>by
 let⟨ds,M1,e1,e⟩:=bD e;obtain⟨e2,rfl⟩:=cQ e;split at e2
 .rename_i hl;cases e2;refine h Z J H R M ds _ _ S e1 λvs H1 R1 S1 st1 r1=>?_;intro a dx ha hdx hne;refine⟨a,dx,vs,by rw[List.append_nil],by rw[r1.length,hl],cr,rfl,?_⟩;rw[Fv];have y1:=Ext.hid (o:=.own a) S1.sub hdx;have ha2:(aN H1 dx (HO.own a)) a=none:=by rw[aU (Ne.symm hne)];exact ha
  have y2:=Ext.new (o:=.ins C dx (names.zip vs)) y1.s ha2;exact k _ _ _ ((S1.ext y1).ext y2) ((st1.trans y1.stp).trans y2.stp) (.obj n cr (Rfs.zip (r1.mono y2.r)))
 .cases e2
def xV(x:Str):aJ:=ae (.obj x [])
def qlm(n:W.nsIn K mainGlobals x=some (some (.ref C))):ME K O (EE C) (xV x):=λZ J H R M d M' Q S e k=>by
 cases e;intro a dx ha hdx hne;have y1:=Ext.hid (o:=.own a) S.sub hdx;have ha2:(aN H dx (HO.own a)) a=none:=by rw[aU (Ne.symm hne)];exact ha
 have y2:=Ext.new (o:=.ins C dx []) y1.s ha2;exact k _ _ _ ((S.ext y1).ext y2) (y1.stp.trans y2.stp) (.obj n cr .nil)
noncomputable def iC(x f:Str):D->Option D
 |.obj y gs=>if y=x then gs.lookup f else none
 |_=>none
def iA(x f:Str)(fa:aJ):aJ:=bO fa λd=>da (iC x f d)
def Ef{C':Addr}(n:W.nsIn K mainGlobals x=some (some (.ref C)))(n':W.nsIn K mainGlobals x=some (some (.ref C'))):C'=C:=by rw[n]at n';cases n';rfl
def xW(n:W.nsIn K mainGlobals x=some (some (.ref C)))(c:Cls K C)(na:NoAttr K C f)(h:ME K O ta fa):ME K O (nC K ta f) (iA x f fa):=λZ J H R M d M' Q S e k=>by
 let⟨d0,M1,e1,e⟩:=bD e;obtain⟨e2,rfl⟩:=cQ e;refine h Z J H R M _ _ _ S e1 λv H1 R1 S1 st1 r1=>?_;cases d0 with
 | obj y gs=>
  have e3:(if y=x then gs.lookup f else none)=some d:=e2;split at e3
  .rename_i hy;subst hy;cases r1 with
   | obj n' hR rf=>
    have hC:=Ef n n';subst hC;let⟨v',hl,rv⟩:=rf.lookup e3;exact⟨_,_,_,_,v',rfl,S1.sub _ _ hR,c,na,hl,k v' H1 R1 S1 st1 rv⟩
  .cases e3
 |_=>cases e2
noncomputable def jJ(x m:Str)(f:List D->Option D)(d:D)(ds:List D):Option D:=match d with
 |.obj y gs=>if y=x/\gs.lookup m=none then f (d::ds)else none
 |_=>none
def pr(x m:Str)(f:List D->Option D)(fa:aJ)(fs:aS):aJ:=bO fa λd=>bO fs λds=>da (jJ x m f d ds)
def yS{k0:Nat}{g:List D->Option D}(n:W.nsIn K mainGlobals x=some (some (.ref C)))(hg:bV k0 g)(h:ME K O ta fa)(ha:MA K O tr fs):ME K O (Dz C m (cj K false k0 g) [] E ta tr) (pr x m g fa fs):=λZ J H R M d M' Q S e k=>by
 let⟨d0,M1,e1,e⟩:=bD e;let⟨ds,M2,e2,e⟩:=bD e;obtain⟨e3,rfl⟩:=cQ e;refine h Z J H R M _ _ _ S e1 λv H1 R1 S1 st1 r1=>?_;cases d0 with
 | obj y gs=>
  have e4:(if y=x/\gs.lookup m=none then g (.obj y gs::ds)else none)=some d:=e3;split at e4
  .rename_i hy;obtain⟨hy,hm⟩:=hy;subst hy;have r1':=r1;cases r1 with
   | obj n' hR rf=>
    have hC:=Ef n n';subst hC;refine⟨_,_,_,rfl,S1.sub _ _ hR,rf.lookup_none hm,?_⟩;refine ha Z J H1 R1 M1 ds _ _ S1 e2 λvs H2 R2 S2 st2 r2=>?_;rw[List.append_nil];have r3:=Rps.cons (r1'.mono st2.r) r2;exact⟨by rw[r3.length];exact hg _ d e4,R2,_,d,S2.sub,r3,e4,λv H3 R3 y q=>k v H3 R3 (S2.ext y) ((st1.trans st2).trans y.stp) q⟩
  .cases e4
 |_=>cases e3
noncomputable def iy(f g:aJ):aJ:=λM=>match f M with
 |some r=>some r
 |none=>g M
def Ea{t1 t2:TE}(h1:ME K O t1 fa)(h2:ME K O t2 fb):ME K O (λJ H Q=>t1 J H Q∨t2 J H Q) (iy fa fb):=λZ J H R M d M' Q S e k=>by
 unfold iy at e;cases e1:fa M with
 | some q=>
  rw[e1]at e;cases e;exact .inl (h1 Z J H R M d M' Q S e1 k)
 | none=>
  rw[e1]at e;exact .inr (h2 Z J H R M d M' Q S e k)
def qrh{M:av}{names:Zj}:p8 x names fs M=(fs M).bind λp=>(if p.1.length=names.length then some (D.obj x (names.zip p.1))else none).map λy=>(y,p.2):=by unfold p8;rw[cq];congr 1;funext p;rw[eF]
def qx9{M:av}:iA x f fa M=(fa M).bind λp=>(iC x f p.1).map λy=>(y,p.2):=by unfold iA;rw[cq];congr 1;funext p;rw[eF]
def qrg{M:av}{g:List D->Option D}:pr x m g fa fs M=(fa M).bind λp=>(fs p.2).bind λq=>(jJ x m g p.1 q.1).map λy=>(y,q.2):=by unfold pr;rw[cq];congr 1;funext p;rw[cq];congr 1;funext q;rw[eF]
def qx2{M:av}:iy fa fb M=(fa M).or (fb M):=by unfold iy;cases fa M<;>rfl
end
end L2
namespace L2
open PySem
inductive Told where
 |clear (b:Int)
 |gap
 |soft (z o:Int)
noncomputable def df:Told->D
 |.clear b=>.tup [.str "clear",.int b]
 |.gap=>.tup [.str "gap"]
 |.soft z o=>.tup [.str "soft",.int z,.int o]
noncomputable def bd:Told->D
 |.clear b=>.obj "Clear" [("bit",.int b)]
 |.gap=>.obj "Gap" []
 |.soft z o=>.obj "Soft" [("zero",.int z),("one",.int o)]
noncomputable def iG:Told->Int->Int
 |.clear b,x=>if x=b then 0 else 1
 |.gap,_=>0
 |.soft z o,x=>if x=1 then o else z
def fS(ts:List Told)(bits:Zf):Int:=((ts.zip bits).map λq=>iG q.1 q.2).sum
def zJ{x m:Str}{f:List D->Option D}{gs:List (Str×D)}{ds:List D}(h:gs.lookup m=none):jJ x m f (.obj x gs) ds=f (.obj x gs::ds):=if_pos ⟨rfl,h⟩
def Ab{x y m:Str}{f:List D->Option D}{gs:List (Str×D)}{ds:List D}(h:¬y=x):jJ x m f (.obj y gs) ds=none:=if_neg λq=>h q.1
def yP{x f:Str}{gs:List (Str×D)}{d:D}(h:gs.lookup f=some d):iC x f (.obj x gs)=some d:=(if_pos rfl).trans h
def bE(U:Zf)(G:Z9)(N:Nat):List Int:=(List.range N).flatMap λk=>List.replicate (bF U G k).length (k:Int)
def qbt{zc:Bool}{n:Nat}{U:Zf}{G:Z9}(w:Zf):∀N,(bE U G N).length=(jK zc n U G w N).length:=λN=>by
 unfold bE jK;induction N with
 |zero=>rfl
 |succ N ih=>rw[i0,i0,jr,jr,ih,jx,jb]
def Gu(xs ys:List D):dn xs ys=(xs.zip ys).map λq=>D.tup [q.1,q.2]:=by unfold dn;rw[List.zip,List.map_zipWith]
theorem zU{α β γ δ:Type}(f:α->γ)(g:β->δ):∀(xs:List α) (ys:List β),(xs.map f).zip (ys.map g)=(xs.zip ys).map λq=>(f q.1,g q.2)
 |[],_=>rfl
 |_::_,[]=>rfl
 | x::xs,y::ys=>by show(f x,g y)::(xs.map f).zip (ys.map g)=(f x,g y)::(xs.zip ys).map _;rw[zU f g xs ys]
def AK:cV (.str "gap") (.str "clear")=some false:=by rw[gQ (by decide+kernel) (by decide+kernel)];decide+kernel
def AJ:cV (.str "soft") (.str "clear")=some false:=by rw[gQ (by decide+kernel) (by decide+kernel)];decide+kernel
def AH:cV (.str "soft") (.str "gap")=some false:=by rw[gQ (by decide+kernel) (by decide+kernel)];decide+kernel
def AL:cV (.str "clear") (.str "clear")=some true:=by rw[gQ (by decide+kernel) (by decide+kernel)];decide+kernel
def AI:cV (.str "gap") (.str "gap")=some true:=by rw[gQ (by decide+kernel) (by decide+kernel)];decide+kernel
abbrev Mv:=Int×Int
abbrev Sx:=List (List Mv)
abbrev Rw:=List (Option Int)
noncomputable def dJ(t:Rw)(z6:Int):Option Int:=(t[z6.toNat]?).join
def dI(q:Mv)(z9:Rw):Option Int:=(dJ z9 q.1).map λx=>q.2+x
def fm(ch:List Mv)(z9:Rw):Option Int:=cG ((ch.map λq=>dI q z9).filterMap id)
noncomputable def bG:List Sx->Rw->List Rw
 |[],ends=>[ends]
 |st::rest,ends=>(st.map λch=>fm ch ((bG rest ends).headD []))::bG rest ends
noncomputable def cg(st:Sx)(z6:Int):List Mv:=st.getD z6.toNat []
noncomputable def dR:List Sx->Rw->Int->List Int->Option Int
 |[],ends,z6,_=>dJ ends z6
 | st::rest,ends,z6,b::bs=>match (cg st z6)[b.toNat]? with
  |some q=>(dR rest ends q.1 bs).map λx=>q.2+x
  |none=>none
 |_::_,_,_,[]=>none
def l9(st:Sx)(t t':Rw)(z6:Int):Int:=if dI ((cg st z6).getD 0 (0,0)) t'=dJ t z6 then 0 else 1
noncomputable def gz:Nat->List Sx->List Rw->Int->List Int
 |0,_,_,_=>[]
 |_+1,[],_,_=>[]
 |_+1,_::_,[],_=>[]
 |n+1,st::rest,t::ts,z6=>l9 st t (ts.headD []) z6::gz n rest ts ((cg st z6).getD (l9 st t (ts.headD []) z6).toNat (0,0)).1
def Af(st:Sx)(rest:List Sx)(ends:Rw)(z6 b:Int)(bs:Zf):dR (st::rest) ends z6 (b::bs)=match (cg st z6)[b.toNat]? with
 |some q=>(dR rest ends q.1 bs).map λx=>q.2+x
 |none=>none:=rfl
def Hu(n:Nat)(st:Sx)(rest:List Sx)(t:Rw)(ts:List Rw)(z6:Int):gz (n+1) (st::rest) (t::ts) z6=l9 st t (ts.headD []) z6::gz n rest ts ((cg st z6).getD (l9 st t (ts.headD []) z6).toNat (0,0)).1:=rfl
theorem Ak:∀(steps:List Sx) (ends:Rw),(bG steps ends).length=steps.length+1
 |[],_=>rfl
 | _::rest,ends=>by unfold bG;rw[jw,Ak rest ends,jw]
theorem Aq:∀(steps:List Sx) (ends:Rw) (k:Nat),k<=steps.length->(bG steps ends).drop k=bG (steps.drop k) ends
 |_,_,0,_=>rfl
 |[],_,k+1,h=>by simp at h
 | _::rest,ends,k+1,h=>by show(bG rest ends).drop k=bG (rest.drop k) ends;exact Aq rest ends k (by simpa using h)
def Aa{ch:List Mv}{z9:Rw}{q:Mv}{x:Int}(h:q∈ch)(e:dI q z9=some x):x∈(ch.map λq=>dI q z9).filterMap id:=by rw[List.mem_filterMap];exact⟨some x,List.mem_map.mpr ⟨q,h,e⟩,rfl⟩
def yM{st:Sx}{f:List Mv->Option Int}{z6:Int}{ch:List Mv}(h:st[z6.toNat]? =some ch):dJ (st.map f) z6=f ch:=by unfold dJ;rw[jq,h];rfl
def uQ{st:Sx}{z6:Int}{ch:List Mv}(h:st[z6.toNat]? =some ch):cg st z6=ch:=by unfold cg;rw[jn,h];rfl
def qrv{st:Sx}{z6:Int}{i:Nat}{q:Mv}(h:(cg st z6)[i]? =some q):st[z6.toNat]? =some (cg st z6):=by
 unfold cg at h ⊢;rw[jn]at h ⊢;cases e:st[z6.toNat]? with
 |none=>rw[e]at h;simp at h
 |some ch=>rfl
theorem zC:∀(steps:List Sx) (ends:Rw) (z6:Int) (us:Zf) (c:Int),dR steps ends z6 us=some c->∃m,dJ ((bG steps ends).headD []) z6=some m/\m<=c
 |[],ends,z6,us,c,h=>⟨c,h,Int.le_refl _⟩
 |st::rest,ends,z6,[],c,h=>by cases h
 | st::rest,ends,z6,b::bs,c,h=>by
  unfold dR at h;cases e:(cg st z6)[b.toNat]? with
  |none=>rw[e]at h;cases h
  | some q=>
   rw[e]at h;simp only at h;cases e1:dR rest ends q.1 bs with
   |none=>rw[e1]at h;cases h
   | some c1=>
    rw[e1]at h;cases h;let⟨m1,h1,h2⟩:=zC rest ends q.1 bs c1 e1;have hc:dI q ((bG rest ends).headD [])=some (q.2+m1):=by unfold dI;rw[h1];rfl
    have hm:=Aa (k8 e) hc;show∃m,dJ (st.map λch=>fm ch ((bG rest ends).headD [])) z6=some m/\_;rw[yM (qrv e)];unfold fm;cases e2:cG (((cg st z6).map λq=>dI q ((bG rest ends).headD [])).filterMap id)with
    |none=>rw[Ac e2]at hm;cases hm
    | some m=>
     have:=(uB e2).2 _ hm;exact⟨m,rfl,by show m<=q.2+c1;omega⟩
def OkS(ρ:Nat):Nat->List Sx->Prop
 |_,[]=>True
 |n,st::rest=>st.length=ρ/\(∀ch∈st,ch.length=(if n=0 then 1 else 2)/\∀q∈ch,0<=q.1/\q.1.toNat<ρ)/\OkS ρ (n-1) rest
noncomputable def jP(k:Nat):List Int:=List.replicate k 0
def Hg(a:Int)(xs ys:Zf):HT.lexLt (a::xs) (a::ys)=HT.lexLt xs ys:=by rw[HT.lexLt_cons,if_pos rfl]
def qeq{q:Mv}{z9:Rw}:fm [q] z9=dI q z9:=by
 unfold fm;cases h:dI q z9 with
 |none=>simp[h];rfl
 | some x=>
  simp[h];exact qqg (by simp) (by simp)
def qkc{q0 q1:Mv}{z9:Rw}{m:Int}(h:fm [q0,q1] z9=some m):(dI q0 z9=some m∨dI q1 z9=some m)/\(∀x,dI q0 z9=some x->m<=x)/\∀x,dI q1 z9=some x->m<=x:=by
 unfold fm at h;let⟨h1,h2⟩:=uB h;refine⟨?_,λx hx=>h2 x (Aa (by simp) hx),λx hx=>h2 x (Aa (by simp) hx)⟩;rw[List.mem_filterMap]at h1;obtain⟨o,ho,eo⟩:=h1;have eo:o=some m:=eo;subst eo;simp at ho;rcases ho with ho|ho
 .exact .inl ho.symm
 .exact .inr ho.symm
def two_of{α:Type}{xs:List α}(h:xs.length=2):∃a b,xs=[a,b]:=by
 match xs,h with
 |[a,b],_=>exact⟨a,b,rfl⟩
theorem uR(ρ:Nat):∀(steps:List Sx) (n:Nat) (ends:Rw) (z6:Int) (m:Int),OkS ρ n steps->n<=steps.length->(0<=z6/\z6.toNat<ρ)->dJ ((bG steps ends).headD []) z6=some m->
 az (gz n steps (bG steps ends) z6)/\(gz n steps (bG steps ends) z6).length=n/\dR steps ends z6 (gz n steps (bG steps ends) z6++jP (steps.length-n))=some m/\
 ∀w,az w->w.length=n->dR steps ends z6 (w++jP (steps.length-n))=some m->HT.lexLt w (gz n steps (bG steps ends) z6)=false
 |[],0,ends,z6,m,_,_,_,h=>⟨λb h=>(nomatch h),rfl,h,λw _ hw _=>by rw[List.eq_nil_of_length_eq_zero hw];rfl⟩
 |[],n+1,_,_,_,_,hn,_,_=>by simp at hn
 | st::rest,0,ends,z6,m,ok,_,hr,h=>by
  obtain⟨o1,o2,o3⟩:=ok;have hlt:z6.toNat<st.length:=by rw[o1];exact hr.2
  have es:st[z6.toNat]? =some st[z6.toNat]:=ji hlt;let⟨c1,c2⟩:=o2 _ (xw hlt);rw[if_pos rfl]at c1;let⟨q,eq⟩:=List.length_eq_one_iff.mp c1;have h:dJ (st.map λch=>fm ch ((bG rest ends).headD [])) z6=some m:=h;rw[yM es,eq,qeq]at h;unfold dI at h;cases e1:dJ ((bG rest ends).headD []) q.1 with
  |none=>rw[e1]at h;cases h
  | some m1=>
   rw[e1]at h;cases h;have hq:=c2 q (by rw[eq];simp);let⟨_,_,g3,_⟩:=uR ρ rest 0 ends q.1 m1 (by simpa using o3) (Nat.zero_le _) hq e1;refine⟨λb h=>(nomatch h),rfl,?_,λw _ hw _=>by rw[List.eq_nil_of_length_eq_zero hw];rfl⟩;show dR (st::rest) ends z6 ([]++jP (rest.length+1-0))=_;have ez:jP (rest.length+1-0)=0::jP rest.length:=rfl;rw[List.nil_append,ez];unfold dR;rw[uQ es,eq];simp only[Int.toNat_zero,List.getElem?_cons_zero];have g3:dR rest ends q.1 ([]++jP (rest.length-0))=some m1:=g3;rw[List.nil_append,Nat.sub_zero]at g3;rw[g3];rfl
 | st::rest,n+1,ends,z6,m,ok,hn,hr,h=>by
  obtain⟨o1,o2,o3⟩:=ok;have hlt:z6.toNat<st.length:=by rw[o1];exact hr.2
  have es:st[z6.toNat]? =some st[z6.toNat]:=ji hlt;let⟨c1,c2⟩:=o2 _ (xw hlt);rw[if_neg (by omega)]at c1;let⟨q0,q1,eq⟩:=two_of c1;have h0:dJ (st.map λch=>fm ch ((bG rest ends).headD [])) z6=some m:=h;rw[yM es,eq]at h0;let⟨t1,t2,t3⟩:=qkc h0;have ech:cg st z6=[q0,q1]:=by rw[uQ es,eq]
  have hq0:=c2 q0 (by rw[eq];simp);have hq1:=c2 q1 (by rw[eq];simp);have hn':n<=rest.length:=by simpa using hn
  have ln:(st::rest).length-(n+1)=rest.length-n:=by simp
  have hd:(bG (st::rest) ends)=(st.map λch=>fm ch ((bG rest ends).headD []))::bG rest ends:=rfl;have ea:dJ (st.map λch=>fm ch ((bG rest ends).headD [])) z6=some m:=h;rw[ln,hd];have o3:OkS ρ n rest:=by simpa using o3
  have pc:∀(b:Int) (bs:Zf) (q:Mv),[q0,q1][b.toNat]? =some q->dR (st::rest) ends z6 (b::bs)=(dR rest ends q.1 bs).map λx=>q.2+x:=λb bs q e=>by rw[Af,ech,e]
  by_cases z:dI q0 ((bG rest ends).headD [])=some m
  .have eb:l9 st (st.map λch=>fm ch ((bG rest ends).headD [])) ((bG rest ends).headD []) z6=0:=by
    unfold l9;rw[ech,ea];exact if_pos z
   have eg:gz (n+1) (st::rest) ((st.map λch=>fm ch ((bG rest ends).headD []))::bG rest ends) z6=0::gz n rest (bG rest ends) q0.1:=by rw[Hu,eb,ech];rfl
   rw[eg];unfold dI at z;cases e1:dJ ((bG rest ends).headD []) q0.1 with
   |none=>rw[e1]at z;cases z
   | some m1=>
    rw[e1]at z;have z:q0.2+m1=m:=jl z;let⟨g1,g2,g3,g4⟩:=uR ρ rest n ends q0.1 m1 o3 hn' hq0 e1;refine⟨λb hb=>?_,by rw[jw,g2],?_,λw hw lw pw=>?_⟩
    .rcases List.mem_cons.mp hb with rfl|hb
     .exact .inl rfl
     .exact g1 b hb
    .rw[List.cons_append,pc 0 _ q0 rfl,g3];exact congrArg some z
    .cases w with
     |nil=>simp at lw
     | cons b bs=>
      have hbs:az bs:=λx hx=>hw x (jh _ hx);have lbs:bs.length=n:=by simpa using lw
      rcases hw b jj with rfl|rfl
      .rw[Hg];rw[List.cons_append,pc 0 _ q0 rfl]at pw;refine g4 bs hbs lbs ?_;cases e2:dR rest ends q0.1 (bs++jP (rest.length-n))with
       |none=>rw[e2]at pw;cases pw
       | some c=>
        rw[e2]at pw;have pw:q0.2+c=m:=jl pw;congr 1;omega
      .rw[HT.lexLt_cons,if_neg (by decide)];decide
  .have z1:dI q1 ((bG rest ends).headD [])=some m:=t1.resolve_left z;have eb:l9 st (st.map λch=>fm ch ((bG rest ends).headD [])) ((bG rest ends).headD []) z6=1:=by
    unfold l9;rw[ech,ea];exact if_neg z
   have eg:gz (n+1) (st::rest) ((st.map λch=>fm ch ((bG rest ends).headD []))::bG rest ends) z6=1::gz n rest (bG rest ends) q1.1:=by rw[Hu,eb,ech];rfl
   rw[eg];unfold dI at z1;cases e1:dJ ((bG rest ends).headD []) q1.1 with
   |none=>rw[e1]at z1;cases z1
   | some m1=>
    rw[e1]at z1;have z1:q1.2+m1=m:=jl z1;let⟨g1,g2,g3,g4⟩:=uR ρ rest n ends q1.1 m1 o3 hn' hq1 e1;refine⟨λb hb=>?_,by rw[jw,g2],?_,λw hw lw pw=>?_⟩
    .rcases List.mem_cons.mp hb with rfl|hb
     .exact .inr rfl
     .exact g1 b hb
    .rw[List.cons_append,pc 1 _ q1 rfl,g3];exact congrArg some z1
    .cases w with
     |nil=>simp at lw
     | cons b bs=>
      have hbs:az bs:=λx hx=>hw x (jh _ hx);have lbs:bs.length=n:=by simpa using lw
      rcases hw b jj with rfl|rfl
      .exfalso;rw[List.cons_append,pc 0 _ q0 rfl]at pw;cases e2:dR rest ends q0.1 (bs++jP (rest.length-n))with
       |none=>rw[e2]at pw;cases pw
       | some c=>
        rw[e2]at pw;have pw:q0.2+c=m:=jl pw;let⟨m0,h1,h2⟩:=zC rest ends q0.1 _ c e2;have hc:dI q0 ((bG rest ends).headD [])=some (q0.2+m0):=by unfold dI;rw[h1];rfl
        have:=t2 _ hc;have e3:q0.2+m0=m:=by omega
        exact z (by rw[hc,e3])
      .rw[Hg];rw[List.cons_append,pc 1 _ q1 rfl]at pw;refine g4 bs hbs lbs ?_;cases e2:dR rest ends q1.1 (bs++jP (rest.length-n))with
       |none=>rw[e2]at pw;cases pw
       | some c=>
        rw[e2]at pw;have pw:q1.2+c=m:=jl pw;congr 1;omega
theorem F9:∀a b:List Int,HT.lexLt a b=false->HT.lexLt b a=false->a=b
 |[],[],_,_=>rfl
 |[],_::_,h,_=>by cases h
 |_::_,[],_,h=>by cases h
 | x::xs,y::ys,h,g=>by
  rw[HT.lexLt_cons]at h g;by_cases q:x=y
  .rw[if_pos q]at h;rw[if_pos q.symm]at g;rw[q,F9 xs ys h g]
  .rw[if_neg q]at h;rw[if_neg λz=>q z.symm]at g;simp only[decide_eq_false_iff_not]at h g;omega
def pf{x y:Int×List Int}(h:bY x y=false)(g:bY y x=false):x=y:=by
 unfold bY kJ at h g;by_cases q:x.1=y.1
 .rw[if_pos q]at h;rw[if_pos q.symm]at g;exact Prod.ext q (F9 _ _ h g)
 .rw[if_neg q]at h;rw[if_neg λz=>q z.symm]at g;simp only[decide_eq_false_iff_not]at h g;omega
def qhe{x y z:Int×List Int}(h:bY x y=false)(g:bY y z=false):bY x z=false:=by
 cases q:bY x z with
 |false=>rfl
 | true=>
  have e:=pf h (qQ x z y q g);rw[e,g]at q;cases q
structure Near(n:Nat)(cost:List Int->Int)(x:Int×List Int):Prop where
 bits:az x.2
 len:x.2.length=n
 val:x.1=cost x.2
 least:∀w,az w->w.length=n->bY (cost w,w) x=false
section
variable(r:Int)(U:Zf)(G:Z9)(e:Str)(ts:List Told)(n:Nat)
def aQ(k:Nat):List Told:=(ts.drop (bE U G k).length).take (bF U G k).length
def il(k:Nat)(z6 bit:Int):Mv:=((2*z6+bit) % 2^r.toNat,fS (aQ U G ts k) (gk (aK G k) (U.map (dZ (2*z6+bit)))))
noncomputable def eL(k:Nat):List Int:=if k<n then [0,1]else [0]
def stepK(k:Nat):Sx:=(List.range (2^r.toNat)).map λ(z6:Nat)=>(eL n k).map λb=>il r U G ts k (z6:Int) b
def bQ(k len:Nat):List Sx:=(List.range' k len).map (stepK r U G ts n)
noncomputable def d5(s:Int):Rw:=(List.range (2^r.toNat)).map λ(z6:Nat)=>if e="open"∨(z6:Int)=(if e="ring" then s else 0)then some 0 else none
def eU(w:Zf):Int:=fS ts (qp r.toNat U G (bo r e w) (tM r e w))
end
section
variable{r:Int}{U:Zf}{G:Z9}{e:Str}{ts:List Told}{n:Nat}
def vB(k len:Nat):bQ r U G ts n k (len+1)=stepK r U G ts n k::bQ r U G ts n (k+1) len:=by unfold bQ;rw[List.range'_succ];rfl
def gR:((2^r.toNat:Nat):Int)=(2:Int)^r.toNat:=by rw[Int.natCast_pow];rfl
theorem pF:∀(len k:Nat),OkS (2^r.toNat) (n-k) (bQ r U G ts n k len)
 |0,k=>True.intro
 | len+1,k=>by
  rw[vB];refine⟨by unfold stepK;simp,λch hch=>?_,by rw[Nat.sub_sub];exact pF len (k+1)⟩;unfold stepK at hch;obtain⟨z6,hr,rfl⟩:=List.mem_map.mp hch;refine⟨?_,λq hq=>?_⟩
  .unfold eL;by_cases h:k<n
   .rw[if_pos h,if_neg (by omega)];rfl
   .rw[if_neg h,if_pos (by omega)];rfl
  .obtain⟨b,_,rfl⟩:=List.mem_map.mp hq;have h1:(0:Int)<2^r.toNat:=Int.pow_pos (by decide);have h2:=Int.emod_nonneg (2*(z6:Int)+b) (by omega:(2:Int)^r.toNat≠0);have h3:=Int.emod_lt_of_pos (2*(z6:Int)+b) h1;have h4:=gR (r:=r);refine⟨h2,?_⟩;show((2*(z6:Int)+b) % 2^r.toNat).toNat<_;omega
def GE{k:Nat}{z6:Int}(h0:0<=z6)(h1:z6<2^r.toNat):cg (stepK r U G ts n k) z6=(eL n k).map λb=>il r U G ts k z6 b:=by
 have h4:=gR (r:=r);have lt:z6.toNat<2^r.toNat:=by omega
 refine uQ ?_;unfold stepK;rw[jq,kc lt];simp only[Option.map_some,Int.toNat_of_nonneg h0]
theorem zK{a:Int}{u:Zf}(ha:0<=a/\a<2^r.toNat)(hb:az u)(hz:∀k b,n<=k->u[k]? =some b->b=0)(ends:Rw):∀(len k:Nat),k+len=u.length->
 dR (bQ r U G ts n k len) ends (ba (2^r.toNat) a (u.take k)) (u.drop k)=(dJ ends (ba (2^r.toNat) a u)).map λx=>((List.range' k len).map λj=>fS (aQ U G ts j) (fN r.toNat U G a u j)).sum+x
 | 0,k,h=>by
  have e1:u.take k=u:=List.take_of_length_le (by omega);rw[e1];show dJ ends _=_;cases dJ ends (ba (2^r.toNat) a u)with
  |none=>rfl
  |some x=>simp
 | len+1,k,h=>by
  have lt:k<u.length:=by omega
  have ek:u[k]? =some u[k]:=ji lt;have mp:(0:Int)<2^r.toNat:=Int.pow_pos (by decide);have hr:=kL mp (u.take k) a ha;rw[vB,vh lt,Af,GE hr.1 hr.2];have eb:((eL n k).map λb=>il r U G ts k (ba (2^r.toNat) a (u.take k)) b)[u[k].toNat]? =some (il r U G ts k (ba (2^r.toNat) a (u.take k)) u[k]):=by
   unfold eL;by_cases h1:k<n
   .rw[if_pos h1];rcases hb _ (xw lt)with z|z
    .rw[z];rfl
    .rw[z];rfl
   .have z:=hz k _ (by omega) ek;rw[if_neg h1,z];rfl
  rw[eb];simp only;have en:(il r U G ts k (ba (2^r.toNat) a (u.take k)) u[k]).1=ba (2^r.toNat) a (u.take (k+1)):=by rw[cI ek,zV];show(2*_+u[k]) % _=_;congr 1;omega
  rw[en,zK ha hb hz ends len (k+1) (by omega),Option.map_map];have es:(il r U G ts k (ba (2^r.toNat) a (u.take k)) u[k]).2=fS (aQ U G ts k) (fN r.toNat U G a u k):=by unfold fN;rw[jn,ek];rfl
  rw[es,List.range'_succ,x8,List.sum_cons];congr 1;funext x;show _+(_+x)=_;omega
def qje{a b:List Told}{c d:Zf}(h:a.length=c.length):fS (a++b) (c++d)=fS a c+fS b d:=by unfold fS;rw[List.zip_append h,xk,List.sum_append]
def Hk{a:Int}{u:Zf}{m:Nat}(k:Nat):(fN m U G a u k).length=(bF U G k).length:=by unfold fN;rw[Ag,jb];rfl
def vC(N:Nat):(bE U G (N+1)).length=(bE U G N).length+(bF U G N).length:=by unfold bE;rw[i0,jr,jx]
theorem zX{m:Nat}{a:Int}{u:Zf}:∀N,((List.range N).flatMap (fN m U G a u)).length=(bE U G N).length
 |0=>rfl
 |N+1=>by rw[i0,jr,zX N,Hk,vC]
theorem Hd{m:Nat}{a:Int}{u:Zf}:∀N,(bE U G N).length<=ts.length->fS (ts.take (bE U G N).length) ((List.range N).flatMap (fN m U G a u))=((List.range' 0 N).map λj=>fS (aQ U G ts j) (fN m U G a u j)).sum
 |0,_=>rfl
 | N+1,h=>by
  rw[vC]at h;have e1:ts.take (bE U G (N+1)).length=ts.take (bE U G N).length++aQ U G ts N:=by rw[vC,List.take_add];rfl
  rw[e1,i0,qje (by rw[k6,zX];omega),Hd N (by omega),List.range'_concat,xk,List.sum_append];simp
def qk8{a:Int}{u:Zf}(hl:ts.length=(bE U G u.length).length):fS ts (qp r.toNat U G a u)=((List.range' 0 u.length).map λj=>fS (aQ U G ts j) (fN r.toNat U G a u j)).sum:=by have h:=Hd (ts:=ts) (U:=U) (G:=G) (m:=r.toNat) (a:=a) (u:=u) u.length (by omega);rw[List.take_of_length_le (by omega)]at h;exact h
def Hs{w:Zf}(hw:w.length=n):∀k b,n<=k->(w++List.replicate (aC r e) 0)[k]? =some b->b=0:=λk b hk h=>by rw[ke (by omega)]at h;exact List.eq_of_mem_replicate (k8 h)
def Fz{s z6:Int}(h0:0<=z6)(h1:z6<2^r.toNat):dJ (d5 r e s) z6=if e="open"∨z6=(if e="ring" then s else 0)then some 0 else none:=by
 have h4:=gR (r:=r);have lt:z6.toNat<2^r.toNat:=by omega
 unfold dJ d5;rw[jq,kc lt];simp only[Option.map_some,Option.join_some,Int.toNat_of_nonneg h0]
def zH(hb:∀w:List Int,az w->0<=aP w/\aP w<2^w.length)(w:Zf)(hw:az w)(hl:e="ring"->r.toNat<=w.length):0<=bo r e w/\bo r e w<2^r.toNat:=by
 unfold bo;by_cases h:e="ring"
 .rw[if_pos h];have hd:az (w.drop (w.length-r.toNat)):=λb m=>hw b (List.mem_of_mem_drop m);have:=hb _ hd;rw[xv,show w.length-(w.length-r.toNat)=r.toNat from by have:=hl h;omega]at this;exact this
 .rw[if_neg h];exact⟨Int.le_refl _,Int.pow_pos (by decide)⟩
def G0{w:Zf}(hb:az w):az (w++List.replicate (aC r e) 0):=gS hb (px _)
def G5{w:Zf}(hb:az w)(hw:w.length=n)(hl:e="ring"->r.toNat<=n)(hen:e="open"∨e="ended"∨e="ring")(ht:ts.length=(bE U G (n+aC r e)).length):
 dR (bQ r U G ts n 0 (n+aC r e)) (d5 r e (bo r e w)) (bo r e w) (w++List.replicate (aC r e) 0)=some (eU r U G e ts w):=by
 have hf:=zH (r:=r) (e:=e) kO w hb (by rw[hw];exact hl);have lu:(w++List.replicate (aC r e) 0).length=n+aC r e:=by rw[jr,jx,hw]
 have h:=zK (r:=r) (U:=U) (G:=G) (ts:=ts) (n:=n) hf (G0 (r:=r) (e:=e) hb) (Hs hw) (d5 r e (bo r e w)) (n+aC r e) 0 (by omega);have h':dR (bQ r U G ts n 0 (n+aC r e)) (d5 r e (bo r e w)) (bo r e w) (w++List.replicate (aC r e) 0)=_:=h;rw[h'];have mp:(0:Int)<2^r.toNat:=Int.pow_pos (by decide);have he:=kL mp (w++List.replicate (aC r e) 0) _ hf;rw[Fz he.1 he.2,if_pos]
 .unfold eU;rw[zD,qk8 (by rw[lu];exact ht),lu];simp
 .rcases hen with h1|h1|h1
  .exact .inl h1
  .refine .inr ?_;have h2:¬e="ring":=by rw[h1];decide
   have h3:aC r e=r.toNat:=by unfold aC;rw[if_pos h1]
   rw[if_neg h2,h3];unfold bo;rw[if_neg h2];exact qj7 r.toNat w
  .refine .inr ?_;have h2:¬e="ended":=by rw[h1];decide
   have h3:aC r e=0:=by unfold aC;rw[if_neg h2]
   rw[if_pos h1,h3];simp only[List.replicate_zero,List.append_nil];unfold bo;rw[if_pos h1];exact qmi r.toNat w hb (by rw[hw];exact hl h1)
theorem EQ:∀(m:Nat) (x:Int),0<=x->x<2^m->∃p:List Int,p.length=m/\az p/\aP p=x
 |0,x,h0,h1=>⟨[],rfl,λ_ h=>(nomatch h),by have:x<1:=h1;show(0:Int)=x;omega⟩
 | m+1,x,h0,h1=>by
  have h2:x / 2<2^m:=by rw[Int.pow_succ]at h1;omega
  let⟨p,p1,p2,p3⟩:=EQ m (x / 2) (by omega) h2;refine⟨p++[x % 2],by rw[jr,p1];rfl,gS p2 λb hb=>?_,by rw[Ai,p3];omega⟩;rw[List.mem_singleton.mp hb];omega
def qkh{w:Zf}{s:Int}(hb:az w)(hl:r.toNat<=w.length)(h0:0<=s)(h1:s<2^r.toNat)(h:ba (2^r.toNat) s w=s):aP (w.drop (w.length-r.toNat))=s:=by
 let⟨p,p1,p2,p3⟩:=EQ r.toNat s h0 h1;have g:=FP r.toNat p w p1 p2 hb w.length (jg _);rw[List.take_length,p3,h]at g;rw[g];congr 1;have e1:(p++w).drop w.length=w.drop (w.length-r.toNat):=by rw[List.drop_append,List.drop_eq_nil_of_le (by omega),List.nil_append,p1]
 rw[e1,List.take_of_length_le (by rw[xv];omega)]
section
variable(r:Int)(U:Zf)(G:Z9)(e:Str)(ts:List Told)(n:Nat)
noncomputable def cM:List Int:=if e="ring" then(List.range (2^r.toNat)).map λ(k:Nat)=>(k:Int)else [0]
def eO(s:Int):List Rw:=bG (bQ r U G ts n 0 (n+aC r e)) (d5 r e s)
end
def u0{s:Int}(h:s∈cM r e):0<=s/\s<2^r.toNat:=by
 unfold cM at h;by_cases q:e="ring"
 .rw[if_pos q]at h;obtain⟨k,hk,rfl⟩:=List.mem_map.mp h;have:=List.mem_range.mp hk;have h4:=gR (r:=r);omega
 .rw[if_neg q]at h;rw[List.mem_singleton.mp h];exact⟨Int.le_refl _,Int.pow_pos (by decide)⟩
def He{w:Zf}(hb:az w)(hl:e="ring"->r.toNat<=w.length):bo r e w∈cM r e:=by
 have h:=zH (r:=r) (e:=e) kO w hb hl;unfold cM;by_cases q:e="ring"
 .rw[if_pos q];have h4:=gR (r:=r);exact List.mem_map.mpr ⟨(bo r e w).toNat,List.mem_range.mpr (by omega),Int.toNat_of_nonneg h.1⟩
 .rw[if_neg q];unfold bo;rw[if_neg q];simp
def qhm{w:Zf}{s c:Int}(hs:s∈cM r e)(hb:az w)(hw:w.length=n)(hl:e="ring"->r.toNat<=n)(hen:e="open"∨e="ended"∨e="ring")(ht:ts.length=(bE U G (n+aC r e)).length)
 (h:dR (bQ r U G ts n 0 (n+aC r e)) (d5 r e s) s (w++List.replicate (aC r e) 0)=some c):s=bo r e w/\c=eU r U G e ts w:=by
 have h1:=u0 hs;have es:s=bo r e w:=by
  by_cases q:e="ring"
  .have lu:(w++List.replicate (aC r e) 0).length=n+aC r e:=by rw[jr,jx,hw]
   have g:=zK (r:=r) (U:=U) (G:=G) (ts:=ts) (n:=n) h1 (G0 (r:=r) (e:=e) hb) (Hs hw) (d5 r e s) (n+aC r e) 0 (by omega);have g':dR (bQ r U G ts n 0 (n+aC r e)) (d5 r e s) s (w++List.replicate (aC r e) 0)=_:=g;rw[g']at h;have mp:(0:Int)<2^r.toNat:=Int.pow_pos (by decide);have he:=kL mp (w++List.replicate (aC r e) 0) _ h1;have h2:¬e="ended":=by rw[q];decide
   have h5:¬e="open":=by rw[q];decide
   have h3:aC r e=0:=by unfold aC;rw[if_neg h2]
   rw[Fz he.1 he.2]at h;by_cases z:e="open"∨ba (2^r.toNat) s (w++List.replicate (aC r e) 0)=(if e="ring" then s else 0)
   .rcases z with z|z
    .exact absurd z h5
    .rw[if_pos q,h3]at z;simp only[List.replicate_zero,List.append_nil]at z;unfold bo;rw[if_pos q];exact(qkh hb (by rw[hw];exact hl q) h1.1 h1.2 z).symm
   .rw[if_neg z]at h;cases h
  .unfold cM at hs;rw[if_neg q]at hs;unfold bo;rw[if_neg q];exact List.mem_singleton.mp hs
 refine⟨es,?_⟩;rw[es,G5 hb hw hl hen ht]at h;exact(jl h).symm
end
end L2
namespace L2
open PySem PySem.Spec PyProof.Rows
def DRaw(h:Heap)(d:Addr)(es:Array DictEntry)(ep:Nat):Prop:=∃o,h.get? d=some o/\o.ExactDict/\o.data=.dict es ep
def DRaw.ty{s:Shared}{d:Addr}{es:Array DictEntry}{ep:Nat}(x:DRaw s.heap d es ep):s.TypeIs (.ref d) "dict":=let ⟨o,e,c,_⟩:=x;⟨o,e,c.1⟩
def DRaw.at_{h h':Heap}{d:Addr}{es:Array DictEntry}{ep:Nat}(x:DRaw h d es ep)(k:∀o,h.get? d=some o->h'.get? d=some o):DRaw h' d es ep:=let ⟨o,e,r⟩:=x;⟨o,k o e,r⟩
section
variable{prog:Program}{w:World}{A:Around}{E:Z0}{s:Shared}
def qlr{d:Addr}{es:Array DictEntry}{ep:Nat}{Q:Z0}(nd:(d==sysModules)=false)(x:DRaw s.heap d es ep)
 (q:Q (.ref s.heap.objs.size) {s with heap:=s.heap.push {cls:=.type "dict_keyiterator",data:=.fields #[.ref d,.int 0 0,.int es.size 0,.int ep 0]}}):wpAny (model prog w) A (pyIter (.ref d)) Q E s:=by
 let⟨o,e,c,dt⟩:=id x;refine wpAny_pyIter_slot x.ty F.slot_dict_iter (kh F.slot_dict_iter x.ty F.entry_dict_iter ?_ (F.args_dict_iter_1 _));unfold Builtin.«dict.__iter__» Builtin.Dict.dictSlotNone;refine ja (ja (wpAny_notOrdered_dict x.ty ?_));show wpAny _ _ (pure (Value.ref d)) _ _ s;refine jc ?_;unfold Builtin.Dict.showsAll;show wpAny _ _ ((if(d==sysModules)=true then _ else _) >>= _) _ _ s;rw[if_neg (by rw[nd];decide)];exact ja (jc (ja (wpAny_dictEntries e dt (ja (wpAny_dictEpoch e dt (ja (kf (jc ⟨_,rfl,"dict_keyiterator",_,⟨_,ju _ rfl,rfl⟩,F.slot_dict_keyiterator_next.lookup,q⟩))))))))
def qls{it d:Addr}{i ep:Nat}{es:Array DictEntry}{Q:Option Value->Shared->Prop}(g:s.heap.IsKeyIter it d i es.size ep)(x:DRaw s.heap d es ep)(hi:i<es.size)
 (q:∀h',h'.IsKeyIter it d (i+1) es.size ep->Heap.SameBut it s.heap h'->Q (some es[i].key) {s with heap:=h'}):wpAny (model prog w) A (pyNext (.ref it)) Q E s:=by
 let⟨oi,ei,ci,fi⟩:=id g;let⟨o,e,c,dt⟩:=id x;have own0:Builtin.Dict_items.ownsTuple "dict_keyiterator"=false:=by decide
 unfold pyNext;refine ja (wpAny_attempt (va (name:=Str.ofString "__next__") g.typeIs sY (kh sY g.typeIs F.entry_dict_keyiterator_next (ja (jc (ja ?_))) (F.args_dict_keyiterator_next_1 _))));refine ja (ja (sX g.typeIs (jc (ja (wpAny_fieldsOf ei fi ?_)))));simp only[own0,Bool.false_eq_true,if_false];show wpAny _ _ (if(Value.ref d==Value.none)=true then _ else _) _ _ s;have nn:(Value.ref d==Value.none)=false:=rfl;rw[if_neg (by rw[nn];decide)];refine ja (jc (ja (wpAny_dictEntries e dt ?_)));rw[if_neg (by simp)];refine ja (jc (ja (wpAny_dictEpoch e dt ?_)));rw[if_neg (by simp)];refine jc ?_;have n0:¬((i:Int)<0):=by omega
 simp only[n0,if_false,Int.toNat_natCast,Array.getElem?_eq_getElem hi];refine ja (ja (sX g.typeIs (jc (ja (wpAny_isOneOf_keyiter g.typeIs ?_)))));show wpAny _ _ (setField (.ref it) 1 (rawInt ((i:Int)+1)) >>= _) _ _ s;have g':(s.heap.update it (Obj.mapFields (·.setIfInBounds 1 (rawInt ((i:Int)+1))))).IsKeyIter it d (i+1) es.size ep:=
  ⟨_,vc _ ei (Obj.isFreed_of_fields (vg fi _)),(Obj.cls_mapFields ..).trans ci,by rw[vg fi];simp[rawInt]⟩
 refine ja (ve ei fi (by simp) (ja (xr (ja (wpAny_isOneOf_keyiter (s:={s with heap:=s.heap.update it (Obj.mapFields (·.setIfInBounds 1 (rawInt ((i:Int)+1))))}) g'.typeIs ?_)))));show wpAny _ _ (pure es[i].key) _ _ _;exact jc (jc ⟨_,rfl,jc (q _ g' (vf ..))⟩)
def qqq{it d:Addr}{i ep:Nat}{es:Array DictEntry}{Q:Option Value->Shared->Prop}(hh:A.handled=none)(g:s.heap.IsKeyIter it d i es.size ep)(x:DRaw s.heap d es ep)(hi:es.size<=i)
 (q:∀h',Heap.ExtBut it s.heap h'->Q none {s with heap:=h'}):wpAny (model prog w) A (pyNext (.ref it)) Q E s:=by
 let⟨oi,ei,ci,fi⟩:=id g;let⟨o,e,c,dt⟩:=id x;have own0:Builtin.Dict_items.ownsTuple "dict_keyiterator"=false:=by decide
 unfold pyNext;refine ja (wpAny_attempt (va (name:=Str.ofString "__next__") g.typeIs sY (kh sY g.typeIs F.entry_dict_keyiterator_next (ja (jc (ja ?_))) (F.args_dict_keyiterator_next_1 _))));refine ja (ja (sX g.typeIs (jc (ja (wpAny_fieldsOf ei fi ?_)))));simp only[own0,Bool.false_eq_true,if_false];show wpAny _ _ (if(Value.ref d==Value.none)=true then _ else _) _ _ s;have nn:(Value.ref d==Value.none)=false:=rfl;rw[if_neg (by rw[nn];decide)];refine ja (jc (ja (wpAny_dictEntries e dt ?_)));rw[if_neg (by simp)];refine ja (jc (ja (wpAny_dictEpoch e dt ?_)));rw[if_neg (by simp)];refine jc ?_;have n0:¬((i:Int)<0):=by omega
 simp only[n0,if_false,Int.toNat_natCast,Array.getElem?_eq_none hi];refine ja (ja (sX g.typeIs (jc ?_)));show wpAny _ _ (setField (.ref it) 0 .none >>= _) _ _ s;refine ja (ve ei fi (by simp) ?_);show wpAny _ _ (newExc (.type "StopIteration") [] >>= _) _ _ _;simp only[newExc,newTuple,raiseNew];refine ja (ja (kf (ja (m:=firstArgMember _ _) (wpAny_of_eq (a:=Value.none) (by first|rfl|(simp only[firstArgMember];rfl)) (kf ?_ (by size_fits)))) (by size_fits)));refine ja (wpAny_handled ?_);rw[show A.in1.handled=none from hh];refine ja (jc (wpAny_throw ?_));exact ja (wpAny_isInstance (T:="StopIteration") (b:=true) ⟨_,ju _ rfl,rfl⟩ isSubtype_stop (jc (q _ (((vf ..).extBut.push _).push _))))
end
def qt3{X:Cx}{z5:Z3}{J:St}{H:Hp}{s:Shared}(I:Inv X z5 J H s):sysModules<s.heap.objs.size:=by have h:mainGlobals<s.heap.objs.size:=(I.mod.glob.keeps I.bk).lt;exact Nat.lt_trans (by decide) h
def DD:TE:=λ_ H Q=>∀p,H p=none->Q (.ref p) (aN H p (.dK []))
def qpm{X:Cx}{pos:Pos}:PE X (.Dict [] [] pos) DD:=λz5 s J H Q I h=>
 wpAny_Dict_empty ⟨.ref s.heap.objs.size,_,I.laid (a:=s.heap.objs.size) (o:=.dK []) (t':=s.toks) (λ_ _ q=>je _ q) (jg _)
  ⟨Nat.zero_le _,beq_eq_false_iff_ne.mpr (Ne.symm (jo (qt3 I))),[],.nil,_,#[],ju _ rfl,⟨rfl,rfl,rfl⟩,rfl,λe he=>by simp at he,.nil,List.nodup_nil⟩,rfl,h _ (I.hok.fresh (jg _))⟩
section
variable{prog:Program}{w:World}{κ:Type}[DecidableEq κ]{knd:KeyKind prog w κ}{A:Around}{E:Z0}{s:Shared}
def qyb{d:Addr}{kvs:List (κ×Value)}{n:Nat}{k:κ}{key v:Value}{Q:Unit->Shared->Prop}(hk:knd.is k key=true)(hm:DictN knd s.heap d kvs n)(hz:kvs.length<=sizeLine)(nk:k∉kvs.map (·.1))
 (q:∀h',DictN knd h' d (kvs++[(k,v)]) (n+1)->Heap.SameBut d s.heap h'->Q () {s with heap:=h',toks:=s.toks+1}):wpAny (model prog w) A (dictSet d key v) Q E s:=by
 obtain⟨o,es,g0,cx,dt,ko,hp,nd⟩:=hm;have z1:es.size=kvs.length:=by have:=hp.length;simpa using this
 have fi:es.findIdx? (λe=>knd.is k e.key)=none:=by
  have h1:=hp.findIdx k;have h2:kvs.findIdx? (λkv=>decide (kv.1=k))=none:=by rw[List.findIdx?_eq_none_iff];intro x hx;exact decide_eq_false λe=>nk (List.mem_map.mpr ⟨x,hx,e⟩)
  rw[h2]at h1;obtain⟨l⟩:=es;simpa using h1
 unfold dictSet
 (try with_reducible refine xr ?_);refine ja (knd.pyHash hk ?_);unfold dictSetHashed
 (try with_reducible refine xr ?_);refine ja (wpAny_dictFind_of (s:={s with toks:=s.toks+1}) hk g0 dt ko ?_);rw[fi];refine ja (wpAny_rule (wpAny_updateDictKeys (hz:=by omega) (s:={s with toks:=s.toks+1}) g0 dt (q _ ?_ (vf ..))));refine⟨_,_,vc _ g0 (Obj.isFreed_of_dict (Obj.data_mapDictKeys dt _)),cx.mapDictKeys _,Obj.data_mapDictKeys dt _,ko.push hk v,?_,?_⟩
 .have:=hp.append hk (knd.hash k) v;simpa using this
 .rw[xk,List.nodup_append];refine⟨nd,by simp,λx hx y hy z=>?_⟩;have ey:y=k:=by simpa using hy
  exact nk (by rw[<-ey,<-z];exact hx)
def qt7{d:Addr}{kvs:List (κ×Value)}{n:Nat}{k:κ}{key v:Value}{Q:Unit->Shared->Prop}(hk:knd.is k key=true)(hm:DictN knd s.heap d kvs n)(hz:kvs.length<=sizeLine)(nk:k∉kvs.map (·.1))
 (q:∀h',DictN knd h' d (kvs++[(k,v)]) (n+1)->Heap.SameBut d s.heap h'->Q () {s with heap:=h',toks:=s.toks+1}):wpAny (model prog w) A (setItem (.ref d) key v) Q E s:=by
 have ty:=hm.of.typeIs (s:=s);unfold setItem
 (try with_reducible refine xr ?_);refine ja (wpAny_sequenceKey ty (by decide) (ja ?_));refine va (name:=Str.ofString "__setitem__") ty slot_dict_setitem (kh slot_dict_setitem ty entry_dict_setitem ?_ (args_dict_setitem _ _ _));show wpAny _ _ (Builtin.Dict.notOrdered "__setitem__" ⟨[.ref d,key,v],[]⟩ >>= _) _ _ s;refine ja (wpAny_notOrdered_dict ty ?_);show wpAny _ _ (dictSet d key v >>= _) _ _ s;exact ja (qyb hk hm hz nk λh' m' t'=>jc ⟨.none,rfl,jc (q h' m' t')⟩)
end
def sA(kvs:List (bf×V))(k:Int):Prop:=Sum.inl k∈kvs.map (·.1)
def KV.map1{κ:Type}{kvs:List (κ×V)}{vs:List (κ×Value)}(r:KV kvs vs):kvs.map (·.1)=vs.map (·.1):=by
 unfold KV at r;induction r with
 |nil=>rfl
 |cons h _ ih=>rw[x8,x8,ih,h.1]
def KV.snoc{κ:Type}{kvs:List (κ×V)}{vs:List (κ×Value)}{k:κ}{v:V}{u:Value}(r:KV kvs vs)(h:RelV v u):KV (kvs++[(k,v)]) (vs++[(k,u)]):=by
 unfold KV at r ⊢;induction r with
 |nil=>exact .cons ⟨rfl,h⟩ .nil
 |cons g _ ih=>exact .cons g ih
def KV.len{κ:Type}{kvs:List (κ×V)}{vs:List (κ×Value)}(r:KV kvs vs):kvs.length=vs.length:=Paired.length r
section
variable{X:Cx}{K:am}
def Dp:V->V->V->Hp->(Hp->Prop)->Prop:=λo i v H Q=>∃p kvs k,o=.ref p/\i=.int k/\H p=some (.dK kvs)/\kvs.length<sizeLine/\¬sA kvs k/\Q (aN H p (.dK (kvs++[(.inl k,v)])))
def qy2:oz X Dp:=by
 intro z5 s J H o i v ov iv u Q I ro ri rv h;obtain⟨p,kvs,k,rfl,rfl,hp,hz,hn,q⟩:=h;cases ro;obtain⟨t,rfl⟩:=ri;let⟨_,hd,vs,rel,dd⟩:=(show ObjOk X.prog X.w H s.heap p (.dK kvs)from I.hok p _ hp);refine qt7 (k:=.inl k) (Hx k t) dd (by rw[<-rel.len];omega) (by rw[<-rel.map1];exact hn) λh' dd' sb=>⟨_,?_,q⟩;have he:∃q,h'.get? p=some q:=let ⟨q,_,hq,_⟩:=dd';⟨q,hq⟩
 refine I.write (t':=s.toks+1) (x:=p) (e:=p) (by rw[hp];exact True.intro) (.inl rfl) (λb q hb z=>(sb.2 b hb).trans z) he ⟨by rw[jr];exact hz,hd,_,rel.snoc rv,?_⟩;rw[jr];exact dd'
noncomputable def gJ(kvs:List (bf×V))(k:Int):Option V:=(kvs.find? λp=>decide (p.1=Sum.inl k)).map (·.2)
def qm2{kvs:List (bf×V)}{vs:List (bf×Value)}{k:Int}{v:V}(r:KV kvs vs)(h:gJ kvs k=some v):∃u,valueAt vs (Sum.inl k)=some u/\RelV v u:=by
 unfold KV at r;induction r with
 |nil=>cases h
 | @cons p q ps qs g _ ih=>
  obtain⟨h1,h2⟩:=g;unfold gJ at h;by_cases e:p.1=Sum.inl k
  .have e':q.1=Sum.inl k:=h1.symm.trans e;simp[List.find?_cons,e]at h;subst h;exact⟨q.2,by simp[valueAt,List.find?_cons,e'],h2⟩
  .have e':¬q.1=Sum.inl k:=λz=>e (h1.trans z);simp[List.find?_cons,e]at h;let⟨u,u1,u2⟩:=ih (by unfold gJ;simpa using h);exact⟨u,by rw[<-u1];simp[valueAt,List.find?_cons,e'],u2⟩
def sh:R2:=λx y H Q=>∃p kvs k v,x=.ref p/\y=.int k/\H p=some (.dK kvs)/\gJ kvs k=some v/\Q v H
def Bn:IxR X sh:=by
 intro value zh z5 s J H x y v u Q I rx ry h hs;obtain⟨p,kvs,k,z,rfl,rfl,hp,hg,q⟩:=h;cases rx;obtain⟨t,rfl⟩:=ry;let⟨_,hd,vs,rel,dd⟩:=(show ObjOk X.prog X.w H s.heap p (.dK kvs)from I.hok p _ hp);let⟨w',hw,rw'⟩:=qm2 rel hg;have ty:=dd.of.typeIs (s:=s);unfold subscriptTail;refine ja ?_;rw[getitemInPython_of_ne ty.not_modules];refine ja (wpAny_specialOf ty F.slot_dict_getitem.lookup ?_);have fin:wpAny (model X.prog X.w) X.A (subscripted zh false (.ref p) (.int k t)) (λr s₃=>wpAny (model X.prog X.w) X.A (letTemporaryGo value (.ref p) r >>= λ_=>pure r) (EP X z5 J Q) X.xe s₃) X.xe s:=by rw[hs];exact wpAny_operating (wpAny_getItem_of (knd:=qJ X.prog X.w) (k:=.inl k) (Hx k t) dd.of.mapOf hw (ja (wpAny_letTemporaryGo (jc ⟨z,H,I.tok _,rw',q⟩))))
 first
  |exact jc (ja fin)
  |exact ja (jc (ja fin))
  |exact ja fin
end
def oE(a:Addr)(n:Nat):It:=
 ⟨λi H=>∃kvs p,H a=some (.dK kvs)/\kvs.length=n/\kvs[i]? =some p,
  λi H v H'=>H'=H/\∀kvs p,H a=some (.dK kvs)->kvs[i]? =some p->v=kV p.1,
  λi H=>∃kvs,H a=some (.dK kvs)/\kvs.length=n/\n<=i⟩
def jC{P:Program}{w:World}:∀{es:List DictEntry} {kvs:List (bf×V)} {vs:List (bf×Value)} {i:Nat} {p:bf×V},Pairs (qJ P w) es vs->KV kvs vs->kvs[i]? =some p->∃e,es[i]? =some e/\RelV (kV p.1) e.key:=by
 intro es kvs vs i p h;induction h generalizing kvs i with
 |nil=>intro r e;cases r;simp at e
 | @cons en kv es vs h1 h2 _ ih=>
  intro r e;cases r with
  | @cons q _ ks _ g r=>
   cases i with
   | zero=>
    simp at e;subst e;refine⟨en,rfl,?_⟩;rw[g.1];rcases jR h1 with⟨j,t,e1,e2⟩|⟨x,t,e1,e2⟩
    .rw[e1,e2];exact⟨t,rfl⟩
    .rw[e1,e2];exact⟨t,rfl⟩
   |succ i=>exact ih r (by simpa using e)
def zn{X:Cx}{z5:Z3}{J:St}{H:Hp}{s:Shared}{a:Addr}{kvs:List (bf×V)}(I:Inv X z5 J H s)(e:H a=some (.dK kvs)):
 (a==sysModules)=false/\∃es,es.size=kvs.length/\DRaw s.heap a es kvs.length/\∀i p,kvs[i]? =some p->∃hi:i<es.size,RelV (kV p.1) es[i].key:=by
 let⟨_,y,vs,r,o,es,h1,h2,h3,h4,h5,_⟩:=(show ObjOk X.prog X.w H s.heap a (.dK kvs)from I.hok a _ e);have z:es.size=kvs.length:=by have:=h5.length;rw[<-r.len]at this;simpa using this
 refine⟨y,es,z,⟨o,h1,h2,h3⟩,λi p hp=>?_⟩;let⟨en,e1,e2⟩:=jC h5 r hp;have hi:i<es.size:=by rw[z];exact(List.getElem?_eq_some_iff.mp hp).1
 refine⟨hi,?_⟩;have ee:es[i]=en:=by have:=(List.getElem?_eq_some_iff.mp e1).2;simpa using this
 rw[ee];exact e2
def qeb{P:Program}{w:World}{K:am}{tg:Expr}(a it:Addr)(n:Nat):Turn P w K tg (oE a n) [it] it (λi h=>h.IsKeyIter it a i n n) where
 mem:=by simp
 obj:=λi h st b hb=>by obtain⟨o,e,c,d⟩:=st;rw[List.mem_singleton.mp hb];exact⟨o,e,λv z=>by rw[d]at z;cases z⟩
 keep:=λi h h' st k=>st.at λo e=>k it (by simp) o e
 item:=by intro X hP hw hK hc i z5 s J H E I hf st hg;subst hP hw hK;obtain⟨kvs,p,e,rfl,hp⟩:=hg;let⟨_,es,z,dr,al⟩:=zn I e;let⟨hi,k1⟩:=al i p hp;let⟨f0,f1,f2,f3,f4,f5⟩:=hf it (by simp);rw[<-z]at st dr;refine qls st dr hi λh' st' sb=>?_;have I1:Inv X z5 J H {s with heap:=h'}:=I.turned (t':=s.toks) (λb o hb e=>(sb.2 b hb).trans e) f0 f1 f3 f4 f5;let⟨o,e1,c1,d1⟩:=id st';refine⟨_,rfl,p6 (s:={s with heap:=h'}) e1 c1 d1 (by decide) ⟨kV p.1,H,I1,k1,⟨rfl,λkvs' p' e' hp'=>?_⟩,by rw[<-z];exact st',λb hb=>(hf b hb).1⟩⟩;rw[e]at e';cases e';rw[hp]at hp';cases hp';rfl
 done:=by intro X hP hw hK hc i z5 s J H E I hf st hg;subst hP hw hK;obtain⟨kvs,e,rfl,hp⟩:=hg;let⟨_,es,z,dr,_⟩:=zn I e;let⟨f0,f1,f2,f3,f4,f5⟩:=hf it (by simp);rw[<-z]at st dr hp;exact qqq (I.ok.hd hc) st dr hp λh' eb=>⟨rfl,I.turned (t':=s.toks) (λb o hb e=>eb b o hb e) f0 f1 f3 f4 f5⟩
 self:=λ_ _ _ _ _ st h=>wpAny_pyIter_keyiter st h
def D3(td:TE):TI:=λJ H R=>td J H λx H1=>∃a kvs,x=.ref a/\H1 a=some (.dK kvs)/\R (oE a kvs.length) H1
def qkx{X:Cx}{tg l:Expr}{td:TE}(hl:PE X l td):PI X tg l (D3 td):=by intro z5 s J H R I h;refine aW (hl z5 s J H _ I h) λv s1 ⟨x,H1,I1,rx,a,kvs,ex,e,q⟩=>?_;subst ex;obtain rfl:v=Value.ref a:=rx;let⟨y,es,z,dr,_⟩:=zn I1 e;refine qlr y dr ?_;refine⟨s1.heap.objs.size,[s1.heap.objs.size],_,_,H1,rfl,I1.kept (t':=s1.toks) λb o e=>je _ e,qeb a _ kvs.length,⟨_,ju _ rfl,rfl,by rw[z];rfl⟩,λb hb=>?_,q⟩;rw[List.mem_singleton.mp hb];exact I1.fpOk (jg _) (I1.hok.fresh (jg _))
noncomputable def kD:bf->D
 |.inl i=>.int i
 |.inr x=>.str x
section
variable{K:am}{O O':Zg}{R:Hp}
def qzc{k:bf}:Rp K R (kV k) (kD k):=by
 cases k with
 |inl i=>exact .int i
 |inr x=>exact .str x
theorem Rkk.length:∀{kvs:List (bf×V)} {gs:List (bf×D)},Rkk K R kvs gs->kvs.length=gs.length
 |_,_,.nil=>rfl
 |_,_,.cons _ r=>by rw[jw,jw,Rkk.length r]
theorem Rkk.keys:∀{kvs:List (bf×V)} {gs:List (bf×D)},Rkk K R kvs gs->kvs.map (·.1)=gs.map (·.1)
 |_,_,.nil=>rfl
 |_,_,.cons _ r=>by rw[x8,x8,Rkk.keys r]
theorem Rkk.snoc{k:bf}{v:V}{d:D}(r:Rp K R v d):∀{kvs:List (bf×V)} {gs:List (bf×D)},Rkk K R kvs gs->Rkk K R (kvs++[(k,v)]) (gs++[(k,d)])
 |_,_,.nil=>.cons r .nil
 |_,_,.cons h t=>.cons h (Rkk.snoc r t)
noncomputable def mL(gs:List (bf×D))(k:Int):Option D:=(gs.find? λp=>decide (p.1=Sum.inl k)).map (·.2)
theorem Rkk.val{k:Int}{d:D}:∀{kvs:List (bf×V)} {gs:List (bf×D)},Rkk K R kvs gs->mL gs k=some d->∃v,gJ kvs k=some v/\Rp K R v d
 |_,_,.nil,e=>by cases e
 | _,_,@Rkk.cons _ _ f x xs d' ds h t,e=>by
  unfold mL at e;by_cases z:f=Sum.inl k
  .simp[List.find?_cons,z]at e;subst e;exact⟨x,by simp[gJ,List.find?_cons,z],h⟩
  .simp[List.find?_cons,z]at e;let⟨v,h1,h2⟩:=Rkk.val (k:=k) (d:=d) t (by unfold mL;simpa using e);exact⟨v,by rw[<-h1];simp[gJ,List.find?_cons,z],h2⟩
theorem Rkk.get:∀{kvs:List (bf×V)} {gs:List (bf×D)} {i:Nat} {g:bf×D},Rkk K R kvs gs->gs[i]? =some g->∃v,kvs[i]? =some (g.1,v)
 |_,_,_,_,.nil,e=>by simp at e
 |_,_,0,_,.cons h _,e=>by simp at e;subst e;exact⟨_,rfl⟩
 | _,_,i+1,g,.cons _ t,e=>by let⟨v,h1⟩:=Rkk.get (i:=i) (g:=g) t (by simpa using e);exact⟨v,by simpa using h1⟩
def fF:D->D->Option D
 |.dct gs,.int k=>mL gs k
 |_,_=>none
def Rp.isD{x:V}{gs:List (bf×D)}(h:Rp K R x (.dct gs)):∃a kvs,x=.ref a/\R a=some (.dK kvs)/\Rkk K R kvs gs:=by
 cases h with
 |dct h r=>exact⟨_,_,rfl,h,r⟩
def qui:gY K sh fF:=λH R x y d e u Q s rx ry q k=>by
 unfold fF at q;split at q
 .rename_i gs i;obtain rfl:=ry.isI;obtain⟨a,kvs,rfl,h,r⟩:=rx.isD;let⟨v,h1,h2⟩:=r.val q;exact⟨a,kvs,i,v,rfl,rfl,s _ _ h,h1,k v H R (Ext.refl s) h2⟩
 .cases q
def md:D->Option (List D)
 |.dct gs=>some (gs.map λg=>kD g.1)
 |_=>none
def mX(f:aJ):aS:=bO f λd=>da (md d)
def qlv{a:Addr}{kvs:List (bf×V)}{gs:List (bf×D)}(h:R a=some (.dK kvs))(r:Rkk K R kvs gs):ItOk K (oE a kvs.length) R (gs.map λg=>kD g.1):=λH' R' s b i=>by
 have q:H' a=some (.dK kvs):=b _ _ (s _ _ h);refine⟨λe=>⟨kvs,q,rfl,by rw[jb]at e;rw[r.length];omega⟩,λd e=>?_⟩;rw[jq]at e;cases g0:gs[i]? with
 |none=>rw[g0]at e;cases e
 | some g=>
  rw[g0]at e;cases e;let⟨v,h1⟩:=r.get g0;refine⟨⟨kvs,_,q,rfl,h1⟩,λx H'' y=>?_⟩;obtain⟨rfl,y⟩:=y;have ex:=y kvs _ q h1;subst ex;exact⟨R',Ext.refl b,qzc⟩
def qlk{td:TE}{fd:aJ}(h:ME K O td fd):MI K O (D3 td) (mX fd):=λZ J H R M ds M' Q S e k=>by
 let⟨d,M1,e1,e⟩:=bD e;obtain⟨e2,rfl⟩:=cQ e;refine h Z J H R M d _ _ S e1 λv H1 R1 S1 st1 r1=>?_;unfold md at e2;split at e2
 .cases e2;obtain⟨a,kvs,rfl,q,r⟩:=r1.isD;exact⟨a,kvs,rfl,S1.sub _ _ q,k _ H1 R1 S1 st1 (qlv q r)⟩
 .cases e2
def FU{fd:aJ}{M:av}:mX fd M=(fd M).bind λp=>(md p.1).map λx=>(x,p.2):=by
 unfold mX bO da;cases fd M with
 |none=>rfl
 |some p=>cases h:md p.1<;>simp[h]
end
section
variable{c:MC}{O O':Zg}{te ti:TE}{fe fi:aJ}
noncomputable def mS(i:Nat):aH:=λM=>if i<M.length then some (.nx (M.set i (some (.dct []))))else none
def qqb{i:Nat}(hs:lA c i O O'=true):MS c O O' (eH DD (gh i)) (mS i):=λZ E J H R M o hP S e k=>by
 unfold mS at e;unfold lA at hs;simp only[Bool.and_eq_true]at hs;split at e
 .rename_i ze;cases e;intro l hl;have S1:=S.ext (Ext.hid (o:=.dK []) S.sub hl);let⟨S2,s2⟩:=S1.sub' hP hs.1.1;have notown:∀j,j∈O->J[j]? ≠some (some (.ref l)):=S.notnew hl;have hO':∀j,j∈O'.filter (λj=>decide (j≠i))->j∈O:=λj hj=>by
   have z:=hs.1.1;unfold cA at z;simp only[Bool.and_eq_true,List.all_eq_true]at z;simpa using z.1 j hj
  refine k _ _ _ (S2.take (i:=i) (l:=l) (vs:=.dK []) (ds:=.dct []) (by simp) (by simpa using hs.1.2) (λj hj=>?_) (by rw[hP];simpa using hs.2) ze (S.new0 hl) cr ?_ (λj hj=>notown j (hO' j hj)) (λj hj=>(List.mem_filter.mp hj).1) (.dct .nil)) s2
  .by_cases z:j=i
   .exact .inl z
   .exact .inr (List.mem_filter.mpr ⟨hj,by simpa using z⟩)
  .unfold c7;rw[if_neg ?_]
   .exact S.out hl
   .rintro⟨j,hj,_,z⟩;exact notown j hj z
 .cases e
noncomputable def oW(gs:List (bf×D))(k:Int)(d:D):Option (List (bf×D)):=if gs.length<sizeLine/\(gs.all λg=>!decide (g.1=Sum.inl k))=true then some (gs++[(.inl k,d)])else none
def qw(i:Nat)(fe fi:aJ):aH:=λM=>match fe M with
 |none=>none
 | some (d,M1)=>match fi M1 with
  | some (.int k,M2)=>match M2[i]? with
   | some (some (.dct gs))=>match oW gs k d with
    |some gs'=>some (.nx (M2.set i (some (.dct gs'))))
    |none=>none
   |_=>none
  |_=>none
def qqa{i:Nat}(hi:i∈O)(he:ME c.K O te fe)(hx:ME c.K O ti fi)(hs:cA c O O'=true):MS c O O' (eH te (nZ (dq i) ti Dp)) (qw i fe fi):=λZ E J H R M o hP S e k=>by
 unfold qw at e;cases e1:fe M with
 |none=>rw[e1]at e;cases e
 | some p=>
  obtain⟨d,M1⟩:=p;rw[e1]at e;dsimp only at e;cases e2:fi M1 with
  |none=>rw[e2]at e;cases e
  | some p=>
   obtain⟨x,M2⟩:=p;rw[e2]at e;refine he Z J H R M d M1 _ S e1 λv H1 R1 S1 st1 r1=>?_;let⟨l,vs,ds,h1,h2,h3,h4,h5⟩:=S1.own i hi;refine⟨.ref l,h2,hx Z J H1 R1 M1 x M2 _ S1 e2 λw H2 R2 S2 st2 r2=>?_⟩;let⟨l',vs',ds',g1,g2,g3,g4,g5⟩:=S2.own i hi;rw[h2]at g2;cases g2;cases r2 with
   | int j=>
    dsimp only at e;rw[g1]at e;cases g5 with
    |lst _=>cases e
    |dit _=>cases e
    |dct g5=>
    rename_i kvs gs;dsimp only at e;cases e3:oW gs j d with
    |none=>rw[e3]at e;cases e
    | some m=>
     rw[e3]at e;cases e;unfold oW at e3;split at e3
     .rename_i hz;cases e3;refine⟨l,kvs,j,rfl,rfl,g3,by rw[g5.length];exact hz.1,by
            unfold sA;rw[g5.keys];intro hm;let⟨g,hg,eg⟩:=List.mem_map.mp hm;have:=List.all_eq_true.mp hz.2 g hg;simp[eg]at this,?_⟩
      obtain⟨S3,s3⟩:=(S2.write hi h2 (.dct (g5.snoc (r1.mono st2.r)))).sub' hP hs;exact k J _ _ S3 ((st1.r.trans st2.r).trans s3)
     .cases e3
   |_=>cases e
def qrc{i:Nat}{M:av}(h:i<M.length):mS i M=some (.nx (M.set i (some (.dct [])))):=by unfold mS;rw[if_pos h]
def qrb{i:Nat}{M M1 M2:av}{d:D}{k:Int}{gs gs':List (bf×D)}(h1:fe M=some (d,M1))(h2:fi M1=some (.int k,M2))(h3:M2[i]? =some (some (.dct gs)))(h4:oW gs k d=some gs'):qw i fe fi M=some (.nx (M2.set i (some (.dct gs')))):=by unfold qw;simp only[h1,h2,h3,h4]
end
def qqf{K:am}{O:Zg}{ta:TE}{fa:aJ}(h:ME K O ta fa):MN K O (Dw K ta) (f6 fa):=λZ J H R M ds M' Q S e k=>by
 let⟨x,M1,e1,e⟩:=bD e;obtain⟨e3,rfl⟩:=cQ e;refine h Z J H R M x _ _ S e1 λv H1 R1 S1 st1 r1=>?_;unfold ix at e3;split at e3
 .cases e3;obtain⟨b,xs,rfl,q,r⟩:=r1.isL;refine⟨b,xs,rfl,Same.sqL S1.sub q,λl hl=>?_⟩;have x:=Ext.hid (o:=.lst xs.reverse) S1.sub hl;exact k l xs.reverse _ _ (S1.ext x) (st1.trans x.stp) (st1.new hl) cr (S1.out hl) r.rev
 .cases e3
section
variable{X:Cx}{K:am}{O:Zg}{a:Expr}{ta:TE}{p p2 pos zo:Pos}{fa:aJ}
noncomputable def jY(n:Int):List Int:=(List.range n.toNat).map λ(i:Nat)=>(i:Int)
def Dx(ta:TE):TE:=λJ H Q=>ta J H λv H1=>∃n:Int,[v]=[V.int n]/\0<=n/\n<=1000000/\∀q,H1 q=none->Q (.ref q) (aN H1 q (.lst ((jY n).map V.int)))
def qk9{acc:Ze}{ns:Zf}(hl:acc.length=ns.length)(h:∀(i:Nat) (v:Value),acc[i]? =some v->∃t,v=Value.int (ns.getD i 0) t):Vals (ns.map V.int) acc:=by
 induction acc generalizing ns with
 | nil=>
  cases ns with
  |nil=>exact .nil
  |cons n ns=>simp at hl
 | cons v r ih=>
  cases ns with
  |nil=>simp at hl
  | cons n ns=>
   refine .cons ?_ (ih (by simpa using hl) λi w e=>?_)
   .let⟨t,e⟩:=h 0 v rfl;exact⟨t,e⟩
   .let⟨t,e⟩:=h (i+1) w (by simpa using e);exact⟨t,by simpa using e⟩
def qpo(hc:X.calm=true)(hg:Gl X "list")(hm:X.mg "list"=none)(hg2:Gl X "range")(hm2:X.mg "range"=none)(ha:PE X a ta)(he2:starEach [a] X.env=(false,eval a X.env)::starEach [] X.env:=by rfl)(hpl2:(backTo pos (starEach [] X.env)).any (·.1)=false:=by rfl)
 (he:starEach [.Call (.Name "range" p) [a] [] pos] X.env=(false,eval (.Call (.Name "range" p) [a] [] pos) X.env)::starEach [] X.env:=by rfl) (hpl:(backTo zo (starEach [] X.env)).any (·.1)=false:=by rfl):
 PE X (.Call (.Name "list" p2) [.Call (.Name "range" p) [a] [] pos] [] zo) (Dx ta):=by
 intro z5 s J H Q I h;refine xu (ia I hg hm (u:=.type "list") (by rfl) ?_);refine PyProof.Rows.callWith_type1 ?_ he hpl;rw[he];show wpAny _ _ (spliced ((false,eval (.Call (.Name "range" p) [a] [] pos) X.env)::backTo zo (starEach [] X.env))) _ _ s;refine vw ?_;refine xu (ia I hg2 hm2 (u:=.type "range") (by rfl) ?_);refine PyProof.Rows.callWith_type1 (aW ((aj ha aw he2) pos z5 s J H (λvs H1=>∃n:Int,vs=[V.int n]/\0<=n/\n<=1000000/\∀q,H1 q=none->Q (.ref q) (aN H1 q (.lst ((jY n).map V.int)))) I h) λus s1 h1=>?_) he2 hpl2;obtain⟨vs,H1,I1,r1,n,rfl,n0,n1,k⟩:=h1;obtain⟨u,rfl,ru⟩:=b9 r1;obtain⟨t,rfl⟩:=ru;refine call_range_1 (Calls.spliced_nil ?_);have sz:Builtin.Range.rangeSize 0 n 1=(n.toNat:Int):=by rw[rangeSize_one];split<;>omega
 refine call_list_range (n := n.toNat) (I1.ok.hd hc) (IsRange.new ..) (small_one (by omega) (by omega) (by omega) (by omega)) sz (by have:(2:Nat)^24=16777216:=by decide
                                                                                                                                     omega) λh' tk acc c' kp e i=>?_
 have hf:H1 (s1.heap.push {cls:=.type "range",data:=.fields #[.int 0 s1.toks,.int n t,.int 1 (s1.toks+1)]}).objs.size=none:=I1.hok.fresh (by rw[xx];exact Nat.le_succ _);refine⟨.ref _,_,?_,rfl,k _ hf⟩;refine I1.laid (t':=tk) (λb o eb=>kp b o (je _ eb)) (by rw[xx];exact Nat.le_succ _) ?_;have hsl:=ki;refine⟨by simp only[jY,List.length_map,List.length_range];omega,acc.toList,c',qk9 (by have:=i.1;simp[jY];omega) λj v ev=>?_,by rw[e]⟩;have ev':acc[j]? =some v:=by simpa using ev
 let⟨t',e'⟩:=i.2 j v ev';have hj:j<n.toNat:=by have:=(Array.getElem?_eq_some_iff.mp ev').1;have:=i.1;omega
 refine⟨t',?_⟩;rw[e'];simp[jY,List.getD_eq_getElem?_getD,hj]
def io:D->Option (List D)
 |.int n=>if 0<=n/\n<=1000000 then some ((jY n).map D.int)else none
 |_=>none
def qqe(h:ME K O ta fa):MN K O (Dx ta) (jI io fa):=λZ J H R M ds M' Q S e k=>by
 let⟨x,M1,e1,e⟩:=bD e;obtain⟨e3,rfl⟩:=cQ e;refine h Z J H R M x _ _ S e1 λv H1 R1 S1 st1 r1=>?_;unfold io at e3;split at e3
 .rename_i n;split at e3
  .rename_i hn;cases e3;obtain rfl:=r1.isI;refine⟨n,rfl,hn.1,hn.2,λl hl=>?_⟩;have x:=Ext.hid (o:=.lst ((jY n).map V.int)) S1.sub hl;exact k l _ _ _ (S1.ext x) (st1.trans x.stp) (st1.new hl) cr (S1.out hl) (Rps.ints _)
  .cases e3
 .cases e3
end
end L2
namespace L2
open PySem
noncomputable def ni(q:Mv):D:=.tup [.int q.1,.int q.2]
def gE(ch:List Mv):D:=.lst (ch.map ni)
def fK(st:Sx):D:=.lst (st.map gE)
def fR(steps:List Sx):D:=.lst (steps.map fK)
def dG(t:Rw):D:=.lst (t.map bJ)
def oK(t:List Rw):D:=.lst (t.map dG)
noncomputable def iH{α:Type}(c:List (List α))(q:Int×α):List (List α):=c.set q.1.toNat (c.getD q.1.toNat []++[q.2])
theorem Gm{α:Type}(j:Nat):∀(xs:List α) (c:List (List α)),j<c.length->((List.replicate xs.length (j:Int)).zip xs).foldl iH c=c.set j (c.getD j []++xs)
 | [],c,h=>by
  have e:c.set j (c.getD j []++[])=c:=by rw[List.append_nil,jn,ji h];exact List.set_getElem_self h
  rw[e];rfl
 | x::xs,c,h=>by
  have e1:((List.replicate (x::xs).length (j:Int)).zip (x::xs))=((j:Int),x)::(List.replicate xs.length (j:Int)).zip xs:=rfl;rw[e1,List.foldl_cons];have e2:iH c ((j:Int),x)=c.set j (c.getD j []++[x]):=by unfold iH;simp only[Int.toNat_natCast]
  rw[e2,Gm j xs _ (by rw[xq];exact h),List.set_set];congr 1;rw[jn,xo h];simp
theorem zT{α β:Type}:∀{xs:List α} {ys zs:List β},xs.length=ys.length->xs.zip (ys++zs)=xs.zip ys
 |[],[],_,_=>rfl
 | x::xs,y::ys,zs,h=>by rw[List.cons_append,List.zip_cons_cons,List.zip_cons_cons,zT (by simpa using h)]
 |[],_::_,_,h=>by simp at h
 |_::_,[],_,h=>by simp at h
section
variable{U:Zf}{G:Z9}{ts:List Told}
theorem Gk(N:Nat):∀j,j<=N->(bE U G j).length<=ts.length->((bE U G j).zip ts).foldl iH (List.replicate N [])=(List.range N).map λk=>if k<j then aQ U G ts k else []
 | 0,_,_=>by
  show List.replicate N []=_;apply List.ext_getElem?;intro i;by_cases h:i<N
  .rw[jq,kc h,kj,if_pos h];simp
  .rw[xh (by simp;omega),xh (by simp;omega)]
 | j+1,hj,hl=>by
  rw[vC]at hl;have eP:bE U G (j+1)=bE U G j++List.replicate (bF U G j).length (j:Int):=i0 _ _;have lc:(aQ U G ts j).length=(bF U G j).length:=by unfold aQ;rw[k6,xv];omega
  have eT:ts=ts.take (bE U G j).length++(aQ U G ts j++(ts.drop (bE U G j).length).drop (bF U G j).length):=by unfold aQ;rw[List.take_append_drop,List.take_append_drop]
  have ez:(bE U G (j+1)).zip ts=(bE U G j).zip ts++(List.replicate (bF U G j).length (j:Int)).zip (aQ U G ts j):=by
   have h1:(bE U G j).length=(ts.take (bE U G j).length).length:=by rw[k6];omega
   have e1:(bE U G j).zip ts=(bE U G j).zip (ts.take (bE U G j).length):=by have:=zT (zs:=aQ U G ts j++(ts.drop (bE U G j).length).drop (bF U G j).length) h1;rw[<-eT]at this;exact this
   rw[e1,eP];have:=List.zip_append (r₁:=List.replicate (bF U G j).length (j:Int)) (r₂:=aQ U G ts j++(ts.drop (bE U G j).length).drop (bF U G j).length) h1;rw[<-eT]at this;rw[this,zT (by rw[jx,lc])]
  rw[ez,List.foldl_append,Gk N j (by omega) (by omega),<-lc,Gm j _ _ (by simp;omega)];apply List.ext_getElem?;intro i;by_cases h:i<N
  .rw[jq,kc h];by_cases q:j=i
   .subst q;rw[xo (by simp;omega)];rw[jn,jq,kc h];simp
   .rw[jv q,jq,kc h];simp only[Option.map_some];congr 1;by_cases z:i<j
    .rw[if_pos z,if_pos (by omega)]
    .rw[if_neg z,if_neg (by omega)]
  .rw[xh (by simp;omega),xh (by simp;omega)]
def qhf(N:Nat)(hl:(bE U G N).length<=ts.length):((bE U G N).zip ts).foldl iH (List.replicate N [])=(List.range N).map (aQ U G ts):=by rw[Gk N N (jg _) hl];refine List.map_congr_left λk hk=>?_;rw[if_pos (List.mem_range.mp hk)]
end
def qcd{i:Nat}{fg:dW}{f:Fd}(d:D)(r:List D)(M:av)(dss:List (List D)):kE i fg f (d::r) M dss=match fg d M with
 | some M1=>if c8 M1 i=true then(match f M1 dss with
  |some p=>kE i fg f r p.1 p.2
  |none=>none)else none
 |none=>none:=rfl
theorem Gn{i a b:Nat}{fe:aJ}{fs:aS}{α:Type}(dat obj:α->D)(M0:Option D->Option D->av)(hf:∀u v,c8 (M0 u v) i=true)
 (hg:∀(k:Int) (t:α) (u v:Option D),(fP 2 (db (ai a) (db (ai b) fT))) (.tup [.int k,dat t]) (M0 u v)=some (M0 (some (.int k)) (some (dat t))))
 (he:∀(k:Int) (t:α),fe (M0 (some (.int k)) (some (dat t)))=some (.int k,M0 (some (.int k)) (some (dat t)))) (hs:∀(k:Int) (t:α),fs (M0 (some (.int k)) (some (dat t)))=some ([obj t],M0 (some (.int k)) (some (dat t)))):
 ∀(zs:List (Int×α)) (c:List (List α)) (u v:Option D),(∀q∈zs,0<=q.1/\q.1.toNat<c.length)->(∀g∈c,g.length+zs.length<sizeLine)->∃u' v',kE i (fP 2 (db (ai a) (db (ai b) fT))) (pA i fe fs) (zs.map λq=>D.tup [.int q.1,dat q.2]) (M0 u v) (c.map λg=>g.map obj)=some (M0 u' v',(zs.foldl iH c).map λg=>g.map obj)
 |[],c,u,v,_,_=>⟨u,v,rfl⟩
 | q::zs,c,u,v,hz,hc=>by
  let⟨z0,z1⟩:=hz q jj;have hq:c[q.1.toNat]? =some c[q.1.toNat]:=ji z1;have hp:qH (c.map λg=>g.map obj) q.1 (obj q.2)=some ((iH c q).map λg=>g.map obj):=by unfold qH;rw[if_pos z0,jq,hq];simp only[Option.map_some];rw[if_pos (by rw[jb];have:=hc _ (xw z1);simp at this;omega)];unfold iH;rw[List.map_set,jn,hq];simp
  let⟨u',v',h⟩:=Gn (i:=i) (a:=a) (b:=b) (fe:=fe) (fs:=fs) dat obj M0 hf hg he hs zs (iH c q) (some (.int q.1)) (some (dat q.2)) (λp hp=>by
   have:=hz p (jh _ hp);refine⟨this.1,?_⟩;unfold iH;rw[xq];exact this.2) (λg hg=>by
   unfold iH at hg;rcases List.mem_or_eq_of_mem_set hg with h1|h1
   .have:=hc g h1;simp at this;omega
   .rw[h1,jn,hq];have:=hc _ (xw z1);simp at this ⊢;omega)
  refine⟨u',v',?_⟩;have step:pA i fe fs (M0 (some (.int q.1)) (some (dat q.2))) (c.map λg=>g.map obj)=some (M0 (some (.int q.1)) (some (dat q.2)),(iH c q).map λg=>g.map obj):=by unfold pA;rw[he q.1 q.2];simp only[hf,if_true];rw[hs q.1 q.2];simp only[hf,if_true,hp,Option.map_some]
  rw[x8,List.foldl_cons,<-h,qcd,hg q.1 q.2 u v];simp only[hf,if_true,step]
def kP{a b:Int×List Int}(h:bY a b=true):bY b a=false:=qQ a b b h (qZ b)
abbrev Kr:=List (Option (Int×List Int))
section
variable(r:Int)(U:Zf)(G:Z9)(ts:List Told)
def HF(k:Nat)(u:Zf):Int:=((List.range' 0 k).map λj=>fS (aQ U G ts j) (fN r.toNat U G 0 u j)).sum
end
section
variable{r:Int}{U:Zf}{G:Z9}{ts:List Told}{n:Nat}
structure qzj(k:Nat)(row:Kr):Prop where
 len:row.length=2^r.toNat
 is:∀(q:Nat) (p:Int×List Int),row[q]? =some (some p)->az p.2/\p.2.length=k/\ba (2^r.toNat) 0 p.2=(q:Int)/\p.1=HF r U G ts k p.2
 best:∀u:List Int,az u->u.length=k->∃p,row[(ba (2^r.toNat) 0 u).toNat]? =some (some p)/\bY (HF r U G ts k u,u) p=false
end
end L2
namespace L2
open PySem PySem.W PyProof.Rows
section
variable{α β:Type}{lt:Nat->Nat->Bool}{N n:Nat}{p:Array Nat}
def ik(lt:Nat->Nat->Bool)(N:Nat):KasT α->(α->Prop)->Prop
 |.ret a,Q=>Q a
 |.ask i j k,Q=>i<N/\j<N/\ik lt N (k (lt i j)) Q
theorem pC{f:α->KasT β}{Q:β->Prop}:∀{t:KasT α},ik lt N t (λa=>ik lt N (f a) Q)->ik lt N (t.bind f) Q
 |.ret _,h=>h
 |.ask i j k,h=>⟨h.1,h.2.1,pC h.2.2⟩
theorem m7{Q Q':α->Prop}(hq:∀a,Q a->Q' a):∀{t:KasT α},ik lt N t Q->ik lt N t Q'
 |.ret _,h=>hq _ h
 |.ask i j k,h=>⟨h.1,h.2.1,m7 hq h.2.2⟩
theorem Er{cmp:Nat->Nat->(Bool->Shared->Prop)->Shared->Prop}{I:Shared->Prop}(hc:∀i j,i<N->j<N->∀C s,I s->(∀s',I s'->C (lt i j) s')->cmp i j C s){P:α->Prop}{Q:α->Shared->Prop}(hq:∀a s,P a->I s->Q a s):∀{t:KasT α} {s:Shared},ik lt N t P->I s->t.kasWp cmp Q s
 |.ret _,s,h,hI=>hq _ s h hI
 |.ask i j k,s,h,hI=>hc i j h.1 h.2.1 _ s hI λs' hI'=>Er hc hq h.2.2 hI'
structure Pm(n:Nat)(p:Array Nat):Prop where
 size:p.size=n
 perm:p.toList.Perm (List.range n)
def Pm.get(h:Pm n p){i:Nat}(hi:i<n):p[i]? =some (p.getD i 0):=by
 have:i<p.size:=by rw[h.size];exact hi
 rw[Array.getElem?_eq_getElem this];simp[this]
def Pm.lo(h:Pm n p){i:Nat}(hi:i<n):p.getD i 0<n:=by
 have hm:p.getD i 0∈p.toList:=by have:=h.get hi;rw[<-Array.getElem?_toList]at this;exact k8 this
 exact List.mem_range.mp (h.perm.mem_iff.mp hm)
def Pm.ne(h:Pm n p){i j:Nat}(hi:i<n)(hj:j<n)(ij:i≠j):p.getD i 0≠p.getD j 0:=λe=>by
 have nd:p.toList.Nodup:=h.perm.nodup_iff.mpr List.nodup_range;have a:=h.get hi;have b:=h.get hj;rw[<-Array.getElem?_toList]at a b;rw[e]at a;have li:i<p.toList.length:=by rw[Array.length_toList,h.size];exact hi
 exact ij ((List.getElem?_inj li nd).mp (a.trans b.symm))
def Pm.of(h:Pm n p){q:Array Nat}(hq:q.Perm p):Pm n q:=⟨by rw[hq.size_eq];exact h.size,(Array.perm_iff_toList_perm.mp hq).trans h.perm⟩
def uz{q:Array Nat}{i j:Nat}(h:q[i]? =p[j]?):q.getD i 0=p.getD j 0:=by rw[Array.getD_eq_getD_getElem?,Array.getD_eq_getD_getElem?,h]
def Up(lt:Nat->Nat->Bool)(p:Array Nat)(m:Nat):Prop:=∀i j,i<j->j<m->lt (p.getD i 0) (p.getD j 0)=true
def Dn(lt:Nat->Nat->Bool)(p:Array Nat)(m:Nat):Prop:=∀i j,i<j->j<m->lt (p.getD j 0) (p.getD i 0)=true
structure Ord(lt:Nat->Nat->Bool)(n:Nat):Prop where
 irr:∀a b,a<n->b<n->lt a b=true->lt b a=false
 tot:∀a b,a<n->b<n->a≠b->lt a b=false->lt b a=true
 tr:∀a b c,a<n->b<n->c<n->lt a b=true->lt b c=true->lt a c=true
theorem xS(O:Ord lt n)(h:Pm n p):∀(f a:Nat),1<=a->a+f=n->Up lt p a->ik lt n (kas_asc p f a) λm=>1<=m/\a<=m/\m<=n/\Up lt p m/\(m<n->lt (p.getD m 0) (p.getD (m-1) 0)=true)
 |0,a,h1,h2,u=>⟨h1,jg _,by omega,u,λz=>by omega⟩
 | f+1,a,h1,h2,u=>by
  unfold kas_asc;refine⟨h.lo (by omega),h.lo (by omega),?_⟩;cases c:lt (p.getD a 0) (p.getD (a-1) 0)with
  |true=>exact⟨h1,jg _,by omega,u,λ_=>c⟩
  | false=>
   have last:lt (p.getD (a-1) 0) (p.getD a 0)=true:=O.tot _ _ (h.lo (by omega)) (h.lo (by omega)) (h.ne (by omega) (by omega) (by omega)) c;have u':Up lt p (a+1):=λi j ij jm=>by
    by_cases q:j<a
    .exact u i j ij q
    .have ej:j=a:=by omega
     subst ej;by_cases qi:i=j-1
     .rw[qi];exact last
     .exact O.tr _ _ _ (h.lo (by omega)) (h.lo (by omega)) (h.lo (by omega)) (u i (j-1) (by omega) (by omega)) last
   exact m7 (λm hm=>⟨hm.1,by omega,hm.2.2⟩) (xS O h f (a+1) (by omega) (by omega) u')
theorem EW(O:Ord lt n)(h:Pm n p):∀(f a:Nat),2<=a->a+f=n->Dn lt p a->ik lt n (kas_desc f p a 0) λr=>r.1=p/\r.2.2=0/\2<=r.2.1/\r.2.1<=n/\Dn lt p r.2.1
 |0,a,h1,h2,u=>⟨rfl,rfl,h1,by show a<=n;omega,u⟩
 | f+1,a,h1,h2,u=>by
  unfold kas_desc;refine⟨h.lo (by omega),h.lo (by omega),?_⟩;cases c:lt (p.getD a 0) (p.getD (a-1) 0)with
  | true=>
   have u':Dn lt p (a+1):=λi j ij jm=>by
    by_cases q:j<a
    .exact u i j ij q
    .have ej:j=a:=by omega
     subst ej;by_cases qi:i=j-1
     .rw[qi];exact c
     .exact O.tr _ _ _ (h.lo (by omega)) (h.lo (by omega)) (h.lo (by omega)) c (u i (j-1) (by omega) (by omega))
   dsimp only;rw[if_pos rfl,if_neg (by decide)];exact EW O h f (a+1) (by omega) (by omega) u'
  | false=>
   dsimp only;rw[if_neg (by decide)];have last:lt (p.getD (a-1) 0) (p.getD a 0)=true:=O.tot _ _ (h.lo (by omega)) (h.lo (by omega)) (h.ne (by omega) (by omega) (by omega)) c;refine⟨h.lo (by omega),h.lo (by omega),?_⟩;rw[last];dsimp only;rw[if_pos rfl];exact⟨rfl,rfl,h1,by show a<=n;omega,u⟩
def qtq(h:Pm n p){m:Nat}(hm:m<=n)(u:Dn lt p m):Pm n (kas_rev p 0 m)/\Up lt (kas_rev p 0 m) m:=by
 have e:∀k,k<m->(kas_rev p 0 m).getD k 0=p.getD (m-1-k) 0:=λk hk=>uz (by unfold kas_rev;rw[getElem?_mirror_all (by rw[h.size];exact hm),if_pos ⟨Nat.zero_le _,hk⟩,xf])
 refine⟨h.of (mirror_perm _ _ _ _),λi j ij jm=>?_⟩;rw[e i (by omega),e j jm];exact u _ _ (by omega) (by omega)
def qmn(O:Ord lt n)(h:Pm n p)(h2:2<=n):ik lt n (kas_count n p) λr=>Pm n r.2/\1<=r.1/\r.1<=n/\Up lt r.2 r.1:=by
 unfold kas_count;refine pC (m7 ?_ (xS O h (n-1) 1 (jg _) (by omega) λi j ij jm=>by omega));rintro m ⟨m1,_,mn,u,stop⟩;by_cases q:m=n
 .rw[if_pos (by rw[q];exact beq_self_eq_true n)];exact⟨h,m1,mn,u⟩
 .rw[if_neg (by simpa using q)];by_cases q1:m>1
  .rw[if_pos q1];refine⟨h.lo (by omega),h.lo (by omega),?_⟩;rw[u 0 (m-1) (by omega) (by omega)];dsimp only;rw[if_pos rfl];exact⟨h,m1,mn,u⟩
  .rw[if_neg q1];have e1:m=1:=by omega
   subst e1;unfold kas_descPart;refine pC (m7 ?_ (EW O h (n-(1+1)) (1+1) (by omega) (by omega) λi j ij jm=>?_))
   .rintro⟨q,a,b⟩ ⟨rfl,rfl,a2,an,d⟩;dsimp only at a2 an d ⊢;rw[if_neg (by decide)];unfold kas_tail3;let⟨h',u'⟩:=qtq h an d;refine pC (m7 ?_ (xS O h' (n-a) a (by omega) (by omega) u'));rintro m' ⟨x1,_,x2,x3,_⟩;exact⟨h',x1,x2,x3⟩
   .have ei:i=0:=by omega
    have ej:j=1:=by omega
    subst ei ej;exact stop (by omega)
theorem zM(O:Ord lt n)(h:Pm n p){k:Nat}(hk:k<n)(u:Up lt p k):∀(f l r:Nat),l<=r->r<=k->r-l<=f->(∀i,i<l->lt (p.getD i 0) (p.getD k 0)=true)->(∀i,r<=i->i<k->lt (p.getD k 0) (p.getD i 0)=true)->ik lt n (kas_place p k f l r) λm=>m<=k/\(∀i,i<m->lt (p.getD i 0) (p.getD k 0)=true)/\∀i,m<=i->i<k->lt (p.getD k 0) (p.getD i 0)=true
 | 0,l,r,lr,rk,hf,a,b=>by
  have e:l=r:=by omega
  subst e;exact⟨rk,a,b⟩
 | f+1,l,r,lr,rk,hf,a,b=>by
  unfold kas_place;by_cases q:l≥r
  .rw[if_pos q];have e:l=r:=by omega
   subst e;exact⟨rk,a,b⟩
  .rw[if_neg q];refine⟨h.lo hk,h.lo (by omega),?_⟩;cases c:lt (p.getD k 0) (p.getD ((l+r) / 2) 0)with
   | true=>
    dsimp only;rw[if_pos rfl];refine zM O h hk u f l ((l+r) / 2) (by omega) (by omega) (by omega) a λi h1 h2=>?_;by_cases qi:i=(l+r) / 2
    .rw[qi];exact c
    .exact O.tr _ _ _ (h.lo hk) (h.lo (by omega)) (h.lo (by omega)) c (u _ _ (by omega) h2)
   | false=>
    dsimp only;rw[if_neg (by decide)];have c':lt (p.getD ((l+r) / 2) 0) (p.getD k 0)=true:=O.tot _ _ (h.lo hk) (h.lo (by omega)) (h.ne hk (by omega) (by omega)) c;refine zM O h hk u f ((l+r) / 2+1) r (by omega) rk (by omega) (λi hi=>?_) b;by_cases qi:i=(l+r) / 2
    .rw[qi];exact c'
    .exact O.tr _ _ _ (h.lo (by omega)) (h.lo (by omega)) (h.lo hk) (u _ _ (by omega) (by omega)) c'
theorem DQ(O:Ord lt n):∀(f:Nat) (p:Array Nat) (k:Nat),Pm n p->k+f=n->Up lt p k->ik lt n (kas_bin f p k) λq=>Pm n q/\Up lt q n
 |0,p,k,h,e,u=>⟨h,by rw[<-e];exact u⟩
 | f+1,p,k,h,e,u=>by
  unfold kas_bin;have hk:k<n:=by omega
  refine pC (m7 ?_ (zM O h hk u k 0 k (Nat.zero_le _) (jg _) (by omega) (λi hi=>by omega) λi h1 h2=>by omega));rintro l ⟨lk,a,b⟩;have g:∀j,(bubble p k (k-l)).getD j 0=if j=l then p.getD k 0 else if l<j/\j<=k then p.getD (j-1) 0 else p.getD j 0:=λj=>by
   have e1:=getElem?_bubble (xs:=p) (src:=k) (by rw[h.size];exact hk) (k-l) (by omega) j;rw[show k-(k-l)=l from by omega]at e1;by_cases q1:j=l
   .rw[if_pos q1]at e1 ⊢;exact uz e1
   .rw[if_neg q1]at e1 ⊢;by_cases q2:l<j/\j<=k
    .rw[if_pos q2]at e1 ⊢;exact uz e1
    .rw[if_neg q2]at e1 ⊢;exact uz e1
  refine DQ O f _ (k+1) (h.of (bubble_perm _ _ _)) (by omega) λi j ij jk=>?_;rw[g i,g j];by_cases j1:j=l
  .rw[if_pos j1,if_neg (by omega),if_neg (by omega)];exact a i (by omega)
  .rw[if_neg j1];by_cases j2:l<j/\j<=k
   .rw[if_pos j2];by_cases i1:i=l
    .rw[if_pos i1];exact b (j-1) (by omega) (by omega)
    .rw[if_neg i1];by_cases i2:l<i/\i<=k
     .rw[if_pos i2];exact u _ _ (by omega) (by omega)
     .rw[if_neg i2];exact u _ _ (by omega) (by omega)
   .rw[if_neg j2,if_neg (by omega),if_neg (by omega)];exact u _ _ ij (by omega)
def qp9(O:Ord lt n)(h2:2<=n):ik lt n (kas_sort n) λq=>Pm n q/\Up lt q n:=by
 unfold kas_sort;have h0:Pm n (List.toArray (List.range n)):=⟨by simp,by simp⟩;refine pC (m7 ?_ (qmn O h0 h2));rintro⟨m,q⟩ ⟨h,m1,mn,u⟩;dsimp only at h m1 mn u ⊢;by_cases c:m<n
 .rw[if_pos c,Nat.max_eq_left m1];exact DQ O _ _ _ h (by omega) u
 .rw[if_neg c];have e:m=n:=by omega
  subst e;exact⟨h,u⟩
end
end L2
namespace L2
open PySem PySem.Spec PyProof.Rows
section
variable{prog:Program}{w:World}{A:Around}{E:Z0}{s:Shared}
def Fs{env:Env}{v:Str}{a:Addr}{its:Zd}{x:Value}{i:Nat}{m:Za}{p1 q1 r1:Pos}{j1:Nat}{Q:Z0}(zj:env.scope.kind=.function)(hk:env.scope.names.lookup v=some .local)(hn:s.heap.Ns env.locals m)(hm:m v=some (.ref a))(hd:(v==("__debug__":Str))=false)(ht:IsTup s.heap a its)(hi:its[i]? =some x)(hz:i<1000)(k:∀tk,Q x {s with toks:=tk}):
 wpAny (model prog w) A (eval (.Subscript (.Name v p1) (.Constant (.int i) j1 q1) r1) env) Q E s:=by
 refine Subscript_ ?_;refine wpAny_Name (wpAny_loadName_local zj hk hn hm ?_) hd;refine wpAny_Constant_int ?_;have hl:i<its.size:=(Array.getElem?_eq_some_iff.mp hi).1;exact subscriptTail_builtinR (x:=x) (IsTup.typeIs (s:={s with toks:=s.toks+1}) ht) slot_tuple_getitem.lookup
  (getItem_tuple (j:=i) (Q:=λr s'=>r=x/\Q r s') ht (by omega) (by omega) (seqIndex_of (by omega) (by simpa using hl)) hi ⟨rfl,k _⟩) rfl
abbrev m4(v:Str)(p1 q1 r1 p2 q2 r2 pos:Pos)(j1 j2:Nat)(x1:Nat):Expr:=.Tuple [.Subscript (.Name v p1) (.Constant (.int 0) j1 q1) r1,.Subscript (.Name v p2) (.Constant (.int 1) j2 q2) r2] x1 pos
def qqo{f c' a:Addr}{name qual v:Str}{params:Arguments}{scope:Scope}{pm ctv x0 x1:Value}{its:Zd}{p1 q1 r1 p2 q2 r2 pos:Pos}{j1 j2:Nat}{xc:Nat}{Q:Z0}(hroom:A.depth<recursionLimit)(lim:s.heap.NoLimit)
 (ho:s.heap.get? f=some (W.kla_obj name qual params (m4 v p1 q1 r1 p2 q2 r2 pos j1 j2 xc) scope [] pm c' ctv)) (hcd:s.heap.CodeRec (.ref c') qual) (hb:bindArgs (W.kla_fn name qual params (m4 v p1 q1 r1 p2 q2 r2 pos j1 j2 xc) scope [] pm (.ref c') ctv) ⟨[.ref a],[]⟩=pure [(v,.ref a)])
 (hco:scope.isCoroutine=false) (hgen:scope.isGenerator=false) (zj:scope.kind=.function) (zt:∀x∈scope.names,x.2≠.cell) (hloc:scope.names.lookup v=some .local) (hd:(v==("__debug__":Str))=false) (ht:IsTup s.heap a its) (h0:its[0]? =some x0) (h1:its[1]? =some x1)
 (k:∀t s',Kq s s'->s.heap.objs.size<=t->s'.heap.get? t=some {cls:=.type "tuple",data:=.seq #[x0,x1]}->Q (.ref t) s'):wpAny (model prog w) A (call (.ref f) [.ref a]) Q E s:=by
 refine wpAny_call (W.kla_callFunE hroom ho rfl hco hgen rfl hcd ?_);rw[hb];refine jc (wpAny_newFunctionEnv zt (λy hy=>by rw[List.mem_singleton.mp hy];exact hloc) (λh₁ hns hsb=>⟨lim.fresh _ hsb,W.kla_codeExpr ?_⟩) zj);have hk₁:∀b o,s.heap.get? b=some o->h₁.get? b=some o:=λb o e=>hsb.extBut b o (jo (jd e)) (je _ e);have ht1:IsTup h₁ a its:=let ⟨o,e,c⟩:=ht;⟨o,hk₁ _ _ e,c⟩
 have hm:(λx=>([(v,Value.ref a)]:List (Str×Value)).reverse.lookup x) v=some (.ref a):=by simp
 have hsz:s.heap.objs.size<=h₁.objs.size:=by obtain⟨o,es,ep,e1,_⟩:=hns;exact Nat.le_of_lt (jd e1)
 refine wpAny_Tuple_spliced (vw ?_);refine Fs (m:=λx=>([(v,Value.ref a)]:List (Str×Value)).reverse.lookup x) zj hloc hns hm hd ht1 h0 (by decide) λtk1=>?_;refine vw ?_;refine Fs (m:=λx=>([(v,Value.ref a)]:List (Str×Value)).reverse.lookup x) zj hloc hns hm hd ht1 h1 (by decide) λtk2=>?_;refine Calls.spliced_nil ⟨by show 2<=sizeLine;decide,?_⟩;exact k _ _ ⟨λb o e=>je _ (hk₁ b o e),rfl,rfl,rfl⟩ hsz (ju _ rfl)
def qwg{t u x y:Addr}{c d:Int}{tc td:Tok}{vs us:Ze}{ws zs:Zf}{Q:Bool->Shared->Prop}(ht:s.heap.get? t=some {cls:=.type "tuple",data:=.seq #[.int c tc,.ref x]})(hu:s.heap.get? u=some {cls:=.type "tuple",data:=.seq #[.int d td,.ref y]})
 (hx:s.heap.IsList x vs.toArray) (hy:s.heap.IsList y us.toArray) (hi:IntsAre vs ws) (hj:IntsAre us zs) (hl:ws.length=zs.length) (un:A.units+1<cLine) (k:Q (bY (c,ws) (d,zs)) s):wpAny (model prog w) A (keyLt' (tuples' true) (.ref t) (.ref u)) Q E s:=by
 refine W.kat_lt ht rfl hu rfl ?_;show W.KatLex prog w A true _ Q [(.int c tc,.int d td),(.ref x,.ref y)] 0 s;refine W.kat_cons (wpAny_eqBool_int (W.kat_go (λe=>?_) λe=>?_))
 .have ecd:c=d:=by simpa using e
  subst ecd;have q1:bY (c,ws) (c,zs)=HT.lexLt ws zs:=if_pos rfl;rw[q1]at k;have ee:=GN (A:=A) (s:=s) hx hy hi hj hl (by omega);refine W.kat_yes (W.kat_cons (ee prog w _ _ ?_));by_cases z:ws=zs
  .subst z;rw[decide_eq_true rfl];refine W.kat_yes (W.kat_nil ?_);rw[u9]at k;exact k
  .rw[decide_eq_false z];refine W.kat_no (W.kat_one _ _ ?_);exact GY hx hy (by simpa using hi) (by simpa using hj) hl (by omega) k
 .have ncd:c≠d:=by simpa using e
  have q1:bY (c,ws) (d,zs)=decide (c<d):=if_neg ncd;rw[q1]at k;exact W.kat_no (oneLt_int k)
end
end L2
namespace L2
open PySem PySem.Spec PyProof.Rows PySem.W
noncomputable def eK(h₀:Heap)(L:Addr)(h:Heap):List (Addr×Obj):=(List.range h.objs.size).filterMap λb=>match h.get? b with
 | some o=>if b=L then none else(match h₀.get? b with
  |some _=>none
  |none=>some (b,o))
 |none=>none
def mem_allN{h₀ h:Heap}{L b:Addr}{o:Obj}:(b,o)∈eK h₀ L h↔h.get? b=some o/\b≠L/\h₀.get? b=none:=by
 unfold eK;rw[List.mem_filterMap];constructor
 .rintro⟨x,_,hx⟩;cases e:h.get? x with
  |none=>rw[e]at hx;cases hx
  | some u=>
   rw[e]at hx;dsimp only at hx;split at hx
   .cases hx
   .rename_i q;cases e0:h₀.get? x with
    |some v=>rw[e0]at hx;cases hx
    | none=>
     rw[e0]at hx;cases hx;exact⟨e,q,e0⟩
 .rintro⟨e,q,e0⟩;refine⟨b,List.mem_range.mpr (jd e),?_⟩;rw[e];dsimp only;rw[if_neg q,e0]
def Gw{h₀ h:Heap}{L:Addr}:News h₀ L h (eK h₀ L h):=λp hp=>mem_allN.mp hp
def u7{h₀ h h':Heap}{L:Addr}{m m':Za}(F:Fr h₀ L h m)(F':Fr h₀ L h' m')(k:∀p∈eK h₀ L h,h'.get? p.1=some p.2):∀b o,h.get? b=some o->b≠L->h'.get? b=some o:=λb o e q=>by
 cases e0:h₀.get? b with
 | some v=>
  have:=F.keep b v e0;rw[e]at this;cases this;exact F'.keep b o e0
 |none=>exact k (b,o) (mem_allN.mpr ⟨e,q,e0⟩)
def f7(h:Heap)(L:Addr)(v:Value)(q:Int×List Int):Prop:=∃a its t x vs,v=.ref a/\a≠L/\x≠L/\IsTup h a its/\its[0]? =some (.int q.1 t)/\its[1]? =some (.ref x)/\h.IsList x vs.toArray/\IntsAre vs q.2
def oB(h:Heap)(L:Addr)(rest:Z3)(v:Value)(q:Int×List Int):Prop:=∃a t x vs,v=.ref a/\(a,({cls:=.type "tuple",data:=.seq #[.int q.1 t,.ref x]}:Obj))∈rest/\x≠L/\h.IsList x vs.toArray/\IntsAre vs q.2
def qza(qs:List (Int×List Int))(hd:∀i j,i<qs.length->j<qs.length->i≠j->qs.getD i (0,[])≠qs.getD j (0,[])):Ord (λi j=>bY (qs.getD i (0,[])) (qs.getD j (0,[]))) qs.length where
 irr:=λa b _ _ h=>kP h
 tot:=λa b ha hb ab h=>by
  cases q:bY (qs.getD b (0,[])) (qs.getD a (0,[]))with
  |true=>rfl
  |false=>exact absurd (pf h q) (hd a b ha hb ab)
 tr:=λa b c _ _ _ h1 h2=>by
  cases q:bY (qs.getD a (0,[])) (qs.getD c (0,[]))with
  |true=>rfl
  | false=>
   have:=qQ _ _ _ h2 q;rw[h1]at this;cases this
section
variable{prog:Program}{w:World}{A:Around}{E:Z0}{s:Shared}{h₀:Heap}{L f c':Addr}{m:Za}
def oN(s s1:Shared):Prop:=s1.gens=s.gens/\s1.drawn=s.drawn/\s1.os=s.os
def lU(prog:Program)(w:World)(A:Around)(h₀:Heap)(L f:Addr)(m:Za)(s:Shared):Prop:=∀(s1:Shared) (v:Value) (q:Int×List Int) (Q:Z0),oN s s1->Fr h₀ L s1.heap m->(∀b o,s.heap.get? b=some o->b≠L->s1.heap.get? b=some o)->f7 s.heap L v q->
 (∀t s' tc x vs,Kq s1 s'->s1.heap.objs.size<=t->x≠L->s'.heap.get? t=some {cls:=.type "tuple",data:=.seq #[.int q.1 tc,.ref x]}->s.heap.IsList x vs.toArray->IntsAre vs q.2->Q (.ref t) s')->wpAny (model prog w) A (call (.ref f) [v]) Q (λ_ _=>False) s1
theorem yR{kS:Addr}{Fin:List Value->Nat->Shared->Prop}{news:Z3}{qs:List (Int×List Int)}(hf:lU prog w A h₀ L f m s)(F0:Fr h₀ L s.heap m)(base:∀p∈eK h₀ L s.heap,p∈news)
 (fin:∀(ks:Ze) (e:Nat) (tps:Z3) (s1:Shared),oN s s1->Fr h₀ L s1.heap m->News h₀ L s1.heap ((kS,seqObj "list" ks.toArray e)::(tps++news))->(∀p∈tps++news,p.1≠kS)->(∀p∈tps,∀q∈news,q.1≠p.1)->Paired (oB s.heap L (tps++news)) ks qs->Fin ks e s1):
 ∀(r:Ze) (qr ps:List (Int×List Int)) (ks:Ze) (e:Nat) (tps:Z3) (s1:Shared),qs=ps++qr->oN s s1->Fr h₀ L s1.heap m->News h₀ L s1.heap ((kS,seqObj "list" ks.toArray e)::(tps++news))->(∀p∈tps++news,p.1≠kS)->(∀p∈tps,∀q∈news,q.1≠p.1)->
   Paired (f7 s.heap L) r qr->Paired (oB s.heap L (tps++news)) ks ps->KatKeys prog w A h₀ L m kS (.ref f) Fin r ks e s1
 | [],qr,ps,ks,e,tps,s1,eq,so,F,N,hk,hn,hr,hp=>by cases hr;rw[List.append_nil]at eq;exact .nil (fin ks e tps s1 so F N hk hn (by rw[eq];exact hp))
 | v::r,qr0,ps,ks,e,tps,s1,eq,so,F,N,hk,hn,hr0,hp=>by
  obtain⟨q,qr,rfl,hv,hr⟩:∃q qr,qr0=q::qr/\f7 s.heap L v q/\Paired (f7 s.heap L) r qr:=by
   cases hr0 with
   |cons h t=>exact⟨_,_,rfl,h,t⟩
  have keeps:=u7 F0 F λp hp'=>(N p (jh _ (x9 _ (base p hp')))).1;refine .cons (hf s1 v q _ so F keeps hv λt s2 tc x vs kq ht xL et hx hi=>?_);have F2:Fr h₀ L s2.heap m:=⟨F.ns.keeps kq.heap,λb o e=>kq.heap _ _ (F.keep b o e),F.above⟩;have tL:L<t:=jz F.ns.lt ht;have N2:News h₀ L s2.heap ((kS,seqObj "list" ks.toArray e)::(((t,{cls:=.type "tuple",data:=.seq #[.int q.1 tc,.ref x]})::tps)++news)):=λp hp'=>by
   rcases List.mem_cons.mp hp' with rfl|hp'
   .have:=N _ jj;exact⟨kq.heap _ _ this.1,this.2⟩
   .rw[List.cons_append]at hp';rcases List.mem_cons.mp hp' with rfl|hp'
    .exact⟨et,Nat.ne_of_gt tL,vv (x6 F.above (Nat.le_of_lt tL))⟩
    .have:=N p (jh _ hp');exact⟨kq.heap _ _ this.1,this.2⟩
  have hk2:∀p∈((t,({cls:=.type "tuple",data:=.seq #[.int q.1 tc,.ref x]}:Obj))::tps)++news,p.1≠kS:=λp hp'=>by
   rw[List.cons_append]at hp';rcases List.mem_cons.mp hp' with rfl|hp'
   .exact Nat.ne_of_gt (jz (jd (N _ jj).1) ht)
   .exact hk p hp'
  have hn2:∀p∈(t,({cls:=.type "tuple",data:=.seq #[.int q.1 tc,.ref x]}:Obj))::tps,∀y∈news,y.1≠p.1:=λp hp' y hy=>by
   rcases List.mem_cons.mp hp' with rfl|hp'
   .exact jo (jz (jd (N y (jh _ (x9 _ hy))).1) ht)
   .exact hn p hp' y hy
  refine KatBack.intro F2 N2 (.head hk2) λh' c F' N'=>?_;refine yR hf F0 base fin r qr (ps++[q]) (ks++[.ref t]) c ((t,{cls:=.type "tuple",data:=.seq #[.int q.1 tc,.ref x]})::tps) {s2 with heap:=h'} (by rw[eq,List.append_assoc];rfl) ⟨kq.gens.trans so.1,kq.drawn.trans so.2.1,kq.os.trans so.2.2⟩ F' N' hk2 hn2 hr ?_;refine Paired.snoc (Paired.mapP hp λk y hy=>?_) ⟨t,tc,x,vs,rfl,by rw[List.cons_append];exact jj,xL,hx,hi⟩;obtain⟨a,t',x',vs',e1,e2,e3⟩:=hy;exact⟨a,t',x',vs',e1,by rw[List.cons_append];exact jh _ e2,e3⟩
theorem zR{D:Addr}{o:Obj}{post:Z3}(hp:∀p∈post,p.1≠D):∀{pre:Z3},(∀p∈pre,p.1≠D)->UpdF D o (pre++(D,o)::post) (λo'=>pre++(D,o')::post)
 |[],_=>.head hp
 |x::pre,h=>.tail (h x jj) (zR hp λp hp'=>h p (jh _ hp'))
theorem As{α β:Type}{G:α->β->Prop}{a:α}{b:β}:∀{xs:List α} {ys:List β} {i:Nat},Paired G xs ys->i<xs.length->G (xs.getD i a) (ys.getD i b)
 |_,_,0,.cons h _,_=>h
 |_,_,i+1,.cons _ t,hi=>As (i:=i) t (by simpa using hi)
 |_,_,_,.nil,hi=>by cases hi
theorem Ao{α β:Type}{G:α->β->Prop}:∀{xs:List α} {ys:List β},Paired G xs ys->xs.length=ys.length
 |_,_,.nil=>rfl
 |_,_,.cons _ t=>congrArg Nat.succ (Ao t)
theorem F7{h h1:Heap}{rest:Z3}(hr:∀p∈rest,h1.get? p.1=some p.2):∀{ks:Ze} {qs:List (Int×List Int)},Paired (oB h L rest) ks qs->∃fs,KatTups h1 ks fs/\fs.length=ks.length/\∀v∈fs,∃c t,v=Value.int c t
 |_,_,.nil=>⟨[],.nil,rfl,λ_ z=>nomatch z⟩
 | _,_,.cons ⟨a,t,x,vs,e1,e2,_⟩ r=>by
  let⟨fs,h1,h2,h3⟩:=F7 hr r;subst e1;refine⟨.int _ t::fs,.cons (hr _ e2) rfl rfl rfl h1,congrArg Nat.succ h2,λv hv=>?_⟩;rcases List.mem_cons.mp hv with rfl|hv
  .exact⟨_,_,rfl⟩
  .exact h3 v hv
def qfc{l:Addr}{vs:Ze}{qs:List (Int×List Int)}{Q:Z0}(F:Fr h₀ L s.heap m)(hl:s.heap.IsList l vs.toArray)(h2:2<=vs.length)(h64:vs.length<64)(hq:Paired (f7 s.heap L) vs qs)(hd:∀i j,i<qs.length->j<qs.length->i≠j->qs.getD i (0,[])≠qs.getD j (0,[]))
 (hw:∀i j,i<qs.length->j<qs.length->(qs.getD i (0,[])).2.length=(qs.getD j (0,[])).2.length) (hf:lU prog w A.in1.in1 h₀ L f m s) (un:A.in1.in1.units+1<cLine)
 (k:∀(D:Addr) (s4:Shared) (p:Array Nat) (c:Nat),oN s s4->Fr h₀ L s4.heap m->(∀b o,s.heap.get? b=some o->b≠L->s4.heap.get? b=some o)->s.heap.get? D=none->D≠L->Pm vs.length p->Up (λi j=>bY (qs.getD i (0,[])) (qs.getD j (0,[]))) p vs.length->
   s4.heap.get? D=some {cls:=.type "list",data:=.seq (List.toArray (p.toList.map λi=>vs.getD i Value.none)) c}->Q (.ref D) s4):
 wpAny (model prog w) A (call (.builtin "sorted") [.ref l] [(Str.ofString "key",.ref f)]) Q E s:=by
 have lq:=Ao hq;refine kat_sortedK (b:=false) (f:=.ref f) F Gw hl h2 h64 (ksk_s1 _ _) (λx=>ksk_l1 _ _) (λx=>ksk_t1 f x) λD kS e1 h' F' N' hD hlt=>?_;have ND:=N' (D,seqObj "list" #[] e1) (jh _ jj);have sD:s.heap.get? D=none:=by
  cases z:s.heap.get? D with
  |none=>rfl
  |some o=>exact absurd (hlt (D,o) (mem_allN.mpr ⟨z,ND.2.1,ND.2.2⟩)) (xn _)
 refine yR (kS:=kS) (news:=(D,seqObj "list" #[] e1)::eK h₀ L s.heap) hf F (λp hp=>jh _ hp) (λks e tps s1 so F1 N1 hk hn hp=>?_) vs qs [] [] 0 [] {s with heap:=h'} rfl ⟨rfl,rfl,rfl⟩ F' N' (λp hp=>?_) (λp hp=>nomatch hp) hq .nil
 .have lk:=Ao hp;have n1:∀p∈tps++(D,seqObj "list" #[] e1)::eK h₀ L s.heap,s1.heap.get? p.1=some p.2:=λp hp'=>(N1 p (jh _ hp')).1;have keeps:=u7 F F1 λp hp'=>n1 p (x9 _ (jh _ hp'));let⟨fs,g1,g2,g3⟩:=F7 n1 hp;have lkv:ks.length=vs.length:=lk.trans lq.symm;refine kat_kind (T:=.type "int") g1 (by rw[g2,lkv];exact jz (by decide) h2) (λv hv=>?_) (by decide) ?_
  .obtain⟨c,t,rfl⟩:=g3 v hv;exact λA Q E s _ q=>jc q
  .refine Er (lt:=λi j=>bY (qs.getD i (0,[])) (qs.getD j (0,[]))) (N:=vs.length) (I:=λs3=>s3=s1) (λi j hi hj C s3 hs hC=>?_) (λp s3 hp3 hs=>?_) (P:=λp=>Pm vs.length p/\Up (λi j=>bY (qs.getD i (0,[])) (qs.getD j (0,[]))) p vs.length) (by rw[lq];exact qp9 (qza qs hd) (by rw[<-lq];exact h2)) rfl
   .subst hs;let⟨a,t,x,us,e1',e2,e3,e4,e5⟩:=As (a:=Value.none) (b:=((0:Int),([]:Zf))) (i:=i) hp (by rw[lkv];exact hi);let⟨a',t',x',us',e1'',e2',e3',e4',e5'⟩:=As (a:=Value.none) (b:=((0:Int),([]:Zf))) (i:=j) hp (by rw[lkv];exact hj);show wpAny (model prog w) A.in1.in1 (keyLt' (tuples' true) (ks.getD i Value.none) (ks.getD j Value.none)) C (λ_ _=>False) s3;rw[e1',e1''];have up:∀{y:Addr} {is:Zd},y≠L->s.heap.IsList y is->s3.heap.IsList y is:=λyL g=>by obtain⟨o,e,c⟩:=g;exact⟨o,keeps _ _ e yL,c⟩
    exact qwg (n1 _ e2) (n1 _ e2') (up e3 e4) (up e3' e4') e5 e5' (hw i j (by rw[<-lq];exact hi) (by rw[<-lq];exact hj)) un (hC _ rfl)
   .subst hs;show KatFin h₀ L m kS D ks e e1 (p.toList.map λi=>vs.getD i Value.none) (λs4=>Q (.ref D) s4) s3;refine KatFin.intro F1 N1 (.head hk) λh2' c F2 N2=>?_;refine KasFin.intro F2 N2 (.tail (Nat.ne_of_gt hD) (zR (λp hp'=>jo (hlt p hp')) λp hp'=>(hn p hp' _ jj).symm)) λh3 c3 F3 N3=>?_;refine k D {s3 with heap:=h3} p c3 so F3 (u7 F F3 λp hp'=>?_) sD ND.2.1 hp3.1 hp3.2 ?_
    .exact(N3 p (jh _ (x9 _ (jh _ hp')))).1
    .exact(N3 _ (jh _ (x9 _ jj))).1
 .rw[List.nil_append]at hp;rcases List.mem_cons.mp hp with rfl|hp
  .exact jo hD
  .exact jo (Nat.lt_trans (hlt p hp) hD)
end
section
variable{prog:Program}{w:World}{A:Around}{E:Z0}{s:Shared}{h₀:Heap}{L f:Addr}{m:Za}
def qr2{a kS:Addr}{ks vs:Ze}{e e1:Nat}{P:PySem.Fin->Shared->Prop}(hl:ks.length=vs.length)(h2:vs.length<2)(ho:((List.toArray ks).zip vs.toArray).map (·.2)=vs.toArray)(h:KatFin h₀ L m kS a ks e e1 vs (λs3=>P (.done (.ret .none)) s3) s):
 wpAny (model prog w) A (ksk_end a false vs.toArray e1 (.ref kS) (List.toArray ks)) P E s:=by
 have small:vs.toArray.size<2:=by rw[x5];exact h2
 unfold ksk_end;dsimp only;rw[if_neg Bool.false_ne_true,if_pos small,if_pos small];refine ja (jc ?_);rw[if_neg Bool.false_ne_true,StateT.run_pure];refine ja (jc ?_);exact kat_tail (b:=false) (out:=vs) (st:=SortSt.mk' general' (ks.toArray.zip vs.toArray) #[] 7 none) ho (by omega) (by omega) rfl h
def qm8{a kS:Addr}{vs:Ze}{fv:Value}{e1:Nat}{P:PySem.Fin->Shared->Prop}(hk:s.heap.get? kS=some (seqObj "list" #[] 0))(h2:vs.length<2)(ho:∀ks:List Value,ks.length=vs.length->((List.toArray ks).zip vs.toArray).map (·.2)=vs.toArray)
 (h:KatKeys prog w A h₀ L m kS fv (λks e s1=>KatFin h₀ L m kS a ks e e1 vs (λs2=>P (.done (.ret .none)) s2) s1) vs [] 0 s):wpAny (model prog w) A (ksk_rest a fv false vs.toArray e1 (.ref kS)) P E s:=by
 unfold ksk_rest;refine ja (wpAny_rule ?_);rw[List.forIn_toArray];refine ja (xj (kat_fold (Nat.lt_trans h2 (by decide)) ?one vs [] 0 s (xf _) hk h) ?two λ_ _ z=>z)
 case two=>
  rintro _ s1 ⟨ks,e,q1,q2,q3⟩;exact ja (listItems_at q1 rfl (qr2 q2 h2 (ho ks q2) q3))
 case one=>
  intro x ks e s1 C l64 hc;refine ja (wpAny_attempt (xj hc ?_ λ_ _ z=>z.elim));rintro k s2 ⟨nw,g,F1,N1,U,c⟩;obtain⟨pre,post,q0,q1,z1,z2⟩:=U.split;rw[q0]at N1;have nr:=N1 (kS,seqObj "list" (List.toArray ks) e) (x9 _ jj);have same:=vf s2.heap kS (Obj.mapSeq (·.push k));have grown:(List.toArray ks).push k=List.toArray (ks++[k]):=by simp
  have now:=get?_update_seq nr.1 (·.push k);rw[grown]at now;dsimp only;refine ja (listUpdate_at nr.1 rfl ?_ ?_ ?_)
  .refine jc ⟨rfl,k,_,now,c _ _ (kas_fr F1 same nr.2.1 nr.2.2) ?_⟩;rw[q1];exact news_set N1 z1 z2 same now
  .rw[x5,ki];omega
  .rw[grown,x5,jr,ki];simp;omega
def qm7{a:Addr}{vs:Ze}{fv:Value}{n:Nat}{nw:Z3}{P:PySem.Fin->Shared->Prop}(F:Fr h₀ L s.heap m)(N:News h₀ L s.heap nw)(ha:s.heap.get? a=some (seqObj "list" vs.toArray n))(aL:a≠L)(a0:h₀.get? a=none)(an:∀p∈nw,p.1≠a)(h2:vs.length<2)
 (ho:∀ks:List Value,ks.length=vs.length->((List.toArray ks).zip vs.toArray).map (·.2)=vs.toArray)
 (h:∀(kS:Addr) (e1:Nat) (h1:Heap),Fr h₀ L h1 m->News h₀ L h1 ((kS,seqObj "list" #[] 0)::(a,seqObj "list" #[] e1)::nw)->a<kS->KatKeys prog w A h₀ L m kS fv (λks e s1=>KatFin h₀ L m kS a ks e e1 vs (λs2=>P (.done (.ret .none)) s2) s1) vs [] 0 {s with heap:=h1}):
 wpAny (model prog w) A (ksk_tree a fv false) P E s:=by
 have lt:=jd ha;have cleared:=vf s.heap a (Obj.mapSeq λ_=>(#[]:Zd));have now:=get?_update_seq ha λ_=>(#[]:Zd);have F1:=kas_fr F cleared aL a0;have N1:=kas_news N cleared an;have sz:((s.heap.update a (Obj.mapSeq λ_=>(#[]:Zd))).push (seqObj "tuple" vs.toArray 0)).objs.size=s.heap.objs.size+1:=by rw[size_push',Heap.size_update]
 have F2:=F1.push (seqObj "tuple" vs.toArray 0);have Llt:=F2.ns.lt;have l1:vs.length<=1:=by omega
 unfold ksk_tree;refine ja (listItems_at ha rfl ?_);refine ja (listUpdate_at ha rfl ?_ ?_ (Nat.zero_le _))
 .refine ja (seqEpoch_at now rfl ?_);refine ja (wpAny_newTuple ?_ ?_)
  .refine ja (wpAny_newList ?_ (Nat.zero_le _));refine xr (qm8 (ju _ rfl) h2 ho (h _ _ _ (F2.push _) ?_ ?_))
   .intro p hp;rcases List.mem_cons.mp hp with rfl|hp
    .exact⟨ju _ rfl,Nat.ne_of_gt Llt,vv (x6 F.above (Nat.le_of_lt Llt))⟩
    rcases List.mem_cons.mp hp with rfl|hp
    .exact⟨je _ (je _ now),aL,a0⟩
    .let⟨g1,g2⟩:=N1 p hp;exact⟨je _ (je _ g1),g2⟩
   .rw[sz];exact Nat.lt_succ_of_lt lt
  .show vs.length<=_;rw[ki];omega
 .rw[x5,ki];omega
def qfn:∀{ks vs:Ze},vs.length<2->ks.length=vs.length->((List.toArray ks).zip vs.toArray).map (·.2)=vs.toArray
 |[],[],_,_=>by simp
 |[_],[_],_,_=>by simp
 |[],_::_,_,h=>by simp at h
 |_::_,[],_,h=>by simp at h
 |_,_::_::_,h,_=>by simp at h;omega
 |_::_::_,[_],_,h=>by simp at h
def qfe{l:Addr}{vs:Ze}{qs:List (Int×List Int)}{Q:Z0}(F:Fr h₀ L s.heap m)(hl:s.heap.IsList l vs.toArray)(h2:vs.length<2)(hq:Paired (f7 s.heap L) vs qs)(hf:lU prog w A.in1.in1 h₀ L f m s)
 (k:∀(D:Addr) (s4:Shared) (c:Nat),oN s s4->Fr h₀ L s4.heap m->(∀b o,s.heap.get? b=some o->b≠L->s4.heap.get? b=some o)->s.heap.get? D=none->D≠L->
   s4.heap.get? D=some {cls:=.type "list",data:=.seq vs.toArray c}->Q (.ref D) s4):
 wpAny (model prog w) A (call (.builtin "sorted") [.ref l] [(Str.ofString "key",.ref f)]) Q E s:=by
 have l1:vs.length<=1:=by omega
 refine call_function_entry_kw kind_sorted plain_sorted entry_sorted (ksk_s1 _ _) ?_;unfold Builtin.«sorted»;refine ja (m:=checkCount "sorted" 1 1 _) (jc ?_);refine ja (collect_list hl ?_ (by rw[ki];omega));refine ja (wpAny_newList ?_ (by rw[ki];omega));have sz:((s.heap.push (seqObj "list" #[] 0)).update s.heap.objs.size (Obj.mapSeq (·++vs.toArray))).objs.size=s.heap.objs.size+1:=by rw[Heap.size_update,size_push']
 have kp:∀b o,s.heap.get? b=some o->((s.heap.push (seqObj "list" #[] 0)).update s.heap.objs.size (Obj.mapSeq (·++vs.toArray))).get? b=some o:=λb o e=>by have:=jo (jd e);rw[Heap.get?_update_ne _ _ _ _ this,Heap.get?_push_ne _ _ _ this];exact e
 generalize (s.heap.push (seqObj "list" #[] 0)).update s.heap.objs.size (Obj.mapSeq (·++vs.toArray))=h1 at sz kp;have Llt:L<s.heap.objs.size:=F.ns.lt;have kp2:∀b o,s.heap.get? b=some o->(h1.push (seqObj "list" vs.toArray 0)).get? b=some o:=λb o e=>je _ (kp b o e);have hD:(h1.push (seqObj "list" vs.toArray 0)).get? h1.objs.size=some (seqObj "list" vs.toArray 0):=ju _ rfl;have D0:s.heap.get? h1.objs.size=none:=vv (by rw[sz];exact Nat.le_succ _);have DL:h1.objs.size≠L:=by rw[sz];exact Nat.ne_of_gt (Nat.lt_succ_of_lt Llt)
 show wpAny _ _ _ _ _ {s with heap:=h1.push (seqObj "list" vs.toArray 0)};show wpAny (model prog w) A.in1 (holding [.ref h1.objs.size] (call (.builtin "list.sort") [.ref h1.objs.size] [(Str.ofString "key",.ref f)]) >>= λ_=>ret (.ref h1.objs.size)) _ _ {s with heap:=h1.push (seqObj "list" vs.toArray 0)};generalize h1.objs.size=D at hD D0 DL sz ⊢;refine ja (xr (wpAny_call_entry_kw slot_list_sort ⟨_,hD,rfl⟩ entry_list_sort ?_ (ksk_l1 _ _)));show wpAny (model prog w) A.in1.in1 (Builtin.«list.sort» ⟨[.ref D],[(Str.ofString "key",.ref f)]⟩) _ _ _;rw[ksk_t1];refine qm7 (s:={s with heap:=h1.push (seqObj "list" vs.toArray 0)}) (F.kept kp2) ((Gw (h:=s.heap)).grown kp2) hD DL (vv (x6 F.above (by rw[sz];exact Nat.le_succ_of_le (Nat.le_of_lt Llt)))) (λp hp z=>?_) h2 (λks=>qfn h2) λkS e1 h' F' N' lt=>?_
 .have:=(mem_allN.mp (show(p.1,p.2)∈eK h₀ L s.heap from hp)).1;rw[z,D0]at this;cases this
 .refine yR (kS:=kS) (news:=(D,seqObj "list" #[] e1)::eK h₀ L s.heap) hf F (λp hp=>jh _ hp) (λks e tps s1 so F1 N1 hk hn hp=>?_) vs qs [] [] 0 [] {s with heap:=h'} rfl ⟨rfl,rfl,rfl⟩ F' N' (λp hp=>?_) (λp hp=>nomatch hp) hq .nil
  .refine KatFin.intro F1 N1 (.head hk) λh2' c F2 N2=>?_;refine KasFin.intro F2 N2 (.tail (Nat.ne_of_gt lt) (zR (λp hp' z=>?_) λp hp'=>(hn p hp' _ jj).symm)) λh3 c3 F3 N3=>?_
   .have:=(mem_allN.mp (show(p.1,p.2)∈eK h₀ L s.heap from hp')).1;rw[z,D0]at this;cases this
   .refine⟨_,rfl,jc ⟨_,rfl,k D {s1 with heap:=h3} c3 so F3 (u7 F F3 λp hp'=>?_) D0 DL ?_⟩⟩
    .exact(N3 p (jh _ (x9 _ (jh _ hp')))).1
    .exact(N3 _ (jh _ (x9 _ jj))).1
  .rw[List.nil_append]at hp;rcases List.mem_cons.mp hp with rfl|hp
   .exact jo lt
   .intro z;have h1':=(N' _ jj).1;have:=(mem_allN.mp (show(p.1,p.2)∈eK h₀ L s.heap from hp)).1;have lt2:=jd this;rw[z]at lt2;have:D<kS:=lt;rw[sz]at this;exact absurd lt2 (by have:s.heap.objs.size+1<kS:=this;exact Nat.not_lt.mpr (Nat.le_of_lt (Nat.lt_of_succ_lt this)))
def qfd{l:Addr}{vs:Ze}{qs:List (Int×List Int)}{Q:Z0}(F:Fr h₀ L s.heap m)(hl:s.heap.IsList l vs.toArray)(h64:vs.length<64)(hq:Paired (f7 s.heap L) vs qs)(hd:∀i j,i<qs.length->j<qs.length->i≠j->qs.getD i (0,[])≠qs.getD j (0,[]))
 (hw:∀i j,i<qs.length->j<qs.length->(qs.getD i (0,[])).2.length=(qs.getD j (0,[])).2.length) (hf:lU prog w A.in1.in1 h₀ L f m s) (un:A.in1.in1.units+1<cLine)
 (k:∀(D:Addr) (s4:Shared) (p:Array Nat) (c:Nat),oN s s4->Fr h₀ L s4.heap m->(∀b o,s.heap.get? b=some o->b≠L->s4.heap.get? b=some o)->s.heap.get? D=none->D≠L->Pm vs.length p->Up (λi j=>bY (qs.getD i (0,[])) (qs.getD j (0,[]))) p vs.length->
   s4.heap.get? D=some {cls:=.type "list",data:=.seq (List.toArray (p.toList.map λi=>vs.getD i Value.none)) c}->Q (.ref D) s4):
 wpAny (model prog w) A (call (.builtin "sorted") [.ref l] [(Str.ofString "key",.ref f)]) Q E s:=by
 by_cases h2:2<=vs.length
 .exact qfc F hl h2 h64 hq hd hw hf un k
 .have small:vs.length<2:=by omega
  refine qfe F hl small hq hf λD s4 c so F4 kp sD DL eD=>k D s4 (Array.range vs.length) c so F4 kp sD DL ⟨by simp,by simp⟩ (λi j ij hj=>by omega) ?_;rw[eD];have e1:((Array.range vs.length).toList.map λi=>vs.getD i Value.none)=vs:=by
   match vs,small with
   |[],_=>rfl
   |[v],_=>rfl
   |_::_::_,h=>exact absurd h (by simp)
  rw[e1]
end
end L2
namespace L2
open PySem PySem.Spec PyProof.Rows
section
variable{P:Program}{w:World}{K:am}{mg:Za}{base:Heap}{N:Zj}{qual:Str}{scope:Scope}{f:Addr}{cd:Value}{cl:List (Str×Addr)}{A:Around}{outer:List Env}{s:Shared}{H:Hp}
structure Holds(cl:List (Str×Addr))(scope:Scope)(H:Hp)(h:Heap):Prop where
 free:∀x,scope.names.lookup x=some .free->∃c,cl.lookup x=some c
 inj:∀x y c,cl.lookup x=some c->cl.lookup y=some c->x=y
 cell:∀x c,cl.lookup x=some c->∃u,h.IsCell c u
 hid:∀x c,cl.lookup x=some c->H c=none
end
structure Betw(I S l:Addr)(xs:List V)(σ Je:Shared->Prop):Prop where
 lst:∀s,σ s->∃its:List Value,Vals xs its/\s.heap.IsList l its.toArray
 turn:∀(s:Shared) (h':Heap),σ s->(∀b o,b≠I->b≠S->s.heap.get? b=some o->h'.get? b=some o)->(∃o,h'.get? I=some o)->(∃o,h'.get? S=some o)->σ {s with heap:=h'}
 stop:∀(s:Shared) (h':Heap),σ s->(∀b o,b≠I->b≠S->s.heap.get? b=some o->h'.get? b=some o)->Je {s with heap:=h'}
section
variable{prog:Program}{w:World}{A:Around}{R:Zb}{I S l f:Addr}{xs:List V}{kz:Nat->Int}{σ Je:Shared->Prop}
end
section
variable{X:Cx}{z5:Z3}{J:St}{H H3:Hp}{s s3:Shared}{P:Addr}{pos:Pos}{q:Str}{o:Obj}
end
def SqL.keepX{K:am}{H H':Hp}{a:Addr}{xs:List V}(s:Same H H')(h:SqL K H a xs):SqL K H' a xs:=by
 rcases h with h|h
 .rcases h with h|⟨o,h⟩
  .exact .inl (.inl (s _ _ h))
  .exact .inl (.inr ⟨o,s _ _ h⟩)
 .exact .inr h
section
variable{X:Cx}{z5:Z3}{J:St}{H:Hp}{s:Shared}{I S:Addr}
def Inv.turn(σ:Inv X z5 J H s){h':Heap}(hI:H I=none)(hS:H S=none)(c1:X.s₀.heap.objs.size<=I/\I≠X.env.locals/\(∀x c,X.env.cells.lookup x=some c->c≠I)/\∀p∈X.pn++z5,p.1≠I)(c2:X.s₀.heap.objs.size<=S/\S≠X.env.locals/\(∀x c,X.env.cells.lookup x=some c->c≠S)/\∀p∈X.pn++z5,p.1≠S)
 (k:∀b o,b≠I->b≠S->s.heap.get? b=some o->h'.get? b=some o):Inv X z5 J H {s with heap:=h'}:=by
 have nc:∀{b:Addr},b∉[I,S]->b≠I/\b≠S:=λh=>⟨λz=>h (by rw[z];simp),λz=>h (by rw[z];simp)⟩;refine σ.step (g':=s.gens) (d':=s.drawn) (t':=s.toks) (ch:=[I,S]) (λb hb=>?_) (λb o _ _ hb e _=>k b o (nc hb).1 (nc hb).2 e) (λb o _ _ hb e _=>⟨o.slots,k b o (nc hb).1 (nc hb).2 e⟩) (λb o _ _ n=>n) (λb o hb e=>⟨o,k b o (nc hb).1 (nc hb).2 e⟩) (λb xs h=>h) (λb o u h=>h) (λb ps h=>⟨#[],by rw[h];simp⟩) (λm hn=>?_) (λa o h=>?_) σ.bare
 .rcases List.mem_cons.mp hb with rfl|hb
  .exact⟨.inr c1.1,c1.2⟩
  .rw[List.mem_singleton.mp hb];exact⟨.inr c2.1,c2.2⟩
 .obtain⟨o,es,ep,e,r⟩:=hn;exact⟨o,es,ep,k _ _ c1.2.1.symm c2.2.1.symm e,r⟩
 .refine(σ.hok a o h).stay (λb u hb e=>k b u ?_ ?_ e) (λb hb=>hb) λb xs hb=>hb
  .rcases hb with rfl|hb
   .exact λz=>by rw[z,hI]at h;cases h
   .exact λz=>by rw[z,hI]at hb;cases hb
  .rcases hb with rfl|hb
   .exact λz=>by rw[z,hS]at h;cases h
   .exact λz=>by rw[z,hS]at hb;cases hb
end
section
variable{X:Cx}{K:am}{e:Expr}{te tb:TE}{p kp pos lp:Pos}{params:Arguments}{body:Expr}{scope:Scope}{x y:Str}{cb c P:Addr}{ib k:Nat}
end
def vJ(K:am)(H:Hp)(v:V)(q:Int×List Int):Prop:=∃(a x:Addr) (ys:List V),v=.ref a/\SqT K H a (.int q.1::.ref x::ys)/\SqL K H x (q.2.map V.int)
def jG(qs:List (Int×List Int))(i j:Nat):Bool:=bY (qs.getD i (0,[])) (qs.getD j (0,[]))
def EG(K:am)(P:Addr)(lp:Pos)(q:Str)(te:TE):TE:=λJ H Q=>te J H λv H1=>∃(l:Addr) (xs:List V) (qs:List (Int×List Int)),[v]=[V.ref l]/\H1 P=some (.lam lp q)/\SqL K H1 l xs/\xs.length<64/\xs.length=qs.length/\(∀i v,xs[i]? =some v->vJ K H1 v (qs.getD i (0,[])))/\
 (∀i j,i<qs.length->j<qs.length->i≠j->qs.getD i (0,[])≠qs.getD j (0,[]))/\(∀i j,i<qs.length->j<qs.length->(qs.getD i (0,[])).2.length=(qs.getD j (0,[])).2.length)/\
 ∀(p:Array Nat) (D:Addr) (H3:Hp),Pm xs.length p->Up (jG qs) p xs.length->Same H1 H3->H3 D=none->Q (.ref D) (aN H3 D (.lst (p.toList.map λi=>xs.getD i .non)))
def SqT.keepX{K:am}{H H':Hp}{a:Addr}{xs:List V}(s:Same H H')(h:SqT K H a xs):SqT K H' a xs:=by
 rcases h with h|h
 .rcases h with h|⟨o,h⟩
  .exact .inl (.inl (s _ _ h))
  .exact .inl (.inr ⟨o,s _ _ h⟩)
 .exact .inr h
theorem G3{xs:List V}{its:Ze}(r:Vals xs its):∀is:List Nat,Vals (is.map λi=>xs.getD i .non) (is.map λi=>its.getD i Value.none)
 |[]=>.nil
 | i::is=>by
  refine .cons ?_ (G3 r is);have ln:=Paired.length r;show RelV (xs.getD i .non) (its.getD i Value.none);rw[jn,jn];by_cases h:i<xs.length
  .let⟨u,e1,e2⟩:=Vals.get r (ji h);rw[ji h,e1];exact e2
  .rw[xh (by omega),xh (show its.length<=i by omega)];exact(show RelV .non Value.none from rfl)
theorem GV{α β:Type}{G:α->β->Prop}{b:β}:∀{xs:List α} {ys:List β},xs.length=ys.length->(∀i x,xs[i]? =some x->G x (ys.getD i b))->Paired G xs ys
 |[],[],_,_=>.nil
 |x::xs,y::ys,hl,h=>.cons (h 0 x rfl) (GV (by simpa using hl) λi x hx=>h (i+1) x hx)
section
variable{X:Cx}{K:am}{e:Expr}{te:TE}{p kp pos lp:Pos}{params:Arguments}{scope:Scope}{v:Str}{c P:Addr}{k:Nat}{p1 q1 r1 p2 q2 r2 bp:Pos}{j1 j2 xc:Nat}
def qeo(hK:X.K=K)(hc:X.calm=true)(hr:Room (k+2) X.A)(hg:Gl X "sorted")(hm:X.mg "sorted"=none)(ha:PE X e te)
 (hdef:defaultsOf params X.env=([],[])) (hcl:closureFor scope X.env=pure []) (hge0:X.env.globals=mainGlobals) (j3:X.env.code=.ref c) (C:∀h:Heap,X.K.In h->W.CodeHd h c P) (hbt:∀h:Heap,X.K.In h->h.BuiltinsAt X.mg P)
 (sx:scope.names.lookup v=some .local) (hco:scope.isCoroutine=false) (hgen:scope.isGenerator=false) (zj:scope.kind=.function) (zt:∀z∈scope.names,z.2≠.cell) (hd:(v==("__debug__":Str))=false)
 (j9:∀(pm cdv ctv u:Value),bindArgs (W.kla_fn "<lambda>" (X.env.qual++"<lambda>") params (m4 v p1 q1 r1 p2 q2 r2 bp j1 j2 xc) scope [] pm cdv ctv) ⟨[u],[]⟩=pure [(v,u)])
 (he:starEach [e] X.env=(false,eval e X.env)::starEach [] X.env:=by rfl)
 (h1:backTo pos (starEach [e] X.env)=(false,eval e X.env)::backTo pos (starEach [] X.env):=by rfl) (h2:(backTo pos (starEach [e] X.env)).any (·.1)=false:=by rfl)
 (h3:(backToKw pos (keywordEach [⟨some "key",.Lambda params (m4 v p1 q1 r1 p2 q2 r2 bp j1 j2 xc) scope lp,kp⟩] X.env)).all (λx=>x.1.isSome)=true:=by rfl) (h4:(backToKw pos (keywordEach [⟨some "key",.Lambda params (m4 v p1 q1 r1 p2 q2 r2 bp j1 j2 xc) scope lp,kp⟩] X.env)).any (λx=>x.1.isNone)=false:=by rfl)
 (h5:(backToKw pos (keywordEach [⟨some "key",.Lambda params (m4 v p1 q1 r1 p2 q2 r2 bp j1 j2 xc) scope lp,kp⟩] X.env)).filterMap (·.1)=[Str.ofString "key"]:=by rfl):
 PE X (.Call (.Name "sorted" p) [e] [⟨some "key",.Lambda params (m4 v p1 q1 r1 p2 q2 r2 bp j1 j2 xc) scope lp,kp⟩] pos) (EG K P lp (X.env.qual++"<lambda>") te):=by
 subst hK;intro z5 s J H Q I h;refine xu (ia I hg hm (u:=.builtin "sorted") (by rfl) ?_);refine callWith_kw (aW ((aj ha aw he) pos z5 s J H (λvs H1=>∃(l:Addr) (xs:List V) (qs:List (Int×List Int)),vs=[V.ref l]/\H1 P=some (.lam lp (X.env.qual++"<lambda>"))/\SqL X.K H1 l xs/\xs.length<64/\xs.length=qs.length/\(∀i v,xs[i]? =some v->vJ X.K H1 v (qs.getD i (0,[])))/\
 (∀i j,i<qs.length->j<qs.length->i≠j->qs.getD i (0,[])≠qs.getD j (0,[]))/\(∀i j,i<qs.length->j<qs.length->(qs.getD i (0,[])).2.length=(qs.getD j (0,[])).2.length)/\
 ∀(p:Array Nat) (D:Addr) (H3:Hp),Pm xs.length p->Up (jG qs) p xs.length->Same H1 H3->H3 D=none->Q (.ref D) (aN H3 D (.lst (p.toList.map λi=>xs.getD i .non)))) I h) λus s1 hh1=>?_) h1 h2 h3 h4
 obtain⟨vs,H1,I1,rr,l,xs,qs,rfl,hP,sq,l64,lq,keys,dist,lens,fin⟩:=hh1;obtain⟨u,rfl,ru⟩:=b9 rr;cases(show u=Value.ref l from ru);refine kws_cons (qlq I1 hP hdef hcl hge0 j3 (C _ I1.mod.kin) (hbt _ I1.mod.kin) λf c' ctv H2 s2 I2 sm new ef nf szf hcd hcH tab=>?_);refine kws_nil ?_;rw[h5];show wpAny _ _ (call (.builtin "sorted") [.ref l] [(Str.ofString "key",.ref f)]) _ _ s2;obtain⟨m,F⟩:=I2.fr;let⟨its,rv,pl,hz⟩:=I2.list (sq.keepX sm);have ln:=Paired.length rv;have lH:∀{a:Addr} {o:HO},H2 a=some o->a≠X.env.locals:=λh z=>by rw[z,I2.free]at h;cases h
 have nsD:∀{a:Addr} {o:Obj} {xs:Zd} {n:Nat},s2.heap.get? a=some o->o.data=.seq xs n->a≠X.env.locals:=λh d z=>by obtain⟨o',es,ep,e',hd',_⟩:=F.ns;rw[z]at h;rw[h]at e';cases e';rw[d]at hd';exact nomatch hd'
 have fL:f≠X.env.locals:=Nat.ne_of_gt (jz I1.lt szf);have cL:c'≠X.env.locals:=lH hcH;have hkeys:Paired (f7 s2.heap X.env.locals) its qs:=GV (b:=(0,[])) (by omega) λi u hu=>by
  let⟨x,ex,rx⟩:=rh rv hu;obtain⟨a,y,ys,rfl,g1,g2⟩:=keys i x ex;cases rx;let⟨its',r',pt,_⟩:=I2.tuple (g1.keepX sm);let⟨vs',rvs,plx,_⟩:=I2.list (g2.keepX sm);cases r' with
  | cons ra r'=>
   cases r' with
   | cons rb r'=>
    obtain⟨t,rfl⟩:=ra;cases rb;refine⟨a,_,t,y,vs',rfl,?_,?_,pt,rfl,rfl,plx.isList,du rvs⟩
    .obtain⟨o,e1,_,n,d⟩:=pt;exact nsD e1 d
    .obtain⟨o,e1,_,n,d⟩:=plx.isList;exact nsD e1 d
 have hun:X.A.in1.in1.units+1<cLine:=by have:=hr.un;show X.A.units+1+1+1<cLine;omega
 have hdep:X.A.in1.in1.depth<recursionLimit:=by have:=hr.dp;show X.A.depth<_;omega
 refine qfd (h₀:=X.base) (L:=X.env.locals) (f:=f) (m:=m) F pl.isList (by omega) hkeys dist lens (λs3 w q Q3 so F3 kp3 kI cont=>?_) hun λD s4 p c so F4 kp sD DL pm up eD=>?_
 .obtain⟨a,its',t,x,vs',rfl,aL,xL,ht,e0,e1,hx,hi⟩:=kI;have ht3:IsTup s3.heap a its':=let ⟨o,e,r⟩:=ht;⟨o,kp3 _ _ e aL,r⟩
  refine qqo (pm:=((X.mg "__name__").getD .none)) (c':=c') (ctv:=ctv) hdep (I2.mod.nolimit.keeps F3.keep) (kp3 _ _ ef fL) ?_ (j9 _ _ _ _) hco hgen zj zt sx hd ht3 e0 e1 λt' s5 kq st et=>cont t' s5 t x vs' kq st xL et hx hi;obtain⟨c2,oc,vs2,tq,hc2,hoc,r⟩:=hcd;cases hc2;exact⟨c',oc,vs2,tq,rfl,kp3 _ _ hoc cL,r⟩
 .obtain⟨hp4,g4,d4,t4,os4⟩:=s4;obtain⟨so1,so2,so3⟩:=so;dsimp only at so1 so2 so3 F4 kp eD;subst so1 so2 so3;have D0:H2 D=none:=by
   cases z:H2 D with
   |none=>rfl
   | some o=>
    let⟨u,hu⟩:=ObjOk.there (I2.hok D o z);rw[sD]at hu;cases hu
  have neD:∀{b:Addr} {o:HO},H2 b=some o->b≠D:=λh z=>by rw[z,D0]at h;cases h
  have lpm:p.toList.length=xs.length:=by have:=pm.size;simpa[ln]using this
  have I4:Inv X z5 J (aN H2 D (.lst (p.toList.map λi=>xs.getD i .non))) {s2 with heap:=hp4,toks:=t4}:=by
   refine I2.step (g':=s2.gens) (d':=s2.drawn) (ch:=[]) (λ_ z=>nomatch z) (λb o bL _ _ e1 _=>kp b o e1 bL) (λb o bL _ _ e1 _=>⟨o.slots,kp b o e1 bL⟩) (λb o _ e1 n=>by rw[aU (λz=>by rw[z,sD]at e1;cases e1)];exact n)
    (λb o _ e1=>?_) (λb xs h=>by rw[aU (neD h)];exact h) (λb o u h=>by rw[aU (neD h)];exact h) (λb ps h=>⟨#[],by rw[aU (neD h),h];simp⟩) (λm' hn=>?_) (λa o h=>?_) I2.bare
   .by_cases z:b=X.env.locals
    .obtain⟨o',_,_,e',_⟩:=F4.ns;exact⟨o',by rw[z];exact e'⟩
    .exact⟨o,kp b o e1 z⟩
   .have em:m'=m:=funext λx=>hn.agree F.ns x;rw[em];exact F4.ns
   .by_cases z:a=D
    .subst z;rw[cr]at h;cases h;refine⟨?_,_,c,G3 rv p.toList,eD⟩;rw[jb,lpm];exact hz
    .rw[aU z]at h;refine(I2.hok a o h).stay (λb u hb e1=>kp b u e1 ?_) (λb hb=>by rw[aU (neD hb)];exact hb) λb xs hb=>by rw[aU (neD hb)];exact hb
     rcases hb with rfl|hb
     .exact lH h
     .exact lH hb
  refine⟨.ref D,_,I4,rfl,fin p D H2 (by rw[ln];exact pm) (by rw[ln];exact up) sm D0⟩
end
section
variable{K:am}{R R2:Hp}
end
def fA(K:am)(P:Addr)(lp:Pos)(q:Str)(n:Nat)(f:List D->Option D):Sp:=λvs H Q _=>vs.length=n/\∃R ds d,(∀a o,R a=some o->H a=some o)/\R P=some (.lam lp q)/\Rps K R vs ds/\f ds=some d/\∀v H' R',Ext H R H' R'->Rp K R' v d->Q v H'
noncomputable def jM(j:Nat)(P:Addr)(lp:Pos)(q:Str)(f:List D->Option D)(fs:aS):aJ:=λM=>match fs M with
 | some (ds,M1)=>(match M1[j]? with
  |some (some (.tab P' lp' q'))=>if P'=P/\lp'=lp/\q'=q then(f ds).map λd=>(d,M1)else none
  |_=>none)
 |none=>none
def uV{K:am}{O:Zg}{P:Addr}{lp:Pos}{q:Str}{n j:Nat}{f:List D->Option D}{tr:TA}{fs:aS}{E:XK}(hj:j∉O)(hf:bV n f)(h:MA K O tr fs):ME K O (jH (fA K P lp q n f) [] E tr) (jM j P lp q f fs):=λZ J H R M d M' Q S e k=>by
 unfold jM at e;split at e
 .rename_i ds M1 e1;split at e
  .rename_i P' lp' q' e2;split at e
   .rename_i z;obtain⟨rfl,rfl,rfl⟩:=z;cases e3:f ds with
    |none=>rw[e3]at e;cases e
    | some d'=>
     rw[e3]at e;cases e;refine h Z J H R M ds _ _ S e1 λvs H1 R1 S1 st1 r1=>?_;show fA K P' lp' q' n f (vs++[]) H1 Q E;rw[List.append_nil];let⟨v,_,rt⟩:=S1.env j _ hj e2;cases rt with
     |tab hP=>exact⟨by rw[r1.length];exact hf ds d e3,R1,ds,d,S1.sub,hP,r1,e3,λv H2 R2 x q=>k v H2 R2 (S1.ext x) (st1.trans x.stp) q⟩
   .cases e
  .cases e
 .cases e
def Inv.phantom{X:Cx}{z5:Z3}{J:St}{H:Hp}{s:Shared}(I:Inv X z5 J H s){j:Nat}{z:Str}{v:V}(hN:X.N[j]? =some z)(hz:¬jV X.env.scope z):Inv X z5 (J.set j (some v)) H s:=by
 obtain⟨m,hn,hl⟩:=I.loc;refine⟨I.ok,I.os,I.bare,I.base,⟨m,hn,λi x u h1 h2 h3=>?_⟩,I.cell,I.free,I.freeC,I.pin,I.hok,by rw[xq];exact I.len⟩;by_cases q:j=i
 .subst q;rw[hN]at h1;cases h1;exact absurd h3 hz
 .rw[jv q]at h2;exact hl i x u h1 h2 h3
def Fun.okT{P:Program}{w:World}{K:am}{mg:Za}{base:Heap}{x qual:Str}{st:Stmt}{f:Addr}{fd:FuncData}{N ps:Zj}{k j:Nat}{z:Str}{sp:Sp}{u:V}(F:Fun K x qual st f fd)(S:q0k N ps (aT st))(hz:N[j]? =some z)(nv:¬jV (aT st) z)(len:∀vs H Q E,sp vs H Q E->vs.length=ps.length)
 (zg:∀(cdv:Value) (A:Around) (outer:List Env) (s:Shared) (H:Hp) (vs:List V) (Q:VK) (E:XK),Room k (A.deeper (envOfC qual (aT st) s.heap.objs.size f cdv))->sp vs H Q E->
   ∃t,PSs (dX br P w K mg base N qual (aT st) f cdv A outer s H E).nox (e8 st) t/\t {nx:=λ_ H'=>Q .non H',rt:=Q} ((aO N vs).set j (some u)) H):FnOk P w K mg base br (k+1) f fd ps sp:=by
 refine F.ok S len λcdv A outer s H vs Q E hr hsp=>?_;let⟨t,ht,hq⟩:=zg cdv A outer s H vs Q E hr hsp;refine⟨λD J H=>t D (J.set j (some u)) H,λz5 s1 J H1 D I h=>?_,hq⟩;exact ht z5 s1 _ H1 D (I.phantom hz nv) h
def Fun.okL{P:Program}{w:World}{K:am}{mg:Za}{base:Heap}{x qual:Str}{st:Stmt}{f:Addr}{fd:FuncData}{N ps:Zj}{k:Nat}{sp:Sp}(F:Fun K x qual st f fd)(S:q0k N ps (aT st))(len:∀vs H Q E,sp vs H Q E->vs.length=ps.length)
 (zg:∀(A:Around) (outer:List Env) (s:Shared) (H:Hp) (vs:List V) (Q:VK) (E:XK),Room k (A.deeper (envOfC qual (aT st) s.heap.objs.size f fd.code))->sp vs H Q E->
   ∃t,PSs (dX br P w K mg base N qual (aT st) f fd.code A outer s H E).nox (e8 st) t/\t {nx:=λ_ H'=>Q .non H',rt:=Q} (aO N vs) H):FnOk P w K mg base br (k+1) f fd ps sp:=by
 obtain⟨oc,od,kV,doc,pm,an,cdv,ct,osl,rfl,lk,hcd⟩:=F.ex;refine tO lk hcd S len λA outer s H vs Q E hr hsp=>?_;let⟨t,h,q⟩:=zg A outer s H vs Q E hr hsp;exact⟨t,h.nox,q⟩
noncomputable def kB(fr:Bool)(n N j:Nat)(d:D)(f:aH)(ds:List D):Option D:=if ds.length=n/\n<=j then match f ((ds.map some++List.replicate (N-n) none).set j (some d))with
 |some (.rt d _)=>some d
 |some (.nx _)=>if fr=true then none else some .non
 |_=>none
 else none
def Ah{K:am}{P:Addr}{lp:Pos}{q:Str}{n j:Nat}{Nms:Zj}{O':Zg}{t:TS}{f:aH}{vs:List V}{H:Hp}{Q:VK}{E:XK}(hj:j<Nms.length)(hm:MS ⟨K,false,[],[]⟩ [] O' t f)(h:fA K P lp q n (kB false n Nms.length j (.tab P lp q) f) vs H Q E):t {nx:=λ_ H'=>Q .non H',rt:=Q} ((aO Nms vs).set j (some (.ref P))) H:=by
 obtain⟨hn,R,ds,d,sub,rP,r,e,k⟩:=h;unfold kB at e;split at e
 .rename_i hl;obtain⟨hl,hjn⟩:=hl;have S0:StR K ⟨H,R,λ_=>False,[]⟩ [] (aO Nms vs) H R (ds.map some++List.replicate (Nms.length-n) none):=by
   refine⟨sub,?_,λi d _ q=>?_,λi hi=>(nomatch hi),λi j hi=>(nomatch hi),λa o q _=>q,Same.refl _,λa q=>.inl q,λa q=>.refl q,λi hi=>(nomatch hi),λi hi=>(nomatch hi)⟩
   .unfold aO;rw[jr,jr,jb,jb,jx,jx,hn,hl]
   .let⟨v,h1,h2⟩:=r.get (re q);exact⟨v,rg h1,h2⟩
  have S:=S0.set (i:=j) (v:=.ref P) (d:=.tab P lp q) (λh=>nomatch h) (.tab rP);have ext:∀{O1:Zg} {J':St} {H' R':Hp} {M':av},StR K ⟨H,R,λ_=>False,[]⟩ O1 J' H' R' M'->Ext H R H' R':=λS'=>⟨λa o q=>S'.ah a o q (λz=>z),S'.ar,S'.sub,S'.an⟩;cases e1:f ((ds.map some++List.replicate (Nms.length-n) none).set j (some (.tab P lp q)))with
  |none=>rw[e1]at e;cases e
  | some o=>
   rw[e1]at e;refine hm _ _ _ _ _ _ o rfl S e1 ?_;cases o with
   | nx M'=>
    dsimp only at e;rw[if_neg (by decide)]at e;cases e;exact λJ' H' R' S' _=>k .non H' R' (ext S') .non
   |bk M'=>cases e
   |ct M'=>cases e
   | rt d' M'=>
    cases e;exact λv J' H' R' S' q=>k v H' R' (ext S') q
 .cases e
def Fo{n N j:Nat}{d:D}{f:aH}:bV n (kB false n N j d f):=λds d' h=>by
 unfold kB at h;split at h
 .rename_i z;exact z.1
 .cases h
def kU(qs:List (Int×List Int))(i j:Nat):Bool:=!jG qs j i
def iu(qs:List (Int×List Int)):List Nat:=(List.range qs.length).mergeSort (kU qs)
def m8(qs:List (Int×List Int)):(iu qs).Perm (List.range qs.length):=List.mergeSort_perm _ _
def EB(qs:List (Int×List Int)):(iu qs).Pairwise λi j=>kU qs i j=true:=by
 refine List.pairwise_mergeSort (le:=kU qs) (λa b c h1 h2=>?_) (λa b=>?_) _
 .unfold kU jG at*;rw[Bool.not_eq_true']at*;exact qhe h2 h1
 .unfold kU jG;cases h:bY (qs.getD b (0,[])) (qs.getD a (0,[]))with
  |false=>rfl
  |true=>rw[kP h];rfl
def qki{qs:List (Int×List Int)}{p:Array Nat}(hd:∀i j,i<qs.length->j<qs.length->i≠j->qs.getD i (0,[])≠qs.getD j (0,[]))(pm:Pm qs.length p)(up:Up (jG qs) p qs.length):p.toList=iu qs:=by
 have lp:p.toList.length=qs.length:=by have:=pm.size;simpa using this
 refine List.Perm.eq_of_pairwise (le:=λi j=>kU qs i j=true) (λa b ha hb h1 h2=>?_) ?_ (EB qs) (pm.perm.trans (m8 qs).symm)
 .have ha':a<qs.length:=List.mem_range.mp (pm.perm.subset ha);have hb':b<qs.length:=List.mem_range.mp ((m8 qs).subset hb);unfold kU jG at h1 h2;rw[Bool.not_eq_true']at h1 h2;by_cases z:a=b
  .exact z
  .exact absurd (pf h2 h1) (hd a b ha' hb' z)
 .rw[List.pairwise_iff_getElem];intro i j hi hj hij;have:=up i j hij (by omega);have gi:p.getD i 0=p.toList[i]:=by simp[Array.getD,show i<p.size by simpa using hi]
  have gj:p.getD j 0=p.toList[j]:=by simp[Array.getD,show j<p.size by simpa using hj]
  rw[gi,gj]at this;unfold jG at this;unfold kU jG;rw[kP this];rfl
def lK(d:D):Option (Int×List Int):=match d with
 |.tup (.int c::.lst bs::_)=>(dH bs).map λns=>(c,ns)
 |_=>none
noncomputable def mM:List D->Option (List (Int×List Int))
 |[]=>some []
 | d::r=>match lK d,mM r with
  |some q,some qs=>some (q::qs)
  |_,_=>none
def vD(qs:List (Int×List Int)):Prop:=qs.length<64/\qs.Nodup/\∀q∈qs,q.2.length=(qs.headD (0,[])).2.length
instance(qs:List (Int×List Int)):Decidable (vD qs):=by unfold vD;infer_instance
def mW(ds:List D):Option D:=match ds with
 | [.lst xs,.int m]=>(match mM xs with
  |some qs=>if vD qs then some (.lst (dY ((iu qs).map λi=>xs.getD i .non) none (some m)))else none
  |none=>none)
 |_=>none
def qm9:bV 2 mW:=λds d h=>by
 unfold mW at h;split at h
 .rfl
 .cases h
section
variable{K:am}{R:Hp}
def qqr{v:V}{d:D}{q:Int×List Int}(r:Rp K R v d)(e:lK d=some q):vJ K R v q:=by
 unfold lK at e;split at e
 .rename_i c bs rest;obtain⟨ns,e1,rfl⟩:=Option.map_eq_some_iff.mp e;obtain⟨a,xs,rfl,h,r⟩:=r.isT;cases r with
  | cons r1 r=>
   cases r with
   | cons r2 r=>
    obtain rfl:=r1.isI;obtain⟨x,ys,rfl,hx,rx⟩:=r2.isL;have ex:=m9 rx e1;subst ex;exact⟨a,x,_,rfl,SqT.of h,hx⟩
 .cases e
theorem GO:∀{vs:List V} {ds:List D} {qs:List (Int×List Int)},Rps K R vs ds->mM ds=some qs->vs.length=qs.length/\∀i v,vs[i]? =some v->vJ K R v (qs.getD i (0,[]))
 | _,_,qs,.nil,e=>by cases e;exact⟨rfl,λi v h=>by simp at h⟩
 | _,_,qs,.cons (d:=d) (ds:=ds) r t,e=>by
  unfold mM at e;split at e
  .rename_i q qs' e1 e2;cases e;let⟨h1,h2⟩:=GO t e2;refine⟨by simp[h1],λi v h=>?_⟩;cases i with
   |zero=>cases h;exact qqr r e1
   |succ i=>exact h2 i v h
  .cases e
theorem Go{vs:List V}{ds:List D}(r:Rps K R vs ds):∀is:List Nat,(∀i∈is,i<vs.length)->Rps K R (is.map λi=>vs.getD i .non) (is.map λi=>ds.getD i .non)
 |[],_=>.nil
 | i::is,h=>by refine .cons ?_ (Go r is λj hj=>h j (jh _ hj));have hi:=h i jj;let⟨d,e1,e2⟩:=r.get' (ji hi);show Rp K R (vs.getD i .non) (ds.getD i .non);rw[jn,jn,ji hi,e1];exact e2
def qg2{P:Addr}{lp:Pos}{q:Str}{Nms:Zj}{vs:List V}{H:Hp}{Q:VK}{E:XK}(hN:2<=Nms.length)(h:fA K P lp q 2 mW vs H Q E):
 (iq (wD (nT K) (EG K P lp q (dq 0)) zB (wX (dq 1)))) {nx:=λ_ H'=>Q .non H',rt:=Q} (aO Nms vs) H:=by
 obtain⟨hn,R,ds,d,sub,rP,r,e,k⟩:=h;unfold mW at e;split at e
 .rename_i xs m;cases e1:mM xs with
  |none=>rw[e1]at e;cases e
  | some qs=>
   rw[e1]at e;dsimp only at e;split at e
   .rename_i ok;obtain⟨n64,nd,ln⟩:=ok;cases e;cases r with
    |cons r0 r=>
    cases r with
    |cons r1 r=>
    cases r;obtain rfl:=r1.isI;obtain⟨l,vxs,rfl,hl,rx⟩:=r0.isL;let⟨lq,keys⟩:=GO rx e1;have dist:∀i j,i<qs.length->j<qs.length->i≠j->qs.getD i (0,[])≠qs.getD j (0,[]):=λi j hi hj ij z=>by
     rw[jn,jn,ji hi,ji hj]at z;have z':qs[i]=qs[j]:=z;have pw:=List.pairwise_iff_getElem.mp nd;rcases Nat.lt_or_gt_of_ne ij with w|w
     .exact pw i j hi hj w z'
     .exact pw j i hj hi w z'.symm
    have lens:∀i j,i<qs.length->j<qs.length->(qs.getD i (0,[])).2.length=(qs.getD j (0,[])).2.length:=λi j hi hj=>by rw[jn,jn,ji hi,ji hj];exact(ln _ (xw hi)).trans (ln _ (xw hj)).symm
    refine⟨.ref l,rfl,l,vxs,qs,rfl,sub _ _ rP,hl.keepX sub,by omega,lq,λi v hv=>?_,dist,lens,λp D H3 pm up sm hD=>?_⟩
    .let⟨a,x,ys,ea,g1,g2⟩:=keys i v hv;exact⟨a,x,ys,ea,g1.keepX sub,g2.keepX sub⟩
    .rw[lq]at pm up;have ep:=qki dist pm up;refine⟨.int m,rfl,m,rfl,.inl ⟨D,_,rfl,SqL.of cr,λp2 hp2=>?_⟩⟩;have x0:Ext H R H3 R:=⟨sm,Same.refl _,λa o h=>sm _ _ (sub _ _ h),λ_ h=>.inl h⟩;have x1:=x0.trans (Ext.hid (o:=.lst (p.toList.map λi=>vxs.getD i .non)) x0.s hD);have x2:=Ext.new (o:=.lst (eJ (p.toList.map λi=>vxs.getD i .non) none (some m))) x1.s hp2;refine k _ _ _ (x1.trans x2) (.lst (SqL.of cr) ?_);rw[<-ep];exact((Go rx p.toList λi hi=>by rw[lq];exact List.mem_range.mp (pm.perm.subset hi)).mono x2.r).cut none (some m)
   .cases e
 .cases e
end
section
variable{X:Cx}{K:am}
def Fh(x:Int×List Int):qc (bK x)=some x:=by show(dH (x.2.map D.int)).map _=_;rw[i3];rfl
end
structure FunD(K:am)(x qual:Str)(st:Stmt)(f:Addr)(fd:FuncData):Prop where
 ex:∃(oc:Value) (od:Zc) (dV kV doc pm:Value) (an:Zc) (cdv ct:Value) (osl:Array (Option Value)),
  fd=W.fnOf x qual (ii st) (e8 st) (aT st) dV kV doc pm an cdv ct/\K.lookup f=some ⟨oc,od,.func fd,osl⟩/\W.codeIn K cdv qual=true
 kp:W.keepIn K (.ref f)=true
section
variable{P:Program}{w:World}{K:am}{mg:Za}{base:Heap}
def FunD.ok{x qual:Str}{st:Stmt}{f:Addr}{fd:FuncData}{N ps:Zj}{k:Nat}{sp:Sp}(F:FunD K x qual st f fd)(S:q0k N ps (aT st))(len:∀vs H Q E,sp vs H Q E->vs.length=ps.length)
 (zg:∀(cdv:Value) (A:Around) (outer:List Env) (s:Shared) (H:Hp) (vs:List V) (Q:VK) (E:XK),Room k (A.deeper (envOfC qual (aT st) s.heap.objs.size f cdv))->sp vs H Q E->
   ∃t,PSs (dX br P w K mg base N qual (aT st) f cdv A outer s H E).nox (e8 st) t/\t {nx:=λ_ H'=>Q .non H',rt:=Q} (aO N vs) H):FnOk P w K mg base br (k+1) f fd ps sp:=by
 obtain⟨oc,od,dV,kV,doc,pm,an,cdv,ct,osl,rfl,lk,hcd⟩:=F.ex;refine tO lk hcd S len λA outer s H vs Q E hr hsp=>?_;let⟨t,h,q⟩:=zg cdv A outer s H vs Q E hr hsp;exact⟨t,h.nox,q⟩
def qqx{x qual:Str}{st:Stmt}{f:Addr}{oc:Value}{od an:Zc}{osl:Array (Option Value)}{dV kV doc pm cdv ct:Value}(l:K.lookup f=some ⟨oc,od,.func (W.fnOf x qual (ii st) (e8 st) (aT st) dV kV doc pm an cdv ct),osl⟩)
 (c:W.codeIn K cdv qual=true) (k:W.keepIn K (.ref f)=true):FunD K x qual st f (W.fnOf x qual (ii st) (e8 st) (aT st) dV kV doc pm an cdv ct):=⟨⟨oc,od,dV,kV,doc,pm,an,cdv,ct,osl,rfl,l,c⟩,k⟩
def qxj{fd:FuncData}{ps:Zj}{T:Addr}{oc:Value}{od:Zc}{osl:Array (Option Value)}{items:Zd}{n:Nat}(hd:fd.defaults=.ref T)(l:K.lookup T=some ⟨oc,od,.seq items n,osl⟩)
 (h:∀us:List Value,us.length=ps.length->∃k,bindArgs fd ⟨us,[]⟩=seqItems? fd.defaults >>= k/\k (some items)=pure (ps.zip us)):Binds K fd ps []:=λs us X hl=>by
 rw[List.append_nil]at hl ⊢;let⟨k,h1,h2⟩:=h us hl;exact BindsTo.of_defaults hd (X _ _ l) rfl h1 h2
end
section
variable{K:am}{Z:Anc}{O:Zg}{J:St}{H R H' R':Hp}{M:av}{l:Addr}
end
def FunD.okT{P:Program}{w:World}{K:am}{mg:Za}{base:Heap}{x qual:Str}{st:Stmt}{f:Addr}{fd:FuncData}{N ps:Zj}{k j:Nat}{z:Str}{sp:Sp}{u:V}(F:FunD K x qual st f fd)(S:q0k N ps (aT st))(hz:N[j]? =some z)(nv:¬jV (aT st) z)(len:∀vs H Q E,sp vs H Q E->vs.length=ps.length)
 (zg:∀(cdv:Value) (A:Around) (outer:List Env) (s:Shared) (H:Hp) (vs:List V) (Q:VK) (E:XK),Room k (A.deeper (envOfC qual (aT st) s.heap.objs.size f cdv))->sp vs H Q E->
   ∃t,PSs (dX br P w K mg base N qual (aT st) f cdv A outer s H E).nox (e8 st) t/\t {nx:=λ_ H'=>Q .non H',rt:=Q} ((aO N vs).set j (some u)) H):FnOk P w K mg base br (k+1) f fd ps sp:=by
 refine F.ok S len λcdv A outer s H vs Q E hr hsp=>?_;let⟨t,ht,hq⟩:=zg cdv A outer s H vs Q E hr hsp;refine⟨λD J H=>t D (J.set j (some u)) H,λz5 s1 J H1 D I h=>?_,hq⟩;exact ht z5 s1 _ H1 D (I.phantom hz nv) h
section
variable{X:Cx}{tg elt zf:Expr}{ifs:Zi}{scope:Scope}{pos:Pos}{N N0:Zj}{js:Zg}{sc:Scope}{wi:TI}{g:TG}{tt:TT}{te:TE}
end
def GF{K:am}{c P:Addr}{o:Obj}{vs:Zd}{file:Str}{tf:Tok}{flags:Int}{tg:Tok}{inF:Bool}{text:Int}{tt:Tok}(h:K.lookup c=some o)(h1:o.cls=.type "code")(h2:o.data=.fields vs)(h3:vs[11]? =some (.ref P))(h4:vs.getD 11 .none=.ref P)(h5:vs.getD 18 .none=.str file tf)(h6:vs.getD 7 .none=.int flags tg)(h7:vs.getD 9 .none=.bool inF)(h8:vs.getD 10 .none=.int text tt)(h9:c≠P):∀h:Heap,K.In h->W.CodeHd h c P:=
 λ_ X=>⟨o,vs,file,tf,flags,tg,inF,text,tt,X _ _ h,h1,h2,h3,h4,h5,h6,h7,h8,h9⟩
def q9o{K:am}{mg:Za}{P bm:Addr}(hm:mg "__builtins__"=some (.ref bm))(h:K.lookup bm=some {cls:=.type "module",dict:=some builtinsNs,data:=.plain})(n1:bm≠builtinsNs)(n2:bm≠mainGlobals)(n3:bm≠P):∀h:Heap,K.In h->h.BuiltinsAt mg P:=
 λ_ X=>⟨bm,_,hm,n1,n2,n3,X _ _ h,rfl,rfl,rfl⟩
def uu(K:am)(P:Addr)(lp:Pos)(q:Str)(n:Nat):Sp:=λvs H Q _=>∃(b:Addr) (ns:Zf),vs=[.ref b]/\SqL K H b (ns.map V.int)/\ns.length<=n/\H P=some (.lam lp q)/\∀H',H' P=some (.lam lp q)->Q (.bl true) H'
def qqn{P:Program}{w:World}{K:am}{mg:Za}{base:Heap}{CX:gr}{k n:Nat}{fa:Addr}{fd:FuncData}{x:Str}{P0:Addr}{lp:Pos}{q:Str}{f:List D->Option D}(F:FnOk P w K mg base CX k fa fd [x] (fA K P0 lp q 1 f))(h:∀ns:List Int,ns.length<=n->f [.lst (ns.map D.int)]=some (.bl true)):FnOk P w K mg base CX k fa fd [x] (uu K P0 lp q n):=
 F.imp λvs H Q E h0=>by obtain⟨b,ns,rfl,hb,hl,hP,k⟩:=h0;refine⟨rfl,H,[.lst (ns.map D.int)],.bl true,λ_ _ e=>e,hP,.cons (.lst hb (Rps.ints ns)) .nil,h ns hl,λv H' R' x r=>?_⟩;have r':Rp K R' v (.bl true):=r;cases r';exact k H' (x.s _ _ (x.r _ _ hP))
def qio{P:Program}{w:World}{K:am}{mg mb:Za}{k n:Nat}{fa a c P0:Addr}{lp:Pos}{q:Str}{fd:FuncData}{x:Str}{s₁:Shared}{vs:Ze}{ns:Zf}
 (KX:K.In s₁.heap) (hns:s₁.heap.Ns mainGlobals mg) (hb:s₁.heap.Ns builtinsNs mb) (hbb:∀x:Str,x≠"__name__"->mb x=bootBuiltins x) (hlim:s₁.heap.NoLimit) (hg:s₁.gens=#[])
 (ha:s₁.heap.get? a=some {cls:=.type "list",data:=.seq vs.toArray}) (hi:IntsAre vs ns) (hl:ns.length<=sizeLine) (hn:ns.length<=n) (hr:Room k callerA)
 (hP:s₁.heap.get? P0=some {cls:=.none,data:=.fields #[]}) (hKP:K.lookup P0=none) (hcd:W.CodeHd s₁.heap c P0)
 (F:∀base:Heap,K.In base->base.Ns mainGlobals mg->FnOk P w K mg base br k fa fd [x] (uu K P0 lp q n)) (j9:∀(s:Shared) (u:Value),BindsTo s fd ⟨[u],[]⟩ [(x,u)]):
 codeAny (model P w) callerA (.call (.ref fa) ⟨[.ref a],[]⟩) (λr s'=>r=.ok (.ret (.bool true))/\OldK s₁.heap s'.heap/\s'.os=s₁.os/\AllBare s'.gens) s₁:=by
 have rv:=G1 hi;have lenV:=hi.length;have naP:a≠P0:=λz=>by rw[z,hP]at ha;cases ha
 have core:∀H:Hp,(∀b,H b=none∨(b=P0/\H b=some (.lam lp q))∨∃o xs,H b=some (.frz o (.lst xs)))->H P0=some (.lam lp q)->SqL K H a (ns.map V.int)->HOk P w H s₁.heap->(∀b,H b≠none->b=a∨b=P0)->(H a≠none->K.lookup a=none)->
  codeAny (model P w) callerA (.call (.ref fa) ⟨[.ref a],[]⟩) (λr s'=>r=.ok (.ret (.bool true))/\OldK s₁.heap s'.heap/\s'.os=s₁.os/\AllBare s'.gens) s₁:=by
  intro H hO hH hS hok hA hK;have base_of:∀{b:Addr} {o:Obj},s₁.heap.get? b=some o->H b=none->(fE s₁.heap H).get? b=some o:=λe n=>qm0 e n;have noA:∀{b:Addr} {o:Obj} {es:Array DictEntry} {ep:Nat},s₁.heap.get? b=some o->o.data=.dict es ep->H b=none:=λ{b o es ep} e d=>by
   cases z:H b with
   |none=>rfl
   | some u=>
    rcases hA b (by rw[z];simp)with e'|e'
    .subst e';rw[ha]at e;cases e;have d':Data.seq vs.toArray _=Data.dict es ep:=d;cases d'
    .subst e';rw[hP]at e;cases e;have d':Data.fields _=Data.dict es ep:=d;cases d'
  have nsK:∀{b:Addr} {m:Za},s₁.heap.Ns b m->(fE s₁.heap H).Ns b m:=λ{b m} ⟨o,es,ep,e,d,r⟩=>⟨o,es,ep,base_of e (noA e d),d,r⟩;have hKb:K.In (fE s₁.heap H):=λb o e=>base_of (KX b o e) (by
   cases z:H b with
   |none=>rfl
   | some u=>
    rcases hA b (by rw[z];simp)with e'|e'
    .subst e';rw[hK (by rw[z];simp)]at e;cases e
    .subst e';rw[hKP]at e;cases e)
  have hM:Mod K mg (fE s₁.heap H):=⟨hKb,nsK hns,⟨mb,nsK hb,hbb⟩,let ⟨mc,h1,h2⟩:=hlim;⟨mc,nsK h1,h2⟩⟩;have e0:Env0 P w K mg (fE s₁.heap H) callerA [] s₁ H:=⟨rfl,hM,λb o e=>qq5 e,Nat.le_of_eq (qiv),trivial,λb hb=>absurd (show b∈([]:List Addr)from hb) (by simp),hok,.of_eq hg⟩;refine codeAny_mono ((F _ hKb (nsK hns)).run callerA [] s₁ H ⟨[.ref a],[]⟩ [.ref a] [.ref a] (λv H'=>v=.bl true/\H' P0=some (.lam lp q)) (λ_ _ _=>False) hr e0 (j9 s₁ (.ref a)) (.cons rfl .nil) ⟨a,ns,rfl,hS,hn,hH,λH' h=>⟨rfl,h⟩⟩) λr s' h=>?_;cases r with
  |error e=>exact h.elim
  | ok fl=>
   cases fl with
   |next=>exact False.elim h
   |brk=>exact False.elim h
   |cont=>exact False.elim h
   | ret u=>
    obtain⟨v,H',os,bare,un,hok',r',q',hP'⟩:=h;subst q';obtain rfl:u=Value.bool true:=r';have keep:∀b o,b≠P0->s₁.heap.get? b=some o->s'.heap.get? b=some o:=λb o nb e=>by
     cases z:H b with
     |none=>exact un.keep b o e z (by intro z;exact absurd (show b∈([]:List Addr)from z) (by simp)) (by simp)
     | some u=>
      rcases hO b with z2|⟨z2,_⟩|⟨ob,xs,z2⟩
      .rw[z]at z2;cases z2
      .exact absurd z2 nb
      .have z3:=un.frzs b ob _ z2;let⟨e1,_⟩:=hok b _ z2;let⟨e2,_⟩:=hok' b _ z3;rw[e]at e1;cases e1;exact e2
    let⟨ps,e1,_⟩:=hok' P0 _ hP';refine⟨rfl,⟨λb o e=>?_,λb o e=>?_⟩,os,bare⟩
    .by_cases z:b=P0
     .subst z;rw[hP]at e;cases e;obtain⟨oc,cs,_,_,_,_,_,_,_,k1,k2,k3,k4,_⟩:=hcd;exact .inr (.inl ⟨⟨c,oc,cs,k1,k2,k3,k4⟩,rfl,#[],ps,rfl,by rw[Array.empty_append];exact e1⟩)
     .exact .inl (keep b o z e)
    .by_cases z:b=P0
     .rw[z];exact⟨_,e1⟩
     .exact⟨o,keep b o z e⟩
 have cR:∀H:Hp,ObjOk P w H s₁.heap P0 (.lam lp q):=λH=>⟨#[],hP,by unfold TriplesOk;trivial,.inl (by rfl)⟩;cases hk:K.lookup a with
 | some o=>
  have e:=KX a o hk;rw[ha]at e;cases e;refine core (λb=>if b=P0 then some (.lam lp q)else none) (λb=>?_) (if_pos rfl) (.inr ⟨_,vs.toArray,_,hk,rfl,rfl,rfl,by rw[x5,lenV];exact hl,by simpa using rv⟩) (λb u z=>?_) (λb z=>?_) λz=>absurd (if_neg naP) z
  .by_cases hb:b=P0
   .exact .inr (.inl ⟨hb,if_pos hb⟩)
   .exact .inl (if_neg hb)
  .by_cases hb:b=P0
   .have z':=(if_pos hb).symm.trans z;cases z';subst hb;exact cR _
   .have z':=(if_neg hb).symm.trans z;cases z'
  .by_cases hb:b=P0
   .exact .inr hb
   .exact absurd (if_neg hb) z
 | none=>
  have hHa:(λb=>if b=P0 then some (HO.lam lp q)else if b=a then some (.frz {cls:=.type "list",data:=.seq vs.toArray} (.lst (ns.map V.int)))else none) a=some (.frz {cls:=.type "list",data:=.seq vs.toArray} (.lst (ns.map V.int))):=by dsimp only;rw[if_neg naP,if_pos rfl]
  refine core (λb=>if b=P0 then some (.lam lp q)else if b=a then some (.frz {cls:=.type "list",data:=.seq vs.toArray} (.lst (ns.map V.int)))else none) (λb=>?_) (if_pos rfl) (.inl (.inr ⟨{cls:=.type "list",data:=.seq vs.toArray},hHa⟩)) (λb u z=>?_) (λb z=>?_) λ_=>hk
  .by_cases hb:b=P0
   .exact .inr (.inl ⟨hb,if_pos hb⟩)
   .by_cases hb2:b=a
    .exact .inr (.inr ⟨_,_,by rw[hb2];exact hHa⟩)
    .exact .inl (by rw[if_neg hb,if_neg hb2])
  .by_cases hb:b=P0
   .have z':=(if_pos hb).symm.trans z;cases z';subst hb;exact cR _
   .by_cases hb2:b=a
    .subst hb2;rw[hHa]at z;cases z;exact⟨ha,by rw[jb];exact hl,vs,_,rv,ha⟩
    .dsimp only at z;rw[if_neg hb,if_neg hb2]at z;cases z
  .by_cases hb:b=P0
   .exact .inr hb
   .by_cases hb2:b=a
    .exact .inl hb2
    .rw[if_neg hb,if_neg hb2]at z;exact absurd rfl z
def walk_ofL{l:W.OpenLaw}{n k:Nat}{q:Program}{loose:Zj}{XP:(Str->Option Value)->Heap->Prop}{YP:World->Heap->Prop}{d:DefRec}{K:Params->W.Frag}{P0 c:Addr}{lp:Pos}{qn:Str}{x:Str}
 (hn:l.most=some n) (hn2:n<=sizeLine) (hdf:d.params.defaults=[]) (hr:Room k callerA)
 (hY:∀(w:World) (h:Heap),YP w h->(K w.params).In h/\h.get? P0=some {cls:=.none,data:=.fields #[]}) (hKP:∀P,(K P).lookup P0=none) (hcd:∀P (h:Heap),(K P).In h->W.CodeHd h c P0)
 (F:∀(w:World) (mg:Za) (fa:Addr) (h:Heap),(K w.params).In h->h.Ns mainGlobals mg->mg d.name=some (.ref fa)->
   ∃fd:FuncData,(∀(s:Shared) (u:Value),BindsTo s fd ⟨[u],[]⟩ [(x,u)])/\
    ∀base:Heap,(K w.params).In base->base.Ns mainGlobals mg->FnOk l.prog w (K w.params) mg base br k fa fd [x] (uu (K w.params) P0 lp qn n)):
 W.WalkO q loose XP YP l.row.toRowW d [] (λf vs=>PySem.call f vs):=by
 refine Att.attach_call hn hdf λw s₀ s₁ mg mb fa o pm cd doc a vs ns G Y ho hd hcd' hmg hobj j8 ze hg=>?_;let⟨KX,hP⟩:=hY w _ Y;let⟨fd,hb,hF⟩:=F w mg fa _ KX G.T.g hmg;exact qio KX G.T.g G.T.b G.T.builtins G.T.nolimit hg hobj j8 (x6 ze hn2) ze hr hP (hKP _) (hcd _ _ KX) hF hb
section
variable{X:Cx}{K:am}
def Dk(K:am):List V->Hp->VK->Prop:=λxs H Q=>∃(p:Addr) (ns:Zf),xs=[.ref p]/\SqL K H p (ns.map V.int)/\ns≠[]/\Q (.int ((cG ns).getD 0)) H
def qfg(hK:X.K=K)(hc:X.calm=true):fM X (.builtin "min") (Dk K):=by
 subst hK;intro z5 s J H xs us Q I r h;obtain⟨p,ns,rfl,hq,hn,k⟩:=h;obtain⟨u,rfl,ru⟩:=b9 r;cases ru;let⟨its,rv,pl,hz⟩:=I.list hq;have ln:its.length=ns.length:=by have:=rv.length;simp at this;omega
 have hh:X.A.in1.handled=none:=I.ok.hd hc;have n0:0<ns.length:=List.length_pos_iff.mpr hn;refine GD (its:=its.toArray) (bt:=vH ns) hh pl.isList (by simp;omega) (λi j vi vj s Q E hi hj _ q=>?_) λv s' ev k'=>?_
 .obtain⟨t,rfl⟩:=mH rv (by simpa using hi);obtain⟨t',rfl⟩:=mH rv (by simpa using hj);exact HT.rcLt_int _ s _ t _ t' _ _ _ _ (q s ⟨λ_ _ e=>e,rfl,rfl,rfl⟩)
 .rw[x5,ln]at ev;obtain⟨t,rfl⟩:=mH rv (by simpa using ev);refine⟨_,_,uc I k',?_,k⟩;cases ns with
  |nil=>exact absurd rfl hn
  |cons a r=>exact⟨t,rfl⟩
def tN:D->Option D
 | .lst xs=>match dH xs with
  |some ns=>if ns≠[]then some (.int ((cG ns).getD 0))else none
  |none=>none
 |_=>none
def qrt:oM K (Dk K) tN:=λH x d u Q r e k=>by
 unfold tN at e;split at e
 .obtain⟨p,vs,rfl,h,rs⟩:=r.isL;split at e
  .rename_i ns z;split at e
   .rename_i hn;cases e;have ex:=m9 rs z;subst ex;exact⟨p,ns,rfl,h,hn,k _ (.int _)⟩
   .cases e
  .cases e
 .cases e
end
end L2
namespace L2
open PySem PySem.Spec PyProof.Rows PySem.W
abbrev vI:=StateT SortSt Sem
noncomputable def lL:Bool->Keyed->Array Keyed->Nat->Nat->Nat->vI (Option Nat):=sortPriv% PySem.Builtin.gallop
noncomputable def sy:Array Keyed->Array Keyed->vI (Array Keyed):=sortPriv% PySem.Builtin.mergeLo
noncomputable def Bk:Array Keyed->Array Keyed->vI (Array Keyed):=sortPriv% PySem.Builtin.mergeHi
def qw8(i:Nat):mergeAt' i=(do
 let s <-get
 let (some (x,m,pw),some (y,n,_)):=((pendingOf s)[i]?,(pendingOf s)[i+1]?)|unsupported "internal:list.sort.pending"
 set (setPending s (((pendingOf s).setIfInBounds i (x,m+n,pw)).eraseIdxIfInBounds (i+1)))
 let some k <-lL false (<-elem' (arrOf s) y) (arrOf s) x m 0|return false
 let (x,m):=(x+k,m-k)
 if m==0 then return true
 let some n <-lL true (<-elem' (arrOf s) (x+m-1)) (arrOf s) y n (n-1)|return false
 if n==0 then return true
 let c:=(arrOf s).extract x y
 let d:=(arrOf s).extract y (y+n)
 let r <-if m<=n then sy c d else Bk c d
 modify λs=>setArr s (r.toList.zipIdx.foldl (λa (p,j)=>a.setIfInBounds (x+j) p) (arrOf s))
 return(failedOf (<-get)).isNone):=rfl
noncomputable def cZ:Nat->List Nat
 |0=>[0]
 |k+1=>(cZ k).map (2* ·)++(cZ k).map (2* · +1)
noncomputable def fJ:Nat->Nat->List Int
 |0,_=>[]
 |k+1,r=>fJ k (r / 2)++[((r % 2:Nat):Int)]
def qxx:∀n,n<7->∀r,r<2^n->∀q,q<2^n->HT.lexLt (fJ n r) (fJ n q)=decide (r<q):=by decide+kernel
section
variable{ρ:Model}{A:Around}{E:Z0}{s:Shared}{el:Nat->Keyed}{N:Nat}{a:Array Nat}{p:Array (Nat×Nat×Nat)}{lo n:Nat}
def fH(ρ:Model)(A:Around)(E:Z0)(s:Shared)(el:Nat->Keyed)(N:Nat):Prop:=
 ∀(x y:Nat) (st:SortSt) (Q:Option Bool->SortSt->Prop),x<N->y<N->kindOf st=oneType'->Q (some (decide (x<y))) st->wpS ρ A E s (lt' (el x) (el y)) Q st
noncomputable def mE(el:Nat->Keyed)(a:Array Nat):Array Keyed:=(a.toList.map el).toArray
def oV:mE el a=a.map el:=by unfold mE;rw[<-Array.toList_map,Array.toArray_toList]
def sS(el:Nat->Keyed)(a:Array Nat)(p:Array (Nat×Nat×Nat)):SortSt:=SortSt.mk' oneType' (mE el a) p 7 none
def gD{st:SortSt}{i x:Nat}{Q:Keyed->SortSt->Prop}(hi:a[i]? =some x)(h:Q (el x) st):wpS ρ A E s (elem' (mE el a) i) Q st:=by rw[elem'_eq,oV,Array.getElem?_map,hi];exact jy h
def EJ(L:fH ρ A E s el N){i j x y:Nat}{Q:Option Bool->SortSt->Prop}(hi:a[i]? =some x)(hj:a[j]? =some y)(hx:x<N)(hy:y<N)(h:Q (some (decide (x<y))) (sS el a p)):wpS ρ A E s (ltAt' i j) Q (sS el a p):=by rw[ltAt'_eq];exact jf (wpS_get (jf (gD hi (jf (gD hj (L _ _ _ _ hx hy rfl h))))))
def qz{i:Nat}(h:i<a.size):a[i]? =some (a.getD i 0):=by rw[Array.getElem?_eq_getElem h];simp[h]
def ET(L:fH ρ A E s el N){m:Nat}{Q:Option Nat->SortSt->Prop}(hN:∀i,i<a.size->a.getD i 0<N)(hs:lo+m<=a.size)(xy:a.getD lo 0<a.getD (lo+1) 0)(hz:2<m->a.getD (lo+2) 0<a.getD (lo+1) 0)(hm:2<=m)(h:Q (some 2) (sS el a p)):wpS ρ A E s (countRun' lo m) Q (sS el a p):=by
 have g:∀{i j:Nat} {c:Bool} {Q:Option Bool->SortSt->Prop},i<a.size->j<a.size->decide (a.getD i 0<a.getD j 0)=c->Q (some c) (sS el a p)->wpS ρ A E s (ltAt' i j) Q (sS el a p):=λhi hj e q=>EJ L (qz hi) (qz hj) (hN _ hi) (hN _ hj) (e▸q);rw[countRun'_eq];refine jf (wpS_mono (wpS_forRange (I:=λi c st=>st=sS el a p/\(i=1/\c=(none,1)∨i=2/\c=(none,2))) (Q:=λc st=>st=sS el a p/\c=(none,2)) ?_ ?_ ⟨rfl,.inl ⟨rfl,rfl⟩⟩) ?_)
 .rintro i c st _ im ⟨rfl,⟨rfl,rfl⟩|⟨rfl,rfl⟩⟩
  .exact jf (g (by dsimp only;omega) (by dsimp only;omega) (decide_eq_false (Nat.not_lt_of_lt xy)) (jy ⟨rfl,.inr ⟨rfl,rfl⟩⟩))
  .exact jf (g (by dsimp only;omega) (by dsimp only;omega) (decide_eq_true (hz im)) (jy ⟨rfl,rfl⟩))
 .rintro c st ⟨rfl,⟨i,_⟩|⟨_,rfl⟩⟩
  .omega
  .exact⟨rfl,rfl⟩
 .rintro c st ⟨rfl,rfl⟩;dsimp only;by_cases e:2=m
  .rw[if_pos (by rw[e];exact beq_self_eq_true _)];exact jy h
  .rw[if_neg (by simpa using e),if_pos (by decide)];exact jf (g (by omega) (by omega) (decide_eq_true xy) (jy h))
noncomputable def pG(a:Array Nat)(lo x:Nat):Nat->Nat->Nat->Nat
 |0,l,_=>l
 |f+1,l,r=>if l≥r then l else if x<a.getD (lo+(l+r) / 2) 0 then pG a lo x f l ((l+r) / 2)else pG a lo x f ((l+r) / 2+1) r
def ins(lo:Nat)(a:Array Nat)(k:Nat):Array Nat:=bubble a (lo+k) (k-pG a lo (a.getD (lo+k) 0) k 0 k)
theorem ER:∀(a:Array Nat) (i d:Nat),bubble (mE el a) i d=mE el (bubble a i d)
 |a,i,0=>rfl
 | a,i,d+1=>by
  rw[bubble_succ,bubble_succ,ER a i d,oV,oV];simp only[Array.swapIfInBounds_def,Array.size_map];split
  .split
   .apply Array.ext<;>simp[Array.getElem_swap,apply_ite el]
   .rfl
  .rfl
def EM(L:fH ρ A E s el N){Q:Bool->SortSt->Prop}(hN:∀i,i<a.size->a.getD i 0<N)(hn:lo+n<=a.size)(h2:2<=n)(h:Q true (sS el ((List.range' 2 (n-2)).foldl (ins lo) a) p)):wpS ρ A E s (binarySort' lo n 2) Q (sS el a p):=by
 rw[binarySort'_eq];refine jf (wpS_mono (wpS_forRange (I:=λk c st=>c=(none,())/\∃b,b=(List.range' 2 (k-2)).foldl (ins lo) a/\b.Perm a/\st=sS el b p) (Q:=λc st=>c=(none,())/\st=sS el ((List.range' 2 (n-2)).foldl (ins lo) a) p) ?_ ?_ ⟨rfl,a,rfl,.refl _,rfl⟩) ?_)
 .rintro k c st k1 kn ⟨rfl,b,eb,pb,rfl⟩;have bs:b.size=a.size:=pb.size_eq;have bN:∀i,i<a.size->b.getD i 0<N:=λi hi=>by
   have:=qz (a:=b) (i:=i) (by omega);rw[<-Array.getElem?_toList]at this;let⟨j,hj,e⟩:=List.getElem_of_mem ((Array.perm_iff_toList_perm.mp pb).mem_iff.mp (k8 this));have:=hN j (by simpa using hj);simp at hj;simp[hj]at this e;simpa[e]using this
  have k2:2<=k:=by omega
  obtain⟨G,hG⟩:∃G,pG b lo (b.getD (lo+k) 0) k 0 k=G:=⟨_,rfl⟩;refine jf (wpS_mono (wpS_forRange (I:=λj c st=>st=sS el b p/\∃l r,c=(none,l,r)/\r<=k/\pG b lo (b.getD (lo+k) 0) (k-j) l r=G) (Q:=λc st=>st=sS el b p/\∃r,c=(none,G,r)) ?_ ?_ ⟨rfl,0,k,rfl,by omega,hG⟩) ?_)
  .rintro j c st _ jk ⟨rfl,l,r,rfl,rk,e⟩;rw[show k-j=(k-(j+1))+1 by omega]at e;unfold pG at e;dsimp only;by_cases q:l≥r
   .rw[if_pos q]at e ⊢;rw[e];exact jy ⟨rfl,r,rfl⟩
   .rw[if_neg q]at e ⊢;refine jf (EJ L (qz (by omega)) (qz (by omega)) (bN _ (by omega)) (bN _ (by omega)) ?_);by_cases c:b.getD (lo+k) 0<b.getD (lo+(l+r) / 2) 0
    .rw[if_pos c]at e;rw[decide_eq_true c];exact jy ⟨rfl,l,_,rfl,by omega,e⟩
    .rw[if_neg c]at e;rw[decide_eq_false c];exact jy ⟨rfl,_,r,rfl,rk,e⟩
  .rintro c st ⟨rfl,l,r,rfl,_,e⟩;rw[show k-max 0 k=0 by omega]at e;exact⟨rfl,r,by rw[<-e];rfl⟩
  .rintro c st ⟨rfl,r,rfl⟩;refine jf (wpS_modify (jy ⟨rfl,ins lo b k,?_,(bubble_perm _ _ _).trans pb,?_⟩))
   .rw[show k+1-2=(k-2)+1 by omega,List.range'_concat,List.foldl_append,<-eb];show _=ins lo b (2+1*(k-2));rw[show 2+1*(k-2)=k by omega]
   .unfold ins sS;rw[hG,<-ER,<-Nat.add_sub_add_left lo k];rfl
 .rintro c st ⟨rfl,b,rfl,_,rfl⟩;rw[show max (max 2 1) n=n by omega];exact⟨rfl,rfl⟩
 .rintro c st ⟨rfl,rfl⟩;exact jy h
def ph{β:Type}{b:Nat}{f:Nat->β->vI (ForInStep β)}{c:β}{st:SortSt}{Q:β->SortSt->Prop}(hb:0<b)(h:wpS ρ A E s (f 0 c) (λr st'=>∃c',r=.done c'/\Q c' st') st):wpS ρ A E s (forIn [0:b] c f) Q st:=by
 refine wpS_forRange (I:=λi c' st'=>i=0/\c'=c/\st'=st) ?_ (λc st h=>?_) ⟨rfl,rfl,rfl⟩
 .rintro _ _ _ _ _ ⟨rfl,rfl,rfl⟩;refine wpS_mono h λr st' h=>?_;obtain⟨c',rfl,h⟩:=h;exact h
 .omega
def qwr(L:fH ρ A E s el N){st:SortSt}{x y z:Nat}{Q:Option Nat->SortSt->Prop}(hk:kindOf st=oneType')(h0:a[0]? =some y)(h1:a[1]? =some z)(yx:y<=x)(xz:x<z)(zN:z<N)(hn:2<=n)(h:Q (some 1) st):wpS ρ A E s (lL false (el x) (mE el a) 0 n 0) Q st:=by refine jf (jf (gD h0 (jf (L _ _ _ _ (by omega) (by omega) hk (jy ?_)))));rw[decide_eq_false (by omega)];refine jf (ph (by omega) ?_);dsimp only;rw[if_neg (by omega)];refine jf (jf (gD h1 (jf (L _ _ _ _ (by omega) (by omega) hk (jy ?_)))));rw[decide_eq_true xz];refine jy ⟨_,rfl,jf (ph (by omega) ?_)⟩;dsimp only;rw[show min 1 (n-0)=1 by omega];exact jy ⟨_,rfl,jy h⟩
def qws(L:fH ρ A E s el N){st:SortSt}{x y z:Nat}{Q:Option Nat->SortSt->Prop}(hk:kindOf st=oneType')(h0:a[lo+(n+1)]? =some y)(h1:a[lo+n]? =some z)(xy:x<=y)(zx:z<x)(yN:y<N)(h:Q (some (n+1)) st):wpS ρ A E s (lL true (el x) (mE el a) lo (n+2) (n+1)) Q st:=by refine jf (jf (gD h0 (L _ _ _ _ (by omega) (by omega) hk ?_)));rw[decide_eq_false (by omega)];refine jf (ph (by omega) ?_);dsimp only;rw[if_neg (by omega)];refine jf (jf (gD h1 (L _ _ _ _ (by omega) (by omega) hk ?_)));rw[decide_eq_true zx];refine jy ⟨_,rfl,jf (ph (by omega) ?_)⟩;dsimp only;rw[show min 1 (n+1+1)=1 by omega,if_pos (by omega)];exact jy ⟨_,rfl,jy h⟩
noncomputable def zW(el:Nat->Keyed)(n:Nat):Array Keyed:=((List.range' 1 n).map el).toArray
def Fw:(zW el n).push (el (n+1))=zW el (n+1):=by unfold zW;rw[List.range'_concat];simp[Nat.add_comm]
noncomputable def vF:Array Nat:=((List.range 31).map (2* · +2)).toArray
noncomputable def vE:Array Nat:=((List.range 31).map (2* · +1)).toArray
def oR:∀i,i<31->vF[i]? =some (2*i+2)/\vE[i]? =some (2*i+1):=by decide+kernel
def qvz(L:fH ρ A E s el 64){st:SortSt}{Q:Array Keyed->SortSt->Prop}(hk:kindOf st=oneType')(hg:gallopOf st=7)(h:Q (zW el 62) st):wpS ρ A E s (sy (mE el vF) (mE el vE)) Q st:=by
 unfold gallopOf at hg;have za:(mE el vF).size=31:=rfl;have zb:(mE el vE).size=31:=rfl;refine jf (wpS_lift (wpAny_rule ⟨rfl,?_⟩));refine jf (gD (x:=1) rfl ?_);dsimp only;rw[za,zb];refine jf (wpS_get (jf (ph (by omega) (jf (wpS_mono (wpS_forRange (I:=λx c st'=>st'=st/\x<=58/\∃u v p q,c=(none,zW el (x+1),u,v,p,q)/\(2*u=x/\p=0/\v=u+1∨2*u=x+1/\q=0/\v=u)) (Q:=λc st'=>st'=st/\c.1=some (zW el 62)) ?_ ?_ ⟨rfl,by omega,0,1,0,0,rfl,.inl ⟨rfl,rfl,rfl⟩⟩) ?_)))))
 .rintro x c st' _ _ ⟨rfl,xm,u,v,p,q,rfl,⟨h1,rfl,rfl⟩|⟨h1,rfl,rfl⟩⟩<;>dsimp only
  .refine jf (gD (oR _ (by omega)).2 (jf (gD (oR _ (by omega)).1 (jf (L _ _ _ _ (by omega) (by omega) hk ?_)))));rw[decide_eq_false (by omega)];refine jf (gD (oR _ (by omega)).1 ?_);rw[show 2*u+2=x+1+1 by omega,Fw];by_cases e:x=58
   .subst e;rw[show u=29 by omega];exact jy ⟨rfl,rfl⟩
   .rw[if_neg (by simp;omega),hg,if_neg (by omega)];exact jy ⟨rfl,by omega,_,_,_,_,rfl,.inr ⟨by omega,rfl,rfl⟩⟩
  .refine jf (gD (oR _ (by omega)).2 (jf (gD (oR _ (by omega)).1 (jf (L _ _ _ _ (by omega) (by omega) hk ?_)))));rw[decide_eq_true (by omega)];refine jf (gD (oR _ (by omega)).2 ?_);rw[show 2*v+1=x+1+1 by omega,Fw,if_neg (by simp;omega),hg,if_neg (by omega)];exact jy ⟨rfl,by omega,_,_,_,_,rfl,.inl ⟨by omega,rfl,rfl⟩⟩
 .rintro c st' ⟨rfl,xm,_⟩;omega
 .rintro⟨c,d⟩ st' ⟨rfl,e⟩;dsimp only at e ⊢;subst e;exact jy ⟨_,rfl,jy h⟩
noncomputable def gF:Array Nat:=((List.range 32).map (2* ·)++(List.range 32).map (2* · +1)).toArray
def qp1{J:Type}{st st':J}{Q:PUnit->J->Prop}(h:Q ⟨⟩ st'):wpS ρ A E s (set st':StateT J Sem PUnit) Q st:=by unfold wpS;rw[StateT.run_set];exact jc ⟨rfl,h⟩
theorem gf:∀(l:Zg) (k:Nat) (a:Array Nat),((l.map el).zipIdx k).foldl (λa (p:Keyed×Nat)=>a.setIfInBounds (0+1+p.2) p.1) (mE el a)=mE el ((l.zipIdx k).foldl (λa (p:Nat×Nat)=>a.setIfInBounds (0+1+p.2) p.1) a)
 |[],_,_=>rfl
 | x::l,k,a=>by rw[x8,List.zipIdx_cons,List.zipIdx_cons,List.foldl_cons,List.foldl_cons,<-gf l (k+1),oV,oV,Array.map_setIfInBounds]
def qw7(L:fH ρ A E s el 64){q:Nat}{Q:Bool->SortSt->Prop}(h:∀p:Array (Nat×Nat×Nat),p.size=1->Q true (sS el (List.range 64).toArray p)):wpS ρ A E s (mergeAt' 0) Q (sS el gF #[(0,32,q),(32,32,0)]):=by rw[qw8];refine jf (wpS_get (jf (qp1 ?_)));refine jf (gD (x:=1) rfl ?_);refine jf (qwr L rfl (y:=0) (z:=2) rfl rfl (by omega) (by omega) (by omega) (by omega) ?_);dsimp only;rw[if_neg (by decide)];refine jf (gD (x:=62) rfl ?_);refine jf (qws (n:=30) L rfl (y:=63) (z:=61) rfl rfl (by omega) (by omega) (by omega) ?_);dsimp only;rw[if_neg (by decide),if_pos (by decide),show(arrOf (sS el gF #[(0,32,q),(32,32,0)])).extract (0+1) 32=mE el vF from Array.ext' (by rw[Array.toList_extract];rfl),show(arrOf (sS el gF #[(0,32,q),(32,32,0)])).extract 32 (32+(30+1))=mE el vE from Array.ext' (by rw[Array.toList_extract];rfl)];refine jf (qvz L rfl rfl (jf (wpS_modify (jf (wpS_get (jy ?_))))));have e:=gf (el:=el) (List.range' 1 62) 0 gF;rw[show((List.range' 1 62).zipIdx 0).foldl (λa (p:Nat×Nat)=>a.setIfInBounds (0+1+p.2) p.1) gF=(List.range 64).toArray by decide+kernel]at e;have:=h (((#[(0,32,q),(32,32,0)]:Array (Nat×Nat×Nat)).setIfInBounds 0 (0,32+32,q)).eraseIdxIfInBounds (0+1)) (by simp[Array.eraseIdxIfInBounds]);unfold sS at this;rw[<-e]at this;exact this
def halfW:Array Nat:=((List.range 32).map (2* ·)++(cZ 5).map (2* · +1)).toArray
structure RunW(n r:Nat)(b:Array Nat):Prop where
 m:minRun' (2^n) (2^n) 0=r
 i:(List.range' 2 (r-2)).foldl (ins 0) (cZ n).toArray=b
 z:(cZ n).length=2^n
 l:∀i,i<2^n->(cZ n).toArray.getD i 0<2^n
 x:(cZ n).toArray.getD 0 0<(cZ n).toArray.getD 1 0
 y:2<2^n->(cZ n).toArray.getD 2 0<(cZ n).toArray.getD 1 0
 a:2<=r
 c:r<=2^n
 e:n=6/\r=32/\b=halfW∨r=2^n/\b=(List.range (2^n)).toArray
def qya:∀n,n<7->1<=n->RunW n (if n=6 then 32 else 2^n) (if n=6 then halfW else(List.range (2^n)).toArray):=λn h1 h2=>by rcases(by omega:n=1∨n=2∨n=3∨n=4∨n=5∨n=6)with rfl|rfl|rfl|rfl|rfl|rfl<;>constructor<;>decide+kernel
def hlf:(∀i,i<64->halfW.getD i 0<64)/\halfW.size=64/\halfW.getD 32 0<halfW.getD 33 0/\halfW.getD 34 0<halfW.getD 33 0/\(List.range' 2 30).foldl (ins 32) halfW=gF:=by decide+kernel
def qpc(L:fH ρ A E s el (2^n))(n6:n<7)(n1:1<=n){Q:Unit->SortSt->Prop}(h:∀p,Q () (sS el (List.range (2^n)).toArray p)):wpS ρ A E s sortRuns' Q (sS el (cZ n).toArray #[]):=by
 have W:=qya n n6 n1;generalize (if n=6 then 32 else 2^n)=r,(if n=6 then halfW else(List.range (2^n)).toArray)=b at W;have zi:(cZ n).toArray.size=2^n:=by simpa using W.z
 have sz:(arrOf (sS el (cZ n).toArray #[])).size=2^n:=by show(mE el _).size=_;rw[oV,Array.size_map,zi]
 have ra:=W.a;obtain⟨T,hT⟩:∃T,gF=T:=⟨_,rfl⟩;have rb:=W.c;rw[sortRuns'_eq];refine jf (wpS_get ?_);dsimp only;rw[sz,W.m];refine jf (wpS_mono (wpS_forRange (I:=λx c st=>x=0/\c=(none,0)/\st=sS el (cZ n).toArray #[]∨x=1/\c=(none,r)/\st=sS el b #[(0,r,0)]∨n=6/\x=2/\c=(none,64)/\∃q,st=sS el T #[(0,32,q),(32,32,0)]) (Q:=λc st=>c.1=none/\(st=sS el (List.range (2^n)).toArray #[(0,2^n,0)]∨n=6/\∃q,st=sS el T #[(0,32,q),(32,32,0)])) ?_ ?_ (.inl ⟨rfl,rfl,rfl⟩)) ?_)
 .rintro x c st _ _ (⟨rfl,rfl,rfl⟩|⟨rfl,rfl,rfl⟩|⟨rfl,rfl,rfl,q,rfl⟩)<;>dsimp only
  .rw[if_neg (by omega)];refine jf (ET L (by rw[zi];exact W.l) (by omega) W.x (λq=>W.y (by omega)) (by omega) ?_);dsimp only;by_cases c:2<r
   .rw[if_pos c];refine jf (wpS_lift (wpAny_rule ⟨rfl,jf (EM L (by rw[zi];exact W.l) (by omega) (by omega) ?_)⟩));rw[show min (2^n-0) r=r by omega,W.i];exact jf (wpS_get (jf (wpS_modify (jy (.inr (.inl ⟨rfl,by rw[xf],rfl⟩))))))
   .rw[if_neg c];have:=W.i;rw[show r=2 by omega]at this ⊢;exact jf (wpS_get (jf (wpS_modify (jy (.inr (.inl ⟨rfl,by rw[xf],by rw[<-this];rfl⟩))))))
  .rcases W.e with⟨rfl,rfl,rfl⟩|⟨rfl,rfl⟩
   .rw[if_neg (by omega)];obtain⟨h1,h2,h3,h4,h5⟩:=hlf;refine jf (ET L (by rw[h2];exact h1) (by omega) h3 (λ_=>h4) (by omega) ?_);dsimp only;rw[if_pos (by omega)];refine jf (wpS_lift (wpAny_rule ⟨rfl,jf (EM L (by rw[h2];exact h1) (by omega) (by omega) ?_)⟩));rw[show min (2^6-32) 32=32 by omega,h5,hT];refine jf (wpS_get (jf (wpS_mono (ph (Q:=λc st=>c=(none,())/\st=sS el T #[(0,32,0)]) (by omega) ?_) ?_)))
    .exact jf (wpS_get (jy ⟨_,rfl,rfl,rfl⟩))
    .rintro c st ⟨rfl,rfl⟩;refine jf (wpS_modify (jf (wpS_modify (jy (.inr (.inr ⟨rfl,rfl,rfl,power' (2^6) (2*0+32) (2*0+32+32+32) (2^6),?_⟩))))));show SortSt.mk' _ _ (((#[(0,32,0)]:Array (Nat×Nat×Nat)).modify _ _).push _) _ _=_;simp[Array.modify,Array.modifyM];rfl
   .rw[if_pos (jg _)];exact jy ⟨rfl,.inl rfl⟩
  .exact jy ⟨rfl,.inr ⟨rfl,q,rfl⟩⟩
 .rintro c st (⟨q,_⟩|⟨q,_⟩|⟨rfl,q,_⟩)<;>omega
 .rintro⟨c,d⟩ st ⟨e,H⟩;dsimp only at e ⊢;subst e;refine jf (wpS_mono (wpS_forRange (I:=λx c st=>c=(none,())/\((∃p,p.size=1/\st=sS el (List.range (2^n)).toArray p)∨x=0/\n=6/\∃q,st=sS el T #[(0,32,q),(32,32,0)])) (Q:=λc st=>c=(none,())/\∃p,st=sS el (List.range (2^n)).toArray p) ?_ ?_ ⟨rfl,?_⟩) ?_)
  .rintro x c st _ _ ⟨rfl,⟨p,p1,rfl⟩|⟨rfl,rfl,q,rfl⟩⟩
   .refine jf (wpS_get ?_);rw[if_pos (show(pendingOf (sS el (List.range (2^n)).toArray p)).size<=1 from Nat.le_of_eq p1)];exact jy ⟨rfl,p,rfl⟩
   .refine jf (wpS_get ?_);rw[if_neg (show¬(pendingOf (sS el T #[(0,32,q),(32,32,0)])).size<=1 from Nat.not_succ_le_self 1)];refine jf ?_;rw[<-hT];exact qw7 L λp hp=>jy ⟨rfl,.inl ⟨p,hp,rfl⟩⟩
  .rintro c st ⟨rfl,⟨p,_,rfl⟩|⟨z,_⟩⟩
   .exact⟨rfl,p,rfl⟩
   .omega
  .rcases H with rfl|⟨rfl,q,rfl⟩
   .exact .inl ⟨_,rfl,rfl⟩
   .exact .inr ⟨rfl,rfl,q,rfl⟩
  .rintro c st ⟨rfl,p,rfl⟩;exact jy (h p)
end
def qqc{c:MC}{O O':Zg}{t:TS}:MS c O O' t (λ_=>none):=λ_ _ _ _ _ _ _ _ _ e=>nomatch e
def qed{K:am}{fr:Bool}{n:Nat}{Nms:Zj}{O':Zg}{t:TS}{fx:Xr}{vs:List V}{H:Hp}{Q:VK}{E:XK}(hx:i6 ⟨K,fr,[],[]⟩ [] t E fx)(h:dM K fr n (λ_=>none) (eV n Nms.length fx) vs H Q E):t {nx:=λ_ H'=>Q .non H',rt:=Q} (aO Nms vs) H:=by
 refine uZ (n:=n) (O':=O') (f:=λ_=>none) (Nms:=Nms) qqc hx ?_;rcases h with⟨_,_,_,_,_,_,e,_⟩|h
 .cases e
 .exact .inr h
def Ls(h:Heap)(v:Value)(ns:Zf):Prop:=∃b ws,v=.ref b/\h.IsList b ws.toArray/\IntsAre ws ns
def D8{f:Nat->Value}{l:Zg}:(mE (λr=>(f r,f r)) l.toArray).map (·.2)=(l.map f).toArray:=by apply Array.ext';rw[Array.toList_map];show(l.map _).map _=l.map f;rw[jt];rfl
theorem uw:∀{n r:Nat},(fJ n r).length=n
 |0,_=>rfl
 | n+1,r=>by unfold fJ;rw[jr,uw];rfl
section
variable{prog:Program}{w:World}{A:Around}{E:Z0}{s:Shared}
def qzb{v u:Value}{ns ms:Zf}{Q:Bool->Shared->Prop}(hv:Ls s.heap v ns)(hu:Ls s.heap u ms)(hl:ns.length=ms.length)(un:A.units<cLine)(k:Q (HT.lexLt ns ms) s):wpAny (model prog w) A (keyLt' oneType' v u) Q E s:=by obtain⟨l,ws,rfl,⟨⟨c1,dd,dt,sl⟩,ho,hc,n,hd⟩,i1⟩:=hv;obtain⟨b,ws2,rfl,⟨⟨c2,dd2,dt2,sl2⟩,ho2,hc2,n2,hd2⟩,i2⟩:=hu;simp only at hc hd hc2 hd2;subst hc hd hc2 hd2;rw[keyLt'_oneType,oneLt'_eq,if_pos rfl];refine ja (wpAny_cRoomFor un (ja (wpAny_callSpecialIfBound?_slot ⟨_,ho,rfl⟩ F.slot_list_lt ?_)));refine call_meets F.slot_list_lt ⟨_,ho,rfl⟩ F.entry_list_lt (F.args_list_lt_2 _ _) (HA l b ws.toArray ws2.toArray n n2 dd dd2 sl sl2 ns ms (by simpa using i1) (by simpa using i2) hl) ⟨ho,ho2,?_⟩;exact kl k
def Ls.keep{h h':Heap}{v:Value}{ns:Zf}{a:Addr}(x:Ls h v ns)(na:v≠.ref a)(k:∀b o,b≠a->h.get? b=some o->h'.get? b=some o):Ls h' v ns:=by obtain⟨b,ws,rfl,⟨o,e,r⟩,i⟩:=x;exact⟨b,ws,rfl,⟨o,k b o (λz=>na (by rw[z])) e,r⟩,i⟩
def qql{a:Addr}{n k:Nat}{f:Nat->Value}{F:Fin->Shared->Prop}(un:A.units<cLine)(hg:s.heap.get? a=some (seqObj "list" ((cZ n).map f).toArray k))(n6:n<7)(h:∀r,r<2^n->f r≠.ref a/\Ls s.heap (f r) (fJ n r))
 (q:F (.done (.ret .none)) {s with heap:=sortedHeap s.heap a ((cZ n).map f) ((List.range (2^n)).map f).toArray}):wpAny (model prog w) A (Builtin.«list.sort» ⟨[.ref a],[]⟩) F E s:=by
 have len:((cZ n).map f).length=2^n/\2^n<=sizeLine/\∀r∈cZ n,r<2^n:=by rw[jb];rcases(by omega:n=0∨n=1∨n=2∨n=3∨n=4∨n=5∨n=6)with rfl|rfl|rfl|rfl|rfl|rfl|rfl<;>decide+kernel
 have ep:pairsOf ((cZ n).map f)=mE (λr=>(f r,f r)) (cZ n).toArray:=by apply Array.ext';rw[pairsOf_toList,List.zip_map'];rfl
 have arr:(pairsOf ((cZ n).map f)).map (·.2)=((cZ n).map f).toArray:=by rw[ep,D8]
 have e0:n=0->(cZ n).map f=(List.range (2^n)).map f:=λz=>by subst z;rfl
 generalize hv:(cZ n).map f=vs at*;obtain⟨len,hzl,ir⟩:=len;rw[list_sort_plain];have lt:a<s.heap.objs.size:=jd hg;refine ja (listItems_at hg rfl (ja (listUpdate_at hg rfl ?_ (hsz:=by simpa[len]using hzl) (hsz2:=by simp))));obtain⟨e1,g1⟩:∃e1,(s.heap.update a (Obj.mapSeq λ_=>#[])).get? a=some (seqObj "list" #[] e1):=⟨_,get?_update_seq hg _⟩;refine ja (seqEpoch_at g1 rfl (ja (wpAny_newTuple (ja (wpAny_newList (xr ?_))))));have g2:(((s.heap.update a (Obj.mapSeq λ_=>#[])).push (seqObj "tuple" vs.toArray 0)).push (seqObj "list" #[] 0)).get? a=some (seqObj "list" #[] e1):=by
  rw[Heap.get?_push_ne,Heap.get?_push_ne]
  .exact g1
  .rw[Heap.size_update];exact jo lt
  .rw[size_push',Heap.size_update];exact jo (Nat.lt_succ_of_lt lt)
 have kp:∀b o,b≠a->s.heap.get? b=some o->(((s.heap.update a (Obj.mapSeq λ_=>#[])).push (seqObj "tuple" vs.toArray 0)).push (seqObj "list" #[] 0)).get? b=some o:=λb o hb e=>
  je _ (je _ ((kg s.heap _ (Ne.symm hb)).trans e))
 generalize hh2:((s.heap.update a (Obj.mapSeq λ_=>#[])).push (seqObj "tuple" vs.toArray 0)).push (seqObj "list" #[] 0)=h2' at g2 kp;show wpAny (model prog w) A _ F E {s with heap:=h2'};dsimp only;have fin:∀out,sortedHeap s.heap a vs out=h2'.update a (Obj.mapSeq λ_=>out):=λout=>by rw[<-hh2];rfl
 have sz:vs.toArray.size=vs.length:=x5;by_cases n0:n=0
 .have h2:vs.toArray.size<2:=by rw[sz,len,n0];decide
  rw[if_pos h2,if_pos h2];refine ja (jc ?_);rw[StateT.run_pure];refine ja (jc ?_);dsimp only;refine ja (seqEpoch_at g2 rfl (ja (listUpdate_at g2 rfl ?_ (hsz2:=?_))))
  .simp only[bne_self_eq_false,Bool.false_eq_true,if_false];refine jc ?_;rw[<-e0 n0,<-arr,fin]at q;exact q
  .show((pairsOf vs).map (·.2)).size<=_;rw[arr,sz];omega
 .have z2:=Nat.pow_le_pow_right (n:=2) (by omega) (show 1<=n by omega);have h2:¬vs.toArray.size<2:=by rw[sz,len];omega
  rw[if_neg h2,if_neg h2];refine ja (kas_kind (T:=.type "list") (s:={s with heap:=h2'}) (by omega) (λv hv'=>?_) (by decide) (by decide) ?_)
  .rw[<-hv]at hv';obtain⟨r,hr,rfl⟩:=List.mem_map.mp hv';let⟨na,hl⟩:=h r (ir r hr);let⟨b,ws,e,⟨o,e',c,_⟩,_⟩:=hl.keep na kp;rw[e];exact c▸(Looks.ld e').andThen .now
  have L:fH (model prog w) A E {s with heap:=h2'} (λr=>(f r,f r)) (2^n):=λx y st Q hx hy hk hq=>by let⟨ax,kx⟩:=h x hx;let⟨ay,ky⟩:=h y hy;rw[lt'_eq];refine jf (wpS_get ?_);rw[hk];refine jf (wpS_lift (wpAny_attempt (qzb (kx.keep ax kp) (ky.keep ay kp) (by rw[uw,uw]) un ⟨rfl,?_⟩)));rw[qxx n n6 x hx y hy];exact jy hq
  rw[show vs.toArray.zip vs.toArray=_ from ep];refine ja (xj (qpc (Q:=λ_ u=>∃p,u=sS (λr=>(f r,f r)) (List.range (2^n)).toArray p) L n6 (by omega) λp=>⟨p,rfl⟩) ?_ λ_ _ e=>e);rintro⟨⟨⟩,u⟩ s' ⟨rfl,p,rfl⟩;dsimp only;have out:(arrOf (sS (λr=>(f r,f r)) (List.range (2^n)).toArray p)).map (·.2)=((List.range (2^n)).map f).toArray:=D8;refine ja (seqEpoch_at g2 rfl (ja (listUpdate_at g2 rfl ?_ (hsz2:=?_))))
  .rw[show failedOf (sS (λr=>(f r,f r)) (List.range (2^n)).toArray p)=none from rfl];simp only[bne_self_eq_false,Bool.false_eq_true,if_false];refine jc ?_;rw[<-out,fin]at q;exact q
  .show((arrOf (sS (λr=>(f r,f r)) (List.range (2^n)).toArray p)).map (·.2)).size<=_;rw[out,x5,jb,List.length_range];omega
end
def Dr(K:am):List V->Hp->VK->Prop:=λxs H Q=>∃a n,∃f:Nat->Addr,n<7/\xs=[.ref a]/\SqL K H a ((cZ n).map λr=>V.ref (f r))/\(∀r,r<2^n->SqL K H (f r) ((fJ n r).map V.int))/\∀l:Addr,H l=none->Q (.ref l) (aN H l (.lst ((List.range (2^n)).map λr=>V.ref (f r))))
section
variable{X:Cx}{K:am}{z5:Z3}{J:St}{H:Hp}{s:Shared}{f:Nat->Addr}
theorem DH:∀{l:Zg} {us:Ze},Vals (l.map λr=>V.ref (f r)) us->us=l.map λr=>.ref (f r)
 |[],_,.nil=>rfl
 | b::l,_,.cons r t=>by cases r;rw[x8,DH t]
theorem CO:∀{l:Zg},Vals (l.map λr=>V.ref (f r)) (l.map λr=>Value.ref (f r))
 |[]=>.nil
 |b::l=>.cons rfl CO
def qjk(hK:X.K=K)(hu:X.A.units+64<cLine):fM X (.builtin "sorted") (Dr K):=by
 subst hK;intro z5 s J H xs us Q I r h;obtain⟨a,n,f,n6,rfl,hq,hf,q⟩:=h;obtain⟨u,rfl,ru⟩:=b9 r;cases ru;let⟨its,rv,pl,hz⟩:=I.list hq;have ei:=DH rv;subst ei;have z64:2^n<=sizeLine:=x6 (Nat.pow_le_pow_right (by omega) (show n<=6 by omega)) (by decide);generalize hvs:(cZ n).map (λr=>Value.ref (f r))=vs at*;have I1:=I.kept (h':=(s.heap.push (seqObj "list" #[] 0)).update s.heap.objs.size (Obj.mapSeq λx=>x++vs.toArray)) (t':=s.toks) λb o e=>(kg _ _ (Nat.ne_of_gt (jd e))).trans (je _ e);generalize hh1:(s.heap.push (seqObj "list" #[] 0)).update s.heap.objs.size (Obj.mapSeq λx=>x++vs.toArray)=h1 at I1;refine Calls.call_function_entry kind_sorted plain_sorted entry_sorted (args_sorted1 _) ?_;unfold Builtin.«sorted»;refine ja (m:=checkCount "sorted" 1 1 _) (jc (ja (collect_list pl.isList ?_ (by rw[<-rv.length];exact hz))));rw[hh1];refine ja (wpAny_newList ?_ (hsz:=by rw[<-rv.length];exact hz));have I2:=I1.kept (h':=h1.push (seqObj "list" vs.toArray 0)) (t':=s.toks) λb o e=>je _ e;have g:(h1.push (seqObj "list" vs.toArray 0)).get? h1.objs.size=some (seqObj "list" vs.toArray 0):=ju _ rfl;subst hvs;refine ja (xr (kh slot_list_sort ⟨_,g,rfl⟩ entry_list_sort (qql (s:={s with heap:=h1.push (seqObj "list" ((cZ n).map λr=>Value.ref (f r)).toArray 0)}) (show X.A.units+1+1<_ by omega) g n6 (λr hr=>⟨λz=>?_,?_⟩) ⟨_,rfl,jc ⟨_,rfl,?_⟩⟩) (args_list_sort _)))
 .let⟨_,_,pl,_⟩:=I1.list (hf r hr);obtain⟨o,e2,_⟩:=pl.isList;exact jo (jd e2) (Value.ref.inj z)
 .let⟨its,rv,pl,_⟩:=I2.list (hf r hr);exact⟨f r,its,rfl,pl.isList,du rv⟩
 .obtain⟨e,he⟩:∃e,(sortedHeap (h1.push (seqObj "list" ((cZ n).map λr=>Value.ref (f r)).toArray 0)) h1.objs.size ((cZ n).map λr=>Value.ref (f r)) ((List.range (2^n)).map λr=>Value.ref (f r)).toArray).get? h1.objs.size=some (seqObj "list" ((List.range (2^n)).map λr=>Value.ref (f r)).toArray e):=sortedHeap_at g;refine⟨.ref h1.objs.size,aN H h1.objs.size (.lst ((List.range (2^n)).map λr=>V.ref (f r))),I1.laid (λb u z=>?_) (jg _) ⟨by rw[jb,List.length_range];exact z64,_,e,CO,he⟩,rfl,q _ (I1.hok.fresh (jg _))⟩;have lt:=jd z;rw[sortedHeap_old (jo lt) (jz lt (by rw[size_push'];exact Nat.le_succ _))];exact je _ z
end
noncomputable def c6(n:Zf):D:=.lst (n.map D.int)
noncomputable def ma:D->Option (List D)
 |.lst ds=>by classical exact if ds.length.log2<7/\ds=(cZ ds.length.log2).map λr=>c6 (fJ ds.length.log2 r)then some ((List.range (2^ds.length.log2)).map λr=>c6 (fJ ds.length.log2 r))else none
 |_=>none
def D6:∀n,n<7->(cZ n).Nodup/\(∀r,r<2^n->r∈cZ n)/\(cZ n).length.log2=n:=by decide+kernel
def qg0{n:Nat}(h:n<7):ma (.lst ((cZ n).map λr=>c6 (fJ n r)))=some ((List.range (2^n)).map λr=>c6 (fJ n r)):=by unfold ma;dsimp only;rw[jb,(D6 n h).2.2,if_pos ⟨h,rfl⟩]
section
variable{K:am}{O:Zg}{t:TE}{fa:aJ}
theorem E4{R:Hp}{n:Nat}:∀{l:Zg} {vs:List V},l.Nodup->Rps K R vs (l.map λr=>c6 (fJ n r))->∃f:Nat->Addr,vs=l.map (λr=>.ref (f r))/\∀r∈l,SqL K R (f r) ((fJ n r).map V.int)
 |[],_,_,.nil=>⟨λ_=>0,rfl,λ_ h=>nomatch h⟩
 | x::l,_,nd,.cons r tl=>by
  let⟨nx,nd⟩:=List.nodup_cons.mp nd;obtain⟨f,rfl,h⟩:=E4 nd tl;obtain⟨a,xs,rfl,g,rx⟩:=r.isL;have ex:=m9 rx (i3 _);subst ex;refine⟨λr=>if r=x then a else f r,?_,λr hr=>?_⟩<;>dsimp only
  .rw[x8,if_pos rfl];congr 1;exact List.map_congr_left λr hr=>by rw[if_neg λz:r=x=>nx (z▸hr)]
  .rcases List.mem_cons.mp hr with rfl|hr
   .rw[if_pos rfl];exact g
   .rw[if_neg λz:r=x=>nx (z▸hr)];exact h r hr
theorem Fn{R:Hp}{n:Nat}{f:Nat->Addr}:∀{l:Zg},(∀r∈l,SqL K R (f r) ((fJ n r).map V.int))->Rps K R (l.map λr=>V.ref (f r)) (l.map λr=>c6 (fJ n r))
 |[],_=>.nil
 |r::l,h=>.cons (.lst (h r jj) (Rps.ints _)) (Fn λx hx=>h x (jh _ hx))
def qqd(ha:ME K O t fa):MN K O (jZ (Dr K) (iT t fy)) (jI ma fa):=λZ J H R M ds M' Q S e k=>by
 let⟨x,M1,e1,e⟩:=bD e;obtain⟨e2,rfl⟩:=cQ e;refine ha Z J H R M x _ _ S e1 λv H1 R1 S1 st1 r1=>?_;cases r1 with
 | @lst a xs es h r=>
  unfold ma at e2;dsimp only at e2;generalize es.length.log2=n at e2;split at e2
  .rename_i ex;obtain⟨n6,rfl⟩:=ex;cases e2;let⟨nd,all,_⟩:=D6 n n6;obtain⟨f,rfl,hf⟩:=E4 nd r;refine⟨a,n,f,n6,rfl,Same.sqL S1.sub h,λr hr=>Same.sqL S1.sub (hf r (all r hr)),λl hl=>?_⟩;have y:=Ext.hid (o:=.lst ((List.range (2^n)).map λr=>V.ref (f r))) S1.sub hl;exact k l _ _ _ (S1.ext y) (st1.trans y.stp) (st1.new hl) cr (S1.out hl) (Fn λr hr=>hf r (all r (List.mem_range.mp hr)))
  .cases e2
 |_=>cases e2
end
end L2
namespace L2
open PySem
def qu0{x y z:Int×List Int}(h:bY x y=true)(g:bY y z=true):bY x z=true:=by
 cases q:bY x z with
 |true=>rfl
 | false=>
  have h1:=qQ x y z h (kP g);have h2:=pf q h1;subst h2;rw[kP h]at g;cases g
def qu1{x y:Int×List Int}(h:bY x y=true):x≠y:=λz=>by rw[z,qZ]at h;cases h
def Es{x y:Int×List Int}(h:x≠y):bY x y=true∨bY y x=true:=by
 cases q:bY x y with
 |true=>exact .inl rfl
 | false=>
  cases q2:bY y x with
  |true=>exact .inr rfl
  |false=>exact absurd (pf q q2) h
theorem GQ:∀{a b:Zf} (c d:Zf),a.length=b.length->HT.lexLt a b=true->HT.lexLt (a++c) (b++d)=true
 |[],[],_,_,_,h=>by cases h
 |[],_::_,_,_,l,_=>by simp at l
 |_::_,[],_,_,l,_=>by simp at l
 | x::xs,y::ys,c,d,l,h=>by
  rw[HT.lexLt_cons]at h;rw[List.cons_append,List.cons_append,HT.lexLt_cons];by_cases q:x=y
  .rw[if_pos q]at h ⊢;exact GQ c d (by simpa using l) h
  .rw[if_neg q]at h ⊢;exact h
theorem Ae{α:Type}[DecidableEq α]:∀{F T:List α},F.Nodup->(∀x∈F,x∈T)->F.length<=T.length
 |[],_,_,_=>Nat.zero_le _
 | x::F,T,nd,h=>by have hx:=h x jj;let⟨n1,n2⟩:=List.nodup_cons.mp nd;have h2:=Ae (F:=F) (T:=T.erase x) n2 λy hy=>(List.mem_erase_of_ne λz=>n1 (by rw[<-z];exact hy)).mpr (h y (jh _ hy));rw[List.length_erase_of_mem hx]at h2;have:=List.length_pos_of_mem hx;rw[jw];omega
section
variable(L:List Int->Int)
noncomputable def b7(b:Zf):Int×List Int:=(L b,b)
abbrev gZ(a b:Zf):Prop:=bY (b7 L a) (b7 L b)=true
def fz(E:Z9):List (List Int):=(iu (E.map (b7 L))).map λi=>E.getD i []
def fk(most:Nat)(E:Z9):List (List Int):=(fz L E).take most
structure Top(most k:Nat)(R:Z9):Prop where
 bits:∀b∈R,az b/\b.length=k
 up:R.Pairwise (gZ L)
 out:∀b,az b->b.length=k->b∉R->R.length=most/\∀a∈R,gZ L a b
noncomputable def aI(R:Z9):List (List Int):=R.flatMap λb=>[b++[0],b++[1]]
end
section
variable{L:List Int->Int}
def zI{a b:Zf}(h:b7 L a=b7 L b):a=b:=congrArg Prod.snd h
def iF{α:Type}(d:α)(E:List α):((List.range E.length).map λi=>E.getD i d)=E:=by
 apply List.ext_getElem?;intro i;by_cases h:i<E.length
 .rw[jq,kc h,Option.map_some,jn,ji h];rfl
 .rw[xh (by simp;omega),xh (by omega)]
def GZ(E:Z9):(fz L E).Perm E:=by have h:=(m8 (E.map (b7 L))).map λi=>E.getD i [];rw[jb,iF]at h;exact h
def FY{E:Z9}{i:Nat}(h:i<E.length):(E.map (b7 L)).getD i (0,[])=b7 L (E.getD i []):=by rw[jn,jn,jq,ji h];rfl
def Fq{E:Z9}(nd:E.Nodup):(fz L E).Pairwise (gZ L):=by
 unfold fz;rw[List.pairwise_map];have h1:=EB (E.map (b7 L));have h2:(iu (E.map (b7 L))).Nodup:=(m8 _).nodup_iff.mpr List.nodup_range;refine(List.pairwise_and_iff.mpr ⟨h1,h2⟩).imp_of_mem λ{i j} hi hj h=>?_;obtain⟨h3,h4⟩:=h;have li:i<E.length:=by simpa using List.mem_range.mp ((m8 _).subset hi)
 have lj:j<E.length:=by simpa using List.mem_range.mp ((m8 _).subset hj)
 unfold kU jG at h3;rw[Bool.not_eq_true',FY li,FY lj]at h3;refine(Es λz=>h4 ?_).resolve_right (by rw[h3];decide);have z:=zI z;rw[jn,jn,ji li,ji lj]at z;have z:E[i]=E[j]:=z;rcases Nat.lt_trichotomy i j with w|w|w
 .exact absurd z (List.pairwise_iff_getElem.mp nd i j li lj w)
 .exact w
 .exact absurd z.symm (List.pairwise_iff_getElem.mp nd j i lj li w)
def q8{R:Z9}(h:R.Pairwise (gZ L)):R.Nodup:=List.Pairwise.imp (S:=λa b=>a≠b) (λ{a b} h (z:a=b)=>qu1 h (congrArg (b7 L) z)) h
def qp8{R:Z9}(h:R.Pairwise (gZ L)):fz L R=R:=by refine List.Perm.eq_of_pairwise (le:=gZ L) (λa b _ _ h1 h2=>?_) (Fq (q8 h)) h (GZ R);have h3:bY (b7 L b) (b7 L a)=true:=h2;rw[kP h1]at h3;cases h3
def GK{R:Z9}{most:Nat}(h:R.Pairwise (gZ L))(hm:R.length<=most):fk L most R=R:=by unfold fk;rw[qp8 h,List.take_of_length_le hm]
def qp5{most:Nat}:Top L most 0 [[]]:=⟨λb hb=>by rw[List.mem_singleton.mp hb];exact⟨λ_ h=>(nomatch h),rfl⟩,List.pairwise_singleton _ _,λb _ hl h=>by rw[List.eq_nil_of_length_eq_zero hl]at h;exact absurd (List.mem_singleton.mpr rfl) h⟩
def mem_both{R:Z9}{x:Zf}:x∈aI R↔∃b∈R,x=b++[0]∨x=b++[1]:=by unfold aI;rw[List.mem_flatMap];simp
theorem u8:∀{R:Z9},R.Nodup->(aI R).Nodup
 |[],_=>List.nodup_nil
 | b::R,nd=>by
  let⟨n1,n2⟩:=List.nodup_cons.mp nd;have h:=u8 n2;have e:aI (b::R)=(b++[0])::(b++[1])::aI R:=rfl;have ab:∀(x:Int),b++[x]∉aI R:=λx hx=>by
   let⟨c,hc,z⟩:=mem_both.mp hx;have:b=c:=by rcases z with z|z<;>exact(List.append_inj z (by have:=congrArg List.length z;simpa using this)).1
   exact n1 (by rw[this];exact hc)
  rw[e];refine List.nodup_cons.mpr ⟨λz=>?_,List.nodup_cons.mpr ⟨ab 1,h⟩⟩;rcases List.mem_cons.mp z with z|z
  .have:=(List.append_inj z rfl).2;simp at this
  .exact ab 0 z
def qkg{most k:Nat}{R:Z9}(h:Top L most k R)
 (hL:∀b,az b->b.length=k->L b<=L (b++[0])/\L b<=L (b++[1])/\(L (b++[0])=L b∨L (b++[1])=L b)):Top L most (k+1) (fk L most (aI R)):=by
 have nE:=u8 (q8 h.up);have uS:=Fq (L:=L) nE;have pS:=GZ (L:=L) (aI R);have eS:fz L (aI R)=fk L most (aI R)++(fz L (aI R)).drop most:=(List.take_append_drop _ _).symm;have uS':=uS;rw[eS,List.pairwise_append]at uS';obtain⟨uT,_,uX⟩:=uS';have inS:∀x∈fk L most (aI R),x∈aI R:=λx hx=>pS.subset (by rw[eS];exact List.mem_append_left _ hx);have cut:∀x∈aI R,x∉fk L most (aI R)->x∈(fz L (aI R)).drop most:=λx hx nx=>by have:=pS.symm.subset hx;rw[eS]at this;exact(List.mem_append.mp this).resolve_left nx
 have bitsE:∀x∈aI R,az x/\x.length=k+1:=λx hx=>by
  let⟨b,hb,z⟩:=mem_both.mp hx;let⟨b1,b2⟩:=h.bits b hb;rcases z with rfl|rfl
  .exact⟨gS b1 λy hy=>.inl (List.mem_singleton.mp hy),by simp[b2]⟩
  .exact⟨gS b1 λy hy=>.inr (List.mem_singleton.mp hy),by simp[b2]⟩
 refine⟨λb hb=>bitsE b (inS b hb),uT,λx bx lx nx=>?_⟩;have nz:x≠[]:=λz=>by rw[z]at lx;simp at lx
 obtain⟨b,y,ex⟩:∃b y,x=b++[y]:=⟨x.dropLast,x.getLast nz,(List.dropLast_concat_getLast nz).symm⟩;subst ex;have bb:az b:=λz hz=>bx z (List.mem_append_left _ hz);have lb:b.length=k:=by simpa using lx
 have hy:y=0∨y=1:=bx y (by simp);have leb:L b<=L (b++[y]):=by rcases hy with rfl|rfl;exact(hL b bb lb).1;exact(hL b bb lb).2.1
 by_cases hb:b∈R
 .have hx:b++[y]∈aI R:=mem_both.mpr ⟨b,hb,by rcases hy with rfl|rfl;exact .inl rfl;exact .inr rfl⟩;have hd:=cut _ hx nx;refine⟨?_,λa ha=>uX a ha _ hd⟩;have:=List.length_pos_of_mem hd;rw[xv]at this;unfold fk;rw[k6];omega
 .let⟨lr,hr⟩:=h.out b bb lb hb
  let st:List Int->List Int:=λa=>if L (a++[0])=L a then a++[0]else a++[1]
  have st1:∀a∈R,st a∈aI R/\L (st a)=L a/\∃z,st a=a++[z]:=λa ha=>by
   let⟨a1,a2⟩:=h.bits a ha;let⟨_,_,l3⟩:=hL a a1 a2;show(if L (a++[0])=L a then a++[0]else a++[1])∈aI R/\L (if L (a++[0])=L a then a++[0]else a++[1])=L a/\∃z,(if L (a++[0])=L a then a++[0]else a++[1])=a++[z];by_cases q:L (a++[0])=L a
   .rw[if_pos q];exact⟨mem_both.mpr ⟨a,ha,.inl rfl⟩,q,0,rfl⟩
   .rw[if_neg q];exact⟨mem_both.mpr ⟨a,ha,.inr rfl⟩,l3.resolve_left q,1,rfl⟩
  have stlt:∀a∈R,gZ L (st a) (b++[y]):=λa ha=>by
   let⟨_,s2,z,s3⟩:=st1 a ha;let⟨a1,a2⟩:=h.bits a ha;have g:=hr a ha;unfold gZ bY kJ b7 at g ⊢;simp only at g ⊢;rw[s2];by_cases q:L a=L b
   .rw[if_pos q]at g;by_cases q2:L a=L (b++[y])
    .rw[if_pos q2,s3];exact GQ _ _ (by rw[a2,lb]) g
    .rw[if_neg q2];simp;omega
   .rw[if_neg q]at g;simp at g;rw[if_neg (by omega)];simp;omega
  have nF:(R.map st).Nodup:=by show List.Pairwise (λa b=>a≠b) (R.map st);rw[List.pairwise_map];refine(q8 h.up).imp_of_mem λ{a c} ha hc ne z=>ne ?_;let⟨_,_,z1,e1⟩:=st1 a ha;let⟨_,_,z2,e2⟩:=st1 c hc;rw[e1,e2]at z;exact(List.append_inj z (by have:=congrArg List.length z;simpa using this)).1
  have inF:∀f∈R.map st,f∈aI R/\gZ L f (b++[y]):=λf hf=>by obtain⟨a,ha,rfl⟩:=List.mem_map.mp hf;exact⟨(st1 a ha).1,stlt a ha⟩
  have lF:(R.map st).length=most:=by rw[jb,lr]
  have lT:(fk L most (aI R)).length=most:=by have:=Ae nF λf hf=>pS.symm.subset (inF f hf).1;unfold fk;rw[k6];omega
  refine⟨lT,λa ha=>?_⟩;have ne:b7 L a≠b7 L (b++[y]):=λz=>nx (by rw[<-zI z];exact ha);rcases Es ne with g|g
  .exact g
  .exfalso;have sub:∀f∈a::R.map st,f∈fk L most (aI R):=λf hf=>by
    rcases List.mem_cons.mp hf with rfl|hf
    .exact ha
    .by_cases q:f∈fk L most (aI R)
     .exact q
     .let⟨i1,i2⟩:=inF f hf;have h1:=uX a ha f (cut f i1 q);have h2:bY (b7 L f) (b7 L a)=true:=qu0 i2 g;rw[kP h1]at h2;cases h2
   have na:a∉R.map st:=λhf=>by have h2:bY (b7 L a) (b7 L (b++[y]))=true:=(inF a hf).2;rw[kP g]at h2;cases h2
   have:=Ae (List.nodup_cons.mpr ⟨na,nF⟩) sub;rw[jw,lF,lT]at this;omega
noncomputable def c5(L:List Int->Int)(most:Nat):Nat->List (List Int)
 |0=>[[]]
 |k+1=>fk L most (aI (c5 L most k))
def Gr{most:Nat}(k:Nat):(c5 L most (k+1)).length<=most:=List.length_take_le _ _
theorem uH{most n:Nat}(hL:∀b,az b->b.length<n->L b<=L (b++[0])/\L b<=L (b++[1])/\(L (b++[0])=L b∨L (b++[1])=L b)):∀k,k<=n->Top L most k (c5 L most k)
 |0,_=>qp5
 |k+1,h=>qkg (uH hL k (by omega)) λb hb hk=>hL b hb (by omega)
end
noncomputable def eM:List Sx->Int->Int->List Int->Int×Int
 |st::rest,z6,c,b::bs=>eM rest ((cg st z6).getD b.toNat (0,0)).1 (c+((cg st z6).getD b.toNat (0,0)).2) bs
 |[],z6,c,_=>(z6,c)
 |_::_,z6,c,[]=>(z6,c)
def zS(steps:List Sx)(z6 c:Int):eM steps z6 c []=(z6,c):=by cases steps<;>rfl
theorem G4:∀(steps:List Sx) (z6 c:Int) (bs:Zf) (x:Int),bs.length<steps.length->eM steps z6 c (bs++[x])=
 (((cg (steps.getD bs.length []) (eM steps z6 c bs).1).getD x.toNat (0,0)).1,(eM steps z6 c bs).2+((cg (steps.getD bs.length []) (eM steps z6 c bs).1).getD x.toNat (0,0)).2)
 |[],_,_,_,_,h=>by simp at h
 | st::rest,z6,c,[],x,h=>by show eM rest _ _ []=_;rw[zS];rfl
 | st::rest,z6,c,b::bs,x,h=>by show eM rest _ _ (bs++[x])=_;rw[G4 rest _ _ bs x (by simpa using h)];rfl
theorem OkS.drop{ρ:Nat}:∀{steps:List Sx} {n:Nat} (k:Nat),OkS ρ n steps->OkS ρ (n-k) (steps.drop k)
 |_,_,0,h=>h
 |[],_,_+1,_=>True.intro
 | _::_,n,k+1,h=>by have:=OkS.drop k h.2.2;rw[show n-1-k=n-(k+1)from by omega]at this;exact this
theorem uY{ρ:Nat}{ends:Rw}{us:Zf}:∀(steps:List Sx) (n:Nat) (z6 c:Int) (bs:Zf),OkS ρ n steps->bs.length<=n->n<=steps.length->az bs->(0<=z6/\z6.toNat<ρ)->
 (0<=(eM steps z6 c bs).1/\(eM steps z6 c bs).1.toNat<ρ)/\(dR steps ends z6 (bs++us)).map (λx=>c+x)=(dR (steps.drop bs.length) ends (eM steps z6 c bs).1 us).map λx=>(eM steps z6 c bs).2+x
 | steps,n,z6,c,[],_,_,_,_,hr=>by rw[zS];exact⟨hr,rfl⟩
 |[],n,_,_,b::bs,_,h1,h2,_,_=>by simp at h1 h2;omega
 | st::rest,n,z6,c,b::bs,ok,h1,h2,hb,hr=>by
  obtain⟨o1,o2,o3⟩:=ok;have h1':bs.length+1<=n:=by simpa using h1
  have h2':n<=rest.length+1:=by simpa using h2
  have hlt:z6.toNat<st.length:=by rw[o1];exact hr.2
  have es:st[z6.toNat]? =some st[z6.toNat]:=ji hlt;let⟨c1,c2⟩:=o2 _ (xw hlt);rw[if_neg (by omega)]at c1;let⟨q0,q1,eq⟩:=two_of c1;have ech:cg st z6=[q0,q1]:=by rw[uQ es,eq]
  have key:∀q,[q0,q1][b.toNat]? =some q->((0<=(eM (st::rest) z6 c (b::bs)).1/\(eM (st::rest) z6 c (b::bs)).1.toNat<ρ)/\(dR (st::rest) ends z6 (b::bs++us)).map (λx=>c+x)=(dR ((st::rest).drop (b::bs).length) ends (eM (st::rest) z6 c (b::bs)).1 us).map λx=>(eM (st::rest) z6 c (b::bs)).2+x):=λq e=>by
   have hq:=c2 q (by rw[eq];exact k8 e);let⟨g1,g2⟩:=uY (us:=us) (ends:=ends) rest (n-1) q.1 (c+q.2) bs o3 (by omega) (by omega) (λx hx=>hb x (jh _ hx)) hq;have ew:eM (st::rest) z6 c (b::bs)=eM rest q.1 (c+q.2) bs:=by show eM rest ((cg st z6).getD b.toNat (0,0)).1 _ bs=_;rw[ech,jn,e];rfl
   rw[ew,jw,List.drop_succ_cons,<-g2,List.cons_append,Af,ech,e];refine⟨g1,?_⟩;simp only[Option.map_map];congr 1;funext x;show c+(q.2+x)=c+q.2+x;omega
  rcases hb b jj with rfl|rfl
  .exact key q0 rfl
  .exact key q1 rfl
def qf1{α:Type}(d:α)(xs:List α)(k:Nat):(xs.drop k).headD d=xs.getD k d:=by rw[jn,List.headD_eq_head?_getD,List.head?_drop]
section
variable(r:Int)(U:Zf)(G:Z9)(e:Str)(ts:List Told)(n:Nat)
def bj(s:Int)(b:Zf):Int×Int:=eM (bQ r U G ts n 0 (n+aC r e)) s 0 b
def cH(s:Int)(b:Zf):Option Int:=(dJ ((eO r U G e ts n s).getD b.length []) (bj r U G e ts n s b).1).map λx=>(bj r U G e ts n s b).2+x
def qe(s:Int)(b:Zf):List Int:=gz (n-b.length) ((bQ r U G ts n 0 (n+aC r e)).drop b.length) (bG ((bQ r U G ts n 0 (n+aC r e)).drop b.length) (d5 r e s)) (bj r U G e ts n s b).1
def ua(b:Zf):List Int:=(cM r e).filterMap λs=>cH r U G e ts n s b
def ca(b:Zf):Int:=(cG (ua r U G e ts n b)).getD 0
end
section
variable{r:Int}{U:Zf}{G:Z9}{e:Str}{ts:List Told}{n:Nat}
def kR:(bQ r U G ts n 0 (n+aC r e)).length=n+aC r e:=by unfold bQ;rw[jb,List.length_range']
def f9{s:Int}{k:Nat}(h:k<=n):(eO r U G e ts n s).getD k []=(bG ((bQ r U G ts n 0 (n+aC r e)).drop k) (d5 r e s)).headD []:=by unfold eO;rw[<-qf1,Aq _ _ _ (by rw[kR];omega)]
def zQ{s:Int}{b:Zf}(hs:s∈cM r e)(hb:az b)(hl:b.length<=n):0<=(bj r U G e ts n s b).1/\(bj r U G e ts n s b).1.toNat<2^r.toNat:=by have h1:=u0 hs;have h4:=gR (r:=r);exact(uY (us:=[]) (ends:=[]) _ n s 0 b (pF (n:=n) (n+aC r e) 0) hl (by rw[kR];omega) hb ⟨h1.1,by omega⟩).1
def qkf{s:Int}{b:Zf}(x:Int)(hl:b.length<n):bj r U G e ts n s (b++[x])=
 (((cg (stepK r U G ts n b.length) (bj r U G e ts n s b).1).getD x.toNat (0,0)).1,(bj r U G e ts n s b).2+((cg (stepK r U G ts n b.length) (bj r U G e ts n s b).1).getD x.toNat (0,0)).2):=by
 have es:(bQ r U G ts n 0 (n+aC r e)).getD b.length []=stepK r U G ts n b.length:=by unfold bQ;rw[jn,jq,List.getElem?_range' (by omega)];simp
 unfold bj;rw[G4 _ _ _ _ _ (by rw[kR];omega),es]
def qmm{s c:Int}{b:Zf}(hs:s∈cM r e)(hb:az b)(hl:b.length<=n)(hr:e="ring"->r.toNat<=n)(hen:e="open"∨e="ended"∨e="ring")(ht:ts.length=(bE U G (n+aC r e)).length)(h:cH r U G e ts n s b=some c):
 az (b++qe r U G e ts n s b)/\(b++qe r U G e ts n s b).length=n/\bo r e (b++qe r U G e ts n s b)=s/\eU r U G e ts (b++qe r U G e ts n s b)=c:=by
 unfold qe;have h1:=u0 hs;have h4:=gR (r:=r);have ok:=pF (r:=r) (U:=U) (G:=G) (ts:=ts) (n:=n) (n+aC r e) 0;unfold cH at h;rw[f9 hl]at h;let⟨m,hm,em⟩:=Option.map_eq_some_iff.mp h;let⟨g1,g2,g3,_⟩:=uR (2^r.toNat) _ (n-b.length) (d5 r e s) (bj r U G e ts n s b).1 m (OkS.drop b.length ok) (by rw[xv,kR];omega) (zQ hs hb hl) hm;have ez:jP (((bQ r U G ts n 0 (n+aC r e)).drop b.length).length-(n-b.length))=List.replicate (aC r e) 0:=by rw[xv,kR,show n+aC r e-b.length-(n-b.length)=aC r e from by omega];rfl
 rw[ez]at g3;have g:=(uY (ends:=d5 r e s) (us:=gz (n-b.length) ((bQ r U G ts n 0 (n+aC r e)).drop b.length) (bG ((bQ r U G ts n 0 (n+aC r e)).drop b.length) (d5 r e s)) (bj r U G e ts n s b).1++List.replicate (aC r e) 0) _ n s 0 b ok hl (by rw[kR];omega) hb ⟨h1.1,by omega⟩).2;have g3':dR (List.drop b.length (bQ r U G ts n 0 (n+aC r e))) (d5 r e s) (eM (bQ r U G ts n 0 (n+aC r e)) s 0 b).1 _=_:=g3;rw[g3',<-List.append_assoc]at g;have bw:az (b++gz (n-b.length) ((bQ r U G ts n 0 (n+aC r e)).drop b.length) (bG ((bQ r U G ts n 0 (n+aC r e)).drop b.length) (d5 r e s)) (bj r U G e ts n s b).1):=gS hb g1;have lw:(b++gz (n-b.length) ((bQ r U G ts n 0 (n+aC r e)).drop b.length) (bG ((bQ r U G ts n 0 (n+aC r e)).drop b.length) (d5 r e s)) (bj r U G e ts n s b).1).length=n:=by rw[jr,g2];omega
 let⟨c',hc,ec⟩:=Option.map_eq_some_iff.mp g;let⟨p1,p2⟩:=qhm hs bw lw hr hen ht hc;refine⟨bw,lw,p1.symm,?_⟩;have ec:0+c'=(bj r U G e ts n s b).2+m:=ec;rw[<-p2,<-em];omega
def FO{s c:Int}{b:Zf}(hs:s∈cM r e)(hb:az b)(hl:b.length<=n)(hr:e="ring"->r.toNat<=n)(hen:e="open"∨e="ended"∨e="ring")(ht:ts.length=(bE U G (n+aC r e)).length)(h:cH r U G e ts n s b=some c):
 ∃w,az w/\w.length=n/\b<+:w/\bo r e w=s/\eU r U G e ts w=c:=by
 let⟨h1,h2,h3,h4⟩:=qmm hs hb hl hr hen ht h;exact⟨_,h1,h2,List.prefix_append _ _,h3,h4⟩
def DU{w b:Zf}(hw:az w)(lw:w.length=n)(hp:b<+:w)(hr:e="ring"->r.toNat<=n)(hen:e="open"∨e="ended"∨e="ring")(ht:ts.length=(bE U G (n+aC r e)).length):
 ∃m,cH r U G e ts n (bo r e w) b=some m/\m<=eU r U G e ts w:=by
 obtain⟨u,rfl⟩:=hp;have hs:=He (r:=r) (e:=e) hw (by rw[lw];exact hr);have h1:=u0 hs;have h4:=gR (r:=r);have hl:b.length<=n:=by rw[<-lw,jr];omega
 have hb:az b:=λx hx=>hw x (List.mem_append_left _ hx);have p:=G5 (U:=U) (G:=G) hw lw hr hen ht;rw[List.append_assoc]at p;have g:=(uY (ends:=d5 r e (bo r e (b++u))) (us:=u++List.replicate (aC r e) 0) _ n (bo r e (b++u)) 0 b (pF (r:=r) (U:=U) (G:=G) (ts:=ts) (n:=n) (n+aC r e) 0) hl (by rw[kR];omega) hb ⟨h1.1,by omega⟩).2;rw[p]at g;let⟨c,hc,ec⟩:=Option.map_eq_some_iff.mp g.symm;let⟨m,hm,le⟩:=zC _ _ _ _ _ hc;unfold cH;rw[f9 hl];refine⟨(bj r U G e ts n (bo r e (b++u)) b).2+m,Option.map_eq_some_iff.mpr ⟨m,hm,rfl⟩,?_⟩;have ec:(bj r U G e ts n (bo r e (b++u)) b).2+c=0+eU r U G e ts (b++u):=ec;omega
section
variable(hr:e="ring"->r.toNat<=n)(hen:e="open"∨e="ended"∨e="ring")(ht:ts.length=(bE U G (n+aC r e)).length)
include hr hen ht
theorem qW{b:Zf}(hb:az b)(hl:b.length<=n):cG (ua r U G e ts n b)=some (ca r U G e ts n b)/\
 (∃w,az w/\w.length=n/\b<+:w/\eU r U G e ts w=ca r U G e ts n b)/\∀w,az w->w.length=n->b<+:w->ca r U G e ts n b<=eU r U G e ts w:=by
 have lo:∀w,az w->w.length=n->b<+:w->∃m∈ua r U G e ts n b,m<=eU r U G e ts w:=λw bw lw pw=>by let⟨m,h1,h2⟩:=DU (U:=U) (G:=G) bw lw pw hr hen ht;exact⟨m,List.mem_filterMap.mpr ⟨_,He bw (by rw[lw];exact hr),h1⟩,h2⟩
 let⟨m0,hm0,_⟩:=lo (b++List.replicate (n-b.length) 0) (gS hb (px _)) (by rw[jr,jx];omega) (List.prefix_append _ _);cases q:cG (ua r U G e ts n b)with
 |none=>rw[Ac q]at hm0;cases hm0
 | some m=>
  have el:ca r U G e ts n b=m:=by unfold ca;rw[q];rfl
  rw[el];let⟨h1,h2⟩:=uB q;let⟨s,hs,es⟩:=List.mem_filterMap.mp h1;let⟨w,w1,w2,w3,_,w5⟩:=FO hs hb hl hr hen ht es;refine⟨rfl,⟨w,w1,w2,w3,w5⟩,λw bw lw pw=>?_⟩;let⟨x,hx,le⟩:=lo w bw lw pw;have:=h2 x hx;omega
theorem Hf{w:Zf}(hw:az w)(lw:w.length=n):ca r U G e ts n w=eU r U G e ts w:=by let⟨_,⟨v,_,v2,v3,v4⟩,_⟩:=qW hr hen ht hw (by omega);have:w=v:=v3.eq_of_length (by omega);rw[<-v4,this]
theorem Am{b:Zf}(hb:az b)(hl:b.length<n):ca r U G e ts n b<=ca r U G e ts n (b++[0])/\ca r U G e ts n b<=ca r U G e ts n (b++[1])/\(ca r U G e ts n (b++[0])=ca r U G e ts n b∨ca r U G e ts n (b++[1])=ca r U G e ts n b):=by
 have b0:az (b++[0]):=gS hb λy hy=>.inl (List.mem_singleton.mp hy);have b1:az (b++[1]):=gS hb λy hy=>.inr (List.mem_singleton.mp hy);let⟨_,⟨w,w1,w2,w3,w4⟩,hm⟩:=qW hr hen ht hb (by omega);let⟨_,⟨u,u1,u2,u3,u4⟩,hu⟩:=qW hr hen ht b0 (by simp;omega);let⟨_,⟨v,v1,v2,v3,v4⟩,hv⟩:=qW hr hen ht b1 (by simp;omega);have l0:=hm u u1 u2 ((List.prefix_append _ _).trans u3);have l1:=hm v v1 v2 ((List.prefix_append _ _).trans v3);refine⟨by omega,by omega,?_⟩;obtain⟨t,et⟩:=w3;cases t with
 |nil=>rw[List.append_nil]at et;rw[<-et]at w2;omega
 | cons y t=>
  have et:w=(b++[y])++t:=by rw[<-et];simp
  rcases w1 y (by rw[et];simp)with z|z
  .subst z;have:=hu w w1 w2 ⟨t,et.symm⟩;exact .inl (by omega)
  .subst z;have:=hv w w1 w2 ⟨t,et.symm⟩;exact .inr (by omega)
theorem qfj{s:Int}{b:Zf}{x:Int}(hs:s∈cM r e)(hb:az (b++[x]))(hl:b.length<n)(h:cH r U G e ts n s (b++[x])≠none):cH r U G e ts n s b≠none:=by
 cases q:cH r U G e ts n s (b++[x])with
 |none=>exact absurd q h
 | some c=>
  let⟨w,w1,w2,w3,w4,_⟩:=FO hs hb (by simp;omega) hr hen ht q;let⟨m,h1,_⟩:=DU (U:=U) (G:=G) w1 w2 ((List.prefix_append _ _).trans w3) hr hen ht;rw[w4]at h1;rw[h1];simp
theorem qsp(hn:1<=n)(h0:eU r U G e ts (List.replicate n 0)=0)(hp:∀w,az w->w.length=n->0<=eU r U G e ts w):
 ∃w,c5 (ca r U G e ts n) 2 n=[List.replicate n 0,w]/\az w/\w.length=n/\w≠List.replicate n 0/\∀x,az x->x.length=n->x≠List.replicate n 0->bY (eU r U G e ts x,x) (eU r U G e ts w,w)=false:=by
 have T:=uH (L:=ca r U G e ts n) (most:=2) (n:=n) (λb hb hl=>Am hr hen ht hb hl) n (jg _);have kw:∀w,az w->w.length=n->b7 (ca r U G e ts n) w=(eU r U G e ts w,w):=λw hw lw=>by unfold b7;rw[Hf hr hen ht hw lw]
 have zb:az (List.replicate n 0):=px _;have zl:(List.replicate n (0:Int)).length=n:=jx;have zleast:∀w,az w->w.length=n->bY (eU r U G e ts w,w) (0,List.replicate n 0)=false:=λw hw lw=>by
  unfold bY kJ;simp only;have:=hp w hw lw;by_cases q:eU r U G e ts w=0
  .rw[if_pos q];have:∀(k:Nat) (u:Zf),az u->u.length=k->HT.lexLt u (List.replicate k 0)=false:=by
    intro k;induction k with
    |zero=>intro u _ hu;rw[List.eq_nil_of_length_eq_zero hu];rfl
    | succ k ih=>
     intro u bu hu;cases u with
     |nil=>simp at hu
     | cons x xs=>
      rw[List.replicate_succ,HT.lexLt_cons];rcases bu x jj with rfl|rfl
      .rw[if_pos rfl];exact ih xs (λy hy=>bu y (jh _ hy)) (by simpa using hu)
      .rw[if_neg (by decide)];decide
   exact this n w hw lw
  .rw[if_neg q];simp;omega
 have l2:=Gr (L:=ca r U G e ts n) (most:=2) (n-1);rw[show n-1+1=n from by omega]at l2;generalize c5 (ca r U G e ts n) 2 n=R at T l2;have zin:List.replicate n (0:Int)∈R:=by
  by_cases q:List.replicate n (0:Int)∈R
  .exact q
  .let⟨l2,hh⟩:=T.out _ zb zl q;cases R with
   |nil=>simp at l2
   | cons a R=>
    have ha:=hh a jj;let⟨a1,a2⟩:=T.bits a jj;unfold gZ at ha;rw[kw _ a1 a2,kw _ zb zl,h0,zleast a a1 a2]at ha;cases ha
 have one:∃o,az o/\o.length=n/\o≠List.replicate n 0:=⟨List.replicate n 1,λb hb=>.inr (List.eq_of_mem_replicate hb),jx,λz=>by have:=congrArg List.sum z;obtain⟨k,rfl⟩:∃k,n=k+1:=⟨n-1,by omega⟩;simp[List.replicate_succ]at z⟩
 match R,T,zin,l2 with
 |[],_,zin,_=>cases zin
 | [a],T,zin,_=>
  obtain⟨o,o1,o2,o3⟩:=one;have ea:=List.mem_singleton.mp zin;let⟨l2,_⟩:=T.out o o1 o2 (λz=>o3 ((List.mem_singleton.mp z).trans ea.symm));simp at l2
 | a::b::R,T,zin,l2=>
  let⟨b1,b2⟩:=T.bits b (by simp);let⟨a1,a2⟩:=T.bits a (by simp);have up:=T.up;rw[List.pairwise_cons]at up;have ea:a=List.replicate n 0:=by
   rcases List.mem_cons.mp zin with z|z
   .exact z.symm
   .have:=up.1 _ z;unfold gZ at this;rw[kw _ a1 a2,kw _ zb zl,h0,zleast a a1 a2]at this;cases this
  have nb:b≠List.replicate n 0:=λz=>by have:=up.1 b (by simp);rw[z,ea]at this;unfold gZ at this;rw[qZ]at this;cases this
  cases R with
  | nil=>
   refine⟨b,by rw[ea],b1,b2,nb,λx x1 x2 x3=>?_⟩;by_cases q:x=b
   .rw[q,qZ]
   .let⟨_,hh⟩:=T.out x x1 x2 (by simp[ea,x3,q]);have:=hh b (by simp);unfold gZ at this;rw[kw _ b1 b2,kw _ x1 x2]at this;exact kP this
  | cons c R=>
   simp at l2
end
end
end L2
namespace K26
open PySem L2
abbrev Nx(f:av->Option Out)(l:av)(i:Nat)(x:D):Prop:=f l=some (.nx (l.set i (some x)))
abbrev Nz(f:av->Option Out)(l:av):Prop:=f l=some (.nx l)
abbrev Nr(f:av->Option Out)(l:av)(d:D):Prop:=f l=some (.rt d l)
abbrev Ns{α:Type}(f:av->Option (α×av))(l:av)(y:α):Prop:=f l=some (y,l)
local macro_rules|`(tactic|walk_at "e")=>`(tactic|simp[Nx,Nz,Nr,Ns,fZ,aM,cq,DZ,eF,xU,DX,qx3,qre,qrd,qx7,yO,qx5,qxa,qzd,qrm,qrf,qze,DW,EX,qwx,qx6,CU,qrl,FS,qmg,qrk,D1,EZ,qww,EY,CV,qmf,E2,qr3,qr5,qra,qwz,qr4,qmd,qmc,qr6,qx0,qme,qr7,qr9,qmb,qr8,qri,eB,HI,Aw,jT,oU,rV,rH,jU,rO,fT,db,fP,kW,rB,pH,b8,ml,bA,bU,iD,eI,jp,mz,dO,GH,lN,i9,iU,gK,tE,gv,i4,wN,uh,C4,wM,mP,HK,nr,at2,at3,e9,fQ,gq,qrn,qqm,lh,pL,mV,mi,fj,fY,ux,qx8,qx1,ix,FU,md,fF,oQ,bJ,io,iO,qrj,CT,DY,qt,eV,qrh,qx9,qrg,qx2,xV, *])
local macro_rules|`(tactic|walk_at "sc")=>`(tactic|exact⟨rfl,rfl,rfl,by decide+kernel,rfl,by decide+kernel,by decide+kernel⟩)
local macro_rules|`(tactic|walk_at "lr")=>`(tactic|first|exact Or.inl rfl|exact Or.inr rfl)
noncomputable def top(i:Nat):Stmt:=Challenge.pw_trellisway_k26_distance_told.main.body.getD i (.Pass ⟨0,0,0,0⟩)
abbrev nO:Stmt:=top 5
def qy9:q0k ["reach"] ["reach"] (aT nO):=by walk_at "sc"
abbrev nN:Stmt:=top 6
def qy8:q0k ["scheme"] ["scheme"] (aT nN):=by walk_at "sc"
abbrev nM:Stmt:=top 7
def scy2:q0k ["number","left","odd"] ["number"] (aT nM):=by walk_at "sc"
abbrev nL:Stmt:=top 8
def scy3:q0k ["scheme","room","bit","window","signs"] ["scheme","room","bit"] (aT nL):=by walk_at "sc"
abbrev lg:Stmt:=top 9
abbrev BQ:List Str:=["scheme","number","signs","rows","row"]
abbrev vQ:List Str:=["scheme","number","signs"]
def scy4:q0k BQ vQ (aT lg):=by walk_at "sc"
abbrev nK:Stmt:=top 11
def qy7:q0k ["scheme"] ["scheme"] (aT nK):=by walk_at "sc"
abbrev nJ:Stmt:=top 12
def qy6:q0k ["scheme","size"] ["scheme","size"] (aT nJ):=by walk_at "sc"
abbrev nI:Stmt:=top 13
def qy5:q0k ["scheme"] ["scheme"] (aT nI):=by walk_at "sc"
abbrev nH:Stmt:=top 14
def qy4:q0k ["scheme"] ["scheme"] (aT nH):=by walk_at "sc"
abbrev nG:Stmt:=top 15
def qy3:q0k ["scheme","size"] ["scheme","size"] (aT nG):=by walk_at "sc"
abbrev yd:Stmt:=top 16
abbrev BY:List Str:=["scheme","size","signs","places","number"]
def scya:q0k BY ["scheme","size"] (aT yd):=by walk_at "sc"
abbrev qh:Stmt:=dF (top 19) 0
def qtj:q0k ["self","bit"] ["self","bit"] (aT qh):=by walk_at "sc"
abbrev qj:Stmt:=dF (top 19) 2
def qti:q0k ["self","bit"] ["self","bit"] (aT qj):=by walk_at "sc"
abbrev qk:Stmt:=dF (top 20) 1
def qth:q0k ["self","bit"] ["self","bit"] (aT qk):=by walk_at "sc"
abbrev qm:Stmt:=dF (top 21) 0
def qtg:q0k ["self","zero","one"] ["self","zero","one"] (aT qm):=by walk_at "sc"
abbrev qo:Stmt:=dF (top 21) 2
def qtf:q0k ["self","bit"] ["self","bit"] (aT qo):=by walk_at "sc"
abbrev ye:Stmt:=top 22
def qte:q0k ["told"] ["told"] (aT ye):=by walk_at "sc"
abbrev yf:Stmt:=top 24
abbrev jF:List Str:=["scheme","size","heard"]
def scyk:q0k ["scheme","size","heard","places"] jF (aT yf):=by walk_at "sc"
abbrev t6:Stmt:=top 25
def qtd:q0k ["signs","bits"] ["signs","bits"] (aT t6):=by walk_at "sc"
abbrev yg:Stmt:=top 26
abbrev B8:List Str:=["scheme","size","heard","found","number","told"]
def scym:q0k B8 jF (aT yg):=by walk_at "sc"
abbrev yh:Stmt:=top 27
abbrev vT:List Str:=["scheme","number","signs","room","bit"]
def scyn:q0k ["scheme","number","signs","room","bit","led"] vT (aT yh):=by walk_at "sc"
abbrev yi:Stmt:=top 28
abbrev tu:List Str:=["scheme","number","signs","room","bits"]
def Ex:q0k tu tu (aT yi):=by walk_at "sc"
abbrev yj:Stmt:=top 29
def scyp:q0k ["scheme","size","heard","found","number","signs","bits"] jF (aT yj):=by walk_at "sc"
abbrev yk:Stmt:=top 30
def scyq:q0k ["scheme","start","end"] ["scheme","start"] (aT yk):=by walk_at "sc"
abbrev yl:Stmt:=top 31
def scyr:q0k ["taken","behind","rest"] ["taken","behind"] (aT yl):=by walk_at "sc"
abbrev t7:Stmt:=top 32
def Ey:q0k ["choices","behind","found"] ["choices","behind"] (aT t7):=by walk_at "sc"
abbrev ym:Stmt:=top 33
def scyt:q0k ["steps","ends","table","choices_by_room","behind"] ["steps","ends"] (aT ym):=by walk_at "sc"
abbrev yn:Stmt:=top 34
def scyu:q0k ["scheme","steps","tables","start"] ["scheme","steps"] (aT yn):=by walk_at "sc"
abbrev yo:Stmt:=top 36
abbrev oH:List Str:=["track","tables","number"]
def scyv:q0k ["track","tables","number","rest"] oH (aT yo):=by walk_at "sc"
abbrev t8:Stmt:=top 37
abbrev BX:List Str:=["bits","tracks","tables","number","alive"]
abbrev vP:List Str:=["bits","tracks","tables"]
def scyw:q0k BX vP (aT t8):=by walk_at "sc"
abbrev yp:Stmt:=top 38
abbrev tm:List Str:=["track","bit","choices_by_room"]
def scyx:q0k ["track","bit","choices_by_room","taken"] tm (aT yp):=by walk_at "sc"
abbrev yq:Stmt:=top 39
abbrev vX:List Str:=["begun","bit","choices_by_room","tables"]
def Ez:q0k ["begun","bit","choices_by_room","tables","tracks"] vX (aT yq):=by walk_at "sc"
abbrev yr:Stmt:=top 40
def qtc:q0k ["found","most"] ["found","most"] (aT yr):=by walk_at "sc"
abbrev qg:Stmt:=top 41
abbrev Co:List Str:=["scheme","size","heard","most","steps","tables","found","choices_by_room","longer","begun","@t"]
abbrev tj:List Str:=["scheme","size","heard","most"]
def sc_few:q0k Co tj (aT qg):=by walk_at "sc"
abbrev yt:Stmt:=top 43
abbrev vS:List Str:=["scheme","size","heard","found","@t"]
def scyA:q0k vS ["scheme","size"] (aT yt):=by walk_at "sc"
abbrev yu:Stmt:=top 45
def qtb:q0k ["_law_script","_law_k"] ["_law_script","_law_k"] (aT yu):=by walk_at "sc"
abbrev yv:Stmt:=top 46
def qta:q0k ["_law_cell","_law_k"] ["_law_cell","_law_k"] (aT yv):=by walk_at "sc"
abbrev yw:Stmt:=top 47
abbrev pM:List Str:=["_law_state_here","_law_many"]
def qt9:q0k pM pM (aT yw):=by walk_at "sc"
abbrev yy:Stmt:=top 48
abbrev vY:List Str:=["_law_state_here","_law_most","_law_endings"]
abbrev Ck:List Str:=["_law_state_here","_law_most","_law_endings","_law_reach","_law_taps","_law_lines","_law_k"]
def scyE:q0k Ck vY (aT yy):=by walk_at "sc"
abbrev yz:Stmt:=top 49
def scyF:q0k ["_law_number","_law_odd_here"] ["_law_number"] (aT yz):=by walk_at "sc"
abbrev t9:Stmt:=top 50
abbrev Cn:List Str:=["_law_scheme_here","_law_number","_law_room","_law_bit","_law_both","_law_signs","_law_line"]
abbrev wc:List Str:=["_law_scheme_here","_law_number","_law_room","_law_bit"]
def scyG:q0k Cn wc (aT t9):=by walk_at "sc"
abbrev yA:Stmt:=top 51
abbrev oI:List Str:=["_law_scheme_here","_law_word"]
def scyH:q0k ["_law_scheme_here","_law_word","_law_room","_law_bit"] oI (aT yA):=by walk_at "sc"
abbrev yB:Stmt:=top 52
def scyI:q0k ["_law_scheme_here","_law_word","_law_bits","_law_room","_law_found","_law_number","_law_signs"] oI (aT yB):=by walk_at "sc"
abbrev yC:Stmt:=top 53
def qt8:q0k ["_law_found"] ["_law_found"] (aT yC):=by walk_at "sc"
abbrev yD:Stmt:=top 54
abbrev sZ:List Str:=["_law_found","_law_size"]
def EA:q0k sZ sZ (aT yD):=by walk_at "sc"
abbrev yE:Stmt:=top 55
def scyL:q0k ["_law_size","_law_words_here","_law_k"] ["_law_size"] (aT yE):=by walk_at "sc"
abbrev yF:Stmt:=top 56
abbrev vR:List Str:=["_law_scheme_here","_law_size"]
def scyM:q0k ["_law_scheme_here","_law_size","_law_refused_here"] vR (aT yF):=by walk_at "sc"
abbrev yc:Stmt:=top 57
abbrev Cp:List Str:=["_law_script","_law_k","_law_state_here","_law_scheme_here","_law_size","_law_found","_law_due","@t"]
def sc_law:q0k Cp ["_law_script"] (aT yc):=by walk_at "sc"
set_option genInjectivity false in
structure Ad where
 (c_Clear c_Gap c_Soft c_WayError c_NoWord c_NoSigns fy0 fy1 fy2 fy3 fy4 fy5 fy6 fy7 fy8 fy9 fya fyb fyd fyf fyg fyi fyj fyk fyl fym fyn fyo fyp fyq fyr fys fyt fyu fyv fyw fyx fyy fyz f_few fyA fyB fyC fyD fyE fyF fyG fyH fyI fyJ fyK fyL fyM f_law tyz cyz:Addr)
 (fdy0 fdy1 fdy2 fdy3 fdy4 fdy5 fdy6 fdy7 fdy8 fdy9 fdya fdyb fdyd fdyf fdyg fdyi fdyj fdyk fdyl fdym fdyn fdyo fdyp fdyq fdyr fdys fdyt fdyu fdyv fdyw fdyx fdyy fdyz fd_few fdyA fdyB fdyC fdyD fdyE fdyF fdyG fdyH fdyI fdyJ fdyK fdyL fdyM fd_law:FuncData)
structure Df(K:am)(mg:Za)(x:Str)(s:Stmt)(f:Addr)(fd:FuncData)(ps:Zj):Prop where
 F:Fun K x x s f fd
 B:Binds K fd ps []
 m:mg x=some (.ref f)
section
open PySem.Spec PyProof.Rows
variable{P:Program}{w:World}{K:am}{mg:Za}{base:Heap}
def bI{X:Cx}{k:Nat}{x:Str}{st:Stmt}{f:Addr}{fd:FuncData}{ps:Zj}{sp:Sp}{e:Expr}{es:Zi}{t:TA}{p pos:Pos}(F:FnOk X.prog X.w X.K X.mg X.base br k f fd ps sp)(hr:Room k X.A)(D:Df X.K X.mg x st f fd ps)(ha:PA X (e::es) t)(hg:Gl X x:=by rfl)(hdb:(x==("__debug__":Str))=false:=by decide)(he:starEach (e::es) X.env=(false,eval e X.env)::starEach es X.env:=by rfl)(hpl:(backTo pos (starEach es X.env)).any (·.1)=false:=by rfl):PE X (.Call (.Name x p) (e::es) [] pos) (jH sp [] E0 t):=i5 F hr hg D.m D.F.kp D.B .nil mI ha hdb he hpl
def cR{x qual:Str}{st:Stmt}{f:Addr}{fd:FuncData}{N ps:Zj}{k n m:Nat}{fr:Bool}{b:av->Option Out}(F:Fun K x qual st f fd)(S:q0k N ps (aT st))(hb:∀(cdv:Value) (A:Around) (outer:List Env) (s:Shared) (H:Hp) (E:XK),Room k (A.deeper (envOfC qual (aT st) s.heap.objs.size f cdv))->∃t,PSs (dX br P w K mg base N qual (aT st) f cdv A outer s H E).nox (e8 st) t/\MS ⟨K,fr,[],[]⟩ [] [] t b)(hn:n=ps.length:=by rfl)(hm:m=N.length:=by rfl):FnOk P w K mg base br (k+1) f fd ps (cj K fr n (aM fr n m b)):=by
 subst hn hm;exact F.ok S (λ_ _ _ _ h=>h.1) λcdv A outer s H vs Q E hr h=>by let⟨t,h1,h2⟩:=hb cdv A outer s H E hr;exact⟨t,h1,HE h2 h⟩
end
structure Txt(K:am)(mg:Za)(a:Ad):Prop where
 mg_Clear:mg "Clear"=some (.ref a.c_Clear)
 ns_Clear:W.nsIn K mainGlobals "Clear"=some (some (.ref a.c_Clear))
 cl_Clear:Cls K a.c_Clear
 no_Clear_bit:NoAttr K a.c_Clear "bit"
 mg_Gap:mg "Gap"=some (.ref a.c_Gap)
 ns_Gap:W.nsIn K mainGlobals "Gap"=some (some (.ref a.c_Gap))
 cl_Gap:Cls K a.c_Gap
 mg_Soft:mg "Soft"=some (.ref a.c_Soft)
 ns_Soft:W.nsIn K mainGlobals "Soft"=some (some (.ref a.c_Soft))
 cl_Soft:Cls K a.c_Soft
 no_Soft_zero:NoAttr K a.c_Soft "zero"
 no_Soft_one:NoAttr K a.c_Soft "one"
 mg_WayError:mg "WayError"=some (.ref a.c_WayError)
 ns_WayError:W.nsIn K mainGlobals "WayError"=some (some (.ref a.c_WayError))
 ek_WayError:ExcK K a.c_WayError
 mg_NoWord:mg "NoWord"=some (.ref a.c_NoWord)
 ns_NoWord:W.nsIn K mainGlobals "NoWord"=some (some (.ref a.c_NoWord))
 ek_NoWord:ExcK K a.c_NoWord
 ex_NoWord:W.excIn K a.c_NoWord [.type "ValueError",.type "Exception",.type "BaseException",.type "object"] "ValueError.__new__"=true
 mg_NoSigns:mg "NoSigns"=some (.ref a.c_NoSigns)
 ns_NoSigns:W.nsIn K mainGlobals "NoSigns"=some (some (.ref a.c_NoSigns))
 ek_NoSigns:ExcK K a.c_NoSigns
 em_NoWord_NoWord:W.exmOne K (.ref a.c_NoWord) (.ref a.c_NoWord)=some true
 Dy0:Df K mg "rooms_at" nO a.fy0 a.fdy0 ["reach"]
 Dy1:Df K mg "rooms" nN a.fy1 a.fdy1 ["scheme"]
 Dy2:Df K mg "parity" nM a.fy2 a.fdy2 ["number"]
 Dy3:Df K mg "step" nL a.fy3 a.fdy3 ["scheme","room","bit"]
 Dy4:Df K mg "sent_at" lg a.fy4 a.fdy4 vQ
 Dy5:Df K mg "is_ring" nK a.fy5 a.fdy5 ["scheme"]
 Dy6:Df K mg "check_size" nJ a.fy6 a.fdy6 ["scheme","size"]
 Dy7:Df K mg "bits_behind" nI a.fy7 a.fdy7 ["scheme"]
 Dy8:Df K mg "first_rooms" nH a.fy8 a.fdy8 ["scheme"]
 Dy9:Df K mg "steps_of" nG a.fy9 a.fdy9 ["scheme","size"]
 Dya:Df K mg "places_of" yd a.fya a.fdya ["scheme","size"]
 Fyb:Fun K "__init__" "Clear.__init__" qh a.fyb a.fdyb
 Byb:Binds K a.fdyb ["self","bit"] []
 Fyd:Fun K "cost" "Clear.cost" qj a.fyd a.fdyd
 Byd:Binds K a.fdyd ["self","bit"] []
 myd:Meth K a.c_Clear "cost" a.fyd
 Fyf:Fun K "cost" "Gap.cost" qk a.fyf a.fdyf
 Byf:Binds K a.fdyf ["self","bit"] []
 myf:Meth K a.c_Gap "cost" a.fyf
 Fyg:Fun K "__init__" "Soft.__init__" qm a.fyg a.fdyg
 Byg:Binds K a.fdyg ["self","zero","one"] []
 Fyi:Fun K "cost" "Soft.cost" qo a.fyi a.fdyi
 Byi:Binds K a.fdyi ["self","bit"] []
 myi:Meth K a.c_Soft "cost" a.fyi
 Dyj:Df K mg "sign_of" ye a.fyj a.fdyj ["told"]
 Dyk:Df K mg "check_heard" yf a.fyk a.fdyk jF
 Dyl:Df K mg "signs_cost" t6 a.fyl a.fdyl ["signs","bits"]
 Dym:Df K mg "signs_by_step" yg a.fym a.fdym jF
 Dyn:Df K mg "move" yh a.fyn a.fdyn vT
 Dyo:Df K mg "moves_from" yi a.fyo a.fdyo tu
 Dyp:Df K mg "moves" yj a.fyp a.fdyp jF
 Dyq:Df K mg "end_costs" yk a.fyq a.fdyq ["scheme","start"]
 Dyr:Df K mg "cost_by" yl a.fyr a.fdyr ["taken","behind"]
 Dys:Df K mg "least_by" t7 a.fys a.fdys ["choices","behind"]
 Dyt:Df K mg "ahead_by" ym a.fyt a.fdyt ["steps","ends"]
 Dyu:Df K mg "ahead_by_start" yn a.fyu a.fdyu ["scheme","steps"]
 Dyv:Df K mg "cost_of_track" yo a.fyv a.fdyv oH
 Dyw:Df K mg "beginning" t8 a.fyw a.fdyw vP
 Dyx:Df K mg "track_on" yp a.fyx a.fdyx tm
 Dyy:Df K mg "beginning_on" yq a.fyy a.fdyy vX
 Dyz:Df K mg "first_ones" yr a.fyz a.fdyz ["found","most"]
 F_few:FunD K "few" "few" qg a.f_few a.fd_few
 B_few:Binds K a.fd_few tj []
 mg_few:mg "few"=some (.ref a.f_few)
 DyA:Df K mg "apart" yt a.fyA a.fdyA ["scheme","size"]
 DyB:Df K mg "_law_cell_at" yu a.fyB a.fdyB ["_law_script","_law_k"]
 DyC:Df K mg "_law_state" yv a.fyC a.fdyC ["_law_cell","_law_k"]
 DyD:Df K mg "_law_next" yw a.fyD a.fdyD pM
 DyE:Df K mg "_law_scheme" yy a.fyE a.fdyE vY
 DyF:Df K mg "_law_odd" yz a.fyF a.fdyF ["_law_number"]
 DyG:Df K mg "_law_step" t9 a.fyG a.fdyG wc
 DyH:Df K mg "_law_start" yA a.fyH a.fdyH oI
 DyI:Df K mg "_law_sent" yB a.fyI a.fdyI oI
 DyJ:Df K mg "_law_whole" yC a.fyJ a.fdyJ ["_law_found"]
 DyK:Df K mg "_law_is_word" yD a.fyK a.fdyK sZ
 DyL:Df K mg "_law_words" yE a.fyL a.fdyL ["_law_size"]
 DyM:Df K mg "_law_refused" yF a.fyM a.fdyM vR
 D_law:Df K mg "law" yc a.f_law a.fd_law ["_law_script"]
 mk_Clear:Mk K a.c_Clear a.fyb
 mk_Gap:MkN K a.c_Gap
 mk_Soft:Mk K a.c_Soft a.fyg
 cdyz:a.fdyz.code=.ref a.cyz
 chyz:∀h:Heap,K.In h->W.CodeHd h a.cyz a.tyz
 btyz:∀h:Heap,K.In h->h.BuiltinsAt mg a.tyz
 z_all:mg "all"=none
 z_bool:mg "bool"=none
 z_enumerate:mg "enumerate"=none
 z_int:mg "int"=none
 z_isinstance:mg "isinstance"=none
 z_len:mg "len"=none
 z_list:mg "list"=none
 z_max:mg "max"=none
 z_min:mg "min"=none
 z_range:mg "range"=none
 z_reversed:mg "reversed"=none
 z_sorted:mg "sorted"=none
 z_sum:mg "sum"=none
 z_tuple:mg "tuple"=none
 z_zip:mg "zip"=none
 kb_bool:eZ K "bool" (gv "bool")
 kb_int:eZ K "int" (gv "int")
 kb_list:eZ K "list" (gv "list")
 kb_tuple:eZ K "tuple" (gv "tuple")
def qlx{K:am}{mg:Za}{a:Ad}(T:Txt K mg a):eZ K "bool" (gv "bool"):=T.kb_bool
def qqu{K:am}{mg:Za}{a:Ad}(T:Txt K mg a):eZ K "int" (gv "int"):=T.kb_int
def qlw{K:am}{mg:Za}{a:Ad}(T:Txt K mg a):eZ K "list" (gv "list"):=T.kb_list
def qit{K:am}{mg:Za}{a:Ad}(T:Txt K mg a):eZ K "tuple" (gv "tuple"):=T.kb_tuple
noncomputable def tk_NoWord:List Str:=["NoWord"]
def qip{K:am}{mg:Za}{a:Ad}(T:Txt K mg a):oA K (.ref a.c_NoWord) (λx=>tk_NoWord.contains x):=by
 refine qqp λx hx=>?_;unfold tk_NoWord at hx;simp only[List.mem_cons,List.not_mem_nil,or_false]at hx;rcases hx with rfl
 .exact⟨_,T.ns_NoWord,T.em_NoWord_NoWord,T.ek_NoWord⟩
noncomputable section
variable{P:Program}{w:World}{K:am}{mg:Za}{base:Heap}{a:Ad}
local macro_rules|`(tactic|walk_at "og")=>`(tactic|first|exact hW|exact qC|exact ug|exact Fb|exact Eg|exact xY|exact qvn|exact qvl|exact qvm|exact qui)
local macro_rules|`(tactic|walk_at "os")=>`(tactic|first|exact qb|exact g9|exact wU|exact quf|exact Fc)
local macro_rules|`(tactic|walk_at "cs")=>`(tactic|first|exact kC|exact xT|exact DR|exact DT)
local macro_rules|`(tactic|walk_at "m")=>`(tactic|repeat' (first|(with_reducible first|exact aE|exact jN|exact aR|apply aB|exact me_int|refine d8 (by walk_at "og") ?_ ?_|exact mq|apply fV|refine kF (by walk_at "os") ?_ ?_|apply mx|apply dy|exact dz|apply jO|apply gA|refine gT (by walk_at "cs") ?_|apply mr|exact kH|exact me_non|exact C0|apply ng|apply pe|apply uf|apply tT|apply Ee|apply wL|apply Ga|exact E6|apply E7|apply ue|apply iX|apply o8|apply iY|exact pk|apply ME.mb)|exact cJ|apply fV|decide))
section
open PySem.Spec PyProof.Rows
def gM{X:Cx}{elt zf:Expr}{scope:Scope}{pos xp:Pos}{x:Str}{N0 ps:Zj}{sc:Scope}{wi:TI}{te:TE}(_S:q0k N0 ps sc)(N:Zj)(js:Zg)(hi:PI X (.Name x xp) zf wi)(he:∀{s H C cl fp},PE (dk X N scope s H C cl fp) elt te)(hc:X.calm=true:=by rfl)(hsc:X.env.scope=sc:=by rfl)(hN0:X.N=N0:=by rfl)(ok:gy sc N0 N 1 js scope=true:=by decide+kernel)(hnd:N.Nodup:=by decide+kernel)(h0:N[0]? =some x:=by rfl)(hx:∀{s H C cl fp},jX (dk X N scope s H C cl fp).env.scope x:=by exact Or.inl rfl)(hf:∀{s H C cl fp},(dk X N scope s H C cl fp).fn x=true∨(dk X N scope s H C cl fp).env.scope.names.lookup x=some .local:=by first|exact .inl rfl|exact .inr rfl)(hs:∀x,foldedSetIterable zf X.env x=pure x:=by intro _;rfl):PE X (.ListComp elt [⟨.Name x xp,zf,[],0⟩] scope pos) (qq 1 js wi (gh 0) ip te):=qN hc hsc hN0 ok hi (λ_ _ _ _ _=>jS (i:=0) hnd h0 hx hf) (qY (by decide)) (λ_ _ _ _ _=>yZ) (λ_ _ _ _ _=>he) hs
def mJ{X:Cx}{elt zf:Expr}{scope:Scope}{pos xp py j6:Pos}{x y:Str}{N0 ps:Zj}{sc:Scope}{wi:TI}{te:TE}(k:Nat)(S:q0k N0 ps sc)(N:Zj)(js:Zg)(hi:PI X (.Name x xp) zf wi)(he:∀{s H C cl fp},PE (dk X N scope s H C cl fp) elt te)(hc:X.calm=true:=by rfl)(hsc:X.env.scope=sc:=by rfl)(hN0:X.N=N0:=by rfl)(ok:gy sc N0 N 1 js scope=true:=by decide+kernel)(hnd:N.Nodup:=by decide+kernel)(h0:N[0]? =some x:=by rfl)(hx:∀{s H C cl fp},jX (dk X N scope s H C cl fp).env.scope x:=by exact Or.inl rfl)(hf:∀{s H C cl fp},(dk X N scope s H C cl fp).fn x=true∨(dk X N scope s H C cl fp).env.scope.names.lookup x=some .local:=by first|exact .inl rfl|exact .inr rfl)(hk:X.N[k]? =some y:=by rfl)(hy:jX X.env.scope y:=by exact Or.inl rfl)(hsw:swapsWith (.ListComp elt [⟨.Name x xp,zf,[],0⟩] scope pos) (some (.Name y py)) j6.line X.env=pure true:=by rfl)(hs:∀x,foldedSetIterable zf X.env x=pure x:=by intro _;rfl)(hf2:X.fn y=true∨X.env.scope.names.lookup y=some .local:=by first|exact .inl rfl|exact .inr rfl):PS X (.Assign [.Name y py] (.ListComp elt [⟨.Name x xp,zf,[],0⟩] scope pos) j6) (tV k 1 js wi (gh 0) ip te):=Fl hc hsc hN0 ok (hN0▸S.nd) hk hy hi (λ_ _ _ _ _=>jS (i:=0) hnd h0 hx hf) (qY (by decide)) (λ_ _ _ _ _=>yZ) (λ_ _ _ _ _=>he) hsw hs hf2
end
def ox:aH:=
 (aF (ag cB (ae (.int 1)) (aa 0)))
def fy0:List D->Option D:=aM false 1 1 ox
def ny0:bV 1 fy0:=cJ
def qym(T:Txt K mg a):FnOk P w K mg base br 1 a.fy0 a.fdy0 ["reach"] (cj K false 1 fy0):=by
 exact cR T.Dy0.F qy9 λ_ _ _ _ _ _ hr=>⟨_,(aZ (bW (bP uk aD (pv 0)))),by unfold ox;exact(cn rfl (d8 xY me_int (aE (i:=0))) rfl)⟩
def ou:aH:=
 (aF (a9 fy0 (ak (ag bA (aa 0) (ae (.int 0))) af)))
def fy1:List D->Option D:=aM false 1 1 ou
def nX:bV 1 fy1:=cJ
def pX(T:Txt K mg a):FnOk P w K mg base br 2 a.fy1 a.fdy1 ["scheme"] (cj K false 1 fy1):=by
 exact cR T.Dy1.F qy8 λ_ _ _ _ _ _ hr=>⟨_,(aZ (bW (bI (qym T) hr.m T.Dy0 (aj (bq (bz (K:=K) rfl) (pv 0) aD) aw)))),by unfold ou;refine(cn rfl ?_ rfl)<;>walk_at "m"⟩
abbrev wx:=(aq (aA 2 (ag sG (aa 2) (ag oa (aa 1) (ae (.int 1))))) (aA 1 (ag lO (aa 1) (ae (.int 2)))))
abbrev vV:=(bB (ag Av (aa 1) (ae (.int 0))))
def oq:aH:=
 (aq (aA 1 (aa 0))
 (aq (aA 2 (ae (.int 0)))
 (aq (gU vV
   wx 1000)
 (aF (aa 2)))))
def fy2:List D->Option D:=aM false 1 3 oq
def ny2:bV 1 fy2:=cJ
def qyl(T:Txt K mg a):FnOk P w K mg base br 1 a.fy2 a.fdy2 ["number"] (cj K false 1 fy2):=by
 exact cR T.Dy2.F scy2 λ_ _ _ _ _ _ hr=>⟨_,(aX (bM 1 scy2.nd (pv 0)) (aX (bM 2 scy2.nd aD) (aX (Gj k7 (dE wQ (pv 1) aD (dj)) (aX (bM 2 scy2.nd (bP qug (pv 2) (bP xZ (pv 1) aD))) (aZ (bM 1 scy2.nd (bP yU (pv 1) aD))))) (aZ (bW (pv 2)))))),by unfold oq;refine(aY (O1:=[]) (cc ?_) (aY (O1:=[]) (cc ?_) (aY (O1:=[]) (Gb (O':=[]) ?_ rfl (aY (O1:=[]) (cc ?_) (cc ?_))) (cn rfl ?_ rfl))))<;>walk_at "m"⟩
abbrev pN:=(ak (ag oa (aa 1) (aa 0)) af)
abbrev vW:=(bn (ag bA (aa 0) (ae (.int 1))))
def oo:aH:=
 (aq (aA 3 (ag b8 (ag ml (ae (.int 2)) (aa 1)) (aa 2)))
 (aq (aA 4 (bc (ck 1 [3] none vW (ai 0) (ae true) (a9 fy2 pN))))
 (aF (bZ (ak (ag de (aa 3) (a9 fy1 (ak (aa 0) af))) (ak (aG mz (aa 4)) af))))))
def fy3:List D->Option D:=aM false 3 5 oo
def Bi:bV 3 fy3:=cJ
def C5(T:Txt K mg a):FnOk P w K mg base br 3 a.fy3 a.fdy3 ["scheme","room","bit"] (cj K false 3 fy3):=by
 exact cR T.Dy3.F scy3 λ_ _ _ _ _ _ hr=>⟨_,(aX (bM 3 scy3.nd (bP (fq (K:=K) rfl) (bP (pp (K:=K) rfl) aD (pv 1)) (pv 2))) (aX (mJ 4 scy3 ["tap","window"] [3] (fu (K:=K) rfl (bq (bz (K:=K) rfl) (pv 0) aD)) (bI (qyl T) hr.m T.Dy2 (aj (bP xZ (pv 1) (pv 0)) aw))) (aZ (bW (ie (aj (bP iK (pv 3) (bI (pX T) hr.m T.Dy1 (aj (pv 0) aw))) (aj (nh (rm (K:=K) rfl) (by rfl) T.z_tuple (by rfl) (aj (pv 4) aw)) aw))))))),by unfold oo;refine(aY (O1:=[]) (cc ?_) (aY (O1:=[]) (qK ?_ rfl (by decide)) (cn rfl (jO (aB (d8 ug (aE (i:=3)) (fV nX (aB (aE (i:=0)) aR))) (aB (pB qT (aE (i:=4))) aR))) rfl)))<;>walk_at "m"⟩
def om:aH:=
 (aq (aA 3 (ag bA (aa 0) (ae (.int 2))))
 (aq (aA 4 (ag bA (aa 3) (ag de (aa 1) (aG bU (aa 3)))))
 (aF (aG mz (bc (ck 2 [] none (gH (ak (aa 2) (ak (aa 4) af))) (fP 2 (db (ai 0) (db (ai 1) fT))) (bB (ag fQ (aa 1) (ae (.int 1)))) (aa 0)))))))
def fy4:List D->Option D:=aM false 3 5 om
def sv:bV 3 fy4:=cJ
def C9(T:Txt K mg a):FnOk P w K mg base br 1 a.fy4 a.fdy4 vQ (cj K false 3 fy4):=by
 exact cR T.Dy4.F scy4 λ_ _ _ _ _ _ hr=>⟨_,(aX (bM 3 scy4.nd (bq (bz (K:=K) rfl) (pv 0) aD)) (aX (bM 4 scy4.nd (bq (bz (K:=K) rfl) (pv 3) (bP iK (pv 1) (dh (fW (K:=K) rfl) (by rfl) T.z_len (by rfl) (aj (pv 3) aw))))) (aZ (bW (nh (rm (K:=K) rfl) (by rfl) T.z_tuple (by rfl) (aj (qN (sc:=aT lg) (N0:=BQ) rfl rfl rfl (show gy _ _ ["sign","chosen"] 2 [] _=true by decide+kernel) (yY (K:=K) rfl (by rfl) T.z_zip (aj (pv 2) (aj (pv 4) aw))) (λ_ _ _ _ _=>(qO (K:=K) rfl rfl (jQ (jS (i:=0) (show List.Nodup (["sign","chosen"]:Zj)from(by decide+kernel)) rfl (Or.inl rfl)) (jQ (jS (i:=1) (show List.Nodup (["sign","chosen"]:Zj)from(by decide+kernel)) rfl (Or.inl rfl)) qP)))) (Ge (by decide) (by decide)) (λ_ _ _ _ _=>(uF (dE (gp (K:=K) rfl hr.units) (pv 1) aD (dj)))) (λ_ _ _ _ _=>(pv 0))) aw)))))),by unfold om;refine(aY (O1:=[]) (cc ?_) (aY (O1:=[]) (cc ?_) (cn rfl (pB qT (dy (iX (bw:=none) (ue (aB (aE (i:=2)) (aB (aE (i:=4)) aR))) (o8 (iY (dz (i:=0)) (iY (dz (i:=1)) pk))) (mx (kF g9 (aE (i:=1)) me_int.mb)) (aE (i:=0))))) rfl)))<;>walk_at "m"⟩
abbrev wg:=(ag fQ (ag bA (aa 0) (ae (.int 3))) (ae (.str "ring")))
def ol:aH:=
 (aF wg)
def fy5:List D->Option D:=aM false 1 1 ol
def su:bV 1 fy5:=cJ
def wO(T:Txt K mg a):FnOk P w K mg base br 1 a.fy5 a.fdy5 ["scheme"] (cj K false 1 fy5):=by
 exact cR T.Dy5.F qy7 λ_ _ _ _ _ _ hr=>⟨_,(aZ (bW (Fj (gp (K:=K) rfl hr.units) (bq (bz (K:=K) rfl) (pv 0) aD) gP (dj)))),by unfold ol;refine(cn rfl ?_ rfl)<;>walk_at "m"⟩
abbrev Cq:=(lG (bB (a9 fy5 (ak (aa 0) af))) (bB (ag Au (aa 1) (ag bA (aa 0) (ae (.int 0))))))
def lS:aH:=
 (cU Cq
   (λ_=>none)
   bh)
def fy6:List D->Option D:=aM false 2 2 lS
def sr:bV 2 fy6:=cJ
def kZ:Xr:=
 (pL Cq fj
   (ux "NoWord" (ak (ae (.str "in a ring a word has at least as many bits as the reach")) af))
   fj)
def pZ:List D->Option Str:=eV 2 2 kZ
def qyo:oX 2 pZ:=ur
def qyk(T:Txt K mg a):FnOk P w K mg base (kX P w) 2 a.fy6 a.fdy6 ["scheme","size"] (dM K false 2 fy6 pZ):=by
 refine T.Dy6.F.okX qy6 (λvs H Q E h=>uP h) (λcdv A outer s H vs Q E hr h=>?_);refine⟨_,(aZ (gx (PW.pt (oF (mw (bI (wO T) hr.m T.Dy5 (aj (pv 0) aw))) (lX (dE wR (pv 1) (bq (bz (K:=K) rfl) (pv 0) aD) (dj))))) (aZ (qkt Bg rfl (by rfl) T.mg_NoWord T.ex_NoWord F.excBase_ValueError (aj gP aw))) gC)),?_⟩;exact uZ (O':=[]) (Nms:=["scheme","size"]) (f:=lS) (fx:=kZ) (by
  unfold lS;refine(gw ?_ qlg (gB rfl))<;>walk_at "m") (by
  unfold kZ;exact(qvv (Ee (pe (fV su (aB (aE (i:=0)) aR))) (mx (kF qb (aE (i:=1)) (d8 hW (aE (i:=0)) me_int).mb))) qvu (qer T.ns_NoWord (aB mq aR)).g pd)) h
abbrev pR:=(bB (ag fQ (ag bA (aa 0) (ae (.int 3))) (ae (.str "ended"))))
def oj:aH:=
 (aF (iP pR (ag bA (aa 0) (ae (.int 0))) (ae (.int 0))))
def fy7:List D->Option D:=aM false 1 1 oj
def ny7:bV 1 fy7:=cJ
def qyj(T:Txt K mg a):FnOk P w K mg base br 1 a.fy7 a.fdy7 ["scheme"] (cj K false 1 fy7):=by
 exact cR T.Dy7.F qy5 λ_ _ _ _ _ _ hr=>⟨_,(aZ (bW (iZ (dE (gp (K:=K) rfl hr.units) (bq (bz (K:=K) rfl) (pv 0) aD) gP (dj)) (bq (bz (K:=K) rfl) (pv 0) aD) aD))),by unfold oj;refine(cn rfl ?_ rfl)<;>walk_at "m"⟩
def lQ:aH:=
 (mh (lE (bB (a9 fy5 (ak (aa 0) af))) (jI io (a9 fy1 (ak (aa 0) af))) (aV (ak (ae (.int 0)) af))))
def fy8:List D->Option D:=aM true 1 1 lQ
def Bh:bV 1 fy8:=cJ
def qyi(T:Txt K mg a):FnOk P w K mg base br 3 a.fy8 a.fdy8 ["scheme"] (cj K true 1 fy8):=by
 exact cR T.Dy8.F qy4 λ_ _ _ _ _ _ hr=>⟨_,(aZ (bW (iZ (mw (bI (wO T) hr.m T.Dy5 (aj (pv 0) aw))) (qpo rfl (by rfl) T.z_list (by rfl) T.z_range (bI (pX T) hr.m T.Dy1 (aj (pv 0) aw))) (eE (aj aD aw))))),by unfold lQ;exact(yT rfl (qz7 (pe (fV su (aB (aE (i:=0)) aR))) (qqe (fV nX (aB (aE (i:=0)) aR))) (gA (aB me_int aR))) rfl)⟩
abbrev Ca:=(mj (a9 fy6 (ak (aa 0) (ak (aa 1) af))))
def lP:aH:=
 (aq Ca
 (aF (ag b8 (aa 1) (a9 fy7 (ak (aa 0) af)))))
def fy9:List D->Option D:=aM false 2 2 lP
def lC:bV 2 fy9:=cJ
def kY:Xr:=
 (fY Ca (mV pZ (ak (aa 0) (ak (aa 1) af)) fj)
 fj)
def p0:List D->Option Str:=eV 2 2 kY
def qyn:oX 2 p0:=ur
def Da(T:Txt K mg a):FnOk P w K mg base (kX P w) 3 a.fy9 a.fdy9 ["scheme","size"] (dM K false 2 fy9 p0):=by
 have Gy6:=@qyk P w K mg base a T;refine T.Dy9.F.okX qy3 (λvs H Q E h=>uP h) (λcdv A outer s H vs Q E hr h=>?_);refine⟨_,(aX (kN (i5 Gy6 hr.m (by rfl) T.Dy6.m T.Dy6.F.kp T.Dy6.B .nil wV (aj (pv 0) (aj (pv 1) aw)))) (aZ (bW (bP (fq (K:=K) rfl) (pv 1) (bI (qyj T) hr.m T.Dy7 (aj (pv 0) aw)))))),?_⟩;exact uZ (O':=[]) (Nms:=["scheme","size"]) (f:=lP) (fx:=kY) (by
  unfold lP;refine(aY (O1:=[]) (uC (m5 sr (aB (aE (i:=0)) (aB (aE (i:=1)) aR))) rfl) (cn rfl ?_ rfl))<;>walk_at "m") (by
  unfold kY;exact(qM (O1:=[]) (uC (m5 sr (aB (aE (i:=0)) (aB (aE (i:=1)) aR))) rfl) (GT (uD qyo (aB (aE (i:=0)) (aB (aE (i:=1)) aR)) o7)).g
  pd)) h
abbrev Cr:=(aA 2 (ag bA (a9 fy3 (ak (aa 0) (ak (ae (.int 0)) (ak (ae (.int 0)) af)))) (ae (.int 1))))
abbrev wd:=(a9 fy9 (ak (aa 0) (ak (aa 1) af)))
abbrev tz:=(aG bU (a9 fy4 (ak (aa 0) (ak (aa 4) (ak (aa 2) af)))))
abbrev Cj:=(iw 3 (dc (aV (ak (aa 4) af)) tz))
abbrev BO:=(bS (fU (ak wd af)) (ai 4) Cj)
def tJ:aH:=
 (aq Cr
 (aq (cE 3 (aV af))
 (aq BO
 (mT 3))))
def fya:List D->Option D:=aM true 2 5 tJ
def qa:bV 2 fya:=cJ
def tW:Xr:=
 (fY Cr fj
 (fY (cE 3 (aV af)) fj
 (fY BO (mi wd (mV p0 (ak (aa 0) (ak (aa 1) af)) fj) fj)
 fj)))
def o5:List D->Option Str:=eV 2 5 tW
def qvp:oX 2 o5:=ur
def ui(T:Txt K mg a):FnOk P w K mg base (kX P w) 4 a.fya a.fdya ["scheme","size"] (dM K true 2 fya o5):=by
 have Gy9:=@Da P w K mg base a T;refine T.Dya.F.okX scya (λvs H Q E h=>uP h) (λcdv A outer s H vs Q E hr h=>?_);refine⟨_,(aX (bM 2 scya.nd (bq (bz (K:=K) rfl) (bI (C5 T) hr.m T.Dy3 (aj (pv 0) (aj aD (aj aD aw)))) aD)) (aX (bM 3 scya.nd (eE aw)) (aX (PS.or (PS.nox (iL k7 rfl (iN (by rfl) T.z_range (aj (i5 Gy9 hr.m (by rfl) T.Dy9.m T.Dy9.F.kp T.Dy9.B .nil qd (aj (pv 0) (aj (pv 1) aw))) aw)) (gg 4 scya.nd) (aZ (kN (mQ F.plainAttrs_list F.slot_list_extend F.type_list_extend qi7 (pv 3) (aj (bP qD (eE (aj (pv 4) aw)) (dh (fW (K:=K) rfl) (by rfl) T.z_len (by rfl) (aj (bI (C9 T) hr.m T.Dy4 (aj (pv 0) (aj (pv 4) (aj (pv 2) aw)))) aw))) aw)))))) (qph (iN (by rfl) T.z_range (aj (i5 Gy9 hr.m (by rfl) T.Dy9.m T.Dy9.F.kp T.Dy9.B .nil wV (aj (pv 0) (aj (pv 1) aw))) aw)))) (aZ (bW (pv 3)))))),?_⟩;exact uZ (O':=[]) (Nms:=BY) (f:=tJ) (fx:=tW) (by
  unfold tJ;refine(aY (O1:=[]) (cc ?_) (aY (O1:=[3]) (kG ?_ rfl) (aY (O1:=[3]) (Ed (iJ (O':=[3]) (ng (aB (m5 lC (aB (aE (i:=0)) (aB (aE (i:=1)) aR))) aR)) rfl (dz (i:=4)) (Ec (by decide) (o9 (gA (aB (aE (i:=4)) aR)) (gT kC (fV sv (aB (aE (i:=0)) (aB (aE (i:=4)) (aB (aE (i:=2)) aR)))).mb)) rfl))) (E8 rfl (by first|decide|simp) rfl (by first|decide|simp)))))<;>walk_at "m") (by
  unfold tW;exact(qM (O1:=[]) (cc (d8 hW (fV Bi (aB (aE (i:=0)) (aB me_int (aB me_int aR)))) me_int)) pd (qM (O1:=[3]) (kG (gA aR) rfl) pd (qM (O1:=[3]) (Ed (iJ (O':=[3]) (ng (aB (m5 lC (aB (aE (i:=0)) (aB (aE (i:=1)) aR))) aR)) rfl (dz (i:=4)) (Ec (by decide) (o9 (gA (aB (aE (i:=4)) aR)) (gT kC (fV sv (aB (aE (i:=0)) (aB (aE (i:=4)) (aB (aE (i:=2)) aR)))).mb)) rfl))) (qle (qlj (gc (m5 lC (aB (aE (i:=0)) (aB (aE (i:=1)) aR))) (uD qyn (aB (aE (i:=0)) (aB (aE (i:=1)) aR)) o7) o7)))
  pd)))) h
def qvi(T:Txt K mg a):FnOk P w K mg base br 1 a.fyb a.fdyb ["self","bit"] (yG a.c_Clear ["bit"]):=by
 refine T.Fyb.ok qtj (λvs H Q E h=>?_) (λcdv A outer s H vs Q E hr h=>?_)
 .obtain⟨x,dx,args,rfl,hl,_⟩:=h;exact congrArg Nat.succ hl
 .obtain⟨x,dx,args,rfl,hl,hx,k⟩:=h
  match args,hl,k with
  | [b0],_,k=>
   refine⟨_,(aZ (yb (pv 0) (pv 1) rfl)),?_⟩;refine⟨_,rfl,_,rfl,x,_,dx,_,rfl,hx,T.cl_Clear,T.no_Clear_bit,(by show 0<1000;decide),?_⟩;exact k
def wY:aH:=
 (aF (iP (bB (ag fQ (aa 1) (iA "Clear" "bit" (aa 0)))) (ae (.int 0)) (ae (.int 1))))
def fyd:List D->Option D:=aM false 2 2 wY
def qz1:bV 2 fyd:=cJ
def qvh(T:Txt K mg a):FnOk P w K mg base br 1 a.fyd a.fdyd ["self","bit"] (cj K false 2 fyd):=by
 exact cR T.Fyd qti λ_ _ _ _ _ _ hr=>⟨_,(aZ (bW (iZ (dE (gp (K:=K) rfl hr.units) (pv 1) (yW (K:=K) rfl (pv 0) rfl) (dj)) aD aD))),by unfold wY;exact(cn rfl (wL (mx (kF g9 (aE (i:=1)) (xW T.ns_Clear T.cl_Clear T.no_Clear_bit (aE (i:=0))).mb)) me_int me_int) rfl)⟩
def wZ:aH:=
 (aF (ae (.int 0)))
def fyf:List D->Option D:=aM false 2 2 wZ
def qz0:bV 2 fyf:=cJ
def qvg(T:Txt K mg a):FnOk P w K mg base br 1 a.fyf a.fdyf ["self","bit"] (cj K false 2 fyf):=by
 exact cR T.Fyf qth λ_ _ _ _ _ _ hr=>⟨_,(aZ (bW aD)),by unfold wZ;exact(cn rfl me_int rfl)⟩
def qvf(T:Txt K mg a):FnOk P w K mg base br 1 a.fyg a.fdyg ["self","zero","one"] (yG a.c_Soft ["zero","one"]):=by
 refine T.Fyg.ok qtg (λvs H Q E h=>?_) (λcdv A outer s H vs Q E hr h=>?_)
 .obtain⟨x,dx,args,rfl,hl,_⟩:=h;exact congrArg Nat.succ hl
 .obtain⟨x,dx,args,rfl,hl,hx,k⟩:=h
  match args,hl,k with
  | [b0,b1],_,k=>
   refine⟨_,(aX (yb (pv 0) (pv 1) rfl) (aZ (yb (pv 0) (pv 2) rfl))),?_⟩;refine⟨_,rfl,_,rfl,x,_,dx,_,rfl,hx,T.cl_Soft,T.no_Soft_zero,(by show 0<1000;decide),?_⟩;refine⟨_,rfl,_,rfl,x,_,dx,_,rfl,cr,T.cl_Soft,T.no_Soft_one,(by show 1<1000;decide),?_⟩;rw[Fv];have e:(cT "one" b1 (cT "zero" b0 []))=([("zero",b0),("one",b1)]:List (Str×V)):=by
    have hne:¬(("zero":Str)="one"):=by decide+kernel
    simp[cT,hne]
   rw[e];exact k
def xA:aH:=
 (aF (iP (bB (ag fQ (aa 1) (ae (.int 1)))) (iA "Soft" "one" (aa 0)) (iA "Soft" "zero" (aa 0))))
def fyi:List D->Option D:=aM false 2 2 xA
def qyz:bV 2 fyi:=cJ
def qve(T:Txt K mg a):FnOk P w K mg base br 1 a.fyi a.fdyi ["self","bit"] (cj K false 2 fyi):=by
 exact cR T.Fyi qtf λ_ _ _ _ _ _ hr=>⟨_,(aZ (bW (iZ (dE (gp (K:=K) rfl hr.units) (pv 1) aD (dj)) (yW (K:=K) rfl (pv 0) rfl) (yW (K:=K) rfl (pv 0) rfl)))),by unfold xA;exact(cn rfl (wL (mx (kF g9 (aE (i:=1)) me_int.mb)) (xW T.ns_Soft T.cl_Soft T.no_Soft_one (aE (i:=0))) (xW T.ns_Soft T.cl_Soft T.no_Soft_zero (aE (i:=0)))) rfl)⟩
abbrev B1:=(ak (ag bA (aa 0) (ae (.int 1))) af)
def xB:aH:=
 (aq (cU (bB (ag fQ (ag bA (aa 0) (ae (.int 0))) (ae (.str "clear"))))
   (aF (p8 "Clear" ["bit"] B1))
   bh)
 (aq (cU (bB (ag fQ (ag bA (aa 0) (ae (.int 0))) (ae (.str "gap"))))
   (aF (xV "Gap"))
   bh)
 (aF (p8 "Soft" ["zero","one"] (ak (ag bA (aa 0) (ae (.int 1))) (ak (ag bA (aa 0) (ae (.int 2))) af))))))
def fyj:List D->Option D:=aM false 1 1 xB
def qyy:bV 1 fyj:=cJ
def qvd(T:Txt K mg a):FnOk P w K mg base br 3 a.fyj a.fdyj ["told"] (cj K false 1 fyj):=by
 have Gyb:=@qvi P w K mg base a T;have Gyg:=@qvf P w K mg base a T;exact cR T.Dyj.F qte λ_ _ _ _ _ _ hr=>⟨_,(aX (gx (dE (gp (K:=K) rfl hr.units) (bq (bz (K:=K) rfl) (pv 0) aD) gP (dj)) (aZ (bW (Fk T.mk_Clear Gyb hr.m (by rfl) T.mg_Clear T.Byb .nil mI (aj (bq (bz (K:=K) rfl) (pv 0) aD) aw)))) gC) (aX (gx (dE (gp (K:=K) rfl hr.units) (bq (bz (K:=K) rfl) (pv 0) aD) gP (dj)) (aZ (bW (qky T.mk_Gap (by rfl) T.mg_Gap))) gC) (aZ (bW (Fk T.mk_Soft Gyg hr.m (by rfl) T.mg_Soft T.Byg .nil mI (aj (bq (bz (K:=K) rfl) (pv 0) aD) (aj (bq (bz (K:=K) rfl) (pv 0) aD) aw))))))),by unfold xB;refine(aY (O1:=[]) (gw ?_ (cn rfl (E5 T.ns_Clear (aB (d8 hW (aE (i:=0)) me_int) aR)) rfl) (gB rfl)) (aY (O1:=[]) (gw ?_ (cn rfl (qlm T.ns_Gap) rfl) (gB rfl)) (cn rfl (E5 T.ns_Soft (aB (d8 hW (aE (i:=0)) me_int) (aB (d8 hW (aE (i:=0)) me_int) aR))) rfl)))<;>walk_at "m"⟩
abbrev l5:=(bc (kT fya (ak (aa 0) (ak (aa 1) af))))
def xC:aH:=
 (aq (aA 3 l5)
 (cU (bB (ag gq (aG bU (aa 2)) (aG bU (aa 3))))
   (λ_=>none)
   bh))
def fyk:List D->Option D:=aM false 3 4 xC
def z01:bV 3 fyk:=cJ
def qvc(T:Txt K mg a):FnOk P w K mg base br 5 a.fyk a.fdyk jF (cj K false 3 fyk):=by
 have Gya:=@ui P w K mg base a T;exact cR T.Dyk.F scyk λ_ _ _ _ _ _ hr=>⟨_,(aX (bM 3 scyk.nd (i5 Gya hr.m (by rfl) T.Dya.m T.Dya.F.kp T.Dya.B .nil qd (aj (pv 0) (aj (pv 1) aw)))) (aZ (gx (dE (uj (K:=K) rfl hr.units) (dh (fW (K:=K) rfl) (by rfl) T.z_len (by rfl) (aj (pv 2) aw)) (dh (fW (K:=K) rfl) (by rfl) T.z_len (by rfl) (aj (pv 3) aw)) (dj)) (aZ qku) gC))),by unfold xC;refine(aY (O1:=[]) (cc (dy (qX qa (aB (aE (i:=0)) (aB (aE (i:=1)) aR))))) (gw ?_ qlh (gB rfl)))<;>walk_at "m"⟩
abbrev tD:=(iy (pr "Clear" "cost" fyd (aa 0) (ak (aa 1) af)) (iy (pr "Gap" "cost" fyf (aa 0) (ak (aa 1) af)) (pr "Soft" "cost" fyi (aa 0) (ak (aa 1) af))))
def xD:aH:=
 (aF (aG eI (bc (ck 2 [] none (gH (ak (aa 0) (ak (aa 1) af))) (fP 2 (db (ai 0) (db (ai 1) fT))) (ae true) tD))))
def fyl:List D->Option D:=aM false 2 2 xD
def z00:bV 2 fyl:=cJ
def qvb(T:Txt K mg a):FnOk P w K mg base br 2 a.fyl a.fdyl ["signs","bits"] (cj K false 2 fyl):=by
 have Gyi:=@qve P w K mg base a T;have Gyf:=@qvg P w K mg base a T;have Gyd:=@qvh P w K mg base a T;exact cR T.Dyl.F qtd λ_ _ _ _ _ _ hr=>⟨_,(aZ (bW (dh (FG (K:=K) rfl rfl) (by rfl) T.z_sum (by rfl) (aj (qN (sc:=aT t6) (N0:=["signs","bits"]) rfl rfl rfl (show gy _ _ ["sign","bit"] 2 [] _=true by decide+kernel) (yY (K:=K) rfl (by rfl) T.z_zip (aj (pv 0) (aj (pv 1) aw))) (λ_ _ _ _ _=>(qO (K:=K) rfl rfl (jQ (jS (i:=0) (show List.Nodup (["sign","bit"]:Zj)from(by decide+kernel)) rfl (Or.inl rfl)) (jQ (jS (i:=1) (show List.Nodup (["sign","bit"]:Zj)from(by decide+kernel)) rfl (Or.inl rfl)) qP)))) (Ge (by decide) (by decide)) (λ_ _ _ _ _=>yZ) (λ_ _ _ _ _=>(PE.or (yX (pv 0) T.cl_Clear T.myd Gyd hr.m T.Byd .nil mI (aj (pv 1) aw)) (PE.or (yX (pv 0) T.cl_Gap T.myf Gyf hr.m T.Byf .nil mI (aj (pv 1) aw)) (yX (pv 0) T.cl_Soft T.myi Gyi hr.m T.Byi .nil mI (aj (pv 1) aw)))))) aw)))),by unfold xD;exact(cn rfl (gT xT (dy (iX (bw:=none) (ue (aB (aE (i:=0)) (aB (aE (i:=1)) aR))) (o8 (iY (dz (i:=0)) (iY (dz (i:=1)) pk))) kH (Ea (yS T.ns_Clear qz1 (aE (i:=0)) (aB (aE (i:=1)) aR)) (Ea (yS T.ns_Gap qz0 (aE (i:=0)) (aB (aE (i:=1)) aR)) (yS T.ns_Soft qyz (aE (i:=0)) (aB (aE (i:=1)) aR)))))).mb) rfl)⟩
def oO:Fd:=
 (ub 3 (fP 2 (db (ai 4) (db (ai 5) fT))) (gH (ak l5 (ak (aa 2) af)))
   (pA 3 (aa 4) (ak (a9 fyj (ak (aa 5) af)) af)))
def oS:aS:=(fU (ak wd af))
def qx:List D->Option (List (List D)):=mR 3 6 3 oS oO
def fym:List D->Option D:=λds=>oP (qx ds)
def qyx:bV 3 fym:=qpe
def qq4(T:Txt K mg a):FnOk P w K mg base br 5 a.fym a.fdym jF (wG K 3 qx):=by
 have Gy9:=@Da P w K mg base a T;have Gya:=@ui P w K mg base a T;refine T.Dym.F.ok scym (λvs H Q E h=>h.1) (λcdv A outer s H vs Q E hr h=>?_);refine⟨_,(aX (mJ 3 scym ["number"] [] (iN (by rfl) T.z_range (aj (i5 Gy9 hr.m (by rfl) T.Dy9.m T.Dy9.F.kp T.Dy9.B .nil qd (aj (pv 0) (aj (pv 1) aw))) aw)) (eE aw)) (aX (iL k7 rfl (yY (K:=K) rfl (by rfl) T.z_zip (aj (i5 Gya hr.m (by rfl) T.Dya.m T.Dya.F.kp T.Dya.B .nil qd (aj (pv 0) (aj (pv 1) aw))) (aj (pv 2) aw))) (qO (K:=K) rfl rfl (jQ (gg 4 scym.nd) (jQ (gg 5 scym.nd) qP))) (aZ (kN (mQ F.plainAttrs_list F.slot_list_append F.type_list_append pE (bq (bz (K:=K) rfl) (pv 3) (pv 4)) (aj (bI (qvd T) hr.m T.Dyj (aj (pv 5) aw)) aw))))) (aZ (bW (pv 3))))),?_⟩;exact qg4 (Nms:=B8) (i:=3) (m:=1) (js:=[]) (fi:=oS) (f:=oO) (by
  unfold oS;exact(ng (aB (m5 lC (aB (aE (i:=0)) (aB (aE (i:=1)) aR))) aR))) (by
  unfold oO;exact(qlf (ue (aB (dy (qX qa (aB (aE (i:=0)) (aB (aE (i:=1)) aR)))) (aB (aE (i:=2)) aR))) (o8 (iY (dz (i:=4)) (iY (dz (i:=5)) pk))) (by decide) (qes (aE (i:=4)) (aB (fV qyy (aB (aE (i:=5)) aR)) aR)))) h
def qva(T:Txt K mg a):FnOk P w K mg base br 5 a.fym a.fdym jF (cj K false 3 fym):=(qq4 T).imp λ_ _ _ _ h=>qy1 h
def xE:aH:=
 (aq (aA 5 (a9 fy3 (ak (aa 0) (ak (aa 3) (ak (aa 4) af)))))
 (aF (bZ (ak (ag bA (aa 5) (ae (.int 0))) (ak (a9 fyl (ak (aa 2) (ak (a9 fy4 (ak (aa 0) (ak (aa 1) (ak (ag bA (aa 5) (ae (.int 1))) af)))) af))) af)))))
def fyn:List D->Option D:=aM false 5 6 xE
def qzz:bV 5 fyn:=cJ
def qv9(T:Txt K mg a):FnOk P w K mg base br 4 a.fyn a.fdyn vT (cj K false 5 fyn):=by
 exact cR T.Dyn.F scyn λ_ _ _ _ _ _ hr=>⟨_,(aX (bM 5 scyn.nd (bI (C5 T) hr.m T.Dy3 (aj (pv 0) (aj (pv 3) (aj (pv 4) aw))))) (aZ (bW (ie (aj (bq (bz (K:=K) rfl) (pv 5) aD) (aj (bI (qvb T) hr.m T.Dyl (aj (pv 2) (aj (bI (C9 T) hr.m T.Dy4 (aj (pv 0) (aj (pv 1) (aj (bq (bz (K:=K) rfl) (pv 5) aD) aw)))) aw))) aw)))))),by unfold xE;refine(aY (O1:=[]) (cc ?_) (cn rfl ?_ rfl))<;>walk_at "m"⟩
abbrev tx:=(ak (aa 1) (ak (aa 2) (ak (aa 3) (ak (aa 4) (ak (aa 0) af)))))
def xF:aH:=
 (aF (bc (ck 1 [0,1,2,3] none (bn (aa 4)) (ai 0) (ae true) (a9 fyn tx))))
def fyo:List D->Option D:=aM false 5 5 xF
def qzy:bV 5 fyo:=cJ
def qv8(T:Txt K mg a):FnOk P w K mg base br 5 a.fyo a.fdyo tu (cj K false 5 fyo):=by
 exact cR T.Dyo.F Ex λ_ _ _ _ _ _ hr=>⟨_,(aZ (bW (gM Ex ["bit","scheme","number","signs","room"] [0,1,2,3] (fu (K:=K) rfl (pv 4)) (bI (qv9 T) hr.m T.Dyn (aj (pv 1) (aj (pv 2) (aj (pv 3) (aj (pv 4) (aj (pv 0) aw))))))))),by unfold xF;refine(cn rfl ?_ rfl)<;>walk_at "m"⟩
abbrev B4:=(fU (ak (a9 fy1 (ak (aa 0) af)) af))
abbrev Ci:=(ak (aa 1) (ak (aa 2) (ak (aa 3) (ak (aa 0) (ak (aa 4) af)))))
abbrev Cm:=(aA 6 (iP (bB (ag Au (aa 4) (aa 1))) (bZ (ak (ae (.int 0)) (ak (ae (.int 1)) af))) (bZ (ak (ae (.int 0)) af))))
abbrev CG:=(aq Cm (dN i4 3 (ak (bc (ck 1 [0,4,5,6] none B4 (ai 0) (ae true) (a9 fyo Ci))) af)))
abbrev gN:=(ak (aa 0) (ak (aa 1) (ak (aa 2) af)))
def xG:aH:=
 (aq (mj (a9 fyk gN))
 (aq (cE 3 (aV af))
 (aq (bS (p7 (a9 fym gN)) (fP 2 (db (ai 4) (db (ai 5) fT)))
   CG)
 (aF (aa 3)))))
def fyp:List D->Option D:=aM false 3 7 xG
def qzx:bV 3 fyp:=cJ
def qv7(T:Txt K mg a):FnOk P w K mg base br 6 a.fyp a.fdyp jF (cj K false 3 fyp):=by
 exact cR T.Dyp.F scyp λ_ _ _ _ _ _ hr=>⟨_,(aX (kN (bI (qvc T) hr.m T.Dyk (aj (pv 0) (aj (pv 1) (aj (pv 2) aw))))) (aX (bM 3 scyp.nd (eE aw)) (aX (iL k7 rfl (qpl (K:=K) rfl (by rfl) T.z_enumerate (bI (qva T) hr.m T.Dym (aj (pv 0) (aj (pv 1) (aj (pv 2) aw))))) (qO (K:=K) rfl rfl (jQ (gg 4 scyp.nd) (jQ (gg 5 scyp.nd) qP))) (aX (bM 6 scyp.nd (iZ (dE wR (pv 4) (pv 1) (dj)) (ie (aj aD (aj aD aw))) (ie (aj aD aw)))) (aZ (kN (mQ F.plainAttrs_list F.slot_list_append F.type_list_append pE (pv 3) (aj (gM scyp ["room","scheme","number","signs","bits"] [0,4,5,6] (iN (by rfl) T.z_range (aj (bI (pX T) hr.m T.Dy1 (aj (pv 0) aw)) aw)) (bI (qv8 T) hr.m T.Dyo (aj (pv 1) (aj (pv 2) (aj (pv 3) (aj (pv 0) (aj (pv 4) aw))))))) aw)))))) (aZ (bW (pv 3)))))),by unfold xG;refine(aY (O1:=[]) (uC ?_ rfl) (aY (O1:=[3]) (kG ?_ rfl) (aY (O1:=[]) (qL (iJ (O':=[3]) (qqh (fV qyx (aB (aE (i:=0)) (aB (aE (i:=1)) (aB (aE (i:=2)) aR))))) rfl (o8 (iY (dz (i:=4)) (iY (dz (i:=5)) pk))) (aY (O1:=[3]) (cc ?_) (qB rd (by decide) ?_ rfl))) rfl) (cn rfl ?_ rfl))))<;>walk_at "m"⟩
abbrev wq:=B4
abbrev tw:=(iP (bB (ag fQ (aa 0) (aa 1))) (ae (.int 0)) (ae .non))
abbrev Cg:=(bB (ag fQ (ag bA (aa 0) (ae (.int 3))) (ae (.str "open"))))
abbrev Ch:=(aA 2 (iP (bB (a9 fy5 (ak (aa 0) af))) (aa 1) (ae (.int 0))))
def xH:aH:=
 (aq (cU Cg
   (aF (bc (dc (aV (ak (ae (.int 0)) af)) (a9 fy1 (ak (aa 0) af)))))
   bh)
 (aq Ch
 (aF (bc (ck 1 [2] none wq (ai 0) (ae true) tw)))))
def fyq:List D->Option D:=aM false 2 3 xH
def qzw:bV 2 fyq:=cJ
def qv6(T:Txt K mg a):FnOk P w K mg base br 3 a.fyq a.fdyq ["scheme","start"] (cj K false 2 fyq):=by
 exact cR T.Dyq.F scyq λ_ _ _ _ _ _ hr=>⟨_,(aX (gx (dE (gp (K:=K) rfl hr.units) (bq (bz (K:=K) rfl) (pv 0) aD) gP (dj)) (aZ (bW (bP qD (eE (aj aD aw)) (bI (pX T) hr.m T.Dy1 (aj (pv 0) aw))))) gC) (aX (bM 2 scyq.nd (iZ (mw (bI (wO T) hr.m T.Dy5 (aj (pv 0) aw))) (pv 1) aD)) (aZ (bW (gM scyq ["room","end"] [2] (iN (by rfl) T.z_range (aj (bI (pX T) hr.m T.Dy1 (aj (pv 0) aw)) aw)) (iZ (dE (gp (K:=K) rfl hr.units) (pv 0) (pv 1) (dj)) aD iW)))))),by unfold xH;refine(aY (O1:=[]) (gw ?_ (cn rfl (dy (o9 (gA (aB me_int aR)) (fV nX (aB (aE (i:=0)) aR)))) rfl) (gB rfl)) (aY (O1:=[]) (cc ?_) (cn rfl ?_ rfl)))<;>walk_at "m"⟩
def tY:aH:=
 (aq (aA 2 (ag bA (aa 1) (ag bA (aa 0) (ae (.int 0)))))
 (aF (iP (bB (ag i9 (aa 2) (ae .non))) (ae .non) (ag b8 (ag bA (aa 0) (ae (.int 1))) (aa 2)))))
def fyr:List D->Option D:=aM false 2 3 tY
def qzv:bV 2 fyr:=cJ
def qv5(T:Txt K mg a):FnOk P w K mg base br 1 a.fyr a.fdyr ["taken","behind"] (cj K false 2 fyr):=by
 exact cR T.Dyr.F scyr λ_ _ _ _ _ _ hr=>⟨_,(aX (bM 2 scyr.nd (bq (bz (K:=K) rfl) (pv 1) (bq (bz (K:=K) rfl) (pv 0) aD))) (aZ (bW (iZ (dE Ek (pv 2) iW (dj)) iW (bP (fq (K:=K) rfl) (bq (bz (K:=K) rfl) (pv 0) aD) (pv 2)))))),by unfold tY;refine(aY (O1:=[]) (cc ?_) (cn rfl ?_ rfl))<;>walk_at "m"⟩
def xI:aH:=
 (aq (aA 2 (bc (ck 1 [1] none (bn (aa 0)) (ai 0) (ae true) (a9 fyr (ak (aa 0) (ak (aa 1) af))))))
 (aF (aG oQ (bc (ck 1 [] none (bn (aa 2)) (ai 0) (bB (ag iU (aa 0) (ae .non))) (aa 0))))))
def fys:List D->Option D:=aM false 2 3 xI
def qzu:bV 2 fys:=cJ
def qv4(T:Txt K mg a):FnOk P w K mg base br 2 a.fys a.fdys ["choices","behind"] (cj K false 2 fys):=by
 exact cR T.Dys.F Ey λ_ _ _ _ _ _ hr=>⟨_,(aX (mJ 2 Ey ["taken","behind"] [1] (fu (K:=K) rfl (pv 0)) (bI (qv5 T) hr.m T.Dyr (aj (pv 0) (aj (pv 1) aw)))) (aZ (bW (qpn (K:=K) rfl rfl (by rfl) T.z_min (qN (sc:=aT t7) (N0:=["choices","behind","found"]) rfl rfl rfl (show gy _ _ ["one"] 1 [] _=true by decide+kernel) (fu (K:=K) rfl (pv 2)) (λ_ _ _ _ _=>(jS (i:=0) (show List.Nodup (["one"]:Zj)from(by decide+kernel)) rfl (Or.inl rfl))) (qY (by decide)) (λ_ _ _ _ _=>(uF (dE yV (pv 0) iW (dj)))) (λ_ _ _ _ _=>(pv 0))) iW)))),by unfold xI;refine(aY (O1:=[]) (qK ?_ rfl (by decide)) (cn rfl (qqi (dy (iX (bw:=none) (mr (aE (i:=2))) (dz (i:=0)) (mx (kF Fc (aE (i:=0)) me_non.mb)) (aE (i:=0)))).mb) rfl))<;>walk_at "m"⟩
abbrev B0:=(aA 4 (iz 2 (aG lN (ae (.int 1)))))
abbrev Cz:=(aq B0 (dN i4 2 (ak (bc (ck 1 [4] none (bn (aa 3)) (ai 0) (ae true) (a9 fys (ak (aa 0) (ak (aa 1) af))))) af)))
def xJ:aH:=
 (aq (cE 2 (aV (ak (aa 1) af)))
 (aq (bS (f6 (aa 0)) (ai 3)
   Cz)
 (aF (bc (f6 (aa 2))))))
def fyt:List D->Option D:=aM false 2 5 xJ
def qzt:bV 2 fyt:=cJ
def qv3(T:Txt K mg a):FnOk P w K mg base br 3 a.fyt a.fdyt ["steps","ends"] (cj K false 2 fyt):=by
 exact cR T.Dyt.F scyt λ_ _ _ _ _ _ hr=>⟨_,(aX (bM 2 scyt.nd (eE (aj (pv 1) aw))) (aX (iL k7 rfl (qu6 (K:=K) rfl (by rfl) T.z_reversed (pv 0)) (gg 3 scyt.nd) (aX (bM 4 scyt.nd (bq (bz (K:=K) rfl) (pv 2) (qyc qsm aD))) (aZ (kN (mQ F.plainAttrs_list F.slot_list_append F.type_list_append pE (pv 2) (aj (gM scyt ["choices","behind"] [4] (fu (K:=K) rfl (pv 3)) (bI (qv4 T) hr.m T.Dys (aj (pv 0) (aj (pv 1) aw)))) aw)))))) (aZ (bW (qpp (K:=K) rfl rfl (by rfl) T.z_list (by rfl) T.z_reversed (pv 2)))))),by unfold xJ;refine(aY (O1:=[2]) (kG ?_ rfl) (aY (O1:=[]) (qL (iJ (O':=[2]) (qw1 (aE (i:=0))) rfl (dz (i:=3)) (aY (O1:=[2]) (cc (xX (i:=2) (by decide) (qw5 me_int))) (qB rd (by decide) ?_ rfl))) rfl) (cn rfl (dy (qqf (aE (i:=2)))) rfl)))<;>walk_at "m"⟩
abbrev wv:=(qw 2 (a9 fyt (ak (aa 1) (ak (a9 fyq (ak (aa 0) (ak (aa 3) af))) af))) (aa 3))
abbrev BW:=(bn (bc (kT fy8 (ak (aa 0) af))))
def xK:aH:=
 (aq (mS 2)
 (aq (bS BW (ai 3)
   wv)
 (aF (aa 2))))
def fyu:List D->Option D:=aM false 2 4 xK
def qzs:bV 2 fyu:=cJ
def qv1(T:Txt K mg a):FnOk P w K mg base br 4 a.fyu a.fdyu ["scheme","steps"] (cj K false 2 fyu):=by
 exact cR T.Dyu.F scyu λ_ _ _ _ _ _ hr=>⟨_,(aX (bM 2 scyu.nd qpm) (aX (iL k7 rfl (fu (K:=K) rfl (bI (qyi T) hr.m T.Dy8 (aj (pv 0) aw))) (gg 3 scyu.nd) (aZ (ya (bI (qv3 T) hr.m T.Dyt (aj (pv 1) (aj (bI (qv6 T) hr.m T.Dyq (aj (pv 0) (aj (pv 3) aw))) aw))) (Eo (pv 2) (pv 3) qy2)))) (aZ (bW (pv 2))))),by unfold xK;refine(aY (O1:=[2]) (qqb rfl) (aY (O1:=[]) (qL (iJ (O':=[2]) (mr (dy (uM Bh (aB (aE (i:=0)) aR)))) rfl (dz (i:=3)) (qqa (by decide) ?_ ?_ rfl)) rfl) (cn rfl ?_ rfl)))<;>walk_at "m"⟩
def tZ:aH:=
 (aq (aA 3 (ag bA (ag bA (ag fF (aa 1) (ag bA (aa 0) (ae (.int 0)))) (aa 2)) (ag bA (aa 0) (ae (.int 1)))))
 (aF (iP (bB (ag i9 (aa 3) (ae .non))) (ae .non) (ag b8 (ag bA (aa 0) (ae (.int 2))) (aa 3)))))
def fyv:List D->Option D:=aM false 3 4 tZ
def qyw:bV 3 fyv:=cJ
def C6(T:Txt K mg a):FnOk P w K mg base br 1 a.fyv a.fdyv oH (cj K false 3 fyv):=by
 exact cR T.Dyv.F scyv λ_ _ _ _ _ _ hr=>⟨_,(aX (bM 3 scyv.nd (bq (bz (K:=K) rfl) (bq (bz (K:=K) rfl) (bq Bn (pv 1) (bq (bz (K:=K) rfl) (pv 0) aD)) (pv 2)) (bq (bz (K:=K) rfl) (pv 0) aD))) (aZ (bW (iZ (dE Ek (pv 3) iW (dj)) iW (bP (fq (K:=K) rfl) (bq (bz (K:=K) rfl) (pv 0) aD) (pv 3)))))),by unfold tZ;refine(aY (O1:=[]) (cc ?_) (cn rfl ?_ rfl))<;>walk_at "m"⟩
def DI:aH:=
 (aq (aA 3 (aG bU (aa 0)))
 (aq (aA 4 (bc (ck 1 [2,3] none (bn (aa 1)) (ai 0) (bB (ag iU (a9 fyv gN) (ae .non))) (aa 0))))
 (aF (bZ (ak (aG tN (bc (ck 1 [2,3] none (bn (aa 4)) (ai 0) (ae true) (a9 fyv gN)))) (ak (aa 0) (ak (aa 4) af)))))))
def fyw:List D->Option D:=aM false 3 5 DI
def qyv:bV 3 fyw:=cJ
def Ei(T:Txt K mg a):FnOk P w K mg base br 2 a.fyw a.fdyw vP (cj K false 3 fyw):=by
 exact cR T.Dyw.F scyw λ_ _ _ _ _ _ hr=>⟨_,(aX (bM 3 scyw.nd (dh (fW (K:=K) rfl) (by rfl) T.z_len (by rfl) (aj (pv 0) aw))) (aX (Fl (k:=4) (sc:=aT t8) (N0:=BX) rfl rfl rfl (show gy _ _ oH 1 [2,3] _=true by decide+kernel) scyw.nd rfl (Or.inl rfl) (fu (K:=K) rfl (pv 1)) (λ_ _ _ _ _=>(jS (i:=0) (show List.Nodup (oH:Zj)from(by decide+kernel)) rfl (Or.inl rfl))) (qY (by decide)) (λ_ _ _ _ _=>(uF (dE yV (bI (C6 T) hr.m T.Dyv (aj (pv 0) (aj (pv 1) (aj (pv 2) aw)))) iW (dj)))) (λ_ _ _ _ _=>(pv 0))) (aZ (bW (ie (aj (dh (qfg (K:=K) rfl rfl) (by rfl) T.z_min (by rfl) (aj (gM scyw oH [2,3] (fu (K:=K) rfl (pv 4)) (bI (C6 T) hr.m T.Dyv (aj (pv 0) (aj (pv 1) (aj (pv 2) aw))))) aw)) (aj (pv 0) (aj (pv 4) aw)))))))),by unfold DI;refine(aY (O1:=[]) (cc ?_) (aY (O1:=[]) (qK ?_ rfl (by decide)) (cn rfl (jO (aB (gT qrt (dy (iX (bw:=none) (mr (aE (i:=4))) (dz (i:=0)) kH (fV qyw (aB (aE (i:=0)) (aB (aE (i:=1)) (aB (aE (i:=2)) aR)))))).mb) (aB (aE (i:=0)) (aB (aE (i:=4)) aR)))) rfl)))<;>walk_at "m"⟩
def xM:aH:=
 (aq (aA 3 (ag bA (ag bA (aa 2) (ag bA (aa 0) (ae (.int 1)))) (aa 1)))
 (aF (bZ (ak (ag bA (aa 0) (ae (.int 0))) (ak (ag bA (aa 3) (ae (.int 0))) (ak (ag b8 (ag bA (aa 0) (ae (.int 2))) (ag bA (aa 3) (ae (.int 1)))) af))))))
def fyx:List D->Option D:=aM false 3 4 xM
def qzr:bV 3 fyx:=cJ
def quz(T:Txt K mg a):FnOk P w K mg base br 1 a.fyx a.fdyx tm (cj K false 3 fyx):=by
 exact cR T.Dyx.F scyx λ_ _ _ _ _ _ hr=>⟨_,(aX (bM 3 scyx.nd (bq (bz (K:=K) rfl) (bq (bz (K:=K) rfl) (pv 2) (bq (bz (K:=K) rfl) (pv 0) aD)) (pv 1))) (aZ (bW (ie (aj (bq (bz (K:=K) rfl) (pv 0) aD) (aj (bq (bz (K:=K) rfl) (pv 3) aD) (aj (bP (fq (K:=K) rfl) (bq (bz (K:=K) rfl) (pv 0) aD) (bq (bz (K:=K) rfl) (pv 3) aD)) aw))))))),by unfold xM;refine(aY (O1:=[]) (cc ?_) (cn rfl ?_ rfl))<;>walk_at "m"⟩
abbrev Cv:=(aF (a9 fyw (ak (ag b8 (ag bA (aa 0) (ae (.int 1))) (bc (aV (ak (aa 1) af)))) (ak (aa 4) (ak (aa 3) af)))))
abbrev BV:=(bn (ag bA (aa 0) (ae (.int 2))))
def DJ:aH:=
 (aq (aA 4 (bc (ck 1 [1,2] none BV (ai 0) (ae true) (a9 fyx gN))))
 Cv)
def fyy:List D->Option D:=aM false 4 5 DJ
def qzq:bV 4 fyy:=cJ
def C7(T:Txt K mg a):FnOk P w K mg base br 3 a.fyy a.fdyy vX (cj K false 4 fyy):=by
 exact cR T.Dyy.F Ez λ_ _ _ _ _ _ hr=>⟨_,(aX (mJ 4 Ez tm [1,2] (fu (K:=K) rfl (bq (bz (K:=K) rfl) (pv 0) aD)) (bI (quz T) hr.m T.Dyx (aj (pv 0) (aj (pv 1) (aj (pv 2) aw))))) (aZ (bW (bI (Ei T) hr.m T.Dyw (aj (bP (fq (K:=K) rfl) (bq (bz (K:=K) rfl) (pv 0) aD) (eE (aj (pv 1) aw))) (aj (pv 4) (aj (pv 3) aw))))))),by unfold DJ;refine(aY (O1:=[]) (qK ?_ rfl (by decide)) (cn rfl ?_ rfl))<;>walk_at "m"⟩
abbrev cy:Pos:=⟨145,29,145,63⟩
abbrev cw:Str:=(("first_ones"++".<locals>.":Str)++"<lambda>")
def fyz:List D->Option D:=mW
def C2:bV 2 fyz:=qm9
def C8(T:Txt K mg a):FnOk P w K mg base br 4 a.fyz a.fdyz ["found","most"] (fA K a.tyz cy cw 2 fyz):=by refine T.Dyz.F.okL qtc (λvs H Q E h=>h.1) λA outer s H vs Q E hr h=>?_;refine⟨_,aZ (bW (zL (zA (K:=K) rfl) (qeo (v:="begun") (c:=a.cyz) (P:=a.tyz) (k:=1) rfl rfl hr.m (by rfl) T.z_sorted (pv 0) rfl rfl rfl T.cdyz T.chyz T.btyz rfl rfl rfl rfl (by decide+kernel) (by decide+kernel) (λ_ _ _ _=>rfl)) y7 (y8 (pv 1)))),?_⟩;exact qg2 (by decide) h
abbrev wb:=(ak (aa 0) (ak (aa 0) (ak (ae (.int 0)) af)))
abbrev wo:=(ak (ag bA (aa 0) (ae (.int 0))) B1)
abbrev wC:=(aq (dN i4 8 (ak (a9 fyy (ak (aa 9) (ak (ae (.int 0)) (ak (aa 7) (ak (aa 5) af))))) af)) (dN i4 8 (ak (a9 fyy (ak (aa 9) (ak (ae (.int 1)) (ak (aa 7) (ak (aa 5) af))))) af)))
abbrev B6:=(bn (rA (aa 4) (ae none) (qI (aa 1))))
abbrev Cd:=(aA 5 (a9 fyu (ak (aa 0) (ak (aa 4) af))))
def CP(P0:Addr):aH:=
 (aq (aA 4 (a9 fyp gN))
 (aq Cd
 (aq (aA 6 (bc (aV (ak (a9 fyw (ak (bc (aV af)) (ak (bc (ck 1 [] none (mX (aa 5)) (ai 0) (ae true) (bZ wb))) (ak (aa 5) af)))) af))))
 (aq (bS B6 (ai 7)
   (aq (cE 8 (aV af)) (aq (bS (bn (aa 6)) (ai 9)
   wC) (aA 6 (jM 10 P0 cy cw fyz (ak (aa 8) (ak (aa 3) af)))))))
 (aF (bc (ck 1 [] none (bn (jM 10 P0 cy cw fyz (ak (aa 6) (ak (aa 3) af)))) (ai 0) (ae true) (bZ wo))))))))
def f_few(P0:Addr):List D->Option D:=kB false 4 11 10 (.tab P0 cy cw) (CP P0)
def qz2{P0:Addr}:bV 4 (f_few P0):=Fo
def Eh(T:Txt K mg a):FnOk P w K mg base br 7 a.f_few a.fd_few tj (fA K a.tyz cy cw 4 (f_few a.tyz)):=by
 refine T.F_few.okT (z:="@t") (j:=10) (u:=.ref a.tyz) sc_few rfl (by unfold jV;decide+kernel) (λvs H Q E h=>h.1) (λcdv A outer s H vs Q E hr h=>?_);refine⟨_,(aX (bM 4 sc_few.nd (bI (qv7 T) hr.m T.Dyp (aj (pv 0) (aj (pv 1) (aj (pv 2) aw))))) (aX (bM 5 sc_few.nd (bI (qv1 T) hr.m T.Dyu (aj (pv 0) (aj (pv 4) aw)))) (aX (bM 6 sc_few.nd (eE (aj (bI (Ei T) hr.m T.Dyw (aj (eE aw) (aj (gM sc_few ["start"] [] (qkx (pv 5)) (ie (aj (pv 0) (aj (pv 0) (aj aD aw))))) (aj (pv 5) aw)))) aw))) (aX (iL k7 rfl (fu (K:=K) rfl (zL (zA (K:=K) rfl) (pv 4) y7 (y8 (pv 1)))) (gg 7 sc_few.nd) (aX (bM 8 sc_few.nd (eE aw)) (aX (iL k7 rfl (fu (K:=K) rfl (pv 6)) (gg 9 sc_few.nd) (aX (kN (mQ F.plainAttrs_list F.slot_list_append F.type_list_append pE (pv 8) (aj (bI (C7 T) hr.m T.Dyy (aj (pv 9) (aj aD (aj (pv 7) (aj (pv 5) aw))))) aw))) (aZ (kN (mQ F.plainAttrs_list F.slot_list_append F.type_list_append pE (pv 8) (aj (bI (C7 T) hr.m T.Dyy (aj (pv 9) (aj aD (aj (pv 7) (aj (pv 5) aw))))) aw)))))) (aZ (bM 6 sc_few.nd (bI (C8 T) hr.m T.Dyz (aj (pv 8) (aj (pv 3) aw)))))))) (aZ (bW (gM sc_few ["begun"] [] (fu (K:=K) rfl (bI (C8 T) hr.m T.Dyz (aj (pv 6) (aj (pv 3) aw)))) (ie (aj (bq (bz (K:=K) rfl) (pv 0) aD) (aj (bq (bz (K:=K) rfl) (pv 0) aD) aw)))))))))),?_⟩;exact Ah (O':=[]) (Nms:=Co) (by decide) (by unfold CP;refine(aY (O1:=[]) (cc ?_) (aY (O1:=[]) (cc ?_) (aY (O1:=[]) (cc (dy (gA (aB (fV qyv (aB (dy (gA aR)) (aB (dy (iX (bw:=none) (qlk (aE (i:=5))) (dz (i:=0)) kH (jO (aB (aE (i:=0)) (aB (aE (i:=0)) (aB me_int aR)))))) (aB (aE (i:=5)) aR)))) aR)))) (aY (O1:=[]) (iJ (O':=[]) ?_ rfl (dz (i:=7)) (aY (O1:=[8]) (kG ?_ rfl) (aY (O1:=[]) (qL (iJ (O':=[8]) ?_ rfl (dz (i:=9)) (aY (O1:=[8]) (qB rd (by decide) ?_ rfl) (qB rd (by decide) ?_ rfl))) rfl) (cc (uV (by decide) C2 (aB (aE (i:=8)) (aB (aE (i:=3)) aR))))))) (cn rfl (dy (iX (bw:=none) (mr (uV (by decide) C2 (aB (aE (i:=6)) (aB (aE (i:=3)) aR)))) (dz (i:=0)) kH (jO (aB (d8 hW (aE (i:=0)) me_int) (aB (d8 hW (aE (i:=0)) me_int) aR))))) rfl)))))<;>walk_at "m") h
abbrev ww:=(aF (iP (bB (ag fQ (aG bU (aa 3)) (ae (.int 2)))) (ag bA (aa 3) (ae (.int 1))) (ae .non)))
abbrev pU:=(aV (ak (bZ (ak (ae (.str "clear")) (ak (ae (.int 0)) af))) af))
abbrev BU:=(aA 2 (bc (dc pU (aG bU l5))))
abbrev Cf:=(ak (aa 0) (ak (aa 1) (ak (aa 2) (ak (ae (.int 2)) af))))
def CS(P0:Addr):aH:=
 (aq BU
 (aq (aA 3 (jM 4 P0 cy cw (f_few P0) Cf))
 ww))
def fyA(P0:Addr):List D->Option D:=kB false 2 5 4 (.tab P0 cy cw) (CS P0)
def qyu{P0:Addr}:bV 2 (fyA P0):=Fo
def qo5(T:Txt K mg a):FnOk P w K mg base br 8 a.fyA a.fdyA ["scheme","size"] (fA K a.tyz cy cw 2 (fyA a.tyz)):=by
 have Gya:=@ui P w K mg base a T;have G_few:=@Eh P w K mg base a T;refine T.DyA.F.okT (z:="@t") (j:=4) (u:=.ref a.tyz) scyA rfl (by unfold jV;decide+kernel) (λvs H Q E h=>h.1) (λcdv A outer s H vs Q E hr h=>?_);refine⟨_,(aX (bM 2 scyA.nd (bP qD (eE (aj (ie (aj gP (aj aD aw))) aw)) (dh (fW (K:=K) rfl) (by rfl) T.z_len (by rfl) (aj (i5 Gya hr.m (by rfl) T.Dya.m T.Dya.F.kp T.Dya.B .nil qd (aj (pv 0) (aj (pv 1) aw))) aw)))) (aX (bM 3 scyA.nd (i5 G_few hr.m (by rfl) T.mg_few T.F_few.kp T.B_few .nil mI (aj (pv 0) (aj (pv 1) (aj (pv 2) (aj aD aw)))))) (aZ (bW (iZ (dE (gp (K:=K) rfl hr.units) (dh (fW (K:=K) rfl) (by rfl) T.z_len (by rfl) (aj (pv 3) aw)) aD (dj)) (bq (bz (K:=K) rfl) (pv 3) aD) iW))))),?_⟩;exact Ah (O':=[]) (Nms:=vS) (by decide) (by unfold CS;refine(aY (O1:=[]) (cc (dy (o9 (gA (aB (jO (aB mq (aB me_int aR))) aR)) (gT kC (dy (qX qa (aB (aE (i:=0)) (aB (aE (i:=1)) aR)))).mb)))) (aY (O1:=[]) (cc (uV (by decide) qz2 (aB (aE (i:=0)) (aB (aE (i:=1)) (aB (aE (i:=2)) (aB me_int aR)))))) (cn rfl ?_ rfl)))<;>walk_at "m") h
noncomputable def qy:List D->Option D:=λ_=>none
def qvs:bV 2 qy:=λ_ _ h=>nomatch h
def tX:Xr:=
 (fY BU (mi (bc pU) fj (mi l5 (mV o5 (ak (aa 0) (ak (aa 1) af)) fj) fj))
 fj)
def o6:List D->Option Str:=eV 2 5 tX
def qvo:oX 2 o6:=ur
def qq1(T:Txt K mg a):FnOk P w K mg base (kX P w) 8 a.fyA a.fdyA ["scheme","size"] (dM K false 2 qy o6):=by
 have Gya:=@ui P w K mg base a T;have G_few:=@Eh P w K mg base a T;refine T.DyA.F.okX scyA (λvs H Q E h=>uP h) (λcdv A outer s H vs Q E hr h=>?_);refine⟨_,(aX (bM 2 scyA.nd (bP qD (eE (aj (ie (aj gP (aj aD aw))) aw)) (dh (fW (K:=K) rfl) (by rfl) T.z_len (by rfl) (aj (i5 Gya hr.m (by rfl) T.Dya.m T.Dya.F.kp T.Dya.B .nil wV (aj (pv 0) (aj (pv 1) aw))) aw)))) (aX (bM 3 scyA.nd (i5 G_few hr.m (by rfl) T.mg_few T.F_few.kp T.B_few .nil mI (aj (pv 0) (aj (pv 1) (aj (pv 2) (aj aD aw)))))) (aZ (bW (iZ (dE (gp (K:=K) rfl hr.units) (dh (fW (K:=K) rfl) (by rfl) T.z_len (by rfl) (aj (pv 3) aw)) aD (dj)) (bq (bz (K:=K) rfl) (pv 3) aD) iW))))),?_⟩;refine qed (O':=[]) (Nms:=vS) (fx:=tX) ?_ h;unfold tX;exact(qM (O1:=[]) (cc (dy (o9 (gA (aB (jO (aB mq (aB me_int aR))) aR)) (gT kC (dy (qX qa (aB (aE (i:=0)) (aB (aE (i:=1)) aR)))).mb)))) (qld (qz3 (dy (gA (aB (jO (aB mq (aB me_int aR))) aR))) qz4 (qz5 (gc (dy (qX qa (aB (aE (i:=0)) (aB (aE (i:=1)) aR)))) (uD qvp (aB (aE (i:=0)) (aB (aE (i:=1)) aR)) o7) o7)))).g
  pd)
abbrev BZ:=(ag sH (ae (.int 10)) (ae (.int 60)))
def t0:aH:=
 (aq (cU (bB (ag Au (aa 1) (aG bU (aa 0))))
   (aF (ag de (ag bA (aa 0) (aa 1)) BZ))
   bh)
 (aF (ae (.int 0))))
def fyB:List D->Option D:=aM false 2 2 t0
def qyt:bV 2 fyB:=cJ
def quw(T:Txt K mg a):FnOk P w K mg base br 1 a.fyB a.fdyB ["_law_script","_law_k"] (cj K false 2 fyB):=by
 exact cR T.DyB.F qtb λ_ _ _ _ _ _ hr=>⟨_,(aX (gx (dE wR (pv 1) (dh (fW (K:=K) rfl) (by rfl) T.z_len (by rfl) (aj (pv 0) aw)) (dj)) (aZ (bW (bP iK (bq (bz (K:=K) rfl) (pv 0) (pv 1)) (bP El aD aD)))) gC) (aZ (bW aD))),by unfold t0;refine(aY (O1:=[]) (gw ?_ (cn rfl ?_ rfl) (gB rfl)) (cn rfl ?_ rfl))<;>walk_at "m"⟩
def xN:aH:=
 (mh (aV (ak (ag de (ag b8 (ag b8 (ag ml (ag de (aa 0) BZ) (ae (.int 7368787))) (ag ml (ae (.int 1000003)) (aa 1))) (ae (.int 17))) (ae (.int 2305843009213693951))) af)))
def fyC:List D->Option D:=aM true 2 2 xN
def qys:bV 2 fyC:=cJ
def quv(T:Txt K mg a):FnOk P w K mg base br 1 a.fyC a.fdyC ["_law_cell","_law_k"] (cj K true 2 fyC):=by
 exact cR T.DyC.F qta λ_ _ _ _ _ _ hr=>⟨_,(aZ (bW (eE (aj (bP iK (bP (fq (K:=K) rfl) (bP (fq (K:=K) rfl) (bP (pp (K:=K) rfl) (bP iK (pv 0) (bP El aD aD)) aD) (bP (pp (K:=K) rfl) aD (pv 1))) aD) aD) aw)))),by unfold xN;refine(yT rfl ?_ rfl)<;>walk_at "m"⟩
def tK:aH:=
 (aq (qf 0 (ag de (ag b8 (ag ml (iz 0 (ae (.int 0))) (ae (.int 1181783497276652981))) (ae (.int 12345678910987))) (ae (.int 2305843009213693951))) (ae (.int 0)))
 (aF (ag de (ag lO (iz 0 (ae (.int 0))) (ae (.int 65537))) (aa 1))))
def fyD:List D->List D->Option (D×List D):=fZ false 2 2 tK
def mO:tU 2 fyD:=Eu
def mK(T:Txt K mg a):FnOk P w K mg base br 1 a.fyD a.fdyD pM (pV K false 2 fyD):=by
 refine T.DyD.F.ok qt9 (λ_ _ _ _ h=>h.1) (λcdv A outer s H vs Q E hr h=>?_)
 .refine⟨_,(aX (ya (bP iK (bP (fq (K:=K) rfl) (bP (pp (K:=K) rfl) (bq (bz (K:=K) rfl) (pv 0) aD) aD) aD) aD) (Eo (pv 0) aD jB)) (aZ (bW (bP iK (bP yU (bq (bz (K:=K) rfl) (pv 0) aD) aD) (pv 1))))),?_⟩;exact Gq (O':=[]) (Nms:=pM) (f:=tK) (by unfold tK;exact(aY (O1:=[0]) (qq9 (by decide) (d8 ug (d8 qC (d8 Fb (xX (i:=0) (by decide) me_int) me_int) me_int) me_int) me_int rfl) (cn rfl (d8 ug (d8 Eg (xX (i:=0) (by decide) me_int) me_int) (aE (i:=1))) rfl))) h
abbrev wk:=(ak (ag b8 (ae (.int 1)) (gW fyD 0 (ak (ae (.int 4)) af))) af)
abbrev wl:=(ak (ag b8 (ae (.int 1)) (gW fyD 0 (ak (ae (.int 6)) af))) af)
abbrev Cy:=(aF (bZ (ak (aa 3) (ak (aG mz (aa 4)) (ak (aG mz (aa 5)) (ak (ag bA (aa 2) (gW fyD 0 (ak (aG bU (aa 2)) af))) af))))))
abbrev CF:=(ak (aa 1) (ak (ag bA (bc (aV (ak (ae (.int 0)) (ak (ae (.int 1)) (ak (ae (.int 2)) (ak (ae (.int 2)) (ak (ae (.int 3)) (ak (ae (.int 1)) (ak (ae (.int 2)) (ak (ae (.int 3)) (ak (ae (.int 4)) af))))))))))) (gW fyD 0 (ak (ae (.int 9)) af))) af))
abbrev Ce:=(ag Av (gW fyD 1 (ak (ae (.int 4)) af)) (ae (.int 0)))
abbrev wA:=(dN i4 5 (ak (aG mz (bc (ck 1 [0] (some (0,1)) (bn (aa 4)) (ai 0) (ae true) (aG iD Ce)))) af))
def pY:aH:=
 (aq (aA 3 (iO (λi j=>if j<i then j else i) CF))
 (aq (aA 4 (bc (ck 1 [0,3] (some (0,1)) (fU wk) (ai 0) (ae true) (gW fyD 1 (ak (ag cB (ae (.int 2)) (aa 2)) af)))))
 (aq (cE 5 (aV af))
 (aq (bS (fU wl) (ai 6)
   wA)
 Cy))))
def fyE:List D->List D->Option (D×List D):=fZ false 3 7 pY
def qyr:tU 3 fyE:=Eu
def qut(T:Txt K mg a):FnOk P w K mg base br 2 a.fyE a.fdyE vY (pV K false 3 fyE):=by
 refine T.DyE.F.ok scyE (λ_ _ _ _ h=>h.1) (λcdv A outer s H vs Q E hr h=>?_)
 .refine⟨_,(aX (bM 3 scyE.nd (dh (GC rfl) (by rfl) T.z_min (by rfl) (aj (pv 1) (aj (bq (bz (K:=K) rfl) (eE (aj aD (aj aD (aj aD (aj aD (aj aD (aj aD (aj aD (aj aD (aj aD aw)))))))))) (bI (mK T) hr.m T.DyD (aj (pv 0) (aj aD aw)))) aw)))) (aX (mJ 4 scyE ["_law_k","_law_state_here","_law_reach"] [0,3] (iN (by rfl) T.z_range (aj (bP (fq (K:=K) rfl) aD (bI (mK T) hr.m T.DyD (aj (pv 0) (aj aD aw)))) aw)) (bI (mK T) hr.m T.DyD (aj (pv 1) (aj (bP uk aD (pv 2)) aw)))) (aX (bM 5 scyE.nd (eE aw)) (aX (iL k7 rfl (iN (by rfl) T.z_range (aj (bP (fq (K:=K) rfl) aD (bI (mK T) hr.m T.DyD (aj (pv 0) (aj aD aw)))) aw)) (gg 6 scyE.nd) (aZ (kN (mQ F.plainAttrs_list F.slot_list_append F.type_list_append pE (pv 5) (aj (nh (rm (K:=K) rfl) (by rfl) T.z_tuple (by rfl) (aj (gM scyE ["_law_tap","_law_state_here"] [0] (fu (K:=K) rfl (pv 4)) (nh qjm (by rfl) T.z_int (by rfl) (aj (Fj wQ (bI (mK T) hr.m T.DyD (aj (pv 1) (aj aD aw))) aD (dj)) aw))) aw)) aw))))) (aZ (bW (ie (aj (pv 3) (aj (nh (rm (K:=K) rfl) (by rfl) T.z_tuple (by rfl) (aj (pv 4) aw)) (aj (nh (rm (K:=K) rfl) (by rfl) T.z_tuple (by rfl) (aj (pv 5) aw)) (aj (bq (bz (K:=K) rfl) (pv 2) (bI (mK T) hr.m T.DyD (aj (pv 0) (aj (dh (fW (K:=K) rfl) (by rfl) T.z_len (by rfl) (aj (pv 2) aw)) aw)))) aw))))))))))),?_⟩;exact Gq (O':=[]) (Nms:=Ck) (f:=pY) (by unfold pY;exact(aY (O1:=[0]) (cc (tS (aB (aE (i:=1)) (aB (d8 hW (dy (gA (aB me_int (aB me_int (aB me_int (aB me_int (aB me_int (aB me_int (aB me_int (aB me_int (aB me_int aR))))))))))) (mD (i:=0) mO (by decide) (aB me_int aR))) aR)))) (aY (O1:=[0]) (qK (iX (bw:=(some (0,1))) (ng (aB (d8 qC me_int (mD (i:=0) mO (by decide) (aB me_int aR))) aR)) (dz (i:=0)) kH (mD (i:=1) mO (by decide) (aB (d8 xY me_int (aE (i:=2))) aR))) rfl (by decide)) (aY (O1:=[0,5]) (kG (gA aR) rfl) (aY (O1:=[0]) (qL (iJ (O':=[0,5]) (ng (aB (d8 qC me_int (mD (i:=0) mO (by decide) (aB me_int aR))) aR)) rfl (dz (i:=6)) (qB rd (by decide) (aB (pB qT (dy (iX (bw:=(some (0,1))) (mr (aE (i:=4))) (dz (i:=0)) kH (gT DT (kF qb (mD (i:=1) mO (by decide) (aB me_int aR)) me_int.mb).mb)))) aR) rfl)) rfl) (cn rfl (jO (aB (aE (i:=3)) (aB (pB qT (aE (i:=4))) (aB (pB qT (aE (i:=5))) (aB (d8 hW (aE (i:=2)) (mD (i:=0) mO (by decide) (aB (gT kC jN) aR))) aR))))) rfl)))))) h
abbrev wy:=(aq (aA 1 (ag de (ag b8 (aa 1) (ag de (aa 0) (ae (.int 2)))) (ae (.int 2)))) (aA 0 (ag lO (aa 0) (ae (.int 2)))))
abbrev vU:=(bB (ag Av (aa 0) (ae (.int 0))))
def xO:aH:=
 (aq (aA 1 (ae (.int 0)))
 (aq (gU vU
   wy 1000)
 (aF (aa 1))))
def fyF:List D->Option D:=aM false 1 2 xO
def qzp:bV 1 fyF:=cJ
def qus(T:Txt K mg a):FnOk P w K mg base br 1 a.fyF a.fdyF ["_law_number"] (cj K false 1 fyF):=by
 exact cR T.DyF.F scyF λ_ _ _ _ _ _ hr=>⟨_,(aX (bM 1 scyF.nd aD) (aX (Gj k7 (dE wQ (pv 0) aD (dj)) (aX (bM 1 scyF.nd (bP iK (bP (fq (K:=K) rfl) (pv 1) (bP iK (pv 0) aD)) aD)) (aZ (bM 0 scyF.nd (bP yU (pv 0) aD))))) (aZ (bW (pv 1))))),by unfold xO;refine(aY (O1:=[]) (cc ?_) (aY (O1:=[]) (Gb (O':=[]) ?_ rfl (aY (O1:=[]) (cc ?_) (cc ?_))) (cn rfl ?_ rfl)))<;>walk_at "m"⟩
abbrev wa:=(ag fQ (ag bA (aa 2) (aa 0)) (ae (.int 1)))
abbrev Cu:=(aA 6 (ag bA (ag bA (aa 0) (ae (.int 2))) (ag de (aa 1) (aG bU (ag bA (aa 0) (ae (.int 2)))))))
abbrev pP:=(ag b8 (ag ml (ae (.int 2)) (aa 2)) (aa 3))
def DK:aH:=
 (aq (aA 4 pP)
 (aq (aA 5 (bc (ck 1 [4] none vW (ai 0) (ae true) (a9 fyF pN))))
 (aq Cu
 (aF (bZ (ak (ag de (aa 4) (ag cB (ae (.int 1)) (ag bA (aa 0) (ae (.int 0))))) (ak (bc (ck 1 [5,6] none (fU (ak (aG bU (aa 5)) af)) (ai 0) (bB wa) (ag bA (aa 1) (aa 0)))) af)))))))
def fyG:List D->Option D:=aM false 4 7 DK
def qzo:bV 4 fyG:=cJ
abbrev BP:List Str:=["_law_k","_law_signs","_law_line"]
def qur(T:Txt K mg a):FnOk P w K mg base br 2 a.fyG a.fdyG wc (cj K false 4 fyG):=by
 exact cR T.DyG.F scyG λ_ _ _ _ _ _ hr=>⟨_,(aX (bM 4 scyG.nd (bP (fq (K:=K) rfl) (bP (pp (K:=K) rfl) aD (pv 2)) (pv 3))) (aX (bM 5 scyG.nd (gM scyG ["_law_tap","_law_both"] [4] (fu (K:=K) rfl (bq (bz (K:=K) rfl) (pv 0) aD)) (bI (qus T) hr.m T.DyF (aj (bP xZ (pv 1) (pv 0)) aw)))) (aX (bM 6 scyG.nd (bq (bz (K:=K) rfl) (bq (bz (K:=K) rfl) (pv 0) aD) (bP iK (pv 1) (dh (fW (K:=K) rfl) (by rfl) T.z_len (by rfl) (aj (bq (bz (K:=K) rfl) (pv 0) aD) aw))))) (aZ (bW (ie (aj (bP iK (pv 4) (bP uk aD (bq (bz (K:=K) rfl) (pv 0) aD))) (aj (qN (sc:=aT t9) (N0:=Cn) rfl rfl rfl (show gy _ _ BP 1 [5,6] _=true by decide+kernel) (iN (by rfl) T.z_range (aj (dh (fW (K:=K) rfl) (by rfl) T.z_len (by rfl) (aj (pv 5) aw)) aw)) (λ_ _ _ _ _=>(jS (i:=0) (show List.Nodup (BP:Zj)from(by decide+kernel)) rfl (Or.inl rfl))) (qY (by decide)) (λ_ _ _ _ _=>(uF (dE (gp (K:=K) rfl hr.units) (bq (bz (K:=K) rfl) (pv 2) (pv 0)) aD (dj)))) (λ_ _ _ _ _=>(bq (bz (K:=K) rfl) (pv 1) (pv 0)))) aw)))))))),by unfold DK;refine(aY (O1:=[]) (cc ?_) (aY (O1:=[]) (cc ?_) (aY (O1:=[]) (cc ?_) (cn rfl ?_ rfl))))<;>walk_at "m"⟩
def t5:aH:=
 (aq (aA 2 (ae (.int 0)))
 (aq (cU (bB wg)
   (bS (bn (aa 1)) (ai 3)
   (aA 2 (ag de pP (ag cB (ae (.int 1)) (ag bA (aa 0) (ae (.int 0)))))))
   bh)
 (aF (aa 2))))
def fyH:List D->Option D:=aM false 2 4 t5
def qzn:bV 2 fyH:=cJ
def quq(T:Txt K mg a):FnOk P w K mg base br 1 a.fyH a.fdyH oI (cj K false 2 fyH):=by
 exact cR T.DyH.F scyH λ_ _ _ _ _ _ hr=>⟨_,(aX (bM 2 scyH.nd aD) (aX (gx (dE (gp (K:=K) rfl hr.units) (bq (bz (K:=K) rfl) (pv 0) aD) gP (dj)) (aZ (iL k7 rfl (fu (K:=K) rfl (pv 1)) (gg 3 scyH.nd) (aZ (bM 2 scyH.nd (bP iK (bP (fq (K:=K) rfl) (bP (pp (K:=K) rfl) aD (pv 2)) (pv 3)) (bP uk aD (bq (bz (K:=K) rfl) (pv 0) aD))))))) gC) (aZ (bW (pv 2))))),by unfold t5;refine(aY (O1:=[]) (cc ?_) (aY (O1:=[]) (gw ?_ (iJ (O':=[]) ?_ rfl (dz (i:=3)) (cc ?_)) (gB rfl)) (cn rfl ?_ rfl)))<;>walk_at "m"⟩
abbrev Cs:=(aA 2 (ag b8 (aa 2) (bc (dc (aV (ak (ae (.int 0)) af)) (ag bA (aa 0) (ae (.int 0)))))))
abbrev CD:=(i8 (a9 fyG (ak (aa 0) (ak (aa 5) (ak (aa 3) (ak (ag bA (aa 2) (aa 5)) af))))) (fP 2 (db (ai 3) (db (ai 6) fT))))
abbrev B7:=(aq CD (cE 4 (qu qt (aa 4) (aa 6))))
abbrev Cc:=(aA 3 (a9 fyH (ak (aa 0) (ak (aa 1) af))))
def DN:aH:=
 (aq (aA 2 (bc (jI dO (aa 1))))
 (aq (cU pR
   Cs
   bh)
 (aq Cc
 (aq (cE 4 (aV af))
 (aq (bS (fU (ak (aG bU (aa 2)) af)) (ai 5)
   B7)
 (mT 4))))))
def fyI:List D->Option D:=aM true 2 7 DN
def qyq:bV 2 fyI:=cJ
def qup(T:Txt K mg a):FnOk P w K mg base br 3 a.fyI a.fdyI oI (cj K true 2 fyI):=by
 exact cR T.DyI.F scyI λ_ _ _ _ _ _ hr=>⟨_,(aX (bM 2 scyI.nd (nh (qfh (K:=K) rfl) (by rfl) T.z_list (by rfl) (aj (pv 1) aw))) (aX (gx (dE (gp (K:=K) rfl hr.units) (bq (bz (K:=K) rfl) (pv 0) aD) gP (dj)) (aZ (bM 2 scyI.nd (bP (fq (K:=K) rfl) (pv 2) (bP qD (eE (aj aD aw)) (bq (bz (K:=K) rfl) (pv 0) aD))))) gC) (aX (bM 3 scyI.nd (bI (quq T) hr.m T.DyH (aj (pv 0) (aj (pv 1) aw)))) (aX (bM 4 scyI.nd (eE aw)) (aX (iL k7 rfl (iN (by rfl) T.z_range (aj (dh (fW (K:=K) rfl) (by rfl) T.z_len (by rfl) (aj (pv 2) aw)) aw)) (gg 5 scyI.nd) (aX (ya (bI (qur T) hr.m T.DyG (aj (pv 0) (aj (pv 5) (aj (pv 3) (aj (bq (bz (K:=K) rfl) (pv 2) (pv 5)) aw))))) (qO (K:=K) rfl rfl (jQ (gg 3 scyI.nd) (jQ (gg 6 scyI.nd) qP)))) (aZ (bM 4 scyI.nd (bP (fq (K:=K) rfl) (pv 4) (pv 6)))))) (aZ (bW (pv 4)))))))),by unfold DN;refine(aY (O1:=[]) (cc (dy (qli qru (aE (i:=1))))) (aY (O1:=[]) (gw ?_ (cc (d8 qC (aE (i:=2)) (dy (o9 (gA (aB me_int aR)) (d8 hW (aE (i:=0)) me_int))))) (gB rfl)) (aY (O1:=[]) (cc ?_) (aY (O1:=[4]) (kG ?_ rfl) (aY (O1:=[4]) (iJ (O':=[4]) ?_ rfl (dz (i:=5)) (aY (O1:=[]) (qvx ?_ rfl (o8 (iY (dz (i:=3)) (iY (dz (i:=6)) pk)))) (kG (qz6 quk (aE (i:=4)) (aE (i:=6))) rfl))) (E8 rfl (by first|decide|simp) rfl (by first|decide|simp)))))))<;>walk_at "m"⟩
def xP:aH:=
 (aF (qv (aG (gK (gv "int")) (aa 0)) (tR (aG (gK (gv "bool")) (aa 0)))))
def fyJ:List D->Option D:=aM false 1 1 xP
def C3:bV 1 fyJ:=cJ
def Ej(T:Txt K mg a):FnOk P w K mg base br 1 a.fyJ a.fdyJ ["_law_found"] (cj K false 1 fyJ):=by
 exact cR T.DyJ.F qt8 λ_ _ _ _ _ _ hr=>⟨_,(aZ (bW (Em (dh (uJ (K:=K) rfl) (by rfl) T.z_isinstance (by rfl) (aj (pv 0) (aj (uE (v:=.ty "int") (by rfl) T.z_int (by rfl) rfl) aw))) (En (qu9 (dh (uJ (K:=K) rfl) (by rfl) T.z_isinstance (by rfl) (aj (pv 0) (aj (uE (v:=.ty "bool") (by rfl) T.z_bool (by rfl) rfl) aw)))))))),by unfold xP;exact(cn rfl (D9 (ud (qqu T) jN) (qw4 (ud (qlx T) jN))) rfl)⟩
abbrev wt:=(qv (a9 fyJ (ak (aa 0) af)) (uI HJ HJ (ae (.int 0)) (aa 0) (ae (.int 1))))
abbrev B5:=(fB (bB (aG (gK (gv "list")) (aa 0))))
def xQ:aH:=
 (aq (cU (gX B5 (bB (ag gq (aG bU (aa 0)) (aa 1))))
   (aF (ae (.bl false)))
   bh)
 (aF (aG jp (bc (ck 1 [] none (bn (aa 0)) (ai 0) (ae true) wt)))))
def fyK:List D->Option D:=aM false 2 2 xQ
def qzm:bV 2 fyK:=cJ
def quo(T:Txt K mg a):FnOk P w K mg base br 2 a.fyK a.fdyK sZ (cj K false 2 fyK):=by
 exact cR T.DyK.F EA λ_ _ _ _ _ _ hr=>⟨_,(aX (gx (PW.pt (g6 (qF (mw (dh (uJ (K:=K) rfl) (by rfl) T.z_isinstance (by rfl) (aj (pv 0) (aj (uE (v:=.ty "list") (by rfl) T.z_list (by rfl) rfl) aw))))) (gL (dE (uj (K:=K) rfl hr.units) (dh (fW (K:=K) rfl) (by rfl) T.z_len (by rfl) (aj (pv 0) aw)) (pv 1) (dj))))) (aZ (bW mf)) gC) (aZ (bW (dh (FF (K:=K) rfl rfl) (by rfl) T.z_all (by rfl) (aj (gM EA ["_law_bit"] [] (fu (K:=K) rfl (pv 0)) (Em (bI (Ej T) hr.m T.DyJ (aj (pv 0) aw)) (En (qkz Dd Dd aD (pv 0) aD)))) aw))))),by unfold xQ;exact(aY (O1:=[]) (gw (tT (uf (pe (ud (qlw T) jN))) (mx (kF wU (gT kC jN) jN))) (cn rfl C0 rfl) (gB rfl)) (cn rfl (gT DR (dy (iX (bw:=none) (mr (aE (i:=0))) (dz (i:=0)) kH (D9 (fV C3 (aB (aE (i:=0)) aR)) (qln qb qb me_int (aE (i:=0)) me_int)))).mb) rfl))⟩
abbrev CC:=(aA 1 (ag b8 (bc (ck 1 [] none (bn (aa 1)) (ai 0) (ae true) (ag b8 (aa 0) (bc (aV (ak (ae (.int 0)) af)))))) (bc (ck 1 [] none (bn (aa 1)) (ai 0) (ae true) (ag b8 (aa 0) (bc (aV (ak (ae (.int 1)) af))))))))
abbrev B9:=(aA 1 (bc (aV (ak (bc (aV af)) af))))
def DO:aH:=
 (aq B9
 (aq (bS (fU (ak (aa 0) af)) (ai 2)
   CC)
 (mh (jI ma (aa 1)))))
def fyL:List D->Option D:=aM true 1 3 DO
def qyp:bV 1 fyL:=cJ
def qun(T:Txt K mg a):FnOk P w K mg base br 1 a.fyL a.fdyL ["_law_size"] (cj K true 1 fyL):=by
 exact cR T.DyL.F scyL λ_ _ _ _ _ _ hr=>⟨_,(aX (bM 1 scyL.nd (eE (aj (eE aw) aw))) (aX (iL k7 rfl (iN (by rfl) T.z_range (aj (pv 0) aw)) (gg 2 scyL.nd) (aZ (bM 1 scyL.nd (bP (fq (K:=K) rfl) (gM scyL ["_law_word"] [] (fu (K:=K) rfl (pv 1)) (bP (fq (K:=K) rfl) (pv 0) (eE (aj aD aw)))) (gM scyL ["_law_word"] [] (fu (K:=K) rfl (pv 1)) (bP (fq (K:=K) rfl) (pv 0) (eE (aj aD aw)))))))) (aZ (bW (dh (qjk (K:=K) rfl hr.units) (by rfl) T.z_sorted (by rfl) (aj (pv 1) aw)))))),by unfold DO;refine(aY (O1:=[]) (cc ?_) (aY (O1:=[]) (iJ (O':=[]) ?_ rfl (dz (i:=2)) (cc ?_)) (yT rfl (qqd (aE (i:=1))) rfl)))<;>walk_at "m"⟩
def xR:aH:=
 (aq (aA 2 (ae (.bl false)))
 (aq (lh (λx=>tk_NoWord.contains x) (mj (a9 qy (ak (aa 0) (ak (aa 1) af)))) (mV o6 (ak (aa 0) (ak (aa 1) af)) fj)
   (aA 2 (ae (.bl true))))
 (aF (aa 2))))
def fyM:List D->Option D:=aM false 2 3 xR
def qzl:bV 2 fyM:=cJ
def qum(T:Txt K mg a):FnOk P w K mg base br 9 a.fyM a.fdyM vR (cj K false 2 fyM):=by
 have GXyA:=@qq1 P w K mg base a T;exact cR T.DyM.F scyM λ_ _ _ _ _ _ hr=>⟨_,(aX (bM 2 scyM.nd mf) (aX (qu2 rfl rfl (by rfl) T.mg_NoWord (λxe z5 J E hp=>(qxn (qs7 (qs8 GXyA hr.m (by rfl) T.DyA.m T.DyA.F.kp T.DyA.B .nil hp (aj (pv 0) (aj (pv 1) aw)))))) (λea=>(aZ (bM 2 scyM.nd mf)))) (aZ (bW (pv 2))))),by unfold xR;refine(aY (O1:=[]) (cc ?_) (aY (O1:=[]) (qvw (qip T) (λE=>(uC (m5 qvs (aB (aE (i:=0)) (aB (aE (i:=1)) aR))) rfl)) (λE=>(GT (uD qvo ?_ o7))) (cc ?_)) (cn rfl ?_ rfl)))<;>walk_at "m"⟩
abbrev vZ:=(fB (bB (aG (gK (gv "tuple")) (aa 5))))
abbrev v0:=(aA 4 (gW fyD 2 (ak (ae (.int 7)) af)))
abbrev wj:=(fB (bB (a9 fyJ (ak (ag bA (aa 5) (ae (.int 0))) af))))
abbrev BR:=(bB (ag fQ (aa 4) (ae (.int 0))))
abbrev Cw:=(cU BR (aq (cU (bB (ag iU (aa 5) (ae .non))) (aF (ae (.bl false))) bh) tI) bh)
abbrev wm:=(fB (bB (a9 fyK (ak (ag bA (aa 5) (ae (.int 1))) (ak (aa 4) af)))))
abbrev wu:=(cE 2 (kT fyC (ak (a9 fyB (ak (aa 0) (ak (aa 1) af))) (ak (aa 1) af))))
abbrev pO:=(bc (kT fyI (ak (aa 1) (ak (aa 0) af))))
abbrev pQ:=(bB (ag fQ (ag bA (aa 3) (ae (.int 3))) (ae (.str "ring"))))
abbrev B2:=(ak (ag bA (aa 3) (ae (.int 0))) af)
abbrev pT:=B2
abbrev wz:=(aA 3 (gW fyE 2 (ak (ae (.int 4)) (ak (bc (aV (ak (ae (.str "open")) (ak (ae (.str "ended")) (ak (ae (.str "ring")) af))))) af))))
abbrev oJ:=(bn (rA (bc (kT fyL (ak (aa 4) af))) (qI (ae (.int 1))) (ae none)))
abbrev wB:=(cU (fB (bB (aG jp (bc (ck 1 [3] none (fU B2) (ai 0) (ae true) (a9 fyM (ak (aa 1) (ak (aa 0) af)))))))) (aF (ae (.bl false))) bh)
abbrev Cb:=(ak (aG bU (aa 0)) (ak (ae (.int 12)) af))
def CQ(P0:Addr):aH:=
 (aq (bS (fU (ak (iO (λi j=>if j>i then j else i) (ak (ae (.int 1)) (ak (iO (λi j=>if j<i then j else i) Cb) af))) af)) (ai 1)
   (aq wu (aq wz (aq v0 (aq (cU pQ
   (aq wB (aA 4 (iO (λi j=>if j>i then j else i) (ak (aa 4) pT))))
   bh) (aq (aA 5 (jM 7 P0 cy cw (fyA P0) (ak (aa 3) (ak (aa 4) af)))) (aq Cw (aq (aA 6 (aG kA (bc (ck 1 [3] none oJ (ai 0) (ae true) (bZ (ak (aG eI pO) (ak (aa 0) af))))))) (aq (cU (gX vZ (gX (bB (ag gq (aG bU (aa 5)) (ae (.int 2)))) wj))
   (aF (ae (.bl false)))
   bh) (cU (gX wm (bB (ag gq (aa 5) (aa 6))))
   (aF (ae (.bl false)))
   bh))))))))))
 (aF (ae (.bl true))))
def f_law(P0:Addr):List D->Option D:=kB false 1 8 7 (.tab P0 cy cw) (CQ P0)
def qvj(T:Txt K mg a):FnOk P w K mg base br 10 a.f_law a.fd_law ["_law_script"] (fA K a.tyz cy cw 1 (f_law a.tyz)):=by
 refine T.D_law.F.okT (z:="@t") (j:=7) (u:=.ref a.tyz) sc_law rfl (by unfold jV;decide+kernel) (λvs H Q E h=>h.1) (λcdv A outer s H vs Q E hr h=>?_);refine⟨_,(aX (iL k7 rfl (iN (by rfl) T.z_range (aj (dh (GB rfl) (by rfl) T.z_max (by rfl) (aj aD (aj (dh (GC rfl) (by rfl) T.z_min (by rfl) (aj (dh (fW (K:=K) rfl) (by rfl) T.z_len (by rfl) (aj (pv 0) aw)) (aj aD aw))) aw))) aw)) (gg 1 sc_law.nd) (aX (bM 2 sc_law.nd (bI (quv T) hr.m T.DyC (aj (bI (quw T) hr.m T.DyB (aj (pv 0) (aj (pv 1) aw))) (aj (pv 1) aw)))) (aX (bM 3 sc_law.nd (bI (qut T) hr.m T.DyE (aj (pv 2) (aj aD (aj (eE (aj gP (aj gP (aj gP aw)))) aw))))) (aX (bM 4 sc_law.nd (bI (mK T) hr.m T.DyD (aj (pv 2) (aj aD aw)))) (aX (gx (dE (gp (K:=K) rfl hr.units) (bq (bz (K:=K) rfl) (pv 3) aD) gP (dj)) (aX (gx (qF (mw (dh (FF (K:=K) rfl rfl) (by rfl) T.z_all (by rfl) (aj (gM sc_law ["_law_one","_law_scheme_here"] [3] (iN (by rfl) T.z_range (aj (bq (bz (K:=K) rfl) (pv 3) aD) aw)) (bI (qum T) hr.m T.DyM (aj (pv 1) (aj (pv 0) aw)))) aw)))) (aZ (bW mf)) gC) (aZ (bM 4 sc_law.nd (dh (GB rfl) (by rfl) T.z_max (by rfl) (aj (pv 4) (aj (bq (bz (K:=K) rfl) (pv 3) aD) aw)))))) gC) (aX (bM 5 sc_law.nd (bI (qo5 T) hr.m T.DyA (aj (pv 3) (aj (pv 4) aw)))) (aX (gx (dE (gp (K:=K) rfl hr.units) (pv 4) aD (dj)) (aX (gx (dE yV (pv 5) iW (dj)) (aZ (bW mf)) gC) (aZ qbq)) gC) (aX (bM 6 sc_law.nd (dh (qff (K:=K) rfl rfl hr.units) (by rfl) T.z_min (by rfl) (aj (gM sc_law ["_law_word","_law_scheme_here"] [3] (fu (K:=K) rfl (zL (zA (K:=K) rfl) (bI (qun T) hr.m T.DyL (aj (pv 4) aw)) (y8 aD) y7)) (ie (aj (dh (FG (K:=K) rfl rfl) (by rfl) T.z_sum (by rfl) (aj (bI (qup T) hr.m T.DyI (aj (pv 1) (aj (pv 0) aw))) aw)) (aj (pv 0) aw)))) aw))) (aX (gx (PW.pt (g6 (qF (mw (dh (uJ (K:=K) rfl) (by rfl) T.z_isinstance (by rfl) (aj (pv 5) (aj (uE (v:=.ty "tuple") (by rfl) T.z_tuple (by rfl) rfl) aw))))) (g6 (dE (uj (K:=K) rfl hr.units) (dh (fW (K:=K) rfl) (by rfl) T.z_len (by rfl) (aj (pv 5) aw)) aD (dj)) (gL (qF (mw (bI (Ej T) hr.m T.DyJ (aj (bq (bz (K:=K) rfl) (pv 5) aD) aw)))))))) (aZ (bW mf)) gC) (aZ (gx (PW.pt (g6 (qF (mw (bI (quo T) hr.m T.DyK (aj (bq (bz (K:=K) rfl) (pv 5) aD) (aj (pv 4) aw))))) (gL (dE (uj (K:=K) rfl hr.units) (pv 5) (pv 6) (dj))))) (aZ (bW mf)) gC))))))))))) (aZ (bW mf))),?_⟩;exact Ah (O':=[]) (Nms:=Cp) (by decide) (by unfold CQ;refine(aY (O1:=[]) (iJ (O':=[]) (ng (aB (tS (aB me_int (aB (tS (aB (gT kC jN) (aB me_int aR))) aR))) aR)) rfl (dz (i:=1)) (aY (O1:=[2]) (kG (uM qys (aB (fV qyt (aB (aE (i:=0)) (aB (aE (i:=1)) aR))) (aB (aE (i:=1)) aR))) rfl) (aY (O1:=[2]) (cc (mD (i:=2) qyr (by decide) (aB me_int (aB (dy (gA (aB mq (aB mq (aB mq aR))))) aR)))) (aY (O1:=[]) (cc (mD (i:=2) mO (by decide) (aB me_int aR))) (aY (O1:=[]) (gw ?_ (aY (O1:=[]) (gw ?_ (cn rfl ?_ rfl) (gB rfl)) (cc (tS (aB (aE (i:=4)) (aB (d8 hW (aE (i:=3)) me_int) aR))))) (gB rfl)) (aY (O1:=[]) (cc (uV (by decide) qyu (aB (aE (i:=3)) (aB (aE (i:=4)) aR)))) (aY (O1:=[]) (gw ?_ (aY (O1:=[]) (gw ?_ (cn rfl ?_ rfl) (gB rfl)) (qc5 rfl)) (gB rfl)) (aY (O1:=[]) (cc (pB qrw (dy (iX (bw:=none) (mr (Ga (dy (uM qyp (aB (aE (i:=4)) aR))) (E7 me_int) E6)) (dz (i:=0)) kH (jO (aB (gT xT (dy (uM qyq (aB (aE (i:=1)) (aB (aE (i:=0)) aR)))).mb) (aB (aE (i:=0)) aR))))))) (aY (O1:=[]) (gw (tT (uf (pe (ud (qit T) jN))) (tT (mx (kF wU (gT kC jN) me_int.mb)) (uf (pe (fV C3 (aB (d8 hW (aE (i:=5)) me_int) aR)))))) (cn rfl ?_ rfl) (gB rfl)) (gw ?_ (cn rfl ?_ rfl) (gB rfl))))))))))) (cn rfl ?_ rfl))<;>walk_at "m") h
end
section
variable{r:Int}{U:Zf}{G:Z9}{e:Str}
def lz(ok:q1w r U G e):fy1 [au r U G e]=some (.int (2^r.toNat)):=by
 have r0:=ok.r0;have r4:=ok.r4;have r6:r<=1000000:=by omega
 have hr:fy0 [.int r]=some (.int (2^r.toNat)):=by unfold fy0 ox;clear ok;walk_at "e"
 unfold fy1 ou au;clear ok;walk_at "e"
theorem Fg(n:D):∀(f zq:Nat) (l o:Int),0<=l->l.toNat<2^f->(o=0∨o=1)->f<zq->∃l':Int,gU vV
 wx zq [n,D.int l,D.int o]=some (.nx [n,D.int l',D.int ((o+(bT f l.toNat:Nat)) % 2)])
 |_,0,_,_,_,_,_,h=>absurd h (Nat.not_lt_zero _)
 | f,zq+1,l,o,l0,lf,ho,hf=>by
  have ht:vV [n,D.int l,D.int o]=some (decide (0<l),[some n,some (.int l),some (.int o)]):=by walk_at "e"
  by_cases hl:0<l
  .cases f with
   |zero=>exact absurd lf (by omega)
   | succ f=>
    have hb:wx [n,D.int l,D.int o]=some (.nx [n,D.int (l / 2),D.int (Builtin.bitXor o (Builtin.bitAnd l 1))]):=by clear ht;walk_at "e"
    have ex:Builtin.bitXor o (Builtin.bitAnd l 1)=(o+l % 2) % 2:=by rw[qsa l0];exact qk3 ho (by omega)
    have e2:(l / 2).toNat=l.toNat / 2:=by omega
    have lt2:(l / 2).toNat<2^f:=by rw[e2];rw[Nat.pow_succ]at lf;omega
    let⟨l',ih⟩:=Fg n f zq (l / 2) (Builtin.bitXor o (Builtin.bitAnd l 1)) (by omega) lt2 (by rw[ex];omega) (by omega);refine⟨l',?_⟩;rw[decide_eq_true hl]at ht;unfold gU;rw[ht];dsimp only;rw[hb];dsimp only;rw[ih,ex,e2];have u:bT (f+1) l.toNat=(l.toNat % 2+bT f (l.toNat / 2)) % 2:=rfl;rw[u];have ev:((o+l % 2) % 2+(bT f (l.toNat / 2):Nat)) % 2=(o+(((l.toNat % 2+bT f (l.toNat / 2)) % 2:Nat):Int)) % 2:=by omega
    rw[ev]
  .rw[decide_eq_false hl]at ht;refine⟨l,?_⟩;unfold gU;rw[ht];dsimp only;have e0:l=0:=by omega
   subst e0;rw[show((0:Int)).toNat=0 from rfl,uW];have ev:(o+((0:Nat):Int)) % 2=o:=by omega
   rw[ev]
def sk(n:Int)(h0:0<=n)(h:n<32):fy2 [.int n]=some (.int (bT 5 n.toNat:Nat)):=by
 let⟨l',hw⟩:=Fg (.int n) 5 1000 n 0 h0 (by omega) (.inl rfl) (by decide);have e1:((0:Int)+(bT 5 n.toNat:Nat)) % 2=(bT 5 n.toNat:Nat):=by have:=Fi 5 n.toNat;omega
 rw[e1]at hw;generalize bT 5 n.toNat=p at hw ⊢;unfold fy2 oq;generalize (1000:Nat)=zq at hw ⊢;clear h0 h e1;walk_at "e"
def nU(ok:q1w r U G e)(z6 bit:Int)(a0:0<=z6)(a1:z6<2^r.toNat)(hb:bit=0∨bit=1):
 fy3 [au r U G e,.int z6,.int bit]=some (.tup [.int ((2*z6+bit) % 2^r.toNat),.tup ((U.map (dZ (2*z6+bit))).map D.int)]):=by
 have p16:=kM ok.r0 ok.r4;have hr:=lz ok;have hp:=sk;have m0:(0:Int)<2^r.toNat:=by omega
 have cm:=gn (n:=1) (js:=[3]) (fg:=ai 0) (fe:=a9 fy2 pN) (M:=[au r U G e,D.int z6,D.int bit,D.int (2*z6+bit),none]) (λd=>match d with|.int t=>.int (dZ (2*z6+bit) t)|d=>d) (U.map D.int) (λx hx=>by
  obtain⟨t,ht,rfl⟩:=List.mem_map.mp hx;refine⟨[D.int t,D.int (2*z6+bit)],rfl,?_⟩;have tb:=ok.tb t ht;have w0:0<=2*z6+bit:=by omega
  have ea:=EK w0 tb.1;have lt:(2*z6+bit).toNat &&& t.toNat<32:=Nat.lt_of_le_of_lt Nat.and_le_left (by omega);have hq:=sk (((2*z6+bit).toNat &&& t.toNat:Nat):Int) (by omega) (by omega);rw[xl,<-ea]at hq;show _=some (D.int (dZ (2*z6+bit) t));unfold dZ;generalize 2*z6+bit=W at hq ⊢;generalize bT 5 (W.toNat &&& t.toNat)=z at hq ⊢;clear hx ht tb w0 ea lt hr hp hb a0 a1 m0 p16;walk_at "e")
 have e2:(U.map D.int).map (λd=>match d with|.int t=>D.int (dZ (2*z6+bit) t)|d=>d)=(U.map (dZ (2*z6+bit))).map D.int:=by rw[jt,jt];rfl
 rw[e2]at cm;have ll:(U.map D.int).length<=sizeLine:=by rw[jb];exact dg (by have:=ok.t4;omega)
 unfold fy3 oo;unfold au at cm hr ⊢;generalize (U.map (dZ (2*z6+bit))).map D.int=S at cm ⊢;generalize U.map D.int=TS at cm hr ll ⊢;generalize (2:Int)^r.toNat=m at hr m0 a1 p16 ⊢;have two:2<=sizeLine:=by decide
 clear ok hp hb a0 a1 p16 e2;walk_at "e"
def ul(ok:q1w r U G e):fy5 [au r U G e]=some (.bl (bi e)):=by
 have h1:=nR;have h2:=nS;have h3:=nQ;unfold fy5 ol au bi;rcases ok.en with rfl|rfl|rfl
 .rw[decide_eq_false (by decide)];clear ok;walk_at "e"
 .rw[decide_eq_false (by decide)];clear ok;walk_at "e"
 .rw[decide_eq_true rfl];clear ok;walk_at "e"
def qps(ok:q1w r U G e)(n:Int)(h:e="ring"->r<=n):fy6 [au r U G e,.int n]=some .non:=by
 have hr:=ul ok;unfold fy6 lS;cases hi:bi e with
 | false=>
  rw[hi]at hr;clear ok hi;generalize au r U G e=S at hr ⊢;walk_at "e"
 | true=>
  rw[hi]at hr;have hn:¬n<r:=by have:=h (of_decide_eq_true hi);omega
  unfold au at hr ⊢;clear ok hi h;walk_at "e"
def qp0(ok:q1w r U G "ring")(n:Int)(h:n<r):pZ [au r U G "ring",.int n]=some ("NoWord":Str):=by have hr:=ul ok;have hi:bi "ring"=true:=decide_eq_true rfl;rw[hi]at hr;unfold pZ kZ;unfold au at hr ⊢;clear ok hi;walk_at "e"
def ql7(ok:q1w r U G e):fy7 [au r U G e]=some (.int (aC r e:Nat)):=by
 have h1:=rS;have h2:=rT;have h3:=rR;have r0:=ok.r0;have er:((r.toNat:Nat):Int)=r:=by omega
 unfold fy7 oj au aC;rcases ok.en with rfl|rfl|rfl
 .rw[if_neg (by decide)];clear ok;walk_at "e"
 .rw[if_pos rfl,er];clear ok er;walk_at "e"
 .rw[if_neg (by decide)];clear ok;walk_at "e"
def mF(ok:q1w r U G e):aC r e<=4:=by have:=ok.r4;unfold aC;split<;>omega
def Et(ok:q1w r U G e)(k:Nat):bX (G.map cW) ((k:Int) % ((G.map cW).length:Nat))=some (.tup ((aK G k).map D.int)):=by
 have m1:=ok.m1;have hk:k % G.length<G.length:=Nat.mod_lt _ (by omega);have e1:((k:Int) % ((G.map cW).length:Nat))=((k % G.length:Nat):Int):=by rw[jb];exact(Int.natCast_emod k G.length).symm
 rw[e1,mo (by omega) (by rw[jb];omega),xl,jq];unfold aK;rw[ji hk];rfl
def Gg(ok:q1w r U G e)(k:Nat)(signs:Zf)(hl:signs.length<=1000):
 fy4 [au r U G e,.int k,.tup (signs.map D.int)]=some (.tup ((gk (aK G k) signs).map D.int)):=by
 have hr:=Et ok k;have ze:0<(G.map cW).length:=by have:=ok.m1;rw[jb];omega
 have hz:dn (signs.map D.int) ((aK G k).map D.int)=(signs.zip (aK G k)).map λq=>D.tup [.int q.1,.int q.2]:=qfo;have cm:∀M:av,cz 2 [] none (fP 2 (db (ai 0) (db (ai 1) fT))) (bB (ag fQ (aa 1) (ae (.int 1)))) (aa 0) ((signs.zip (aK G k)).map λq=>D.tup [.int q.1,.int q.2]) M=some ((gk (aK G k) signs).map D.int,M):=λM=>by
  have:=rc (n:=2) (js:=[]) (fg:=fP 2 (db (ai 0) (db (ai 1) fT))) (ft:=bB (ag fQ (aa 1) (ae (.int 1)))) (fe:=aa 0) (M:=M) (λd=>match d with|.tup [_,.int b]=>b==1|_=>false) (λd=>match d with|.tup [x,_]=>x|d=>d) ((signs.zip (aK G k)).map λq=>D.tup [.int q.1,.int q.2]) (λx hx=>by obtain⟨q,_,rfl⟩:=List.mem_map.mp hx;refine⟨[D.int q.1,D.int q.2],rfl,?_,λ_=>rfl⟩;clear hr hz hx;walk_at "e")
  rw[this,List.filter_map,jt];unfold gk;rw[jt];rfl
 have ll:((signs.zip (aK G k)).map λq=>D.tup [.int q.1,.int q.2]).length<=sizeLine:=by rw[jb,vn];exact dg (by have:=vo signs.length (aK G k).length;omega)
 unfold fy4 om au;generalize (signs.zip (aK G k)).map (λq=>D.tup [.int q.1,.int q.2])=Z at hz cm ll;generalize (gk (aK G k) signs).map D.int=Y at cm ⊢;generalize (aK G k).map D.int=R at hr hz;generalize G.map cW=RS at hr ze ⊢;generalize signs.map D.int=S at hz ⊢;clear ok hl;walk_at "e"
def ql4(t:Told):fyj [df t]=some (bd t):=by
 have h1:=AK;have h2:=AJ;have h3:=AH;have h4:=AL;have h5:=AI;unfold fyj xB;cases t with
 |clear b=>unfold df bd;walk_at "e"
 |gap=>unfold df bd;walk_at "e"
 |soft z o=>unfold df bd;walk_at "e"
def Ba(c b:Int):fyd [.obj "Clear" [("bit",.int c)],.int b]=some (.int (if b=c then 0 else 1)):=by
 have h1:iC "Clear" "bit" (.obj "Clear" [("bit",.int c)])=some (.int c):=yP (by simp[List.lookup_cons]);unfold fyd wY;generalize D.obj "Clear" [("bit",.int c)]=X at h1 ⊢;by_cases h:b=c
 .rw[if_pos h];have h':(b==c)=true:=beq_iff_eq.mpr h;clear h;walk_at "e"
 .rw[if_neg h];have h':(b==c)=false:=beq_eq_false_iff_ne.mpr h;walk_at "e"
def A9{X:D}(b:Int):fyf [X,.int b]=some (.int 0):=by unfold fyf wZ;walk_at "e"
def A7(z o b:Int):fyi [.obj "Soft" [("zero",.int z),("one",.int o)],.int b]=some (.int (if b=1 then o else z)):=by
 have nz:(("one":Str)=="zero")=false:=by decide+kernel
 have h1:iC "Soft" "one" (.obj "Soft" [("zero",.int z),("one",.int o)])=some (.int o):=yP (by rw[List.lookup_cons,nz];simp[List.lookup_cons]);have h2:iC "Soft" "zero" (.obj "Soft" [("zero",.int z),("one",.int o)])=some (.int z):=yP (by simp[List.lookup_cons]);unfold fyi xA;generalize D.obj "Soft" [("zero",.int z),("one",.int o)]=X at h1 h2 ⊢;by_cases h:b=1
 .rw[if_pos h];subst h;walk_at "e"
 .rw[if_neg h];have h':(b==1)=false:=beq_eq_false_iff_ne.mpr h;walk_at "e"
def qpr(t:Told)(b:Int):tD [bd t,D.int b]=some (.int (iG t b),[some (bd t),some (.int b)]):=by
 have n1:¬(("Gap":Str)="Clear"):=by decide+kernel
 have n2:¬(("Soft":Str)="Clear"):=by decide+kernel
 have n3:¬(("Soft":Str)="Gap"):=by decide+kernel
 have m1:(("cost":Str)=="bit")=false:=by decide+kernel
 have m2:(("cost":Str)=="zero")=false:=by decide+kernel
 have m3:(("cost":Str)=="one")=false:=by decide+kernel
 cases t with
 | clear c=>
  have h1:jJ "Clear" "cost" fyd (bd (.clear c)) [.int b]=some (.int (iG (.clear c) b)):=(zJ (by rw[List.lookup_cons,m1];rfl)).trans (Ba c b);generalize bd (.clear c)=X at h1 ⊢;generalize iG (.clear c) b=z at h1 ⊢;clear n1 n2 n3 m1 m2 m3;walk_at "e"
 | gap=>
  have h1:jJ "Clear" "cost" fyd (bd .gap) [.int b]=none:=Ab n1;have h2:jJ "Gap" "cost" fyf (bd .gap) [.int b]=some (.int (iG .gap b)):=(zJ rfl).trans (A9 b);generalize bd .gap=X at h1 h2 ⊢;generalize iG .gap b=z at h2 ⊢;clear n1 n2 n3 m1 m2 m3;walk_at "e"
 | soft z o=>
  have h1:jJ "Clear" "cost" fyd (bd (.soft z o)) [.int b]=none:=Ab n2;have h2:jJ "Gap" "cost" fyf (bd (.soft z o)) [.int b]=none:=Ab n3;have h3:jJ "Soft" "cost" fyi (bd (.soft z o)) [.int b]=some (.int (iG (.soft z o) b)):=(zJ (by rw[List.lookup_cons,m2,List.lookup_cons,m3];rfl)).trans (A7 z o b);generalize bd (.soft z o)=X at h1 h2 h3 ⊢;generalize iG (.soft z o) b=y at h3 ⊢;clear n1 n2 n3 m1 m2 m3;walk_at "e"
def Ff(ok:q1w r U G e)(n:Nat)(h:e="ring"->r.toNat<=n):fy9 [au r U G e,.int n]=some (.int ((n+aC r e:Nat):Int)):=by
 have r0:=ok.r0;have hc:=qps ok n (λq=>by have:=h q;omega);have hz:=ql7 ok;have e1:((n+aC r e:Nat):Int)=(n:Int)+(aC r e:Nat):=by omega
 rw[e1];unfold fy9 lP;generalize au r U G e=S at hc hz ⊢;generalize (aC r e:Nat)=z at hz ⊢;clear ok h e1 r0;walk_at "e"
def qu4{S:D}{n' N nz:Int}{S2 F:List D}{v4:Option D}(z0:0<=sizeLine)(hst:fy3 [S,.int 0,.int 0]=some (.tup [.int nz,.tup S2]))(hs:fy9 [S,.int n']=some (.int N))(bg:eQ N=true)
 (l1:eB (ai 4) Cj (cK 0 N.toNat) [S,D.int n',D.tup S2,D.lst [],none]=some (.nx [S,D.int n',D.tup S2,D.lst F,v4])):fya [S,.int n']=some (.lst F):=by
 unfold fya tJ;walk_at "e"
def uN(ok:q1w r U G e)(n:Nat)(hn:n<=60)(h:e="ring"->r.toNat<=n):fya [au r U G e,.int n]=some (.lst ((bE U G (n+aC r e)).map D.int)):=by
 have z4:=mF ok;have hs:=Ff ok n h;have p16:=kM ok.r0 ok.r4;have hst:=nU ok 0 0 (by omega) (by omega) (.inl rfl);have ht:=Gg ok;have sl:∀k,(gk (aK G k) (U.map (dZ (2*0+0)))).length=(bF U G k).length:=λk=>by rw[Ag,jb];rfl
 have s4:∀k,(bF U G k).length<=4:=λk=>by unfold bF;refine x6 (List.length_filter_le _ _) ?_;rw[vn];have:=ok.t4;have:=vo U.length (aK G k).length;omega
 have st:=λk:Nat=>ht k (U.map (dZ (2*0+0))) (by rw[jb];have:=ok.t4;omega);generalize hS2:(U.map (dZ (2*0+0))).map D.int=S2 at hst st;let⟨M',l1,v4,hρ⟩:=iM (fg:=ai 4) (fb:=iw 3 (dc (aV (ak (aa 4) af)) tz))
  (λk M=>∃v4,M=[some (au r U G e),some (.int (n:Int)),some (.tup S2),some (.lst ((bE U G k).map D.int)),v4]) (cK 0 (n+aC r e)) 0
  [some (au r U G e),some (.int (n:Int)),some (.tup S2),some (.lst []),none] ⟨none,rfl⟩ (λi x M hx ⟨v4,hρ⟩=>by
   subst hρ;obtain⟨hi,rfl⟩:=mG hx;rw[xf,Int.zero_add];have eP:bE U G (i+1)=bE U G i++List.replicate (bF U G i).length (i:Int):=i0 _ _;rw[eP,xk,List.map_replicate];have hsa:=st i;have hln:(((gk (aK G i) (U.map (dZ (2*0+0)))).map D.int).length:Int)=((bF U G i).length:Nat):=by rw[jb,sl]
   have hrp:gG [D.int (i:Int)] (.int ((bF U G i).length:Nat))=some (List.replicate (bF U G i).length (.int (i:Int))):=by rw[qR (by omega) (by have:=s4 i;omega),xl]
   have ln:((bE U G i).map D.int).length+(List.replicate (bF U G i).length (D.int (i:Int))).length<=sizeLine:=by have q1:(bE U G i).length<=i*4:=uK _ 4 (λk=>by rw[jx];exact s4 k) i;have q2:=s4 i;rw[jb,jx];exact dg (by omega)
   generalize (gk (aK G i) (U.map (dZ (2*0+0)))).map D.int=PK at hsa hln;rw[<-hln]at hrp;generalize List.replicate (bF U G i).length (D.int (i:Int))=RP at hrp ln ⊢;generalize (bE U G i).map D.int=F at ln ⊢;refine⟨_,[au r U G e,D.int (n:Int),D.tup S2,D.lst (F++RP),D.int (i:Int)],rfl,.inl ?_,some (.int (i:Int)),rfl⟩;have one:1<=sizeLine:=by decide
   generalize au r U G e=S at hsa ⊢;clear hln eP hst st sl s4 hs ok ht hi hx p16 hS2 h;have hrep:(dc (aV (ak (aa 4) af)) tz) [S,D.int (n:Int),D.tup S2,D.lst F,D.int (i:Int)]=some (RP,[some S,some (.int (n:Int)),some (.tup S2),some (.lst F),some (.int (i:Int))]):=by
    refine qG (xs:=[.int (i:Int)]) (y:=.int (PK.length:Nat)) (M1:=[S,D.int (n:Int),D.tup S2,D.lst F,D.int (i:Int)]) ?_ ?_ hrp
    .clear hrp hsa ln;generalize (n:Int)=n';generalize (i:Int)=i';walk_at "e"
    .clear hrp ln;generalize (n:Int)=n';generalize (i:Int)=i' at hsa ⊢;walk_at "e"
   generalize (dc (aV (ak (aa 4) af)) tz)=FR at hrep ⊢;clear hrp hsa;generalize (n:Int)=n' at hrep ⊢;generalize (i:Int)=i' at hrep ⊢;walk_at "e")
 subst hρ;rw[ig,xf]at l1;have bg:eQ ((n+aC r e:Nat):Int)=true:=by unfold eQ;simp;omega
 have z0:0<=sizeLine:=by decide
 have tn:((n+aC r e:Nat):Int).toNat=n+aC r e:=xl _;rw[<-tn]at l1;exact qu4 z0 hst hs bg l1
def ql6(ok:q1w r U G e)(n:Nat)(hn:n<=60)(h:e="ring"->r.toNat<=n)(hs:List D)(hl:hs.length=(bE U G (n+aC r e)).length):fyk [au r U G e,.int n,.lst hs]=some .non:=by
 have hp:=uN ok n hn h;have hl2:hs.length=((bE U G (n+aC r e)).map D.int).length:=by rw[jb,hl]
 unfold fyk xC;generalize (bE U G (n+aC r e)).map D.int=F at hp hl2;generalize au r U G e=S at hp ⊢;clear ok h hl hn;walk_at "e"
def qoz(ok:q1w r U G "ring")(n:Nat)(h:n<r.toNat):p0 [au r U G "ring",.int n]=some ("NoWord":Str):=by have hc:=qp0 ok n (by omega);unfold p0 kY;generalize au r U G "ring"=S at hc ⊢;clear ok h;walk_at "e"
def qk6(ok:q1w r U G "ring")(n:Nat)(h:n<r.toNat):o5 [au r U G "ring",.int n]=some ("NoWord":Str):=by
 have hc:=qoz ok n h;have p16:=kM ok.r0 ok.r4;have hst:=nU ok 0 0 (by omega) (by omega) (.inl rfl);have z0:0<=sizeLine:=by decide
 unfold o5 tW;generalize (U.map (dZ (2*0+0))).map D.int=S2 at hst;generalize (2*0+0) % 2^r.toNat=nz at hst;generalize au r U G "ring"=S at hc hst ⊢;clear ok h p16;walk_at "e"
def uq{M M1:av}{fs:aS}{n:Int}(h:fs M=some ([.int n],M1))(bg:eQ n=true):fU fs M=some (cK 0 n.toNat,M1):=by rw[EZ,h];show((if eQ n=true then some (cK 0 n.toNat)else none).map λx=>(x,M1))=_;rw[if_pos bg];rfl
def cD{f g:aH}{M M1:av}(h:f M=some (.nx M1)):aq f g M=g M1:=by rw[E2,h];rfl
def ut{b:aH}{n k:Nat}{ds:List D}{d:D}(hl:ds.length=n)(h:∃M,b (ds.map some++List.replicate (k-n) none)=some (.rt d M)):aM false n k b ds=some d:=by obtain⟨M,h⟩:=h;unfold aM;rw[if_pos hl,h]
def ql3{ts:List Told}{bits:Zf}(hl:ts.length<=1000):fyl [.lst (ts.map bd),.tup (bits.map D.int)]=some (.int (fS ts bits)):=by
 have hz:dn (ts.map bd) (bits.map D.int)=(ts.zip bits).map λq=>D.tup [bd q.1,.int q.2]:=by rw[Gu,zU,jt];rfl
 have cm:∀M:av,cz 2 [] none (fP 2 (db (ai 0) (db (ai 1) fT))) (ae true) tD ((ts.zip bits).map λq=>D.tup [bd q.1,.int q.2]) M=some (((ts.zip bits).map λq=>iG q.1 q.2).map D.int,M):=λM=>by
  have:∀zs:List (Told×Int),cz 2 [] none (fP 2 (db (ai 0) (db (ai 1) fT))) (ae true) tD (zs.map λq=>D.tup [bd q.1,.int q.2]) M=some ((zs.map λq=>iG q.1 q.2).map D.int,M):=λzs=>by
   induction zs with
   |nil=>rfl
   | cons q zs ih=>
    have hg:(fP 2 (db (ai 0) (db (ai 1) fT))) (D.tup [bd q.1,.int q.2]) (hV 2 [] M)=some [some (bd q.1),some (.int q.2)]:=rfl;rw[x8];unfold cz;rw[hg];dsimp only[ae];rw[qpr q.1 q.2];dsimp only[gO];rw[ih];rfl
  exact this _
 have ll:((ts.zip bits).map λq=>D.tup [bd q.1,.int q.2]).length<=sizeLine:=by rw[jb,vn];exact dg (by have:=vo ts.length bits.length;omega)
 have hi:=i3 ((ts.zip bits).map λq=>iG q.1 q.2);unfold fyl xD fS;generalize (ts.zip bits).map (λq=>D.tup [bd q.1,.int q.2])=Z at hz cm ll;generalize (ts.zip bits).map (λq=>iG q.1 q.2)=Y at cm hi ⊢;generalize ts.map bd=TS at hz ⊢;generalize bits.map D.int=B at hz ⊢;generalize Y.map D.int=YD at cm hi;clear hl;walk_at "e"
def qpb(S T:D)(n' N:Int)(hs:fy9 [S,.int n']=some (.int N))(bg:eQ N=true):oS [S,D.int n',T,none,none,none]=some (cK 0 N.toNat,[some S,some (.int n'),some T,none,none,none]):=by unfold oS;walk_at "e"
def qtk(S:D)(n':Int)(T P Z:List D)(hp:fya [S,.int n']=some (.lst P))(hz:dn P T=Z):Ns (gH (ak l5 (ak (aa 2) af))) [S,D.int n',D.lst T,none,none,none] Z:=by walk_at "e"
def qtl{S T u t o:D}{n':Int}(h:fyj [t]=some o):Ns (ak (a9 fyj (ak (aa 5) af)) af) [S,D.int n',T,none,u,t] [o]:=by walk_at "e"
def qyh(ok:q1w r U G e)(n:Nat)(hn:n<=60)(h:e="ring"->r.toNat<=n)(ts:List Told)(hl:ts.length=(bE U G (n+aC r e)).length):
 fym [au r U G e,.int n,.lst (ts.map df)]=some (.lst ((List.range (n+aC r e)).map λk=>D.lst ((aQ U G ts k).map bd))):=by
 have z4:=mF ok;have hs:=Ff ok n h;have hp:=uN ok n hn h;have s4:∀k,(bF U G k).length<=4:=λk=>by unfold bF;refine x6 (List.length_filter_le _ _) ?_;rw[vn];have:=ok.t4;have:=vo U.length (aK G k).length;omega
 have q1:(bE U G (n+aC r e)).length<=(n+aC r e)*4:=uK _ 4 (λk=>by rw[jx];exact s4 k) _;have bg:eQ ((n+aC r e:Nat):Int)=true:=by unfold eQ;simp;omega
 have hi:=qpb (au r U G e) (.lst (ts.map df)) n _ hs bg;rw[xl]at hi;have hz:dn ((bE U G (n+aC r e)).map D.int) (ts.map df)=((bE U G (n+aC r e)).zip ts).map λq=>D.tup [.int q.1,df q.2]:=by rw[Gu,zU,jt];rfl
 have hzz:=qtk (au r U G e) n (ts.map df) _ _ hp hz;let⟨u',v',hr⟩:=Gn (i:=3) (a:=4) (b:=5) (fe:=aa 4) (fs:=ak (a9 fyj (ak (aa 5) af)) af) df bd (λu v=>[some (au r U G e),some (.int n),some (.lst (ts.map df)),none,u,v]) (λ_ _=>rfl) (λ_ _ _ _=>rfl) (λ_ _=>rfl) (λk t=>qtl (ql4 t))
  ((bE U G (n+aC r e)).zip ts) (List.replicate (n+aC r e) []) none none (λq hq=>by
    have hm:=(List.of_mem_zip hq).1;unfold bE at hm;let⟨k,hk,hm⟩:=List.mem_flatMap.mp hm;rw[List.eq_of_mem_replicate hm,jx];exact⟨by omega,by rw[xl];exact List.mem_range.mp hk⟩) (λg hg=>by
    rw[List.eq_of_mem_replicate hg,vn];have:=vo (bE U G (n+aC r e)).length ts.length;exact jz (by simp;omega:_<1000) (by decide))
 rw[qhf (n+aC r e) (by omega),List.map_replicate,jt]at hr;show oP (qx _)=_;have hD:qx [au r U G e,.int n,.lst (ts.map df)]=some ((List.range (n+aC r e)).map ((λg=>g.map bd)∘aQ U G ts)):=by
  unfold qx mR;refine(if_pos rfl).trans ?_;show(match oS [au r U G e,D.int n,D.lst (ts.map df),none,none,none]with
   | some (xs,M1)=>if 3<M1.length/\xs.length<=sizeLine then(match oO (M1.set 3 none) (List.replicate xs.length [])with
    |some p=>some p.2
    |none=>none)else none
   |none=>none)=_
  rw[hi];simp only;rw[if_pos ⟨by simp,by rw[ig];exact dg (by omega)⟩,ig];have hb:oO [au r U G e,D.int n,D.lst (ts.map df),none,none,none] (List.replicate (n+aC r e) [])=some ([some (au r U G e),some (.int n),some (.lst (ts.map df)),none,u',v'],(List.range (n+aC r e)).map ((λg=>g.map bd)∘aQ U G ts)):=by unfold oO ub;rw[hzz];exact(if_pos rfl).trans hr
  have es:([some (au r U G e),some (.int n),some (.lst (ts.map df)),none,none,none]:av).set 3 none=[some (au r U G e),some (.int n),some (.lst (ts.map df)),none,none,none]:=rfl;rw[es,hb]
 rw[hD];show some (D.lst _)=some (D.lst _);rw[jt];rfl
def qvt{S:D}{k' z6 bit nx c:Int}{G S2 P:List D}(two:2<=sizeLine)(h1:fy3 [S,.int z6,.int bit]=some (.tup [.int nx,.tup S2]))(h2:fy4 [S,.int k',.tup S2]=some (.tup P))(h3:fyl [.lst G,.tup P]=some (.int c)):fyn [S,.int k',.lst G,.int z6,.int bit]=some (.tup [.int nx,.int c]):=by unfold fyn xE;walk_at "e"
def qyg(ok:q1w r U G e)(k:Nat)(ts:List Told)(hl:(aQ U G ts k).length<=1000)(z6 bit:Int)(a0:0<=z6)(a1:z6<2^r.toNat)(hb:bit=0∨bit=1):fyn [au r U G e,.int k,.lst ((aQ U G ts k).map bd),.int z6,.int bit]=some (ni (il r U G ts k z6 bit)):=
 qvt (by decide) (nU ok z6 bit a0 a1 hb) (Gg ok k _ (by rw[jb];have:=ok.t4;omega)) (ql3 hl)
def qw2{S:D}{k' z6:Int}{G BS YS:List D}(ll:BS.length<=sizeLine)(cm:cz 1 [0,1,2,3] none (ai 0) (ae true) (a9 fyn tx) BS [S,D.int k',D.lst G,D.int z6,D.tup BS]=some (YS,[some S,some (.int k'),some (.lst G),some (.int z6),some (.tup BS)])):fyo [S,.int k',.lst G,.int z6,.tup BS]=some (.lst YS):=by unfold fyo xF;walk_at "e"
def qw3{S:D}{k' z6 b:Int}{G:List D}{y:D}(h:fyn [S,.int k',.lst G,.int z6,.int b]=some y):((a9 fyn tx) [D.int b,S,D.int k',D.lst G,D.int z6]).map (·.1)=some y:=by walk_at "e"
def A8(ok:q1w r U G e)(k:Nat)(ts:List Told)(hl:(aQ U G ts k).length<=1000)(z6:Int)(a0:0<=z6)(a1:z6<2^r.toNat)(n:Nat):fyo [au r U G e,.int k,.lst ((aQ U G ts k).map bd),.int z6,.tup ((eL n k).map D.int)]=some (gE ((eL n k).map λb=>il r U G ts k z6 b)):=by
 have l2:(eL n k).length<=2:=by unfold eL;split<;>simp
 have hb:∀b∈eL n k,b=0∨b=1:=by unfold eL;split<;>simp
 have cm:=gn (n:=1) (js:=[0,1,2,3]) (fg:=ai 0) (fe:=a9 fyn tx)
  (M:=[au r U G e,D.int k,D.lst ((aQ U G ts k).map bd),D.int z6,D.tup ((eL n k).map D.int)]) (λd=>match d with|.int b=>ni (il r U G ts k z6 b)|d=>d) ((eL n k).map D.int) (λx hx=>by obtain⟨b,hm,rfl⟩:=List.mem_map.mp hx;exact⟨_,rfl,qw3 (qyg ok k ts hl z6 b a0 a1 (hb b hm))⟩)
 rw[jt]at cm;have:=qw2 (dg (by rw[jb];omega)) cm;rw[this];unfold gE;rw[jt];rfl
def qlb{S T:D}{n' k':Int}{F:List D}{g:D}{v6:Option D}(two:2<=sizeLine)(n k:Nat)(hn:n'=(n:Nat))(hk:k'=(k:Nat)):Cm [S,D.int n',T,D.lst F,D.int k',g,v6]=some (.nx [S,D.int n',T,D.lst F,D.int k',g,D.tup ((eL n k).map D.int)]):=by
 have one:1<=sizeLine:=by decide
 unfold eL;by_cases h:k<n
 .have h':k'<n':=by omega
  rw[if_pos h];show _=some (Out.nx [_,_,_,_,_,_,some (.tup [.int 0,.int 1])]);clear hn hk h;walk_at "e"
 .have h':¬k'<n':=by omega
  rw[if_neg h];show _=some (Out.nx [_,_,_,_,_,_,some (.tup [.int 0])]);clear hn hk h;walk_at "e"
def qq8{S T:D}{n' k' ρ:Int}{F YS:List D}{g bs:D}{FE:aJ}(hr:fy1 [S]=some (.int ρ))(bg:eQ ρ=true)(l1:(cK 0 ρ.toNat).length<=sizeLine)(l2:F.length<sizeLine)
 (cm:cz 1 [0,4,5,6] none (ai 0) (ae true) FE (cK 0 ρ.toNat) [S,D.int n',T,D.lst F,D.int k',g,bs]=some (YS,[some S,some (.int n'),some T,some (.lst F),some (.int k'),some g,some bs])):
 (dN i4 3 (ak (bc (ck 1 [0,4,5,6] none wq (ai 0) (ae true) FE)) af)) [S,D.int n',T,D.lst F,D.int k',g,bs]=some (.nx [S,D.int n',T,D.lst (F++[.lst YS]),D.int k',g,bs]):=by
 walk_at "e"
abbrev CA:=Ci
def qq7{S:D}{k' z6:Int}{g bs y:D}(h:fyo [S,.int k',g,.int z6,bs]=some y):((a9 fyo CA) [D.int z6,S,D.int k',g,bs]).map (·.1)=some y:=by walk_at "e"
def qq6{S:D}{n':Int}{T G F:List D}{v4 v5 v6:Option D}{FB:aH}(z0:0<=sizeLine)(hc:fyk [S,.int n',.lst T]=some .non)(hg:fym [S,.int n',.lst T]=some (.lst G))
 (l1:eB (fP 2 (db (ai 4) (db (ai 5) fT))) FB (iS G) [S,D.int n',D.lst T,D.lst [],none,none,none]=some (.nx [S,D.int n',D.lst T,D.lst F,v4,v5,v6])):
 (aM false 3 7 (aq (mj (a9 fyk gN)) (aq (cE 3 (aV af)) (aq (bS (p7 (a9 fym gN)) (fP 2 (db (ai 4) (db (ai 5) fT))) FB) (aF (aa 3)))))) [S,.int n',.lst T]=some (.lst F):=by
 walk_at "e"
def qyf(ok:q1w r U G e)(n:Nat)(hn:n<=60)(h:e="ring"->r.toNat<=n)(ts:List Told)(hl:ts.length=(bE U G (n+aC r e)).length):
 fyp [au r U G e,.int n,.lst (ts.map df)]=some (fR (bQ r U G ts n 0 (n+aC r e))):=by
 have z4:=mF ok;have p16:=kM ok.r0 ok.r4;have hc:=ql6 ok n hn h (ts.map df) (by rw[jb];exact hl);have hg:=qyh ok n hn h ts hl;have hr:=lz ok;have pn:=gR (r:=r);have s4:∀k,(bF U G k).length<=4:=λk=>by unfold bF;refine x6 (List.length_filter_le _ _) ?_;rw[vn];have:=ok.t4;have:=vo U.length (aK G k).length;omega
 have c4:∀k,(aQ U G ts k).length<=1000:=λk=>by unfold aQ;rw[k6];have:=s4 k;omega
 have bg:eQ ((2:Int)^r.toNat)=true:=by unfold eQ;simp;omega
 have tn:((2:Int)^r.toNat).toNat=2^r.toNat:=by omega
 have lr:(cK 0 ((2:Int)^r.toNat).toNat).length<=sizeLine:=by rw[ig,tn];exact dg (by omega)
 let⟨M',l1,v4,v5,v6,hρ⟩:=iM (fg:=fP 2 (db (ai 4) (db (ai 5) fT))) (fb:=CG)
  (λk M=>∃v4 v5 v6,M=[some (au r U G e),some (.int (n:Int)),some (.lst (ts.map df)),some (.lst ((bQ r U G ts n 0 k).map fK)),v4,v5,v6]) (iS ((List.range (n+aC r e)).map λk=>D.lst ((aQ U G ts k).map bd))) 0
  [some (au r U G e),some (.int (n:Int)),some (.lst (ts.map df)),some (.lst []),none,none,none] ⟨none,none,none,rfl⟩ (λi x M hx ⟨v4,v5,v6,hρ⟩=>by
   subst hρ;rw[GI,jq]at hx;have hi:i<n+aC r e:=by
    rcases Nat.lt_or_ge i (n+aC r e)with z|z
    .exact z
    .rw[xh (by simp;omega)]at hx;cases hx
   rw[kc hi]at hx;have hx:x=D.tup [.int (i:Int),.lst ((aQ U G ts i).map bd)]:=(jl hx).symm;subst hx;rw[xf];have cm:=gn (n:=1) (js:=[0,4,5,6]) (fg:=ai 0) (fe:=a9 fyo CA)
    (M:=[au r U G e,D.int (n:Int),D.lst (ts.map df),D.lst ((bQ r U G ts n 0 i).map fK),D.int (i:Int),D.lst ((aQ U G ts i).map bd),D.tup ((eL n i).map D.int)])
    (λd=>match d with|.int z6=>gE ((eL n i).map λb=>il r U G ts i z6 b)|d=>d) (cK 0 ((2:Int)^r.toNat).toNat) (λx hx=>by let⟨k,hk⟩:=List.mem_iff_getElem?.mp hx;obtain⟨hk1,rfl⟩:=mG hk;rw[Int.zero_add];exact⟨_,rfl,qq7 (A8 ok i ts (c4 i) (k:Int) (by omega) (by omega) n)⟩)
   have ey:(cK 0 ((2:Int)^r.toNat).toNat).map (λd=>match d with|.int z6=>gE ((eL n i).map λb=>il r U G ts i z6 b)|d=>d)=(stepK r U G ts n i).map gE:=by unfold cK L2.stepK;rw[tn,jt,jt];refine List.map_congr_left λk _=>?_;simp
   rw[ey]at cm;have es:bQ r U G ts n 0 (i+1)=bQ r U G ts n 0 i++[stepK r U G ts n i]:=by unfold bQ;rw[List.range'_concat,xk];simp
   have lf:((bQ r U G ts n 0 i).map fK).length<sizeLine:=by unfold bQ;rw[jb,jb,List.length_range'];exact jz (by omega:i<1000) (by decide)
   refine⟨_,[au r U G e,D.int (n:Int),D.lst (ts.map df),D.lst ((bQ r U G ts n 0 (i+1)).map fK),D.int (i:Int),D.lst ((aQ U G ts i).map bd),D.tup ((eL n i).map D.int)],rfl,.inl ?_,_,_,_,rfl⟩;refine(cD (qlb (by decide) n i rfl rfl)).trans ?_;rw[es,xk];exact qq8 hr bg lr lf cm)
 subst hρ;have le:(iS ((List.range (n+aC r e)).map λk=>D.lst ((aQ U G ts k).map bd))).length=n+aC r e:=by unfold iS;simp
 rw[le,xf]at l1;unfold fyp xG fR;exact qq6 (by decide) hc hg l1
end
def qrx{a c x:Int}{B:List D}(h:bX B a=some (.int x)):fyr [.tup [.int a,.int c],.lst B]=some (.int (c+x)):=by unfold fyr tY;walk_at "e"
def qry{a c:Int}{B:List D}(h:bX B a=some .non):fyr [.tup [.int a,.int c],.lst B]=some .non:=by unfold fyr tY;walk_at "e"
def EL{t:Rw}{a:Int}(h0:0<=a)(h1:a.toNat<t.length):bX (t.map bJ) a=some (bJ (dJ t a)):=by rw[mo h0 (by rw[jb];omega),jq];unfold dJ;rw[ji h1];rfl
def ql5(q:Mv)(t:Rw)(h0:0<=q.1)(h1:q.1.toNat<t.length):fyr [ni q,dG t]=some (bJ (dI q t)):=by
 have h:=EL h0 h1;unfold dI;cases e:dJ t q.1 with
 | none=>
  rw[e]at h;exact qry h
 | some x=>
  rw[e]at h;exact qrx h
def qwc{q z9 y:D}(h:fyr [q,z9]=some y):((a9 fyr (ak (aa 0) (ak (aa 1) af))) [q,z9]).map (·.1)=some y:=by walk_at "e"
def qwb{CH YS ZS:List D}{z9 m:D}(l1:CH.length<=sizeLine)(l2:YS.length<=sizeLine)(cm:cz 1 [1] none (ai 0) (ae true) (a9 fyr (ak (aa 0) (ak (aa 1) af))) CH [D.lst CH,z9,none]=some (YS,[some (.lst CH),some z9,none]))
 (cf:cz 1 [] none (ai 0) (bB (ag iU (aa 0) (ae .non))) (aa 0) YS [D.lst CH,z9,D.lst YS]=some (ZS,[some (.lst CH),some z9,some (.lst YS)])) (hm:oQ (.lst ZS)=some m):fys [.lst CH,z9]=some m:=by
 unfold fys xI;generalize hd:oQ=dm at hm ⊢;walk_at "e"
theorem zG:∀ys:List (Option Int),((ys.map bJ).filter λd=>match d with|.non=>false|_=>true)=(ys.filterMap id).map D.int
 |[]=>rfl
 | none::ys=>by rw[x8,List.filter_cons];exact zG ys
 | some x::ys=>by rw[x8,List.filter_cons];show D.int x::_=D.int x::_;rw[zG ys]
def GU(ch:List Mv)(t:Rw)(hl:ch.length<=1000)(h:∀q∈ch,0<=q.1/\q.1.toNat<t.length):fys [gE ch,dG t]=some (bJ (fm ch t)):=by
 have cm:=gn (n:=1) (js:=[1]) (fg:=ai 0) (fe:=a9 fyr (ak (aa 0) (ak (aa 1) af))) (M:=[gE ch,dG t,none])
  (λd=>match d with|.tup [.int a,.int c]=>bJ (dI (a,c) t)|d=>d) (ch.map ni) (λx hx=>by obtain⟨q,hq,rfl⟩:=List.mem_map.mp hx;exact⟨_,rfl,qwc (ql5 q t (h q hq).1 (h q hq).2)⟩)
 have e1:(ch.map ni).map (λd=>match d with|.tup [.int a,.int c]=>bJ (dI (a,c) t)|d=>d)=(ch.map λq=>dI q t).map bJ:=by rw[jt,jt];rfl
 rw[e1]at cm;have cf:=rc (n:=1) (js:=[]) (fg:=ai 0) (ft:=bB (ag iU (aa 0) (ae .non))) (fe:=aa 0) (M:=[gE ch,dG t,D.lst ((ch.map λq=>dI q t).map bJ)])
  (λd=>match d with|.non=>false|_=>true) (λd=>d) ((ch.map λq=>dI q t).map bJ) (λx hx=>by
    obtain⟨o,_,rfl⟩:=List.mem_map.mp hx;refine⟨[some (bJ o)],rfl,?_,λ_=>rfl⟩;cases o with
    |none=>rfl
    |some y=>rfl)
 have e2:∀zs:List D,zs.map (λd=>d)=zs:=λzs=>by simp
 rw[zG,e2]at cf;refine qwb (dg (by rw[jb];omega)) (dg (by rw[jb,jb];omega)) cm cf ?_;show(dH _).map (λns=>bJ (cG ns))=_;rw[i3];rfl
def D7{ch:List Mv}{hh:Rw}{y:D}(h:fys [gE ch,dG hh]=some y):(match gE ch with|.lst xs=>(match fys [.lst xs,dG hh]with|some y=>y|none=>.non)|d=>d)=y:=by unfold gE at h ⊢;dsimp only;rw[h]
def qxp{ch z9 y:D}(h:fys [ch,z9]=some y):((a9 fys (ak (aa 0) (ak (aa 1) af))) [ch,z9]).map (·.1)=some y:=by walk_at "e"
def qsd{ST EN x:D}{TB:List D}{v4:Option D}{b:D}(h:bX TB (-1)=some b):Nx B0 [ST,EN,D.lst TB,x,v4] 4 b:=by walk_at "e"
def qxq{ST EN b:D}{TB CH YS:List D}{FE:aJ}(l1:CH.length<=sizeLine)(l2:TB.length<sizeLine)(cm:Ns (cz 1 [4] none (ai 0) (ae true) FE CH) [ST,EN,D.lst TB,D.lst CH,b] YS):Nx (dN i4 2 (ak (bc (ck 1 [4] none (bn (aa 3)) (ai 0) (ae true) FE)) af)) [ST,EN,D.lst TB,D.lst CH,b] 2 (D.lst (TB++[.lst YS])):=by
 walk_at "e"
def qxo(SS TB:List D)(EN:D)(v3 v4:Option D)(FB:aH)(one:1<=sizeLine)(l1:eB (ai 3) FB SS.reverse [D.lst SS,EN,D.lst [EN],none,none]=some (.nx [D.lst SS,EN,D.lst TB,v3,v4])):
 (aM false 2 5 (aq (cE 2 (aV (ak (aa 1) af))) (aq (bS (f6 (aa 0)) (ai 3) FB) (aF (bc (f6 (aa 2))))))) [.lst SS,EN]=some (.lst TB.reverse):=by
 walk_at "e"
def FZ{steps:List Sx}{ends:Rw}{ρ:Nat}(he:ends.length=ρ)(hs:∀st∈steps,st.length=ρ):((bG steps ends).headD []).length=ρ:=by
 cases steps with
 |nil=>exact he
 | cons st rest=>
  show(st.map _).length=ρ;rw[jb];exact hs st jj
def qhu(steps:List Sx)(ends:Rw)(ρ:Nat)(hM:ρ<=1000)(hN:steps.length<=1000)(he:ends.length=ρ)(hs:∀st∈steps,st.length=ρ/\∀ch∈st,ch.length<=2/\∀q∈ch,0<=q.1/\q.1.toNat<ρ):
 fyt [fR steps,dG ends]=some (oK (bG steps ends)):=by
 let⟨M',l1,v3,v4,hρ⟩:=iM (fg:=ai 3) (fb:=Cz)
  (λk M=>∃v3 v4,M=[some (fR steps),some (dG ends),some (.lst ((bG (steps.drop (steps.length-k)) ends).reverse.map dG)),v3,v4]) (steps.map fK).reverse 0
  [some (fR steps),some (dG ends),some (.lst [dG ends]),none,none] ⟨none,none,by rw[Nat.sub_zero,List.drop_length];rfl⟩ (λi x M hx ⟨v3,v4,hρ⟩=>by
   subst hρ;rw[xf];have hi:i<steps.length:=by have:=(List.getElem?_eq_some_iff.mp hx).1;simpa using this
   have hlt:steps.length-1-i<steps.length:=by omega
   rw[List.getElem?_reverse (by rw[jb];exact hi),jb,jq,ji hlt]at hx;have hx:x=fK steps[steps.length-1-i]:=(jl hx).symm;subst hx;have hst:=hs _ (xw hlt);have ed:steps.drop (steps.length-(i+1))=steps[steps.length-1-i]::steps.drop (steps.length-i):=by rw[show steps.length-(i+1)=steps.length-1-i from by omega,vh hlt];congr 2;omega
   generalize steps[steps.length-1-i]=st at hst ed ⊢;rw[ed];have hd:((bG (steps.drop (steps.length-i)) ends).headD []).length=ρ:=FZ he λz hz=>(hs z (List.mem_of_mem_drop hz)).1;have hla:=Ak (steps.drop (steps.length-i)) ends;have hlast:bX ((bG (steps.drop (steps.length-i)) ends).reverse.map dG) (-1)=some (dG ((bG (steps.drop (steps.length-i)) ends).headD [])):=by
    generalize bG (steps.drop (steps.length-i)) ends=tt at hla ⊢;cases tt with
    |nil=>simp at hla
    | cons a b=>
     rw[List.reverse_cons,xk];exact qs6
   have eA:bG (st::steps.drop (steps.length-i)) ends=(st.map λch=>fm ch ((bG (steps.drop (steps.length-i)) ends).headD []))::bG (steps.drop (steps.length-i)) ends:=rfl;rw[eA];generalize (bG (steps.drop (steps.length-i)) ends).headD []=hh at hd hlast ⊢;generalize bG (steps.drop (steps.length-i)) ends=tt at hla hlast ⊢;have cm:=gn (n:=1) (js:=[4]) (fg:=ai 0) (fe:=a9 fys (ak (aa 0) (ak (aa 1) af))) (M:=[fR steps,dG ends,D.lst (tt.reverse.map dG),fK st,dG hh])
    (λd=>match d with|.lst xs=>(match fys [.lst xs,dG hh]with|some y=>y|none=>.non)|d=>d) (st.map gE) (λx hx=>by obtain⟨ch,hc,rfl⟩:=List.mem_map.mp hx;have hp:=GU ch hh (by have:=(hst.2 ch hc).1;omega) (λq hq=>by rw[hd];exact(hst.2 ch hc).2 q hq);refine⟨_,rfl,?_⟩;rw[D7 hp];exact qxp hp)
   have ey:(st.map gE).map (λd=>match d with|.lst xs=>(match fys [.lst xs,dG hh]with|some y=>y|none=>.non)|d=>d)=(st.map λch=>fm ch hh).map bJ:=by rw[jt,jt];refine List.map_congr_left λch hc=>?_;exact D7 (GU ch hh (by have:=(hst.2 ch hc).1;omega) (λq hq=>by rw[hd];exact(hst.2 ch hc).2 q hq))
   rw[ey]at cm;have lt:(tt.reverse.map dG).length<sizeLine:=by rw[jb,List.length_reverse,hla,xv];exact jz (by omega:_<2000) (by decide)
   refine⟨_,[fR steps,dG ends,D.lst (((st.map λch=>fm ch hh)::tt).reverse.map dG),fK st,dG hh],rfl,.inl ?_,_,_,rfl⟩;refine(cD (qsd hlast)).trans ?_;rw[List.reverse_cons,xk];exact qxq (dg (by rw[jb];omega)) lt cm)
 subst hρ;rw[List.length_reverse,jb,xf,Nat.sub_self,List.drop_zero]at l1;unfold fyt xJ;refine(qxo (steps.map fK) _ _ _ _ _ (by decide) l1).trans ?_;unfold oK;rw[<-List.map_reverse,List.reverse_reverse]
section
variable{r:Int}{U:Zf}{G:Z9}{e:Str}
def Be:cV (.str "open") (.str "open")=some true:=by rw[gQ (by decide+kernel) (by decide+kernel)];decide+kernel
def Bf:cV (.str "ended") (.str "open")=some false:=by rw[gQ (by decide+kernel) (by decide+kernel)];decide+kernel
def Bd:cV (.str "ring") (.str "open")=some false:=by rw[gQ (by decide+kernel) (by decide+kernel)];decide+kernel
def qro(R TS RS:D)(s ρ:Int)(Y:List D)(h:cV (.str e) (.str "open")=some true)(hr:fy1 [.tup [R,TS,RS,.str e]]=some (.int ρ))(hy:gG [.int 0] (.int ρ)=some Y)(one:1<=sizeLine):fyq [.tup [R,TS,RS,.str e],.int s]=some (.lst Y):=by
 unfold fyq xH;have hrep:(dc (aV (ak (ae (.int 0)) af)) (a9 fy1 (ak (aa 0) af))) [D.tup [R,TS,RS,.str e],D.int s,none]=some (Y,[some (.tup [R,TS,RS,.str e]),some (.int s),none]):=by
  refine qG (xs:=[.int 0]) (y:=.int ρ) (M1:=[D.tup [R,TS,RS,.str e],D.int s,none]) ?_ ?_ hy
  .clear hy h hr;walk_at "e"
  .clear hy h;walk_at "e"
 generalize (dc (aV (ak (ae (.int 0)) af)) (a9 fy1 (ak (aa 0) af)))=FR at hrep ⊢;clear hy hr;walk_at "e"
def qxd{z6 en:Int}:(tw [D.int z6,D.int en]).map (·.1)=some (bJ (if z6=en then some 0 else none)):=by
 by_cases h:z6=en
 .subst h;rw[if_pos rfl];walk_at "e"
 .have h':(z6==en)=false:=beq_eq_false_iff_ne.mpr h;rw[if_neg h];walk_at "e"
def BD{R TS RS:D}{s:Int}{FR:aH}(h:cV (.str e) (.str "open")=some false):Nz (cU Cg FR bh) [D.tup [R,TS,RS,.str e],D.int s,none]:=by walk_at "e"
def BC{S:D}{s en:Int}{b:Bool}(hb:fy5 [S]=some (.bl b))(hen:en=(if b=true then s else 0)):Ch [S,D.int s,none]=some (.nx [S,D.int s,D.int en]):=by
 cases b with
 | true=>
  have hen:en=s:=hen;rw[hen];clear hen;walk_at "e"
 | false=>
  have hen:en=0:=hen;rw[hen];clear hen;walk_at "e"
def BB{S:D}{s ρ en:Int}{Y:List D}{FE:aJ}(hr:fy1 [S]=some (.int ρ))(bg:eQ ρ=true)(l1:(cK 0 ρ.toNat).length<=sizeLine)(cm:Ns (cz 1 [2] none (ai 0) (ae true) FE (cK 0 ρ.toNat)) [S,D.int s,D.int en] Y):Nr (aF (bc (ck 1 [2] none wq (ai 0) (ae true) FE))) [S,D.int s,D.int en] (D.lst Y):=by
 walk_at "e"
def qmj(R TS RS:D)(s ρ en:Int)(b:Bool)(Y:List D)(h:cV (.str e) (.str "open")=some false)(hb:fy5 [.tup [R,TS,RS,.str e]]=some (.bl b))(hen:en=(if b=true then s else 0))(hr:fy1 [.tup [R,TS,RS,.str e]]=some (.int ρ))(bg:eQ ρ=true)(l1:(cK 0 ρ.toNat).length<=sizeLine)
 (cm:cz 1 [2] none (ai 0) (ae true) tw (cK 0 ρ.toNat) [D.tup [R,TS,RS,.str e],D.int s,D.int en]=some (Y,[some (.tup [R,TS,RS,.str e]),some (.int s),some (.int en)])):
 fyq [.tup [R,TS,RS,.str e],.int s]=some (.lst Y):=by
 refine ut rfl ⟨[D.tup [R,TS,RS,.str e],D.int s,D.int en],?_⟩;refine(cD (BD h)).trans ?_;exact(cD (BC hb hen)).trans (BB hr bg l1 cm)
def quc(ok:q1w r U G e)(s:Int):fyq [au r U G e,.int s]=some (dG (d5 r e s)):=by
 have p16:=kM ok.r0 ok.r4;have pn:=gR (r:=r);have hr:=lz ok;have hb:=ul ok;have tn:((2:Int)^r.toNat).toNat=2^r.toNat:=by omega
 unfold dG d5;rw[jt];by_cases q:e="open"
 .subst q;have hy:gG [D.int 0] (.int (2^r.toNat))=some (List.replicate (2^r.toNat) (.int 0)):=by rw[qR (by omega) (by omega),tn]
  have h1:fyq [au r U G "open",.int s]=some (.lst (List.replicate (2^r.toNat) (.int 0))):=qro (e:="open") (.int r) (.tup (U.map D.int)) (.tup (G.map cW)) s (2^r.toNat) _ Be hr hy (by decide);rw[h1];refine congrArg (λx=>some (D.lst x)) ?_;apply List.ext_getElem?;intro i;by_cases h:i<2^r.toNat
  .rw[jq,kc h,kj,if_pos h];simp[bJ]
  .rw[xh (by simp;omega),xh (by simp;omega)]
 .have ho:cV (.str e) (.str "open")=some false:=by
   rcases ok.en with h|h|h
   .exact absurd h q
   .rw[h];exact Bf
   .rw[h];exact Bd
  have bg:eQ ((2:Int)^r.toNat)=true:=by unfold eQ;simp;omega
  have cm:=gn (n:=1) (js:=[2]) (fg:=ai 0) (fe:=tw) (M:=[au r U G e,D.int s,D.int (if bi e=true then s else 0)]) (λd=>match d with|.int z6=>bJ (if z6=(if bi e=true then s else 0)then some 0 else none)|d=>d) (cK 0 ((2:Int)^r.toNat).toNat) (λx hx=>by let⟨k,hk⟩:=List.mem_iff_getElem?.mp hx;obtain⟨hk1,rfl⟩:=mG hk;exact⟨_,rfl,qxd⟩)
  have h1:=qmj (e:=e) (.int r) (.tup (U.map D.int)) (.tup (G.map cW)) s (2^r.toNat) _ (bi e) _ ho hb rfl hr bg (by rw[ig,tn];exact dg (by omega)) cm;refine(show fyq [au r U G e,.int s]=_ from h1).trans ?_;refine congrArg (λx=>some (D.lst x)) ?_;unfold cK;rw[tn,jt];refine List.map_congr_left λk _=>?_;refine congrArg bJ ?_;have e1:(if bi e=true then s else 0)=(if e="ring" then s else 0):=by
   unfold bi;by_cases z:e="ring"
   .simp[z]
   .simp[z]
  rw[e1,Int.zero_add];show(if((k:Nat):Int)=(if e="ring" then s else 0)then some 0 else none)=if e="open"∨((k:Nat):Int)=(if e="ring" then s else 0)then some 0 else none
  generalize (if e="ring" then s else 0)=E;by_cases z:((k:Nat):Int)=E
  .rw[if_pos z,if_pos (Or.inr z)]
  .rw[if_neg z,if_neg (λh=>Or.elim h (λh=>q h) λh=>z h)]
def qqz{S:D}{ρ:Int}{Y:List D}(hb:fy5 [S]=some (.bl true))(hr:fy1 [S]=some (.int ρ))(hy:io (.int ρ)=some Y):fy8 [S]=some (.lst Y):=by unfold fy8 lQ;generalize hu:io=uo at hy ⊢;clear hu;walk_at "e"
def qm4{S:D}(one:1<=sizeLine)(hb:fy5 [S]=some (.bl false)):fy8 [S]=some (.lst [.int 0]):=by unfold fy8 lQ;walk_at "e"
def ql2(ok:q1w r U G e):fy8 [au r U G e]=some (.lst ((cM r e).map D.int)):=by
 have p16:=kM ok.r0 ok.r4;have pn:=gR (r:=r);have hr:=lz ok;have hb:=ul ok;have tn:((2:Int)^r.toNat).toNat=2^r.toNat:=by omega
 unfold cM;by_cases q:e="ring"
 .rw[if_pos q];have h1:bi e=true:=by unfold bi;simp[q]
  rw[h1]at hb;refine qqz hb hr ?_;show(if(0:Int)<=2^r.toNat/\(2:Int)^r.toNat<=1000000 then some ((jY (2^r.toNat)).map D.int)else none)=_;rw[if_pos ⟨by omega,by omega⟩];unfold jY;rw[tn]
 .rw[if_neg q];have h1:bi e=false:=by unfold bi;simp[q]
  rw[h1]at hb;exact qm4 (by decide) hb
def qp4{S ST EN TB:D}{s:Int}{gs gs':List (bf×D)}(he:fyq [S,.int s]=some EN)(ha:fyt [ST,EN]=some TB)(hp:oW gs s TB=some gs'):wv [S,ST,D.dct gs,D.int s]=some (.nx [S,ST,D.dct gs',D.int s]):=by
 refine qrb (M1:=[S,ST,D.dct gs,D.int s]) (M2:=[S,ST,D.dct gs,D.int s]) (d:=TB) ?_ ?_ rfl hp
 .clear hp;walk_at "e"
 .rfl
def qsq{S ST:D}{SS:List D}{gs:List (bf×D)}{v3:Option D}{FB:aH}(hs:fy8 [S]=some (.lst SS))(l1:eB (ai 3) FB SS [S,ST,D.dct [],none]=some (.nx [S,ST,D.dct gs,v3])):
 (aM false 2 4 (aq (mS 2) (aq (bS BW (ai 3) FB) (aF (aa 2))))) [S,ST]=some (.dct gs):=by
 have h1:mS 2 [S,ST,none,none]=some (.nx [S,ST,D.dct [],none]):=qrc (by simp);walk_at "e"
def q9z:(cM r e).Nodup:=by
 unfold cM;by_cases q:e="ring"
 .rw[if_pos q];rw[List.Nodup,List.pairwise_map];exact List.nodup_range.imp λh z=>h (by omega)
 .rw[if_neg q];simp
def ql1(ok:q1w r U G e)(ts:List Told)(n:Nat)(hn:n<=60):fyu [au r U G e,fR (bQ r U G ts n 0 (n+aC r e))]=some (.dct ((cM r e).map λs=>(Sum.inl s,oK (eO r U G e ts n s)))):=by
 have p16:=kM ok.r0 ok.r4;have pn:=gR (r:=r);have z4:=mF ok;have hs:=ql2 ok;have ls:(cM r e).length<=16:=by
  unfold cM;split
  .simp;omega
  .simp
 have hst:∀st∈bQ r U G ts n 0 (n+aC r e),st.length=2^r.toNat/\∀ch∈st,ch.length<=2/\∀q∈ch,0<=q.1/\q.1.toNat<2^r.toNat:=λst h=>by
  have:∀(len k:Nat) (st:Sx),st∈bQ r U G ts n k len->st.length=2^r.toNat/\∀ch∈st,ch.length<=2/\∀q∈ch,0<=q.1/\q.1.toNat<2^r.toNat:=by
   intro len;induction len with
   |zero=>intro k st h;cases h
   | succ len ih=>
    intro k st h;have ok1:=pF (r:=r) (U:=U) (G:=G) (ts:=ts) (n:=n) (len+1) k;rw[vB]at h ok1;rcases List.mem_cons.mp h with h|h
    .subst h;refine⟨ok1.1,λch hc=>⟨?_,(ok1.2.1 ch hc).2⟩⟩;rw[(ok1.2.1 ch hc).1];split<;>omega
    .exact ih _ _ h
  exact this _ _ _ h
 have lst':(bQ r U G ts n 0 (n+aC r e)).length<=1000:=by unfold bQ;rw[jb,List.length_range'];omega
 let⟨M',l1,v3,hρ⟩:=iM (fg:=ai 3) (fb:=wv)
  (λk M=>∃v3,M=[some (au r U G e),some (fR (bQ r U G ts n 0 (n+aC r e))),some (.dct (((cM r e).take k).map λs=>(Sum.inl s,oK (eO r U G e ts n s)))),v3]) ((cM r e).map D.int) 0
  [some (au r U G e),some (fR (bQ r U G ts n 0 (n+aC r e))),some (.dct []),none] ⟨none,rfl⟩ (λi x M hx ⟨v3,hρ⟩=>by
   subst hρ;rw[xf];rw[jq]at hx;cases hs1:(cM r e)[i]? with
   |none=>rw[hs1]at hx;cases hx
   | some s=>
    rw[hs1]at hx;cases hx;have hb:=quc ok s;have ha:=qhu (bQ r U G ts n 0 (n+aC r e)) (d5 r e s) (2^r.toNat) (by omega) lst' (by unfold d5;simp) hst;refine⟨_,[au r U G e,fR (bQ r U G ts n 0 (n+aC r e)),D.dct (((cM r e).take (i+1)).map λs=>(Sum.inl s,oK (eO r U G e ts n s))),D.int s],rfl,.inl (qp4 hb ha ?_),_,rfl⟩;unfold oW;rw[if_pos]
    .rw[cI hs1,xk];rfl
    .refine⟨?_,?_⟩
     .rw[jb,k6];exact jz (by omega:_<1000) (by decide)
     .rw[List.all_eq_true];intro g hg;obtain⟨t,ht,rfl⟩:=List.mem_map.mp hg;have:t≠s:=λz=>by
       subst z;let⟨j,hj⟩:=List.mem_iff_getElem?.mp ht;have hj1:j<i:=by have:=(List.getElem?_eq_some_iff.mp hj).1;rw[k6]at this;omega
       rw[List.getElem?_take_of_lt hj1]at hj;have hi:=(List.getElem?_eq_some_iff.mp hs1).1;have hjl:=(List.getElem?_eq_some_iff.mp hj).1;have e1:=(List.getElem?_eq_some_iff.mp hj).2;have e2:=(List.getElem?_eq_some_iff.mp hs1).2;exact List.pairwise_iff_getElem.mp q9z j i hjl hi hj1 (e1.trans e2.symm)
      simp[this])
 subst hρ;rw[jb,xf,List.take_length]at l1;unfold fyu xK;exact qsq hs l1
end
noncomputable def eh(s:Int):Int:=(s*1181783497276652981+12345678910987) % 2305843009213693951
def c9(s m:Int):Int:=eh s / 65537 % m
def oZ(s:Int){m:Int}(h:0<m):0<=c9 s m:=Int.emod_nonneg _ (by omega)
def oY(s:Int){m:Int}(h:0<m):c9 s m<m:=Int.emod_lt_of_pos _ h
def mY(s m:Int)(h:0<m):fyD [.int s] [.int m]=some (.int (c9 s m),[.int (eh s)]):=by unfold fyD tK;walk_at "e";simp[eh,c9]
def qp3(c k:Int)(one:1<=sizeLine):fyC [.int c,.int k]=some (.lst [.int ((c % 10^60*7368787+1000003*k+17) % 2305843009213693951)]):=by unfold fyC xN;walk_at "e"
def lZ{N:List D}{k x:Int}(h:k<(N.length:Nat))(h0:0<=k)(ha:bX N k=some (.int x)):fyB [.lst N,.int k]=some (.int (x % 10^60)):=by unfold fyB t0;walk_at "e"
def jE{N:List D}{k:Int}(h:¬k<(N.length:Nat)):fyB [.lst N,.int k]=some (.int 0):=by unfold fyB t0;walk_at "e"
def qkb(ns:Zf)(k:Int)(h0:0<=k):∃c:Int,fyB [.lst (ns.map D.int),.int k]=some (.int c):=by
 by_cases h:k<ns.length
 .refine⟨ns[k.toNat] % 10^60,lZ (by rw[jb];omega) h0 ?_⟩;rw[mo (by omega) (by rw[jb];omega),jq,ji (by omega)];rfl
 .exact⟨0,jE (by rw[jb];omega)⟩
def s0(s x m:Int)(E:D)(nine:9<=sizeLine)(hx:bX [D.int 0,D.int 1,D.int 2,D.int 2,D.int 3,D.int 1,D.int 2,D.int 3,D.int 4] (c9 s 9)=some (.int x))(hm:(if x<4 then x else 4)=m):
 (aA 3 (iO (λi j=>if j<i then j else i) CF)) [D.lst [.int s],D.int 4,E,none,none,none,none]=some (.nx [D.lst [.int (eh s)],D.int 4,E,D.int m,none,none,none]):=by
 have h:=mY s 9 (by decide);rw[<-hm];clear hm;walk_at "e"
def s1e{x s m:Int}{r:Int}(hm:cB (.int 2) (.int r)=some (.int m))(h0:0<m):(gW fyD 1 (ak (ag cB (ae (.int 2)) (aa 2)) af)) [D.int x,D.lst [.int s],D.int r]=some (.int (c9 s m),[some (.int x),some (.lst [.int (eh s)]),some (.int r)]):=by have h:=mY s m h0;generalize cB=SH at hm ⊢;walk_at "e"
def s1r{s:Int}{v1 v2 v3 v4 v5 v6:Option D}:wk [some (.lst [.int s]),v1,v2,v3,v4,v5,v6]=some ([.int (1+c9 s 4)],[some (.lst [.int (eh s)]),v1,v2,v3,v4,v5,v6]):=by have h:=mY s 4 (by decide);walk_at "e"
def s1x{s s1 s2 r:Int}{E:D}{X Y:List D}{FI:aS}{FE:aJ}(lx:X.length<=sizeLine)
 (hI:FI [D.lst [.int s],D.int 4,E,D.int r,none,none,none]=some (X,[some (.lst [.int s1]),some (.int 4),some E,some (.int r),none,none,none]))
 (cm:cz 1 [0,3] (some (0,1)) (ai 0) (ae true) FE X [D.lst [.int s1],D.int 4,E,D.int r,none,none,none]=some (Y,[some (.lst [.int s2]),some (.int 4),some E,some (.int r),none,none,none])):
 (aA 4 (bc (ck 1 [0,3] (some (0,1)) FI (ai 0) (ae true) FE))) [D.lst [.int s],D.int 4,E,D.int r,none,none,none]=some (.nx [D.lst [.int s2],D.int 4,E,D.int r,D.lst Y,none,none]):=by
 walk_at "e"
def uG{M M1:av}{fs:aS}{n:Int}(h:fs M=some ([.int n],M1))(n0:0<=n)(n1:n<=1000):fU fs M=some (cK 0 n.toNat,M1):=by refine uq h ?_;unfold eQ;simp;omega
def s1(s r:Int)(E:D)(r0:0<=r)(r4:r<=4):∃(ts:Zf) (s':Int),(aA 4 (bc (ck 1 [0,3] (some (0,1)) (fU wk) (ai 0) (ae true) (gW fyD 1 (ak (ag cB (ae (.int 2)) (aa 2)) af))))) [D.lst [.int s],D.int 4,E,D.int r,none,none,none]=some (.nx [D.lst [.int s'],D.int 4,E,D.int r,D.lst (ts.map D.int),none,none])
 /\1<=ts.length/\ts.length<=4/\∀t∈ts,0<=t/\t<2*2^r.toNat:=by
 have d0:=oZ s (m:=4) (by decide);have d3:=oY s (m:=4) (by decide);have zo:(0:Int)<2*2^r.toNat:=Int.mul_pos (by decide) (Int.pow_pos (by decide));have hsh:cB (.int 2) (.int r)=some (.int (2*2^r.toNat)):=by
  have r6:r<=1000000:=by omega
  simp[cB,kW,mP,r0,r6]
 let⟨ys,s2,c1,c2,c3⟩:=zF (n:=1) (p:=0) (q:=1) (js:=[0,3]) (fg:=ai 0) (fe:=gW fyD 1 (ak (ag cB (ae (.int 2)) (aa 2)) af))
  (λs:Int=>[some (.lst [.int s]),some (.int 4),some E,some (.int r),none,none,none]) (λy=>∃t:Int,y=.int t/\0<=t/\t<2*2^r.toNat) (cK 0 (1+c9 s 4).toNat) (λx hx s=>by let⟨k,hk⟩:=List.mem_iff_getElem?.mp hx;obtain⟨_,rfl⟩:=mG hk;exact⟨[D.int (0+(k:Int)),D.lst [.int s],D.int r],[some (.int (0+(k:Int))),some (.lst [.int (eh s)]),some (.int r)],.int (c9 s (2*2^r.toNat)),eh s,rfl,s1e hsh zo,rfl,_,rfl,oZ s zo,oY s zo⟩) (eh s)
 obtain⟨ts,rfl,tb⟩:=yQ c3;rw[jb,ig]at c2;exact⟨ts,s2,s1x (by rw[ig];exact dg (by omega)) (uG (s1r) (by omega) (by omega)) c1,by omega,by omega,tb⟩
abbrev CB:=Ce
def s4e(x s:Int)(h:(0:Int)<4):(aG iD CB) [D.int x,D.lst [.int s]]=some (.int (if c9 s 4>0 then 1 else 0),[some (.int x),some (.lst [.int (eh s)])]):=by have h4:=mY s 4 h;walk_at "e"
def s4r{s:Int}{v1 v2 v3 v4 v5 v6:Option D}:wl [some (.lst [.int s]),v1,v2,v3,v4,v5,v6]=some ([.int (1+c9 s 6)],[some (.lst [.int (eh s)]),v1,v2,v3,v4,v5,v6]):=by have h:=mY s 6 (by decide);walk_at "e"
def s4t{s s' r:Int}{E k:D}{TS RS RW:List D}{FE:aJ}(l3:TS.length<=sizeLine)(l6:RS.length<sizeLine)
 (g1:cz 1 [0] (some (0,1)) (ai 0) (ae true) FE TS [D.lst [.int s],D.int 4,E,D.int r,D.lst TS,D.lst RS,k]=some (RW,[some (.lst [.int s']),some (.int 4),some E,some (.int r),some (.lst TS),some (.lst RS),some k])):
 (dN i4 5 (ak (aG mz (bc (ck 1 [0] (some (0,1)) (bn (aa 4)) (ai 0) (ae true) FE))) af)) [D.lst [.int s],D.int 4,E,D.int r,D.lst TS,D.lst RS,k]=some (.nx [D.lst [.int s'],D.int 4,E,D.int r,D.lst TS,D.lst (RS++[.tup RW]),k]):=by
 walk_at "e"
def s4f{s s1:Int}{s' r:Int}{E:D}{v:Option D}{X TS RS:List D}{FI:aS}{FB:aH}
 (hI:FI [D.lst [.int s],D.int 4,E,D.int r,D.lst TS,D.lst [],none]=some (X,[some (.lst [.int s1]),some (.int 4),some E,some (.int r),some (.lst TS),some (.lst []),none]))
 (f1:eB (ai 6) FB X [D.lst [.int s1],D.int 4,E,D.int r,D.lst TS,D.lst [],none]=some (.nx [some (.lst [.int s']),some (.int 4),some E,some (.int r),some (.lst TS),some (.lst RS),v])):
 (bS FI (ai 6) FB) [D.lst [.int s],D.int 4,E,D.int r,D.lst TS,D.lst [],none]=some (.nx [some (.lst [.int s']),some (.int 4),some E,some (.int r),some (.lst TS),some (.lst RS),v]):=by
 walk_at "e"
def s4(s r:Int)(E:D)(U:Zf)(h1:1<=U.length)(h4:U.length<=4):∃(G:Z9) (s':Int) (v:Option D),(bS (fU wl) (ai 6)
 wA) [D.lst [.int s],D.int 4,E,D.int r,D.lst (U.map D.int),D.lst [],none]=some (.nx [some (.lst [.int s']),some (.int 4),some E,some (.int r),some (.lst (U.map D.int)),some (.lst (G.map cW)),v])
 /\1<=G.length/\G.length<=6/\∀row∈G,row.length=U.length/\∀b∈row,b=0∨b=1:=by
 have d0:=oZ s (m:=6) (by decide);have d6:=oY s (m:=6) (by decide);obtain⟨M',f1,G,s3,v,rfl,lr,hrow⟩:=iM (fg:=ai 6) (fb:=wA)
  (λi M=>∃(G:Z9) (s:Int) (v:Option D),M=[some (.lst [.int s]),some (.int 4),some E,some (.int r),some (.lst (U.map D.int)),some (.lst (G.map cW)),v]/\G.length=i/\∀row∈G,row.length=U.length/\∀b∈row,b=0∨b=1)
  (cK 0 (1+c9 s 6).toNat) 0 [D.lst [.int (eh s)],D.int 4,E,D.int r,D.lst (U.map D.int),D.lst [],none] ⟨[],_,none,rfl,rfl,λ_ h=>nomatch h⟩ (by
    rintro i x M hx ⟨G,s,v,rfl,lr,hrow⟩;obtain⟨hi,rfl⟩:=mG hx;let⟨bs,s4,g1,g2,g3⟩:=zF (n:=1) (p:=0) (q:=1) (js:=[0]) (fg:=ai 0) (fe:=aG iD CB)
     (λs':Int=>[some (.lst [.int s']),some (.int 4),some E,some (.int r),some (.lst (U.map D.int)),some (.lst (G.map cW)),some (.int (0+(i:Int)))]) (λy=>∃t:Int,y=.int t/\(t=0∨t=1)) (U.map D.int) (λx hx s'=>by
       obtain⟨z,_,rfl⟩:=List.mem_map.mp hx;refine⟨[D.int z,D.lst [.int s']],[some (.int z),some (.lst [.int (eh s')])],_,eh s',rfl,s4e z s' (by decide),rfl,_,rfl,?_⟩;split
       .exact .inr rfl
       .exact .inl rfl) s
    obtain⟨row,rfl,hb⟩:=yQ g3;rw[jb,jb]at g2;refine⟨_,[D.lst [.int s4],D.int 4,E,D.int r,D.lst (U.map D.int),D.lst ((G++[row]).map cW),D.int (0+(i:Int))],rfl,.inl ?_,G++[row],s4,_,rfl,by rw[jr,lr];simp,λz hz=>?_⟩
    .have e6:(G++[row]).map cW=G.map cW++[.tup (row.map D.int)]:=by rw[xk];rfl
     rw[e6];exact s4t (by rw[jb];exact dg (by omega)) (by rw[jb];exact jz (by omega:G.length<1000) (by decide)) g1
    .rcases List.mem_append.mp hz with hz|hz
     .exact hrow z hz
     .rw[List.mem_singleton.mp hz];exact⟨g2,hb⟩)
 rw[ig]at lr;exact⟨G,s3,v,s4f (uG (s4r) (by omega) (by omega)) f1,by omega,by omega,hrow⟩
def s3(s r:Int)(E T:D)(z0:0<=sizeLine):Nx (cE 5 (aV af)) [D.lst [.int s],D.int 4,E,D.int r,T,none,none] 5 (D.lst []):=by walk_at "e"
def s5(s r:Int)(E TS RS:List D)(x:D)(v:Option D)(four:4<=sizeLine)(hE:((E.length:Nat):Int)=3)(hx:bX E (c9 s 3)=some x):
 Cy [some (.lst [.int s]),some (.int 4),some (.lst E),some (.int r),some (.lst TS),some (.lst RS),v]=some (.rt (.tup [.int r,.tup TS,.tup RS,x]) [some (.lst [.int (eh s)]),some (.int 4),some (.lst E),some (.int r),some (.lst TS),some (.lst RS),v]):=by
 have h:=mY s 3 (by decide);walk_at "e"
def qbg(s:Int):∃r U G e s',fyE [.int s] [.int 4,.lst [.str "open",.str "ended",.str "ring"]]=some (au r U G e,[.int s'])/\q1w r U G e:=by
 obtain⟨x,hx,x0,x4⟩:∃x:Int,bX [D.int 0,D.int 1,D.int 2,D.int 2,D.int 3,D.int 1,D.int 2,D.int 3,D.int 4] (c9 s 9)=some (.int x)/\0<=x/\x<=4:=by have d0:=oZ s (m:=9) (by decide);have d9:=oY s (m:=9) (by decide);rcases(by omega:c9 s 9=0∨c9 s 9=1∨c9 s 9=2∨c9 s 9=3∨c9 s 9=4∨c9 s 9=5∨c9 s 9=6∨c9 s 9=7∨c9 s 9=8)with q|q|q|q|q|q|q|q|q<;>(rw[q];exact⟨_,rfl,by decide,by decide⟩)
 obtain⟨r,hr⟩:∃r,(if x<4 then x else 4)=r:=⟨_,rfl⟩;have r0:0<=r/\r<=4:=by split at hr<;>omega
 have a0:=s0 s x r (.lst [.str "open",.str "ended",.str "ring"]) (by decide) hx hr;let⟨U,s1',a1,b1,b4,tb⟩:=s1 (eh s) r (.lst [.str "open",.str "ended",.str "ring"]) r0.1 r0.2;have a3:=s3 s1' r (.lst [.str "open",.str "ended",.str "ring"]) (.lst (U.map D.int)) (by decide);let⟨G,s4',v,a4,m1,m6,hrow⟩:=s4 s1' r (.lst [.str "open",.str "ended",.str "ring"]) U b1 b4;obtain⟨e,he,hen⟩:∃e:Str,bX [D.str "open",D.str "ended",D.str "ring"] (c9 s4' 3)=some (.str e)/\(e="open"∨e="ended"∨e="ring"):=by
  have d0:=oZ s4' (m:=3) (by decide);have d2:=oY s4' (m:=3) (by decide);rcases(by omega:c9 s4' 3=0∨c9 s4' 3=1∨c9 s4' 3=2)with q|q|q
  .rw[q];exact⟨_,rfl,.inl rfl⟩
  .rw[q];exact⟨_,rfl,.inr (.inl rfl)⟩
  .rw[q];exact⟨_,rfl,.inr (.inr rfl)⟩
 have a5:=s5 s4' r [.str "open",.str "ended",.str "ring"] (U.map D.int) (G.map cW) (.str e) v (by decide) rfl he;refine⟨r,U,G,e,eh s4',?_,⟨r0.1,r0.2,b1,b4,tb,m1,m6,hrow,hen⟩⟩;have body:=(cD a0).trans<|(cD a1).trans<|(cD a3).trans<|(cD a4).trans a5;unfold fyE fZ;rw[if_pos (show [D.int 4,D.lst [.str "open",.str "ended",.str "ring"]].length+1=3 from rfl)];show(match pY [D.lst [.int s],D.int 4,D.lst [.str "open",.str "ended",.str "ring"],none,none,none,none]with
  | some (.rt d M)=>(match (M[0]? :Option (Option D))with
   |some (some (D.lst ys))=>some (d,ys)
   |_=>none)
  | some (.nx M)=>if false=true then none else(match (M[0]? :Option (Option D))with
   |some (some (D.lst ys))=>some (.non,ys)
   |_=>none)
  |_=>none)=_
 unfold pY;rw[body];rfl
def Bb(l o:Int):Ns vU [D.int l,D.int o] (decide (0<l)):=by walk_at "e"
def Bc(l o:Int):wy [D.int l,D.int o]=some (.nx [D.int (l / 2),D.int ((o+l % 2) % 2)]):=by walk_at "e"
theorem Fa:∀(f zq:Nat) (l o:Int),0<=l->l.toNat<2^f->(o=0∨o=1)->f<zq->∃l':Int,gU vU
 wy zq [D.int l,D.int o]=some (.nx [D.int l',D.int ((o+(bT f l.toNat:Nat)) % 2)])
 |_,0,_,_,_,_,_,h=>absurd h (Nat.not_lt_zero _)
 | f,zq+1,l,o,l0,lf,ho,hf=>by
  have ht:=Bb l o;by_cases hl:0<l
  .cases f with
   |zero=>exact absurd lf (by omega)
   | succ f=>
    have e2:(l / 2).toNat=l.toNat / 2:=by omega
    have lt2:(l / 2).toNat<2^f:=by rw[e2];rw[Nat.pow_succ]at lf;omega
    let⟨l',ih⟩:=Fa f zq (l / 2) ((o+l % 2) % 2) (by omega) lt2 (by omega) (by omega);refine⟨l',?_⟩;rw[decide_eq_true hl]at ht;unfold gU;rw[ht];dsimp only;rw[Bc];dsimp only;rw[ih,e2];have u:bT (f+1) l.toNat=(l.toNat % 2+bT f (l.toNat / 2)) % 2:=rfl;rw[u];have ev:((o+l % 2) % 2+(bT f (l.toNat / 2):Nat)) % 2=(o+(((l.toNat % 2+bT f (l.toNat / 2)) % 2:Nat):Int)) % 2:=by omega
    rw[ev]
  .rw[decide_eq_false hl]at ht;refine⟨l,?_⟩;unfold gU;rw[ht];dsimp only;have e0:l=0:=by omega
   subst e0;rw[show((0:Int)).toNat=0 from rfl,uW];have ev:(o+((0:Nat):Int)) % 2=o:=by omega
   rw[ev]
def qxy(n:Int)(h0:0<=n)(h:n<32):fyF [.int n]=some (.int (bT 5 n.toNat:Nat)):=by
 let⟨l',hw⟩:=Fa 5 1000 n 0 h0 (by omega) (.inl rfl) (by decide);have e1:((0:Int)+(bT 5 n.toNat:Nat)) % 2=(bT 5 n.toNat:Nat):=by have:=Fi 5 n.toNat;omega
 rw[e1]at hw;generalize bT 5 n.toNat=p at hw ⊢;unfold fyF xO;generalize (1000:Nat)=zq at hw ⊢;clear h0 h e1;walk_at "e"
def AU{S k:D}{z6 bit:Int}:Nx (aA 4 pP) [S,k,D.int z6,D.int bit,none,none,none] 4 (D.int (2*z6+bit)):=by walk_at "e"
def AR{t aI o:Int}(h:fyF [.int (Builtin.bitAnd aI t)]=some (.int o)):((a9 fyF pN) [D.int t,D.int aI]).map (·.1)=some (.int o):=by walk_at "e"
def AT{R RS e k z6 bit aI:D}{TS Y:List D}{FE:aJ}(lt:TS.length<=sizeLine)(cm:Ns (cz 1 [4] none (ai 0) (ae true) FE TS) [D.tup [R,.tup TS,RS,e],k,z6,bit,aI,none,none] Y):Nx (aA 5 (bc (ck 1 [4] none vW (ai 0) (ae true) FE))) [D.tup [R,.tup TS,RS,e],k,z6,bit,aI,none,none] 5 (D.lst Y):=by
 walk_at "e"
def AS{R TS e z6 bit aI Y:D}{RS RW:List D}{k':Int}(ze:0<RS.length)(hr:bX RS (k' % (RS.length:Nat))=some (.tup RW)):Nx Cu [D.tup [R,TS,.tup RS,e],D.int k',z6,bit,aI,Y,none] 6 (D.tup RW):=by
 walk_at "e"
def AQ(S k z6 bit aI L:D)(Y:List D):Ns (ak (aG bU (aa 5)) af) [S,k,z6,bit,aI,D.lst Y,L] [.int ((Y.length:Nat):Int)]:=by walk_at "e"
def AN{Y RW:List D}{i b:Int}(h:bX RW i=some (.int b)):Ns (bB wa) [D.int i,D.lst Y,D.tup RW] (b==1):=by walk_at "e"
def AM{Y RW:List D}{i:Int}{y:D}(h:bX Y i=some y):((ag bA (aa 1) (aa 0)) [D.int i,D.lst Y,D.tup RW]).map (·.1)=some y:=by walk_at "e"
def AO{r aI m:Int}{TS RS e k z6 bit Y L:D}{X Z:List D}{FI:aS}{FT:dL}{FE:aJ}(two:2<=sizeLine)(lx:X.length<=sizeLine)(hs:cB (.int 1) (.int r)=some (.int m))(m0:0<m)
 (hI:FI [D.tup [.int r,TS,RS,e],k,z6,bit,D.int aI,Y,L]=some (X,[some (.tup [.int r,TS,RS,e]),some k,some z6,some bit,some (.int aI),some Y,some L]))
 (cm:cz 1 [5,6] none (ai 0) FT FE X [D.tup [.int r,TS,RS,e],k,z6,bit,D.int aI,Y,L]=some (Z,[some (.tup [.int r,TS,RS,e]),some k,some z6,some bit,some (.int aI),some Y,some L])):
 (aF (bZ (ak (ag de (aa 4) (ag cB (ae (.int 1)) (ag bA (aa 0) (ae (.int 0))))) (ak (bc (ck 1 [5,6] none FI (ai 0) FT FE)) af)))) [D.tup [.int r,TS,RS,e],k,z6,bit,D.int aI,Y,L]=some (.rt (.tup [.int (aI % m),.lst Z]) [D.tup [.int r,TS,RS,e],k,z6,bit,D.int aI,Y,L]):=by
 generalize cB=SH at hs ⊢;walk_at "e"
section
variable{r:Int}{U:Zf}{G:Z9}{e:Str}
def Ds(ok:q1w r U G e):cB (.int 1) (.int r)=some (.int (2^r.toNat)):=by
 have r0:=ok.r0;have r4:=ok.r4;have r6:r<=1000000:=by omega
 simp[cB,kW,mP,r0,r6]
def qto(ok:q1w r U G e)(k:Nat):(aK G k).length=U.length/\∀b∈aK G k,b=0∨b=1:=by have m1:=ok.m1;have hk:k % G.length<G.length:=Nat.mod_lt _ (by omega);unfold aK;rw[ji hk];exact ok.rw _ (xw hk)
def qen{row signs:Zf}(h:row.length=signs.length):(((List.range signs.length).filter λi=>row.getD i 0==1).map λi=>signs.getD i 0)=gk row signs:=by
 have e1:signs.zip row=(List.range signs.length).map λi=>(signs.getD i 0,row.getD i 0):=by
  apply List.ext_getElem
  .simp[h]
  .intro i h1 h2;simp at h1 h2;simp[h1,h2,h]
 unfold gk;rw[e1,List.filter_map,jt];rfl
def AG(ok:q1w r U G e)(k:Nat)(z6 bit:Int)(a0:0<=z6)(hb:0<=bit):fyG [au r U G e,.int k,.int z6,.int bit]=some (.tup [.int ((2*z6+bit) % 2^r.toNat),.lst ((gk (aK G k) (U.map (dZ (2*z6+bit)))).map D.int)]):=by
 have p16:=kM ok.r0 ok.r4;have c1:=gn (n:=1) (js:=[4]) (fg:=ai 0) (fe:=a9 fyF pN) (M:=[au r U G e,D.int (k:Int),D.int z6,D.int bit,D.int (2*z6+bit),none,none])
  (λd=>match d with|.int t=>.int (dZ (2*z6+bit) t)|d=>d) (U.map D.int) (λx hx=>by obtain⟨t,ht,rfl⟩:=List.mem_map.mp hx;have tb:=ok.tb t ht;have ea:=EK (x:=2*z6+bit) (y:=t) (by omega) tb.1;have le:(2*z6+bit).toNat &&& t.toNat<=t.toNat:=Nat.and_le_right;have ho:=qxy (Builtin.bitAnd (2*z6+bit) t) (by omega) (by omega);rw[show(Builtin.bitAnd (2*z6+bit) t).toNat=(2*z6+bit).toNat &&& t.toNat from by omega]at ho;exact⟨[D.int t,D.int (2*z6+bit)],rfl,AR ho⟩)
 have es:(U.map D.int).map (λd=>match d with|.int t=>D.int (dZ (2*z6+bit) t)|d=>d)=(U.map (dZ (2*z6+bit))).map D.int:=by rw[jt,jt];rfl
 rw[es]at c1;have c2:(U.map (dZ (2*z6+bit))).length=U.length:=jb ..;generalize U.map (dZ (2*z6+bit))=signs at c1 c2 ⊢;have hrow:=qto ok k;have hat:∀i:Nat,i<signs.length->bX ((aK G k).map D.int) (i:Int)=some (.int ((aK G k).getD i 0))/\bX (signs.map D.int) (i:Int)=some (.int (signs.getD i 0)):=λi hi=>by
  refine⟨?_,?_⟩
  .rw[mo (by omega) (by rw[jb];omega),xl,jq,ji (by omega),jn,ji (by omega)];rfl
  .rw[mo (by omega) (by rw[jb];omega),xl,jq,ji hi,jn,ji hi];rfl
 have cf:=rc (n:=1) (js:=[5,6]) (fg:=ai 0) (ft:=bB wa) (fe:=ag bA (aa 1) (aa 0)) (M:=[au r U G e,D.int (k:Int),D.int z6,D.int bit,D.int (2*z6+bit),D.lst (signs.map D.int),D.tup ((aK G k).map D.int)])
  (λd=>match d with|.int i=>(aK G k).getD i.toNat 0==1|_=>false) (λd=>match d with|.int i=>.int (signs.getD i.toNat 0)|d=>d) (cK 0 signs.length) (λx hx=>by let⟨i,hx1⟩:=List.mem_iff_getElem?.mp hx;obtain⟨hi,rfl⟩:=mG hx1;rw[Int.zero_add];let⟨h1,h2⟩:=hat i hi;exact⟨_,rfl,AN h1,λ_=>AM h2⟩)
 have ey:((cK 0 signs.length).filter (λd=>match d with|.int i=>(aK G k).getD i.toNat 0==1|_=>false)).map (λd=>match d with|.int i=>D.int (signs.getD i.toNat 0)|d=>d)=(gk (aK G k) signs).map D.int:=by
  rw[<-qen (hrow.1.trans c2.symm)];unfold cK;rw[List.filter_map,jt,jt];have e3:((λd=>match d with|D.int i=>(aK G k).getD i.toNat 0==1|_=>false)∘λ(i:Nat)=>D.int (0+(i:Int)))=λi=>(aK G k).getD i 0==1:=by funext i;show((aK G k).getD ((0:Int)+(i:Int)).toNat 0==1)=_;rw[Int.zero_add,xl]
  rw[e3];refine List.map_congr_left λi _=>?_;show D.int (signs.getD ((0:Int)+(i:Int)).toNat 0)=_;rw[Int.zero_add,xl];rfl
 rw[ey]at cf;have hl:0<(G.map cW).length:=by have:=ok.m1;rw[jb];omega
 have ln:((signs.map D.int).length:Int)=(signs.length:Nat):=by rw[jb]
 have t4:=ok.t4;have hI:=uG (AQ (au r U G e) (.int (k:Int)) (.int z6) (.int bit) (.int (2*z6+bit)) (.tup ((aK G k).map D.int)) (signs.map D.int)) (by omega) (by rw[ln];omega);rw[ln,xl]at hI;exact ut rfl ⟨_,(cD (AU)).trans<|(cD (AT (by rw[jb];exact dg (by omega)) c1)).trans<|
  (cD (AS hl (Et ok k))).trans<|AO (by decide) (by rw[ig];exact dg (by omega)) (Ds ok) (by omega) hI cf⟩
end
def qkj{R TS RS W:D}{e:Str}(h:cV (.str e) (.str "ring")=some false):fyH [.tup [R,TS,RS,.str e],W]=some (.int 0):=by unfold fyH t5;walk_at "e"
def A2{S:D}{W:List D}(lw:W.length<=sizeLine):Nx (aA 2 (bc (jI dO (aa 1)))) [S,D.lst W,none,none,none,none,none] 2 (D.lst W):=by walk_at "e"
def AY{R TS RS W B:D}{e:Str}{FX:aH}(h:cV (.str e) (.str "ended")=some false):Nz (cU pR FX bh) [D.tup [R,TS,RS,.str e],W,B,none,none,none,none]:=by walk_at "e"
def AV(TS RS W:D)(r:Int)(B Z:List D)(e:Str)(FR:aS)(h:cV (.str e) (.str "ended")=some true)(hr:Ns FR [D.tup [.int r,TS,RS,.str e],W,D.lst B,none,none,none,none] Z)(l:B.length+Z.length<=sizeLine):Nx (cU pR (aA 2 (ag b8 (aa 2) (bc FR))) bh) [D.tup [.int r,TS,RS,.str e],W,D.lst B,none,none,none,none] 2 (D.lst (B++Z)):=by
 walk_at "e"
def A3{r:Int}{TS RS W B e:D}(one:1<=sizeLine):Ns (aV (ak (ae (.int 0)) af)) [D.tup [.int r,TS,RS,e],W,B,none,none,none,none] [.int 0]:=by walk_at "e"
def AZ{r:Int}{TS RS W B e:D}:(ag bA (aa 0) (ae (.int 0))) [D.tup [.int r,TS,RS,e],W,B,none,none,none,none]=some (.int r,[some (.tup [.int r,TS,RS,e]),some W,some B,none,none,none,none]):=by walk_at "e"
def A1{S W B:D}{a:D}(h:fyH [S,W]=some a):Nx Cc [S,W,B,none,none,none,none] 3 a:=by walk_at "e"
def A0{S W B a:D}(z0:0<=sizeLine):Nx (cE 4 (aV af)) [S,W,B,a,none,none,none] 4 (D.lst []):=by walk_at "e"
def AW{S W:D}{z k' nz b:Int}{B F S2:List D}(v6:Option D)(hb:bX B k'=some (.int b))(st:fyG [S,.int k',.int z,.int b]=some (.tup [.int nz,.lst S2]))(ln:F.length+S2.length<=sizeLine):
 B7 [S,W,D.lst B,D.int z,D.lst F,D.int k',v6]=some (.nx [S,W,D.lst B,D.int nz,D.lst (F++S2),D.int k',D.lst S2]):=by
 walk_at "e"
def AX(S W a F:D)(B:List D):Ns (ak (aG bU (aa 2)) af) [S,W,D.lst B,a,F,none,none] [.int ((B.length:Nat):Int)]:=by walk_at "e"
def qt4{S W B a:D}{X F:List D}{v3 v5 v6:Option D}{FI:aS}{FB:aH}(hI:Ns FI [S,W,B,a,D.lst [],none,none] X)
 (l1:eB (ai 5) FB X [S,W,B,a,D.lst [],none,none]=some (.nx [S,W,B,v3,D.lst F,v5,v6])):
 (aq (bS FI (ai 5) FB) (mT 4)) [S,W,B,a,D.lst [],none,none]=some (.rt (.lst F) [S,W,B,v3,none,v5,v6]):=by
 walk_at "e"
def qpd{b:aH}{n k:Nat}{ds:List D}{F:List D}(hl:ds.length=n)(h:∃M,b (ds.map some++List.replicate (k-n) none)=some (.rt (.lst F) M)):aM true n k b ds=some (.lst F):=by obtain⟨M,h⟩:=h;unfold aM;rw[if_pos hl,h]
section
variable{r:Int}{U:Zf}{G:Z9}{e:Str}
def rQ(ok:q1w r U G e)(k:Nat):(bF U G k).length<=4:=by unfold bF;refine x6 (List.length_filter_le _ _) ?_;rw[vn];have:=ok.t4;have:=vo U.length (aK G k).length;omega
def y6(ok:q1w r U G e)(k:Nat):(bE U G k).length<=k*4:=uK _ 4 (λk=>by rw[jx];exact rQ ok k) _
def qj8{n:Nat}{w:Zf}(hb:az w)(hn:n<=w.length):ba (2^n) 0 w=aP (w.drop (w.length-n)):=by
 have m0:(0:Int)<2^n:=Int.pow_pos (by decide);have hl:(w.drop (w.length-n)).length=n:=by rw[xv];omega
 have ha:=kO (w.drop (w.length-n)) λb h=>hb b (List.mem_of_mem_drop h);rw[hl]at ha;have h1:=qV (2^n) w 0;have hw:=q9 (w.take (w.length-n)) (w.drop (w.length-n));rw[List.take_append_drop,hl]at hw;rw[kQ,hw,Int.zero_mul,Int.zero_add,Int.add_comm,Int.add_mul_emod_self_right,Int.emod_eq_of_lt ha.1 ha.2]at h1;have h2:=kL m0 w 0 ⟨Int.le_refl _,m0⟩;rw[Int.emod_eq_of_lt h2.1 h2.2]at h1;exact h1
def A4{TS RS E W:D}{r z6 b m:Int}(hs:cB (.int 1) (.int r)=some (.int m))(h0:0<m):(aA 2 (ag de pP (ag cB (ae (.int 1)) (ag bA (aa 0) (ae (.int 0)))))) [D.tup [.int r,TS,RS,E],W,D.int z6,D.int b]=some (.nx [D.tup [.int r,TS,RS,E],W,D.int ((2*z6+b) % m),D.int b]):=by generalize cB=SH at hs ⊢;walk_at "e"
def qtm{R TS RS:D}{W:List D}{e:Str}{z:Int}{v3:Option D}{FB:aH}(h:cV (.str e) (.str "ring")=some true)(hf:eB (ai 3) FB W [D.tup [R,TS,RS,.str e],D.lst W,D.int 0,none]=some (.nx [D.tup [R,TS,RS,.str e],D.lst W,D.int z,v3])):
 (aM false 2 4 (aq (aA 2 (ae (.int 0))) (aq (cU (bB wg)
 (bS (bn (aa 1)) (ai 3) FB)
 bh) (aF (aa 2))))) [.tup [R,TS,RS,.str e],.lst W]=some (.int z):=by
 walk_at "e"
def lW(ok:q1w r U G e)(w:Zf)(hb:az w)(hw:e="ring"->r.toNat<=w.length):fyH [au r U G e,.lst (w.map D.int)]=some (.int (bo r e w)):=by
 by_cases q:e="ring"
 .have m0:(0:Int)<2^r.toNat:=Int.pow_pos (by decide);let⟨M',l1,v3,hρ⟩:=iM (fg:=ai 3) (fb:=(aA 2 (ag de pP (ag cB (ae (.int 1)) (ag bA (aa 0) (ae (.int 0))))))) (λk M=>∃v3,M=[some (au r U G e),some (.lst (w.map D.int)),some (.int (ba (2^r.toNat) 0 (w.take k))),v3]) (w.map D.int) 0
   [some (au r U G e),some (.lst (w.map D.int)),some (.int 0),none] ⟨none,rfl⟩ (by rintro i x M hx ⟨v3,rfl⟩;rw[jq]at hx;obtain⟨b,hb1,rfl⟩:=Option.map_eq_some_iff.mp hx;rw[xf];refine⟨_,_,rfl,.inl (A4 (Ds ok) m0),some (.int b),?_⟩;rw[cI hb1,zV,show 2*ba (2^r.toNat) 0 (w.take i)+b=ba (2^r.toNat) 0 (w.take i)+ba (2^r.toNat) 0 (w.take i)+b from by omega];rfl)
  subst hρ;rw[xf,jb,List.take_length,qj8 hb (hw q)]at l1;unfold bo;rw[if_pos q];unfold fyH t5;exact qtm (by rw[q];exact nQ) l1
 .unfold bo;rw[if_neg q];refine qkj ?_;rcases ok.en with g|g|g
  .rw[g];exact nR
  .rw[g];exact nS
  .exact absurd g q
def e7(r:Int)(U:Zf)(G:Z9)(e:Str)(w:Zf):List Int:=jK (bi e) r.toNat U G w (w.length+aC r e)
def Gp(ok:q1w r U G e){w:Zf}(hb:az w)(hw:e="ring"->r.toNat<=w.length):qp r.toNat U G (bo r e w) (tM r e w)=e7 r U G e w:=by rw[zD,qqy,qkm (by have:=ok.r4;omega) hb (qha hw) λt h=>(ok.tb t h).1];rfl
def qsl(ok:q1w r U G e)(w:Zf)(hb:az w)(hw:e="ring"->r.toNat<=w.length)(hl:w.length<=60):fyI [au r U G e,.lst (w.map D.int)]=some (.lst ((e7 r U G e w).map D.int)):=by
 have z4:=mF ok;have r0:=ok.r0;have r4:=ok.r4;have ne:e≠"ended"->cV (.str e) (.str "ended")=some false:=λq=>by
  rcases ok.en with g|g|g
  .rw[g];exact rS
  .exact absurd g q
  .rw[g];exact rR
 have hB:(cU pR
  Cs
  bh) [au r U G e,D.lst (w.map D.int),D.lst (w.map D.int),none,none,none,none]=some (.nx [au r U G e,D.lst (w.map D.int),D.lst ((w++List.replicate (aC r e) 0).map D.int),none,none,none,none]):=by
  by_cases g:e="ended"
  .have ez:aC r e=r.toNat:=by rw[g];exact if_pos rfl
   have hrep:(dc (aV (ak (ae (.int 0)) af)) (ag bA (aa 0) (ae (.int 0)))) [au r U G e,D.lst (w.map D.int),D.lst (w.map D.int),none,none,none,none]=some (List.replicate r.toNat (D.int 0),[some (au r U G e),some (.lst (w.map D.int)),some (.lst (w.map D.int)),none,none,none,none]):=qG (A3 (by decide)) (AZ) (qR r0 (by omega));have:=AV (.tup (U.map D.int)) (.tup (G.map cW)) (.lst (w.map D.int)) r (w.map D.int) _ e _ (by rw[g];exact rT) hrep (by rw[jb,jx];exact dg (by omega));rw[ez,xk,List.map_replicate];exact this
  .have ez:aC r e=0:=if_neg g;rw[ez,List.replicate_zero,List.append_nil];exact AY (ne g)
 rw[<-Gp ok hb hw,zD];have hul:(w++List.replicate (aC r e) 0).length=w.length+aC r e:=by rw[jr,jx]
 have hbb:az (w++List.replicate (aC r e) 0):=gS hb (px _);have hst:=lW ok w hb hw;have ha:=zH (r:=r) (e:=e) kO w hb hw;generalize bo r e w=a at hst ha;generalize w++List.replicate (aC r e) 0=u at hB hul hbb;have m0:(0:Int)<2^r.toNat:=Int.pow_pos (by decide);let⟨M',l1,v5,v6,hρ⟩:=iM (fg:=ai 5) (fb:=aq CD
 (cE 4 (qu qt (aa 4) (aa 6))))
   (λk M=>∃(v5 v6:Option D),M=[some (au r U G e),some (.lst (w.map D.int)),some (.lst (u.map D.int)),some (.int (ba (2^r.toNat) a (u.take k))),some (.lst (((List.range k).flatMap (fN r.toNat U G a u)).map D.int)),v5,v6]) (cK 0 u.length) 0
   [some (au r U G e),some (.lst (w.map D.int)),some (.lst (u.map D.int)),some (.int a),some (.lst []),none,none] ⟨none,none,rfl⟩ (by
    rintro i x M hx ⟨v5,v6,rfl⟩;obtain⟨hi,rfl⟩:=mG hx;rw[xf];rw[Int.zero_add];have hbi:=hbb _ (xw hi);have ek:u[i]? =some u[i]:=ji hi;have ga:bX (u.map D.int) (i:Int)=some (.int u[i]):=by rw[mo (by omega) (by rw[jb];omega),xl,jq,ek];rfl
    have hr:=kL m0 (u.take i) a ha;have st:=AG ok i (ba (2^r.toNat) a (u.take i)) u[i] hr.1 (by omega);have es:gk (aK G i) (U.map (dZ (2*ba (2^r.toNat) a (u.take i)+u[i])))=fN r.toNat U G a u i:=by unfold fN;rw[jn,ek];rfl
    rw[es]at st;have p4:=zX (U:=U) (G:=G) (m:=r.toNat) (a:=a) (u:=u) i;have p5:=y6 ok i;have q4:=rQ ok i;have q5:=Hk (U:=U) (G:=G) (m:=r.toNat) (a:=a) (u:=u) i;have hle:(((List.range i).flatMap (fN r.toNat U G a u)).map D.int).length+((fN r.toNat U G a u i).map D.int).length<=sizeLine:=by rw[jb,jb];exact dg (by omega)
    refine⟨_,_,rfl,.inl (AW v6 ga st hle),some (.int (i:Int)),some (.lst ((fN r.toNat U G a u i).map D.int)),?_⟩;rw[i0,xk,cI ek,zV,show 2*ba (2^r.toNat) a (u.take i)+u[i]=ba (2^r.toNat) a (u.take i)+ba (2^r.toNat) a (u.take i)+u[i]from by omega])
 subst hρ;rw[ig,xf]at l1;have ln:((u.map D.int).length:Int)=(u.length:Nat):=by rw[jb]
 have hI:=uG (AX (au r U G e) (.lst (w.map D.int)) (.int a) (.lst []) (u.map D.int)) (by omega) (by rw[ln];omega);rw[ln,xl]at hI;exact qpd rfl ⟨_,(cD (A2 (by rw[jb];exact dg (by omega)))).trans<|(cD hB).trans<|(cD (A1 hst)).trans<|
  (cD (A0 (by decide))).trans<|qt4 hI l1⟩
end
noncomputable def dU(t:Int×Int×Int):D:=.tup [.int t.1,.int t.2.1,.int t.2.2]
def qrs{s z6 c k:Int}{TB:D}{T R:List D}(h1:fF TB (.int s)=some (.lst T))(h2:bX T k=some (.lst R))(h3:bX R z6=some .non):fyv [.tup [.int s,.int z6,.int c],TB,.int k]=some .non:=by unfold fyv tZ;generalize hd:fF=dx at h1 ⊢;clear hd;walk_at "e"
def qrr{s z6 c k x:Int}{TB:D}{T R:List D}(h1:fF TB (.int s)=some (.lst T))(h2:bX T k=some (.lst R))(h3:bX R z6=some (.int x)):fyv [.tup [.int s,.int z6,.int c],TB,.int k]=some (.int (c+x)):=by unfold fyv tZ;generalize hd:fF=dx at h1 ⊢;clear hd;walk_at "e"
def BK{T TB:D}{B:List D}:Nx (aA 3 (aG bU (aa 0))) [D.lst B,T,TB,none,none] 3 (D.int ((B.length:Nat):Int)):=by walk_at "e"
def BJ{B TB k:D}{T A:List D}{FT:dL}(lt:T.length<=sizeLine)(cf:Ns (cz 1 [2,3] none (ai 0) FT (aa 0) T) [B,D.lst T,TB,k,none] A):Nx (aA 4 (bc (ck 1 [2,3] none (bn (aa 1)) (ai 0) FT (aa 0)))) [B,D.lst T,TB,k,none] 4 (D.lst A):=by
 walk_at "e"
def BI{B T TB k m:D}{A Y:List D}{DM:D->Option D}{FE:aJ}(lt:A.length<=sizeLine)(j5:3<=sizeLine)(cm:Ns (cz 1 [2,3] none (ai 0) (ae true) FE A) [B,T,TB,k,D.lst A] Y)(hm:DM (.lst Y)=some m):Nr (aF (bZ (ak (aG DM (bc (ck 1 [2,3] none (bn (aa 4)) (ai 0) (ae true) FE))) (ak (aa 0) (ak (aa 4) af))))) [B,T,TB,k,D.lst A] (D.tup [m,B,.lst A]):=by
 walk_at "e"
def EU{t TB k y:D}(h:fyv [t,TB,k]=some y):Ns (a9 fyv gN) [t,TB,k] y:=by walk_at "e"
def qrq(o:Option Int)(FC:aJ)(M:av)(h:FC M=some (bJ o,M)):(bB (ag iU FC (ae .non))) M=some (o.isSome,M):=by
 rw[yO,DX,h];cases o with
 |none=>rfl
 |some x=>rfl
noncomputable def tG(d:D):Option (Int×Int×Int):=match d with
 |.tup [.int s,.int r,.int c]=>some (s,r,c)
 |_=>none
theorem Gv(c:Int×Int×Int->Option Int):∀trs:List (Int×Int×Int),(trs.filter λt=>(c t).isSome).map (λt=>bJ (c t))=(trs.filterMap c).map D.int
 |[]=>rfl
 | t::trs=>by
  have ih:=Gv c trs;cases h:c t with
  |none=>rw[List.filter_cons_of_neg (by rw[h];decide),List.filterMap_cons_none h,ih]
  |some x=>rw[List.filter_cons_of_pos (by rw[h];rfl),List.filterMap_cons_some h,x8,x8,ih,h];rfl
def qye(b:Zf)(trs:List (Int×Int×Int))(TB:D)(c:Int×Int×Int->Option Int)(m:Int)(hc:∀t∈trs,fyv [dU t,TB,.int (b.length:Nat)]=some (bJ (c t)))(hl:trs.length<=1000)(hm:cG (trs.filterMap c)=some m):
 fyw [.lst (b.map D.int),.lst (trs.map dU),TB]=some (.tup [.int m,.lst (b.map D.int),.lst ((trs.filter λt=>(c t).isSome).map dU)]):=by
 have cf:=rc (n:=1) (js:=[2,3]) (fg:=ai 0) (ft:=bB (ag iU (a9 fyv gN) (ae .non))) (fe:=aa 0) (M:=[D.lst (b.map D.int),D.lst (trs.map dU),TB,D.int ((b.map D.int).length:Nat),none])
  (λd=>((tG d).bind c).isSome) (λd=>d) (trs.map dU) (λx hx=>by obtain⟨t,ht,rfl⟩:=List.mem_map.mp hx;have h:=hc t ht;refine⟨[dU t,TB,D.int ((b.map D.int).length:Nat)],rfl,?_,λ_=>rfl⟩;rw[jb];exact qrq (c t) _ _ (EU h))
 have e1:((trs.map dU).filter λd=>((tG d).bind c).isSome).map (λd=>d)=(trs.filter λt=>(c t).isSome).map dU:=by rw[List.map_id',List.filter_map];rfl
 rw[e1]at cf;have sub:∀t∈trs.filter (λt=>(c t).isSome),t∈trs:=λt ht=>(List.mem_filter.mp ht).1;have la:(trs.filter λt=>(c t).isSome).length<=1000:=x6 (List.length_filter_le _ _) hl;have cm:=gn (n:=1) (js:=[2,3]) (fg:=ai 0) (fe:=a9 fyv gN) (M:=[D.lst (b.map D.int),D.lst (trs.map dU),TB,D.int ((b.map D.int).length:Nat),D.lst ((trs.filter λt=>(c t).isSome).map dU)])
  (λd=>bJ ((tG d).bind c)) ((trs.filter λt=>(c t).isSome).map dU) (λx hx=>by obtain⟨t,ht,rfl⟩:=List.mem_map.mp hx;have h:=hc t (sub t ht);refine⟨[dU t,TB,D.int ((b.map D.int).length:Nat)],rfl,?_⟩;rw[jb,EU h];rfl)
 have e2:((trs.filter λt=>(c t).isSome).map dU).map (λd=>bJ ((tG d).bind c))=(trs.filterMap c).map D.int:=by rw[<-Gv,jt];rfl
 rw[e2]at cm;have hd:tN (.lst ((trs.filterMap c).map D.int))=some (.int m):=by
  show(match dH ((trs.filterMap c).map D.int)with
   |some ns=>if ns≠[]then some (D.int ((cG ns).getD 0))else none
   |none=>none)=_
  rw[i3];have hne:trs.filterMap c≠[]:=λz=>by rw[z]at hm;cases hm
  show(if trs.filterMap c≠[]then some (D.int ((cG (trs.filterMap c)).getD 0))else none)=_;rw[if_pos hne,hm];rfl
 exact ut rfl ⟨_,(cD (BK)).trans<|(cD (BJ (by rw[jb];exact dg (by omega)) cf)).trans<|BI (by rw[jb];exact dg (by omega)) (by decide) cm hd⟩
def EI{s z6 c x y z:Int}{CH R:List D}(h1:bX CH z6=some (.lst R))(h2:bX R x=some (.tup [.int y,.int z]))(j5:3<=sizeLine):fyx [.tup [.int s,.int z6,.int c],.int x,.lst CH]=some (.tup [.int s,.int y,.int (c+z)]):=by unfold fyx xM;walk_at "e"
def BG{t x CH y:D}(h:fyx [t,x,CH]=some y):((a9 fyx gN) [t,x,CH]).map (·.1)=some y:=by walk_at "e"
def BH{m B x CH TB:D}{T Y:List D}{FE:aJ}(lt:T.length<=sizeLine)(cm:Ns (cz 1 [1,2] none (ai 0) (ae true) FE T) [D.tup [m,B,.lst T],x,CH,TB,none] Y):Nx (aA 4 (bc (ck 1 [1,2] none BV (ai 0) (ae true) FE))) [D.tup [m,B,.lst T],x,CH,TB,none] 4 (D.lst Y):=by
 walk_at "e"
def BF{m T x CH TB TR y:D}{B:List D}(one:1<=sizeLine)(lb:B.length+1<=sizeLine)(h:fyw [.lst (B++[x]),TR,TB]=some y):Nr Cv [D.tup [m,.lst B,T],x,CH,TB,TR] y:=by
 walk_at "e"
theorem GJ{α β:Type}{f:α->Option β}{q:α->Bool}:∀{xs:List α},(∀x∈xs,(f x).isSome=true->q x=true)->(xs.filter q).filterMap f=xs.filterMap f/\((xs.filter q).filter λx=>(f x).isSome)=xs.filter λx=>(f x).isSome
 |[],_=>⟨rfl,rfl⟩
 | x::xs,h=>by
  let⟨h1,h2⟩:=GJ (f:=f) (q:=q) (xs:=xs) λy hy=>h y (jh _ hy);cases e:f x with
  | none=>
   have n1:¬(f x).isSome=true:=by rw[e];exact λz=>nomatch z
   rw[List.filterMap_cons_none e,List.filter_cons_of_neg (p:=λx=>(f x).isSome) n1];by_cases z:q x=true
   .rw[List.filter_cons_of_pos z,List.filterMap_cons_none e,List.filter_cons_of_neg (p:=λx=>(f x).isSome) n1];exact⟨h1,h2⟩
   .rw[List.filter_cons_of_neg z];exact⟨h1,h2⟩
  | some y=>
   have n1:(f x).isSome=true:=by rw[e];rfl
   have z:=h x jj n1;rw[List.filter_cons_of_pos z,List.filterMap_cons_some e,List.filterMap_cons_some e,List.filter_cons_of_pos (p:=λx=>(f x).isSome) n1,List.filter_cons_of_pos (p:=λx=>(f x).isSome) n1,h1,h2];exact⟨rfl,rfl⟩
section
variable(r:Int)(U:Zf)(G:Z9)(e:Str)(ts:List Told)(n:Nat)
def pq(b:Zf):List (Int×Int×Int):=((cM r e).filter λs=>(cH r U G e ts n s b).isSome).map λs=>(s,bj r U G e ts n s b)
def cu(b:Zf):D:=.tup [.int (ca r U G e ts n b),.lst (b.map D.int),.lst ((pq r U G e ts n b).map dU)]
def hX:D:=.dct ((cM r e).map λs=>(Sum.inl s,oK (eO r U G e ts n s)))
end
section
variable{r:Int}{U:Zf}{G:Z9}{e:Str}{ts:List Told}{n:Nat}
def qiz{ss:Zf}{f:Int->D}{s:Int}(h:s∈ss):mL (ss.map λs=>(Sum.inl s,f s)) s=some (f s):=by
 induction ss with
 |nil=>cases h
 | cons a r ih=>
  unfold mL;rw[x8];by_cases z:a=s
  .subst z;simp[List.find?_cons]
  .have h1:s∈r:=by
    rcases List.mem_cons.mp h with h|h
    .exact absurd h.symm z
    .exact h
   have:=ih h1;unfold mL at this;rw[<-this];simp[List.find?_cons,z]
def qy0(ts:List Told)(n:Nat):∀(len k:Nat) (st:Sx),st∈bQ r U G ts n k len->st.length=2^r.toNat/\∀ch∈st,ch.length<=2/\∀q∈ch,0<=q.1/\q.1.toNat<2^r.toNat:=by
 intro len;induction len with
 |zero=>intro k st h;cases h
 | succ len ih=>
  intro k st h;have ok1:=pF (r:=r) (U:=U) (G:=G) (ts:=ts) (n:=n) (len+1) k;rw[vB]at h ok1;rcases List.mem_cons.mp h with h|h
  .subst h;refine⟨ok1.1,λch hc=>⟨?_,(ok1.2.1 ch hc).2⟩⟩;rw[(ok1.2.1 ch hc).1];split<;>omega
  .exact ih _ _ h
def Fu(ts:List Told)(n:Nat)(s:Int):(eO r U G e ts n s).length=n+aC r e+1:=by unfold eO;rw[Ak,kR]
def qp6{s:Int}{k:Nat}{t:Rw}(h:(eO r U G e ts n s)[k]? =some t):t.length=2^r.toNat:=by
 have hk:k<=n+aC r e:=by have:=(List.getElem?_eq_some_iff.mp h).1;rw[Fu]at this;omega
 unfold eO at h;rw[<-List.head?_drop,Aq _ _ k (by rw[kR];exact hk)]at h;have e1:(bG ((bQ r U G ts n 0 (n+aC r e)).drop k) (d5 r e s)).headD []=t:=by rw[List.headD_eq_head?_getD,h];rfl
 rw[<-e1];exact FZ (by unfold d5;simp) λz hz=>(qy0 ts n _ _ z (List.mem_of_mem_drop hz)).1
def qud{s:Int}{b:Zf}(hs:s∈cM r e)(hb:az b)(hl:b.length<=n):fyv [dU (s,bj r U G e ts n s b),hX r U G e ts n,.int (b.length:Nat)]=some (bJ (cH r U G e ts n s b)):=by
 have hk:b.length<(eO r U G e ts n s).length:=by rw[Fu];omega
 have h1:fF (hX r U G e ts n) (.int s)=some (.lst ((eO r U G e ts n s).map dG)):=qiz hs;have ek:(eO r U G e ts n s)[b.length]? =some (eO r U G e ts n s)[b.length]:=ji hk;have h2:bX ((eO r U G e ts n s).map dG) (b.length:Int)=some (.lst ((eO r U G e ts n s)[b.length].map bJ)):=by rw[mo (by omega) (by rw[jb];omega),xl,jq,ek];rfl
 have hr:=zQ (U:=U) (G:=G) (ts:=ts) hs hb hl;have h3:=EL (t:=(eO r U G e ts n s)[b.length]) hr.1 (by rw[qp6 ek];exact hr.2);have ec:cH r U G e ts n s b=(dJ (eO r U G e ts n s)[b.length] (bj r U G e ts n s b).1).map λx=>(bj r U G e ts n s b).2+x:=by unfold cH;rw[jn,ek];rfl
 rw[ec];cases q:dJ (eO r U G e ts n s)[b.length] (bj r U G e ts n s b).1 with
 | none=>
  rw[q]at h3;exact qrs h1 h2 h3
 | some x=>
  rw[q]at h3;exact qrr h1 h2 h3
def Ap(ok:q1w r U G e):(cM r e).length<=16:=by
 have p16:=kM ok.r0 ok.r4;have pn:=gR (r:=r);unfold cM;split
 .simp;omega
 .simp
section
variable(ok:q1w r U G e)(hr:e="ring"->r.toNat<=n)(ht:ts.length=(bE U G (n+aC r e)).length)
include ok hr ht
theorem De{b:Zf}(hb:az b)(hl:b.length<=n)(q:Int->Bool)(hq:∀s∈cM r e,(cH r U G e ts n s b).isSome=true->q s=true):
 fyw [.lst (b.map D.int),.lst ((((cM r e).filter q).map λs=>(s,bj r U G e ts n s b)).map dU),hX r U G e ts n]=some (cu r U G e ts n b):=by
 let⟨k1,k2⟩:=GJ (f:=λs=>cH r U G e ts n s b) hq;have lm:=Ap ok;have lf:((cM r e).filter q).length<=16:=x6 (List.length_filter_le _ _) lm;have hm:=(qW hr ok.en ht hb hl).1;have h:=qye b (((cM r e).filter q).map λs=>(s,bj r U G e ts n s b)) (hX r U G e ts n) (λt=>(dJ ((eO r U G e ts n t.1).getD b.length []) t.2.1).map λx=>t.2.2+x) (ca r U G e ts n b) (λt ht=>by
  obtain⟨s,hs,rfl⟩:=List.mem_map.mp ht;exact qud (List.mem_filter.mp hs).1 hb hl) (by rw[jb];omega) (by
  rw[List.filterMap_map];have e1:(((cM r e).filter q).filterMap ((λt:Int×Int×Int=>(dJ ((eO r U G e ts n t.1).getD b.length []) t.2.1).map λx=>t.2.2+x)∘λs=>(s,bj r U G e ts n s b)))=((cM r e).filter q).filterMap λs=>cH r U G e ts n s b:=rfl;rw[e1,k1];exact hm)
 rw[h];unfold cu pq;rw[List.filter_map,<-k2];rfl
theorem Gf{b:Zf}{x:Int}(hb:az b)(hx:x=0∨x=1)(hl:b.length<n)(hn:n<=60):
 fyy [cu r U G e ts n b,.int x,fK (stepK r U G ts n b.length),hX r U G e ts n]=some (cu r U G e ts n (b++[x])):=by
 have lm:=Ap ok;have pn:=gR (r:=r);have hbx:az (b++[x]):=gS hb λy hy=>by rw[List.mem_singleton.mp hy];exact hx
 have lf:((cM r e).filter λs=>(cH r U G e ts n s b).isSome).length<=16:=x6 (List.length_filter_le _ _) lm;have cm:=gn (n:=1) (js:=[1,2]) (fg:=ai 0) (fe:=a9 fyx gN) (M:=[cu r U G e ts n b,D.int x,fK (stepK r U G ts n b.length),hX r U G e ts n,none])
  (λd=>match d with|.tup (.int s::_)=>dU (s,bj r U G e ts n s (b++[x]))|d=>d) ((pq r U G e ts n b).map dU) (λy hy=>by
    obtain⟨t,ht1,rfl⟩:=List.mem_map.mp hy;obtain⟨s,hs,rfl⟩:=List.mem_map.mp ht1;have hs:=(List.mem_filter.mp hs).1;have hrm:=zQ (U:=U) (G:=G) (ts:=ts) hs hb (Nat.le_of_lt hl);refine⟨[dU (s,bj r U G e ts n s b),D.int x,fK (stepK r U G ts n b.length)],rfl,BG ?_⟩;show _=some (dU (s,bj r U G e ts n s (b++[x])));rw[qkf x hl];generalize bj r U G e ts n s b=p at hrm;have hlt:p.1<2^r.toNat:=by omega
    have ech:=GE (U:=U) (G:=G) (ts:=ts) (n:=n) (k:=b.length) hrm.1 hlt;have lst':(stepK r U G ts n b.length).length=2^r.toNat:=by unfold L2.stepK;simp
    have a1:bX ((stepK r U G ts n b.length).map gE) p.1=some (.lst (((eL n b.length).map λy=>il r U G ts b.length p.1 y).map ni)):=by
     rw[mo hrm.1 (by rw[jb,lst'];omega),jq];have e2:(stepK r U G ts n b.length)[p.1.toNat]? =some ((eL n b.length).map λy=>il r U G ts b.length p.1 y):=by unfold cg at ech;rw[jn,ji (by rw[lst'];exact hrm.2)]at ech;rw[ji (by rw[lst'];exact hrm.2)];exact congrArg some ech
     rw[e2];rfl
    have eb:eL n b.length=[0,1]:=if_pos hl;rw[ech];rw[eb]at a1 ⊢;rcases hx with rfl|rfl
    .exact EI a1 (HK _ _) (by decide)
    .exact EI a1 (nr _ _ _) (by decide))
 have em:((pq r U G e ts n b).map dU).map (λd=>match d with|.tup (.int s::_)=>dU (s,bj r U G e ts n s (b++[x]))|d=>d)=(((cM r e).filter λs=>(cH r U G e ts n s b).isSome).map λs=>(s,bj r U G e ts n s (b++[x]))).map dU:=by unfold pq;rw[jt,jt,jt];rfl
 rw[em]at cm;have h:=De ok hr ht hbx (by simp;omega) (λs=>(cH r U G e ts n s b).isSome) (λs hs h=>by
  have h1:=qfj hr ok.en ht hs hbx hl (λz=>by rw[z]at h;cases h);cases q:cH r U G e ts n s b with
  |none=>exact absurd q h1
  |some _=>rfl)
 rw[xk]at h;have h:fyw [.lst (b.map D.int++[.int x]),_,_]=_:=h;refine ut rfl ⟨_,(cD (BH (by unfold pq;rw[jb,jb];exact dg (by omega)) cm)).trans<|BF (by decide) (by rw[jb];exact dg (by omega)) h⟩
end
theorem F8:∀E:List (List Int),mM (E.map (cu r U G e ts n))=some (E.map (b7 (ca r U G e ts n)))
 |[]=>rfl
 | b::E=>by
  have h1:lK (cu r U G e ts n b)=some (b7 (ca r U G e ts n) b):=by show(dH (b.map D.int)).map (λns=>(ca r U G e ts n b,ns))=_;rw[i3];rfl
  rw[x8,x8];unfold mM;rw[h1,F8 E]
def Fe{E:Z9}{k most:Nat}(h64:E.length<64)(nd:E.Nodup)(hk:∀b∈E,b.length=k):fyz [.lst (E.map (cu r U G e ts n)),.int (most:Nat)]=some (.lst ((fk (ca r U G e ts n) most E).map (cu r U G e ts n))):=by
 show mW _=_;unfold mW;simp only[F8];have ok:vD (E.map (b7 (ca r U G e ts n))):=by
  refine⟨by rw[jb];exact h64,?_,λq hq=>?_⟩
  .show List.Pairwise (λa b=>a≠b) _;rw[List.pairwise_map];exact List.Pairwise.imp (λ{a b} h z=>h (zI z)) nd
  .obtain⟨b,hb,rfl⟩:=List.mem_map.mp hq;cases E with
   |nil=>cases hb
   |cons a E=>exact(hk b hb).trans (hk a jj).symm
 rw[if_pos ok,EV (by omega),xl];refine congrArg (λx=>some (D.lst x)) ?_;unfold fk fz;rw[List.map_take,jt];refine congrArg (List.take most) (List.map_congr_left λi hi=>?_);have li:i<E.length:=by simpa using List.mem_range.mp ((m8 _).subset hi)
 show(E.map (cu r U G e ts n)).getD i .non=cu r U G e ts n (E.getD i []);rw[jn,jn,jq,ji li];rfl
end
def pz{j:Nat}{P:Addr}{lp:Pos}{q:Str}{f:List D->Option D}{fs:aS}{M M1:av}{ds:List D}{d:D}(h1:fs M=some (ds,M1))(h2:M1[j]? =some (some (.tab P lp q)))(h3:f ds=some d):jM j P lp q f fs M=some (d,M1):=by unfold jM;rw[h1];dsimp only;rw[h2];dsimp only;rw[if_pos ⟨rfl,rfl,rfl⟩,h3];rfl
def uO{b:aH}{n N j:Nat}{ds:List D}{d t:D}(hl:ds.length=n)(hj:n<=j)(h:∃M,b ((ds.map some++List.replicate (N-n) none).set j (some t))=some (.rt d M)):kB false n N j t b ds=some d:=by obtain⟨M,h⟩:=h;unfold kB;rw[if_pos ⟨hl,hj⟩,h]
def BA{S n T m ST t:D}(hm:fyp [S,n,T]=some ST):Nx (aA 4 (a9 fyp gN)) [S,n,T,m,none,none,none,none,none,none,t] 4 ST:=by walk_at "e"
def Bz{S n T m ST TB t:D}(ht:fyu [S,ST]=some TB):Nx Cd [S,n,T,m,ST,none,none,none,none,none,t] 5 TB:=by walk_at "e"
def Bw{s:Int}(j5:3<=sizeLine):((bZ wb) [some (.int s)]).map (·.1)=some (.tup [.int s,.int s,.int 0]):=by walk_at "e"
def By{S n T m ST y :D} (t :D)(gs:List (bf×D))(KS Y:List D)(FE:aJ)(one:1<=sizeLine)(z0:0<=sizeLine)(hk:md (.dct gs)=some KS)(l1:KS.length<=sizeLine)
 (cm:cz 1 [] none (ai 0) (ae true) FE KS [S,n,T,m,ST,D.dct gs,none,none,none,none,t]=some (Y,[some S,some n,some T,some m,some ST,some (.dct gs),none,none,none,none,some t])) (hb:fyw [.lst [],.lst Y,.dct gs]=some y):
 (aA 6 (bc (aV (ak (a9 fyw (ak (bc (aV af)) (ak (bc (ck 1 [] none (mX (aa 5)) (ai 0) (ae true) FE)) (ak (aa 5) af)))) af)))) [S,n,T,m,ST,D.dct gs,none,none,none,none,t]=some (.nx [S,n,T,m,ST,D.dct gs,D.lst [y],none,none,none,t]):=by
 have h1:mX (aa 5) [S,n,T,m,ST,D.dct gs,none,none,none,none,t]=some (KS,[some S,some n,some T,some m,some ST,some (.dct gs),none,none,none,none,some t]):=by rw[FU];show((md (.dct gs)).map λx=>(x,_))=_;rw[hk];rfl
 generalize mX (aa 5)=FK at h1 ⊢;clear hk;walk_at "e"
def Bx{S n T m ST TB FD CH t:D}{v8 v9:Option D}(z0:0<=sizeLine):Nx (cE 8 (aV af)) [S,n,T,m,ST,TB,FD,CH,v8,v9,t] 8 (D.lst []):=by walk_at "e"
def sE{S n T m ST TB FD CH b y t:D}(x:Int)(Y:List D)(ly:Y.length<sizeLine)(h:fyy [b,.int x,CH,TB]=some y):Nx (dN i4 8 (ak (a9 fyy (ak (aa 9) (ak (ae (.int x)) (ak (aa 7) (ak (aa 5) af))))) af)) [S,n,T,m,ST,TB,FD,CH,D.lst Y,b,t] 8 (D.lst (Y++[y])):=by walk_at "e"
def Bu{S n T m ST TB CH t:D}{FD Y:List D}{v9 w9:Option D}{FB:aH}(h:eB (ai 9) FB FD [S,n,T,m,ST,TB,D.lst FD,CH,D.lst [],v9,t]=some (.nx [S,n,T,m,ST,TB,D.lst FD,CH,D.lst Y,w9,t])):
 (bS (bn (aa 6)) (ai 9) FB) [S,n,T,m,ST,TB,D.lst FD,CH,D.lst [],v9,t]=some (.nx [S,n,T,m,ST,TB,D.lst FD,CH,D.lst Y,w9,t]):=by
 walk_at "e"
def Br{S n T m ST TB FD CH Y:D}{v9:Option D}{t:D}:Ns (ak (aa 8) (ak (aa 3) af)) [S,n,T,m,ST,TB,FD,CH,Y,v9,t] [Y,m]:=by walk_at "e"
def Bv{S n T m ST TB FD CH Y y t:D}{v9:Option D}{FC:aJ}(h:Ns FC [S,n,T,m,ST,TB,FD,CH,Y,v9,t] y):Nx (aA 6 FC) [S,n,T,m,ST,TB,FD,CH,Y,v9,t] 6 y:=by walk_at "e"
def Bt{S T m TB FD FD' t:D}{n':Int}{ST X:List D}{v7 v8 v9:Option D}{FB:aH}(hc:nj (.lst ST) none (some n')=some (.lst X))(h:eB (ai 7) FB X [S,D.int n',T,m,D.lst ST,TB,FD,none,none,none,t]=some (.nx [S,D.int n',T,m,D.lst ST,TB,FD',v7,v8,v9,t])):
 (bS B6 (ai 7) FB) [S,D.int n',T,m,D.lst ST,TB,FD,none,none,none,t]=some (.nx [S,D.int n',T,m,D.lst ST,TB,FD',v7,v8,v9,t]):=by
 walk_at "e"
def Bq{S n T m ST TB FD:D}{v7 v8 v9:Option D}{t:D}:Ns (ak (aa 6) (ak (aa 3) af)) [S,n,T,m,ST,TB,FD,v7,v8,v9,t] [FD,m]:=by walk_at "e"
def Bp{a b c:D}(two:2<=sizeLine):((bZ wo) [some (.tup [a,b,c])]).map (·.1)=some (.tup [a,b]):=by walk_at "e"
def Bs{S n T m ST TB FD t:D}{X Y:List D}{v7 v8 v9:Option D}{FC FE:aJ}(lx:X.length<=sizeLine)(h:FC [S,n,T,m,ST,TB,FD,v7,v8,v9,t]=some (.lst X,[some S,some n,some T,some m,some ST,some TB,some FD,v7,v8,v9,some t]))
 (cm:Ns (cz 1 [] none (ai 0) (ae true) FE X) [S,n,T,m,ST,TB,FD,v7,v8,v9,t] Y):Nr (aF (bc (ck 1 [] none (bn FC) (ai 0) (ae true) FE))) [S,n,T,m,ST,TB,FD,v7,v8,v9,t] (D.lst Y):=by
 walk_at "e"
def qjo(R:Z9)(b:Zf):aI (R++[b])=aI R++[b++[0]]++[b++[1]]:=by unfold aI;rw[List.flatMap_append];simp
def zE(R:Z9):(aI R).length=2*R.length:=by
 induction R with
 |nil=>rfl
 | cons b R ih=>
  have:aI (b::R)=(b++[0])::(b++[1])::aI R:=rfl;rw[this,jw,jw,jw,ih];omega
noncomputable def HG(L:List Int->Int)(b:Zf):D:=.tup [.int (L b),.lst (b.map D.int)]
section
variable{r:Int}{U:Zf}{G:Z9}{e:Str}{ts:List Told}{n:Nat}
def Dg(P0:Addr)(ok:q1w r U G e)(hr:e="ring"->r.toNat<=n)(ht:ts.length=(bE U G (n+aC r e)).length)(hn:n<=60)(most:Nat)(hm9:most<=30):
 f_few P0 [au r U G e,.int n,.lst (ts.map df),.int most]=some (.lst ((fk (ca r U G e ts n) most (c5 (ca r U G e ts n) most n)).map (HG (ca r U G e ts n)))):=by
 have z4:=mF ok;have lm:=Ap ok;have hm:=qyf ok n hn hr ts ht;have htb:=ql1 ok ts n hn;have top:=λk (hk:k<=n)=>uH (L:=ca r U G e ts n) (most:=most) (n:=n) (λb hb hl=>Am hr ok.en ht hb hl) k hk;have tl:∀k,(c5 (ca r U G e ts n) most k).length<=30:=λk=>by
  cases k with
  |zero=>show([[]]:Z9).length<=30;decide
  |succ k=>exact x6 (Gr k) hm9
 have hk:md (hX r U G e ts n)=some ((cM r e).map D.int):=by show some _=some _;rw[jt];rfl
 have cm:=gn (n:=1) (js:=[]) (fg:=ai 0) (fe:=bZ wb) (M:=[au r U G e,D.int n,D.lst (ts.map df),D.int most,fR (bQ r U G ts n 0 (n+aC r e)),hX r U G e ts n,none,none,none,none,D.tab P0 cy cw])
  (λd=>match d with|.int s=>.tup [.int s,.int s,.int 0]|d=>d) ((cM r e).map D.int) (λx hx=>by obtain⟨s,_,rfl⟩:=List.mem_map.mp hx;exact⟨[some (.int s)],rfl,Bw (by decide)⟩)
 have em:((cM r e).map D.int).map (λd=>match d with|.int s=>D.tup [.int s,.int s,.int 0]|d=>d)=(((cM r e).filter λ_=>true).map λs=>(s,bj r U G e ts n s [])).map dU:=by rw[List.filter_eq_self.mpr (λ_ _=>rfl),jt,jt];refine List.map_congr_left λs _=>?_;show _=dU (s,eM _ s 0 []);rw[zS];rfl
 rw[em]at cm;have hb0:=De ok hr ht (b:=[]) (λ_ h=>nomatch h) (Nat.zero_le _) (λ_=>true) (λ_ _ _=>rfl);have a6:=By (.tab P0 cy cw) _ _ _ _ (by decide) (by decide) hk (by rw[jb];exact dg (by omega)) cm hb0
 -- the loop
 have hcut:nj (.lst ((bQ r U G ts n 0 (n+aC r e)).map fK)) none (some (n:Int))=some (.lst ((List.range n).map λk=>fK (stepK r U G ts n k))):=by show some (D.lst (dY _ _ _))=_;rw[EV (by omega),xl,<-List.map_take];unfold bQ;rw[<-List.range_eq_range',<-List.map_take,List.take_range,Nat.min_eq_left (by omega),jt];rfl
 let⟨M',l1,v7,v8,v9,hρ⟩:=iM (fg:=ai 7) (fb:=(aq (cE 8 (aV af))
 (aq (bS (bn (aa 6)) (ai 9)
   wC)
 (aA 6 (jM 10 P0 cy cw fyz (ak (aa 8) (ak (aa 3) af)))))))
   (λk M=>∃v7 v8 v9,M=[some (au r U G e),some (.int n),some (.lst (ts.map df)),some (.int most),some (fR (bQ r U G ts n 0 (n+aC r e))),some (hX r U G e ts n),some (.lst ((c5 (ca r U G e ts n) most k).map (cu r U G e ts n))),v7,v8,v9,some (.tab P0 cy cw)])
   ((List.range n).map λk=>fK (stepK r U G ts n k)) 0
   [some (au r U G e),some (.int n),some (.lst (ts.map df)),some (.int most),some (fR (bQ r U G ts n 0 (n+aC r e))),some (hX r U G e ts n),some (.lst [cu r U G e ts n []]),none,none,none,some (.tab P0 cy cw)] ⟨none,none,none,rfl⟩ (by
    rintro k x M hx ⟨v7,v8,v9,rfl⟩;rw[xf];rw[jq]at hx;obtain⟨k',hk1,rfl⟩:=Option.map_eq_some_iff.mp hx;have hkn:k<n:=by have:=(List.getElem?_eq_some_iff.mp hk1).1;simpa using this
    have ek:k'=k:=by rw[kc hkn]at hk1;exact(jl hk1).symm
    subst ek;have T:=top k' (Nat.le_of_lt hkn);have t2:=tl k';have et:c5 (ca r U G e ts n) most (k'+1)=fk (ca r U G e ts n) most (aI (c5 (ca r U G e ts n) most k')):=rfl;rw[et];generalize c5 (ca r U G e ts n) most k'=R at T t2;let⟨M1,m1,w9,hρ1⟩:=iM (fg:=ai 9) (fb:=wC)
     (λi M=>∃w9,M=[some (au r U G e),some (.int n),some (.lst (ts.map df)),some (.int most),some (fR (bQ r U G ts n 0 (n+aC r e))),some (hX r U G e ts n),some (.lst (R.map (cu r U G e ts n))),some (fK (stepK r U G ts n k')),some (.lst ((aI (R.take i)).map (cu r U G e ts n))),w9,some (.tab P0 cy cw)])
     (R.map (cu r U G e ts n)) 0
     [some (au r U G e),some (.int n),some (.lst (ts.map df)),some (.int most),some (fR (bQ r U G ts n 0 (n+aC r e))),some (hX r U G e ts n),some (.lst (R.map (cu r U G e ts n))),some (fK (stepK r U G ts n k')),some (.lst []),v9,some (.tab P0 cy cw)] ⟨v9,rfl⟩ (by
      rintro i x M hx ⟨w9,rfl⟩;rw[xf];rw[jq]at hx;obtain⟨b,hb1,rfl⟩:=Option.map_eq_some_iff.mp hx;let⟨b1,b2⟩:=T.bits b (k8 hb1);have o0:=Gf ok hr ht b1 (.inl rfl) (by omega) hn;have o1:=Gf ok hr ht b1 (.inr rfl) (by omega) hn;rw[b2]at o0 o1;have li:(aI (R.take i)).length<=60:=by rw[zE,k6];omega
      refine⟨_,_,rfl,.inl ((cD (sE 0 _ (by rw[jb];exact jz (by omega:_<1000) (by decide)) o0)).trans (sE 1 _ (by rw[jr,jb];exact jz (by simp;omega:_<1000) (by decide)) o1)),some (cu r U G e ts n b),?_⟩;rw[cI hb1,qjo,xk,xk];rfl)
    subst hρ1;rw[xf,jb,List.take_length]at m1;have nd:=u8 (q8 T.up);have ze:∀b∈aI R,b.length=k'+1:=λx hx=>by let⟨b,hb,z⟩:=mem_both.mp hx;let⟨_,b2⟩:=T.bits b hb;rcases z with rfl|rfl<;>simp[b2]
    have hf:=Fe (r:=r) (U:=U) (G:=G) (e:=e) (ts:=ts) (n:=n) (E:=aI R) (most:=most) (by rw[zE];omega) nd ze;refine⟨_,_,rfl,.inl ((cD (Bx (by decide))).trans<|(cD (Bu m1)).trans<|Bv (pz (Br) rfl hf)),_,_,_,rfl⟩)
 subst hρ;rw[xf,jb,List.length_range]at l1;have T:=top n (jg _);have t2:=tl n;have hf:=Fe (r:=r) (U:=U) (G:=G) (e:=e) (ts:=ts) (n:=n) (E:=c5 (ca r U G e ts n) most n) (k:=n) (most:=most) (by omega) (q8 T.up) (λb hb=>(T.bits b hb).2);have cx:=gn (n:=1) (js:=[]) (fg:=ai 0) (fe:=bZ wo) (M:=[au r U G e,D.int n,D.lst (ts.map df),D.int most,fR (bQ r U G ts n 0 (n+aC r e)),hX r U G e ts n,D.lst ((c5 (ca r U G e ts n) most n).map (cu r U G e ts n)),v7,v8,v9,D.tab P0 cy cw])
  (λd=>match d with|.tup [a,b,_]=>.tup [a,b]|d=>d) ((fk (ca r U G e ts n) most (c5 (ca r U G e ts n) most n)).map (cu r U G e ts n)) (λx hx=>by obtain⟨b,_,rfl⟩:=List.mem_map.mp hx;exact⟨[some (cu r U G e ts n b)],rfl,Bp (by decide)⟩)
 have ex:((fk (ca r U G e ts n) most (c5 (ca r U G e ts n) most n)).map (cu r U G e ts n)).map (λd=>match d with|.tup [a,b,_]=>D.tup [a,b]|d=>d)=(fk (ca r U G e ts n) most (c5 (ca r U G e ts n) most n)).map (HG (ca r U G e ts n)):=by rw[jt];rfl
 rw[ex]at cx;exact uO rfl (by decide) ⟨_,(cD (BA hm)).trans<|(cD (Bz htb)).trans<|(cD a6).trans<|(cD (Bt hcut l1)).trans<|Bs (by rw[jb];exact dg (x6 (List.length_take_le _ _) (by omega))) (pz (Bq) rfl hf) cx⟩
end
def sK{S n:D}{P:List D}{t:D}(hp:fya [S,n]=some (.lst P)):(aG bU l5) [S,n,none,none,t]=some (.int ((P.length:Nat):Int),[some S,some n,none,none,some t]):=by walk_at "e"
def sN{S n t:D}(one:1<=sizeLine)(two:2<=sizeLine):Ns pU [S,n,none,none,t] [.tup [.str "clear",.int 0]]:=by walk_at "e"
def sM{S n t:D}{Z:List D}{FR:aS}(h:Ns FR [S,n,none,none,t] Z):Nx (aA 2 (bc FR)) [S,n,none,none,t] 2 (D.lst Z):=by walk_at "e"
def sJ{S n T t:D}:Ns Cf [S,n,T,none,t] [S,n,T,.int 2]:=by walk_at "e"
def sL{S n T y t:D}{FC:aJ}(h:Ns FC [S,n,T,none,t] y):Nx (aA 3 FC) [S,n,T,none,t] 3 y:=by walk_at "e"
def BL{S n T x y t:D}:Nr ww [S,n,T,D.lst [x,y],t] y:=by walk_at "e"
theorem Ha:∀(bs:Zf) (N:Nat),bs.length=N->az bs->fS (List.replicate N (.clear 0)) bs=bs.sum
 |[],0,_,_=>rfl
 |[],_+1,h,_=>by simp at h
 |_::_,0,h,_=>by simp at h
 | b::bs,N+1,h,hb=>by have ih:=Ha bs N (by simpa using h) λx hx=>hb x (jh _ hx);unfold fS at ih ⊢;rw[List.replicate_succ,List.zip_cons_cons,x8,List.sum_cons,List.sum_cons,ih];congr 1;show(if b=0 then(0:Int)else 1)=b;rcases hb b jj with rfl|rfl<;>rfl
theorem Ft:∀(bs:Zf),az bs->0<=bs.sum
 |[],_=>Int.le_refl _
 | b::bs,hb=>by have ih:=Ft bs λx hx=>hb x (jh _ hx);rw[List.sum_cons];rcases hb b jj with rfl|rfl<;>omega
def qpf(m:Nat):(List.replicate m (0:Int)).sum=0:=by
 induction m with
 |zero=>rfl
 |succ m ih=>rw[List.replicate_succ,List.sum_cons,ih];rfl
section
variable{r:Int}{U:Zf}{G:Z9}{e:Str}{n:Nat}
abbrev iI(U:Zf)(G:Z9)(N:Nat):List Told:=List.replicate (bE U G N).length (.clear 0)
def rj(ok:q1w r U G e){w:Zf}(hb:az w)(hw:w.length=n)(hr:e="ring"->r.toNat<=n):eU r U G e (iI U G (n+aC r e)) w=(e7 r U G e w).sum:=by unfold eU;rw[Gp ok hb (by rw[hw];exact hr)];refine Ha _ _ ?_ Hl;unfold e7;rw[hw];exact(qbt w _).symm
def qyd(P0:Addr)(ok:q1w r U G e)(hr:e="ring"->r.toNat<=n)(hn:n<=60)(hn1:1<=n):
 ∃w,fyA P0 [au r U G e,.int n]=some (.tup [.int (e7 r U G e w).sum,.lst (w.map D.int)])/\az w/\w.length=n/\w≠List.replicate n 0/\∀x,az x->x.length=n->x≠List.replicate n 0->bY ((e7 r U G e x).sum,x) ((e7 r U G e w).sum,w)=false:=by
 have z4:=mF ok;have lp:=y6 ok (n+aC r e);have hl:(iI U G (n+aC r e)).length=(bE U G (n+aC r e)).length:=jx;have hz:eU r U G e (iI U G (n+aC r e)) (List.replicate n 0)=0:=by rw[rj ok (px _) jx hr];unfold e7;rw[qef,qpf]
 let⟨w,e1,w1,w2,w3,w4⟩:=qsp (U:=U) (G:=G) (ts:=iI U G (n+aC r e)) hr ok.en hl hn1 hz (λw hw lw=>by rw[rj ok hw lw hr];exact Ft _ Hl)
 have hf:=Dg (ts:=iI U G (n+aC r e)) P0 ok hr hl hn 2 (by decide);have T:=uH (L:=ca r U G e (iI U G (n+aC r e)) n) (most:=2) (n:=n) (λb hb hl2=>Am hr ok.en hl hb hl2) n (jg _);rw[GK (most:=2) T.up (by rw[e1];exact jg _),e1]at hf;have hp:=uN ok n hn hr;have hrep:(dc pU (aG bU l5)) [au r U G e,D.int n,none,none,D.tab P0 cy cw]=some ((iI U G (n+aC r e)).map df,[some (au r U G e),some (.int n),none,none,some (.tab P0 cy cw)]):=by refine qG (sN (by decide) (by decide)) (sK hp) ?_;rw[qR (by omega) (by rw[jb];omega),xl,jb,List.map_replicate];rfl
 refine⟨w,?_,w1,w2,w3,λx x1 x2 x3=>?_⟩
 .have el:ca r U G e (iI U G (n+aC r e)) n w=(e7 r U G e w).sum:=by
   rw[Hf hr ok.en hl w1 w2,rj ok w1 w2 hr]
  rw[<-el];exact uO rfl (by decide) ⟨_,(cD (sM hrep)).trans<|(cD (sL (pz (sJ) rfl hf))).trans<|BL⟩
 .have:=w4 x x1 x2 x3;rw[rj ok x1 x2 hr,rj ok w1 w2 hr]at this;exact this
end
noncomputable def eY:Nat->List (List Int)
 |0=>[[]]
 |k+1=>aI (eY k)
theorem Fy:∀k,(eY k).length=2^k
 |0=>rfl
 | k+1=>by show(aI (eY k)).length=_;rw[zE,Fy k,Nat.pow_succ];omega
theorem G6:∀k,(eY k).Nodup
 |0=>by show([[]]:Z9).Nodup;simp
 |k+1=>u8 (G6 k)
theorem allB_mem:∀{k:Nat} {b:Zf},b∈eY k↔az b/\b.length=k
 | 0,b=>by
  constructor
  .intro h;rw[List.mem_singleton.mp h];exact⟨λ_ h=>(nomatch h),rfl⟩
  .intro h;exact List.mem_singleton.mpr (List.eq_nil_of_length_eq_zero h.2)
 | k+1,b=>by
  show b∈aI (eY k)↔_;rw[mem_both];constructor
  .rintro⟨c,hc,z⟩;let⟨c1,c2⟩:=allB_mem.mp hc;rcases z with rfl|rfl
   .exact⟨gS c1 λy hy=>.inl (List.mem_singleton.mp hy),by simp[c2]⟩
   .exact⟨gS c1 λy hy=>.inr (List.mem_singleton.mp hy),by simp[c2]⟩
  .rintro⟨h1,h2⟩;have nz:b≠[]:=λz=>by rw[z]at h2;simp at h2
   have ex:=(List.dropLast_concat_getLast nz).symm;generalize b.dropLast=c at ex;generalize b.getLast nz=y at ex;subst ex;refine⟨c,allB_mem.mpr ⟨λz hz=>h1 z (List.mem_append_left _ hz),by simpa using h2⟩,?_⟩;rcases h1 y (by simp)with rfl|rfl
   .exact .inl rfl
   .exact .inr rfl
noncomputable def kK:Nat->List (List Int)
 |0=>[[]]
 |k+1=>(kK k).map (·++[0])++(kK k).map (·++[1])
theorem Hq:∀k,(kK k).length=2^k
 |0=>rfl
 | k+1=>by unfold kK;rw[jr,jb,jb,Hq k,Nat.pow_succ];omega
def Gs:∀n,n<7->kK n=(cZ n).map (fJ n)/\eY n=(List.range (2^n)).map (fJ n):=by decide+kernel
def Dh{n:Nat}(h:n<=6):2^n<=64:=by rcases(by omega:n=0∨n=1∨n=2∨n=3∨n=4∨n=5∨n=6)with z|z|z|z|z|z|z<;>rw[z]<;>decide
def AF{n:D}(one:1<=sizeLine)(z0:0<=sizeLine):Nx B9 [some n,none,none] 1 (D.lst [.lst []]):=by walk_at "e"
def AD(b:Int)(w:List D)(h:w.length+1<=sizeLine)(one:1<=sizeLine):((ag b8 (aa 0) (bc (aV (ak (ae (.int b)) af)))) [some (.lst w)]).map (·.1)=some (.lst (w++[.int b])):=by walk_at "e"
def AB(n k:D)(W A B:List D)(FA FB:aJ)(lw:W.length<=sizeLine)(lab:A.length+B.length<=sizeLine)(c0:Ns (cz 1 [] none (ai 0) (ae true) FA W) [n,D.lst W,k] A)(c1:Ns (cz 1 [] none (ai 0) (ae true) FB W) [n,D.lst W,k] B):Nx (aA 1 (ag b8 (bc (ck 1 [] none (bn (aa 1)) (ai 0) (ae true) FA)) (bc (ck 1 [] none (bn (aa 1)) (ai 0) (ae true) FB)))) [n,D.lst W,k] 1 (D.lst (A++B)):=by
 walk_at "e"
def AC{n:D}{W Y:List D}{v:Option D}(h:ma (.lst W)=some Y):(mh (jI ma (aa 1))) [some n,some (.lst W),v]=some (.rt (.lst Y) [some n,some (.lst W),v]):=by generalize ma=SS at h ⊢;walk_at "e"
def AE(n':Int)(v1 v2:Option D):Ns (ak (aa 0) af) [some (.int n'),v1,v2] [.int n']:=by walk_at "e"
def qsj{n':Int}{X Y W:List D}{v:Option D}{F0 FB FR:aH}{FI:aS}(h0:Nx F0 [some (.int n'),none,none] 1 (D.lst [.lst []]))(hI:Ns FI [D.int n',D.lst [.lst []],none] X)(hf:eB (ai 2) FB X [D.int n',D.lst [.lst []],none]=some (.nx [some (.int n'),some (.lst W),v]))(hr:Nr FR [some (.int n'),some (.lst W),v] (D.lst Y)):
 aM true 1 3 (aq F0 (aq (bS FI (ai 2) FB) FR)) [.int n']=some (.lst Y):=by
 walk_at "e"
def qp2(n:Nat)(hn:n<=6):fyL [.int n]=some (.lst ((eY n).map c6)):=by
 have hI:=uq (AE (n:Int) (some (.lst [.lst []])) none) (by unfold eQ;simp;omega)
 have turn:∀(b:Int) (k:Nat) (M:av),k<=6->cz 1 [] none (ai 0) (ae true) (ag b8 (aa 0) (bc (aV (ak (ae (.int b)) af)))) ((kK k).map c6) M=some (((kK k).map (·++[b])).map c6,M):=λb k M hk=>by
  have cm:=gn (n:=1) (js:=[]) (fg:=ai 0) (fe:=ag b8 (aa 0) (bc (aV (ak (ae (.int b)) af)))) (M:=M) (λd=>match d with|.lst w=>.lst (w++[.int b])|d=>d) ((kK k).map c6) (λx hx=>by obtain⟨w,hw,rfl⟩:=List.mem_map.mp hx;rw[(Gs k (by omega)).1]at hw;obtain⟨r,_,rfl⟩:=List.mem_map.mp hw;have hl:=uw (n:=k) (r:=r);exact⟨[some (c6 (fJ k r))],rfl,AD b _ (by rw[jb];exact dg (by omega)) (by decide)⟩)
  rw[cm,jt,jt];refine congrArg (λx=>some (x,M)) (List.map_congr_left λw _=>?_);show D.lst (w.map D.int++[.int b])=c6 (w++[b]);unfold c6;rw[xk];rfl
 obtain⟨M',hf,v,rfl⟩:=iM (fg:=ai 2) (fb:=CC)
  (λk M=>∃v,M=[some (.int (n:Int)),some (.lst ((kK k).map c6)),v]) (cK 0 n) 0 [D.int (n:Int),D.lst [.lst []],none] ⟨none,rfl⟩ (by rintro k x M hx ⟨v,rfl⟩;rw[xf];obtain⟨hk,rfl⟩:=mG hx;have hl:=Hq k;have h64:=Dh (show k<=6 by omega);have st:=AB (.int n) (.int (0+(k:Int))) _ _ _ _ _ (by rw[jb,hl];exact dg (by omega)) (by rw[jb,jb,jb,jb,hl];exact dg (by omega)) (turn 0 k _ (by omega)) (turn 1 k _ (by omega));rw[<-xk]at st;exact⟨_,_,rfl,.inl st,some (.int (0+(k:Int))),rfl⟩)
 rw[xf,ig]at hf;refine qsj (AF (by decide) (by decide)) hI hf (AC ?_);let⟨e1,e2⟩:=Gs n (by omega);rw[e1,e2,jt,jt];exact qg0 (by omega)
def Fh(q:Int×List Int):qc (bK q)=some q:=by show(dH (q.2.map D.int)).map (λns=>(q.1,ns))=some q;rw[i3];rfl
theorem Gh:∀qs:List (Int×List Int),mv (qs.map bK)=some qs
 |[]=>rfl
 | q::qs=>by rw[x8];unfold mv;rw[Fh,Gh qs]
def qw0{qs:List (Int×List Int)}{n:Nat}(h:qs≠[])(hl:∀q∈qs,q.2.length=n):kA (.lst (qs.map bK))=some (bK (jL qs)):=by
 show(match mv (qs.map bK)with
  |some qs=>if qs≠[]/\(qs.all λq=>decide (q.2.length=(jL qs).2.length))=true then some (bK (jL qs))else none
  |none=>none)=_
 rw[Gh];refine if_pos ⟨h,List.all_eq_true.mpr λq hq=>?_⟩;rw[hl q hq,hl _ (GP h).1];simp
def rJ(b:Int):fyJ [.int b]=some (.bl true):=by unfold fyJ xP;walk_at "e"
def Bo(b:Int)(h0:0<=b)(h1:b<=1):(wt [some (.int b)]).map (·.1)=some (.bl true):=by have h:=rJ b;walk_at "e"
def qwl{W Y:List D}{n':Int}{FE:aJ}{DA:D->Option D}(hn:((W.length:Nat):Int)=n')(lw:W.length<=sizeLine)(cm:Ns (cz 1 [] none (ai 0) (ae true) FE W) [D.lst W,D.int n'] Y)(ha:DA (.lst Y)=some (.bl true)):
 (aM false 2 2 (aq (cU (gX B5 (bB (ag gq (aG bU (aa 0)) (aa 1))))
 (aF (ae (.bl false)))
 bh) (aF (aG DA (bc (ck 1 [] none (bn (aa 0)) (ai 0) (ae true) FE)))))) [.lst W,.int n']=some (.bl true):=by
 subst hn;walk_at "e"
def DP:∀k:Nat,jp (.lst (List.replicate k (.bl true)))=some (.bl true):=λk=>by have h:=G8 (List.replicate k true);rw[List.map_replicate]at h;show(iV (List.replicate k (.bl true))).map _=_;rw[h];simp
theorem fI{x:D}:∀xs:List D,xs.map (λ_=>x)=List.replicate xs.length x
 |[]=>rfl
 |_::xs=>by rw[x8,fI xs];rfl
def qka(w:Zf)(hb:az w)(n:Nat)(hl:w.length=n)(hn:n<=1000):fyK [.lst (w.map D.int),.int n]=some (.bl true):=by
 have cm:=gn (n:=1) (js:=[]) (fg:=ai 0) (fe:=wt) (M:=[D.lst (w.map D.int),D.int (n:Int)]) (λ_=>.bl true) (w.map D.int) (λx hx=>by obtain⟨b,hm,rfl⟩:=List.mem_map.mp hx;have:=hb b hm;exact⟨_,rfl,Bo b (by omega) (by omega)⟩)
 rw[fI]at cm;unfold fyK xQ;exact qwl (by rw[jb,hl]) (dg (by rw[jb];omega)) cm (DP _)
section
variable{r:Int}{U:Zf}{G:Z9}{e:Str}{P0:Addr}
def qsh{S n:D}(one:1<=sizeLine)(two:2<=sizeLine)(h:o5 [S,n]=some ("NoWord":Str)):o6 [S,n]=some ("NoWord":Str):=by unfold o6 tX;walk_at "e"
def qtp{S n:D}(h:o6 [S,n]=some ("NoWord":Str)):fyM [S,n]=some (.bl true):=by
 have h0:qy [S,n]=none:=rfl;have hk:("NoWord":Str)∈tk_NoWord:=by decide+kernel
 unfold fyM xR;generalize tk_NoWord=tk at hk ⊢;generalize qy=FN at h0 ⊢;walk_at "e"
def qfq(ok:q1w r U G "ring")(k:Nat)(h:k<r.toNat):fyM [au r U G "ring",.int k]=some (.bl true):=qtp (qsh (by decide) (by decide) (qk6 ok k h))
def qzh{S n T x t:D}:ww [S,n,T,D.lst [x],t]=some (.rt .non [S,n,T,D.lst [x],t]):=by walk_at "e"
def ql8(ok:q1w r U G e)(hr:e="ring"->r.toNat<=0):fyA P0 [au r U G e,.int ((0:Nat):Int)]=some .non:=by
 have z4:=mF ok;have lp:=y6 ok (0+aC r e);have hl:(iI U G (0+aC r e)).length=(bE U G (0+aC r e)).length:=jx;have hf:=Dg (ts:=iI U G (0+aC r e)) P0 ok hr hl (by decide) 2 (by decide);rw[show c5 (ca r U G e (iI U G (0+aC r e)) 0) 2 0=[[]]from rfl,GK (most:=2) (List.pairwise_singleton _ _) (by decide)]at hf;have hp:=uN ok 0 (by decide) hr;have hrep:(dc pU (aG bU l5)) [au r U G e,D.int ((0:Nat):Int),none,none,D.tab P0 cy cw]=some ((iI U G (0+aC r e)).map df,[some (au r U G e),some (.int ((0:Nat):Int)),none,none,some (.tab P0 cy cw)]):=by refine qG (sN (by decide) (by decide)) (sK hp) ?_;rw[qR (by omega) (by rw[jb];omega),xl,jb,List.map_replicate];rfl
 exact uO rfl (by decide) ⟨_,(cD (sM hrep)).trans<|(cD (sL (pz (sJ) rfl hf))).trans<|qzh⟩
def Bj{S w:D}{ss:Zf}(two:2<=sizeLine)(h:fyI [S,w]=some (.lst (ss.map D.int)))(hi:eI (.lst (ss.map D.int))=some (.int ss.sum)):((bZ (ak (aG eI pO) (ak (aa 0) af))) [w,S]).map (·.1)=some (.tup [.int ss.sum,w]):=by generalize eI=DS at hi ⊢;walk_at "e"
def qvy(A k Y S F t:D)(n':Int)(WL:List D)(Q:List D)(x:D)(v6:Option D)(FE:aJ)(W1:List D)(hw:fyL [.int n']=some (.lst WL))(hc:nj (.lst WL) (some 1) none=some (.lst W1))(l1:W1.length<=sizeLine)(cm:cz 1 [3] none (ai 0) (ae true) FE W1 [A,k,Y,S,D.int n',F,v6,t]=some (Q,[some A,some k,some Y,some S,some (.int n'),some F,v6,some t]))(hm:kA (.lst Q)=some x):
 (aA 6 (aG kA (bc (ck 1 [3] none oJ (ai 0) (ae true) FE)))) [A,k,Y,S,D.int n',F,v6,t]=some (.nx [A,k,Y,S,D.int n',F,x,t]):=by
 have hI:oJ [A,k,Y,S,D.int n',F,v6,t]=some (W1,[some A,some k,some Y,some S,some (.int n'),some F,v6,some t]):=by simp[D1,CV,xU,DZ,EY,jU,hc,cq,dO,CU,FS,EX,DW,hw,oU]
 generalize oJ=FI at hI ⊢;generalize kA=DM at hm ⊢;clear hw hc;walk_at "e"
theorem all_cons:∀n,∃R,eY n=List.replicate n 0::R
 |0=>⟨[],rfl⟩
 | n+1=>by let⟨R,h⟩:=all_cons n;refine⟨(List.replicate n 0++[1])::aI R,?_⟩;show aI (eY n)=_;rw[h];show(List.replicate n 0++[0])::(List.replicate n 0++[1])::aI R=_;rw[show List.replicate n (0:Int)++[0]=List.replicate (n+1) 0 from(List.replicate_succ' ..).symm]
def BE{d:D}{es:List D}:nj (.lst (d::es)) (some 1) none=some (.lst es):=by rw[GH (by omega)];rfl
def qxz(ok:q1w r U G e)(n:Nat)(hr:e="ring"->r.toNat<=n)(h1:1<=n)(h6:n<=6){w:Zf}(hw:az w)(lw:w.length=n)(nz:w≠List.replicate n 0)(hmin:∀x,az x->x.length=n->x≠List.replicate n 0->bY ((e7 r U G e x).sum,x) ((e7 r U G e w).sum,w)=false)(A k Y F t:D)(v6:Option D):
 (aA 6 (aG kA (bc (ck 1 [3] none oJ (ai 0) (ae true) (bZ (ak (aG eI pO) (ak (aa 0) af))))))) [A,k,Y,au r U G e,D.int (n:Int),F,v6,t]=some (.nx [A,k,Y,au r U G e,D.int (n:Int),F,D.tup [.int (e7 r U G e w).sum,.lst (w.map D.int)],t]):=by
 let⟨R,hR⟩:=all_cons n;have nd:=G6 n;rw[hR]at nd;have memR:∀x,x∈R↔az x/\x.length=n/\x≠List.replicate n 0:=λx=>by
  have h:=allB_mem (k:=n) (b:=x);rw[hR,List.mem_cons]at h;constructor
  .intro hx;let⟨a,b⟩:=h.mp (.inr hx);exact⟨a,b,λz=>(List.nodup_cons.mp nd).1 (by rw[<-z];exact hx)⟩
  .rintro⟨a,b,c⟩;exact(h.mpr ⟨a,b⟩).resolve_left c
 have lR:R.length<=64:=by have:=Fy n;rw[hR,jw]at this;have:=Dh h6;omega
 have cm:=gn (n:=1) (js:=[3]) (fg:=ai 0) (fe:=bZ (ak (aG eI pO) (ak (aa 0) af))) (M:=[A,k,Y,au r U G e,D.int (n:Int),F,v6,t]) (λd=>match d with|.lst ds=>(match dH ds with|some x=>bK ((e7 r U G e x).sum,x)|none=>.non)|_=>.non) (R.map c6) (λx hx=>by obtain⟨y,hy,rfl⟩:=List.mem_map.mp hx;let⟨y1,y2,_⟩:=(memR y).mp hy;refine⟨[c6 y,au r U G e],rfl,?_⟩;show _=some (match dH (y.map D.int)with|some x=>bK ((e7 r U G e x).sum,x)|none=>.non);rw[i3];refine Bj (by decide) (qsl ok y y1 (by rw[y2];exact hr) (by omega)) ?_;unfold eI;dsimp only;rw[i3];rfl)
 have em:(R.map c6).map (λd=>match d with|.lst ds=>(match dH ds with|some x=>bK ((e7 r U G e x).sum,x)|none=>.non)|_=>.non)=(R.map λx=>((e7 r U G e x).sum,x)).map bK:=by rw[jt,jt];refine List.map_congr_left λy _=>?_;show(match dH (y.map D.int)with|some x=>bK ((e7 r U G e x).sum,x)|none=>.non)=_;rw[i3];rfl
 rw[em]at cm;have hwR:w∈R:=(memR w).mpr ⟨hw,lw,nz⟩;have ne:(R.map λx=>((e7 r U G e x).sum,x))≠[]:=λz=>by rw[List.map_eq_nil_iff]at z;rw[z]at hwR;cases hwR
 have hmP:=qw0 (n:=n) ne λq hq=>by obtain⟨y,hy,rfl⟩:=List.mem_map.mp hq;exact((memR y).mp hy).2.1
 let⟨q1,q2⟩:=GP ne;let⟨y,hy,ey⟩:=List.mem_map.mp q1;let⟨y1,y2,y3⟩:=(memR y).mp hy;have e1:=hmin y y1 y2 y3;have e2:=q2 _ (List.mem_map.mpr ⟨w,hwR,rfl⟩);rw[<-ey]at e2;have e3:=pf e2 e1;rw[<-ey,<-e3]at hmP;exact qvy A k Y _ F t _ _ _ _ _ _ _ (qp2 n h6) (by rw[hR,x8];exact BE) (by rw[jb];exact dg (by omega)) cm hmP
def l0(A:D)(k c s:Int)(v2 v3 v4 v5 v6:Option D)(t:D)(hc:fyB [A,.int k]=some (.int c))(hs:fyC [.int c,.int k]=some (.lst [.int s])):Nx wu [A,D.int k,v2,v3,v4,v5,v6,t] 2 (D.lst [.int s]):=by walk_at "e"
def l1(A k S t:D)(s s':Int)(v3 v4 v5 v6:Option D)(j5:3<=sizeLine)(h:fyE [.int s] [.int 4,.lst [.str "open",.str "ended",.str "ring"]]=some (S,[.int s'])):wz [A,k,D.lst [.int s],v3,v4,v5,v6,t]=some (.nx [A,k,D.lst [.int s'],S,v4,v5,v6,t]):=by walk_at "e"
def l2(A k S t:D)(s:Int)(v4 v5 v6:Option D):v0 [A,k,D.lst [.int s],S,v4,v5,v6,t]=some (.nx [A,k,D.lst [.int (eh s)],S,D.int (c9 s 7),v5,v6,t]):=by have h:=mY s 7 (by decide);walk_at "e"
def l3n{A k Y R TS RS t:D}{x:D}{e:Str}{v5 v6:Option D}{FX:aH}(h:cV (.str e) (.str "ring")=some false):Nz (cU pQ FX bh) [A,k,Y,D.tup [R,TS,RS,.str e],x,v5,v6,t]:=by walk_at "e"
def l3a(A k Y TS RS t:D)(r:Int)(E:D)(v4 v5 v6:Option D):Ns pT [A,k,Y,D.tup [.int r,TS,RS,E],v4,v5,v6,t] [.int r]:=by walk_at "e"
def l3y{A k Y TS RS t:D}{r x m:Int}{e:Str}(v5 v6:Option D)(X Z:List D)(FI:aS)(FE:aJ)(DA:D->Option D)(lx:X.length<=sizeLine)(h:cV (.str e) (.str "ring")=some true)(hm:(if r>x then r else x)=m)(hI:Ns FI [A,k,Y,D.tup [.int r,TS,RS,.str e],D.int x,v5,v6,t] X)(cm:Ns (cz 1 [3] none (ai 0) (ae true) FE X) [A,k,Y,D.tup [.int r,TS,RS,.str e],D.int x,v5,v6,t] Z)(ha:DA (.lst Z)=some (.bl true))(FX:aH):Nx (cU pQ
 (aq (cU (fB (bB (aG DA (bc (ck 1 [3] none FI (ai 0) (ae true) FE))))) FX bh) (aA 4 (iO (λi j=>if j>i then j else i) (ak (aa 4) pT))))
 bh) [A,k,Y,D.tup [.int r,TS,RS,.str e],D.int x,v5,v6,t] 4 (D.int m):=by
 walk_at "e"
def l3e{S:D}{z:D}(h:fyM [S,z]=some (.bl true)):((a9 fyM (ak (aa 1) (ak (aa 0) af))) [z,S]).map (·.1)=some (.bl true):=by walk_at "e"
def HH{A k Y S n t:D}{v5 v6:Option D}:Ns (ak (aa 3) (ak (aa 4) af)) [A,k,Y,S,n,v5,v6,t] [S,n]:=by walk_at "e"
def l4(A k Y S n F t:D)(v5 v6:Option D)(FC:aJ)(h:FC [A,k,Y,S,n,v5,v6,t]=some (F,[some A,some k,some Y,some S,some n,v5,v6,some t])):(aA 5 FC) [A,k,Y,S,n,v5,v6,t]=some (.nx [A,k,Y,S,n,F,v6,t]):=by walk_at "e"
abbrev Ct:=BR
def l5z{A k Y S t:D}{v6:Option D}{FX FR:aH}:(aq (cU Ct
 (aq (cU (bB (ag iU (aa 5) (ae .non))) FX bh) tI)
 bh) FR) [A,k,Y,S,D.int 0,D.non,v6,t]=some (.ct [A,k,Y,S,D.int 0,D.non,v6,t]):=by
 walk_at "e"
def l5n{A k Y S F t:D}{n:Int}{v6:Option D}{FX:aH}(h:(n==0)=false):Nz (cU Ct FX bh) [A,k,Y,S,D.int n,F,v6,t]:=by walk_at "e"
def l7{A k Y S n G t w:D}{c:Int}{FX:aH}:(cU (gX vZ (gX (bB (ag gq (aG bU (aa 5)) (ae (.int 2)))) wj)) FX bh) [A,k,Y,S,n,D.tup [.int c,w],G,t]=some (.nx [A,k,Y,S,n,D.tup [.int c,w],G,t]):=by have hw:=rJ c;walk_at "e"
def l8{A k Y S n c w t:D}{FX:aH}(hw:fyK [w,n]=some (.bl true))(hn:gq (.tup [c,w]) (.tup [c,w])=some (.bl false)):(cU (gX wm (bB (ag gq (aa 5) (aa 6)))) FX bh) [A,k,Y,S,n,D.tup [c,w],D.tup [c,w],t]=some (.nx [A,k,Y,S,n,D.tup [c,w],D.tup [c,w],t]):=by generalize gq=NE at hn ⊢;walk_at "e"
noncomputable def lJ(P0:Addr):aH:=(aq wu
 (aq wz
 (aq v0
 (aq (cU pQ
   (aq wB (aA 4 (iO (λi j=>if j>i then j else i) (ak (aa 4) pT))))
   bh)
 (aq (aA 5 (jM 7 P0 cy cw (fyA P0) (ak (aa 3) (ak (aa 4) af))))
 (aq Cw
 (aq (aA 6 (aG kA (bc (ck 1 [3] none oJ (ai 0) (ae true) (bZ (ak (aG eI pO) (ak (aa 0) af)))))))
 (aq (cU (gX vZ (gX (bB (ag gq (aG bU (aa 5)) (ae (.int 2)))) wj))
   (aF (ae (.bl false)))
   bh)
 (cU (gX wm (bB (ag gq (aa 5) (aa 6))))
   (aF (ae (.bl false)))
   bh)))))))))
def turn(ns:Zf)(k:Nat)(v2 v3 v4 v5 v6:Option D):∃w2 w3 w4 w5 w6,lJ P0 [D.lst (ns.map D.int),D.int (k:Int),v2,v3,v4,v5,v6,D.tab P0 cy cw]=some (.nx [D.lst (ns.map D.int),D.int (k:Int),w2,w3,w4,w5,w6,D.tab P0 cy cw])∨lJ P0 [D.lst (ns.map D.int),D.int (k:Int),v2,v3,v4,v5,v6,D.tab P0 cy cw]=some (.ct [D.lst (ns.map D.int),D.int (k:Int),w2,w3,w4,w5,w6,D.tab P0 cy cw]):=by
 let⟨c,hc⟩:=qkb ns k (by omega);have hs:=qp3 c k (by decide);generalize (c % 10^60*7368787+1000003*(k:Int)+17) % 2305843009213693951=s at hs;let⟨r,U,G,e,s',hsch,ok⟩:=qbg s;have d0:=oZ s' (m:=7) (by decide);have d7:=oY s' (m:=7) (by decide);have r0:=ok.r0;have r4:=ok.r4;have a0:=l0 (.lst (ns.map D.int)) k c s v2 v3 v4 v5 v6 (.tab P0 cy cw) hc hs;have a1:=l1 (.lst (ns.map D.int)) (.int k) _ (.tab P0 cy cw) s s' v3 v4 v5 v6 (by decide) hsch;have a2:=l2 (.lst (ns.map D.int)) (.int k) (au r U G e) (.tab P0 cy cw) s' v4 v5 v6;obtain⟨n,n6,hr,a3⟩:∃n:Nat,n<=6/\(e="ring"->r.toNat<=n)/\(cU pQ
  (aq wB (aA 4 (iO (λi j=>if j>i then j else i) (ak (aa 4) pT))))
  bh) [D.lst (ns.map D.int),D.int (k:Int),D.lst [.int (eh s')],au r U G e,D.int (c9 s' 7),v5,v6,D.tab P0 cy cw]=some (.nx [D.lst (ns.map D.int),D.int (k:Int),D.lst [.int (eh s')],au r U G e,D.int (n:Int),v5,v6,D.tab P0 cy cw]):=by
  by_cases q:e="ring"
  .subst q;obtain⟨m,hm⟩:∃m,(if r>c9 s' 7 then r else c9 s' 7)=m:=⟨_,rfl⟩;have hm':0<=m/\m<=6/\r<=m:=by split at hm<;>omega
   refine⟨m.toNat,by omega,λ_=>by omega,?_⟩;rw[Int.toNat_of_nonneg (by omega)];have hI:=uq (l3a (.lst (ns.map D.int)) (.int k) (.lst [.int (eh s')]) (.tup (U.map D.int)) (.tup (G.map cW)) (.tab P0 cy cw) r (.str "ring") (some (.int (c9 s' 7))) v5 v6) (by unfold eQ;simp;omega)
   have cm:=gn (n:=1) (js:=[3]) (fg:=ai 0) (fe:=a9 fyM (ak (aa 1) (ak (aa 0) af))) (M:=[D.lst (ns.map D.int),D.int (k:Int),D.lst [.int (eh s')],au r U G "ring",D.int (c9 s' 7),v5,v6,D.tab P0 cy cw]) (λ_=>.bl true) (cK 0 r.toNat) (λx hx=>by unfold cK at hx;obtain⟨j,hj,rfl⟩:=List.mem_map.mp hx;have hj':=List.mem_range.mp hj;refine⟨[D.int (0+(j:Int)),au r U G "ring"],rfl,l3e ?_⟩;rw[Int.zero_add];exact qfq ok j hj')
   rw[fI]at cm;exact l3y v5 v6 _ _ _ _ _ (by rw[ig];exact dg (by omega)) nQ hm hI cm (DP _) _
  .refine⟨(c9 s' 7).toNat,by omega,λz=>absurd z q,?_⟩;rw[Int.toNat_of_nonneg (by omega)];refine l3n ?_;rcases ok.en with g|g|g
   .rw[g];exact nR
   .rw[g];exact nS
   .exact absurd g q
 unfold lJ;by_cases z:n=0
 .subst z;have a4:=l4 (.lst (ns.map D.int)) (.int k) (.lst [.int (eh s')]) (au r U G e) (.int ((0:Nat):Int)) .non (.tab P0 cy cw) v5 v6 _ (pz (j:=7) (P:=P0) (lp:=cy) (q:=cw) (HH) rfl (ql8 (P0:=P0) ok hr));exact⟨_,_,_,_,_,.inr ((cD a0).trans<|(cD a1).trans<|(cD a2).trans<|(cD a3).trans<|(cD a4).trans<|l5z)⟩
 .let⟨w,hf,w1,w2,w3,w4⟩:=qyd (n:=n) P0 ok hr (by omega) (by omega);have a4:=l4 (.lst (ns.map D.int)) (.int k) (.lst [.int (eh s')]) (au r U G e) (.int (n:Int)) _ (.tab P0 cy cw) v5 v6 _ (pz (j:=7) (P:=P0) (lp:=cy) (q:=cw) (HH) rfl hf);have hne:gq (.tup [.int (e7 r U G e w).sum,.lst (w.map D.int)]) (.tup [.int (e7 r U G e w).sum,.lst (w.map D.int)])=some (.bl false):=by
   unfold gq;rw[qmh (n:=2) (DOks.tup (DOks.cons (DOk.int _ _) (DOks.cons (DOk.ints w) (DOks.nil _)))) (by decide)];rfl
  exact⟨_,_,_,_,_,.inl ((cD a0).trans<|(cD a1).trans<|(cD a2).trans<|(cD a3).trans<|(cD a4).trans<|(cD (l5n (by simp;omega))).trans<|(cD (qxz ok n hr (by omega) n6 w1 w2 w3 w4 _ _ _ _ _ _)).trans<|(cD (l7)).trans<|l8 (qka w w1 n w2 (by omega)) hne)⟩
def Bl(N:List D)(m1 m:Int)(v1 v2 v3 v4 v5 v6:Option D)(t:D)(h1:(if(12:Int)<(N.length:Nat)then 12 else((N.length:Nat):Int))=m1)(h2:(if m1>1 then m1 else 1)=m):(ak (iO (λi j=>if j>i then j else i) (ak (ae (.int 1)) (ak (iO (λi j=>if j<i then j else i) Cb) af))) af) [D.lst N,v1,v2,v3,v4,v5,v6,t]=some ([.int m],[some (.lst N),v1,v2,v3,v4,v5,v6,some t]):=by subst h1;subst h2;walk_at "e"
def qw9{A t:D}{X:List D}{w1 w2 w3 w4 w5 w6:Option D}{FI:aS}{FB:aH}(hI:Ns FI [A,none,none,none,none,none,none,t] X)(hf:eB (ai 1) FB X [A,none,none,none,none,none,none,t]=some (.nx [A,w1,w2,w3,w4,w5,w6,t])):
 (aq (bS FI (ai 1) FB) (aF (ae (.bl true)))) [A,none,none,none,none,none,none,t]=some (.rt (.bl true) [A,w1,w2,w3,w4,w5,w6,t]):=by
 walk_at "e"
def jD(ns:Zf)(hn:ns.length<=63):f_law P0 [.lst (ns.map D.int)]=some (.bl true):=by
 obtain⟨m1,h1⟩:∃m1,(if(12:Int)<((ns.map D.int).length:Nat)then 12 else(((ns.map D.int).length:Nat):Int))=m1:=⟨_,rfl⟩;obtain⟨m,h2⟩:∃m,(if m1>1 then m1 else 1)=m:=⟨_,rfl⟩;have hm:0<=m/\m<=12:=by split at h1<;>split at h2<;>omega
 have hI:=uq (Bl (ns.map D.int) m1 m none none none none none none (.tab P0 cy cw) h1 h2) (by unfold eQ;simp;omega)
 obtain⟨M',hf,w1,w2,w3,w4,w5,w6,rfl⟩:=qr1 (fg:=ai 1) (fb:=lJ P0)
  (λM=>∃w1 w2 w3 w4 w5 w6,M=[some (.lst (ns.map D.int)),w1,w2,w3,w4,w5,w6,some (.tab P0 cy cw)]) (cK 0 m.toNat) [D.lst (ns.map D.int),none,none,none,none,none,none,D.tab P0 cy cw] ⟨_,_,_,_,_,_,rfl⟩ (by rintro x M hx ⟨w1,w2,w3,w4,w5,w6,rfl⟩;unfold cK at hx;obtain⟨j,hj,rfl⟩:=List.mem_map.mp hx;rw[Int.zero_add];let⟨u2,u3,u4,u5,u6,ht⟩:=turn (P0:=P0) ns j w2 w3 w4 w5 w6;exact⟨_,_,rfl,ht,_,_,_,_,_,_,rfl⟩)
 exact uO rfl (by decide) ⟨_,qw9 hI hf⟩
end
def qwd{P:Program}{w:World}{K mg a base}(T:Txt K mg a):FnOk P w K mg base br 10 a.f_law a.fd_law ["_law_script"] (uu K a.tyz cy cw 63):=qqn (qvj T) jD
local macro_rules|`(tactic|walk_at "k")=>`(tactic|as_aux_lemma=>kernel_rfl)
local macro_rules|`(tactic|walk_at "f")=>`(tactic|exact qwt (oc:=.type "function") (od:=none) (osl:=#[]) (by walk_at "k") (by walk_at "k") (by walk_at "k"))
local macro_rules|`(tactic|walk_at "g")=>`(tactic|exact qqx (oc:=.type "function") (od:=none) (osl:=#[]) (by walk_at "k") (by walk_at "k") (by walk_at "k"))
local macro_rules|`(tactic|walk_at "b")=>`(tactic|first|exact(.all λus hl=>match us,hl with|[_],_=>rfl)|exact(.all λus hl=>match us,hl with|[_,_],_=>rfl)|exact(.all λus hl=>match us,hl with|[_,_,_],_=>rfl)|exact(.all λus hl=>match us,hl with|[_,_,_,_],_=>rfl)|exact(.all λus hl=>match us,hl with|[_,_,_,_,_],_=>rfl))
local macro_rules|`(tactic|walk_at "kb")=>`(tactic|first|exact q6k|exact q1z (by decide+kernel) (by walk_at "k") (by decide+kernel))
abbrev nf(x:Str)(s:Stmt)(pm:Value)(c:Addr):FuncData:=PySem.W.fnOf x x (ii s) (e8 s) (aT s) .none (.none) (.none) pm none (.ref c) (.none)
noncomputable def ad:Ad:=⟨169,195,228,24,37,49,58,65,72,77,82,89,96,103,110,117,124,152,166,192,211,225,237,244,249,254,261,266,271,276,283,288,293,300,307,312,319,324,331,337,344,351,358,365,370,377,382,389,396,403,408,413,420,425,326,330,nf "rooms_at" nO H26.zm1 57,nf "rooms" nN H26.zm1 64,nf "parity" nM H26.zm1 71,nf "step" nL H26.zm1 76,nf "sent_at" lg H26.zm1 81,nf "is_ring" nK H26.zm2 88,nf "check_size" nJ H26.zm2 95,nf "bits_behind" nI H26.zm2 102,nf "first_rooms" nH H26.zm2 109,nf "steps_of" nG H26.zm2 116,nf "places_of" yd H26.zm2 123,(PySem.W.fnOf "__init__" "Clear.__init__" (ii qh) (e8 qh) (aT qh) .none (.none) (.none) H26.zm3 none (.ref 151) (.none)),(PySem.W.fnOf "cost" "Clear.cost" (ii qj) (e8 qj) (aT qj) .none (.none) (.none) H26.zm3 none (.ref 165) (.none)),(PySem.W.fnOf "cost" "Gap.cost" (ii qk) (e8 qk) (aT qk) .none (.none) (.none) H26.zm3 none (.ref 191) (.none)),(PySem.W.fnOf "__init__" "Soft.__init__" (ii qm) (e8 qm) (aT qm) .none (.none) (.none) H26.zm3 none (.ref 210) (.none)),(PySem.W.fnOf "cost" "Soft.cost" (ii qo) (e8 qo) (aT qo) .none (.none) (.none) H26.zm3 none (.ref 224) (.none)),nf "sign_of" ye H26.zm3 236,nf "check_heard" yf H26.zm4 243,nf "signs_cost" t6 H26.zm4 248,nf "signs_by_step" yg H26.zm4 253,nf "move" yh H26.zm4 260,nf "moves_from" yi H26.zm4 265,nf "moves" yj H26.zm4 270,nf "end_costs" yk H26.zm4 275,nf "cost_by" yl H26.zm4 282,nf "least_by" t7 H26.zm4 287,nf "ahead_by" ym H26.zm4 292,nf "ahead_by_start" yn H26.zm4 299,nf "cost_of_track" yo H26.zm5 306,nf "beginning" t8 H26.zm5 311,nf "track_on" yp H26.zm5 318,nf "beginning_on" yq H26.zm5 323,nf "first_ones" yr H26.zm5 330,(PySem.W.fnOf "few" "few" (ii qg) (e8 qg) (aT qg) (.ref 332) (.none) (.none) H26.zm5 none (.ref 336) (.none)),nf "apart" yt (.str "trellisway.apart" 602) 343,nf "_law_cell_at" yu H26.zm0 350,nf "_law_state" yv H26.zm0 357,nf "_law_next" yw H26.zm0 364,nf "_law_scheme" yy H26.zm0 369,nf "_law_odd" yz H26.zm0 376,nf "_law_step" t9 H26.zm0 381,nf "_law_start" yA H26.zm0 388,nf "_law_sent" yB H26.zm0 395,nf "_law_whole" yC H26.zm0 402,nf "_law_is_word" yD H26.zm0 407,nf "_law_words" yE H26.zm0 412,nf "_law_refused" yF H26.zm0 419,nf "law" yc H26.zm0 424⟩
def txt{P:Params}{h:Heap}{mg:Za}{fa:Addr}(X:(H26.KH P).In h)(G:h.Ns mainGlobals mg)(hfa:mg "law"=some (.ref fa)):∃a:Ad,Txt (H26.KH P) mg a/\a.f_law=fa/\a.tyz=326/\∀(s:Shared) (v:Value),BindsTo s a.fd_law ⟨[v],[]⟩ [("_law_script",v)]:=by have e0:425=fa:=Value.ref.inj (jl ((PySem.W.mg_of X G (show PySem.W.nsIn (H26.KH P) mainGlobals "law"=some (some (.ref 425))from by walk_at "k")).symm.trans hfa));subst e0;have g {x:Str} {v:Value} (h:PySem.W.nsIn (H26.KH P) mainGlobals x=some (some v)):mg x=some v:=PySem.W.mg_of X G h;refine⟨ad,?_,rfl,rfl,λs v=>.of_eq rfl⟩;constructor<;>first|exact⟨by walk_at "f",by walk_at "b",g (by walk_at "k")⟩|exact PySem.W.mg_none_of X G (by walk_at "k")|exact g (by walk_at "k")|walk_at "f"|walk_at "g"|walk_at "b"|exact(qxj (ps:=tj) rfl (show(H26.KH P).lookup 332=some ⟨(.type "tuple"),none,.seq #[.int 2 595] 0,#[]⟩from by walk_at "k") λus hl=>match us,hl with|[_,_,_,_],_=>⟨_,rfl,rfl⟩)|exact show PySem.W.findIn (H26.KH P) (.ref 169) "bit"=some none from by walk_at "k"|exact show PySem.W.findIn (H26.KH P) (.ref 228) "one"=some none from by walk_at "k"|exact show PySem.W.findIn (H26.KH P) (.ref 228) "zero"=some none from by walk_at "k"|rfl|exact(show∀h:Heap,(H26.KH P).In h->PySem.W.CodeHd h 330 326 from GF (o:=H26.cO "first_ones" 587 "first_ones" 588 589 144 2 3 325 181 326 327 328 329 592 144 593) (by walk_at "k") rfl rfl rfl rfl rfl rfl rfl rfl (by decide))|exact(show∀h:Heap,(H26.KH P).In h->h.BuiltinsAt mg 326 from q9o (bm:=4) (g (by walk_at "k")) (by walk_at "k") (by decide) (by decide) (by decide))|exact q9d (by walk_at "kb") (by walk_at "kb") (by walk_at "kb") (by walk_at "kb") (by walk_at "kb") (by walk_at "kb") (by walk_at "kb")|(refine⟨?_,?_,?_⟩<;>walk_at "k")|(refine⟨?_,?_,?_,?_⟩<;>walk_at "k")|(refine⟨?_,?_,?_,?_,?_,?_,?_,?_,?_,?_⟩<;>walk_at "k")|exact qwv (by walk_at "k") (by walk_at "k") (by walk_at "k") (by walk_at "k")|walk_at "k"
def two_of{P:Params}{h:Heap}(Y:(H26.KHP P).In h):(H26.KH P).In h/\h.get? 326=some {cls:=.none,data:=.fields #[]}:=⟨λa o e=>Y a o (by show(H26.KH P++_).lookup a=_;rw[List.lookup_append,e];rfl),Y _ _ (show(H26.KHP P).lookup 326=some ⟨.none,none,.fields #[],#[]⟩from by walk_at "k")⟩
def no_table:∀P,(H26.KH P).lookup 326=none:=λP=>by walk_at "k"
def head_at:∀P (h:Heap),(H26.KH P).In h->PySem.W.CodeHd h 330 326:=λP=>GF (o:=H26.cO "first_ones" 587 "first_ones" 588 589 144 2 3 325 181 326 327 328 329 592 144 593) (by walk_at "k") rfl rfl rfl rfl rfl rfl rfl rfl (by decide)
def walk{l:PySem.W.OpenLaw}{q:Program}{loose:Zj}{XP:(Str->Option Value)->Heap->Prop}{YP:World->Heap->Prop}{d:DefRec}{K:Params->PySem.W.Frag}{P0 c:Addr}(hn:l.most=some 63)(hdf:d.params.defaults=[])(hd:d.name="law")
 (hY:∀(w:World) (h:Heap),YP w h->(K w.params).In h/\h.get? P0=some {cls:=.none,data:=.fields #[]}) (hKP:∀P,(K P).lookup P0=none) (hcd:∀P (h:Heap),(K P).In h->PySem.W.CodeHd h c P0)
 (F:∀(w:World) (mg:Za) (fa:Addr) (h:Heap),(K w.params).In h->h.Ns mainGlobals mg->mg "law"=some (.ref fa)->∃a:Ad,Txt (K w.params) mg a/\a.f_law=fa/\a.tyz=P0/\∀(s:Shared) (v:Value),BindsTo s a.fd_law ⟨[v],[]⟩ [("_law_script",v)]):
 PySem.W.WalkO q loose XP YP l.row.toRowW d [] (λf vs=>PySem.call f vs):=
 L2.walk_ofL (n:=63) (k:=10) (x:="_law_script") (lp:=cy) (qn:=cw) hn (by decide) hdf ⟨rfl,by decide,by decide⟩ hY hKP hcd
  (λw mg fa h KX G hm=>by rw[hd]at hm;let⟨a,T,e,e2,b⟩:=F w mg fa h KX G hm;subst e e2;exact⟨a.fd_law,b,λbase _ _=>qwd T⟩)
end K26
open PySem PySem.W PyProof.Rows
set_option maxRecDepth 100000 in
set_option maxHeartbeats 0 in
theorem PySem.Challenge.cw_trellisway_k26_distance_told_holds : PySem.Challenge.rw_trellisway_k26_distance_told.Holds := by
 w_on;o_law
 refine holds_open (r:=PySem.Challenge.rw_trellisway_k26_distance_told.row) (q:=H26.V) (loose:=["few"]) (Xt:=(λs=>xlAt H26.V [] s&&recOk (RowW.records (OpenRow.toRowW PySem.Challenge.rw_trellisway_k26_distance_told.row)) s)) (XP:=XL H26.V []) (Yf:=Hook.obs (kHook H26.KHP H26.KA H26.ka_eq)) (Ya:=Hook.val (kHook H26.KHP H26.KA H26.ka_eq)) (YP:=Hook.says (kHook H26.KHP H26.KA H26.ka_eq)) (N:=6148) H26.leftR (Hook.of (kHook H26.KHP H26.KA H26.ka_eq)) (Hook.keeps (kHook H26.KHP H26.KA H26.ka_eq)) (λs e=>xl_of s (Bool.and_eq_true_iff.mp e).1) XL.keeps (by rfl) (by rfl) (by rfl) (λs e=>recFacts_of (Bool.and_eq_true_iff.mp e).2) (by rfl) (by first|assumption|decide+kernel) (by decide+kernel) ⟨rfl,rfl,rfl,rfl,rfl,by decide+kernel⟩ ?hw ?hc
 case hw=>w_witness2
 case hc=>exact K26.walk (l:=PySem.Challenge.rw_trellisway_k26_distance_told) rfl rfl rfl (λw h Y=>K26.two_of (PySem.W.kIn_of Y)) K26.no_table K26.head_at λw mg fa h KX G hmg=>K26.txt KX G hmg
