import PyProof.Rows.All
import Wide.All
import OpenK.AllK
import Wide.FinOn
import Lean
import KE.KTryMore
import KE.KSortTup
import KE.KRevIter
import KE.KMinKey
import KE.KLam
import KE.KIntText
import KE.KEqDict
import PyProof.EqAt
import PyProof.EqKinds
import PyProof.TupleCall
import PySem.Challenge.RW_trellisway_k22_whole_few_leave_none
set_option Elab.async false
set_option linter.all false
set_option hygiene false
set_option compiler.extract_closed false
set_option bootstrap.genMatcherCode false
set_option maxRecDepth 100000
set_option maxHeartbeats 4000000
noncomputable section
abbrev aq:=PySem.W.Frag
abbrev zlw:PySem.Str:="law_trellisway_k22_whole_few_leave_none"
namespace H22
open PySem PySem.W
abbrev zr:=Challenge.rw_trellisway_k22_whole_few_leave_none
abbrev zp:=Challenge.pw_trellisway_k22_whole_few_leave_none
noncomputable def qv(tb:String->Option Builtin)(p:Program)(w:World)(n₀:Nat)(ann:Option Value):Nat->SharedT->Thread->Option SharedT
 |0,_,_=>none
 | n+1,s,t=>match through t with
  |true=>some s
  | false=>match stepOk n₀ ann t with
   |false=>none
   | true=>match stepT (denote tb) p w s t with
    |some (s',t')=>qv tb p w n₀ ann n s' t'
    |none=>none
theorem Ip{tb:String->Option Builtin}{p:Program}{w:World}{n₀:Nat}{ann:Option Value}:∀{n:Nat} {s s':SharedT} {t:Thread},qv tb p w n₀ ann n s t=some s'->topRun tb p w n₀ ann n s.abs t=some s'.abs
 |0,_,_,_,h=>by cases h
 | n+1,s,s',t,h=>by
  unfold qv at h;unfold topRun;split at h
  .rename_i q;rw[q];cases h;rfl
  .rename_i q;rw[q];split at h
   .cases h
   .rename_i q2;dsimp only;rw[q2];split at h
    .rename_i s1 t1 q3;dsimp only;rw[stepT_spec q3];exact Ip h
    .cases h
noncomputable def E4:List Obj->Nat->BT->BT
 |[],_,t=>t
 |o::r,n,t=>E4 r (n+1) (t.ins n o)
noncomputable def vK(P:Params)(os:OsState):SharedT:=⟨E4 (boot_heap P).objs.toList 0 .nil,(boot_heap P).objs.size,(boot_heap P).life,Array.mk [],boot_drawn,boot_toks,os⟩
theorem qjw(P:Params)(os:OsState):(vK P os).abs=⟨boot_heap P,Array.mk [],boot_drawn,boot_toks,os⟩:=by kernel_rfl
theorem qiw{p q:Program}{loose:List Str}{Xt:Shared->Bool}{α:Type}{Yf:Shared->α}{Ya:World->α}{N m₀:Nat}{ann:Option Value}(e:opening p=plainProg p.main.scope.names)(hN:Nat.ble 600 N=true)(f:∀s,fenceModules? p s=some s)
 (size:∀P:Params,((boot_heap P).isNs mainGlobals,(boot_heap P).objs.size,(boot_heap P).nsMap mainGlobals "__annotations__")=(true,m₀,ann))
 (run:∀(w:World) (os:OsState),(qv treeTable p w m₀ ann N (vK w.params os) (topStub p)).map (λs=>(staticsOk (importedModules p.main.body) (boot_heap w.params) s.abs.heap&&namesBound p s.abs.heap&&gensDone s.abs&&laidKept (boot_heap w.params) s.abs.heap,
   openSeen q loose (importedModules p.main.body) Xt true s.abs,Yf s.abs))=some (true,openGood q loose,Ya w)):LeftO p q loose Xt Yf Ya N:=λw=>by
 let⟨⟨h,gs,d,k,os⟩,e,e'⟩:=Option.map_eq_some_iff.mp (boot_open e hN f w);obtain⟨rfl,rfl,rfl,rfl⟩:h=boot_heap w.params/\gs=Array.mk []/\d=boot_drawn/\k=boot_toks:=by simpa using e'
 obtain⟨z1,z2,z3⟩:_/\_/\_:=by simpa only[Prod.mk.injEq]using size w.params
 let⟨s,r,l⟩:=Option.map_eq_some_iff.mp (run w os);obtain⟨l1,l2,l3⟩:_/\_/\_:=by simpa only[Prod.mk.injEq]using l
 have r:=Ip r;rw[qjw]at r;have t:topFrom treeTable p w N ⟨boot_heap w.params,Array.mk [],boot_drawn,boot_toks,os⟩=some s.abs:=by unfold topFrom;dsimp only;rw[z1,z2,z3,r];show(match staticsOk (importedModules p.main.body) (boot_heap w.params) s.abs.heap&&namesBound p s.abs.heap&&gensDone s.abs&&laidKept (boot_heap w.params) s.abs.heap with|true=>_|false=>_)=_;rw[l1]
 unfold openEnds;rw[e];show(topFrom treeTable p w N _).map _=_;rw[t];exact congrArg some (Prod.ext l2 l3)
noncomputable def tp(i:Nat):Stmt:=zp.main.body.getD i (.Pass ⟨0,0,0,0⟩)
noncomputable def ic(s:Stmt)(j:Nat):Stmt:=match s with
 |.ClassDef _ _ _ b _ _ _ _ _ _ _=>b.getD j (.Pass ⟨0,0,0,0⟩)
 |_=>.Pass ⟨0,0,0,0⟩
noncomputable def dA(s:Stmt):Arguments:=match s with
 |.FunctionDef _ a _ _ _ _ _ _ _ _=>a
 |_=>{posonlyargs:=[],args:=[],vararg:=none,kwonlyargs:=[],kw_defaults:=[],kwarg:=none,defaults:=[]}
noncomputable def dB(s:Stmt):List Stmt:=match s with
 |.FunctionDef _ _ b _ _ _ _ _ _ _=>b
 |_=>[]
noncomputable def dS(s:Stmt):Scope:=match s with
 |.FunctionDef _ _ _ _ _ _ sc _ _ _=>sc
 |_=>{kind:=.function,names:=[],isGenerator:=false,isCoroutine:=false}
def V:Program:={zp with main:={zp.main with body:=[tp 1,tp 2,tp 3,tp 5,tp 6,tp 7,tp 8,tp 9,tp 11,tp 12,tp 13,tp 14,tp 15,tp 16,tp 18,tp 19,tp 20,tp 21,tp 22,tp 24,tp 25,tp 26,tp 27,tp 28,tp 29,tp 30,tp 31,tp 32,tp 33,tp 35,tp 37,tp 38,tp 39,tp 40,tp 41,tp 44,tp 45,tp 46,tp 47,tp 48,tp 49,tp 50,tp 51,tp 52,tp 53,tp 54,tp 55,tp 56,tp 57,tp 58,tp 59,tp 60,tp 61,tp 62,tp 63,tp 64]}}
abbrev zm0:Value:=.str zlw 613
abbrev zm1:Value:=.str "trellisway.schemes" 239
abbrev zm2:Value:=.str "trellisway.sending" 276
abbrev zm3:Value:=.str "trellisway.signs" 326
abbrev zm4:Value:=.str "trellisway.costs" 468
abbrev zm5:Value:=.str "trellisway.few" 564
noncomputable def eS(P:Params)(x:Str)(t:Nat)(v:Value):DictEntry:=⟨PyData.keyHash P x,.str x t,v⟩
def fO(x:Str)(s:Stmt)(pm:Value)(cd:Nat):Obj:=⟨.type "function",none,.func (W.fnOf x x (dA s) (dB s) (dS s) .none .none .none pm none (.ref cd) .none),#[]⟩
def eR(P:Params)(x:Str)(t:Nat)(n:Addr):DictEntry:=eS P x t (.ref n)
noncomputable def cN(x:Str)(t:Nat)(y:Str)(u a2 a3 a4 a7 a8 a10 a11 a15 a16 a17 a18:Nat):Obj:=⟨.type "code",none,.fields #[.str x t,.str y u,.str "/claim/cut.py" a2,.int a3 0,.int a4 0,.int 0 0,.int 0 0,.int a7 0,.ref a8,.bool true,.int a10 0,.ref a11,.none,.none,.none,.ref a15,.int a16 0,.int a17 0,.str "/claim/cut.py" a18],#[]⟩
noncomputable def cO(x:Str)(t:Nat)(y:Str)(u a2 a3 a4 a7 a8 a10 a11 a13 a14 a15 a16 a17 a18:Nat):Obj:=⟨.type "code",none,.fields #[.str x t,.str y u,.str "/claim/cut.py" a2,.int a3 0,.int a4 0,.int 0 0,.int 0 0,.int a7 0,.ref a8,.bool true,.int a10 0,.ref a11,.none,.ref a13,.ref a14,.ref a15,.int a16 0,.int a17 0,.str "/claim/cut.py" a18],#[]⟩
def KH(P:Params):W.Frag:=[(3,⟨.type "dict",none,.dict #[eS P "__name__" 165 zm0,eS P "__doc__" 166 (.none),eS P "__package__" 167 (.none),eS P "__loader__" 168 (.builtin "__main__.__loader__#opaque"),eS P "__spec__" 169 (.none),eR P "__annotations__" 170 6,eR P "__builtins__" 171 4,eS P "__file__" 173 (.str "/claim/cut.py" 172),eS P "__cached__" 174 (.none),eR P "WayError" 206 24,eR P "NoWord" 222 37,eR P "NoSigns" 238 49,eR P "rooms_at" 247 58,eR P "rooms" 254 65,eR P "parity" 263 72,eR P "step" 269 77,eR P "sent_at" 275 82,eR P "is_ring" 284 89,eR P "check_size" 292 96,eR P "bits_behind" 299 103,eR P "first_rooms" 306 110,eR P "steps_of" 314 117,eR P "places_of" 325 124,eR P "Sign" 347 134,eR P "Clear" 387 169,eR P "Gap" 418 195,eR P "Soft" 460 228,eR P "sign_of" 467 237,eR P "check_heard" 479 244,eR P "signs_cost" 485 249,eR P "signs_by_step" 491 254,eR P "move" 503 261,eR P "moves_from" 509 266,eR P "moves" 515 271,eR P "end_costs" 521 276,eR P "cost_by" 530 283,eR P "least_by" 536 288,eR P "ahead_by" 542 293,eR P "ahead" 553 301,eR P "ahead_by_start" 563 308,eR P "cost_of_track" 575 315,eR P "beginning" 581 320,eR P "track_on" 591 327,eR P "beginning_on" 597 332,eR P "first_ones" 605 339,eR P "few" 612 345,eR P "_law_cell_at" 622 352,eR P "_law_state" 630 359,eR P "_law_next" 638 366,eR P "_law_scheme" 644 371,eR P "_law_odd" 652 378,eR P "_law_step" 658 383,eR P "_law_start" 668 390,eR P "_law_sent" 681 397,eR P "_law_sign" 692 404,eR P "_law_heard" 704 411,eR P "_law_price" 712 418,eR P "_law_total" 718 423,eR P "_law_whole" 725 430,eR P "_law_is_word" 731 435,eR P "_law_rows" 742 442,eR P "_law_by_steps" 755 449,eR P "_law_gone" 761 454,eR P "_law_first" 780 461,eR P "_law_leaving" 786 466,eR P "_law_none_ahead" 792 471,eR P "law" 798 476] 67,#[]⟩),
 (4,⟨.type "module",(some 0),.plain,#[]⟩),
 (23,⟨.type "dict",none,.dict #[eS P "__module__" 196 (.str "trellisway.errors" 187),eS P "__firstlineno__" 200 (.int 2 199),eR P "__static_attributes__" 201 22,eR P "__weakref__" 203 25,eS P "__doc__" 204 (.none)] 3,#[]⟩),
 (24,⟨.type "type",none,.cls ⟨"WayError",[.type "ValueError"],[.ref 24,.type "ValueError",.type "Exception",.type "BaseException",.type "object"],23,"WayError",true,[],[.ref 37,.ref 49],false,none,false⟩,#[some (.ref 15),none,some (.str "WayError" 189),some (.str "WayError" 197),some (.builtin "ValueError.__new__"),some (.bool true)]⟩),
 (36,⟨.type "dict",none,.dict #[eS P "__module__" 214 (.str "trellisway.errors" 187),eS P "__firstlineno__" 218 (.int 4 217),eR P "__static_attributes__" 219 35,eS P "__doc__" 220 (.none)] 2,#[]⟩),
 (37,⟨.type "type",none,.cls ⟨"NoWord",[.ref 24],[.ref 37,.ref 24,.type "ValueError",.type "Exception",.type "BaseException",.type "object"],36,"NoWord",true,[],[],false,none,false⟩,#[some (.ref 28),none,some (.str "NoWord" 207),some (.str "NoWord" 215),some (.builtin "ValueError.__new__"),some (.bool true)]⟩),
 (48,⟨.type "dict",none,.dict #[eS P "__module__" 230 (.str "trellisway.errors" 187),eS P "__firstlineno__" 234 (.int 6 233),eR P "__static_attributes__" 235 47,eS P "__doc__" 236 (.none)] 2,#[]⟩),
 (49,⟨.type "type",none,.cls ⟨"NoSigns",[.ref 24],[.ref 49,.ref 24,.type "ValueError",.type "Exception",.type "BaseException",.type "object"],48,"NoSigns",true,[],[],false,none,false⟩,#[some (.ref 40),none,some (.str "NoSigns" 223),some (.str "NoSigns" 231),some (.builtin "ValueError.__new__"),some (.bool true)]⟩),
 (57,cO "rooms_at" 241 "rooms_at" 242 243 9 1 3 52 181 53 54 55 56 245 9 246),
 (58,fO "rooms_at" (tp 5) zm1 57),
 (64,cO "rooms" 248 "rooms" 249 250 11 1 3 59 181 60 61 62 63 252 11 253),
 (65,fO "rooms" (tp 6) zm1 64),
 (71,cO "parity" 255 "parity" 256 257 13 1 3 66 181 67 68 69 70 261 13 262),
 (72,fO "parity" (tp 7) zm1 71),
 (76,cN "step" 264 "step" 265 266 20 3 3 73 181 74 75 267 20 268),
 (77,fO "step" (tp 8) zm1 76),
 (81,cN "sent_at" 270 "sent_at" 271 272 24 3 3 78 181 79 80 273 24 274),
 (82,fO "sent_at" (tp 9) zm1 81),
 (88,cO "is_ring" 278 "is_ring" 279 280 29 1 3 83 181 84 85 86 87 282 29 283),
 (89,fO "is_ring" (tp 11) zm2 88),
 (95,cO "check_size" 285 "check_size" 286 287 31 2 3 90 181 91 92 93 94 290 31 291),
 (96,fO "check_size" (tp 12) zm2 95),
 (102,cO "bits_behind" 293 "bits_behind" 294 295 34 1 3 97 181 98 99 100 101 297 34 298),
 (103,fO "bits_behind" (tp 13) zm2 102),
 (109,cO "first_rooms" 300 "first_rooms" 301 302 36 1 3 104 181 105 106 107 108 304 36 305),
 (110,fO "first_rooms" (tp 14) zm2 109),
 (116,cO "steps_of" 307 "steps_of" 308 309 38 2 3 111 181 112 113 114 115 312 38 313),
 (117,fO "steps_of" (tp 15) zm2 116),
 (123,cO "places_of" 315 "places_of" 316 317 41 2 3 118 181 119 120 121 122 323 41 324),
 (124,fO "places_of" (tp 16) zm2 123),
 (133,⟨.type "dict",none,.dict #[eS P "__module__" 335 zm3,eS P "__firstlineno__" 339 (.int 48 338),eR P "__static_attributes__" 340 132,eR P "__dict__" 342 135,eR P "__weakref__" 344 136,eS P "__doc__" 345 (.none)] 4,#[]⟩),
 (134,⟨.type "type",none,.cls ⟨"Sign",[.type "object"],[.ref 134,.type "object"],133,"Sign",true,[],[.ref 169,.ref 195,.ref 228],false,none,false⟩,#[none,none,some (.str "Sign" 328),some (.str "Sign" 336),some (.builtin "object.__new__"),some (.bool true)]⟩),
 (151,cO "__init__" 360 "Clear.__init__" 361 362 52 2 3 146 181 147 148 149 150 365 52 366),
 (152,⟨.type "function",none,.func (W.fnOf "__init__" "Clear.__init__" (dA (ic (tp 19) 0)) (dB (ic (tp 19) 0)) (dS (ic (tp 19) 0)) (.none) (.none) (.none) zm3 none (.ref 151) (.none)),#[]⟩),
 (158,cO "told" 368 "Clear.told" 369 370 55 1 3 153 181 154 155 156 157 372 55 373),
 (159,⟨.type "function",none,.func (W.fnOf "told" "Clear.told" (dA (ic (tp 19) 1)) (dB (ic (tp 19) 1)) (dS (ic (tp 19) 1)) (.none) (.none) (.none) zm3 none (.ref 158) (.none)),#[]⟩),
 (165,cO "cost" 375 "Clear.cost" 376 377 58 2 3 160 181 161 162 163 164 380 58 381),
 (166,⟨.type "function",none,.func (W.fnOf "cost" "Clear.cost" (dA (ic (tp 19) 2)) (dB (ic (tp 19) 2)) (dS (ic (tp 19) 2)) (.none) (.none) (.none) zm3 none (.ref 165) (.none)),#[]⟩),
 (168,⟨.type "dict",none,.dict #[eS P "__module__" 355 zm3,eS P "__firstlineno__" 359 (.int 50 358),eR P "__init__" 367 152,eR P "told" 374 159,eR P "cost" 382 166,eR P "__static_attributes__" 384 167,eS P "__doc__" 385 (.none)] 2,#[]⟩),
 (169,⟨.type "type",none,.cls ⟨"Clear",[.ref 134],[.ref 169,.ref 134,.type "object"],168,"Clear",true,[],[],false,none,false⟩,#[some (.ref 139),none,some (.str "Clear" 348),some (.str "Clear" 356),some (.builtin "object.__new__"),some (.bool true)]⟩),
 (184,cO "told" 400 "Gap.told" 401 402 62 1 3 179 181 180 181 182 183 404 62 405),
 (185,⟨.type "function",none,.func (W.fnOf "told" "Gap.told" (dA (ic (tp 20) 0)) (dB (ic (tp 20) 0)) (dS (ic (tp 20) 0)) (.none) (.none) (.none) zm3 none (.ref 184) (.none)),#[]⟩),
 (191,cO "cost" 407 "Gap.cost" 408 409 65 2 3 186 181 187 188 189 190 412 65 413),
 (192,⟨.type "function",none,.func (W.fnOf "cost" "Gap.cost" (dA (ic (tp 20) 1)) (dB (ic (tp 20) 1)) (dS (ic (tp 20) 1)) (.none) (.none) (.none) zm3 none (.ref 191) (.none)),#[]⟩),
 (194,⟨.type "dict",none,.dict #[eS P "__module__" 395 zm3,eS P "__firstlineno__" 399 (.int 60 398),eR P "told" 406 185,eR P "cost" 414 192,eR P "__static_attributes__" 415 193,eS P "__doc__" 416 (.none)] 2,#[]⟩),
 (195,⟨.type "type",none,.cls ⟨"Gap",[.ref 134],[.ref 195,.ref 134,.type "object"],194,"Gap",true,[],[],false,none,false⟩,#[some (.ref 172),none,some (.str "Gap" 388),some (.str "Gap" 396),some (.builtin "object.__new__"),some (.bool true)]⟩),
 (210,cO "__init__" 431 "Soft.__init__" 432 433 69 3 3 205 181 206 207 208 209 437 69 438),
 (211,⟨.type "function",none,.func (W.fnOf "__init__" "Soft.__init__" (dA (ic (tp 21) 0)) (dB (ic (tp 21) 0)) (dS (ic (tp 21) 0)) (.none) (.none) (.none) zm3 none (.ref 210) (.none)),#[]⟩),
 (217,cO "told" 440 "Soft.told" 441 442 73 1 3 212 181 213 214 215 216 444 73 445),
 (218,⟨.type "function",none,.func (W.fnOf "told" "Soft.told" (dA (ic (tp 21) 1)) (dB (ic (tp 21) 1)) (dS (ic (tp 21) 1)) (.none) (.none) (.none) zm3 none (.ref 217) (.none)),#[]⟩),
 (224,cO "cost" 447 "Soft.cost" 448 449 76 2 3 219 181 220 221 222 223 452 76 453),
 (225,⟨.type "function",none,.func (W.fnOf "cost" "Soft.cost" (dA (ic (tp 21) 2)) (dB (ic (tp 21) 2)) (dS (ic (tp 21) 2)) (.none) (.none) (.none) zm3 none (.ref 224) (.none)),#[]⟩),
 (227,⟨.type "dict",none,.dict #[eS P "__module__" 426 zm3,eS P "__firstlineno__" 430 (.int 67 429),eR P "__init__" 439 211,eR P "told" 446 218,eR P "cost" 454 225,eR P "__static_attributes__" 457 226,eS P "__doc__" 458 (.none)] 2,#[]⟩),
 (228,⟨.type "type",none,.cls ⟨"Soft",[.ref 134],[.ref 228,.ref 134,.type "object"],227,"Soft",true,[],[],false,none,false⟩,#[some (.ref 198),none,some (.str "Soft" 419),some (.str "Soft" 427),some (.builtin "object.__new__"),some (.bool true)]⟩),
 (236,cO "sign_of" 461 "sign_of" 462 463 78 1 3 231 181 232 233 234 235 465 78 466),
 (237,fO "sign_of" (tp 22) zm3 236),
 (243,cO "check_heard" 470 "check_heard" 471 472 85 3 3 238 181 239 240 241 242 477 85 478),
 (244,fO "check_heard" (tp 24) zm4 243),
 (248,cN "signs_cost" 480 "signs_cost" 481 482 89 2 3 245 181 246 247 483 89 484),
 (249,fO "signs_cost" (tp 25) zm4 248),
 (253,cN "signs_by_step" 486 "signs_by_step" 487 488 91 3 3 250 181 251 252 489 91 490),
 (254,fO "signs_by_step" (tp 26) zm4 253),
 (260,cO "move" 492 "move" 493 494 96 5 3 255 181 256 257 258 259 501 96 502),
 (261,fO "move" (tp 27) zm4 260),
 (265,cN "moves_from" 504 "moves_from" 505 506 99 5 3 262 181 263 264 507 99 508),
 (266,fO "moves_from" (tp 28) zm4 265),
 (270,cN "moves" 510 "moves" 511 512 101 3 3 267 181 268 269 513 101 514),
 (271,fO "moves" (tp 29) zm4 270),
 (275,cN "end_costs" 516 "end_costs" 517 518 108 2 3 272 181 273 274 519 108 520),
 (276,fO "end_costs" (tp 30) zm4 275),
 (282,cO "cost_by" 522 "cost_by" 523 524 113 2 3 277 181 278 279 280 281 528 113 529),
 (283,fO "cost_by" (tp 31) zm4 282),
 (287,cN "least_by" 531 "least_by" 532 533 116 2 3 284 181 285 286 534 116 535),
 (288,fO "least_by" (tp 32) zm4 287),
 (292,cN "ahead_by" 537 "ahead_by" 538 539 119 2 3 289 181 290 291 540 119 541),
 (293,fO "ahead_by" (tp 33) zm4 292),
 (294,⟨.type "tuple",none,.seq #[.int 0 543] 0,#[]⟩),
 (300,cO "ahead" 544 "ahead" 545 546 125 4 3 295 181 296 297 298 299 551 125 552),
 (301,⟨.type "function",none,.func (W.fnOf "ahead" "ahead" (dA (tp 34)) (dB (tp 34)) (dS (tp 34)) (.ref 294) (.none) (.none) zm4 none (.ref 300) (.none)),#[]⟩),
 (307,cO "ahead_by_start" 554 "ahead_by_start" 555 556 127 2 3 302 181 303 304 305 306 561 127 562),
 (308,fO "ahead_by_start" (tp 35) zm4 307),
 (314,cO "cost_of_track" 566 "cost_of_track" 567 568 133 3 3 309 181 310 311 312 313 573 133 574),
 (315,fO "cost_of_track" (tp 37) zm5 314),
 (319,cN "beginning" 576 "beginning" 577 578 136 3 3 316 181 317 318 579 136 580),
 (320,fO "beginning" (tp 38) zm5 319),
 (326,cO "track_on" 582 "track_on" 583 584 140 3 3 321 181 322 323 324 325 589 140 590),
 (327,fO "track_on" (tp 39) zm5 326),
 (331,cN "beginning_on" 592 "beginning_on" 593 594 143 4 3 328 181 329 330 595 143 596),
 (332,fO "beginning_on" (tp 40) zm5 331),
 (338,cO "first_ones" 598 "first_ones" 599 600 146 2 3 333 181 334 335 336 337 603 146 604),
 (339,fO "first_ones" (tp 41) zm5 338),
 (340,⟨.type "tuple",none,.seq #[.int 2 606] 0,#[]⟩),
 (344,cN "few" 607 "few" 608 609 148 4 3 341 181 342 343 610 148 611),
 (345,⟨.type "function",none,.func (W.fnOf "few" "few" (dA (tp 42)) (dB (tp 42)) (dS (tp 42)) (.ref 340) (.none) (.none) zm5 none (.ref 344) (.none)),#[]⟩),
 (351,cO "_law_cell_at" 615 "_law_cell_at" 616 617 160 2 3 346 181 347 348 349 350 620 160 621),
 (352,fO "_law_cell_at" (tp 44) zm0 351),
 (358,cO "_law_state" 623 "_law_state" 624 625 164 2 3 353 181 354 355 356 357 628 164 629),
 (359,fO "_law_state" (tp 45) zm0 358),
 (365,cO "_law_next" 631 "_law_next" 632 633 166 2 3 360 181 361 362 363 364 636 166 637),
 (366,fO "_law_next" (tp 46) zm0 365),
 (370,cN "_law_scheme" 639 "_law_scheme" 640 641 169 3 3 367 181 368 369 642 169 643),
 (371,fO "_law_scheme" (tp 47) zm0 370),
 (377,cO "_law_odd" 645 "_law_odd" 646 647 176 1 3 372 181 373 374 375 376 650 176 651),
 (378,fO "_law_odd" (tp 48) zm0 377),
 (382,cN "_law_step" 653 "_law_step" 654 655 182 4 3 379 181 380 381 656 182 657),
 (383,fO "_law_step" (tp 49) zm0 382),
 (389,cO "_law_start" 659 "_law_start" 660 661 187 2 3 384 181 385 386 387 388 666 187 667),
 (390,fO "_law_start" (tp 50) zm0 389),
 (396,cO "_law_sent" 669 "_law_sent" 670 671 193 2 3 391 181 392 393 394 395 679 193 680),
 (397,fO "_law_sent" (tp 51) zm0 396),
 (403,cO "_law_sign" 682 "_law_sign" 683 684 203 3 3 398 181 399 400 401 402 690 203 691),
 (404,fO "_law_sign" (tp 52) zm0 403),
 (410,cO "_law_heard" 693 "_law_heard" 694 695 215 3 3 405 181 406 407 408 409 702 215 703),
 (411,fO "_law_heard" (tp 53) zm0 410),
 (417,cO "_law_price" 705 "_law_price" 706 707 220 2 3 412 181 413 414 415 416 710 220 711),
 (418,fO "_law_price" (tp 54) zm0 417),
 (422,cN "_law_total" 713 "_law_total" 714 715 226 3 3 419 181 420 421 716 226 717),
 (423,fO "_law_total" (tp 55) zm0 422),
 (429,cO "_law_whole" 719 "_law_whole" 720 721 228 1 3 424 181 425 426 427 428 723 228 724),
 (430,fO "_law_whole" (tp 56) zm0 429),
 (434,cN "_law_is_word" 726 "_law_is_word" 727 728 230 2 3 431 181 432 433 729 230 730),
 (435,fO "_law_is_word" (tp 57) zm0 434),
 (441,cO "_law_rows" 732 "_law_rows" 733 734 234 4 3 436 181 437 438 439 440 740 234 741),
 (442,fO "_law_rows" (tp 58) zm0 441),
 (448,cO "_law_by_steps" 743 "_law_by_steps" 744 745 243 3 3 443 181 444 445 446 447 753 243 754),
 (449,fO "_law_by_steps" (tp 59) zm0 448),
 (453,cN "_law_gone" 756 "_law_gone" 757 758 251 5 3 450 181 451 452 759 251 760),
 (454,fO "_law_gone" (tp 60) zm0 453),
 (460,cO "_law_first" 762 "_law_first" 763 764 254 6 3 455 181 456 457 458 459 778 254 779),
 (461,fO "_law_first" (tp 61) zm0 460),
 (465,cN "_law_leaving" 781 "_law_leaving" 782 783 273 2 3 462 181 463 464 784 273 785),
 (466,fO "_law_leaving" (tp 62) zm0 465),
 (470,cN "_law_none_ahead" 787 "_law_none_ahead" 788 789 283 4 3 467 181 468 469 790 283 791),
 (471,fO "_law_none_ahead" (tp 63) zm0 470),
 (475,cN "law" 793 "law" 794 795 299 1 3 472 181 473 474 796 299 797),
 (476,fO "law" (tp 64) zm0 475)]
def KHP(P:Params):W.Frag:=KH P++[(334,⟨.none,none,.fields #[],#[]⟩)]
noncomputable def KA:List Addr:=[3,4,23,24,36,37,48,49,57,58,64,65,71,72,76,77,81,82,88,89,95,96,102,103,109,110,116,117,123,124,133,134,151,152,158,159,165,166,168,169,184,185,191,192,194,195,210,211,217,218,224,225,227,228,236,237,243,244,248,249,253,254,260,261,265,266,270,271,275,276,282,283,287,288,292,293,294,300,301,307,308,314,315,319,320,326,327,331,332,338,339,340,344,345,351,352,358,359,365,366,370,371,377,378,382,383,389,390,396,397,403,404,410,411,417,418,422,423,429,430,434,435,441,442,448,449,453,454,460,461,465,466,470,471,475,476,334]
theorem ka_eq:∀P,KA=(KHP P).map (·.1):=λ_=>rfl
theorem run(w:World)(os:OsState):(qv treeTable zp w 11 (some (.ref 6)) 6640 (vK w.params os) (topStub zp)).map (λs=>(staticsOk (importedModules zp.main.body) (boot_heap w.params) s.abs.heap&&namesBound zp s.abs.heap&&gensDone s.abs&&laidKept (boot_heap w.params) s.abs.heap,
 openSeen V ["ahead","few"] (importedModules zp.main.body) (λs=>xlAt V [] s&&recOk (RowW.records (OpenRow.toRowW zr.row)) s) true s.abs,Hook.obs (kHook KHP KA ka_eq) s.abs))=some (true,openGood V ["ahead","few"],Hook.val (kHook KHP KA ka_eq) w):=by kernel_rfl
theorem left:LeftO zp V ["ahead","few"] (λs=>xlAt V [] s&&recOk (RowW.records (OpenRow.toRowW zr.row)) s) (Hook.obs (kHook KHP KA ka_eq)) (Hook.val (kHook KHP KA ka_eq)) 6640:=qiw (by kernel_rfl) (by kernel_rfl) (λs=>by kernel_rfl) (λP=>by kernel_rfl) run
theorem qp9:(OpenRow.toRowW zr.row).prog=zp:=by kernel_rfl
theorem leftR:LeftO (OpenRow.toRowW zr.row).prog V ["ahead","few"] (λs=>xlAt V [] s&&recOk (RowW.records (OpenRow.toRowW zr.row)) s) (Hook.obs (kHook KHP KA ka_eq)) (Hook.val (kHook KHP KA ka_eq)) 6640:=by rw[qp9];exact left
end H22
open PySem
abbrev j6:=@wpAny_bind
abbrev j7:=@List.length_map
abbrev j8:=@wpAny_pure
abbrev j9:=@Heap.lt_size
abbrev ja:=@Heap.get?_push_of_some
abbrev jb:=@List.getElem?_eq_getElem
abbrev jc:=@Nat.le_refl
abbrev jd:=@List.mem_cons_of_mem
abbrev je:=@List.getElem?_map
abbrev jf:=@List.mem_cons_self
abbrev jg:=@Option.some.inj
abbrev jh:=@List.length_append
abbrev ji:=@List.getD_eq_getElem?_getD
abbrev jj:=@List.map_map
abbrev jl:=@Nat.ne_of_lt
abbrev jo:=@List.getElem?_set_ne
abbrev jq:=@Heap.get?_push_size
abbrev jr:=@Nat.lt_of_lt_of_le
abbrev jt:=@List.length_cons
abbrev ju:=@Nat.le_trans
abbrev jv:=@Nat.zero_add
abbrev jw:=@List.length_replicate
abbrev jx:=@List.size_toArray
abbrev jy:=@Int.toNat_natCast
abbrev jz:=@List.map_cons
abbrev x5:=@List.map_append
abbrev x6:=@List.mem_append_right
abbrev x8:=@PassesOwn.never
abbrev x9:=@List.getElem?_eq_none
abbrev xf:=@Nat.lt_irrefl
abbrev xg:=@List.getElem?_set_self
abbrev xh:=@List.length_set
abbrev xi:=@List.length_take
abbrev xj:=@Heap.size_push
abbrev xk:=@List.mem_of_getElem?
abbrev xl:=@wpAny_field
abbrev xm:=@List.length_drop
abbrev xn:=@List.getElem_mem
abbrev xo:=@wpAny_mono
abbrev xq:=@wpAny_Call_Name_kw
abbrev xr:=@List.getElem?_range
abbrev xu:=@wpAny_holding
abbrev xv:=@wpAny_seqItems
abbrev xw:=@List.getElem?_append_right
abbrev xx:=@wpAny_newObj_type
abbrev xy:=@sizeLine_eq
abbrev k6:=@wpAny_call_entry
abbrev k7:=@List.length_zip
abbrev k8:=@List.getElem?_replicate
abbrev k9:=@List.getElem?_append_left
abbrev ka:=@wpAny_callSpecial?_slot
abbrev kb:=@Heap.get?_update_other
abbrev kc:=@List.drop_eq_getElem_cons
abbrev ke:=@wpAny_truthy_bool
abbrev kf:=@wpAny_passesOwn
abbrev kg:=@Heap.get?_update_self
abbrev kh:=@Heap.SameBut.update
abbrev ki:=@plainId_quiet
abbrev kj:=@F.plain_min_loop
abbrev kl:=@Nat.min_le_left
abbrev km:=@wpAny_setField_rec
abbrev kn:=@wpAny_loadPart'
abbrev kr:=@Heap.get?_none_of_le
abbrev ku:=@Calls.spliced_cons
abbrev ky:=@Around.under_plainId
abbrev va:=@F.slot_tuple_iterator_next
abbrev vc:=@F.slot_dict_keyiterator_next
abbrev vd:=@wpAny_typeNameOfWhole_keyiter
abbrev Z0:=Value->Shared->Prop
abbrev Z3:=List (Addr×Obj)
abbrev Z9:=List (List Int)
abbrev Za:=Str->Option Value
abbrev Zb:=Result->Shared->Prop
abbrev Zc:=Option Addr
abbrev Zd:=Array Value
abbrev Ze:=List Value
abbrev Zf:=List Int
abbrev Zg:=List Nat
abbrev Zh:=List Stmt
abbrev Zi:=List Expr
abbrev Zj:=List Str
namespace L2
open PySem PySem.Spec PyProof.Rows
abbrev bI:=Sum Int Str
noncomputable def sL:bI->Value->Bool
 |.inl k,v=>Value.isInt k v
 |.inr x,v=>Value.isStrOf x v
noncomputable def Bb(w:World):bI->Int
 |.inl k=>hashInt k
 |.inr x=>hashStr w x
def kC:∀{k:bI} {v:Value},sL k v=true->(∃i t,k=Sum.inl i/\v=Value.int i t)∨(∃x t,k=Sum.inr x/\v=Value.str x t)
 | .inl i,v,h=>by let⟨t,e⟩:=Value.isInt_shape (k:=i) (v:=v) h;exact .inl ⟨i,t,rfl,e⟩
 | .inr x,v,h=>by let⟨t,e⟩:=Value.isStrOf_shape (x:=x) (v:=v) h;exact .inr ⟨x,t,rfl,e⟩
def qiz(i:Int)(t:Tok):sL (.inl i) (.int i t)=true:=by simp[sL,Value.isInt]
def qvr(a b:Int):decide ((Sum.inl a:bI)=Sum.inl b)=(a==b):=by
 by_cases e:a=b
 .subst e;simp
 .have h:¬(Sum.inl a:bI)=Sum.inl b:=λq=>e (Sum.inl.inj q);rw[decide_eq_false h];exact(beq_eq_false_iff_ne.mpr e).symm
def qvn(a b:Str):decide ((Sum.inr a:bI)=Sum.inr b)=decide (a=b):=by
 by_cases e:a=b
 .subst e;simp
 .have h:¬(Sum.inr a:bI)=Sum.inr b:=λq=>e (Sum.inr.inj q);rw[decide_eq_false h,decide_eq_false e]
def qvq(a:Int)(b:Str):decide ((Sum.inl a:bI)=Sum.inr b)=false:=decide_eq_false (λq=>nomatch q)
def qvo(a:Str)(b:Int):decide ((Sum.inr a:bI)=Sum.inl b)=false:=decide_eq_false (λq=>nomatch q)
def qp(prog:Program)(w:World):PySem.KeyKind prog w bI where
 is:=sL
 hash:=Bb w
 inj:=λv a b ha hb=>by
  rcases kC ha with⟨i,t,rfl,rfl⟩|⟨x,t,rfl,rfl⟩
  .rcases kC hb with⟨j,u,rfl,e⟩|⟨y,u,rfl,e⟩
   .injection e with e1 _;rw[e1]
   .exact nomatch e
  .rcases kC hb with⟨j,u,rfl,e⟩|⟨y,u,rfl,e⟩
   .exact nomatch e
   .injection e with e1 _;rw[e1]
 byValue:=λk v h=>by rcases kC h with⟨i,t,rfl,rfl⟩|⟨x,t,rfl,rfl⟩<;>rfl
 pyHash:=λhv h=>by
  rcases kC hv with⟨i,t,rfl,rfl⟩|⟨x,t,rfl,rfl⟩
  .exact wpAny_pyHash_int h
  .exact wpAny_pyHash_str h
 eqBool:=λhu hv h=>by
  rcases kC hu with⟨i,t,rfl,rfl⟩|⟨x,t,rfl,rfl⟩
  .rcases kC hv with⟨j,u,rfl,rfl⟩|⟨y,u,rfl,rfl⟩
   .rw[qvr]at h;exact wpAny_eqBool_int h
   .rw[qvq]at h;exact SeqAt.EqAt.int_str i t y u _ _ _ _ h
  .rcases kC hv with⟨j,u,rfl,rfl⟩|⟨y,u,rfl,rfl⟩
   .rw[qvo]at h;exact SeqAt.EqAt.str_int x t j u _ _ _ _ h
   .rw[qvn]at h;exact wpAny_eqBool_str h
 «strs»:=λk x t v h=>by
  rcases kC h with⟨i,u,rfl,e⟩|⟨y,u,rfl,e⟩
  .exact nomatch e
  .injection e with e1 _;subst e1;cases v<;>rfl
def IA{prog:Program}{w:World}(i:Int)(t:Tok):(qp prog w).is (.inl i) (.int i t)=true:=qiz i t
inductive V where
 |non|bl (b:Bool)|int (i:Int)|str (x:Str)|byt (b:Array UInt8)|flt (b:UInt64)|ref (a:Addr)|ty (n:String)
 deriving DecidableEq
def RelV:V->Value->Prop
 |.non,u=>u=Value.none
 |.bl b,u=>u=Value.bool b
 |.int i,u=>∃t,u=Value.int i t
 |.str x,u=>∃t,u=Value.str x t
 |.byt b,u=>∃t,u=Value.bytes b t
 |.flt b,u=>∃t,u=Value.float b t
 |.ref a,u=>u=Value.ref a
 |.ty n,u=>u=Value.type n
abbrev Vals:List V->List Value->Prop:=Paired RelV
def Vals.length{xs:List V}{us:Ze}(r:Vals xs us):xs.length=us.length:=Paired.length r
theorem Vals.get:∀{xs:List V} {us:Ze} {i:Nat} {x:V},Vals xs us->xs[i]? =some x->∃u,us[i]? =some u/\RelV x u
 |_,_,_,_,.nil,e=>by simp at e
 |_,_,0,_,.cons r _,e=>by simp at e;subst e;exact⟨_,rfl,r⟩
 | _,_,i+1,x,.cons _ t,e=>by let⟨u,h1,h2⟩:=Vals.get (i:=i) (x:=x) t (by simpa using e);exact⟨u,by simpa using h1,h2⟩
theorem Vals.set{x:V}{u:Value}(r:RelV x u):∀{xs:List V} {us:Ze} (i:Nat),Vals xs us->Vals (xs.set i x) (us.set i u)
 |_,_,_,.nil=>.nil
 |_,_,0,.cons _ t=>.cons r t
 |_,_,i+1,.cons q t=>.cons q (Vals.set r i t)
theorem Vals.append:∀{xs ys:List V} {us ws:Ze},Vals xs us->Vals ys ws->Vals (xs++ys) (us++ws)
 |_,_,_,_,.nil,s=>s
 |_,_,_,_,.cons r t,s=>.cons r (Vals.append t s)
theorem Vals.take:∀{xs:List V} {us:Ze} (n:Nat),Vals xs us->Vals (xs.take n) (us.take n)
 |_,_,0,_=>.nil
 |_,_,_+1,.nil=>.nil
 |_,_,n+1,.cons r t=>.cons r (Vals.take n t)
theorem Vals.drop:∀{xs:List V} {us:Ze} (n:Nat),Vals xs us->Vals (xs.drop n) (us.drop n)
 |_,_,0,r=>r
 |_,_,_+1,.nil=>.nil
 |_,_,n+1,.cons _ t=>Vals.drop n t
def RelO:Option V->Option Value->Prop
 |some v,some u=>RelV v u
 |none,none=>True
 |_,_=>False
def KV{κ:Type}:List (κ×V)->List (κ×Value)->Prop:=Paired λ(p:κ×V) (q:κ×Value)=>p.1=q.1/\RelV p.2 q.2
noncomputable def kV:bI->V
 |.inl i=>.int i
 |.inr x=>.str x
inductive HO where
 |lst (xs:List V)
 |tup (xs:List V)
 |dK (kvs:List (bI×V))|dT (kvs:List (List bI×V))
 |set (S:Int->Bool) (n:Nat)
 |ins (C dx:Addr) (fs:List (Str×V))
 |own (x:Addr)
 |xd (fs:List (Str×V))
 |met (f x:Addr)
 |rng (lo hi:Int)
 |frz (o:Obj) (u:HO)
 |tbl (ps:Zd)
 |lam (pos:Pos) (q:Str)
 |ext (φ:Heap->Prop)
abbrev Hp:=Addr->Option HO
noncomputable def aT(H:Hp)(a:Addr)(o:HO):Hp:=λb=>if b=a then some o else H b
def cT{H:Hp}{a:Addr}{o:HO}:aT H a o a=some o:=by unfold aT;rw[if_pos rfl]
def bf{H:Hp}{a b:Addr}{o:HO}(h:b≠a):aT H a o b=H b:=by unfold aT;rw[if_neg h]
def GE{H:Hp}{a:Addr}{o u:HO}:aT (aT H a o) a u=aT H a u:=by funext b;unfold aT;split<;>rfl
def gp{H:Hp}{a b:Addr}{o:HO}(h:H a=some o)(h':H b=none):a≠b:=by intro e;subst e;rw[h]at h';cases h'
def TupN(h:Heap)(a:Addr)(items:Zd):Prop:=∃o,h.get? a=some o/\(o.cls=.type "tuple"/\∃n,o.data=.seq items n)/\o.dict=none
def TupN.tup{h:Heap}{a:Addr}{items:Zd}(x:TupN h a items):IsTup h a items:=let ⟨o,e,c,_⟩:=x;⟨o,e,c⟩
def TupN.lt{h:Heap}{a:Addr}{items:Zd}(x:TupN h a items):a<h.objs.size:=let ⟨_,e,_⟩:=x;j9 e
def TupN.new(h:Heap)(items:Zd):TupN (h.push {cls:=.type "tuple",data:=.seq items}) h.objs.size items:=⟨_,jq _ rfl,⟨rfl,_,rfl⟩,rfl⟩
def DictN{P:Program}{w:World}{κ:Type}[DecidableEq κ](knd:KeyKind P w κ)(h:Heap)(a:Addr)(kvs:List (κ×Value))(n:Nat):Prop:=∃o es,h.get? a=some o/\o.ExactDict/\o.data=.dict es n/\KeysOf knd es/\Pairs knd es.toList kvs/\(kvs.map (·.1)).Nodup
def DictN.of{P:Program}{w:World}{κ:Type}[DecidableEq κ]{knd:KeyKind P w κ}{h:Heap}{a:Addr}{kvs:List (κ×Value)}{n:Nat}(x:DictN knd h a kvs n):h.DictOf knd a kvs:=let ⟨o,es,r⟩:=x;⟨o,es,n,r⟩
section
variable(P:Program)(w:World)
def ObjOk(H:Hp)(h:Heap)(a:Addr):HO->Prop
 |.lst xs=>xs.length<=sizeLine/\∃(its:Ze) (n:Nat),Vals xs its/\h.get? a=some {cls:=.type "list",data:=.seq its.toArray n}
 |.tup xs=>xs.length<=sizeLine/\∃its:List Value,Vals xs its/\TupN h a its.toArray
 |.dK kvs=>kvs.length<=sizeLine/\(a==sysModules)=false/\∃vs,KV kvs vs/\DictN (qp P w) h a vs kvs.length
 |.dT kvs=>kvs.length<=sizeLine/\(a==sysModules)=false/\∃xs:List (List bI×Addr×Value),
  Paired (λ(p:List bI×V) (q:List bI×Addr×Value)=>p.1=q.1/\H q.2.1=some (.tup (p.1.map kV))/\RelV p.2 q.2.2) kvs xs/\
  ∃o es ep,h.get? a=some o/\o.ExactDict/\o.data=.dict es ep/\es.toList=xs.map (entryOfKey (tupleKind (qp P w)))/\(xs.map (·.1)).Nodup/\ep=kvs.length
 |.set S n=>h.SetOf (intKind P w) a S n
 |.ins C dx fs=>H dx=some (.own a)/\fs.length<=1000/\dx≠a/\h.get? a=some (W.instObj C dx)/\
  ∃mA,h.Ns1 dx mA/\(∀f,RelO (fs.lookup f) (mA f))/\PySem.Within mA (fs.map (·.1))
 |.own _=>∃o,h.get? a=some o
 |.xd fs=>∃mA,h.Ns1 a mA/\∀f,RelO (fs.lookup f) (mA f)
 |.rng lo hi=>∃t u v,h.get? a=some {cls:=.type "range",data:=.fields #[.int lo t,.int hi u,.int 1 v]}
 |.frz o u=>h.get? a=some o/\ObjOk H h a u
 |.tbl ps=>h.get? a=some {cls:=.none,data:=.fields ps}
 |.lam pos q=>∃ps:Array Value,h.get? a=some {cls:=.none,data:=.fields ps}/\TriplesOk ps.toList/\(codeAmong pos ps.toList=none∨∃c',codeAmong pos ps.toList=some (.ref c')/\H c'=some (.own a)/\h.CodeRec (.ref c') q)
 |.met f x=>h.get? a=some (W.methodObj (.ref f) (.ref x))
 |.ext φ=>φ h/\(∃o,h.get? a=some o)/\∀h1 h2:Heap,φ h1->(∀o,h1.get? a=some o->h2.get? a=some o)->φ h2
def HOk(H:Hp)(h:Heap):Prop:=∀a o,H a=some o->ObjOk P w H h a o
end
section
variable{P:Program}{w:World}{H H':Hp}{h h':Heap}{a:Addr}{o:HO}
def ObjOk.lt(x:ObjOk P w H h a o):a<h.objs.size:=by
 cases o with
 |lst xs=>obtain⟨_,_,_,_,e⟩:=x;exact j9 e
 |tup xs=>obtain⟨_,_,_,p⟩:=x;exact p.lt
 |dK kvs=>obtain⟨_,_,_,_,o,_,e,_⟩:=x;exact j9 e
 |dT kvs=>obtain⟨_,_,_,_,o,_,_,e,_⟩:=x;exact j9 e
 |set S n=>obtain⟨o,_,_,_,e,_⟩:=x;exact j9 e
 |ins C dx fs=>obtain⟨_,_,_,e,_⟩:=x;exact j9 e
 |own y=>obtain⟨_,e⟩:=x;exact j9 e
 |xd fs=>obtain⟨_,⟨_,_,_,e,_⟩,_⟩:=x;exact j9 e
 |rng lo hi=>obtain⟨_,_,_,e⟩:=x;exact j9 e
 |frz ob u=>obtain⟨e,_⟩:=x;exact j9 e
 |tbl ps=>exact j9 (show h.get? a=some _ from x)
 |lam pos q=>obtain⟨_,e,_⟩:=x;exact j9 e
 |met f y=>exact j9 (show h.get? a=some _ from x)
 |ext φ=>obtain⟨_,⟨_,e⟩,_⟩:=x;exact j9 e
theorem Paired.mapP{α β:Type}{F G:α->β->Prop}:∀{l₁:List α} {l₂:List β},Paired F l₁ l₂->(∀a b,F a b->G a b)->Paired G l₁ l₂
 |_,_,.nil,_=>.nil
 |_,_,.cons r t,f=>.cons (f _ _ r) (Paired.mapP t f)
def ObjOk.stay(x:ObjOk P w H h a o)(k:∀b u,(b=a∨H b=some (.own a))->h.get? b=some u->h'.get? b=some u)
 (ho:∀b,H b=some (.own a)->H' b=some (.own a)) (ht:∀b xs,H b=some (.tup xs)->H' b=some (.tup xs)):ObjOk P w H' h' a o:=by
 induction o with
 |lst xs=>obtain⟨z,its,n,r,e⟩:=x;exact⟨z,its,n,r,k _ _ (.inl rfl) e⟩
 |tup xs=>obtain⟨z,its,r,ob,e,c⟩:=x;exact⟨z,its,r,ob,k _ _ (.inl rfl) e,c⟩
 |dK kvs=>obtain⟨z,y,vs,r,ob,es,e,c⟩:=x;exact⟨z,y,vs,r,ob,es,k _ _ (.inl rfl) e,c⟩
 | dT kvs=>
  obtain⟨z,y,xs,r,ob,es,ep,e,c⟩:=x;exact⟨z,y,xs,Paired.mapP r λp q z=>⟨z.1,ht _ _ z.2.1,z.2.2⟩,ob,es,ep,k _ _ (.inl rfl) e,c⟩
 |set S n=>obtain⟨ob,es,ep,t,e,c⟩:=x;exact⟨ob,es,ep,t,k _ _ (.inl rfl) e,c⟩
 | ins C dx fs=>
  obtain⟨d,z,ne,e,mA,⟨od,es,ep,e2,c⟩,r⟩:=x;exact⟨ho _ d,z,ne,k _ _ (.inl rfl) e,mA,⟨od,es,ep,k _ _ (.inr d) e2,c⟩,r⟩
 |own y=>obtain⟨ob,e⟩:=x;exact⟨ob,k _ _ (.inl rfl) e⟩
 |xd fs=>obtain⟨mA,⟨od,es,ep,e,c⟩,r⟩:=x;exact⟨mA,⟨od,es,ep,k _ _ (.inl rfl) e,c⟩,r⟩
 |rng lo hi=>obtain⟨t,u,v,e⟩:=x;exact⟨t,u,v,k _ _ (.inl rfl) e⟩
 |frz ob u ih=>obtain⟨e,q⟩:=x;exact⟨k _ _ (.inl rfl) e,ih q⟩
 | tbl ps=>
  have e:h.get? a=some {cls:=.none,data:=.fields ps}:=x;show h'.get? a=some {cls:=.none,data:=.fields ps};exact k a _ (.inl rfl) e
 | lam pos q=>
  obtain⟨ps,e,t,r⟩:=x;refine⟨ps,k _ _ (.inl rfl) e,t,?_⟩;rcases r with r|⟨c',r1,r2,c,oc,vs,tq,hc,hoc,hd,hq⟩
  .exact .inl r
  .cases hc;exact .inr ⟨c',r1,ho _ r2,c',oc,vs,tq,rfl,k _ _ (.inr r2) hoc,hd,hq⟩
 | met f y=>
  have e:h.get? a=some (W.methodObj (.ref f) (.ref y)):=x;show h'.get? a=some (W.methodObj (.ref f) (.ref y));exact k a _ (.inl rfl) e
 |ext φ=>obtain⟨p,⟨o,e⟩,st⟩:=x;exact⟨st _ _ p λo q=>k _ _ (.inl rfl) q,⟨o,k _ _ (.inl rfl) e⟩,st⟩
def HOk.lt(x:HOk P w H h)(e:H a=some o):a<h.objs.size:=(x a o e).lt
def HOk.fresh(x:HOk P w H h)(e:h.objs.size<=a):H a=none:=by
 cases q:H a with
 |none=>rfl
 |some u=>exact absurd (jr (x.lt q) e) (xf _)
def HOk.kept(x:HOk P w H h)(k:∀b u,h.get? b=some u->h'.get? b=some u):HOk P w H h':=λa o e=>
 (x a o e).stay (λb u _ q=>k b u q) (λ_ q=>q) λ_ _ q=>q
def HOk.laid(x:HOk P w H h)(k:∀b u,h.get? b=some u->h'.get? b=some u)(hp:h.objs.size<=a)(new:ObjOk P w (aT H a o) h' a o):HOk P w (aT H a o) h':=λb u e=>by
 have hn:=x.fresh hp;by_cases hb:b=a
 .subst hb;rw[cT]at e;cases e;exact new
 .rw[bf hb]at e;exact(x b u e).stay (λc v _ q=>k c v q) (λc q=>by rw[bf (gp q hn)];exact q) λc xs q=>by rw[bf (gp q hn)];exact q
end
def Rd(H:Hp)(a:Addr)(u:HO):Prop:=H a=some u∨∃o,H a=some (.frz o u)
def Rd.ok{P:Program}{w:World}{H:Hp}{h:Heap}{a:Addr}{u:HO}(r:Rd H a u)(x:HOk P w H h):ObjOk P w H h a u:=by
 rcases r with r|⟨o,r⟩
 .exact x a u r
 .let⟨_,q⟩:=x a _ r;exact q
def uF:Option HO->Prop
 |some (.lst _)=>True
 |some (.dK _)=>True
 |some (.dT _)=>True
 |some (.set _ _)=>True
 |some (.ins _ _ _)=>True
 |some (.ext _)=>True
 |some (.lam _ _)=>True
 |_=>False
section
variable{P:Program}{w:World}{H:Hp}{h h':Heap}{x e:Addr}{o':HO}
def HOk.write(ok:HOk P w H h)(mu:uF (H x))(he:e=x∨H e=some (.own x))(k:∀b u,b≠e->h.get? b=some u->h'.get? b=some u)(heo:∃u,h'.get? e=some u)
 (new:ObjOk P w (aT H x o') h' x o'):HOk P w (aT H x o') h':=λb u q=>by
 have nown:∀c y,H c=some (.own y)->c≠x:=λc y r z=>by subst z;rw[r]at mu;exact mu
 have ntup:∀c xs,H c=some (.tup xs)->c≠x:=λc xs r z=>by subst z;rw[r]at mu;exact mu
 by_cases hb:b=x
 .subst hb;rw[cT]at q;cases q;exact new
 .rw[bf hb]at q;by_cases hbe:b=e
  .have q':H b=some (.own x):=by
    rcases he with z|z
    .exact absurd (hbe.trans z) hb
    .rw[hbe];exact z
   rw[q]at q';cases q';obtain⟨v,hv⟩:=heo;exact⟨v,by rw[hbe];exact hv⟩
  .refine(ok b u q).stay (λc v hc r=>k c v ?_ r) (λc r=>by rw[bf (nown c b r)];exact r) λc xs r=>by rw[bf (ntup c xs r)];exact r
   rcases hc with rfl|hc
   .exact hbe
   .rintro rfl;rcases he with z|z
    .exact nown c b hc z
    .rw[hc]at z;cases z;exact hb rfl
end
structure Un(fs ex:List Addr)(H H':Hp)(h h':Heap):Prop where
 keep:∀b o,h.get? b=some o->H b=none->b∉fs->b∉ex->h'.get? b=some o
 slot:∀b o,h.get? b=some o->H b=none->b∈fs->b∉ex->∃sl,h'.get? b=some {o with slots:=sl}
 free:∀b o,h.get? b=some o->H b=none->b∉ex->H' b=none
 there:∀b o,h.get? b=some o->b∉ex->∃o',h'.get? b=some o'
 tups:∀b xs,H b=some (.tup xs)->H' b=some (.tup xs)
 frzs:∀b o u,H b=some (.frz o u)->H' b=some (.frz o u)
 tbls:∀b ps,H b=some (.tbl ps)->∃more,H' b=some (.tbl (ps++more))
section
variable{fs fs' ex ex':List Addr}{H H1 H2:Hp}{h h1 h2 h':Heap}{a x e:Addr}{o:HO}
def Un.any(u:Un fs ex H H1 h h1){b:Addr}{ob:Obj}(q:h.get? b=some ob)(n:H b=none)(hx:b∉ex):∃sl,h1.get? b=some {ob with slots:=sl}:=by
 by_cases hb:b∈fs
 .exact u.slot b ob q n hb hx
 .exact⟨ob.slots,u.keep b ob q n hb hx⟩
def Un.trans(a:Un fs ex H H1 h h1)(b:Un fs ex H1 H2 h1 h2):Un fs ex H H2 h h2 where
 keep:=λc ob q n hc hx=>b.keep c ob (a.keep c ob q n hc hx) (a.free c ob q n hx) hc hx
 slot:=λc ob q n hc hx=>by let⟨sl,e1⟩:=a.slot c ob q n hc hx;let⟨sl',e2⟩:=b.slot c _ e1 (a.free c ob q n hx) hc hx;exact⟨sl',e2⟩
 free:=λc ob q n hx=>by let⟨o',e1⟩:=a.there c ob q hx;exact b.free c o' e1 (a.free c ob q n hx) hx
 there:=λc ob q hx=>by let⟨o',e1⟩:=a.there c ob q hx;exact b.there c o' e1 hx
 tups:=λc xs q=>b.tups c xs (a.tups c xs q)
 frzs:=λc ob xs q=>b.frzs c ob xs (a.frzs c ob xs q)
 tbls:=λc ps q=>by let⟨m1,e1⟩:=a.tbls c ps q;let⟨m2,e2⟩:=b.tbls c _ e1;exact⟨m1++m2,by rw[e2,Array.append_assoc]⟩
def Un.kept(k:∀b u,h.get? b=some u->h'.get? b=some u):Un fs ex H H h h':=
 ⟨λb ob q _ _ _=>k b ob q,λb ob q _ _ _=>⟨ob.slots,k b ob q⟩,λ_ _ _ n _=>n,λb ob q _=>⟨ob,k b ob q⟩,λ_ _ q=>q,λ_ _ _ q=>q,λ_ ps q=>⟨#[],by rw[q];simp⟩⟩
def Un.refl:Un fs ex H H h h:=Un.kept λ_ _ q=>q
def Un.laid(k:∀b u,h.get? b=some u->h'.get? b=some u)(hp:h.objs.size<=a)(hn:H a=none):Un fs ex H (aT H a o) h h' where
 keep:=λb u q _ _ _=>k b u q
 slot:=λb u q _ _ _=>⟨u.slots,k b u q⟩
 free:=λb u q n _=>by rw[bf (jl (jr (j9 q) hp))];exact n
 there:=λb u q _=>⟨u,k b u q⟩
 tups:=λb xs q=>by rw[bf (gp q hn)];exact q
 frzs:=λb u xs q=>by rw[bf (gp q hn)];exact q
 tbls:=λb ps q=>⟨#[],by rw[bf (gp q hn),q];simp⟩
def Un.write(mu:uF (H x))(he:e=x∨H e=some (.own x))(k:∀b u,b≠e->h.get? b=some u->h'.get? b=some u)(heo:∃u,h'.get? e=some u):Un fs ex H (aT H x o) h h':=by
 have hx:∀b,H b=none->b≠x:=λb n z=>by subst z;rw[n]at mu;exact mu
 have hb:∀b,H b=none->b≠e:=λb n z=>by
  subst z;rcases he with r|r
  .exact hx b n r
  .rw[n]at r;cases r
 have hm:∀b u,H b=some u->¬uF (some u)->b≠x:=λb u q nm z=>by subst z;rw[q]at mu;exact nm mu
 refine⟨λb u q n _ _=>k b u (hb b n) q,λb u q n _ _=>⟨u.slots,k b u (hb b n) q⟩,λb u q n _=>by rw[bf (hx b n)];exact n,λb u q _=>?_,
  λb xs q=>by rw[bf (hm b _ q λz=>z)];exact q,λb u xs q=>by rw[bf (hm b _ q λz=>z)];exact q,λb ps q=>⟨#[],by rw[bf (hm b _ q λz=>z),q];simp⟩⟩
 by_cases hbe:b=e
 .subst hbe;exact heo
 .exact⟨u,k b u hbe q⟩
def Un.mono(u:Un fs ex H H1 h h1)(hs:∀b∈fs,b∈fs')(hx:∀b∈ex,b∈ex'):Un fs' ex' H H1 h h1:=
 ⟨λb ob q n hb he=>u.keep b ob q n (λz=>hb (hs b z)) λz=>he (hx b z),λ_ _ q n _ he=>u.any q n λz=>he (hx _ z),λb ob q n he=>u.free b ob q n λz=>he (hx b z),λb ob q he=>u.there b ob q λz=>he (hx b z),u.tups,u.frzs,u.tbls⟩
end
noncomputable def sC(h:Heap)(H:Hp):List Addr:=(List.range h.objs.size).filter λa=>(H a).isSome
def fU(h:Heap)(H:Hp):Heap:=W.hideAll h (sC h H)
def qj4{h:Heap}{H:Hp}:(fU h H).objs.size=h.objs.size:=W.hideAll_size _ _
def qlq{h:Heap}{H:Hp}{b:Addr}{o:Obj}(e:h.get? b=some o)(n:H b=none):(fU h H).get? b=some o:=
 W.hideAll_get _ e λhm=>by have q:(H b).isSome=true:=(List.mem_filter.mp hm).2;rw[n]at q;simp at q
def qpq{h:Heap}{H:Hp}{b:Addr}{o:Obj}(e:(fU h H).get? b=some o):h.get? b=some o/\H b=none:=by
 have e':h.get? b=some o:=W.of_hideAll (sC h H) e;refine⟨e',?_⟩;cases q:H b with
 |none=>rfl
 | some x=>
  have hm:b∈sC h H:=List.mem_filter.mpr ⟨List.mem_range.mpr (j9 e'),by simp[q]⟩;have z:(fU h H).get? b=none:=W.hideAll_none (sC h H) hm;rw[z]at e;cases e
noncomputable def qs1(g h:Heap)(L:Addr):List (Addr×Obj):=(List.range h.objs.size).filterMap λa=>if a=L∨(g.get? a).isSome=true then none else(h.get? a).map λo=>(a,o)
def rest(g h:Heap)(L d:Addr):List (Addr×Obj):=(qs1 g h L).filter λp=>decide (p.1≠d)
structure Mod(K:aq)(mg:Za)(base:Heap):Prop where
 kin:K.In base
 glob:base.Ns mainGlobals mg
 blt:∃mb,base.Ns builtinsNs mb/\∀x:Str,x≠"__name__"->mb x=bootBuiltins x
 nolimit:base.NoLimit
structure Cx where
 prog:Program
 w:World
 K:W.Frag
 mg:Str->Option Value
 base:Heap
 A:Around
 N:List Str
 s₀:Shared
 H₀:Hp
 env:Env
 outer:List Env
 stack:List Env
 ex:List Addr
 fn:Str->Bool
 calm:Bool
 pn:List (Addr×Obj)
 xe:Value->Shared->Prop
noncomputable def gT(l:List Env):List Addr:=l.filterMap (·.frame)
abbrev Cx.fs(X:Cx):List Addr:=gT X.outer
def lK(sc:Scope)(x:Str):Prop:=sc.names.lookup x=some .local∨sc.names.lookup x=some .cell∨sc.names.lookup x=some .free
def kH(sc:Scope)(x:Str):Prop:=sc.names.lookup x=some .local∨sc.names.lookup x=some .cell
def BV(env:Env)(h:Heap)(m:Za)(x:Str)(u:Value):Prop:=
 (env.kindOf x=some .local/\m x=some u)∨((env.kindOf x=some .cell∨env.kindOf x=some .free)/\∃c,env.cells.lookup x=some c/\h.IsCell c (some u))
structure Cx.Ok(X:Cx):Prop where
 mod:Mod X.K X.mg X.base
 kind:X.env.scope.kind=.function
 glob:X.env.globals=mainGlobals
 blt:X.env.builtins=builtinsNs
 above:X.s₀.heap.objs.size<=X.env.locals
 inj:∀x y c,X.env.cells.lookup x=some c->X.env.cells.lookup y=some c->x=y
 has:∀x,(X.env.kindOf x=some .cell∨X.env.kindOf x=some .free)->∃c,X.env.cells.lookup x=some c
 cab:∀x c,X.fn x=true->X.env.cells.lookup x=some c->X.s₀.heap.objs.size<=c
 hd:X.calm=true->X.A.handled=none
 frames:X.A.frames=some X.stack
 stk:X.stack=X.outer∨(X.stack=X.env::X.outer/\X.env.frame=some X.env.locals)
 exf:∀b∈X.ex,b≠X.env.locals/\∀x c,X.env.cells.lookup x=some c->c≠b
 bs:∀b o,X.base.get? b=some o->X.s₀.heap.get? b=some o/\X.H₀ b=none
 bsz:X.base.objs.size<=X.s₀.heap.objs.size
 noex:∀b o,X.base.get? b=some o->b∉X.ex
 exfs:∀b∈X.ex,b∉X.fs
 funs:X.s₀.heap.FunFrames X.base X.outer
 frf:∀b∈X.fs,X.H₀ b=none
structure Inv(X:Cx)(z5:Z3)(J:List (Option V))(H:Hp)(s:Shared):Prop where
 ok:X.Ok
 os:s.os=X.s₀.os
 bare:AllBare s.gens
 base:Un X.fs X.ex X.H₀ H X.s₀.heap s.heap
 loc:∃m,s.heap.Ns X.env.locals m/\∀(i:Nat) (x:Str) (v:V),X.N[i]? =some x->J[i]? =some (some v)->lK X.env.scope x->∃u,RelV v u/\BV X.env s.heap m x u
 cell:∀x c,X.env.cells.lookup x=some c->∃v,s.heap.IsCell c v
 free:H X.env.locals=none
 freeC:∀x c,X.env.cells.lookup x=some c->H c=none
 pin:∀p∈X.pn++z5,s.heap.get? p.1=some p.2/\H p.1=none/\p.1≠X.env.locals/\p.1∉X.fs/\∀v,p.2.data≠.cell v
 hok:HOk X.prog X.w H s.heap
 len:J.length=X.N.length
section
variable{X:Cx}{z5:Z3}{J:List (Option V)}{H H':Hp}{s:Shared}{h':Heap}
def Cx.Ok.nofr(ok:X.Ok){b:Addr}{o:Obj}(e:X.base.get? b=some o):b∉X.fs:=λhb=>by have:=(ok.funs.mem hb).1;rw[e]at this;cases this
def Inv.bs(I:Inv X z5 J H s):∀b o,X.base.get? b=some o->s.heap.get? b=some o/\H b=none:=λb o e=>
 ⟨I.base.keep b o (I.ok.bs b o e).1 (I.ok.bs b o e).2 (I.ok.nofr e) (I.ok.noex b o e),I.base.free b o (I.ok.bs b o e).1 (I.ok.bs b o e).2 (I.ok.noex b o e)⟩
def Inv.bk(I:Inv X z5 J H s):∀b o,X.base.get? b=some o->s.heap.get? b=some o:=λb o e=>(I.bs b o e).1
def Inv.mod(I:Inv X z5 J H s):Mod X.K X.mg X.base:=I.ok.mod
def Inv.kIn(I:Inv X z5 J H s):X.K.In s.heap:=I.ok.mod.kin.keeps I.bk
def Inv.fr(I:Inv X z5 J H s):∃m,Fr X.base X.env.locals s.heap m:=
 let ⟨m,hn,_⟩:=I.loc
 ⟨m,hn,I.bk,ju I.ok.bsz I.ok.above⟩
def Inv.lt(I:Inv X z5 J H s):X.env.locals<s.heap.objs.size:=let ⟨_,hn,_⟩:=I.loc;hn.lt
def Inv.sz(I:Inv X z5 J H s):X.s₀.heap.objs.size<=s.heap.objs.size:=ju I.ok.above (Nat.le_of_lt I.lt)
def Inv.nofs(I:Inv X z5 J H s){a:Addr}(h:s.heap.objs.size<=a):a∉X.fs:=λhb=>by let⟨_,o,ho,_⟩:=I.ok.funs.mem hb;exact absurd (jr (j9 ho) (ju I.sz h)) (xf _)
def Inv.cne(I:Inv X z5 J H s):∀x c,X.env.cells.lookup x=some c->c≠X.env.locals:=λx c e z=>by let⟨v,o,ho,hd⟩:=I.cell x c e;obtain⟨m,⟨o',es,ep,ho',hd',_⟩,_⟩:=I.loc;rw[z,ho']at ho;cases ho;rw[hd']at hd;cases hd
def Inv.funs(I:Inv X z5 J H s):s.heap.FunFrames X.base X.outer:=by
 have all:∀(l:List Env),(∀b∈gT l,b∈X.fs)->X.s₀.heap.FunFrames X.base l->s.heap.FunFrames X.base l:=by
  intro l;induction l with
  |nil=>intro _ _;trivial
  | cons env r ih=>
   intro hs hl;obtain⟨hk,⟨L,o,hf,hn,ho,hd⟩,hr⟩:=hl;have hL:L∈X.fs:=hs L (by unfold gT;rw[List.filterMap_cons,hf];exact jf);let⟨sl,e⟩:=I.base.slot L o ho (I.ok.frf L hL) hL λz=>I.ok.exfs L z hL;exact⟨hk,⟨L,_,hf,hn,e,hd⟩,ih (λb hb=>hs b (by unfold gT;rw[List.filterMap_cons,hf];exact jd _ hb)) hr⟩
 exact all X.outer (λ_ hb=>hb) I.ok.funs
def Inv.stack(I:Inv X z5 J H s):s.heap.FunFrames X.base X.stack:=by
 rcases I.ok.stk with e|⟨e,hf⟩
 .rw[e];exact I.funs
 .rw[e];obtain⟨m,hn,_⟩:=I.loc;refine .cons (by rw[I.ok.kind];decide) hf hn ?_ I.funs;exact kr (ju I.ok.bsz I.ok.above)
def Inv.stkSub(I:Inv X z5 J H s):∀b∈gT X.stack,b∈X.env.locals::X.fs:=λb hb=>by
 rcases I.ok.stk with e|⟨e,hf⟩
 .rw[e]at hb;exact jd _ hb
 .rw[e]at hb;unfold gT at hb;rw[List.filterMap_cons,hf]at hb;exact hb
def Inv.stkFree(I:Inv X z5 J H s):∀b∈gT X.stack,H b=none:=λb hb=>by
 rcases List.mem_cons.mp (I.stkSub b hb)with e|hb
 .rw[e];exact I.free
 .let⟨_,o,ho,_⟩:=I.ok.funs.mem hb;exact I.base.free b o ho (I.ok.frf b hb) λz=>I.ok.exfs b z hb
def Inv.step{g':Array GenState}{t':Nat}{d':Drawn}{ch:List Addr}(I:Inv X z5 J H s)
 (hch:∀b∈ch,(b∈X.ex∨X.s₀.heap.objs.size<=b)/\b≠X.env.locals/\(∀x c,X.env.cells.lookup x=some c->c≠b)/\∀p∈X.pn++z5,p.1≠b)
 (keep:∀b o,b≠X.env.locals->b∉X.fs->b∉ch->s.heap.get? b=some o->H b=none->h'.get? b=some o)
 (slot:∀b o,b≠X.env.locals->b∈X.fs->b∉ch->s.heap.get? b=some o->H b=none->∃sl,h'.get? b=some {o with slots:=sl}) (free:∀b o,b∉ch->s.heap.get? b=some o->H b=none->H' b=none)
 (there:∀b o,b∉ch->s.heap.get? b=some o->∃o',h'.get? b=some o')
 (tups:∀b xs,H b=some (.tup xs)->H' b=some (.tup xs)) (frzs:∀b o u,H b=some (.frz o u)->H' b=some (.frz o u)) (tbls:∀b ps,H b=some (.tbl ps)->∃more,H' b=some (.tbl (ps++more)))
 (ns:∀m,s.heap.Ns X.env.locals m->h'.Ns X.env.locals m) (hok:HOk X.prog X.w H' h') (hg:AllBare g'):
 Inv X z5 J H' {s with heap:=h',gens:=g',drawn:=d',toks:=t'}:=by
 have neL:∀b o,X.s₀.heap.get? b=some o->b≠X.env.locals:=λb o e=>jl (jr (j9 e) I.ok.above);have neC:∀b o,X.s₀.heap.get? b=some o->b∉X.ex->b∉ch:=λb o e hx hb=>by
  rcases(hch b hb).1 with z|z
  .exact hx z
  .exact absurd (jr (j9 e) z) (xf _)
 have cellK:∀x c,X.env.cells.lookup x=some c->∀v,s.heap.IsCell c v->h'.IsCell c v:=λx c e v ⟨o,ho,hd⟩=>by
  have nch:c∉ch:=λz=>(hch c z).2.2.1 x c e rfl;by_cases hc:c∈X.fs
  .let⟨sl,q⟩:=slot c o (I.cne x c e) hc nch ho (I.freeC x c e);exact⟨_,q,hd⟩
  .exact⟨o,keep c o (I.cne x c e) hc nch ho (I.freeC x c e),hd⟩
 refine⟨I.ok,I.os,hg,⟨λb o e n hb hx=>?_,λb o e n hb hx=>?_,λb o e n hx=>?_,λb o e hx=>?_,λb xs e=>tups b xs (I.base.tups b xs e),λb o xs e=>frzs b o xs (I.base.frzs b o xs e),λb ps e=>?_⟩,?_,λx c e=>?_,?_,λx c e=>?_,λp hp=>?_,hok,I.len⟩
 .exact keep b o (neL b o e) hb (neC b o e hx) (I.base.keep b o e n hb hx) (I.base.free b o e n hx)
 .let⟨sl,e1⟩:=I.base.slot b o e n hb hx;let⟨sl',e2⟩:=slot b _ (neL b o e) hb (neC b o e hx) e1 (I.base.free b o e n hx);exact⟨sl',e2⟩
 .let⟨o',e1⟩:=I.base.there b o e hx;exact free b o' (neC b o e hx) e1 (I.base.free b o e n hx)
 .let⟨o',e1⟩:=I.base.there b o e hx;exact there b o' (neC b o e hx) e1
 .let⟨m1,e1⟩:=I.base.tbls b ps e;let⟨m2,e2⟩:=tbls b _ e1;exact⟨m1++m2,by rw[e2,Array.append_assoc]⟩
 .obtain⟨m,hn,hl⟩:=I.loc;refine⟨m,ns m hn,λi x v e1 e2 e3=>?_⟩;let⟨u,r,l⟩:=hl i x v e1 e2 e3;refine⟨u,r,?_⟩;rcases l with l|⟨k,c,e,z⟩
  .exact .inl l
  .exact .inr ⟨k,c,e,cellK x c e _ z⟩
 .let⟨v,z⟩:=I.cell x c e;exact⟨v,cellK x c e v z⟩
 .obtain⟨m,⟨o,_,_,ho,_⟩,_⟩:=I.loc;exact free _ o (λz=>(hch _ z).2.1 rfl) ho I.free
 .let⟨v,o,ho,hd⟩:=I.cell x c e;exact free c o (λz=>(hch c z).2.2.1 x c e rfl) ho (I.freeC x c e)
 .let⟨e,n,ne,nf,d⟩:=I.pin p hp;have nch:p.1∉ch:=λz=>(hch p.1 z).2.2.2 p hp rfl;exact⟨keep p.1 p.2 ne nf nch e n,free p.1 p.2 nch e n,ne,nf,d⟩
def Inv.un{t':Nat}(I:Inv X z5 J H s)(u:Un X.fs [] H H' s.heap h')(hok:HOk X.prog X.w H' h'):Inv X z5 J H' {s with heap:=h',toks:=t'}:=by
 let⟨m,⟨o,es,ep,ho,r⟩,_⟩:=id I.loc;let⟨sl,hL⟩:=u.any ho I.free (by simp);exact I.step (g':=s.gens) (d':=s.drawn) (ch:=[]) (λ_ z=>nomatch z) (λb o _ hb _ e n=>u.keep b o e n hb (by simp)) (λb o _ hb _ e n=>u.slot b o e n hb (by simp)) (λb o _ e n=>u.free b o e n (by simp)) (λb o _ e=>u.there b o e (by simp)) u.tups u.frzs u.tbls (λm' hm=>by obtain⟨o',es',ep',ho',r'⟩:=hm;rw[ho]at ho';cases ho';exact⟨_,es',ep',hL,r'⟩) hok I.bare
def Inv.call{g':Array GenState}{t':Nat}{d':Drawn}{ch:List Addr}(I:Inv X z5 J H s)(u:Un (gT X.stack) ch H H' s.heap h')(hok:HOk X.prog X.w H' h')(hg:AllBare g')
 (hch:∀b∈ch,(b∈X.ex∨X.s₀.heap.objs.size<=b)/\b≠X.env.locals/\(∀x c,X.env.cells.lookup x=some c->c≠b)/\∀p∈X.pn++z5,p.1≠b):
 Inv X z5 J H' {s with heap:=h',gens:=g',drawn:=d',toks:=t'}:=by
 let⟨m,⟨o,es,ep,ho,r⟩,_⟩:=id I.loc;let⟨sl,hL⟩:=u.any ho I.free λz=>(hch _ z).2.1 rfl;exact I.step (ch:=ch) hch (λb o hL hb hc e n=>u.keep b o e n (λz=>(List.mem_cons.mp (I.stkSub b z)).elim hL hb) hc) (λb o _ _ hc e n=>u.any e n hc) (λb o hc e n=>u.free b o e n hc) (λb o hc e=>u.there b o e hc) u.tups u.frzs u.tbls (λm' hm=>by obtain⟨o',es',ep',ho',r'⟩:=hm;rw[ho]at ho';cases ho';exact⟨_,es',ep',hL,r'⟩) hok hg
def Inv.turned{t':Nat}{it:Addr}(I:Inv X z5 J H s)(k:∀b o,b≠it->s.heap.get? b=some o->h'.get? b=some o)(hn:H it=none)(hL:it≠X.env.locals)
 (h1:it∈X.ex∨X.s₀.heap.objs.size<=it) (h2:∀x c,X.env.cells.lookup x=some c->c≠it) (h3:∀p∈X.pn++z5,p.1≠it):Inv X z5 J H {s with heap:=h',toks:=t'}:=by
 have nit:∀b u,H b=some u->b≠it:=λb u e z=>by rw[z,hn]at e;cases e
 refine I.step (g':=s.gens) (d':=s.drawn) (ch:=[it]) (λb hb=>?_) (λb o _ _ hc e _=>k b o (λz=>hc (by simp[z])) e) (λb o _ _ hc e _=>⟨o.slots,k b o (λz=>hc (by simp[z])) e⟩) (λ_ _ _ _ n=>n)
  (λb o hc e=>⟨o,k b o (λz=>hc (by simp[z])) e⟩) (λ_ _ e=>e) (λ_ _ _ e=>e) (λb ps e=>⟨#[],by rw[e];simp⟩) (λm hm=>?_) (λb u e=>?_) I.bare
 .have e:b=it:=by simpa using hb
  subst e;exact⟨h1,hL,h2,h3⟩
 .obtain⟨o,es,ep,ho,r⟩:=hm;exact⟨o,es,ep,k _ o (Ne.symm hL) ho,r⟩
 .refine(I.hok b u e).stay (λc v hc q=>k c v ?_ q) (λ_ q=>q) λ_ _ q=>q;rcases hc with z|z
  .rw[z];exact nit b u e
  .exact nit c _ z
def Inv.tok(I:Inv X z5 J H s)(t:Nat):Inv X z5 J H {s with toks:=t}:=I.un (h':=s.heap) (t':=t) Un.refl I.hok
def Inv.kept{t':Nat}(I:Inv X z5 J H s)(k:∀b u,s.heap.get? b=some u->h'.get? b=some u):Inv X z5 J H {s with heap:=h',toks:=t'}:=I.un (Un.kept k) (I.hok.kept k)
def Inv.laid{a:Addr}{o:HO}{t':Nat}(I:Inv X z5 J H s)(k:∀b u,s.heap.get? b=some u->h'.get? b=some u)(hp:s.heap.objs.size<=a)(new:ObjOk X.prog X.w (aT H a o) h' a o):
 Inv X z5 J (aT H a o) {s with heap:=h',toks:=t'}:=I.un (Un.laid k hp (I.hok.fresh hp)) (I.hok.laid k hp new)
def Inv.write{x e:Addr}{o:HO}{t':Nat}(I:Inv X z5 J H s)(mu:uF (H x))(he:e=x∨H e=some (.own x))(k:∀b u,b≠e->s.heap.get? b=some u->h'.get? b=some u)(heo:∃u,h'.get? e=some u)
 (new:ObjOk X.prog X.w (aT H x o) h' x o):Inv X z5 J (aT H x o) {s with heap:=h',toks:=t'}:=I.un (Un.write mu he k heo) (I.hok.write mu he k heo new)
def Inv.weak{J':List (Option V)}(I:Inv X z5 J H s)(hl:J'.length=J.length)(w:∀(i:Nat) v,J'[i]? =some (some v)->J[i]? =some (some v)):Inv X z5 J' H s:=
 ⟨I.ok,I.os,I.bare,I.base,let ⟨m,hn,hl'⟩:=I.loc;⟨m,hn,λi x v e1 e2 e3=>hl' i x v e1 (w i v e2) e3⟩,I.cell,I.free,I.freeC,I.pin,I.hok,hl.trans I.len⟩
def Inv.pins_of{pins':Z3}(I:Inv X z5 J H s)(h:∀p∈pins',s.heap.get? p.1=some p.2/\H p.1=none/\p.1≠X.env.locals/\p.1∉X.fs/\∀v,p.2.data≠.cell v):Inv X pins' J H s:=
 ⟨I.ok,I.os,I.bare,I.base,I.loc,I.cell,I.free,I.freeC,λp hp=>(List.mem_append.mp hp).elim (λz=>I.pin p (List.mem_append_left _ z)) (h p),I.hok,I.len⟩
def G4{N:Zj}(hN:N.Nodup){i j:Nat}{x:Str}(a:N[i]? =some x)(b:N[j]? =some x):i=j:=by let⟨h1,e1⟩:=List.getElem?_eq_some_iff.mp a;let⟨h2,e2⟩:=List.getElem?_eq_some_iff.mp b;exact(List.getElem_inj hN).mp (e1.trans e2.symm)
def qg4{ρ:Model}{A:Around}{E:Z0}{i:Nat}{x:Str}{v:V}{u:Value}{Q:Unit->Shared->Prop}(I:Inv X z5 J H s)(hN:X.N.Nodup)(hi:X.N[i]? =some x)(hx:kH X.env.scope x)(r:RelV v u)
 (h:∀s',Inv X z5 (J.set i (some v)) H s'->(∃a,Heap.SameBut a s.heap s'.heap/\(a=X.env.locals∨X.env.cells.lookup x=some a))->Q () s') (hf:X.fn x=true∨X.env.scope.names.lookup x=some .local:=by first|exact .inl rfl|exact .inr rfl|assumption):wpAny ρ A (storeName X.env x u) Q E s:=by
 let⟨m,hn,hl⟩:=id I.loc;have hcls:(X.env.scope.kind==.class||(X.env.scope.kind==.module&&X.env.locals !=X.env.globals))=false:=by rw[I.ok.kind];rfl
 have hiσ:i<J.length:=by rw[I.len];exact(List.getElem?_eq_some_iff.mp hi).1
 have cne:=I.cne;have tracked:∀{a:Addr} {h':Heap},(∃o,s.heap.get? a=some o/\H a=none)->Heap.SameBut a s.heap h'->HOk X.prog X.w H h':=λ{a h'} ha hs b ob e=>by
  obtain⟨_,_,hfree⟩:=ha;refine(I.hok b ob e).stay (λc w' hc q=>(hs.2 c ?_).trans q) (λ_ q=>q) λ_ _ q=>q;rintro rfl;rcases hc with rfl|hc
  .rw[hfree]at e;cases e
  .rw[hfree]at hc;cases hc
 rcases hx with hk|hk
 .refine wpAny_storeName_local hk hn (λh' hn' hs=>?_) hcls;let⟨oL,_,_,hoL,_⟩:=id hn;refine h _ ⟨I.ok,I.os,I.bare,⟨λb o e n hb hx=>?_,λb o e n hb hx=>?_,I.base.free,λb o e hx=>?_,I.base.tups,I.base.frzs,I.base.tbls⟩,⟨_,hn',λj y v' e1 e2 e3=>?_⟩,λy c e=>?_,I.free,I.freeC,λp hp=>?_,tracked ⟨oL,hoL,I.free⟩ hs,by simpa using I.len⟩ ⟨_,hs,.inl rfl⟩
  .exact(hs.2 b (jl (jr (j9 e) I.ok.above))).trans (I.base.keep b o e n hb hx)
  .let⟨sl,e1⟩:=I.base.slot b o e n hb hx;exact⟨sl,(hs.2 b (jl (jr (j9 e) I.ok.above))).trans e1⟩
  .let⟨o',e1⟩:=I.base.there b o e hx;exact⟨o',(hs.2 b (jl (jr (j9 e) I.ok.above))).trans e1⟩
  .by_cases hj:j=i
   .subst hj;rw[hi]at e1;cases e1;rw[xg hiσ]at e2;cases e2;exact⟨u,r,.inl ⟨hk,by simp⟩⟩
   .rw[jo (Ne.symm hj)]at e2;let⟨u',r',q⟩:=hl j y v' e1 e2 e3;refine⟨u',r',?_⟩;rcases q with⟨k,e⟩|⟨k,c,e,z⟩
    .refine .inl ⟨k,?_⟩;have:y≠x:=λe=>hj (G4 hN e1 (e▸hi));simp[this,e]
    .exact .inr ⟨k,c,e,z.sameBut hs (cne y c e)⟩
  .let⟨w',z⟩:=I.cell y c e;exact⟨w',z.sameBut hs (cne y c e)⟩
  .let⟨e,n,ne,nf,d⟩:=I.pin p hp;exact⟨(hs.2 p.1 ne).trans e,n,ne,nf,d⟩
 .have hfn:X.fn x=true:=by
   rcases hf with z|z
   .exact z
   .rw[z]at hk;cases hk
  let⟨c,hc⟩:=I.ok.has x (.inl hk);let⟨w',z⟩:=I.cell x c hc;refine wpAny_storeName_cell I.ok.kind hk hc z (λh' hc' hs=>?_);let⟨oc,hoc,hocd⟩:=id z;refine h {s with heap:=h'} ⟨I.ok,I.os,I.bare,⟨λb o e n hb hx=>?_,λb o e n hb hx=>?_,I.base.free,λb o e hx=>?_,I.base.tups,I.base.frzs,I.base.tbls⟩,⟨m,hn.sameBut hs (Ne.symm (cne x c hc)),λj y v' e1 e2 e3=>?_⟩,λy c' e=>?_,I.free,I.freeC,λp hp=>?_,tracked ⟨oc,hoc,I.freeC x c hc⟩ hs,by simpa using I.len⟩ ⟨c,hs,.inr hc⟩
  .exact(hs.2 b (jl (jr (j9 e) (I.ok.cab x c hfn hc)))).trans (I.base.keep b o e n hb hx)
  .let⟨sl,e1⟩:=I.base.slot b o e n hb hx;exact⟨sl,(hs.2 b (jl (jr (j9 e) (I.ok.cab x c hfn hc)))).trans e1⟩
  .let⟨o',e1⟩:=I.base.there b o e hx;exact⟨o',(hs.2 b (jl (jr (j9 e) (I.ok.cab x c hfn hc)))).trans e1⟩
  .by_cases hj:j=i
   .subst hj;rw[hi]at e1;cases e1;rw[xg hiσ]at e2;cases e2;exact⟨u,r,.inr ⟨.inl hk,c,hc,hc'⟩⟩
   .rw[jo (Ne.symm hj)]at e2;let⟨u',r',q⟩:=hl j y v' e1 e2 e3;refine⟨u',r',?_⟩;rcases q with q|⟨k,c',e,z'⟩
    .exact .inl q
    .refine .inr ⟨k,c',e,z'.sameBut hs ?_⟩;rintro rfl;exact hj (G4 hN e1 (I.ok.inj _ _ _ e hc▸hi))
  .by_cases hcc:c'=c
   .subst hcc;exact⟨_,hc'⟩
   .let⟨w2,z2⟩:=I.cell y c' e;exact⟨w2,z2.sameBut hs hcc⟩
  .let⟨e,n,ne,nf,d⟩:=I.pin p hp;refine⟨(hs.2 p.1 ?_).trans e,n,ne,nf,d⟩;intro q;rw[q,hoc]at e;have q':oc=p.2:=jg e;exact d w' (by rw[<-q'];exact hocd)
def yO{ρ:Model}{A:Around}{E:Z0}{i:Nat}{x:Str}{v:V}{u:Value}{Q:Unit->Shared->Prop}(I:Inv X z5 J H s)(hN:X.N.Nodup)(hi:X.N[i]? =some x)(hx:kH X.env.scope x)(r:RelV v u)
 (h:∀s',Inv X z5 (J.set i (some v)) H s'->Q () s') (hf:X.fn x=true∨X.env.scope.names.lookup x=some .local:=by first|exact .inl rfl|exact .inr rfl|assumption):wpAny ρ A (storeName X.env x u) Q E s:=
 qg4 I hN hi hx r (λs' I' _=>h s' I') hf
def Inv.call'{s':Shared}{ch:List Addr}(I:Inv X z5 J H s)(ho:s'.os=s.os)(u:Un (gT X.stack) ch H H' s.heap s'.heap)(hok:HOk X.prog X.w H' s'.heap)(hg:AllBare s'.gens)
 (hch:∀b∈ch,(b∈X.ex∨X.s₀.heap.objs.size<=b)/\b≠X.env.locals/\(∀x c,X.env.cells.lookup x=some c->c≠b)/\∀p∈X.pn++z5,p.1≠b):Inv X z5 J H' s':=by
 obtain⟨h',g',d',t',o'⟩:=s';have e:o'=s.os:=ho;subst e;exact I.call (g':=g') (t':=t') (d':=d') u hok hg hch
end
abbrev XK:=Value->Option Addr->Hp->Prop
abbrev St:=List (Option V)
abbrev VK:=V->Hp->Prop
abbrev TE:=St->Hp->VK->Prop
abbrev TT:=St->Hp->(Bool->Hp->Prop)->Prop
abbrev TA:=St->Hp->(List V->Hp->Prop)->Prop
structure Ends where
 nx:St->Hp->Prop
 rt:VK
 bk:St->Hp->Prop:=λ_ _=>False
 ct:St->Hp->Prop:=λ_ _=>False
abbrev TS:=Ends->St->Hp->Prop
def EP(X:Cx)(z5:Z3)(J:St)(Q:VK)(u:Value)(s':Shared):Prop:=∃v H',Inv X z5 J H' s'/\RelV v u/\Q v H'
def TP(X:Cx)(z5:Z3)(J:St)(Q:Bool->Hp->Prop)(b:Bool)(s':Shared):Prop:=∃H',Inv X z5 J H' s'/\Q b H'
def AP(X:Cx)(z5:Z3)(J:St)(Q:List V->Hp->Prop)(us:Ze)(s':Shared):Prop:=∃vs H',Inv X z5 J H' s'/\Vals vs us/\Q vs H'
def SP(X:Cx)(z5:Z3)(D:Ends)(f:Flow)(s':Shared):Prop:=
 match f with
 |.next=>∃J' H',Inv X z5 J' H' s'/\D.nx J' H'
 |.brk=>∃J' H',Inv X z5 J' H' s'/\D.bk J' H'
 |.cont=>∃J' H',Inv X z5 J' H' s'/\D.ct J' H'
 |.ret u=>∃v J' H',Inv X z5 J' H' s'/\RelV v u/\D.rt v H'
def PE(X:Cx)(e:Expr)(t:TE):Prop:=
 ∀(z5:Z3) (s:Shared) (J:St) (H:Hp) (Q:VK),Inv X z5 J H s->t J H Q->wpAny (model X.prog X.w) X.A (eval e X.env) (EP X z5 J Q) X.xe s
def PT(X:Cx)(e:Expr)(t:TT):Prop:=
 ∀(z5:Z3) (s:Shared) (J:St) (H:Hp) (Q:Bool->Hp->Prop),Inv X z5 J H s->t J H Q->wpAny (model X.prog X.w) X.A (isTrue e X.env (eval e X.env)) (TP X z5 J Q) X.xe s
def PW(X:Cx)(e:Expr)(t:TT):Prop:=
 ∀(zv:Sem Value) (z5:Z3) (s:Shared) (J:St) (H:Hp) (Q:Bool->Hp->Prop),Inv X z5 J H s->t J H Q->wpAny (model X.prog X.w) X.A (isTrue e X.env zv) (TP X z5 J Q) X.xe s
def PW.pt{X:Cx}{e:Expr}{t:TT}(h:PW X e t):PT X e t:=h _
def PA(X:Cx)(es:Zi)(t:TA):Prop:=
 ∀(pos:Pos) (z5:Z3) (s:Shared) (J:St) (H:Hp) (Q:List V->Hp->Prop),Inv X z5 J H s->t J H Q->wpAny (model X.prog X.w) X.A (spliced (backTo pos (starEach es X.env))) (AP X z5 J Q) X.xe s
def PS(X:Cx)(st:Stmt)(t:TS):Prop:=
 ∀(z5:Z3) (s:Shared) (J:St) (H:Hp) (D:Ends),Inv X z5 J H s->t D J H->wpAny (model X.prog X.w) X.A (exec st X.env) (SP X z5 D) X.xe s
def PSs(X:Cx)(st:Zh)(t:TS):Prop:=
 ∀(z5:Z3) (s:Shared) (J:St) (H:Hp) (D:Ends),Inv X z5 J H s->t D J H->wpAny (model X.prog X.w) X.A (execs st X.env) (SP X z5 D) X.xe s
def bu{α:Type}{t:Sem α}{Q Q':α->Shared->Prop}{ρ:Model}{A:Around}{E:Z0}{s:Shared}(h:wpAny ρ A t Q E s)(hQ:∀a s,Q a s->Q' a s):wpAny ρ A t Q' E s:=xo h hQ λ_ _ x=>x
section
variable{X:Cx}
def dL(i:Nat):TE:=λJ H Q=>∃v,J[i]? =some (some v)/\Q v H
def tC(v:V):TE:=λ_ H Q=>Q v H
def qto{i:Nat}{x:Str}{pos:Pos}(hN:X.N[i]? =some x)(hv:lK X.env.scope x)(hd:(x==("__debug__":Str))=false:=by decide)(hcd:(x==("__classdict__":Str))=false:=by decide):PE X (.Name x pos) (dL i):=by
 intro z5 s J H Q I h;obtain⟨v,e,h⟩:=h;obtain⟨m,hn,hl⟩:=I.loc;let⟨u,r,l⟩:=hl i x v hN e hv;have fin:EP X z5 J Q u s:=⟨v,H,I,r,h⟩;rcases l with⟨hk,hm⟩|⟨hk,c,hc,zp⟩
 .exact wpAny_Name (wpAny_loadName_local I.ok.kind hk hn hm fin) hd
 .rcases hk with hk|hk
  .exact wpAny_Name (wpAny_loadName_cell I.ok.kind hk hc zp fin) hd
  .exact wpAny_Name (wpAny_loadName_free I.ok.kind hk hc zp fin hcd) hd
def ax{i j pos}:PE X (.Constant (.int i) j pos) (tC (.int i)):=λ_ _ _ H _ I h=>wpAny_Constant_int ⟨.int i,H,I.tok _,⟨_,rfl⟩,h⟩
def kL{b j pos}:PE X (.Constant (.bool b) j pos) (tC (.bl b)):=λ_ _ _ H _ I h=>Constant_bool ⟨.bl b,H,I,rfl,h⟩
def i5{j pos}:PE X (.Constant .none j pos) (tC .non):=λ_ _ _ H _ I h=>Constant_none ⟨.non,H,I,rfl,h⟩
def eU{x j pos}:PE X (.Constant (.str x) j pos) (tC (.str x)):=λ_ _ _ H _ I h=>Calls.Constant_str ⟨.str x,H,I.tok _,⟨_,rfl⟩,h⟩
def Gl(X:Cx)(x:Str):Prop:=X.env.kindOf x=some .globalImplicit
def yk{E:Z0}{z5:Z3}{s:Shared}{J:St}{H:Hp}{x:Str}{u:Value}{pos:Pos}{Q:Z0}(I:Inv X z5 J H s)(hg:Gl X x)(hm:X.mg x=some u)(h:Q u s)
 (hd:(x==("__debug__":Str))=false:=by decide):wpAny (model X.prog X.w) X.A (eval (.Name x pos) X.env) Q E s:=
 Calls.Name_function_global I.ok.kind hg (Calls.loadGlobal_global (by rw[I.ok.glob];exact I.mod.glob.keeps I.bk) hm h) hd
def ia{E:Z0}{z5:Z3}{s:Shared}{J:St}{H:Hp}{x:Str}{u:Value}{pos:Pos}{Q:Z0}(I:Inv X z5 J H s)(hg:Gl X x)(hm:X.mg x=none)(hv:bootBuiltins x=some u)(h:Q u s)
 (hn:x≠"__name__":=by decide) (hd:(x==("__debug__":Str))=false:=by decide):wpAny (model X.prog X.w) X.A (eval (.Name x pos) X.env) Q E s:=by
 obtain⟨mb,h1,h2⟩:=I.mod.blt;exact Calls.Name_function_global I.ok.kind hg (Calls.loadGlobal_builtin (by rw[I.ok.glob];exact I.mod.glob.keeps I.bk) hm (by rw[I.ok.blt];exact h1.keeps I.bk) ((h2 x hn).trans hv) h) hd
def qq{x:Str}{v:V}{u:Value}{pos:Pos}(hg:Gl X x)(hm:X.mg x=none)(hv:bootBuiltins x=some u)(r:RelV v u)(hn:x≠"__name__":=by decide)(hd:(x==("__debug__":Str))=false:=by decide):PE X (.Name x pos) (tC v):=
 λ_ _ _ H _ I h=>ia I hg hm hv ⟨v,H,I,r,h⟩ hn hd
variable{a b:Expr}{ta tb:TE}{pos:Pos}
def tB(t:TE):TT:=λJ H Q=>t J H λx H1=>∃c,x=.bl c/\Q c H1
def kW{e:Expr}{t:TE}(h:PE X e t)(he:∀zv,isTrue e X.env zv=(do let v <-zv;standAt e.pos;holding [v] (truthy v)):=by intro _;rfl):PT X e (tB t):=by intro z5 s J H Q I hw;refine isTrue_plain (bu (h z5 s J H _ I hw) λv s1 ⟨x,H1,I1,r1,q1⟩=>?_) (he _);obtain⟨d,rfl,q⟩:=q1;cases r1;exact ke ⟨H1,I1,q⟩
variable{tA tB':TT}{rest:Zi}
def q9(t u:TT):TT:=λJ H Q=>t J H λc H1=>if c=true then u J H1 Q else Q false H1
def DO(t u:TT):TT:=λJ H Q=>t J H λc H1=>if c=true then Q true H1 else u J H1 Q
def qZ(t:TT):TT:=λJ H Q=>t J H λc H1=>Q (!c) H1
def e7(ha:PT X a tA):PW X (.BoolOp .And [a] pos) tA:=by
 intro wh z5 s J H Q I h;refine isTrue_and (bu (ha z5 s J H Q I h) λc s1 e=>?_);cases c with
 |true=>exact isTrue_and_nil e
 |false=>exact e
def eF(ha:PT X a tA):PW X (.BoolOp .Or [a] pos) tA:=by
 intro wh z5 s J H Q I h;refine isTrue_or (bu (ha z5 s J H Q I h) λc s1 e=>?_);cases c with
 |false=>exact isTrue_or_nil e
 |true=>exact e
def fq(ha:PT X a tA)(hb:PW X (.BoolOp .And (b::rest) pos) tB'):PW X (.BoolOp .And (a::b::rest) pos) (q9 tA tB'):=by
 intro wh z5 s J H Q I h;refine isTrue_and (bu (ha z5 s J H _ I h) λc s1 ⟨H1,I1,q1⟩=>?_);cases c with
 |true=>exact hb wh z5 s1 J H1 Q I1 q1
 |false=>exact⟨H1,I1,q1⟩
def fm(ha:PT X a tA)(hb:PW X (.BoolOp .Or (b::rest) pos) tB'):PW X (.BoolOp .Or (a::b::rest) pos) (DO tA tB'):=by
 intro wh z5 s J H Q I h;refine isTrue_or (bu (ha z5 s J H _ I h) λc s1 ⟨H1,I1,q1⟩=>?_);cases c with
 |true=>exact⟨H1,I1,q1⟩
 |false=>exact hb wh z5 s1 J H1 Q I1 q1
def mo(ha:PT X a tA):PT X (.UnaryOp .Not a pos) (qZ tA):=by intro z5 s J H Q I h;exact isTrue_not (ha z5 s J H (λc H1=>Q (!c) H1) I h)
def Et(ta tb:TE):TE:=λJ H Q=>ta J H λx H1=>∃c,x=.bl c/\if c=true then tb J H1 Q else Q (.bl false) H1
def EC(ta:TE):TE:=λJ H Q=>ta J H λx H1=>∃c,x=.bl c/\Q (.bl (!c)) H1
def Fs{op}{t:TE}(h:PE X a t):PE X (.BoolOp op [a] pos) t:=λz5 s J H Q I hw=>BoolOp_one (h z5 s J H Q I hw)
def Fq(ha:PE X a ta)(hb:PE X (.BoolOp .And (b::rest) pos) tb):PE X (.BoolOp .And (a::b::rest) pos) (Et ta tb):=by
 intro z5 s J H Q I h;refine BoolOp_and (bu (ha z5 s J H _ I h) λv s1 ⟨x,H1,I1,r1,q1⟩=>?_);obtain⟨c,rfl,q1⟩:=q1;cases r1;refine ke ?_;cases c with
 |true=>exact hb z5 s1 J H1 Q I1 q1
 |false=>exact⟨.bl false,H1,I1,rfl,q1⟩
def qtp(ha:PE X a ta):PE X (.UnaryOp .Not a pos) (EC ta):=by intro z5 s J H Q I h;refine UnaryOp_ (bu (ha z5 s J H _ I h) λv s1 ⟨x,H1,I1,r1,q1⟩=>?_);obtain⟨c,rfl,q1⟩:=q1;cases r1;exact not_of (ke ⟨.bl (!c),H1,I1,rfl,q1⟩)
def vI(t:TT)(ta tb:TE):TE:=λJ H Q=>t J H λc H1=>if c=true then ta J H1 Q else tb J H1 Q
def lh{c:Expr}(hc:PT X c tA)(ha:PE X a ta)(hb:PE X b tb):PE X (.IfExp c a b pos) (vI tA ta tb):=by
 intro z5 s J H Q I h;refine wpAny_IfExp (bu (hc z5 s J H _ I h) λd s1 ⟨H1,I1,q1⟩=>?_);cases d with
 |true=>exact ha z5 s1 J H1 Q I1 q1
 |false=>exact hb z5 s1 J H1 Q I1 q1
end
def SqL(K:aq)(H:Hp)(a:Addr)(xs:List V):Prop:=
 Rd H a (.lst xs)∨
  ∃(o:Obj) (its:Zd) (n:Nat),K.lookup a=some o/\o.cls=.type "list"/\o.dict=none/\o.data=.seq its n/\its.size<=sizeLine/\Vals xs its.toList
def SqT(K:aq)(H:Hp)(a:Addr)(xs:List V):Prop:=
 Rd H a (.tup xs)∨
  ∃(o:Obj) (its:Zd) (n:Nat),K.lookup a=some o/\o.cls=.type "tuple"/\o.dict=none/\o.data=.seq its n/\its.size<=sizeLine/\Vals xs its.toList
noncomputable def BU:Value->Option V
 |.none=>some .non
 |.bool b=>some (.bl b)
 |.int i _=>some (.int i)
 |.str x _=>some (.str x)
 |.bytes b _=>some (.byt b)
 |.float b _=>some (.flt b)
 |.ref a=>some (.ref a)
 |.type n=>some (.ty n)
 |_=>none
def RelV.abs{x:V}{u:Value}(r:RelV x u):BU u=some x:=by
 cases x with
 |non=>cases r;rfl
 |bl _=>cases r;rfl
 |int _=>obtain⟨t,rfl⟩:=r;rfl
 |str _=>obtain⟨t,rfl⟩:=r;rfl
 |byt _=>obtain⟨t,rfl⟩:=r;rfl
 |flt _=>obtain⟨t,rfl⟩:=r;rfl
 |ref _=>cases r;rfl
 |ty _=>cases r;rfl
def RelV.inj{x y:V}{u:Value}(r:RelV x u)(q:RelV y u):x=y:=jg (r.abs.symm.trans q.abs)
theorem Vals.inj:∀{xs ys:List V} {us:Ze},Vals xs us->Vals ys us->xs=ys
 |_,_,_,.nil,.nil=>rfl
 |_,_,_,.cons r t,.cons r' t'=>by rw[r.inj r',Vals.inj t t']
section
variable{X:Cx}{z5:Z3}{J:St}{H:Hp}{s:Shared}{a:Addr}{xs ys:List V}
def SqL.of{K:aq}(h:H a=some (.lst xs)):SqL K H a xs:=.inl (.inl h)
def SqT.of{K:aq}(h:H a=some (.tup xs)):SqT K H a xs:=.inl (.inl h)
def Inv.list(I:Inv X z5 J H s)(h:SqL X.K H a xs):∃its:List Value,Vals xs its/\PlainL s.heap a its.toArray/\xs.length<=sizeLine:=by
 rcases h with h|⟨o,its,n,hk,hc,hd,hs,hz,r⟩
 .let⟨z,its,n,r,e⟩:=h.ok I.hok;exact⟨its,r,⟨_,n,e,rfl,rfl,rfl⟩,z⟩
 .refine⟨its.toList,r,⟨o,n,I.kIn a o hk,hc,hd,by simpa using hs⟩,?_⟩;have e:=r.length;simp only[Array.length_toList]at e;omega
def Inv.tupN(I:Inv X z5 J H s)(h:SqT X.K H a xs):∃its:List Value,Vals xs its/\TupN s.heap a its.toArray/\xs.length<=sizeLine:=by
 rcases h with h|⟨o,its,n,hk,hc,hd,hs,hz,r⟩
 .let⟨z,its,r,p⟩:=h.ok I.hok;exact⟨its,r,p,z⟩
 .refine⟨its.toList,r,⟨o,I.kIn a o hk,⟨hc,n,by simpa using hs⟩,hd⟩,?_⟩;have e:=r.length;simp only[Array.length_toList]at e;omega
def Inv.tuple(I:Inv X z5 J H s)(h:SqT X.K H a xs):∃its:List Value,Vals xs its/\IsTup s.heap a its.toArray/\xs.length<=sizeLine:=let ⟨its,r,p,z⟩:=I.tupN h;⟨its,r,p.tup,z⟩
def Inv.list_inj(I:Inv X z5 J H s)(h:SqL X.K H a xs)(h':SqL X.K H a ys):xs=ys:=by
 let⟨its,r,⟨o,n,e,_,_,d⟩,_⟩:=I.list h;let⟨its',r',⟨o',n',e',_,_,d'⟩,_⟩:=I.list h';rw[e]at e';cases e';rw[d]at d';injection d' with d1 _;have:its=its':=by simpa using congrArg Array.toList d1
 subst this;exact r.inj r'
def Inv.tuple_inj(I:Inv X z5 J H s)(h:SqT X.K H a xs)(h':SqT X.K H a ys):xs=ys:=by
 let⟨its,r,⟨o,e,_,n,d⟩,_⟩:=I.tuple h;let⟨its',r',⟨o',e',_,n',d'⟩,_⟩:=I.tuple h';rw[e]at e';cases e';rw[d]at d';injection d' with d1 _;have:its=its':=by simpa using congrArg Array.toList d1
 subst this;exact r.inj r'
end
abbrev Cx.wish(X:Cx)(E:Z0):Cx:={X with xe:=E}
abbrev Cx.nox(X:Cx):Cx:=X.wish λ_ _=>False
def Cx.Ok.wish{X:Cx}(ok:X.Ok)(E:Z0):(X.wish E).Ok:=
 ⟨ok.mod,ok.kind,ok.glob,ok.blt,ok.above,ok.inj,ok.has,ok.cab,ok.hd,ok.frames,ok.stk,ok.exf,ok.bs,ok.bsz,ok.noex,ok.exfs,ok.funs,ok.frf⟩
def Cx.Ok.unwish{X:Cx}{E:Z0}(ok:(X.wish E).Ok):X.Ok:=
 ⟨ok.mod,ok.kind,ok.glob,ok.blt,ok.above,ok.inj,ok.has,ok.cab,ok.hd,ok.frames,ok.stk,ok.exf,ok.bs,ok.bsz,ok.noex,ok.exfs,ok.funs,ok.frf⟩
section
variable{X:Cx}{z5:Z3}{J:St}{H:Hp}{s:Shared}{E:Z0}
def Inv.wish(I:Inv X z5 J H s)(E:Z0):Inv (X.wish E) z5 J H s:=⟨I.ok.wish E,I.os,I.bare,I.base,I.loc,I.cell,I.free,I.freeC,I.pin,I.hok,I.len⟩
def Inv.unwish(I:Inv (X.wish E) z5 J H s):Inv X z5 J H s:=⟨I.ok.unwish,I.os,I.bare,I.base,I.loc,I.cell,I.free,I.freeC,I.pin,I.hok,I.len⟩
def SP.unwish{D:Ends}{f:Flow}{s':Shared}(h:SP (X.wish E) z5 D f s'):SP X z5 D f s':=by
 cases f with
 |next=>obtain⟨J',H',I,q⟩:=h;exact⟨J',H',I.unwish,q⟩
 |brk=>obtain⟨J',H',I,q⟩:=h;exact⟨J',H',I.unwish,q⟩
 |cont=>obtain⟨J',H',I,q⟩:=h;exact⟨J',H',I.unwish,q⟩
 |ret u=>obtain⟨v,J',H',I,r,q⟩:=h;exact⟨v,J',H',I.unwish,r,q⟩
def PSs.nox{st:Zh}{t:TS}(h:PSs X.nox st t):PSs X st t:=λz5 s J H D I hw=>
 xo (h z5 s J H D (I.wish _) hw) (λ_ _ q=>q.unwish) λ_ _ z=>False.elim z
end
section
variable{X:Cx}{st:Stmt}{rest:Zh}{t u:TS}{e:Expr}{te:TE}{pos:Pos}
def EB:TS:=λD J H=>D.nx J H
def lL(t u:TS):TS:=λD J H=>t {D with nx:=u D} J H
def dU:PSs X [] EB:=λ_ _ J H _ I h=>wpAny_execs_nil ⟨J,H,I,h⟩
def aI(h1:PS X st t)(h2:PSs X rest u):PSs X (st::rest) (lL t u):=by
 intro z5 s J H D I h;refine wpAny_execs_cons (bu (h1 z5 s J H {D with nx:=u D} I h) λf s1 q=>?_);cases f with
 | next=>
  obtain⟨J',H',I',q⟩:=q;exact h2 z5 s1 J' H' D I' q
 |ret v=>exact q
 |brk=>exact q
 |cont=>exact q
def aQ(h1:PS X st t):PSs X [st] t:=by
 intro z5 s J H D I h;refine wpAny_execs_cons (bu (h1 z5 s J H D I h) λf s1 q=>?_);cases f with
 |next=>exact wpAny_execs_nil q
 |ret v=>exact q
 |brk=>exact q
 |cont=>exact q
def Inv.quiet{z5:Z3}{J:St}{H:Hp}{s:Shared}(I:Inv X z5 J H s):interactive X.env=false:=by simp[interactive,I.ok.kind]
def p8(te:TE):TS:=λD J H=>te J H λ_ H1=>D.nx J H1
def iE(he:PE X e te)(hs:swapsWith e none pos.line X.env=pure false:=by rfl):PS X (.Expr e pos) (p8 te):=by intro z5 s J H D I h;exact wpAny_Expr_any (bu (he z5 s J H _ I h) λv s1 ⟨x,H1,I1,r1,q1⟩=>⟨J,H1,I1,q1⟩) I.quiet hs
def iJ(te:TE):TS:=λD J H=>te J H D.rt
def bM(he:PE X e te):PS X (.Return (some e) pos) (iJ te):=by intro z5 s J H D I h;exact wpAny_Return_some (bu (he z5 s J H _ I h) λv s1 ⟨x,H1,I1,r1,q1⟩=>⟨x,J,H1,I1,r1,q1⟩)
def q8(c:TT)(t u:TS):TS:=λD J H=>c J H λb H1=>if b=true then t D J H1 else u D J H1
def dQ{c:Expr}{a b:Zh}{tc:TT}(hc:PT X c tc)(ha:PSs X a t)(hb:PSs X b u):PS X (.If c a b pos) (q8 tc t u):=by
 intro z5 s J H D I h;refine wpAny_If (bu (hc z5 s J H _ I h) λd s1 ⟨H1,I1,q1⟩=>?_);cases d with
 |true=>exact ha z5 s1 J H1 D I1 q1
 |false=>exact hb z5 s1 J H1 D I1 q1
def FQ:TS:=λ_ _ _=>False
def Hc:PS X st FQ:=λ_ _ _ _ _ _ h=>h.elim
end
abbrev TG:=V->St->Hp->(St->Hp->Prop)->Prop
abbrev kG:=List V->St->Hp->(St->Hp->Prop)->Prop
def PG(X:Cx)(zh:Expr)(t:TG):Prop:=
 ∀(z5:Z3) (s:Shared) (J:St) (H:Hp) (v:V) (u:Value) (Q:St->Hp->Prop),Inv X z5 J H s->RelV v u->t v J H Q->
   wpAny (model X.prog X.w) X.A (assign zh X.env u) (λ_ s'=>∃J' H',Inv X z5 J' H' s'/\Q J' H') X.xe s
def qN(X:Cx)(ts:Zi)(t:kG):Prop:=
 ∀(z5:Z3) (s:Shared) (J:St) (H:Hp) (vs:List V) (us:Ze) (Q:St->Hp->Prop),Inv X z5 J H s->Vals vs us->t vs J H Q->
   wpAny (model X.prog X.w) X.A (assignInOrder ((assignEach ts X.env).map (·.2)) us) (λ_ s'=>∃J' H',Inv X z5 J' H' s'/\Q J' H') X.xe s
abbrev ou:=V->V->V->Hp->(Hp->Prop)->Prop
def ox(X:Cx)(t:ou):Prop:=
 ∀(z5:Z3) (s:Shared) (J:St) (H:Hp) (o i v:V) (ov iv u:Value) (Q:Hp->Prop),Inv X z5 J H s->RelV o ov->RelV i iv->RelV v u->t o i v H Q->
   wpAny (model X.prog X.w) X.A (setItem ov iv u) (λ_ s'=>∃H',Inv X z5 J H' s'/\Q H') X.xe s
section
variable{X:Cx}{pos:Pos}
def gE(i:Nat):TG:=λv J H Q=>Q (J.set i (some v)) H
def gr{i:Nat}{x:Str}(hN:X.N.Nodup)(hi:X.N[i]? =some x)(hx:kH X.env.scope x)(hf:X.fn x=true∨X.env.scope.names.lookup x=some .local:=by first|exact .inl rfl|exact .inr rfl|assumption):PG X (.Name x pos) (gE i):=by intro z5 s J H v u Q I r h;exact wpAny_assign_Name (yO I hN hi hx r (λs' I'=>⟨_,H,I',h⟩) hf)
def dF(i:Nat){x:Str}(hN:X.N.Nodup)(hi:X.N[i]? =some x:=by rfl)(hx:kH X.env.scope x:=by first|exact .inl rfl|exact .inr rfl)(hf:X.fn x=true∨X.env.scope.names.lookup x=some .local:=by first|exact .inl rfl|exact .inr rfl|assumption):PG X (.Name x pos) (gE i):=gr hN hi hx hf
def nU:kG:=λvs J H Q=>vs=[]/\Q J H
def sK(t:TG)(u:kG):kG:=λvs J H Q=>∃v r,vs=v::r/\t v J H λJ' H'=>u r J' H' Q
def iD:qN X [] nU:=by intro z5 s J H vs us Q I r h;obtain⟨e,h⟩:=h;subst e;cases r;exact assignInOrder_nil ⟨J,H,I,h⟩
def eJ{e:Expr}{es:Zi}{t:TG}{u:kG}(h1:PG X e t)(h2:qN X es u)
 (hs:(assignEach (e::es) X.env).map (·.2)=assign e X.env::(assignEach es X.env).map (·.2):=by rfl):qN X (e::es) (sK t u):=by
 intro z5 s J H vs us Q I r h;obtain⟨v,vr,e1,h⟩:=h;subst e1;cases r with
 | cons r rr=>
  rw[hs];refine assignInOrder_cons (bu (h1 z5 s J H _ _ _ I r h) λ_ s1 ⟨J1,H1,I1,q1⟩=>?_);exact h2 z5 s1 J1 H1 _ _ Q I1 rr q1
def lV(K:aq)(n:Nat)(t:kG):TG:=λv J H Q=>∃a xs,v=.ref a/\SqT K H a xs/\xs.length=n/\t xs J H Q
def qtn{es:Zi}{k:Nat}{t:kG}{n:Nat}(hc:X.calm=true)(h:qN X es t)
 (hn:(assignEach es X.env).length=n:=by rfl) (hst:(assignEach es X.env).findIdx? (·.1)=none:=by rfl):PG X (.Tuple es k pos) (lV X.K n t):=by
 intro z5 s J H v u Q I r hw;obtain⟨a,xs,e1,hq,hl,hw⟩:=hw;subst e1;cases r;let⟨its,rv,ht,hz⟩:=I.tuple hq;refine assign_Tuple_tuple (I.ok.hd hc) ht (by simp[hn,<-hl,rv.length]) hst λh' hx=>?_;have I1:Inv X z5 J H {s with heap:=h'}:=I.kept (t':=s.toks) λb o e=>hx b o (jl (j9 e)) e;exact h z5 _ J H xs _ Q I1 (by simpa using rv) hw
def nT(to ti:TE)(t:ou):TG:=λv J H Q=>to J H λo H1=>ti J H1 λi H2=>t o i v H2 λH3=>Q J H3
def Ft{o i:Expr}{to ti:TE}{t:ou}(ho:PE X o to)(hi:PE X i ti)(hs:ox X t)
 (ha:∀v,assign (.Subscript o i pos) X.env v=(do
   let ov <-holding [v] (eval o X.env)
   let iv <-holding [v,ov] (eval i X.env)
   standAt pos
   holding [v,ov,iv] (setItem ov iv v)
   release [v,ov,iv] []):=by intro _;rfl):PG X (.Subscript o i pos) (nT to ti t):=by
 intro z5 s J H v u Q I r h;rw[ha];refine j6 (xu (bu (ho z5 s J H _ I h) λov s1 ⟨x,H1,I1,r1,q1⟩=>?_));refine j6 (xu (bu (hi z5 s1 J H1 _ I1 q1) λiv s2 ⟨y,H2,I2,r2,q2⟩=>?_));refine j6 (wpAny_standAt (j6 (xu (bu (hs z5 s2 J H2 x y v ov iv u _ I2 r1 r2 r q2) λ_ s3 ⟨H3,I3,q3⟩=>?_))));exact wpAny_release ⟨J,H3,I3,q3⟩
def fB(te:TE)(g:TG):TS:=λD J H=>te J H λx H1=>g x J H1 D.nx
def o5{tg e:Expr}{te:TE}{g:TG}(he:PE X e te)(hg:PG X tg g)(hs:swapsWithSole [tg] e pos.line X.env=pure false:=by rfl)(hw:swappedStores [tg] e X.env=pure none:=by rfl)
 (h1:(assignEach [tg] X.env).map (·.2)=[assign tg X.env]:=by rfl):PS X (.Assign [tg] e pos) (fB te g):=by
 intro z5 s J H D I h;refine wpAny_Assign_stores (bu (he z5 s J H _ I h) λv s1 ⟨x,H1,I1,r1,q1⟩=>?_) hs hw;rw[h1];exact bu (hg z5 s1 J H1 x v _ I1 r1 q1) λ_ s2 q=>q
def q0s{i:Nat}{x:Str}{e:Expr}{te:TE}{j3:Pos}(hN:X.N.Nodup)(hi:X.N[i]? =some x)(hx:kH X.env.scope x)(he:PE X e te)(hs:swapsWith e (some (.Name x j3)) pos.line X.env=pure false:=by rfl)(hf:X.fn x=true∨X.env.scope.names.lookup x=some .local:=by first|exact .inl rfl|exact .inr rfl|assumption):
 PS X (.Assign [.Name x j3] e pos) (fB te (gE i)):=by
 intro z5 s J H D I h;refine wpAny_Assign_Name (bu (he z5 s J H _ I h) λv s1 ⟨y,H1,I1,r1,q1⟩=>?_) hs;exact yO I1 hN hi hx r1 (λs2 I2=>⟨_,H1,I2,q1⟩) hf
def bD(i:Nat){x:Str}{e:Expr}{te:TE}{j3:Pos}(hN:X.N.Nodup)(he:PE X e te)(hi:X.N[i]? =some x:=by rfl)(hx:kH X.env.scope x:=by first|exact .inl rfl|exact .inr rfl)(hs:swapsWith e (some (.Name x j3)) pos.line X.env=pure false:=by rfl)(hf:X.fn x=true∨X.env.scope.names.lookup x=some .local:=by first|exact .inl rfl|exact .inr rfl|assumption): PS X (.Assign [.Name x j3] e pos) (fB te (gE i)):=q0s hN hi hx he hs hf
def FU(c:TT)(tb:TS):TS:=λD J H=>∃W:Nat->St->Hp->Prop,(∃m,W m J H)/\∀m J H,W m J H->
 c J H λb H1=>if b=true then∃N:St->Hp->Prop,(∀J' H',N J' H'->∃m',m'<m/\W m' J' H')/\tb {D with nx:=N,ct:=N,bk:=D.nx} J H1 else D.nx J H1
def Hd{c:Expr}{body:Zh}{tc:TT}{tb:TS}(hp:PassesOwn (model X.prog X.w) X.A X.env X.xe)(hc:PT X c tc)(hb:PSs X body tb):PS X (.While c body [] pos) (FU tc tb):=by
 intro z5 s J H D I h;obtain⟨W,⟨m0,w0⟩,turn⟩:=h;refine wpAny_While (codeAny_whileLoop (λn s'=>∃J' H',Inv X z5 J' H' s'/\W n J' H') ?_ m0 ⟨J,H,I,w0⟩);rintro n s1 ⟨J1,H1,I1,w1⟩;refine kf hp (bu (hc z5 s1 J1 H1 _ I1 (turn n J1 H1 w1)) λb s2 ⟨H2,I2,q2⟩=>?_);cases b with
 | true=>
  obtain⟨N,hN,q2⟩:=q2;rw[if_pos rfl];refine kf hp (bu (hb z5 s2 J1 H2 _ I2 q2) λf s3 q3=>?_);cases f with
  | next=>
   obtain⟨J3,H3,I3,n3⟩:=q3;let⟨m',hm,w3⟩:=hN J3 H3 n3;exact⟨m',hm,J3,H3,I3,w3⟩
  | cont=>
   obtain⟨J3,H3,I3,n3⟩:=q3;let⟨m',hm,w3⟩:=hN J3 H3 n3;exact⟨m',hm,J3,H3,I3,w3⟩
  |brk=>exact q3
  |ret v=>exact q3
 | false=>
  rw[if_neg Bool.false_ne_true];exact wpAny_execs_nil ⟨J1,H2,I2,q2⟩
end
structure It where
 go:Nat->Hp->Prop
 yld:Nat->Hp->V->Hp->Prop
 stop:Nat->Hp->Prop
def gD(X:Cx)(z5:Z3)(H:Hp)(b:Addr):Prop:=
 H b=none/\b≠X.env.locals/\b∉X.fs/\(b∈X.ex∨X.s₀.heap.objs.size<=b)/\(∀x c,X.env.cells.lookup x=some c->c≠b)/\∀p∈X.pn++z5,p.1≠b
def Inv.fpOk{X:Cx}{z5:Z3}{J:St}{H H':Hp}{s:Shared}{b:Addr}(I:Inv X z5 J H s)(hb:s.heap.objs.size<=b)(hn:H' b=none):gD X z5 H' b:=by
 refine⟨hn,Nat.ne_of_gt (jr I.lt hb),I.nofs hb,.inr (ju I.sz hb),λx c e z=>?_,λp hp z=>?_⟩
 .let⟨v,q⟩:=I.cell x c e;exact absurd (jr q.lt (by rw[z];exact hb)) (xf _)
 .exact absurd (jr (j9 (I.pin p hp).1) (by rw[z];exact hb)) (xf _)
structure Turn(P:Program)(w:World)(K:aq)(tg:Expr)(σ:It)(fp:List Addr)(it:Addr)(tn:Nat->Heap->Prop):Prop where
 mem:it∈fp
 obj:∀i h,tn i h->∀b∈fp,∃o,h.get? b=some o/\∀v,o.data≠.cell v
 keep:∀i h h',tn i h->(∀b∈fp,∀o,h.get? b=some o->h'.get? b=some o)->tn i h'
 item:∀(X:Cx),X.prog=P->X.w=w->X.K=K->X.calm=true->∀(i:Nat) (z5:Z3) (s:Shared) (J:St) (H:Hp) (E:Z0),Inv X z5 J H s->(∀b∈fp,gD X z5 H b)->tn i s.heap->σ.go i H->
  wpAny (model P w) X.A (pyNext (.ref it)) (λr s1=>∃u,r=some u/\
   wpAny (model P w) X.A (letOwnedTupleGo tg (.ref it) u) (λ_ s2=>∃x H',Inv X z5 J H' s2/\RelV x u/\σ.yld i H x H'/\tn (i+1) s2.heap/\∀b∈fp,H' b=none) E s1) E s
 done:∀(X:Cx),X.prog=P->X.w=w->X.K=K->X.calm=true->∀(i:Nat) (z5:Z3) (s:Shared) (J:St) (H:Hp) (E:Z0),Inv X z5 J H s->(∀b∈fp,gD X z5 H b)->tn i s.heap->σ.stop i H->
  wpAny (model P w) X.A (pyNext (.ref it)) (λr s1=>r=none/\Inv X z5 J H s1) E s
 self:∀(A:Around) (i:Nat) (s:Shared) (Q:Z0) (E:Z0),tn i s.heap->Q (.ref it) s->wpAny (model P w) A (pyIter (.ref it)) Q E s
abbrev TI:=St->Hp->(It->Hp->Prop)->Prop
def IP(X:Cx)(z5:Z3)(J:St)(tg:Expr)(R:It->Hp->Prop)(itv:Value)(s2:Shared):Prop:=
 ∃(it:Addr) (fp:List Addr) (tn:Nat->Heap->Prop) (σ:It) (H':Hp),itv=.ref it/\Inv X z5 J H' s2/\Turn X.prog X.w X.K tg σ fp it tn/\tn 0 s2.heap/\(∀b∈fp,gD X z5 H' b)/\R σ H'
def PI(X:Cx)(tg zd:Expr)(wi:TI):Prop:=
 ∀(z5:Z3) (s:Shared) (J:St) (H:Hp) (R:It->Hp->Prop),Inv X z5 J H s->wi J H R->
   wpAny (model X.prog X.w) X.A (eval zd X.env) (λv s1=>wpAny (model X.prog X.w) X.A (pyIter v) (IP X z5 J tg R) X.xe s1) X.xe s
def pL{ρ:Model}{A:Around}{E:Z0}{s:Shared}{tg:Expr}{it:Addr}{u:Value}{o:Obj}{n:String}{vs:Zd}{Q:Unit->Shared->Prop}(ho:s.heap.get? it=some o)(hc:o.cls=.type n)(hd:o.data=.fields vs)
 (hn:["enumerate","zip","dict_itemiterator","dict_reverseitemiterator","odict_iterator","itertools.zip_longest","itertools.pairwise"].contains n=false) (hQ:Q () s):wpAny ρ A (letOwnedTupleGo tg (.ref it) u) Q E s:=by
 unfold letOwnedTupleGo;cases tg<;>first
  |exact j8 hQ
  |(cases u<;>first
     |exact j8 hQ
     | (refine j6 (wpAny_load ho ?_)
        rw[hc,hd];show wpAny ρ A (if(["enumerate","zip","dict_itemiterator","dict_reverseitemiterator","odict_iterator","itertools.zip_longest","itertools.pairwise"].contains n&&vs[0]? ==some (rawInt _))=true then _ else _) Q E s;rw[if_neg (by intro h;rw[hn,Bool.false_and]at h;cases h)];exact j8 hQ))
noncomputable def zQ(K:aq)(a:Addr):It:=
 ⟨λi H=>∃xs x,SqL K H a xs/\xs[i]? =some x,λi H x H'=>H'=H/\∀xs,SqL K H a xs->xs[i]? =some x,λi H=>∃xs,SqL K H a xs/\xs.length<=i⟩
noncomputable def zP(K:aq)(a:Addr):It:=
 ⟨λi H=>∃xs x,SqT K H a xs/\xs[i]? =some x,λi H x H'=>H'=H/\∀xs,SqT K H a xs->xs[i]? =some x,λi H=>∃xs,SqT K H a xs/\xs.length<=i⟩
noncomputable def qQ(lo:Int)(n:Nat):It:=⟨λi _=>i<n,λi H x H'=>H'=H/\x=.int (lo+i),λi _=>n<=i⟩
def qft{P:Program}{w:World}{K:aq}{tg:Expr}(a it:Addr):Turn P w K tg (zQ K a) [it] it (λi h=>h.IsListIter it a i) where
 mem:=by simp
 obj:=λi h st b hb=>by
  have e:b=it:=by simpa using hb
  subst e;obtain⟨o,e,c,d⟩:=st;exact⟨o,e,λv z=>by rw[d]at z;cases z⟩
 keep:=λi h h' st k=>st.at λo e=>k it (by simp) o e
 item:=by intro X hP hw hK hc i z5 s J H E I hf st hg;subst hP hw hK;obtain⟨xs,x,hq,hx⟩:=hg;let⟨its,rv,p,hz⟩:=I.list hq;let⟨u,hu,ru⟩:=rv.get hx;let⟨f0,f1,f2,f3,f4,f5⟩:=hf it (by simp);refine wpAny_pyNext_list_item st p.isList (x:=u) (by simpa using hu) λh' st' sb=>?_;have I1:Inv X z5 J H {s with heap:=h'}:=I.turned (t':=s.toks) (λb o hb e=>(sb.2 b hb).trans e) f0 f1 f3 f4 f5;let⟨o,e,c,d⟩:=id st';exact⟨u,rfl,pL (s:={s with heap:=h'}) e c d (by decide) ⟨x,H,I1,ru,⟨rfl,λys hy=>by rw[I.list_inj hy hq];exact hx⟩,st',λb hb=>(hf b hb).1⟩⟩
 done:=by intro X hP hw hK hc i z5 s J H E I hf st hg;subst hP hw hK;obtain⟨xs,hq,hx⟩:=hg;let⟨its,rv,p,hz⟩:=I.list hq;let⟨f0,f1,f2,f3,f4,f5⟩:=hf it (by simp);have hl:=rv.length;exact wpAny_pyNext_list_end (I.ok.hd hc) st p.isList (by simp;omega) λh' eb=>⟨rfl,I.turned (t':=s.toks) (λb o hb e=>eb b o hb e) f0 f1 f3 f4 f5⟩
 self:=λ_ _ _ _ _ st h=>wpAny_pyIter_listiter st h
def qe7{P:Program}{w:World}{K:aq}{tg:Expr}(a it:Addr):Turn P w K tg (zP K a) [it] it (λi h=>h.IsTupleIter it a i) where
 mem:=by simp
 obj:=λi h st b hb=>by
  have e:b=it:=by simpa using hb
  subst e;obtain⟨o,e,c,d⟩:=st;exact⟨o,e,λv z=>by rw[d]at z;cases z⟩
 keep:=λi h h' st k=>st.at λo e=>k it (by simp) o e
 item:=by intro X hP hw hK hc i z5 s J H E I hf st hg;subst hP hw hK;obtain⟨xs,x,hq,hx⟩:=hg;let⟨its,rv,p,hz⟩:=I.tuple hq;let⟨u,hu,ru⟩:=rv.get hx;let⟨f0,f1,f2,f3,f4,f5⟩:=hf it (by simp);refine wpAny_pyNext_tuple_item st (show s.heap.IsTuple a its.toArray from p) (x:=u) (by simpa using hu) λh' st' sb=>?_;have I1:Inv X z5 J H {s with heap:=h'}:=I.turned (t':=s.toks) (λb o hb e=>(sb.2 b hb).trans e) f0 f1 f3 f4 f5;let⟨o,e,c,d⟩:=id st';exact⟨u,rfl,pL (s:={s with heap:=h'}) e c d (by decide) ⟨x,H,I1,ru,⟨rfl,λys hy=>by rw[I.tuple_inj hy hq];exact hx⟩,st',λb hb=>(hf b hb).1⟩⟩
 done:=by intro X hP hw hK hc i z5 s J H E I hf st hg;subst hP hw hK;obtain⟨xs,hq,hx⟩:=hg;let⟨its,rv,p,hz⟩:=I.tuple hq;let⟨f0,f1,f2,f3,f4,f5⟩:=hf it (by simp);have hl:=rv.length;exact wpAny_pyNext_tuple_end (I.ok.hd hc) st (show s.heap.IsTuple a its.toArray from p) (by simp;omega) λh' eb=>⟨rfl,I.turned (t':=s.toks) (λb o hb e=>eb b o hb e) f0 f1 f3 f4 f5⟩
 self:=λ_ _ _ _ _ st h=>wpAny_pyIter_tupleiter st h
def qe8{P:Program}{w:World}{K:aq}{tg:Expr}{it:Addr}(lo:Int)(n:Nat):Turn P w K tg (qQ lo n) [it] it (λi h=>IsRangeIter h it (lo+(i:Nat)*1) ((n:Int)-(i:Nat)) 1) where
 mem:=by simp
 obj:=λi h st b hb=>by
  have e:b=it:=by simpa using hb
  subst e;exact⟨_,st,λv z=>by have z':Data.fields _=Data.cell v:=z;cases z'⟩
 keep:=λi h h' st k=>k it (by simp) _ st
 item:=by intro X hP hw hK hc i z5 s J H E I hf st hg;subst hP hw hK;let⟨f0,f1,f2,f3,f4,f5⟩:=hf it (by simp);have W:=Walks.range (prog:=X.prog) (w:=X.w) (I.ok.hd hc) it lo 1 n;refine W.item i s _ _ hg st λv h' tk hv st' kk=>?_;obtain⟨t,rfl⟩:=hv;have I1:Inv X z5 J H {s with heap:=h',toks:=tk}:=I.turned (λb o hb e=>kk b o (by simpa using hb) e) f0 f1 f3 f4 f5;refine⟨_,rfl,pL (s:={s with heap:=h',toks:=tk}) (n:="range_iterator") st' rfl rfl (by decide) ⟨.int (lo+i),H,I1,⟨t,?_⟩,⟨rfl,rfl⟩,st',λb hb=>(hf b hb).1⟩⟩;rw[Int.mul_one]
 done:=by intro X hP hw hK hc i z5 s J H E I hf st hg;subst hP hw hK;let⟨f0,f1,f2,f3,f4,f5⟩:=hf it (by simp);exact wpAny_pyNext_range_end (I.ok.hd hc) st (by have:n<=i:=hg;omega) λh' eb=>⟨rfl,I.turned (t':=s.toks) (λb o hb e=>eb b o hb e) f0 f1 f3 f4 f5⟩
 self:=λ_ _ _ _ _ st h=>wpAny_pyIter_rangeiter st h
section
variable{X:Cx}{tg:Expr}
def vN(K:aq)(tl:TE):TI:=λJ H R=>tl J H λx H1=>∃a,x=.ref a/\(∃xs,SqL K H1 a xs)/\R (zQ K a) H1
def nS(K:aq)(tl:TE):TI:=λJ H R=>tl J H λx H1=>∃a,x=.ref a/\(∃xs,SqT K H1 a xs)/\R (zP K a) H1
def qpb{l:Expr}{tl:TE}(hl:PE X l tl):PI X tg l (vN X.K tl):=by
 intro z5 s J H R I h;refine bu (hl z5 s J H _ I h) λv s1 ⟨x,H1,I1,r1,q1⟩=>?_;obtain⟨a,e,⟨xs,hq⟩,q⟩:=q1;subst e;cases r1;let⟨its,rv,p,hz⟩:=I1.list hq;refine wpAny_pyIter_list p.isList ?_;refine⟨s1.heap.objs.size,[s1.heap.objs.size],_,_,H1,rfl,I1.kept (t':=s1.toks) λb o e=>ja _ e,qft a _,⟨_,jq _ rfl,rfl,rfl⟩,λb hb=>?_,q⟩;have e:b=s1.heap.objs.size:=by simpa using hb
 subst e;exact I1.fpOk (jc _) (I1.hok.fresh (jc _))
def qtl{l:Expr}{tl:TE}(hl:PE X l tl):PI X tg l (nS X.K tl):=by
 intro z5 s J H R I h;refine bu (hl z5 s J H _ I h) λv s1 ⟨x,H1,I1,r1,q1⟩=>?_;obtain⟨a,e,⟨xs,hq⟩,q⟩:=q1;subst e;cases r1;let⟨its,rv,p,hz⟩:=I1.tuple hq;refine wpAny_pyIter_tuple (show s1.heap.IsTuple a its.toArray from p) ?_;refine⟨s1.heap.objs.size,[s1.heap.objs.size],_,_,H1,rfl,I1.kept (t':=s1.toks) λb o e=>ja _ e,qe7 a _,⟨_,jq _ rfl,rfl,rfl⟩,λb hb=>?_,q⟩;have e:b=s1.heap.objs.size:=by simpa using hb
 subst e;exact I1.fpOk (jc _) (I1.hok.fresh (jc _))
def Hi{z5:Z3}{J:St}{H:Hp}{s:Shared}{R:It->Hp->Prop}{E:Z0}{lo hi:Int}{t u v:Tok}{tk:Nat}(I:Inv X z5 J H s)(h1: -(2^62)<=lo)(h2:lo<2^62)(h3: -(2^62)<=hi)(h4:hi<2^62)
 (q:R (qQ lo (hi-lo).toNat) H):wpAny (model X.prog X.w) X.A (pyIter (.ref s.heap.objs.size)) (IP X z5 J tg R) E {s with heap:=s.heap.push {cls:=.type "range",data:=.fields #[.int lo t,.int hi u,.int 1 v]},toks:=tk}:=by
 refine wpAny_pyIter_range (IsRange.new ..) (small_one h1 h2 h3 h4) ?_;have I1:Inv X z5 J H {s with heap:=s.heap.push {cls:=.type "range",data:=.fields #[.int lo t,.int hi u,.int 1 v]},toks:=tk}:=I.kept λb o e=>ja _ e;refine⟨(s.heap.push {cls:=.type "range",data:=.fields #[.int lo t,.int hi u,.int 1 v]}).objs.size,[(s.heap.push {cls:=.type "range",data:=.fields #[.int lo t,.int hi u,.int 1 v]}).objs.size],_,_,H,rfl,
  I1.kept (t':=tk) λb o e=>ja _ e,qe8 lo (hi-lo).toNat,?_,λb hb=>?_,q⟩
 .have e1:lo+((0:Nat):Int)*1=lo:=by simp
  have e2:(((hi-lo).toNat:Nat):Int)-((0:Nat):Int)=Builtin.Range.rangeSize lo hi 1:=by rw[rangeSize_one];split<;>omega
  show IsRangeIter _ _ (lo+((0:Nat):Int)*1) ((((hi-lo).toNat:Nat):Int)-((0:Nat):Int)) 1;rw[e1,e2];exact jq _ rfl
 .have e:b=(s.heap.push {cls:=.type "range",data:=.fields #[.int lo t,.int hi u,.int 1 v]}).objs.size:=by simpa using hb
  subst e;exact I1.fpOk (jc _) (I1.hok.fresh (jc _))
def DY(ta:TA):TI:=λJ H R=>ta J H λvs H1=>∃j:Int,vs=[.int j]/\ -(2^62)<=j/\j<2^62/\R (qQ 0 j.toNat) H1
def DZ(ta:TA):TI:=λJ H R=>ta J H λvs H1=>∃i j:Int,vs=[.int i,.int j]/\(-(2^62)<=i/\i<2^62/\ -(2^62)<=j/\j<2^62)/\R (qQ i (j-i).toNat) H1
def i8{a:Expr}{ta:TA}{p pos:Pos}(hg:Gl X "range")(hm:X.mg "range"=none)(ha:PA X [a] ta)(hs:starEach [a] X.env=[(false,eval a X.env)]:=by rfl):PI X tg (.Call (.Name "range" p) [a] [] pos) (DY ta):=by
 intro z5 s J H R I h;refine Call_ (ia I hg hm boot_range (PyProof.Rows.callWith_type1 (bu (ha pos z5 s J H _ I h) λus s1 ⟨vs,H1,I1,r1,q1⟩=>?_) hs rfl));obtain⟨j,e,q1,q2,q⟩:=q1;subst e;cases r1 with
 | cons r rr=>
  cases rr;obtain⟨t,rfl⟩:=r;exact call_range_1 (Hi I1 (by omega) (by omega) q1 q2 (by simpa using q))
def qhp{a b:Expr}{ta:TA}{p pos:Pos}(hg:Gl X "range")(hm:X.mg "range"=none)(ha:PA X [a,b] ta)(hs:starEach [a,b] X.env=[(false,eval a X.env),(false,eval b X.env)]:=by rfl)(hs2:starEach [b] X.env=[(false,eval b X.env)]:=by rfl):
 PI X tg (.Call (.Name "range" p) [a,b] [] pos) (DZ ta):=by
 intro z5 s J H R I h;refine Call_ (ia I hg hm boot_range (PyProof.Rows.callWith_type1 (bu (ha pos z5 s J H _ I h) λus s1 ⟨vs,H1,I1,r1,q1⟩=>?_) (by rw[hs,hs2]) (by rw[hs2];rfl)));obtain⟨i,j,e,⟨q1,q2,q3,q4⟩,q⟩:=q1;subst e;cases r1 with
 | cons r rr=>
  cases rr with
  | cons r' rr=>
   cases rr;obtain⟨t,rfl⟩:=r;obtain⟨t',rfl⟩:=r';exact call_range_2 (Hi I1 q1 q2 q3 q4 q)
def nj(wi:TI)(g:TG)(tb:TS):TS:=λD J H=>wi J H λσ H1=>∃W:Nat->Nat->St->Hp->Prop,(∃m,W 0 m J H1)/\∀i m J H,W i m J H->
 (σ.stop i H/\D.nx J H)∨(σ.go i H/\∃N:St->Hp->Prop,(∀J' H',N J' H'->∃m',m'<m/\W (i+1) m' J' H')/\∀x H',σ.yld i H x H'->g x J H' λJ2 H2=>tb {D with nx:=N,ct:=N,bk:=D.nx} J2 H2)
noncomputable def qk(fp:List Addr)(h:Heap):List (Addr×Obj):=fp.filterMap λb=>(h.get? b).map λo=>(b,o)
def ux{fp:List Addr}{h:Heap}{b:Addr}{o:Obj}(hb:b∈fp)(e:h.get? b=some o):(b,o)∈qk fp h:=List.mem_filterMap.mpr ⟨b,hb,by rw[e];rfl⟩
def qi9{fp:List Addr}{h:Heap}{p:Addr×Obj}(hp:p∈qk fp h):p.1∈fp/\h.get? p.1=some p.2:=by
 let⟨b,hb,e⟩:=List.mem_filterMap.mp hp;cases q:h.get? b with
 |none=>rw[q]at e;cases e
 | some o=>
  rw[q]at e;have e':(b,o)=p:=jg e;subst e';exact⟨hb,q⟩
def Inv.pinned{z5:Z3}{J:St}{H:Hp}{s:Shared}{fp:List Addr}(I:Inv X z5 J H s)(hf:∀b∈fp,gD X z5 H b)(ho:∀b∈fp,∃o,s.heap.get? b=some o/\∀v,o.data≠.cell v):Inv X (z5++qk fp s.heap) J H s:=
 I.pins_of λp hp=>(List.mem_append.mp hp).elim (λz=>I.pin p (x6 _ z)) λz=>by let⟨hb,e⟩:=qi9 z;let⟨f0,f1,f2,_⟩:=hf p.1 hb;let⟨o,e',d⟩:=ho p.1 hb;rw[e]at e';cases e';exact⟨e,f0,f1,f2,d⟩
def Inv.unpinned{z5 pl:Z3}{J:St}{H:Hp}{s:Shared}(I:Inv X (z5++pl) J H s):Inv X z5 J H s:=I.pins_of λp hp=>I.pin p (x6 _ (List.mem_append_left _ hp))
def fF{zd:Expr}{body:Zh}{wi:TI}{g:TG}{tb:TS}{pos:Pos}(hp:PassesOwn (model X.prog X.w) X.A X.env X.xe)(hc:X.calm=true)(hi:PI X tg zd wi)(hg:PG X tg g)(hb:PSs X body tb)
 (hs:∀x,foldedSetIterable zd X.env x=pure x:=by intro _;rfl):PS X (.For tg zd body [] pos) (nj wi g tb):=by
 intro z5 s J H D I h;refine wpAny_For (bu (hi z5 s J H _ I h) λv s1 h1=>bu h1 λitv s2 h2=>?_) hs;obtain⟨it,fp,tn,σ,H2,e,I2,T,st2,f2,W,⟨m0,w0⟩,turn⟩:=h2;subst e
 -- what stays true of the iterator's objects through the loop
 have stat:∀{H':Hp},(∀b∈fp,H' b=none)->∀b∈fp,gD X z5 H' b:=λhn b hb=>⟨hn b hb,(f2 b hb).2⟩;refine codeAny_forLoop_any (λn s'=>∃i J' H',Inv X z5 J' H' s'/\tn i s'.heap/\(∀b∈fp,H' b=none)/\W i n J' H') ?_ m0 ⟨0,J,H2,I2,st2,λb hb=>(f2 b hb).1,w0⟩;rintro n s3 ⟨i,J3,H3,I3,st3,fr3,w3⟩;rcases turn i n J3 H3 w3 with⟨stop,qn⟩|⟨go,N,hN,step⟩
 .refine kf hp (bu (T.done X rfl rfl rfl hc i z5 s3 J3 H3 X.xe I3 (stat fr3) st3 stop) λr s4 ⟨hr,I4⟩=>?_);subst hr;exact wpAny_execs_nil ⟨J3,H3,I4,qn⟩
 .refine kf hp (bu (T.item X rfl rfl rfl hc i z5 s3 J3 H3 X.xe I3 (stat fr3) st3 go) λr s4 ⟨u,hr,h4⟩=>?_);subst hr;refine kf hp (bu h4 λ_ s5 ⟨x,H5,I5,r5,y5,st5,fr5⟩=>?_);have I5':=I5.pinned (stat fr5) (T.obj _ _ st5);refine kf hp (bu (hg _ s5 J3 H5 x u _ I5' r5 (step x H5 y5)) λ_ s6 ⟨J6,H6,I6,q6⟩=>?_);refine kf hp (bu (hb _ s6 J6 H6 _ I6 q6) λf s7 q7=>?_);have again:∀{J7:St} {H7:Hp},Inv X (z5++qk fp s5.heap) J7 H7 s7->N J7 H7->∃m,m<n/\∃i J' H',Inv X z5 J' H' s7/\tn i s7.heap/\(∀b∈fp,H' b=none)/\W i m J' H':=λ{J7 H7} I7 n7=>by
   let⟨m',hm,w7⟩:=hN J7 H7 n7;refine⟨m',hm,i+1,J7,H7,I7.unpinned,T.keep _ _ _ st5 λb hb o e=>(I7.pin (b,o) (x6 _ (x6 _ (ux hb e)))).1,λb hb=>?_,w7⟩;let⟨o,e,d⟩:=T.obj _ _ st5 b hb;exact(I7.pin (b,o) (x6 _ (x6 _ (ux hb e)))).2.1
  cases f with
  |next=>obtain⟨J7,H7,I7,n7⟩:=q7;exact again I7 n7
  |cont=>obtain⟨J7,H7,I7,n7⟩:=q7;exact again I7 n7
  |brk=>obtain⟨J7,H7,I7,q7⟩:=q7;exact⟨J7,H7,I7.unpinned,q7⟩
  |ret v=>obtain⟨x7,J7,H7,I7,r7,q7⟩:=q7;exact⟨x7,J7,H7,I7.unpinned,r7,q7⟩
end
abbrev R2:=V->V->Hp->VK->Prop
def OpR(X:Cx)(f:Value->Value->Sem Value)(r:R2):Prop:=
 ∀(z5:Z3) (s:Shared) (J:St) (H:Hp) (x y:V) (v u:Value) (Q:VK),Inv X z5 J H s->RelV x v->RelV y u->r x y H Q->
   wpAny (model X.prog X.w) X.A (f v u) (EP X z5 J Q) X.xe s
def zN(X:Cx)(f:Value->Sem Value)(r:V->Hp->VK->Prop):Prop:=
 ∀(z5:Z3) (s:Shared) (J:St) (H:Hp) (x:V) (v:Value) (Q:VK),Inv X z5 J H s->RelV x v->r x H Q->
   wpAny (model X.prog X.w) X.A (f v) (EP X z5 J Q) X.xe s
def gf(X:Cx)(f:Value)(r:List V->Hp->VK->Prop):Prop:=
 ∀(z5:Z3) (s:Shared) (J:St) (H:Hp) (xs:List V) (us:Ze) (Q:VK),Inv X z5 J H s->Vals xs us->r xs H Q->
   wpAny (model X.prog X.w) X.A (call f us) (EP X z5 J Q) X.xe s
def jU(r:R2)(ta tb:TE):TE:=λJ H Q=>ta J H λx H1=>tb J H1 λy H2=>r x y H2 Q
def DK(r:V->Hp->VK->Prop)(ta:TE):TE:=λJ H Q=>ta J H λx H1=>r x H1 Q
def rI(C:Int->Int->Prop)(g:Int->Int->V):R2:=λx y H Q=>∃i j,x=.int i/\y=.int j/\C i j/\Q (g i j) H
def gK(g:Int->Int->V):R2:=λx y H Q=>∃i j,x=.int i/\y=.int j/\Q (g i j) H
def rU(g:Int->V):V->Hp->VK->Prop:=λx H Q=>∃i,x=.int i/\Q (g i) H
section
variable{X:Cx}{a b c:Expr}{ta tb tc:TE}{pos:Pos}
def nZ(ha:PE X a ta)(hb:PE X b tb){z5:Z3}{s:Shared}{J:St}{H:Hp}{R:V->V->Hp->Prop}(I:Inv X z5 J H s)
 (h:ta J H λx H1=>tb J H1 λy H2=>R x y H2) {Q:Z0} {f:Value->Value->Sem Value}
 (hf:∀v u s2 x y H2,Inv X z5 J H2 s2->RelV x v->RelV y u->R x y H2->wpAny (model X.prog X.w) X.A (f v u) Q X.xe s2):
 wpAny (model X.prog X.w) X.A (eval a X.env) (λv s₁=>wpAny (model X.prog X.w) X.A (eval b X.env) (λu s₂=>wpAny (model X.prog X.w) X.A (f v u) Q X.xe s₂) X.xe s₁) X.xe s:=by
 refine bu (ha z5 s J H _ I h) λv s1 ⟨x,H1,I1,r1,q1⟩=>?_;refine bu (hb z5 s1 J H1 _ I1 q1) λu s2 ⟨y,H2,I2,r2,q2⟩=>?_;exact hf v u s2 x y H2 I2 r1 r2 q2
def bc{op:Operator}{r:R2}(ho:OpR X (binaryOp op) r)(ha:PE X a ta)(hb:PE X b tb):PE X (.BinOp a op b pos) (jU r ta tb):=by intro z5 s J H Q I h;exact wpAny_BinOp (nZ ha hb I h λv u s2 x y H2 I2 rx ry q=>ho z5 s2 J H2 x y v u Q I2 rx ry q)
def vW{op:UnaryOp}{r:V->Hp->VK->Prop}(ho:zN X (unaryOp op) r)(ha:PE X a ta):PE X (.UnaryOp op a pos) (DK r ta):=by intro z5 s J H Q I h;exact UnaryOp_ (bu (ha z5 s J H _ I h) λv s1 ⟨x,H1,I1,r1,q1⟩=>ho z5 s1 J H1 x v Q I1 r1 q1)
def qK{f:Value->Value->Sem Value}{C:Int->Int->Prop}{g:Int->Int->Int}
 (rule:∀(i j:Int) (t u:Tok) (s:Shared) (Q:Z0) (E:Z0),C i j->Q (.int (g i j) s.toks) {s with toks:=s.toks+1}->wpAny (model X.prog X.w) X.A (f (.int i t) (.int j u)) Q E s):
 OpR X f (rI C λi j=>.int (g i j)):=by
 intro z5 s J H x y v u Q I rx ry h;obtain⟨i,j,rfl,rfl,hc,q⟩:=h;obtain⟨t,rfl⟩:=rx;obtain⟨t',rfl⟩:=ry;exact rule i j t t' s _ _ hc ⟨.int (g i j),H,I.tok _,⟨_,rfl⟩,q⟩
def lQ{f:Value->Value->Sem Value}{g:Int->Int->Int}
 (rule:∀(i j:Int) (t u:Tok) (s:Shared) (Q:Z0) (E:Z0),Q (.int (g i j) s.toks) {s with toks:=s.toks+1}->wpAny (model X.prog X.w) X.A (f (.int i t) (.int j u)) Q E s):
 OpR X f (gK λi j=>.int (g i j)):=by
 intro z5 s J H x y v u Q I rx ry h;obtain⟨i,j,rfl,rfl,q⟩:=h;obtain⟨t,rfl⟩:=rx;obtain⟨t',rfl⟩:=ry;exact rule i j t t' s _ _ ⟨.int (g i j),H,I.tok _,⟨_,rfl⟩,q⟩
def nQ{f:Value->Value->Sem Value}{g:Int->Int->Bool}
 (rule:∀(i j:Int) (t u:Tok) (s:Shared) (Q:Z0) (E:Z0),Q (.bool (g i j)) s->wpAny (model X.prog X.w) X.A (f (.int i t) (.int j u)) Q E s):
 OpR X f (gK λi j=>.bl (g i j)):=by
 intro z5 s J H x y v u Q I rx ry h;obtain⟨i,j,rfl,rfl,q⟩:=h;obtain⟨t,rfl⟩:=rx;obtain⟨t',rfl⟩:=ry;exact rule i j t t' s _ _ ⟨.bl (g i j),H,I,rfl,q⟩
def rX(i j:Int):Prop:=0<j/\j<1073741824
def lZ(i j:Int):Prop:=0<=j/\j<=1000000/\i.natAbs<2^64
def CMul(i j:Int):Prop:=(-(2^64)<i/\i<2^64)∨(-(2^64)<j/\j<2^64)
def CMul.ok{i j:Int}(h:CMul i j):IntMulOk i j:=by
 rcases h with⟨h1,h2⟩|⟨h1,h2⟩
 .exact .of_left (intBits_le_64 h1 h2)
 .exact .of_right (intBits_le_64 h1 h2)
def op_add:OpR X (binaryOp .Add) (gK λi j=>.int (i+j)):=lQ λ_ _ _ _ _ _ _ q=>add_int q
def qj:OpR X (binaryOp .Sub) (gK λi j=>.int (i-j)):=lQ λ_ _ _ _ _ _ _ q=>sub_int q
def mZ:OpR X (binaryOp .FloorDiv) (rI rX λi j=>.int (i / j)):=qK λi j _ _ _ _ _ hc q=>by have h1:(0:Int)<j:=hc.1;have h2:j<1073741824:=hc.2;exact floordiv_int (by omega) (by rw[Int.fdiv_eq_ediv_of_nonneg i (by omega)];exact q) (.inl (PyProof.noPylong_small (by omega)))
def fw:OpR X (binaryOp .Mod) (rI (λ_ j=>0<j) λi j=>.int (i % j)):=qK λi j _ _ _ _ _ hc q=>by have h1:(0:Int)<j:=hc;exact mod_int' (by omega) (by rw[Int.fmod_eq_emod_of_nonneg i (by omega)];exact q)
def tJ:OpR X (binaryOp .Pow) (rI lZ λi j=>.int (i^j.toNat)):=qK λ_ _ _ _ _ _ _ hc q=>pow_int_small hc.1 hc.2.1 hc.2.2 q
def oZ:OpR X (binaryOp .LShift) (rI lZ λi j=>.int (i*2^j.toNat)):=qK λ_ _ _ _ _ _ _ hc q=>lshift_int_small hc.1 hc.2.1 hc.2.2 q
def wN:OpR X (binaryOp .BitAnd) (gK λi j=>.int (Builtin.bitAnd i j)):=lQ λ_ _ _ _ _ _ _ q=>and_int q
def qtv:OpR X (binaryOp .BitXor) (gK λi j=>.int (Builtin.bitXor i j)):=lQ λ_ _ _ _ _ _ _ q=>xor_int q
def unI{f:Value->Sem Value}{g:Int->Int}
 (rule:∀(i:Int) (t:Tok) (s:Shared) (Q:Z0) (E:Z0),Q (.int (g i) s.toks) {s with toks:=s.toks+1}->wpAny (model X.prog X.w) X.A (f (.int i t)) Q E s):
 zN X f (rU λi=>.int (g i)):=by
 intro z5 s J H x v Q I rx h;obtain⟨i,rfl,q⟩:=h;obtain⟨t,rfl⟩:=rx;exact rule i t s _ _ ⟨.int (g i),H,I.tok _,⟨_,rfl⟩,q⟩
def yc:zN X (unaryOp .USub) (rU λi=>.int (-i)):=unI λ_ _ _ _ _ q=>neg_int q
def E2{z5:Z3}{J:St}{H:Hp}{s:Shared}{Q:VK}{k k':Bool}(I:Inv X z5 J H s)(q:Q (.bl k) H)(e:k=k'):EP X z5 J Q (.bool k') s:=by subst e;exact⟨.bl k,H,I,rfl,q⟩
def sP:OpR X (compareOp .Lt) (gK λi j=>.bl (decide (i<j))):=nQ λ_ _ _ _ _ _ _ q=>lt_int q
def Eh:OpR X (compareOp .LtE) (gK λi j=>.bl (decide (i<=j))):=nQ λ_ _ _ _ _ _ _ q=>le_int q
def sO:OpR X (compareOp .Gt) (gK λi j=>.bl (decide (j<i))):=nQ λ_ _ _ _ _ _ _ q=>gt_int q
def tI:OpR X (compareOp .Is) (λx y H Q=>y=.non/\Q (.bl (decide (x=.non))) H):=by
 intro z5 s J H x y v u Q I rx ry h;obtain⟨rfl,q⟩:=h;cases ry;refine is_none_gen (E2 I q ?_);cases x<;>first
  |(cases rx;rfl)
  |(obtain⟨t,rfl⟩:=rx;rfl)
def yn:OpR X (compareOp .IsNot) (λx y H Q=>y=.non/\Q (.bl (!decide (x=.non))) H):=by
 intro z5 s J H x y v u Q I rx ry h;obtain⟨rfl,q⟩:=h;cases ry;refine isnot_none_gen (E2 I q ?_);cases x<;>first
  |(cases rx;rfl)
  |(obtain⟨t,rfl⟩:=rx;rfl)
def OpR.or{f:Value->Value->Sem Value}{r r':R2}(h:OpR X f r)(h':OpR X f r'):OpR X f (λx y H Q=>r x y H Q∨r' x y H Q):=by
 intro z5 s J H x y v u Q I rx ry q;rcases q with q|q
 .exact h z5 s J H x y v u Q I rx ry q
 .exact h' z5 s J H x y v u Q I rx ry q
def cu{b:Expr}{op:CmpOp}(h:op≠.In:=by decide)(h2:op≠.NotIn:=by decide):behindInMarks op b=false:=by
 have e1:(op==CmpOp.In)=false:=by cases op<;>first|rfl|exact absurd rfl h
 have e2:(op==CmpOp.NotIn)=false:=by cases op<;>first|rfl|exact absurd rfl h2
 cases b<;>simp[behindInMarks,e1,e2]
def yq{op:CmpOp}{r:R2}(ho:OpR X (compareOp op) r)(ha:PE X a ta)(hb:PE X b tb)(hm:behindInMarks op b=false):PE X (.Compare a [op] [b] pos) (jU r ta tb):=by intro z5 s J H Q I h;exact wpAny_Compare1 (nZ ha hb I h λv u s2 x y H2 I2 rx ry q=>ho z5 s2 J H2 x y v u Q I2 rx ry q) hm
def ED(t:TE):TT:=λJ H Q=>t J H λx H'=>∃k,x=.bl k/\Q k H'
def cA{op:CmpOp}{r:R2}(ho:OpR X (compareOp op) r)(ha:PE X a ta)(hb:PE X b tb)(hm:behindInMarks op b=false):PT X (.Compare a [op] [b] pos) (ED (jU r ta tb)):=by
 intro z5 s J H Q I h;refine wpAny_isTrue_Compare1 (bu (ha z5 s J H _ I h) λv s1 ⟨x,H1,I1,r1,q1⟩=>bu (hb z5 s1 J H1 _ I1 q1) λu s2 ⟨y,H2,I2,r2,q2⟩=>
  bu (ho z5 s2 J H2 x y v u _ I2 r1 r2 q2) λc s3 ⟨z,H3,I3,r3,k,e,q3⟩=>?_) hm
 subst e;cases r3;exact ke ⟨H3,I3,q3⟩
def FN(r r':R2)(ta tb tc:TE):TE:=λJ H Q=>ta J H λx H1=>tb J H1 λy H2=>r x y H2 λz H3=>∃k,z=.bl k/\
 (if k=true then tc J H3 λw' H4=>r' y w' H4 Q else Q (.bl false) H3)
def qkx{op op':CmpOp}{r r':R2}(ho:OpR X (compareOp op) r)(ho':OpR X (compareOp op') r')(ha:PE X a ta)(hb:PE X b tb)(hc:PE X c tc)
 (hm:lastMarks [op,op'] [b,c]=false:=by with_unfolding_all rfl):PE X (.Compare a [op,op'] [b,c] pos) (FN r r' ta tb tc):=by
 intro z5 s J H Q I h;refine Compare_chain (bu (ha z5 s J H _ I h) λv s1 ⟨x,H1,I1,r1,q1⟩=>chain_link (bu (hb z5 s1 J H1 _ I1 q1) λu s2 ⟨y,H2,I2,r2,q2⟩=>
  bu (ho z5 s2 J H2 x y v u _ I2 r1 r2 q2) λd s3 ⟨z,H3,I3,r3,k,e,q3⟩=>?_)) hm
 subst e;cases r3;refine ke ?_;cases k with
 |false=>exact ite_ff ⟨.bl false,H3,I3,rfl,q3⟩
 |true=>exact ite_tt (chain_last (bu (hc z5 s3 J H3 _ I3 q3) λw' s4 ⟨z',H4,I4,r4,q4⟩=>ho' z5 s4 J H4 y z' u w' Q I4 r2 r4 q4))
def qf:(sizeLine:Nat)<2^63:=by rw[xy];decide
def qer:OpR X (binaryOp .Add) (λx y H Q=>∃i j,x=.str i/\y=.str j/\i.length+j.length<=sizeLine/\Q (.str (i++j)) H):=by intro z5 s J H x y v u Q I rx ry h;obtain⟨i,j,rfl,rfl,hz,q⟩:=h;obtain⟨t,rfl⟩:=rx;obtain⟨t',rfl⟩:=ry;exact add_str (λt' tk=>⟨.str (i++j),H,I.tok _,⟨_,rfl⟩,q⟩) hz
def cH{x:V}{us:Ze}(r:Vals [x] us):∃u,us=[u]/\RelV x u:=by
 cases r with
 |cons r1 r2=>cases r2;exact⟨_,rfl,r1⟩
def fJ{x y:V}{us:Ze}(r:Vals [x,y] us):∃u w',us=[u,w']/\RelV x u/\RelV y w':=by
 cases r with
 | cons r1 r2=>
  cases r2 with
  |cons r3 r4=>cases r4;exact⟨_,_,rfl,r1,r3⟩
def Hy(hc:X.calm=true):gf X (.builtin "max") (λxs H Q=>∃i j,xs=[.int i,.int j]/\Q (.int (if j>i then j else i)) H):=by
 intro z5 s J H xs us Q I r h;obtain⟨i,j,rfl,q⟩:=h;obtain⟨u,w',rfl,⟨t,rfl⟩,⟨t',rfl⟩⟩:=fJ r;refine max_two_ints (I.ok.hd hc) λh' tk k=>⟨_,H,I.kept k,?_,q⟩;by_cases hj:j>i
 .rw[if_pos hj,if_pos hj];exact⟨_,rfl⟩
 .rw[if_neg hj,if_neg hj];exact⟨_,rfl⟩
def Hz(hc:X.calm=true):gf X (.builtin "min") (λxs H Q=>∃i j,xs=[.int i,.int j]/\Q (.int (if j<i then j else i)) H):=by
 intro z5 s J H xs us Q I r h;obtain⟨i,j,rfl,q⟩:=h;obtain⟨u,w',rfl,⟨t,rfl⟩,⟨t',rfl⟩⟩:=fJ r;refine min_two_ints (I.ok.hd hc) λh' tk k=>⟨_,H,I.kept k,?_,q⟩;by_cases hj:j<i
 .rw[if_pos hj,if_pos hj];exact⟨_,rfl⟩
 .rw[if_neg hj,if_neg hj];exact⟨_,rfl⟩
def Hx:gf X (.type "int") (λxs H Q=>(∃i,xs=[.int i]/\Q (.int i) H)∨∃k,xs=[.bl k]/\Q (.int (if k then 1 else 0)) H):=by
 intro z5 s J H xs us Q I r h;rcases h with⟨i,rfl,q⟩|⟨k,rfl,q⟩
 .obtain⟨u,rfl,t,rfl⟩:=cH r;exact call_int_int ⟨.int i,H,I,⟨_,rfl⟩,q⟩
 .obtain⟨u,rfl,r1⟩:=cH r;cases r1;exact call_int_bool ⟨.int (if k then 1 else 0),H,I.tok _,⟨_,rfl⟩,q⟩
end
structure ObjM(h:Heap)(x dx C:Addr)(mA:Za):Prop where
 obj:h.get? x=some (W.instObj C dx)
 ns:h.Ns1 dx mA
 ne:dx≠x
def qiv{h:Heap}{dx:Addr}{mA:Za}(n:h.Ns1 dx mA):∃od,h.get? dx=some od/\∀name,W.lookIn name od=some (mA name):=by
 obtain⟨o,es,ep,ho,hd,hk,_,hm⟩:=n;refine⟨o,ho,λname=>?_⟩;have e:=hm name;unfold nsFind findBy at e;rw[<-Array.find?_toList]at e;unfold W.lookIn;rw[hd];dsimp only;split
 .rename_i y q;rw[q]at e;exact congrArg some e
 .rename_i q;rw[q]at e;have a:es.toList.any (·.refKey)=false:=by
   rw[List.any_eq_false];intro y hy;let⟨z,t,hkey⟩:=hk y (Array.mem_toList_iff.mp hy);simp[DictEntry.refKey,hkey]
  have a':¬es.toList.any (·.refKey)=true:=by rw[a];exact Bool.false_ne_true
  rw[if_neg a'];exact congrArg some e
def ObjM.look{h:Heap}{x dx C:Addr}{mA:Za}(I:ObjM h x dx C mA):∃od,W.InstAt h x (W.instObj C dx) C (some od)/\∀name,W.lookIn name od=some (mA name):=
 let ⟨od,ho,hl⟩:=qiv I.ns
 ⟨od,⟨I.obj,rfl,rfl,ho⟩,hl⟩
section
variable{prog:Program}{w:World}{A:Around}{E:Z0}{s:Shared}{K:aq}{x dx C f:Addr}{mA:Za}{name:Str}{v:Value}
def ma{expr:Bool}{Q:Z0}(X:K.In s.heap)(I:ObjM s.heap x dx C mA)(hg:W.plainGet K C name=true)(hh:W.hasDictIn K C=true)
 (ha:W.findIn K (.ref C) name=some none) (hv:mA name=some v) (hv':W.handedIn v=true) (h:Q v {s with toks:=s.toks+1}):
 wpAny (model prog w) A (getAttr (.ref x) name expr) Q E s:=by
 obtain⟨od,σ,hl⟩:=I.look;exact W.get_value X σ (W.plainGet_of hg).1 (W.findObj_own hh ha rfl (by rw[hl,hv])) hv' h
def qlr{pl:Sem Bool}{Q:Value×List Value->Shared->Prop}(X:K.In s.heap)(I:ObjM s.heap x dx C mA)(hg:W.plainGet K C name=true)
 (hf:W.findIn K (.ref C) name=some (some (.ref f))) (ht:W.isFn K (.ref f)=true) (hv:mA name=none) (h:Q (.ref f,[.ref x]) s):
 wpAny (model prog w) A (getMethod (.ref x) name pl) Q E s:=by
 obtain⟨od,σ,hl⟩:=I.look;exact W.method_fn X σ (W.plainGet_of hg).1 (W.plainGet_of hg).2 hf (beq_iff_eq.mp ht) (by show(W.lookIn name od).map (·.isSome)=some false;rw[hl,hv];rfl) h
def qp3{ns:Zj}{Q:Unit->Shared->Prop}(X:K.In s.heap)(I:ObjM s.heap x dx C mA)
 (hs:W.findIn K (.ref C) "__setattr__"=some (some (.builtin "object.__setattr__"))) (hp:W.plainOver K C=true) (ht:W.takerIn K C name=some none) (hh:W.hasDictIn K C=true)
 (hw:PySem.Within mA ns) (hsz:ns.length<=sizeLine)
 (h:∀h',ObjM h' x dx C (λy=>if y=name then some v else mA y)->Heap.SameBut dx s.heap h'->Q () {s with heap:=h',toks:=s.toks+2}):
 wpAny (model prog w) A (setAttr (.ref x) name v) Q E s:=by
 obtain⟨od,σ,hl⟩:=I.look;refine W.set_plain X σ hs (W.osa_open (s:={s with toks:=s.toks+1}) (r:=none) X σ hp ht λb=>?_);let⟨cd,hc,hd'⟩:=W.any_some hh;have hx:s.heap.get? x=some ⟨.ref C,some dx,.plain,#[]⟩:=I.obj;refine j6 (j8 (j6 (j6 (wpAny_loadPart hx (j6 (W.Looks.here (s:={s with toks:=s.toks+1}) (W.looks_clsIn X hc) ?_))))));rw[hd'];refine j8 (a:=some dx) (j6 (j8 (j6 ?_)));refine wpAny_nsSet1 (s:={s with toks:=s.toks+1}) I.ns λh' hn2 hs2=>?_;let⟨oD,esD,epD,hoD,hdD,hcD⟩:=hn2.count (PySem.Within.cons name v hw);refine j6 (wpAny_lookBehind hoD (by rw[hdD];exact pastItsLine_dict (ju hcD (by rw[jt];omega))) ?_);exact j8 (h _ ⟨(hs2.2 _ (Ne.symm I.ne)).trans I.obj,hn2,I.ne⟩ hs2)
def qlg{R:Zb}{vs:Ze}{kw:List (Str×Value)}(X:K.In s.heap)(hm:W.makesIn K C=true)
 (hi:W.findIn K (.ref C) "__init__"=some (some (.ref f))) (hf:W.typeIn K (.ref f)=some (.type "function"))
 (h:codeAny (model prog w) (A.under (.builtin "type.__call__" ⟨.ref C::vs,kw⟩)) (.call (.ref f) ⟨.ref (s.heap.objs.size+1)::vs,kw⟩) (W.InitBack (s.heap.objs.size+1) R)
   {s with heap:=(s.heap.push W.emptyDict).push (W.instObj C s.heap.objs.size)}):
 codeAny (model prog w) A (.call (.ref C) ⟨vs,kw⟩) R s:=by
 obtain⟨hh,g,d,t,os⟩:=s;exact W.make_core (W.makes_of X hm) (W.looks_findIn X hi) (λself=>W.bind_fn X self hf) (.inl rfl) h
def qip{R:Zb}(X:K.In s.heap)(hm:W.makesIn K C=true)
 (hi:W.findIn K (.ref C) "__init__"=some (some (.builtin "object.__init__")))
 (hb:∀self,W.Looks (model prog w) s.heap (bindSpecial (.builtin "object.__init__") self) (.builtin "object.__init__",[self]))
 (h:codeAny (model prog w) (A.under (.builtin "type.__call__" ⟨[.ref C],[]⟩)) (.call (.builtin "object.__init__") ⟨[.ref (s.heap.objs.size+1)],[]⟩) (W.InitBack (s.heap.objs.size+1) R)
   {s with heap:=(s.heap.push W.emptyDict).push (W.instObj C s.heap.objs.size)}):
 codeAny (model prog w) A (.call (.ref C) ⟨[],[]⟩) R s:=by
 obtain⟨hh,g,d,t,os⟩:=s;exact W.make_core (W.makes_of X hm) (W.looks_findIn X hi) hb (.inr ⟨rfl,rfl⟩) h
end
noncomputable def c5(f:Str)(v:V):List (Str×V)->List (Str×V)
 |[]=>[(f,v)]
 |(g,x)::r=>if g=f then(g,v)::r else(g,x)::c5 f v r
theorem Iz(f g:Str)(v:V):∀fs:List (Str×V),(c5 f v fs).lookup g=if g=f then some v else fs.lookup g
 | []=>by
  show List.lookup g [(f,v)]=_;by_cases h:g=f
  .have hb:(g==f)=true:=beq_iff_eq.mpr h;simp only[List.lookup,hb,if_pos h]
  .have hb:(g==f)=false:=beq_eq_false_iff_ne.mpr h;simp only[List.lookup,hb,if_neg h]
 | (k,x)::r=>by
  have ih:=Iz f g v r;rw[show c5 f v ((k,x)::r)=(if k=f then(k,v)::r else(k,x)::c5 f v r)from rfl];by_cases hk:k=f
  .rw[if_pos hk];by_cases h:g=k
   .have hb:(g==k)=true:=beq_iff_eq.mpr h;simp only[List.lookup,hb,if_pos (h.trans hk)]
   .have hb:(g==k)=false:=beq_eq_false_iff_ne.mpr h;simp only[List.lookup,hb,if_neg (λe:g=f=>h (e.trans hk.symm))]
  .rw[if_neg hk];by_cases h:g=k
   .have hb:(g==k)=true:=beq_iff_eq.mpr h;simp only[List.lookup,hb,if_neg (λe:g=f=>hk (h.symm.trans e))]
   .have hb:(g==k)=false:=beq_eq_false_iff_ne.mpr h;simp only[List.lookup,hb];exact ih
theorem yV(f:Str)(v:V):∀fs:List (Str×V),f∈(c5 f v fs).map (·.1)/\∀g,g∈fs.map (·.1)->g∈(c5 f v fs).map (·.1)
 |[]=>⟨by simp[c5],λg h=>by simp at h⟩
 | (k,x)::r=>by
  let⟨i1,i2⟩:=yV f v r;rw[show c5 f v ((k,x)::r)=(if k=f then(k,v)::r else(k,x)::c5 f v r)from rfl];by_cases hk:k=f
  .rw[if_pos hk];subst hk;exact⟨by simp,λg h=>by simpa using h⟩
  .rw[if_neg hk];refine⟨?_,λg h=>?_⟩
   .rw[jz];exact jd _ i1
   .rw[jz]at h ⊢;rcases List.mem_cons.mp h with e|e
    .exact List.mem_cons.mpr (.inl e)
    .exact jd _ (i2 g e)
theorem Iy(f:Str)(v:V):∀fs:List (Str×V),(c5 f v fs).length<=fs.length+1
 |[]=>by simp[c5]
 | (k,x)::r=>by
  have ih:=Iy f v r;rw[show c5 f v ((k,x)::r)=(if k=f then(k,v)::r else(k,x)::c5 f v r)from rfl];by_cases hk:k=f
  .rw[if_pos hk,jt,jt];omega
  .rw[if_neg hk,jt,jt];omega
def RelO.some_of{v:V}{o:Option Value}(r:RelO (some v) o):∃u,o=some u/\RelV v u:=by
 cases o with
 |none=>exact(show False from r).elim
 |some u=>exact⟨u,rfl,r⟩
def RelO.none_of{o:Option Value}(r:RelO none o):o=none:=by
 cases o with
 |none=>rfl
 |some u=>exact(show False from r).elim
def qj5{v:V}{u:Value}(r:RelV v u):W.handedIn u=true:=by
 cases v with
 |non=>cases(show u=Value.none from r);rfl
 |bl b=>cases(show u=Value.bool b from r);rfl
 |int i=>let⟨t,e⟩:=(show∃t,u=Value.int i t from r);cases e;rfl
 |str x=>let⟨t,e⟩:=(show∃t,u=Value.str x t from r);cases e;rfl
 |byt b=>let⟨t,e⟩:=(show∃t,u=Value.bytes b t from r);cases e;rfl
 |flt b=>let⟨t,e⟩:=(show∃t,u=Value.float b t from r);cases e;rfl
 |ref a=>cases(show u=Value.ref a from r);rfl
 |ty n=>cases(show u=Value.type n from r);rfl
section
variable{P:Program}{w:World}{H H':Hp}{h h':Heap}{a C dx:Addr}{fs fs':List (Str×V)}
def tV(hok:HOk P w H h)(e:H a=some (.ins C dx fs)):∃mA,ObjM h a dx C mA/\(∀f,RelO (fs.lookup f) (mA f))/\PySem.Within mA (fs.map (·.1))/\fs.length<=1000/\H dx=some (.own a):=by let⟨d,z,ne,ob,mA,n,r,q⟩:=(show ObjOk P w H h a (.ins C dx fs)from hok a _ e);exact⟨mA,⟨ob,n,ne⟩,r,q,z,d⟩
end
structure Cls(K:aq)(C:Addr):Prop where
 pg:W.plainGet K C Str.empty=true
 hd:W.hasDictIn K C=true
 po:W.plainOver K C=true
 sa:W.findIn K (.ref C) "__setattr__"=some (some (.builtin "object.__setattr__"))
def Cls.get{K:aq}{C:Addr}(c:Cls K C)(f:Str):W.plainGet K C f=true:=c.pg
def NoAttr(K:aq)(C:Addr)(f:Str):Prop:=W.findIn K (.ref C) f=some none
def NoAttr.taker{K:aq}{C:Addr}{f:Str}(n:NoAttr K C f):W.takerIn K C f=some none:=by unfold W.takerIn;rw[show W.findIn K (.ref C) f=some none from n];rfl
structure Con(K:aq)(C:Addr)(f:Str)(v:V)(u:Value):Prop where
 at_:W.findIn K (.ref C) f=some (some u)
 rel:RelV v u
 get:W.specialIn K u "__get__"=some none
 cp:W.copiedNames.contains f=false
structure Meth(K:aq)(C:Addr)(m:Str)(f:Addr):Prop where
 at_:W.findIn K (.ref C) m=some (some (.ref f))
 fn:W.isFn K (.ref f)=true
 kp:W.keepIn K (.ref f)=true
section
variable{X:Cx}{z5:Z3}{J:St}{H:Hp}{s:Shared}{a C dx:Addr}{fs:List (Str×V)}{f:Str}{v:V}{A:Around}{E:Z0}
def qf4{b:Bool}{Q:Z0}(I:Inv X z5 J H s)(e:H a=some (.ins C dx fs))(c:Cls X.K C)(n:NoAttr X.K C f)(l:fs.lookup f=some v)
 (h:∀u s',Inv X z5 J H s'->RelV v u->Q u s'):wpAny (model X.prog X.w) A (getAttr (.ref a) f b) Q E s:=by
 let⟨mA,O,r,_,_,_⟩:=tV I.hok e;let⟨u,hu,ru⟩:=RelO.some_of (v:=v) (o:=mA f) (by rw[<-l];exact r f);exact ma I.kIn O (c.get f) c.hd n hu (qj5 ru) (h u _ (I.tok _) ru)
def qf3{m:Str}{g:Addr}{pl:Sem Bool}{Q:Value×List Value->Shared->Prop}(I:Inv X z5 J H s)(e:H a=some (.ins C dx fs))(c:Cls X.K C)(k:Meth X.K C m g)(l:fs.lookup m=none)
 (h:Q (.ref g,[.ref a]) s):wpAny (model X.prog X.w) A (getMethod (.ref a) m pl) Q E s:=by
 let⟨mA,O,r,_,_,_⟩:=tV I.hok e;have hn:mA m=none:=RelO.none_of (by rw[<-l];exact r m);exact qlr I.kIn O (c.get m) k.at_ k.fn hn h
def qed{y:V}{u:Value}{Q:Unit->Shared->Prop}(I:Inv X z5 J H s)(e:H a=some (.ins C dx fs))(c:Cls X.K C)(n:NoAttr X.K C f)(hl:fs.length<1000)(ry:RelV y u)
 (h:∀s',Inv X z5 J (aT H a (.ins C dx (c5 f y fs))) s'->Q () s'):wpAny (model X.prog X.w) A (setAttr (.ref a) f u) Q E s:=by
 let⟨mA,O,r,wi,_,ho⟩:=tV I.hok e;have hz:(fs.map (·.1)).length<=sizeLine:=by rw[j7,xy];omega
 refine qp3 I.kIn O c.sa c.po n.taker c.hd wi hz λh' O' sb=>h _ ?_;have hd:∃o,h'.get? dx=some o:=let ⟨o,_,_,e',_⟩:=O'.ns;⟨o,e'⟩
 refine I.write (x:=a) (e:=dx) (by rw[e];exact True.intro) (.inr ho) (λb q hb z=>(sb.2 b hb).trans z) hd ?_;refine⟨by rw[bf O.ne];exact ho,?_,O.ne,O'.obj,_,O'.ns,λg=>?_,λg hg=>?_⟩
 .have:=Iy f y fs;omega
 .show RelO ((c5 f y fs).lookup g) (if g=f then some u else mA g);rw[Iz];by_cases q:g=f
  .rw[if_pos q,if_pos q];exact ry
  .rw[if_neg q,if_neg q];exact r g
 .by_cases q:g=f
  .rw[q];exact(yV f y fs).1
  .refine(yV f y fs).2 g (wi g λz=>hg ?_);show(if g=f then some u else mA g)=none;rw[if_neg q];exact z
def Inv.made(I:Inv X z5 J H s):Inv X z5 J (aT (aT H s.heap.objs.size (.own (s.heap.objs.size+1))) (s.heap.objs.size+1) (.ins C s.heap.objs.size []))
 {s with heap:=(s.heap.push W.emptyDict).push (W.instObj C s.heap.objs.size)}:=by
 have e1:(s.heap.push W.emptyDict).get? s.heap.objs.size=some W.emptyDict:=jq s.heap rfl;have e2:((s.heap.push W.emptyDict).push (W.instObj C s.heap.objs.size)).get? (s.heap.objs.size+1)=some (W.instObj C s.heap.objs.size):=by
  have:=jq (s.heap.push W.emptyDict) (o:=W.instObj C s.heap.objs.size) rfl
  rwa [xj]at this
 have e3:(s.heap.push W.emptyDict).Ns s.heap.objs.size (λ_=>none):=⟨W.emptyDict,#[],_,e1,rfl,(λe he=>absurd he (by simp)),λ_=>rfl⟩;have I1:=I.laid (a:=s.heap.objs.size) (o:=.own (s.heap.objs.size+1)) (h':=s.heap.push W.emptyDict) (t':=s.toks) (λb u q=>ja _ q) (jc _) ⟨_,e1⟩;refine I1.laid (a:=s.heap.objs.size+1) (o:=.ins C s.heap.objs.size []) (t':=s.toks) (λb u q=>ja _ q) (Nat.le_of_eq (xj _ _)) ?_;have ne:s.heap.objs.size≠s.heap.objs.size+1:=jl (Nat.lt_succ_self _);refine⟨by rw[bf ne,cT],Nat.zero_le _,ne,e2,λ_=>none,(Heap.Ns1.of_empty e3).at λo q=>ja _ q,λ_=>True.intro,λy hy=>absurd rfl hy⟩
def qrx{prog:Program}{w:World}{env:Env}{e:Expr}{f:Str}{pos:Pos}{s:Shared}{Q:Z0}(hb:attributeBase e f env (eval e env)=eval e env)
 (h:wpAny (model prog w) A (eval e env) (λo s₁=>wpAny (model prog w) A (getAttr o f true) Q E s₁) E s):wpAny (model prog w) A (eval (.Attribute e f pos) env) Q E s:=
 Attribute_any_ h (by rw[arm_eval_Attribute,hb])
end
def nq(K:aq)(ta:TE)(f:Str):TE:=λJ H Q=>ta J H λx H1=>∃a C dx fs v,x=.ref a/\H1 a=some (.ins C dx fs)/\Cls K C/\NoAttr K C f/\fs.lookup f=some v/\Q v H1
def As(K:aq)(ta tv:TE)(f:Str):TS:=λD J H=>tv J H λy H1=>ta J H1 λx H2=>∃a C dx fs,x=.ref a/\H2 a=some (.ins C dx fs)/\Cls K C/\NoAttr K C f/\fs.length<1000/\
 D.nx J (aT H2 a (.ins C dx (c5 f y fs)))
section
variable{X:Cx}{o e value:Expr}{f:Str}{pos j3 tpos:Pos}{ta tv:TE}
def qtq(he:PE X e ta)(hb:attributeBase e f X.env (eval e X.env)=eval e X.env):PE X (.Attribute e f pos) (nq X.K ta f):=by intro z5 s J H Q I h;refine qrx hb (bu (he z5 s J H _ I h) λu s1 ⟨x,H1,I1,rx,a,C,dx,fs,v,ex,ea,c,n,l,q⟩=>?_);subst ex;obtain rfl:u=Value.ref a:=rx;exact qf4 I1 ea c n l λu' s2 I2 ru=>⟨v,H1,I2,ru,q⟩
def wR(ha:PE X o ta)(hv:PE X value tv)(hs:swapsWith value (some (.Attribute o f j3)) pos.line X.env=pure false):PS X (.Assign [.Attribute o f j3] value pos) (As X.K ta tv f):=by intro z5 s J H D I h;refine plainObj_wpAny_Assign_Attribute (bu (hv z5 s J H _ I h) λu s1 ⟨y,H1,I1,ry,q⟩=>bu (ha z5 s1 J H1 _ I1 q) λov s2 ⟨x,H2,I2,rx,a,C,dx,fs,ex,ea,c,n,l,q2⟩=>?_) hs;subst ex;obtain rfl:ov=Value.ref a:=rx;exact qed I2 ea c n l ry λs3 I3=>⟨J,_,I3,q2⟩
end
section
variable{X:Cx}{z5:Z3}{J:St}{H:Hp}{s:Shared}{A:Around}{E:Z0}{Q:Z0}{c:Value}{b:Bool}
inductive TyOf(K:aq)(H:Hp):V->Value->Prop where
 |non:TyOf K H .non (.type "NoneType")
 |bl (x:Bool):TyOf K H (.bl x) (.type "bool")
 |int (i:Int):TyOf K H (.int i) (.type "int")
 |str (x:Str):TyOf K H (.str x) (.type "str")
 |flt (x:UInt64):TyOf K H (.flt x) (.type "float")
 |lst {a:Addr} {xs:List V} (e:H a=some (.lst xs)):TyOf K H (.ref a) (.type "list")
 |frz {a:Addr} {o:Obj} {xs:List V} (e:H a=some (.frz o (.lst xs))):TyOf K H (.ref a) (.type "list")
 |tup {a:Addr} {xs:List V} (e:H a=some (.tup xs)):TyOf K H (.ref a) (.type "tuple")
 |dK {a:Addr} {kvs:List (bI×V)} (e:H a=some (.dK kvs)):TyOf K H (.ref a) (.type "dict")
 |dT {a:Addr} {kvs:List (List bI×V)} (e:H a=some (.dT kvs)):TyOf K H (.ref a) (.type "dict")
 |ins {a C dx:Addr} {fs:List (Str×V)} (e:H a=some (.ins C dx fs)) (cl:Cls K C) (ha:W.findIn K (.ref C) "__class__"=some (some (.builtin "object.__class__")))
  (hn:W.specialIn K (.builtin "object.__class__") "__get__"=some (some (.builtin "getset_descriptor.__get__"))) (htk:W.takesIn K (.builtin "object.__class__")=some true)
  (hm:W.mroIn K C (.type "object")=some true):TyOf K H (.ref a) (.ref C)
def qj1{x:V}{u t:Value}(I:Inv X z5 J H s)(rx:RelV x u)(ty:TyOf X.K H x t)(e:W.kitOne X.K t c=some b)(h:∀tk,Q (.bool b) {s with toks:=tk}):
 wpAny (model X.prog X.w) A (call (.builtin "isinstance") [u,c]) Q E s:=by
 cases ty with
 |non=>cases(show u=Value.none from rx);exact W.kia_one W.kitx_none I.kIn True.intro e (λz=>nomatch z) h
 |bl y=>cases(show u=Value.bool y from rx);exact W.kia_one W.kitx_bool I.kIn True.intro e (λz=>nomatch z) h
 |int i=>let⟨t,q⟩:=(show∃t,u=Value.int i t from rx);cases q;exact W.kia_one W.kitx_int I.kIn True.intro e (λz=>nomatch z) h
 |str y=>let⟨t,q⟩:=(show∃t,u=Value.str y t from rx);cases q;exact W.kia_one W.kitx_str I.kIn True.intro e (λz=>nomatch z) h
 |flt y=>let⟨t,q⟩:=(show∃t,u=Value.float y t from rx);cases q;exact W.kia_one W.kitx_float I.kIn True.intro e (λz=>nomatch z) h
 | @lst a xs ea=>
  cases(show u=Value.ref a from rx);let⟨_,_,n,_,h1⟩:=(show ObjOk X.prog X.w H s.heap a (.lst xs)from I.hok a _ ea);exact W.kia_one W.kitx_list I.kIn ⟨_,h1,rfl⟩ e (λz=>nomatch z) h
 | @frz a ob xs ea=>
  cases(show u=Value.ref a from rx);let⟨_,_,_,n,_,h1⟩:=(show ObjOk X.prog X.w H s.heap a (.frz ob (.lst xs))from I.hok a _ ea);exact W.kia_one W.kitx_list I.kIn ⟨_,h1,rfl⟩ e (λz=>nomatch z) h
 | @tup a xs ea=>
  cases(show u=Value.ref a from rx);let⟨_,_,_,p⟩:=(show ObjOk X.prog X.w H s.heap a (.tup xs)from I.hok a _ ea);obtain⟨o,h1,⟨h2,_⟩,_⟩:=p;exact W.kia_one W.kitx_tuple I.kIn ⟨o,h1,h2⟩ e (λz=>nomatch z) h
 | @dK a kvs ea=>
  cases(show u=Value.ref a from rx);let⟨_,_,vs,_,p⟩:=(show ObjOk X.prog X.w H s.heap a (.dK kvs)from I.hok a _ ea);obtain⟨o,es,h1,h2,_⟩:=p;exact W.kia_one W.kitx_dict I.kIn ⟨o,h1,h2.1⟩ e (λz=>nomatch z) h
 | @dT a kvs ea=>
  cases(show u=Value.ref a from rx);let⟨_,_,xs,_,o,es,ep,h1,h2,_⟩:=(show ObjOk X.prog X.w H s.heap a (.dT kvs)from I.hok a _ ea);exact W.kia_one W.kitx_dict I.kIn ⟨o,h1,h2.1⟩ e (λz=>nomatch z) h
 | @ins a C dx fs ea cl ha hn htk hm=>
  cases(show u=Value.ref a from rx);let⟨mA,O,_⟩:=tV I.hok ea;obtain⟨od,σ,_⟩:=O.look;exact W.kia_one (W.kitx_own (cl.get _) cl.hd ha hn htk hm) I.kIn σ e (λz=>nomatch z) h
end
structure Room(k:Nat)(A:Around):Prop where
 hd:A.handled=none
 dp:A.depth+3*k+5<recursionLimit
 un:A.units+16*k+200<cLine
def Room.mono{j k:Nat}{A:Around}(r:Room k A)(h:j<=k):Room j A:=⟨r.hd,by have:=r.dp;omega,by have:=r.un;omega⟩
def Room.m{j k:Nat}{A:Around}(r:Room k A)(h:j<=k:=by decide):Room j A:=r.mono h
def Room.deeper{k:Nat}{A:Around}(r:Room (k+1) A)(env:Env):Room k (A.deeper env):=
 ⟨r.hd,by have:=r.dp;show A.depth+1+3*k+5<_;omega,by have:=r.un;show A.units+3+16*k+200<_;omega⟩
def Room.in1{k:Nat}{A:Around}(r:Room (k+1) A):Room k A.in1:=
 ⟨r.hd,by have:=r.dp;show A.depth+3*k+5<_;omega,by have:=r.un;show A.units+1+16*k+200<_;omega⟩
def qex{A:Around}{C:Addr}{us:Ze}{kw:List (Str×Value)}:(A.under (.builtin "type.__call__" ⟨.ref C::us,kw⟩)).depth=A.depth+1:=by first|rfl|simp[Around.under,Code.weight,Code.isCreation,Code.isGuard,Code.isCaller,Code.frames,Code.isFrame,guardIds]
def qew{A:Around}{C:Addr}{us:Ze}{kw:List (Str×Value)}:(A.under (.builtin "type.__call__" ⟨.ref C::us,kw⟩)).units=A.units+1:=by first|rfl|simp[Around.under,Code.cUnits,Code.frames,Code.isFrame]
def Room.make{k:Nat}{A:Around}(r:Room (k+1) A)(C:Addr)(us:Ze)(kw:List (Str×Value)):Room k (A.under (.builtin "type.__call__" ⟨.ref C::us,kw⟩)):=
 ⟨r.hd,by have:=r.dp;rw[qex];omega,by have:=r.un;rw[qew];omega⟩
def Room.depth{k:Nat}{A:Around}(r:Room k A):A.depth<recursionLimit:=by have:=r.dp;omega
def Room.units{k:Nat}{A:Around}(r:Room k A):A.units+64<cLine:=by have:=r.un;omega
def gv:TA:=λ_ H Q=>Q [] H
def kN(ta:TE)(tr:TA):TA:=λJ H Q=>ta J H λx H1=>tr J H1 λxs H2=>Q (x::xs) H2
section
variable{X:Cx}{e:Expr}{es:Zi}{te:TE}{t:TA}{pos:Pos}
def av:PA X [] gv:=λ_ _ _ _ H Q I h=>Calls.spliced_nil ⟨[],H,I,.nil,h⟩
def aj(ha:PE X e te)(hr:PA X es t)(hs:starEach (e::es) X.env=(false,eval e X.env)::starEach es X.env:=by rfl):PA X (e::es) (kN te t):=by intro pos z5 s J H Q I h;rw[hs];show wpAny _ _ (spliced ((false,eval e X.env)::backTo pos (starEach es X.env))) _ _ s;refine ku (bu (ha z5 s J H _ I h) λu s1 ⟨x,H1,I1,r1,q1⟩=>?_);exact bu (hr pos z5 s1 J H1 _ I1 q1) λus s2 ⟨xs,H2,I2,r2,q2⟩=>⟨x::xs,H2,I2,.cons r1 r2,q2⟩
def qY(t:TA):TE:=λJ H Q=>t J H λxs H1=>xs.length<=sizeLine/\∀p,H1 p=none->Q (.ref p) (aT H1 p (.tup xs))
def ni(t:TA):TE:=λJ H Q=>t J H λxs H1=>xs.length<=sizeLine/\∀p,H1 p=none->Q (.ref p) (aT H1 p (.lst xs))
def f6{x1}(h:PA X es t):PE X (.Tuple es x1 pos) (qY t):=by intro z5 s J H Q I hq;refine wpAny_Tuple_spliced (bu (h pos z5 s J H _ I hq) λus s1 ⟨xs,H1,I1,r,z,q⟩=>⟨by rw[<-r.length];exact z,?_⟩);have hf:H1 s1.heap.objs.size=none:=I1.hok.fresh (jc _);refine⟨.ref s1.heap.objs.size,aT H1 s1.heap.objs.size (.tup xs),I1.laid (t':=s1.toks) (λb u e=>ja _ e) (jc _) ?_,rfl,q _ hf⟩;exact⟨z,us,r,⟨_,jq _ rfl,⟨rfl,_,rfl⟩,rfl⟩⟩
def d8(h:PA X es t):PE X (.List es pos) (ni t):=by intro z5 s J H Q I hq;refine wpAny_List_spliced (bu (h pos z5 s J H _ I hq) λus s1 ⟨xs,H1,I1,r,z,q⟩=>⟨by rw[<-r.length];exact z,?_⟩);have hf:H1 s1.heap.objs.size=none:=I1.hok.fresh (jc _);refine⟨.ref s1.heap.objs.size,aT H1 s1.heap.objs.size (.lst xs),I1.laid (t':=s1.toks) (λb u e=>ja _ e) (jc _) ?_,rfl,q _ hf⟩;exact⟨z,us,0,r,jq _ rfl⟩
end
abbrev Sp:=List V->Hp->VK->XK->Prop
abbrev io:=List Env->Hp->Shared->XK->Value->Shared->Prop
structure Env0(P:Program)(w:World)(K:aq)(mg:Za)(base:Heap)(A:Around)(outer:List Env)(s:Shared)(H:Hp):Prop where
 frames:A.frames=some outer
 mod:Mod K mg base
 bs:∀b o,base.get? b=some o->s.heap.get? b=some o/\H b=none
 bsz:base.objs.size<=s.heap.objs.size
 funs:s.heap.FunFrames base outer
 frf:∀b∈gT outer,H b=none
 hok:HOk P w H s.heap
 bare:AllBare s.gens
def CE(outer:List Env)(P:Program)(w:World)(H:Hp)(s:Shared)(Q:VK)(u:Value)(s':Shared):Prop:=
 ∃v H',s'.os=s.os/\AllBare s'.gens/\Un (gT outer) [] H H' s.heap s'.heap/\HOk P w H' s'.heap/\RelV v u/\Q v H'
def CR(CX:io)(outer:List Env)(P:Program)(w:World)(H:Hp)(s:Shared)(Q:VK)(E:XK)(r:Result)(s':Shared):Prop:=
 match r with
 |.ok (.ret u)=>CE outer P w H s Q u s'
 |.ok _=>False
 |.error e=>CX outer H s E e s'
structure FnOk(P:Program)(w:World)(K:aq)(mg:Za)(base:Heap)(CX:io)(k:Nat)(f:Addr)(fd:FuncData)(ps:Zj)(sp:Sp):Prop where
 len:∀vs H Q E,sp vs H Q E->vs.length=ps.length
 run:∀(A:Around) (outer:List Env) (s:Shared) (H:Hp) (args:Args) (us:Ze) (vs:List V) (Q:VK) (E:XK),Room k A->Env0 P w K mg base A outer s H->BindsTo s fd args (ps.zip us)->Vals vs us->sp vs H Q E->
  codeAny (model P w) A (.call (.ref f) args) (CR CX outer P w H s Q E) s
def FnOk.mono{P:Program}{w:World}{K:aq}{mg:Za}{base:Heap}{CX:io}{j k:Nat}{f:Addr}{fd:FuncData}{ps:Zj}{sp:Sp}(F:FnOk P w K mg base CX j f fd ps sp)(h:j<=k):
 FnOk P w K mg base CX k f fd ps sp:=⟨F.len,λA outer s H args us vs Q E hr=>F.run A outer s H args us vs Q E (hr.mono h)⟩
def FnOk.imp{P:Program}{w:World}{K:aq}{mg:Za}{base:Heap}{CX:io}{k:Nat}{f:Addr}{fd:FuncData}{ps:Zj}{sp sp':Sp}(F:FnOk P w K mg base CX k f fd ps sp)
 (h:∀vs H Q E,sp' vs H Q E->sp vs H Q E):FnOk P w K mg base CX k f fd ps sp':=
 ⟨λvs H Q E q=>F.len vs H Q E (h _ _ _ _ q),λA outer s H args us vs Q E hr he hb hv hs=>F.run A outer s H args us vs Q E hr he hb hv (h _ _ _ _ hs)⟩
def Env0.make{P:Program}{w:World}{K:aq}{mg:Za}{base:Heap}{A:Around}{outer:List Env}{s:Shared}{H:Hp}(e:Env0 P w K mg base A outer s H)(C:Addr)(us:Ze)(kw:List (Str×Value)):
 Env0 P w K mg base (A.under (.builtin "type.__call__" ⟨.ref C::us,kw⟩)) outer s H:=⟨by first|exact e.frames|(simpa[Around.under,Code.envs,Code.isFrame,pushEnvs]using e.frames),e.mod,e.bs,e.bsz,e.funs,e.frf,e.hok,e.bare⟩
def Env0.in1{P:Program}{w:World}{K:aq}{mg:Za}{base:Heap}{A:Around}{outer:List Env}{s:Shared}{H:Hp}(e:Env0 P w K mg base A outer s H):
 Env0 P w K mg base A.in1 outer s H:=⟨e.frames,e.mod,e.bs,e.bsz,e.funs,e.frf,e.hok,e.bare⟩
section
variable{X:Cx}{z5:Z3}{J:St}{H:Hp}{s s':Shared}
def Inv.env0(I:Inv X z5 J H s):Env0 X.prog X.w X.K X.mg X.base X.A X.stack s H:=
 ⟨I.ok.frames,I.ok.mod,I.bs,ju I.ok.bsz I.sz,I.stack,I.stkFree,I.hok,I.bare⟩
def Inv.after{Q:VK}{u:Value}(I:Inv X z5 J H s)(h:CE X.stack X.prog X.w H s Q u s'):EP X z5 J Q u s':=by obtain⟨v,H',os,bare,un,hok,r,q⟩:=h;obtain⟨hh,g,d,t,os'⟩:=s';obtain rfl:os'=s.os:=os;exact⟨v,H',I.call (h':=hh) (g':=g) (d':=d) (t':=t) (ch:=[]) un hok bare (λb z=>absurd z (by simp)),r,q⟩
end
def oI(sp:Sp)(dvs:List V)(E:XK)(t:TA):TE:=λJ H Q=>t J H λvs H1=>sp (vs++dvs) H1 Q E
def Ey(C:Addr)(m:Str)(sp:Sp)(dvs:List V)(E:XK)(ta:TE)(t:TA):TE:=λJ H Q=>ta J H λx H1=>∃a dx fs,x=.ref a/\H1 a=some (.ins C dx fs)/\fs.lookup m=none/\
 t J H1 λvs H2=>sp (x::(vs++dvs)) H2 Q E
def Ex(C:Addr)(sp:Sp)(dvs:List V)(E:XK)(t:TA):TE:=λJ H Q=>t J H λvs H1=>∀x dx,H1 x=none->H1 dx=none->dx≠x->
 sp (.ref x::(vs++dvs)) (aT (aT H1 dx (.own x)) x (.ins C dx [])) (λv H2=>v=.non/\Q (.ref x) H2) E
def Binds(K:aq)(fd:FuncData)(ps:Zj)(ds:Ze):Prop:=
 ∀(s:Shared) (us:Ze),K.In s.heap->(us++ds).length=ps.length->BindsTo s fd ⟨us,[]⟩ (ps.zip (us++ds))
def Binds.all{K:aq}{fd:FuncData}{ps:Zj}(h:∀us:List Value,us.length=ps.length->bindArgs fd ⟨us,[]⟩=pure (ps.zip us)):Binds K fd ps []:=λs us _ hl=>by rw[List.append_nil]at hl ⊢;exact .of_eq (h us hl)
def oU(CX:io)(X:Cx)(E:XK):Prop:=∀(z5:Z3) (J:St) (H:Hp) (s:Shared) (e:Value) (s':Shared),Inv X z5 J H s->CX X.stack H s E e s'->X.xe e s'
section
variable{X:Cx}{CX:io}{k:Nat}{f C:Addr}{fd:FuncData}{ps:Zj}{sp:Sp}{dvs:List V}{ds:Ze}{E:XK}{x m:Str}{p pos zu:Pos}{e o:Expr}{es:Zi}{ta:TE}{t:TA}
def Fz{z5:Z3}{J:St}{H:Hp}{s:Shared}{Q:VK}{us:Ze}{vs:List V}(F:FnOk X.prog X.w X.K X.mg X.base CX k f fd ps sp)(hr:Room k X.A)(hb:Binds X.K fd ps ds)(hd:Vals dvs ds)(hx:oU CX X E)
 (I:Inv X z5 J H s) (r:Vals vs us) (h:sp (vs++dvs) H Q E):wpAny (model X.prog X.w) X.A (call (.ref f) us) (EP X z5 J Q) X.xe s:=by
 have r2:Vals (vs++dvs) (us++ds):=r.append hd;have hl:(us++ds).length=ps.length:=by rw[<-r2.length];exact F.len _ _ _ _ h
 refine wpAny_call (codeAny_mono (F.run X.A X.stack s H ⟨us,[]⟩ (us++ds) (vs++dvs) Q E hr I.env0 (hb s us I.kIn hl) r2 h) λr s' hq=>?_);cases r with
 |error e=>exact hx z5 J H s e s' I hq
 | ok fl=>
  cases fl with
  |ret u=>exact I.after hq
  |next=>exact False.elim hq
  |brk=>exact False.elim hq
  |cont=>exact False.elim hq
def zL(F:FnOk X.prog X.w X.K X.mg X.base CX k f fd ps sp)(hr:Room k X.A)(hg:Gl X x)(hm:X.mg x=some (.ref f))(hk:W.keepIn X.K (.ref f)=true)(hb:Binds X.K fd ps ds)(hd:Vals dvs ds)(hx:oU CX X E)
 (ha:PA X (e::es) t) (hdb:(x==("__debug__":Str))=false:=by decide) (he:starEach (e::es) X.env=(false,eval e X.env)::starEach es X.env:=by rfl) (hpl:(backTo pos (starEach es X.env)).any (·.1)=false:=by rfl):
 PE X (.Call (.Name x p) (e::es) [] pos) (oI sp dvs E t):=by
 intro z5 s J H Q I h;refine xq (yk I hg hm ?_ hdb);refine W.callWith_K (h₀:=X.base) I.ok.mod.kin hk (bu (ha pos z5 s J H _ I h) λus s1 ⟨vs,H1,I1,r,q⟩=>⟨I1.kIn,?_⟩) he hpl;exact Fz F hr hb hd hx I1 r q
def yt{pl:Sem Bool}(he:PE X o ta)(c:Cls X.K C)(hm:Meth X.K C m f)(F:FnOk X.prog X.w X.K X.mg X.base CX k f fd ps sp)(hr:Room k X.A)(hb:Binds X.K fd ps ds)(hd:Vals dvs ds)(hx:oU CX X E)(ha:PA X (e::es) t)
 (hst:starEach (e::es) X.env=(false,eval e X.env)::starEach es X.env:=by rfl) (hpl:(backTo pos (starEach es X.env)).any (·.1)=false:=by rfl)
 (ht:eval (.Call (.Attribute o m zu) (e::es) [] pos) X.env=(do
   let ov <-eval o X.env
   standAt zu.atName
   let (f,first) <-holding [ov] (getMethod ov m pl)
   callWith pos f first (backTo pos (starEach (e::es) X.env)) (backToKw pos (keywordEach [] X.env))):=by rfl):
 PE X (.Call (.Attribute o m zu) (e::es) [] pos) (Ey C m sp dvs E ta t):=by
 intro z5 s J H Q I h;refine W.methodCall_KW (pl:=pl) (bu (he z5 s J H _ I h) λu s1 ⟨x,H1,I1,rx,a,dx,fs,ex,ea,l,q⟩=>?_) ht;subst ex;obtain rfl:u=Value.ref a:=rx;refine qf3 I1 ea c hm l ?_;refine W.callWith_K (first:=[.ref a]) (h₀:=X.base) I.ok.mod.kin hm.kp (bu (ha pos z5 s1 J H1 _ I1 q) λus s2 ⟨vs,H2,I2,r,q2⟩=>⟨I2.kIn,?_⟩) hst hpl;exact Fz (us:=.ref a::us) (vs:=.ref a::vs) F hr hb hd hx I2 (.cons rfl r) q2
structure Mk(K:aq)(C f:Addr):Prop where
 makes:W.makesIn K C=true
 init:W.findIn K (.ref C) "__init__"=some (some (.ref f))
 fn:W.isFn K (.ref f)=true
 kp:W.keepIn K (.ref C)=true
def qkq{z5:Z3}{J:St}{H:Hp}{s:Shared}{Q:VK}{us:Ze}{vs:List V}(ρ:Mk X.K C f)(F:FnOk X.prog X.w X.K X.mg X.base CX k f fd ps sp)(hr:Room (k+1) X.A)(hb:Binds X.K fd ps ds)(hd:Vals dvs ds)
 (hx:oU CX X E) (I:Inv X z5 J H s) (r:Vals vs us)
 (h:∀x dx,H x=none->H dx=none->dx≠x->sp (.ref x::(vs++dvs)) (aT (aT H dx (.own x)) x (.ins C dx [])) (λv H2=>v=.non/\Q (.ref x) H2) E):
 wpAny (model X.prog X.w) X.A (call (.ref C) us) (EP X z5 J Q) X.xe s:=by
 have hq:=h (s.heap.objs.size+1) s.heap.objs.size (I.hok.fresh (Nat.le_succ _)) (I.hok.fresh (jc _)) (jl (Nat.lt_succ_self _));have I2:=Inv.made (C:=C) I;have r2:Vals (V.ref (s.heap.objs.size+1)::(vs++dvs)) (Value.ref (s.heap.objs.size+1)::(us++ds)):=.cons rfl (r.append hd);have hl:(Value.ref (s.heap.objs.size+1)::us++ds).length=ps.length:=by have e:=r2.length;rw[F.len _ _ _ _ hq]at e;exact e.symm
 refine wpAny_call (qlg (f:=f) I.kIn ρ.makes ρ.init (beq_iff_eq.mp ρ.fn) (codeAny_mono (F.run _ X.stack _ _ ⟨Value.ref (s.heap.objs.size+1)::us,[]⟩ (Value.ref (s.heap.objs.size+1)::(us++ds)) _ _ E (hr.make C us [])
  (I2.env0.make C us []) (hb _ (Value.ref (s.heap.objs.size+1)::us) I2.kIn hl) r2 hq) λr s' hq'=>?_))
 cases r with
 |error e=>exact hx z5 J _ _ e s' I2 hq'
 | ok fl=>
  cases fl with
  | ret u=>
   let⟨v,H',I3,rv,ev,q3⟩:=I2.after hq';subst ev;exact⟨rv,⟨V.ref (s.heap.objs.size+1),H',I3,rfl,q3⟩⟩
  |next=>exact False.elim hq'
  |brk=>exact False.elim hq'
  |cont=>exact False.elim hq'
def Gw(ρ:Mk X.K C f)(F:FnOk X.prog X.w X.K X.mg X.base CX k f fd ps sp)(hr:Room (k+1) X.A)(hg:Gl X x)(hm:X.mg x=some (.ref C))(hb:Binds X.K fd ps ds)(hd:Vals dvs ds)(hx:oU CX X E)
 (ha:PA X (e::es) t) (hdb:(x==("__debug__":Str))=false:=by decide) (he:starEach (e::es) X.env=(false,eval e X.env)::starEach es X.env:=by rfl) (hpl:(backTo pos (starEach es X.env)).any (·.1)=false:=by rfl):
 PE X (.Call (.Name x p) (e::es) [] pos) (Ex C sp dvs E t):=by
 intro z5 s J H Q I h;refine xq (yk I hg hm ?_ hdb);refine W.callWith_K (h₀:=X.base) I.ok.mod.kin ρ.kp (bu (ha pos z5 s J H _ I h) λus s1 ⟨vs,H1,I1,r,q⟩=>⟨I1.kIn,?_⟩) he hpl;exact qkq ρ F hr hb hd hx I1 r q
end
section
variable{X:Cx}{CX:io}{k:Nat}{f C:Addr}{fd:FuncData}{ps ks:Zj}{sp:Sp}{E:XK}{x m:Str}{p pos zu kpos:Pos}{e o:Expr}{es:Zi}{kws:List Keyword}{te ta:TE}{t tk:TA}{nm:Option Str}
structure qyq(K:aq)(fd:FuncData)(ps ks:Zj)(g:List Value->List Value->List Value)(gV:List V->List V->List V):Prop where
 to:∀(s:Shared) (us ws:Ze),K.In s.heap->(g us ws).length=ps.length->BindsTo s fd ⟨us,ks.zip ws⟩ (ps.zip (g us ws))
 rel:∀{vs:List V} {us:Ze} {zs:List V} {ws:Ze},Vals vs us->Vals zs ws->Vals (gV vs zs) (g us ws)
variable{g:List Value->List Value->List Value}{gV:List V->List V->List V}
end
structure q0m(N P:Zj)(sc:Scope):Prop where
 kind:sc.kind=.function
 co:sc.isCoroutine=false
 gen:sc.isGenerator=false
 nd:N.Nodup
 pre:N.take P.length=P
 par:∀x∈P,sc.names.lookup x=some .local∨sc.names.lookup x=some .cell
 nofree:∀y∈sc.names,y.2≠.free
theorem Hw{kindOf:Str->Option NameKind}{x:Str}:∀{zt:List (Str×Value)} {m:Za},(∀v,(x,v)∉zt)->bindL kindOf zt m x=m x
 |[],_,_=>rfl
 | (n,v)::r,m,h=>by
  unfold bindL;rw[Hw λw hw=>h w (jd _ hw)];split
  .have:x≠n:=by rintro rfl;exact h v jf
   simp[this]
  .rfl
theorem Hu{kindOf:Str->Option NameKind}{x:Str}:∀{zt:List (Str×Value)} {m:Za},(∀v,(x,v)∉zt)->bindC kindOf zt m x=m x
 |[],_,_=>rfl
 | (n,v)::r,m,h=>by
  unfold bindC;rw[Hu λw hw=>h w (jd _ hw)];split
  .rfl
  .have:x≠n:=by rintro rfl;exact h v jf
   simp[this]
theorem Hv{kindOf:Str->Option NameKind}{x:Str}{v:Value}:∀{P:Zj} {vs:Ze} {i:Nat} {m:Za},P.Nodup->P[i]? =some x->vs[i]? =some v->kindOf x=some .local->
 bindL kindOf (P.zip vs) m x=some v
 |[],_,_,_,_,h,_,_=>by simp at h
 |_::_,[],_,_,_,_,h,_=>by simp at h
 | p::P,w::vs,0,m,nd,h1,h2,hk=>by simp at h1 h2;subst h1;subst h2;show bindL kindOf ((p,w)::P.zip vs) m p=_;unfold bindL;rw[Hw λv hv=>(List.nodup_cons.mp nd).1 (List.of_mem_zip hv).1,if_pos hk];simp
 | p::P,w::vs,i+1,m,nd,h1,h2,hk=>by show bindL kindOf ((p,w)::P.zip vs) m x=_;unfold bindL;exact Hv (i:=i) (List.nodup_cons.mp nd).2 (by simpa using h1) (by simpa using h2) hk
theorem Ht{kindOf:Str->Option NameKind}{x:Str}{v:Value}:∀{P:Zj} {vs:Ze} {i:Nat} {m:Za},P.Nodup->P[i]? =some x->vs[i]? =some v->kindOf x≠some .local->
 bindC kindOf (P.zip vs) m x=some v
 |[],_,_,_,_,h,_,_=>by simp at h
 |_::_,[],_,_,_,_,h,_=>by simp at h
 | p::P,w::vs,0,m,nd,h1,h2,hk=>by simp at h1 h2;subst h1;subst h2;show bindC kindOf ((p,w)::P.zip vs) m p=_;unfold bindC;rw[Hu λv hv=>(List.nodup_cons.mp nd).1 (List.of_mem_zip hv).1,if_neg hk];simp
 | p::P,w::vs,i+1,m,nd,h1,h2,hk=>by show bindC kindOf ((p,w)::P.zip vs) m x=_;unfold bindC;exact Ht (i:=i) (List.nodup_cons.mp nd).2 (by simpa using h1) (by simpa using h2) hk
noncomputable def bn(N:Zj)(vs:List V):St:=vs.map some++List.replicate (N.length-vs.length) none
noncomputable def ff(CX:io)(P:Program)(w:World)(K:aq)(mg:Za)(base:Heap)(N:Zj)(qual:Str)(scope:Scope)(f:Addr)(cd:Value)(A:Around)(outer:List Env)(s:Shared)(H:Hp)(E:XK):Cx where
 prog:=P
 w:=w
 K:=K
 mg:=mg
 base:=base
 A:=A.deeper (envOfC qual scope s.heap.objs.size f cd)
 N:=N
 s₀:=s
 H₀:=H
 env:=envOfC qual scope s.heap.objs.size f cd
 outer:=outer
 stack:=envOfC qual scope s.heap.objs.size f cd::outer
 ex:=[]
 calm:=true
 fn:=λ_=>true
 pn:=[]
 xe:=λe s'=>wpAny (model P w) (A.deeper (envOfC qual scope s.heap.objs.size f cd)) (leaving (envOfC qual scope s.heap.objs.size f cd) e) (λ_ s''=>CX outer H s E e s'') (λe' s''=>CX outer H s E e' s'') s'
def GJ{sc:Scope}{n:Nat}{x:Str}(h:sc.names.lookup x=some .cell):∃c,(cellsFrom n sc.names []).lookup x=some c:=by have q:=W.cellsFrom_some sc.names n [] (.inl h);exact Option.isSome_iff_exists.mp q
def qj3{CX:io}{P:Program}{w:World}{K:aq}{mg:Za}{base:Heap}{N ps:Zj}{qual:Str}{scope:Scope}{f:Addr}{cd:Value}{A:Around}{outer:List Env}{s s1:Shared}{H:Hp}{E:XK}{us:Ze}{vs:List V}
 (S:q0m N ps scope) (hd:A.handled=none) (e0:Env0 P w K mg base A outer s H) (hl:vs.length=ps.length) (r:Vals vs us)
 (x:InCallC s s.heap.objs.size (bindL (envOfC qual scope s.heap.objs.size f cd).kindOf (ps.zip us) λ_=>none) (cellsFrom (s.heap.objs.size+1) scope.names []) (bindC (envOfC qual scope s.heap.objs.size f cd).kindOf (ps.zip us) λ_=>none) s1):
 Inv (ff CX P w K mg base N qual scope f cd A outer s H E) [] (bn N vs) H s1:=by
 have hpl:ps.length<=N.length:=by have:=congrArg List.length S.pre;rw[xi]at this;omega
 obtain⟨h1,tk,rfl,hk⟩:=x.done;have noA:∀b:Addr,b∉(ff CX P w K mg base N qual scope f cd A outer s H E).ex:=λb z=>absurd (show b∈([]:List Addr)from z) (by simp);refine⟨⟨e0.mod,S.kind,rfl,rfl,jc _,λy z c h1 h2=>?_,λy hy=>?_,λy c _ h=>?_,λ_=>hd,Around.frames_deeper e0.frames,.inr ⟨rfl,rfl⟩,λb z=>absurd z (noA b),e0.bs,e0.bsz,λb _ _=>noA b,λb z=>absurd z (noA b),e0.funs,e0.frf⟩,
  rfl,e0.bare,Un.kept hk,⟨_,x.toInCall.ns,λi y v h1 h2 h3=>?_⟩,λy c h=>⟨_,x.cell y c h⟩,e0.hok.fresh (jc _),λy c h=>?_,λp hp=>absurd (show p∈([]:Z3)from hp) (by simp),e0.hok.kept hk,?_⟩
 .exact name_of_addr x.apart (PySem.mem_of_lookup h1) (PySem.mem_of_lookup h2)
 .have hy:scope.names.lookup y=some .cell∨scope.names.lookup y=some .free:=hy;rcases hy with hy|hy
  .exact GJ hy
  .exact absurd rfl (S.nofree _ (PySem.mem_of_lookup hy))
 .exact Nat.le_of_lt (x.above y c (PySem.mem_of_lookup h))
 .have hi:i<vs.length:=by
   unfold bn at h2;by_cases hi:i<vs.length
   .exact hi
   .rw[xw (by simpa using hi)]at h2;rw[k8]at h2;split at h2<;>cases h2
  have ha:vs[i]? =some v:=by
   unfold bn at h2;rw[k9 (by simpa using hi),je]at h2;cases e:vs[i]? with
   |none=>rw[e]at h2;cases h2
   |some a=>rw[e]at h2;cases h2;rfl
  let⟨u,hu,rv⟩:=r.get ha;have hp:ps[i]? =some y:=by rw[<-S.pre,List.getElem?_take_of_lt (by omega)];exact h1
  have ndP:ps.Nodup:=by rw[<-S.pre];exact S.nd.sublist (List.take_sublist _ _)
  refine⟨u,rv,?_⟩;rcases S.par y (xk hp)with k|k
  .exact .inl ⟨k,Hv ndP hp hu k⟩
  .let⟨c,e⟩:=GJ (n:=s.heap.objs.size+1) k;refine .inr ⟨.inl k,c,e,?_⟩;have q:=x.cell y c e;rw[Ht ndP hp hu (by show scope.names.lookup y≠_;rw[k];decide)]at q;exact q
 .exact e0.hok.fresh (Nat.le_of_lt (x.above y c (PySem.mem_of_lookup h)))
 .unfold bn;show _=N.length;rw[jh,j7,jw];omega
def vM{CX:io}{P:Program}{w:World}{K:aq}{mg:Za}{base:Heap}{k:Nat}{f:Addr}{name qual:Str}{params:Arguments}{body:Zh}{scope:Scope}{dV kV doc pm cdv ct oc:Value}{an od:Zc}
 {osl:Array (Option Value)} {N ps:Zj} {sp:Sp} (lk:K.lookup f=some ⟨oc,od,.func (W.fnOf name qual params body scope dV kV doc pm an cdv ct),osl⟩) (hcd:W.codeIn K cdv qual=true) (S:q0m N ps scope)
 (len:∀vs H Q E,sp vs H Q E->vs.length=ps.length)
 (ze:∀(A:Around) (outer:List Env) (s:Shared) (H:Hp) (vs:List V) (Q:VK) (E:XK),Room k (A.deeper (envOfC qual scope s.heap.objs.size f cdv))->sp vs H Q E->
   ∃t,PSs (ff CX P w K mg base N qual scope f cdv A outer s H E) body t/\t {nx:=λ_ H'=>Q .non H',rt:=Q} (bn N vs) H):
 FnOk P w K mg base CX (k+1) f (W.fnOf name qual params body scope dV kV doc pm an cdv ct) ps sp:=by
 refine⟨len,λA outer s H args us vs Q E hr e0 hb r hsp=>?_⟩;have hl:=len _ _ _ _ hsp;have KX:K.In s.heap:=e0.mod.kin.keeps λb o e=>(e0.bs b o e).1;have lim:s.heap.NoLimit:=e0.mod.nolimit.keeps λb o e=>(e0.bs b o e).1;have zg:∀y∈ps.zip us,scope.names.lookup y.1=some .local∨(scope.names.lookup y.1=some .cell/\((cellsFrom (s.heap.objs.size+1) scope.names []).lookup y.1).isSome=true):=λ⟨n,v⟩ hy=>by
  rcases S.par n (List.of_mem_zip hy).1 with q|q
  .exact .inl q
  .exact .inr ⟨q,W.cellsFrom_some _ _ _ (.inl q)⟩
 refine codeAny_call_function hr.depth (KX _ _ lk) rfl S.co S.gen rfl (W.codeRec_of KX hcd) (hb _ _ _ _ ?_);refine wpAny_newFunctionEnv_cells S.kind zg λenv he s1 x=>?_;subst he;refine⟨lim.keeps x.toInCall.keep,codeAny_func ?_⟩;let⟨t,ht,hq⟩:=ze A outer s H vs Q E (hr.deeper _) hsp;have I:Inv (ff CX P w K mg base N qual scope f cdv A outer s H E) [] (bn N vs) H s1:=qj3 S hr.hd e0 hl r x;refine xo (ht [] s1 (bn N vs) H _ I hq) (λfl s' hs=>?_) λe s' hs=>hs;have fin:∀{J':St} {H':Hp} {v:V} {u:Value},Inv (ff CX P w K mg base N qual scope f cdv A outer s H E) [] J' H' s'->RelV v u->Q v H'->CE outer P w H s Q u s':=
  λ{J' H' v u} σ rv q=>⟨v,H',σ.os,σ.bare,σ.base,σ.hok,rv,q⟩
 cases fl with
 | ret u=>
  obtain⟨v,J',H',σ,rv,q⟩:=hs;exact fin σ rv q
 | next=>
  obtain⟨J',H',σ,q⟩:=hs;exact fin (v:=V.non) (u:=Value.none) σ rfl q
 | brk=>
  obtain⟨_,_,_,q⟩:=hs;exact False.elim q
 | cont=>
  obtain⟨_,_,_,q⟩:=hs;exact False.elim q
section
variable{X:Cx}{x:Str}{p pos:Pos}{e:Expr}{es:Zi}{t:TA}{id T:String}{r:List V->Hp->VK->Prop}
def mH(r:List V->Hp->VK->Prop)(t:TA):TE:=λJ H Q=>t J H λvs H1=>r vs H1 Q
def dw(hc:gf X (.builtin id) r)(hg:Gl X x)(hm:X.mg x=none)(hv:bootBuiltins x=some (.builtin id))(ha:PA X (e::es) t)(hn:x≠"__name__":=by decide)(hdb:(x==("__debug__":Str))=false:=by decide)
 (he:starEach (e::es) X.env=(false,eval e X.env)::starEach es X.env:=by rfl) (hpl:(backTo pos (starEach es X.env)).any (·.1)=false:=by rfl):PE X (.Call (.Name x p) (e::es) [] pos) (mH r t):=by
 intro z5 s J H Q I h;refine xq (ia I hg hm hv ?_ hn hdb);exact PyProof.Rows.callWith_builtin1 (bu (ha pos z5 s J H _ I h) λus s1 ⟨vs,H1,I1,r1,q1⟩=>hc z5 s1 J H1 vs us Q I1 r1 q1) he hpl
def jJ(hc:gf X (.type T) r)(hg:Gl X x)(hm:X.mg x=none)(hv:bootBuiltins x=some (.type T))(ha:PA X (e::es) t)(hn:x≠"__name__":=by decide)(hdb:(x==("__debug__":Str))=false:=by decide)
 (he:starEach (e::es) X.env=(false,eval e X.env)::starEach es X.env:=by rfl) (hpl:(backTo pos (starEach es X.env)).any (·.1)=false:=by rfl):PE X (.Call (.Name x p) (e::es) [] pos) (mH r t):=by
 intro z5 s J H Q I h;refine xq (ia I hg hm hv ?_ hn hdb);exact PyProof.Rows.callWith_type1 (bu (ha pos z5 s J H _ I h) λus s1 ⟨vs,H1,I1,r1,q1⟩=>hc z5 s1 J H1 vs us Q I1 r1 q1) he hpl
end
end L2
namespace HT
open PySem PyProof.Rows
noncomputable def lexLt:List Int->List Int->Bool
 |[],[]=>false
 |[],_::_=>true
 |_::_,[]=>false
 |x::xs,y::ys=>if x=y then lexLt xs ys else decide (x<y)
def lexLt_cons(x y:Int)(xs ys:Zf):lexLt (x::xs) (y::ys)=if x=y then lexLt xs ys else decide (x<y):=rfl
def eqAt_int(A:Around)(s:Shared)(a:Int)(t:Tok)(c:Int)(u:Tok):∃e,SeqAt.EqAt A s (.int a t) (.int c u) e/\(e=true↔a=c):=
 ⟨(a==c),SeqAt.EqAt.int_int a t c u,by simp⟩
def rcLt_int(A:Around)(s:Shared)(a:Int)(t:Tok)(c:Int)(u:Tok)(prog:Program)(w:World)(E:Z0)(Q:Z0)(h:Q (.bool (decide (a<c))) s):
 wpAny (model prog w) A (richCompare .Lt (.int a t) (.int c u)) Q E s:=
 (PyProof.Rows.lt_int h:wpAny (model prog w) A (compareOp .Lt (.int a t) (.int c u)) Q E s)
section
open PySem.SeqAt
open PySem.AutoSeq1 (wpAny_loadPart')
open PySem.MeetsSeq PySem.MeetsSeq2 PySem.MeetsSeq3
end
section
variable{prog:Program}{w:World}{A:Around}{E:Z0}{s:Shared}
noncomputable def sIx(n d:Nat):Option Int->Nat
 |none=>d
 |some v=>if v<0 then(v+(n:Int)).toNat else min v.toNat n
def sIx_none(n d:Nat):sIx n d none=d:=rfl
def qt8{n d:Nat}(hd:d<=n)(o:Option Int):sIx n d o<=n:=by
 cases o with
 |none=>exact hd
 | some v=>
  show(if v<0 then(v+(n:Int)).toNat else min v.toNat n)<=n;by_cases hv:v<0
  .rw[if_pos hv];omega
  .rw[if_neg hv];exact Nat.min_le_right _ _
def F9(v:Int)(n d:Nat):(if v<0 then max (v+(n:Int)) 0 else min v (n:Int))=((sIx n d (some v):Nat):Int):=by
 show(if v<0 then max (v+(n:Int)) 0 else min v (n:Int))=(((if v<0 then(v+(n:Int)).toNat else min v.toNat n):Nat):Int);by_cases hv:v<0
 .simp only[if_pos hv];omega
 .simp only[if_neg hv];omega
def qfk(lo hi:Option Int)(n:Nat):Builtin.Slice.sliceAdjust lo hi 1 (n:Int)=(((sIx n 0 lo:Nat):Int),((sIx n n hi:Nat):Int)):=by
 have h1:¬((1:Int)<0):=by omega
 unfold Builtin.Slice.sliceAdjust;simp only[h1,if_false];refine Prod.ext ?_ ?_
 .cases lo with
  |none=>rfl
  |some v=>exact F9 v n 0
 .cases hi with
  |none=>rfl
  |some v=>exact F9 v n n
def qeo(i j:Nat):Builtin.Slice.slicePlaces (i:Int) (j:Int) 1=j-i:=by
 unfold Builtin.Slice.slicePlaces;have h1:(1:Int)>0:=by omega
 simp only[h1,if_true,Int.ediv_one];split<;>omega
def Io{v:Value}{o:Option Int}{Q:Option Int->Shared->Prop}(p:IsPart v o)(h:Q o s):wpAny (model prog w) A (Builtin.Slice.slicePartIndex v) Q E s:=by
 cases p with
 |none=>exact slicePart_none h
 |int i t=>exact slicePart_int h
def q6x{sl:Addr}{vl vu:Value}{lo hi:Option Int}{n:Nat}{Q:Int×Int×Nat->Shared->Prop}(hs:s.heap.IsSliceOf sl vl vu .none)(pl:IsPart vl lo)(pu:IsPart vu hi)
 (h:Q (((sIx n 0 lo:Nat):Int),1,sIx n n hi-sIx n 0 lo) s):wpAny (model prog w) A (Builtin.Slice.sliceApplied (.ref sl) (pure (n:Int))) Q E s:=by
 let⟨os,hos,hcs,hds⟩:=id hs;unfold Builtin.Slice.sliceApplied Builtin.Slice.sliceFields;refine j6 (j6 (xl hos hds (x:=vl) rfl (j6 (xl hos hds (x:=vu) rfl (j6 (xl hos hds (x:=.none) rfl (j8 ?_)))))));refine j6 (slicePart_none ?_);show wpAny _ _ (if((1:Int)==0)=true then _ else _) _ _ s;rw[if_neg (by decide)];refine j6 (Io pl (j6 (Io pu (j6 (j8 ?_)))));show wpAny _ _ (match Builtin.Slice.sliceAdjust lo hi 1 (n:Int)with|(lo,hi)=>pure (lo,(1:Int),Builtin.Slice.slicePlaces lo hi 1)) _ _ s;rw[qfk lo hi n];show wpAny _ _ (pure (((sIx n 0 lo:Nat):Int),(1:Int),Builtin.Slice.slicePlaces ((sIx n 0 lo:Nat):Int) ((sIx n n hi:Nat):Int) 1)) _ _ s;rw[qeo];exact j8 h
def qkt(xs:Zd)(i k:Nat):((List.range k).filterMap λ(m:Nat)=>xs[((i:Int)+(m:Int)*1).toNat]?).toArray=((xs.toList.drop i).take k).toArray:=by
 have e:(λ(m:Nat)=>xs[((i:Int)+(m:Int)*1).toNat]?)=λm=>xs[i+m]? :=by
  funext m;have:((i:Int)+(m:Int)*1).toNat=i+m:=by omega
  rw[this]
 rw[e];have:=pick_run xs i k;rw[List.filterMap_map]at this;have e2:((λx=>xs[x]?)∘λx=>i+x)=λm=>xs[i+m]? :=rfl;rw[e2]at this;rw[this]
def getItem_tuple_cut{t sl:Addr}{items:Zd}{vl vu:Value}{lo hi:Option Int}{Q:Z0}(ht:IsTup s.heap t items)(hs:s.heap.IsSliceOf sl vl vu .none)(pl:IsPart vl lo)(pu:IsPart vu hi)
 (hw:¬(sIx items.size 0 lo=0/\sIx items.size items.size hi=items.size))
 (h:Q (.ref s.heap.objs.size) {s with heap:=s.heap.push {cls:=.type "tuple",data:=.seq ((items.toList.drop (sIx items.size 0 lo)).take (sIx items.size items.size hi-sIx items.size 0 lo)).toArray}})
 (hsz:items.size<=sizeLine):wpAny (model prog w) A (getItem (.ref t) (.ref sl)) Q E s:=by
 have htake:sizeOk (.seq ((items.toList.drop (sIx items.size 0 lo)).take (sIx items.size items.size hi-sIx items.size 0 lo)).toArray):=by show((items.toList.drop (sIx items.size 0 lo)).take (sIx items.size items.size hi-sIx items.size 0 lo)).toArray.size<=sizeLine;rw[jx,xi,xm,Array.length_toList];omega
 have hj:sIx items.size items.size hi<=items.size:=qt8 (jc _) hi;let⟨os,hos,hcs,hds⟩:=id hs;have hTs:s.TypeIs (.ref sl) "slice":=⟨os,hos,hcs⟩;unfold getItem
 try with_reducible refine xu ?_
 first|refine j6 (j8 ?_)|skip
 refine j6 (wpAny_sequenceKey ht.typeIs (by decide) ?_);refine j6 (ka (name:=Str.ofString "__getitem__") ht.typeIs PyProof.Rows.slot_tuple_getitem
  (k6 PyProof.Rows.slot_tuple_getitem ht.typeIs entry_tuple_getitem ?_ (args_tuple_getitem _ _)))
 show wpAny _ _ (Builtin.Tuple.tupleItemsOf (.ref t) >>= _) _ _ s;refine j6 (tupleItemsOf_ ht ?_);refine j6 (wpAny_typeOf hTs ?_);rw[if_pos (by decide)];refine j6 (q6x hs pl pu ?_);have hno:¬((((sIx items.size 0 lo:Nat):Int)==0&&(1:Int)==1&&(sIx items.size items.size hi-sIx items.size 0 lo)==items.size)=true):=by intro q;rw[Bool.and_eq_true,Bool.and_eq_true]at q;have q1:((sIx items.size 0 lo:Nat):Int)=0:=eq_of_beq q.1.1;have q2:sIx items.size items.size hi-sIx items.size 0 lo=items.size:=eq_of_beq q.2;exact hw ⟨by omega,by omega⟩
 show wpAny _ _ (if(((sIx items.size 0 lo:Nat):Int)==0&&(1:Int)==1&&(sIx items.size items.size hi-sIx items.size 0 lo)==items.size)=true then _ else _) _ _ s;rw[if_neg hno,qkt]
 first
  |exact j6 (m:=Builtin.Tuple.tupleExact _) (xx (j8 ⟨_,rfl,j8 h⟩) htake)
  |exact j6 (m:=Builtin.Tuple.tupleExact _) (xx (j6 (j8 (j8 ⟨_,rfl,j8 h⟩))) htake)
  |exact j6 (j6 (m:=Builtin.Tuple.tupleExact _) (xx (j8 (j8 ⟨_,rfl,j8 h⟩)) htake))
  |exact j6 (j6 (m:=Builtin.Tuple.tupleExact _) (xx (j8 ⟨_,rfl,j8 h⟩) htake))
end
end HT
namespace L2
open PySem PySem.Spec PyProof.Rows
abbrev TO:=St->Hp->(Option Int->Hp->Prop)->Prop
def PO(X:Cx)(e:Option Expr)(t:TO):Prop:=
 ∀(z5:Z3) (s:Shared) (J:St) (H:Hp) (Q:Option Int->Hp->Prop),Inv X z5 J H s->t J H Q->
   wpAny (model X.prog X.w) X.A (evalPart e X.env) (λu s'=>∃o H',Inv X z5 J H' s'/\IsPart u o/\Q o H') X.xe s
def yy:TO:=λ_ H Q=>Q none H
def vZ(t:TE):TO:=λJ H Q=>t J H λx H1=>∃i,x=.int i/\Q (some i) H1
def dM{ns:Zf}:∀{us:Ze},Vals (ns.map V.int) us->IntsAre us ns:=by
 induction ns with
 |nil=>intro us r;rw[List.map_nil]at r;cases r;exact .nil
 | cons n ns ih=>
  intro us r;rw[jz]at r;cases r with
  | cons r1 r2=>
   obtain⟨t,e⟩:=r1;subst e;exact .cons n t (ih r2)
section
variable{X:Cx}{e:Expr}{te:TE}{lo hi:Option Expr}{tl th:TO}{pos p2:Pos}
def o9:PO X none yy:=by intro z5 s J H Q I h;rw[evalPart_none];exact j8 ⟨none,H,I,.none,h⟩
def mv(h:PE X e te):PO X (some e) (vZ te):=by intro z5 s J H Q I hw;rw[evalPart_some];refine bu (h z5 s J H _ I hw) λu s1 ⟨x,H1,I1,r1,q1⟩=>?_;obtain⟨i,rfl,q⟩:=q1;obtain⟨t,rfl⟩:=r1;exact⟨some i,H1,I1,.int i t,q⟩
def SlR(X:Cx)(r:V->Option Int->Option Int->Hp->VK->Prop):Prop:=
 ∀(z5:Z3) (s:Shared) (J:St) (H:Hp) (x:V) (v vl vu:Value) (lo hi:Option Int) (sl:Addr) (Q:VK),Inv X z5 J H s->RelV x v->s.heap.IsSliceOf sl vl vu .none->IsPart vl lo->IsPart vu hi->r x lo hi H Q->
   ∃T id,typeLookup (.type T) "__getitem__"=pure (some (.builtin id))/\s.TypeIs v T/\wpAny (model X.prog X.w) X.A (getItem v (.ref sl)) (EP X z5 J Q) X.xe s
def SlR.or{r r':V->Option Int->Option Int->Hp->VK->Prop}(h:SlR X r)(h':SlR X r'):SlR X (λx lo hi H Q=>r x lo hi H Q∨r' x lo hi H Q):=by
 intro z5 s J H x v vl vu lo hi sl Q I rx hs pl pu q;rcases q with q|q
 .exact h z5 s J H x v vl vu lo hi sl Q I rx hs pl pu q
 .exact h' z5 s J H x v vl vu lo hi sl Q I rx hs pl pu q
def vH(r:V->Option Int->Option Int->Hp->VK->Prop)(te:TE)(tl th:TO):TE:=λJ H Q=>te J H λx H1=>tl J H1 λl H2=>th J H2 λu H3=>r x l u H3 Q
def m5{r:V->Option Int->Option Int->Hp->VK->Prop}(hr:SlR X r)(he:PE X e te)(hl:PO X lo tl)(hu:PO X hi th):PE X (.Subscript e (.Slice lo hi none p2) pos) (vH r te tl th):=by intro z5 s J H Q I h;refine Subscript_ (bu (he z5 s J H _ I h) λv s1 ⟨x,H1,I1,r1,q1⟩=>?_);refine wpAny_Slice (bu (hl z5 s1 J H1 _ I1 q1) λvl s2 ⟨l,H2,I2,pl,q2⟩=>bu (hu z5 s2 J H2 _ I2 q2) λvu s3 ⟨u,H3,I3,pu,q3⟩=>?_);rw[evalPart_none];refine j8 ?_;have I4:Inv X z5 J H3 {s3 with heap:=s3.heap.push {cls:=.type "slice",data:=.fields #[vl,vu,.none]}}:=I3.kept (t':=s3.toks) λb ob q=>ja _ q;let⟨T,id,hT,ht,hg⟩:=hr z5 {s3 with heap:=s3.heap.push {cls:=.type "slice",data:=.fields #[vl,vu,.none]}} J H3 x v vl vu l u s3.heap.objs.size Q I4 r1 (Heap.IsSliceOf.new ..) pl pu q3;show wpAny (model X.prog X.w) X.A (subscriptTail e (.Slice lo hi none p2) v (.ref s3.heap.objs.size)) (EP X z5 J Q) X.xe {s3 with heap:=s3.heap.push {cls:=.type "slice",data:=.fields #[vl,vu,.none]}};exact tail_any (ops:=[.ref s3.heap.objs.size,v]) ht hT hg (by with_unfolding_all rfl)
def fj(xs:List V)(lo hi:Option Int):List V:=(xs.drop (HT.sIx xs.length 0 lo)).take (HT.sIx xs.length xs.length hi-HT.sIx xs.length 0 lo)
def Iu(xs:List V)(lo hi:Option Int):(fj xs lo hi).length<=xs.length:=by unfold fj;rw[xi,xm];omega
def re(K:aq):V->Option Int->Option Int->Hp->VK->Prop:=λx lo hi H Q=>∃a xs,x=.ref a/\SqT K H a xs/\
 ¬(HT.sIx xs.length 0 lo=0/\HT.sIx xs.length xs.length hi=xs.length)/\∀p,H p=none->Q (.ref p) (aT H p (.tup (fj xs lo hi)))
def qso:SlR X (re X.K):=by
 intro z5 s J H x v vl vu lo hi sl Q I rx hs pl pu h;obtain⟨a,xs,rfl,hx,hw,q⟩:=h;cases rx;let⟨its,r,ht,hz⟩:=I.tuple hx;have zc:its.toArray.size=xs.length:=by rw[jx];exact r.length.symm
 refine⟨"tuple",_,PyProof.Rows.slot_tuple_getitem.lookup,ht.typeIs,?_⟩;refine HT.getItem_tuple_cut ht hs pl pu (by rw[zc];exact hw) ?_ (by rw[zc];exact hz);rw[zc];refine⟨.ref s.heap.objs.size,_,I.laid (t':=s.toks) (o:=.tup (fj xs lo hi)) (λb ob q=>ja _ q) (jc _) ?_,rfl,q _ (I.hok.fresh (jc _))⟩;exact⟨ju (Iu xs lo hi) hz,_,(r.drop (HT.sIx xs.length 0 lo)).take (HT.sIx xs.length xs.length hi-HT.sIx xs.length 0 lo),TupN.new _ _⟩
def Vals.nil_iff{xs:List V}{us:Ze}(r:Vals xs us):us=[]↔xs=[]:=by
 cases r with
 |nil=>simp
 |cons _ _=>simp
end
noncomputable def fI(n:Nat)(i:Int):Option Nat:=if 0<=i then(if i<n then some i.toNat else none)else if -(n:Int)<=i then some (i+n).toNat else none
def bB{α:Type}(xs:List α)(i:Int):Option α:=(fI xs.length i).bind λj=>xs[j]?
def Gg{n:Nat}{i:Int}{j:Nat}(h:fI n i=some j):seqIndex? i n=some j/\j<n/\ -(n:Int)<=i/\i<n:=by
 unfold fI at h;by_cases h0:0<=i
 .rw[if_pos h0]at h;by_cases h1:i<n
  .rw[if_pos h1]at h;have e:i.toNat=j:=jg h;exact⟨by rw[seqIndex_of h0 h1,e],by omega,by omega,h1⟩
  .rw[if_neg h1]at h;cases h
 .rw[if_neg h0]at h;by_cases h1: -(n:Int)<=i
  .rw[if_pos h1]at h;have e:(i+n).toNat=j:=jg h;exact⟨by rw[seqIndex_neg (by omega) h1,e],by omega,h1,by omega⟩
  .rw[if_neg h1]at h;cases h
def yd{α:Type}{xs:List α}{i:Int}{v:α}(h:bB xs i=some v):∃j,seqIndex? i xs.length=some j/\xs[j]? =some v/\j<xs.length/\ -(xs.length:Int)<=i/\i<xs.length:=by
 unfold bB at h;cases e:fI xs.length i with
 |none=>rw[e]at h;cases h
 | some j=>
  rw[e]at h;let⟨h1,h2,h3,h4⟩:=Gg e;exact⟨j,h1,h,h2,h3,h4⟩
def ye{α:Type}{xs:List α}{j:Nat}{v:α}(h:xs[j]? =some v):bB xs (j:Int)=some v:=by
 have hj:j<xs.length:=(List.getElem?_eq_some_iff.mp h).1;have e:fI xs.length (j:Int)=some j:=by unfold fI;rw[if_pos (by omega),if_pos (by omega)];simp
 unfold bB;rw[e];exact h
def qs3(b:Expr):Prop:=∀o i,subscripted b false o i=operate [o,i] (getItem o i)
def IxR(X:Cx)(r:R2):Prop:=
 ∀(value zf:Expr) (z5:Z3) (s:Shared) (J:St) (H:Hp) (x y:V) (v u:Value) (Q:VK),Inv X z5 J H s->RelV x v->RelV y u->r x y H Q->
   subscripted zf false v u=operate [v,u] (getItem v u)->wpAny (model X.prog X.w) X.A (subscriptTail value zf v u) (EP X z5 J Q) X.xe s
def MtR(X:Cx)(id:String)(r:V->List V->Hp->VK->Prop):Prop:=
 ∀(z5:Z3) (s:Shared) (J:St) (H:Hp) (x:V) (xs:List V) (v:Value) (us:Ze) (Q:VK),Inv X z5 J H s->RelV x v->Vals xs us->r x xs H Q->
   wpAny (model X.prog X.w) X.A (call (.builtin id) (v::us)) (EP X z5 J Q) X.xe s
section
variable{X:Cx}{a b:Expr}{ta tb:TE}{pos:Pos}
def IxR.or{r r':R2}(h:IxR X r)(h':IxR X r'):IxR X (λx y H Q=>r x y H Q∨r' x y H Q):=by
 intro value zf z5 s J H x y v u Q I rx ry q hs;rcases q with q|q
 .exact h value zf z5 s J H x y v u Q I rx ry q hs
 .exact h' value zf z5 s J H x y v u Q I rx ry q hs
def aX{r:R2}(hr:IxR X r)(ha:PE X a ta)(hb:PE X b tb)(hs:qs3 b:=by exact λ_ _=>rfl):PE X (.Subscript a b pos) (jU r ta tb):=by intro z5 s J H Q I h;exact Subscript_ (nZ ha hb I h λv u s2 x y H2 I2 rx ry q=>hr a b z5 s2 J H2 x y v u Q I2 rx ry q (hs _ _))
def rB(K:aq):R2:=λx y H Q=>∃p xs i v,x=.ref p/\y=.int i/\SqL K H p xs/\bB xs i=some v/\Q v H
def rq(K:aq):R2:=λx y H Q=>∃p xs i v,x=.ref p/\y=.int i/\SqT K H p xs/\bB xs i=some v/\Q v H
def rA:R2:=λx y H Q=>∃z i c,x=.str z/\y=.int i/\z.length<=sizeLine/\bB z.cps.toList i=some c/\Q (.str ⟨#[c]⟩) H
def ix_list:IxR X (rB X.K):=by
 intro value zf z5 s J H x y v u Q I rx ry h hs;obtain⟨p,xs,i,z,rfl,rfl,hq,he,q⟩:=h;cases rx;obtain⟨t,rfl⟩:=ry;let⟨its,r,pl,hz⟩:=I.list hq;let⟨j,h1,h2,h3,h4,h5⟩:=yd he;let⟨w,ew,rw'⟩:=r.get h2;have hl:=r.length;have hn:=qf;have fin:EP X z5 J Q w s:=⟨z,H,I,rw',q⟩;by_cases h0:0<=i
 .have hj:i.toNat=j:=by
   rw[seqIndex_of h0 h5]at h1;exact jg h1
  exact item_listR pl.isList h0 (by omega) (by rw[hj];simpa using ew) fin hs
 .have hj:(i+(its.toArray.size:Int)).toNat=j:=by
   rw[seqIndex_neg (by omega) h4]at h1;rw[jx,<-hl];exact jg h1
  exact subscriptTail_builtinR (x:=w) pl.isList.typeIs slot_list_getitem.lookup
   (wpAny_getItem_list_neg (Q:=λr s'=>r=w/\EP X z5 J Q r s') pl.isList (by omega) (by rw[jx]<;>omega) (by omega) (by rw[hj];simpa using ew) ⟨rfl,fin⟩) hs
def ix_tup:IxR X (rq X.K):=by
 intro value zf z5 s J H x y v u Q I rx ry h hs;obtain⟨p,xs,i,z,rfl,rfl,hq,he,q⟩:=h;cases rx;obtain⟨t,rfl⟩:=ry;let⟨its,r,pl,hz⟩:=I.tuple hq;let⟨j,h1,h2,h3,h4,h5⟩:=yd he;let⟨w,ew,rw'⟩:=r.get h2;have hl:=r.length;have hn:=qf;have fin:EP X z5 J Q w s:=⟨z,H,I,rw',q⟩;exact subscriptTail_builtinR (x:=w) pl.typeIs slot_tuple_getitem.lookup
  (getItem_tuple (j:=j) (Q:=λr s'=>r=w/\EP X z5 J Q r s') pl (by omega) (by omega) (by rw[jx,<-hl];exact h1) (by simpa using ew) ⟨rfl,fin⟩) hs
def qvs:IxR X rA:=by
 intro value zf z5 s J H x y v u Q I rx ry h hs;obtain⟨z,i,c,rfl,rfl,hz,he,q⟩:=h;obtain⟨t,rfl⟩:=rx;obtain⟨t',rfl⟩:=ry;let⟨j,h1,h2,h3,h4,h5⟩:=yd he;have hl:z.cps.toList.length=z.length:=by simp[Str.length]
 rw[hl]at h1 h4 h5;have hn:=qf;exact tail_any (typeIs_str s z t) slot_str_getitem.lookup (getItem_str (c:=c) (by have e1:decide (i< -(2^63:Int))=false:=decide_eq_false (by omega);have e2:decide (i≥2^63)=false:=decide_eq_false (by omega);rw[e1,e2,Bool.or_false]) (by rw[h1];simpa using h2) ⟨.str ⟨#[c]⟩,H,I.tok _,⟨_,rfl⟩,q⟩) hs
def pI(K:aq):R2:=λx y H Q=>rB K x y H Q∨rq K x y H Q∨rA x y H Q
def qvt:IxR X (pI X.K):=ix_list.or (ix_tup.or qvs)
def qev(its:Ze)(n j:Nat)(u:Value):Obj.mapSeq (·.setIfInBounds j u) {cls:=.type "list",data:=.seq its.toArray n}={cls:=.type "list",data:=.seq (its.set j u).toArray n}:=by simp[Obj.mapSeq]
def Inv.lst{z5:Z3}{J:St}{H:Hp}{s:Shared}{p:Addr}{xs:List V}(I:Inv X z5 J H s)(h:H p=some (.lst xs)):
 ∃(its:Ze) (n:Nat),Vals xs its/\s.heap.get? p=some {cls:=.type "list",data:=.seq its.toArray n}/\xs.length<=sizeLine:=by
 let⟨z,its,n,r,e⟩:=I.hok p _ h;exact⟨its,n,r,e,z⟩
def Inv.lstUpd{z5:Z3}{J:St}{H:Hp}{s:Shared}{p:Addr}{xs ys:List V}{its its':Ze}{n n':Nat}{f:Obj->Obj}(I:Inv X z5 J H s)(h:H p=some (.lst xs))
 (ho:s.heap.get? p=some {cls:=.type "list",data:=.seq its.toArray n}) (hf:f {cls:=.type "list",data:=.seq its.toArray n}={cls:=.type "list",data:=.seq its'.toArray n'}) (r:Vals ys its') (hz:ys.length<=sizeLine) (t:Nat):
 Inv X z5 J (aT H p (.lst ys)) {s with heap:=s.heap.update p f,toks:=t}:=by
 have e:(s.heap.update p f).get? p=some {cls:=.type "list",data:=.seq its'.toArray n'}:=by rw[kg f ho (by rw[hf]<;>rfl),hf]
 refine I.write (x:=p) (e:=p) (by rw[h];trivial) (.inl rfl) (λb u hb q=>(kb _ _ (Ne.symm hb)).trans q) ⟨_,e⟩ ?_;exact⟨hz,its',n',r,e⟩
def Er:V->V->V->Hp->(Hp->Prop)->Prop:=λo i v H Q=>∃p xs k j,o=.ref p/\i=.int k/\H p=some (.lst xs)/\fI xs.length k=some j/\Q (aT H p (.lst (xs.set j v)))
def jO:ox X Er:=by
 intro z5 s J H o i v ov iv u Q I ro ri rv h;obtain⟨p,xs,k,j,rfl,rfl,hp,hj,q⟩:=h;cases ro;obtain⟨t,rfl⟩:=ri;let⟨its,n,r,ho,hz⟩:=I.lst hp;let⟨h1,h2,h3,h4⟩:=Gg hj;have hl:=r.length;have hn:=qf;have I':Inv X z5 J (aT H p (.lst (xs.set j v))) {s with heap:=s.heap.update p (Obj.mapSeq (·.setIfInBounds j u))}:=
  I.lstUpd hp ho (qev its n j u) (r.set rv j) (by rw[xh];exact hz) s.toks
 by_cases h0:0<=k
 .have hk:k.toNat=j:=by
   rw[seqIndex_of h0 h4]at h1;exact jg h1
  exact W.ki_setAt ho h0 (by omega) (by rw[jx,<-hl];exact h4) (by rw[hk];exact⟨_,I',q⟩)
 .have hk:(k+(its.toArray.size:Int)).toNat=j:=by
   rw[seqIndex_neg (by omega) h3]at h1;rw[jx,<-hl];exact jg h1
  exact W.ki_setBack ho (by omega) (by rw[jx,<-hl];exact h3) (by omega) (by rw[hk];exact⟨_,I',q⟩)
def qaf(lo hi:Option Int)(n:Nat):(sliceBounds lo hi none n).1=((HT.sIx n 0 lo:Nat):Int)/\(sliceBounds lo hi none n).2.1=((HT.sIx n n hi:Nat):Int)/\(sliceBounds lo hi none n).2.2=1:=by
 refine⟨?_,?_,rfl⟩
 .cases lo with
  |none=>simp[sliceBounds,HT.sIx]
  | some i=>
   simp only[sliceBounds,HT.sIx,Option.getD_none,show(1:Int)>0 by decide,if_true];by_cases h:i<0
   .simp only[h,if_true]<;>omega
   .simp only[h,if_false]<;>omega
 .cases hi with
  |none=>simp[sliceBounds,HT.sIx]
  | some i=>
   simp only[sliceBounds,HT.sIx,Option.getD_none,show(1:Int)>0 by decide,if_true];by_cases h:i<0
   .simp only[h,if_true]<;>omega
   .simp only[h,if_false]<;>omega
def q95(its:Ze)(lo hi:Option Int):slicePick its.toArray lo hi none=((its.drop (HT.sIx its.length 0 lo)).take (HT.sIx its.length its.length hi-HT.sIx its.length 0 lo)).toArray:=by let⟨h1,h2,h3⟩:=qaf lo hi its.toArray.size;unfold slicePick;rw[h1,h2,h3];simp only[sliceRange_one,pick_run,List.size_toArray]<;>rfl
def rg(K:aq):V->Option Int->Option Int->Hp->VK->Prop:=λx lo hi H Q=>∃a xs,x=.ref a/\SqL K H a xs/\∀p,H p=none->Q (.ref p) (aT H p (.lst (fj xs lo hi)))
def sl_list:SlR X (rg X.K):=by intro z5 s J H x v vl vu lo hi sl Q I rx hs pl pu h;obtain⟨a,xs,rfl,hx,q⟩:=h;cases rx;let⟨its,r,ht,hz⟩:=I.list hx;have zc:=r.length;refine⟨"list",_,slot_list_getitem.lookup,ht.isList.typeIs,?_⟩;refine wpAny_getItem_list_slice ht.isList hs pl pu .none (by simp) ?_ (by rw[List.size_toArray]<;>omega);rw[q95,<-zc];refine⟨.ref s.heap.objs.size,_,I.laid (t':=s.toks) (o:=.lst (fj xs lo hi)) (λb ob q=>ja _ q) (jc _) ?_,rfl,q _ (I.hok.fresh (jc _))⟩;exact⟨ju (Iu xs lo hi) hz,_,0,(r.drop (HT.sIx xs.length 0 lo)).take (HT.sIx xs.length xs.length hi-HT.sIx xs.length 0 lo),jq _ rfl⟩
def qbd:gf X (.builtin "len") (λxs H Q=>∃p ys,xs=[.ref p]/\(SqL X.K H p ys∨SqT X.K H p ys)/\Q (.int ys.length) H):=by
 intro z5 s J H xs us Q I r h;obtain⟨p,ys,rfl,hq,q⟩:=h;obtain⟨u,rfl,rx⟩:=cH r;cases rx;have hn:=qf;rcases hq with hq|hq
 .let⟨its,r',pl,hz⟩:=I.list hq;have zc:=r'.length;exact Calls.call_len_list pl.isList (by simp only[List.size_toArray]<;>omega) ⟨.int ys.length,H,I.tok _,⟨s.toks+1,by rw[jx,zc]⟩,q⟩
 .let⟨its,r',pl,hz⟩:=I.tuple hq;have zc:=r'.length;exact len_tuple pl (by simp only[List.size_toArray]<;>omega) ⟨.int ys.length,H,I.tok _,⟨s.toks+1,by rw[jx,zc]⟩,q⟩
def qbc:gf X (.type "list") (λxs H Q=>∃p ys,xs=[.ref p]/\(SqL X.K H p ys∨SqT X.K H p ys)/\∀l,H l=none->Q (.ref l) (aT H l (.lst ys))):=by
 intro z5 s J H xs us Q I r h;obtain⟨p,ys,rfl,hq,q⟩:=h;obtain⟨u,rfl,rx⟩:=cH r;cases rx;have fin:∀(its:Ze),Vals ys its->ys.length<=sizeLine->∀(h':Heap) (c':Nat),(∀b o',s.heap.get? b=some o'->h'.get? b=some o')->
  h'.get? s.heap.objs.size=some {cls:=.type "list",dict:=none,data:=.seq its.toArray c',slots:=#[]}->EP X z5 J Q (.ref s.heap.objs.size) {s with heap:=h'}:=λits r' hz h' c' kp e=>
  ⟨.ref s.heap.objs.size,_,I.laid (t':=s.toks) kp (jc _) (show ObjOk X.prog X.w _ h' _ (.lst ys)from⟨hz,its,c',r',e⟩),rfl,q _ (I.hok.fresh (jc _))⟩
 rcases hq with hq|hq
 .let⟨its,r',pl,hz⟩:=I.list hq;have zc:=r'.length;obtain⟨o,ho,hc,n,hd⟩:=pl.isList;exact call_list_seq p (.inl rfl) ho hc hd (λh' c' kp e=>fin its r' hz h' c' kp e) (by simp only[List.size_toArray]<;>omega)
 .let⟨its,r',pl,hz⟩:=I.tuple hq;have zc:=r'.length;obtain⟨o,ho,hc,n,hd⟩:=pl;exact call_list_seq p (.inr rfl) ho hc hd (λh' c' kp e=>fin its r' hz h' c' kp e) (by simp only[List.size_toArray]<;>omega)
def q9u:gf X (.type "tuple") (λxs H Q=>∃p ys,xs=[.ref p]/\((SqL X.K H p ys/\∀l,H l=none->Q (.ref l) (aT H l (.tup ys)))∨(SqT X.K H p ys/\Q (.ref p) H))):=by
 intro z5 s J H xs us Q I r h;obtain⟨p,ys,rfl,h⟩:=h;obtain⟨u,rfl,rx⟩:=cH r;cases rx;rcases h with⟨hq,q⟩|⟨hq,q⟩
 .let⟨its,r',pl,hz⟩:=I.list hq;have zc:=r'.length;refine call_tuple_list pl.isList (λh' kp=>?_) (by simp only[List.size_toArray]<;>omega);have I1:Inv X z5 J H {s with heap:=h'}:=I.kept (t':=s.toks) kp;have I2:Inv X z5 J (aT H h'.objs.size (.tup ys)) {s with heap:=h'.push {cls:=.type "tuple",data:=.seq its.toArray}}:=
   I1.laid (t':=s.toks) (λb o e=>ja _ e) (jc _) (show ObjOk X.prog X.w _ _ _ (.tup ys)from⟨hz,its,r',TupN.new _ _⟩)
  exact⟨.ref h'.objs.size,_,I2,rfl,q _ (I1.hok.fresh (jc _))⟩
 .let⟨its,r',pl,hz⟩:=I.tuple hq;exact call_tuple_same pl ⟨.ref p,H,I,rfl,q⟩
def DJ(K:aq)(T:String)(x:V)(H:Hp):Prop:=match x with
 |.str _=>T="str"
 |.int _=>T="int"
 |.ref p=>(T="list"/\∃xs,SqL K H p xs)∨(T="tuple"/\∃o,K.lookup p=some o/\o.cls=.type "tuple"/\o.dict=none)∨
  (T="dict"/\((∃kvs,H p=some (.dK kvs))∨∃kvs,H p=some (.dT kvs)))∨(T="set"/\∃S n,H p=some (.set S n))
 |_=>False
def qs7{z5:Z3}{J:St}{H:Hp}{s:Shared}{T:String}{x:V}{v:Value}(I:Inv X z5 J H s)(r:RelV x v)(ty:DJ X.K T x H):
 s.TypeIs v T/\∀a,v=.ref a->∃ob,s.heap.get? a=some ob/\ob.dict=none:=by
 cases x with
 | str z=>
  obtain⟨t,rfl⟩:=r;cases(show T="str" from ty);exact⟨typeIs_str s z t,λ_ e=>nomatch e⟩
 | int i=>
  obtain⟨t,rfl⟩:=r;cases(show T="int" from ty);exact⟨typeIs_int s i t,λ_ e=>nomatch e⟩
 | ref p=>
  cases r;rcases ty with⟨rfl,xs,hq⟩|⟨rfl,o,hk,hc,hd⟩|⟨rfl,hk⟩|⟨rfl,S,n,hk⟩
  .let⟨its,_,pl,_⟩:=I.list hq;refine⟨pl.isList.typeIs,λa e=>?_⟩;cases e;obtain⟨o,n,e,c,hd,_⟩:=pl;exact⟨o,e,hd⟩
  .refine⟨⟨o,I.kIn p o hk,hc⟩,λa e=>?_⟩;cases e;exact⟨o,I.kIn _ o hk,hd⟩
  .have z:∃o,s.heap.get? p=some o/\o.ExactDict:=by
    rcases hk with⟨kvs,hk⟩|⟨kvs,hk⟩
    .let⟨_,_,_,_,o,_,e,ex,_⟩:=I.hok p _ hk;exact⟨o,e,ex⟩
    .let⟨_,_,_,_,o,_,_,e,ex,_⟩:=I.hok p _ hk;exact⟨o,e,ex⟩
   obtain⟨o,e,ex⟩:=z;refine⟨⟨o,e,ex.1⟩,λa e2=>?_⟩;cases e2;exact⟨o,e,ex.2.1⟩
  .let⟨o,_,_,_,e,ex,_⟩:=I.hok p _ hk;refine⟨⟨o,e,ex.1⟩,λa e2=>?_⟩;cases e2;exact⟨o,e,ex.2.1⟩
 |_=>exact False.elim ty
def sF(K:aq)(T:String)(r:V->List V->Hp->VK->Prop)(to:TE)(t:TA):TE:=λJ H Q=>to J H λx H1=>DJ K T x H1/\t J H1 λxs H2=>r x xs H2 Q
variable{o e:Expr}{es:Zi}{to:TE}{t:TA}{name:Str}{zu zo:Pos}{T id:String}{r:V->List V->Hp->VK->Prop}
def jC(pa:PlainAttrs T)(slot:Slot T name id)(hty:typeOf (.builtin id)=pure (.type "method_descriptor"))(hm:MtR X id r)(ho:PE X o to)(ha:PA X (e::es) t)
 (hbase:attributeBase o name X.env (eval o X.env)=eval o X.env:=by rfl)
 (hfew:((backTo zo (starEach (e::es) X.env)).all (λx=>!x.1)&&(backToKw zo (keywordEach [] X.env)).all (λx=>x.1.isSome)
   &&decide ((e::es).length+([]:List Keyword).length+(if([]:List Keyword).isEmpty then 0 else 1)<30))=true:=by rfl)
 (hline:(zu.endLine==zo.line)=true:=by rfl) (hs:starEach (e::es) X.env=(false,eval e X.env)::starEach es X.env:=by rfl) (hplain:(backTo zo (starEach es X.env)).any (·.1)=false:=by rfl):
 PE X (.Call (.Attribute o name zu) (e::es) [] zo) (sF X.K T r to t):=by
 intro z5 s J H Q I h;refine wpAny_Call_method_late hbase hfew hline rfl (bu (ho z5 s J H _ I h) λv s1 ⟨x,H1,I1,r1,ty,q1⟩=>?_);let⟨h1,h2⟩:=qs7 I1 r1 ty;refine⟨T,id,pa,slot,hty,h1,h2,?_⟩;have hA:=ha zo z5 s1 J H1 _ I1 q1;rw[hs]at hA ⊢;refine Calls.callWith_builtin (by show(false||(backTo zo (starEach es X.env)).any (·.1))=false;rw[hplain]<;>rfl) (Calls.evalArgs_plain ?_);exact bu hA λus s2 ⟨vs,H2,I2,r2,q2⟩=>hm z5 s2 J H2 x vs v us Q I2 r1 r2 q2
end
def IR(X:Cx)(id:String)(r:V->List V->Hp->VK->Prop):Prop:=
 ∀(z5:Z3) (s:Shared) (J:St) (H:Hp) (x:V) (xs:List V) (v:Value) (us:Ze) (Q:VK),Inv X z5 J H s->RelV x v->Vals xs us->r x xs H Q->
   wpAny (model X.prog X.w) X.A (call (.builtin id) (v::us)) (EP X z5 J Q) X.xe s
def Vals.one:∀{x:V} {us:Ze},Vals [x] us->∃u,us=[u]/\RelV x u
 |_,_,.cons r .nil=>⟨_,rfl,r⟩
def Vals.reverse{xs:List V}{us:Ze}(h:Vals xs us):Vals xs.reverse us.reverse:=by
 induction h with
 |nil=>exact .nil
 |cons r t ih=>rw[List.reverse_cons,List.reverse_cons];exact Vals.append ih (.cons r .nil)
theorem Vals.rep{xs:List V}{us:Ze}(h:Vals xs us):∀k:Nat,Vals (List.replicate k xs).flatten (List.replicate k us).flatten
 |0=>.nil
 | k+1=>by rw[List.replicate_succ,List.replicate_succ,List.flatten_cons,List.flatten_cons];exact Vals.append h (Vals.rep h k)
theorem eH(its:Ze):∀(k:Nat) (acc:Ze),
 List.foldl (λx1 x2=>x1++x2) acc.toArray (List.replicate k its.toArray)=(acc++(List.replicate k its).flatten).toArray
 |0,acc=>by simp
 | k+1,acc=>by
  have e:acc.toArray++its.toArray=(acc++its).toArray:=by simp
  have e2:(acc++its)++(List.replicate k its).flatten=acc++(List.replicate (k+1) its).flatten:=by rw[List.replicate_succ,List.flatten_cons,List.append_assoc]
  rw[<-e2,<-eH its k (acc++its),<-e,List.replicate_succ,List.foldl_cons]
section
variable{X:Cx}{z5:Z3}{J:St}{H:Hp}{s:Shared}{l b:Addr}{xs ys zs:List V}
def Inv.lset{its its':Ze}{n:Nat}{f:Array Value->Array Value}{t':Nat}(I:Inv X z5 J H s)(hH:H l=some (.lst xs))
 (e:s.heap.get? l=some {cls:=.type "list",data:=.seq its.toArray n}) (hf:f its.toArray=its'.toArray) (hv:Vals ys its') (hz:ys.length<=sizeLine):
 Inv X z5 J (aT H l (.lst ys)) {s with heap:=s.heap.update l (Obj.mapSeq f),toks:=t'}:=by
 have q:=PySem.IsL.update e f;rw[hf]at q;refine I.write (x:=l) (e:=l) (by rw[hH];exact trivial) (.inl rfl) (λb' u hb hu=>(kb s.heap (Obj.mapSeq f) (Ne.symm hb)).trans hu) ⟨_,q⟩ ?_;exact⟨hz,its',_,hv,q⟩
def Inv.lnew{its:Ze}{t':Nat}(I:Inv X z5 J H s)(hv:Vals ys its)(hz:ys.length<=sizeLine):
 Inv X z5 J (aT H s.heap.objs.size (.lst ys)) {s with heap:=s.heap.push {cls:=.type "list",data:=.seq its.toArray},toks:=t'}:=
 I.laid (λ_ _ q=>ja _ q) (jc _) ⟨hz,its,0,hv,jq _ rfl⟩
def Inv.fresh(I:Inv X z5 J H s):H s.heap.objs.size=none:=I.hok.fresh (jc _)
def Inv.lstM(I:Inv X z5 J H s)(hH:H l=some (.lst xs)):xs.length<=sizeLine/\∃(its:Ze) (n:Nat),Vals xs its/\xs.length=its.length/\s.heap.get? l=some {cls:=.type "list",data:=.seq its.toArray n}:=by let⟨z,its,n,r,e⟩:=I.hok l _ hH;exact⟨z,its,n,r,r.length,e⟩
def G5{n:Nat}(h:n<=sizeLine):Builtin.List.listTooLong n=false:=by unfold Builtin.List.listTooLong;exact decide_eq_false (by omega)
end
section
variable{X:Cx}
def yv:V->List V->Hp->VK->Prop:=λx vs H Q=>∃l xs y,x=.ref l/\vs=[y]/\H l=some (.lst xs)/\xs.length<sizeLine/\Q .non (aT H l (.lst (xs++[y])))
def kB:IR X "list.append" yv:=by intro z5 s J H x vs v us Q I rx rv h;obtain⟨l,xs,y,rfl,rfl,hH,hz,q⟩:=h;cases rx;obtain⟨u,rfl,ru⟩:=rv.one;let⟨z,its,n,r,hl,e⟩:=I.lstM hH;refine call_meets F.slot_list_append ⟨_,e,rfl⟩ F.entry_list_append (F.args_list_append_2 _ _) (PySem.list_append l its.toArray n u (by rw[jx];omega)) ⟨e,?_⟩;refine⟨.non,_,I.lset (its':=its++[u]) hH e (by simp) (r.append (.cons ru .nil)) ?_,rfl,q⟩;rw[jh,List.length_singleton];omega
def Gy:V->List V->Hp->VK->Prop:=λx vs H Q=>∃l b xs zs,x=.ref l/\vs=[.ref b]/\H l=some (.lst xs)/\H b=some (.lst zs)/\xs.length+zs.length<=sizeLine/\Q .non (aT H l (.lst (xs++zs)))
def qid:IR X "list.extend" Gy:=by
 intro z5 s J H x vs v us Q I rx rv h;obtain⟨l,b,xs,zs,rfl,rfl,hH,hB,hz,q⟩:=h;cases rx;obtain⟨u,rfl,ru⟩:=rv.one;cases ru;let⟨z,its,n,r,hl,e⟩:=I.lstM hH;let⟨z2,its2,n2,r2,hl2,e2⟩:=I.lstM hB;have hsz:its.toArray.size+its2.toArray.size<=sizeLine:=by rw[jx,jx];omega
 have hlong:¬(!its.toArray.isEmpty&&Builtin.List.listTooLong (its.toArray.size+its2.toArray.size))=true:=by rw[G5 hsz,Bool.and_false];exact Bool.false_ne_true
 refine call_meets F.slot_list_extend ⟨_,e,rfl⟩ F.entry_list_extend (F.args_list_extend_2 _ _)
  (AutoSeq1.list_extend_list_list_0 l its.toArray n b its2.toArray n2 hlong (by rw[jx];omega) (by omega)) ⟨e,e2,?_⟩
 refine⟨.non,_,I.lset (its':=its++its2) hH e (by simp) (r.append r2) ?_,rfl,q⟩;rw[jh];omega
def rh:R2:=λx y H Q=>∃l k xs,x=.ref l/\y=.int k/\H l=some (.lst xs)/\ -(2^63)<=k/\k<2^63/\xs.length*k.toNat<=sizeLine/\
 ∀p,H p=none->Q (.ref p) (aT H p (.lst (List.replicate k.toNat xs).flatten))
def ir{α:Type}(xs:List α)(k:Nat):(List.replicate k xs).flatten.length=k*xs.length:=by
 induction k with
 |zero=>simp
 |succ k ih=>rw[List.replicate_succ,List.flatten_cons,jh,ih,Nat.succ_mul,Nat.add_comm]
def wO:OpR X (binaryOp .Mult) rh:=by
 intro z5 s J H x y v u Q I rx ry h;obtain⟨l,k,xs,rfl,rfl,hH,h1,h2,hz,q⟩:=h;cases rx;obtain⟨t,rfl⟩:=ry;let⟨z,its,n,r,hl,e⟩:=I.lstM hH;have zc:its.toArray.size*k.toNat<=sizeLine:=by rw[jx,<-hl];exact hz
 have hcap:¬its.toArray.size*k.toNat>(2^63-1) / 8:=by
  have:(sizeLine:Nat)<=(2^63-1) / 8:=by decide
  omega
 have hfit:¬(!Builtin.List.listFitsIndex k)=true:=by rw[fitsIndex_both h1 h2];exact Bool.false_ne_true
 have hlong:¬Builtin.List.listTooLong (its.toArray.size*k.toNat)=true:=by rw[G5 zc];exact Bool.false_ne_true
 have hnew:List.foldl (λx1 x2=>x1++x2) #[] (List.replicate (if its.toArray.isEmpty=true then 0 else k.toNat) its.toArray)=(List.replicate k.toNat its).flatten.toArray:=by
  have f0:∀m:Nat,List.foldl (λx1 x2=>x1++x2) #[] (List.replicate m its.toArray)=(List.replicate m its).flatten.toArray:=λm=>by have:=eH its m [];rw[List.nil_append]at this;exact this
  rw[f0];cases its with
  |nil=>simp
  |cons a r'=>rw[if_neg (by simp)]
 refine wpAny_binaryOp_repeat_ref (T:="list") (U:="int") (by decide) ⟨_,e,rfl⟩ (λs'=>typeIs_int s' k t) noFill_list_mul F.fills_int_mul F.slot_int_rmul repeat_list F.slot_int_index.lookup
  (call_meets F.slot_int_rmul (typeIs_int s k t) F.entry_int_rmul (F.args_int_rmul_2 _ _) (int___rmul___int_list k t l its.toArray n)
    ⟨e,rfl,⟨_,e,rfl⟩,call_meets F.slot_list_mul ⟨_,e,rfl⟩ F.entry_list_mul (F.args_list_mul_2 _ _) (AutoListH.list___mul___list_int_3 l its.toArray n k t hfit hcap hlong) ⟨e,?_⟩⟩)
 rw[hnew];exact⟨.ref _,_,I.lnew (t':=s.toks) (r.rep k.toNat) (by rw[ir,Nat.mul_comm];exact hz),rfl,q _ I.fresh⟩
end
section
variable{prog:Program}{w:World}{A:Around}{E:Z0}{s:Shared}
end
section
variable{X:Cx}
end
end L2
namespace Att
open PySem PySem.W PySem.Calls PyProof.Rows
def q7z{P:Params}{h:Heap}:∀(ns:Zf) (vs:Ze),WellAll P h vs (ns.map WData.int)->IntsAre vs ns:=by
 intro ns;induction ns with
 | nil=>
  intro vs w;rw[List.map_nil]at w;cases w;exact .nil
 | cons n ns ih=>
  intro vs w;rw[jz]at w;cases w with
  | cons a b=>
   cases a;exact .cons _ _ (ih _ b)
def qgb{l:OpenLaw}{n:Nat}(hn:l.most=some n){P:Params}{h:Heap}{args:List WData}{vals:Ze}
 (hpre:l.row.toRowW.claim.pre args=true) (hwl:WellAll P h vals args):
 ∃a vs ns,vals=[Value.ref a]/\args=[WData.list (ns.map WData.int)]/\h.get? a=some {cls:=.type "list",data:=.seq vs.toArray}/\IntsAre vs ns/\ns.length<=n:=by
 have hsh:WShape.hasAll [] args [.list .int]=true:=(pre_splitW hpre).1;have hc:l.pre.holds [] {args:=args}=true:=(pre_splitW hpre).2;obtain⟨d,r,rfl,h1,h2⟩:=hasAllW_cons hsh;obtain rfl:=hasAllW_nil h2;obtain⟨xs,rfl,h3⟩:=hasW_list h1;obtain⟨ns,rfl⟩:=items_int h3;have zc:ns.length<=n:=by
  unfold OpenLaw.pre at hc;have h4:(WTm.not (.lt (.lit (.int (n:Int))) (.len (.arg 0)))).holds [] {args:=[.list (ns.map .int)]}=true:=by have h4:=(holds_andW hc).1;rw[hn]at h4;exact h4
  have h5:=condW_of h4 (w_not (w_lt w_lit (w_len_list (w_arg rfl))));rw[j7]at h5;refine Nat.le_of_not_lt λq=>?_;have q':(n:Int)<((ns.length:Nat):Int):=by omega
  first
   |(rw[decide_eq_true q']at h5;exact absurd h5 (by decide))
   |(simp at h5;omega)
 cases hwl with
 | cons w1 w2=>
  cases w2;cases w1 with
  |list ho hall=>exact⟨_,_,ns,rfl,rfl,ho,q7z ns _ hall,zc⟩
def qho(l:OpenLaw)(args:List WData):l.row.toRowW.claim.post args (.bool true) args=true:=
 postW_of (r:=l.row.toRowW) (X:=(true==true))
  (show WShape.has [] (.bool true) .bool=true by first|rfl|decide|simp[WShape.has,WShape.arms,WShape.armsAll])
  (show(WTm.eq .res (.lit (.bool true))).value [] {args:=args,res:=some (.bool true),after:=args}=some (.bool (true==true))from w_eq_bool (w_res rfl) w_lit) rfl
def attach_call{l:OpenLaw}{n:Nat}{q:Program}{loose:Zj}{XP:(Str->Option Value)->Heap->Prop}{YP:World->Heap->Prop}{d:DefRec}
 (hn:l.most=some n) (hdf:d.params.defaults=[])
 (call:∀(w:World) (s₀ s₁:Shared) (mg mb:Za) (fa:Addr) (o:Obj) (pm cd doc:Value) (a:Addr) (vs:Ze) (ns:Zf),
   Ground q loose [] XP w s₀ mg mb s₁.heap->YP w s₁.heap->
   s₁.heap.get? fa=some o->o.data=.func (docDef d.name d.params d.body d.scope pm cd doc)->s₁.heap.CodeRec cd d.name->mg d.name=some (.ref fa)->
   s₁.heap.get? a=some {cls:=.type "list",data:=.seq vs.toArray}->IntsAre vs ns->ns.length<=n->s₁.gens=#[]->
   codeAny (model l.prog w) callerA (.call (.ref fa) ⟨[.ref a],[]⟩) (λr s'=>r=.ok (.ret (.bool true))/\OldK s₁.heap s'.heap/\s'.os=s₁.os/\AllBare s'.gens) s₁):
 WalkO q loose XP YP l.row.toRowW d [] (λf vs=>PySem.call f vs):=by
 intro w s₀ s₁ mg mb G Y fa o pm cd doc dV kV ho hd hcd hD hmg hg args vals as hpre hlay hrd hwl hlo;obtain rfl:dV=.none:=Dflts.none hD hdf;obtain rfl:kV=.none:=Dflts.noKw hD;obtain⟨a,vs,ns,rfl,rfl,hobj,j4,zc⟩:=qgb hn hpre hwl;refine enter_call (codeAny_mono (call w s₀ s₁ mg mb fa o pm cd doc a vs ns G Y ho (fd_plain hd) hcd hmg hobj j4 zc hg) λr s' hq=>?_);obtain⟨rfl,h2,h3,h4⟩:=hq;exact⟨.inl ⟨.bool true,.bool true,[],rfl,λ_=>rfl,.bool true,qho l _,λ_=>⟨List.Pairwise.nil,λ_ hm=>(nomatch hm)⟩⟩,h2,h3,h4⟩
section
variable{prog:Program}{w:World}{A:Around}{E:Z0}{s:Shared}{K:Frag}
end
end Att
namespace L2
open PySem PySem.Spec PyProof.Rows
theorem HX:∀{vs:Ze} {ns:Zf},IntsAre vs ns->Vals (ns.map V.int) vs
 |_,_,.nil=>.nil
 |_,_,.cons n t h=>.cons ⟨t,rfl⟩ (HX h)
noncomputable def dX(s:Stmt)(j:Nat):Stmt:=match s with
 |.ClassDef _ _ _ body _ _ _ _ _ _ _=>body.getD j (.Pass ⟨0,0,0,0⟩)
 |_=>.Pass ⟨0,0,0,0⟩
noncomputable def il(s:Stmt):Arguments:=match s with
 |.FunctionDef _ a _ _ _ _ _ _ _ _=>a
 |_=>{posonlyargs:=[],args:=[],vararg:=none,kwonlyargs:=[],kw_defaults:=[],kwarg:=none,defaults:=[]}
noncomputable def fH(s:Stmt):List Stmt:=match s with
 |.FunctionDef _ _ b _ _ _ _ _ _ _=>b
 |_=>[]
noncomputable def aU(s:Stmt):Scope:=match s with
 |.FunctionDef _ _ _ _ _ _ sc _ _ _=>sc
 |_=>{kind:=.function,names:=[],isGenerator:=false,isCoroutine:=false}
abbrev bJ:io:=λ_ _ _ _ _ _=>False
abbrev E0:XK:=λ_ _ _=>False
def mF{X:Cx}:oU bJ X E0:=λ_ _ _ _ _ _ _ h=>h.elim
structure Fun(K:aq)(x qual:Str)(st:Stmt)(f:Addr)(fd:FuncData):Prop where
 ex:∃(oc:Value) (od:Zc) (kV doc pm:Value) (an:Zc) (cdv ct:Value) (osl:Array (Option Value)),
  fd=W.fnOf x qual (il st) (fH st) (aU st) .none kV doc pm an cdv ct/\K.lookup f=some ⟨oc,od,.func fd,osl⟩/\W.codeIn K cdv qual=true
 kp:W.keepIn K (.ref f)=true
section
variable{P:Program}{w:World}{K:aq}{mg:Za}{base:Heap}
def Fun.ok{x qual:Str}{st:Stmt}{f:Addr}{fd:FuncData}{N ps:Zj}{k:Nat}{sp:Sp}(F:Fun K x qual st f fd)(S:q0m N ps (aU st))(len:∀vs H Q E,sp vs H Q E->vs.length=ps.length)
 (ze:∀(cdv:Value) (A:Around) (outer:List Env) (s:Shared) (H:Hp) (vs:List V) (Q:VK) (E:XK),Room k (A.deeper (envOfC qual (aU st) s.heap.objs.size f cdv))->sp vs H Q E->
   ∃t,PSs (ff bJ P w K mg base N qual (aU st) f cdv A outer s H E).nox (fH st) t/\t {nx:=λ_ H'=>Q .non H',rt:=Q} (bn N vs) H):FnOk P w K mg base bJ (k+1) f fd ps sp:=by
 obtain⟨oc,od,kV,doc,pm,an,cdv,ct,osl,rfl,lk,hcd⟩:=F.ex;refine vM lk hcd S len λA outer s H vs Q E hr hsp=>?_;let⟨t,h,q⟩:=ze cdv A outer s H vs Q E hr hsp;exact⟨t,h.nox,q⟩
def qw3{x qual:Str}{st:Stmt}{f:Addr}{oc:Value}{od an:Zc}{osl:Array (Option Value)}{kV doc pm cdv ct:Value}(l:K.lookup f=some ⟨oc,od,.func (W.fnOf x qual (il st) (fH st) (aU st) .none kV doc pm an cdv ct),osl⟩)
 (c:W.codeIn K cdv qual=true) (k:W.keepIn K (.ref f)=true):Fun K x qual st f (W.fnOf x qual (il st) (fH st) (aU st) .none kV doc pm an cdv ct):=⟨⟨oc,od,kV,doc,pm,an,cdv,ct,osl,rfl,l,c⟩,k⟩
end
section
variable{X:Cx}
def pv(i:Nat){x:Str}{pos:Pos}(hN:X.N[i]? =some x:=by rfl)(hv:lK X.env.scope x:=by first|exact Or.inl rfl|exact Or.inr (Or.inl rfl)|exact Or.inr (Or.inr rfl))(hd:(x==("__debug__":Str))=false:=by decide)
 (hcd:(x==("__classdict__":Str))=false:=by decide):PE X (.Name x pos) (dL i):=qto hN hv hd hcd
end
def fT{A B:Prop}(h:B):if false=true then A else B:=by rw[if_neg Bool.false_ne_true];exact h
def fS{A B:Prop}(h:A):if true=true then A else B:=by rw[if_pos rfl];exact h
def Same(H H':Hp):Prop:=∀b o,H b=some o->H' b=some o
def Same.refl(H:Hp):Same H H:=λ_ _ h=>h
def Same.trans{H H1 H2:Hp}(a:Same H H1)(b:Same H1 H2):Same H H2:=λc o h=>b c o (a c o h)
def Same.free{H H':Hp}(e:Same H H'){l:Addr}(h:H' l=Option.none):H l=Option.none:=by
 cases q:H l with
 |none=>rfl
 | some o=>
  rw[e l o q]at h;cases h
section
variable{X:Cx}{z5:Z3}{J:St}{H:Hp}{s:Shared}
def Inv.track{d:Addr}{o:HO}(I:Inv X z5 J H s)(hn:H d=none)(hy:X.s₀.heap.objs.size<=d)(hL:d≠X.env.locals)(hc:∀x c,X.env.cells.lookup x=some c->c≠d)
 (hp:∀p∈X.pn++z5,p.1≠d) (new:ObjOk X.prog X.w (aT H d o) s.heap d o):Inv X z5 J (aT H d o) s:=by
 have old:∀b ob,X.s₀.heap.get? b=some ob->b≠d:=λb ob e=>jl (jr (j9 e) hy);have was:∀b u,H b=some u->b≠d:=λb u e=>gp e hn;refine⟨I.ok,I.os,I.bare,⟨I.base.keep,I.base.slot,λb ob e n hx=>?_,I.base.there,λb xs e=>?_,λb ob u e=>?_,λb ps e=>?_⟩,I.loc,I.cell,?_,λx c e=>?_,λp z=>?_,λb u e=>?_,I.len⟩
 .rw[bf (old b ob e)];exact I.base.free b ob e n hx
 .have q:=I.base.tups b xs e;rw[bf (was b _ q)];exact q
 .have q:=I.base.frzs b ob u e;rw[bf (was b _ q)];exact q
 .let⟨m,q⟩:=I.base.tbls b ps e;exact⟨m,by rw[bf (was b _ q)];exact q⟩
 .rw[bf (Ne.symm hL)];exact I.free
 .rw[bf (hc x c e)];exact I.freeC x c e
 .let⟨e,n,r⟩:=I.pin p z;exact⟨e,by rw[bf (hp p z)];exact n,r⟩
 .by_cases hb:b=d
  .subst hb;rw[cT]at e;cases e;exact new
  .rw[bf hb]at e;refine(I.hok b u e).stay (λc v _ q=>q) (λc q=>?_) λc xs q=>?_
   .rw[bf (was c _ q)];exact q
   .rw[bf (was c _ q)];exact q
end
theorem zA{env:Env}:∀(names:List (Str×NameKind)) (acc:List (Str×Addr)),(∀y∈names,y.2=.free->∃c,env.cells.lookup y.1=some c)->
 ∃cl,(forIn names acc λ(p:Str×NameKind) (cs:List (Str×Addr))=>(if(p.2==NameKind.free)=true then do let c <-cellOf env p.1;pure (ForInStep.yield ((p.1,c)::cs))else pure (ForInStep.yield cs):Sem (ForInStep (List (Str×Addr)))))=pure cl/\
  (∀x c,cl.lookup x=some c->acc.lookup x=some c∨env.cells.lookup x=some c)/\(∀x c,acc.lookup x=some c->∃c',cl.lookup x=some c')/\∀y∈names,y.2=.free->∃c,cl.lookup y.1=some c
 |[],acc,_=>⟨acc,rfl,λ_ _ h=>.inl h,λ_ c h=>⟨c,h⟩,λ_ h=>nomatch h⟩
 | (n,k)::r,acc,hh=>by
  by_cases hk:k=.free
  .subst hk;let⟨c,hc⟩:=hh (n,.free) jf rfl;let⟨cl,e,h1,h2,h3⟩:=zA (env:=env) r ((n,c)::acc) λy hy=>hh y (jd _ hy);have ec:cellOf env n=pure c:=by
    unfold cellOf;rw[hc]
   have here:∃c',cl.lookup n=some c':=h2 n c (by simp[List.lookup_cons]);refine⟨cl,?_,λx d q=>?_,λx d q=>?_,λy hy hf=>?_⟩
   .rw[List.forIn_cons];simp only[beq_self_eq_true,if_true,ec,pure_bind];exact e
   .rcases h1 x d q with z|z
    .rw[List.lookup_cons]at z;by_cases hx:x=n
     .subst hx;simp only[beq_self_eq_true]at z;cases z;exact .inr hc
     .rw[beq_eq_false_iff_ne.mpr hx]at z;exact .inl z
    .exact .inr z
   .by_cases hx:x=n
    .subst hx;exact here
    .exact h2 x d (by rw[List.lookup_cons,beq_eq_false_iff_ne.mpr hx];exact q)
   .rcases List.mem_cons.mp hy with rfl|hy
    .exact here
    .exact h3 y hy hf
  .let⟨cl,e,h1,h2,h3⟩:=zA (env:=env) r acc λy hy=>hh y (jd _ hy);refine⟨cl,?_,h1,h2,λy hy hf=>?_⟩
   .rw[List.forIn_cons];have hb:(k==NameKind.free)=false:=by simpa using hk
    simp only[hb,Bool.false_eq_true,if_false,pure_bind];exact e
   .rcases List.mem_cons.mp hy with rfl|hy
    .exact absurd hf hk
    .exact h3 y hy hf
def IE{env:Env}{scope:Scope}(hh:∀y∈scope.names,y.2=.free->∃c,env.cells.lookup y.1=some c):
 ∃cl,closureFor scope env=pure cl/\(∀x c,cl.lookup x=some c->env.cells.lookup x=some c)/\∀y∈scope.names,y.2=.free->∃c,cl.lookup y.1=some c:=by
 let⟨cl,e,h1,_,h3⟩:=zA (env:=env) scope.names [] hh;refine⟨cl,?_,λx c q=>(h1 x c q).elim (λz=>by simp at z) id,h3⟩;unfold closureFor;simp only[bind_pure];exact e
noncomputable def dJ(X:Cx)(N:Zj)(scope:Scope)(s:Shared)(H:Hp)(C:Addr)(cl:List (Str×Addr))(fp:List Addr):Cx where
 prog:=X.prog
 w:=X.w
 K:=X.K
 mg:=X.mg
 base:=X.base
 A:=X.A
 N:=N
 s₀:=s
 H₀:=H
 env:=compEnvC scope cl C X.env
 outer:=X.stack
 stack:=X.stack
 ex:=fp
 fn:=λ_=>false
 calm:=X.calm
 pn:=[]
 xe:=λ_ _=>False
noncomputable def df(n:Nat)(js:Zg)(J:St):St:=List.replicate n none++js.map λj=>(J[j]?).join
def qO(n:Nat)(g:TG):Prop:=∀v J H Q,g v J H Q->g v J H λJ2 H2=>Q J2 H2/\J2.length=J.length/\∀i,n<=i->J2[i]? =J[i]?
def pf{n i:Nat}(h:i<n):qO n (gE i):=λv J H Q q=>⟨q,by simp,λj hj=>by rw[List.getElem?_set_ne (by omega)]⟩
def qC{K:aq}{n i j:Nat}(hi:i<n)(hj:j<n):qO n (lV K 2 (sK (gE i) (sK (gE j) nU))):=λv J H Q q=>by obtain⟨a,xs,e,h,hl,x,r,e1,y,r2,e2,e3,q⟩:=q;exact⟨a,xs,e,h,hl,x,r,e1,y,r2,e2,e3,q,by simp,λk hk=>by rw[List.getElem?_set_ne (by omega),List.getElem?_set_ne (by omega)]⟩
def qM(X:Cx)(ifs:Zi)(t:TT):Prop:=
 ∀(z5:Z3) (s:Shared) (J:St) (H:Hp) (Q:Bool->Hp->Prop),Inv X z5 J H s->t J H Q->
   wpAny (model X.prog X.w) X.A (forIn ifs true λc r=>if r=true then do let ok <-isTrue c X.env (eval c X.env);pure (ForInStep.yield ok)else pure (ForInStep.yield r)) (TP X z5 J Q) X.xe s
def iI:TT:=λ_ H Q=>Q true H
def qt{X:Cx}:qM X [] iI:=λ_ _ _ H _ I h=>wpAny_tests_nil ⟨H,I,h⟩
def o8{X:Cx}{c:Expr}{t:TT}(hc:PT X c t):qM X [c] t:=λz5 s J H Q I h=>wpAny_tests_one (hc z5 s J H Q I h)
def uC(g:TG)(tt:TT)(te:TE)(J0:St)(Fin:List V->Hp->Prop)(σ:It)(H1:Hp):Prop:=
 ∃W:Nat->Nat->List V->Hp->Prop,(∃m,W 0 m [] H1)/\∀i m ys H2,W i m ys H2->
  (σ.stop i H2/\ys.length<=sizeLine/\Fin ys H2)∨
  (σ.go i H2/\ys.length<sizeLine/\∃N:List V->Hp->Prop,(∀ys' H',N ys' H'->∃m',m'<m/\W (i+1) m' ys' H')/\∀x H3,σ.yld i H2 x H3->g x J0 H3 λσ4 H4=>tt σ4 H4 λb H5=>
    if b=true then te σ4 H5 λy H6=>N (ys++[y]) H6 else N ys H5)
def p7(n:Nat)(js:Zg)(wi:TI)(g:TG)(tt:TT)(te:TE):TE:=λJ H Q=>
 wi J H (uC g tt te (df n js J) λys H2=>∀D,H2 D=none->Q (.ref D) (aT H2 D (.lst ys)))
def sS(k n:Nat)(js:Zg)(wi:TI)(g:TG)(tt:TT)(te:TE):TS:=λE J H=>
 wi J H (uC g tt te (df n js J) λys H2=>∀D,H2 D=none->E.nx (J.set k (some (.ref D))) (aT H2 D (.lst ys)))
def qjn{prog:Program}{w:World}{A:Around}{R:Zb}{s:Shared}{elt zh zd:Expr}{ifs:Zi}{scope:Scope}{pos:Pos}{it acc:Value}{env:Env}(I:Nat->Shared->Prop)
 (turn:∀n s,I n s->wpAny (model prog w) A (pyNext it) (λr s₁=>(r=none/\R (.ok .next) s₁)∨∃v,r=some v/\wpAny (model prog w) A (letOwnedTupleGo zh it v) (λ_ s₀=>
   wpAny (model prog w) A (assign zh env v) (λ_ s₂=>
    wpAny (model prog w) A (forIn ifs true λc r=>if r=true then do let ok <-isTrue c env (eval c env);pure (ForInStep.yield ok)else pure (ForInStep.yield r)) (λok s₃=>
     if ok=true then wpAny (model prog w) A (eval elt env) (λx s₄=>wpAny (model prog w) A (call (.builtin "list.append") [acc,x]) (λ_ s₅=>∃m,m<n/\I m s₅) (λ_ _=>False) s₄) (λ_ _=>False) s₃
     else∃m,m<n/\I m s₃) (λ_ _=>False) s₂) (λ_ _=>False) s₀) (λ_ _=>False) s₁) (λ_ _=>False) s)
 (n:Nat) (h:I n s):codeAny (model prog w) A (.compLoop (.ListComp elt [⟨zh,zd,ifs,0⟩] scope pos) 0 it acc env) R s:=by
 have no:∀{E:Z0} (x:Value) (z:Shared),False->E x z:=λ_ _ f=>f.elim;refine codeAny_loop rfl I (λn s hI=>?_) n h;show wpAny _ A ((compTurn (.ListComp elt [⟨zh,zd,ifs,0⟩] scope pos) 0 it acc env).onRaise (λx=>do noteFrame x env;theTreesLotGoes x)) _ _ s;refine wpAny_noted ?_;rw[compTurn_list];refine j6 (wpAny_standAt (j6 (xo (turn n s hI) (λr s₁ h₁=>?_) no)));rcases h₁ with⟨e,h₁⟩|⟨v,e,h₁⟩
 .subst e;exact j8 h₁
 .subst e;refine j6 (xo h₁ (λ_ s₀ h₀=>j6 (xo h₀ (λ_ s₂ h₂=>j6 (xo h₂ (λok s₃ h₃=>?_) no)) no)) no);cases ok with
  |false=>exact j8 ⟨rfl,h₃⟩
  | true=>
   have q:wpAny (model prog w) A (eval elt env) _ _ s₃:=h₃;exact j6 (j6 (xo q (λx s₄ h₄=>j6 (xo h₄ (λ_ s₅ h₅=>j8 (j8 ⟨rfl,h₅⟩)) no)) no))
noncomputable def fM(sc:Scope)(N0 N:Zj)(n:Nat)(js:Zg)(scope:Scope):Bool:=
 decide (scope.kind=.function)&&scope.names.all (λy=>decide (y.2≠.cell))&&scope.names.all (λy=>decide (y.2≠.free)||decide (sc.names.lookup y.1=some .cell)||decide (sc.names.lookup y.1=some .free))&&
 scope.names.all (λy=>decide (y.2≠.local)||decide (scope.names.lookup y.1=some .local))&&decide (js.map (λj=>N0[j]?)=(N.drop n).map some)&&
 (N.drop n).all (λx=>decide (sc.names.lookup x=some .cell)||decide (sc.names.lookup x=some .free))&&(N.drop n).all (λx=>decide (scope.names.lookup x=some .free))&&decide (n+js.length=N.length)
theorem IG{env:Env}:∀{names:List (Str×NameKind)} {x:Str},(names.map λ(n,k)=>if(k==NameKind.free&&env.scope.kind==.function&&env.kindOf n==some .cell)then(n,NameKind.cell)else(n,k)).lookup x=some .cell∨
 (names.map λ(n,k)=>if(k==NameKind.free&&env.scope.kind==.function&&env.kindOf n==some .cell)then(n,NameKind.cell)else(n,k)).lookup x=some .free->(∀y∈names,y.2≠.cell)->∃y∈names,y.1=x/\y.2=.free
 |[],_,h,_=>by rcases h with h|h<;>simp at h
 | (n,k)::r,x,h,hc=>by
  have ih:=@IG env r x;by_cases hx:x=n
  .subst hx;refine⟨(x,k),jf,rfl,?_⟩;have hk:k≠.cell:=hc (x,k) jf;by_cases hf:k=.free
   .exact hf
   .exfalso;have hb:(k==NameKind.free)=false:=by simpa using hf
    simp only[List.map_cons,hb,Bool.false_and,Bool.false_eq_true,if_false,List.lookup_cons,beq_self_eq_true]at h;rcases h with h|h
    .exact hk (jg h)
    .exact hf (jg h)
  .have hb:(x==n)=false:=beq_eq_false_iff_ne.mpr hx;have step:∀(q:Str×NameKind) (l:List (Str×NameKind)),q.1=n->List.lookup x (q::l)=List.lookup x l:=λq l e=>by
    obtain⟨a,b⟩:=q;have e':a=n:=e;subst e';rw[List.lookup_cons,hb]
   have nm:(if(k==NameKind.free&&env.scope.kind==.function&&env.kindOf n==some .cell)then(n,NameKind.cell)else(n,k)).1=n:=by split<;>rfl
   rw[jz,step _ _ nm]at h;let⟨y,hy,r1,r2⟩:=ih h λy hy=>hc y (jd _ hy);exact⟨y,jd _ hy,r1,r2⟩
theorem mem_of_lookup{x:Str}{k:NameKind}:∀{l:List (Str×NameKind)},l.lookup x=some k->(x,k)∈l
 |[],h=>by simp at h
 | (a,b)::r,h=>by
  rw[List.lookup_cons]at h;by_cases hx:x=a
  .subst hx;simp only[beq_self_eq_true]at h;cases h;exact jf
  .rw[beq_eq_false_iff_ne.mpr hx]at h;exact jd _ (mem_of_lookup h)
theorem II{env:Env}{x:Str}:∀(l:List (Str×NameKind)),l.lookup x=some .free->(l.map λ(n,k)=>if(k==NameKind.free&&env.scope.kind==.function&&env.kindOf n==some .cell)then(n,NameKind.cell)else(n,k)).lookup x≠some .local
 |[],q=>by simp at q
 | (a,b)::r,q=>λz=>by
  rw[List.lookup_cons]at q;by_cases hx:x=a
  .subst hx;simp only[beq_self_eq_true]at q;cases q;rw[jz]at z;dsimp only at z;split at z
   .simp[List.lookup_cons]at z
   .simp[List.lookup_cons]at z
  .rw[beq_eq_false_iff_ne.mpr hx]at q;refine II (env:=env) r q ?_;by_cases hc:(b==NameKind.free&&env.scope.kind==.function&&env.kindOf a==some .cell)=true
   .simp only[List.map_cons,if_pos hc,List.lookup_cons,beq_eq_false_iff_ne.mpr hx]at z;exact z
   .simp only[List.map_cons,if_neg hc,List.lookup_cons,beq_eq_false_iff_ne.mpr hx]at z;exact z
def GH(n:Nat)(js:Zg)(J:St):(df n js J).length=n+js.length:=by simp[df]
def GI{n:Nat}{js:Zg}{J:St}{i:Nat}(h:i<n):(df n js J)[i]? =some none:=by unfold df;rw[k9 (by simpa using h),k8,if_pos h]
def qmd{n:Nat}{js:Zg}{J:St}{i:Nat}{v:V}(h:n<=i)(e:(df n js J)[i]? =some (some v)):∃j,js[i-n]? =some j/\J[j]? =some (some v):=by
 unfold df at e;rw[xw (by simpa using h),jw,je]at e;cases q:js[i-n]? with
 |none=>rw[q]at e;cases e
 | some j=>
  rw[q]at e;refine⟨j,rfl,?_⟩;have e':(J[j]?).join=some v:=jg e;cases z:J[j]? with
  |none=>rw[z]at e';cases e'
  |some o=>rw[z]at e';exact congrArg some e'
section
variable{X:Cx}{tg elt zd:Expr}{ifs:Zi}{scope:Scope}{pos:Pos}{N N0:Zj}{n:Nat}{js:Zg}{sc:Scope}{g:TG}{tt:TT}{te:TE}
def Ie{z5:Z3}{J:St}{H:Hp}{s:Shared}{it:Addr}{fp:List Addr}{tn:Nat->Heap->Prop}{σ:It}{cl:List (Str×Addr)}{Fin:List V->Hp->Prop}{RR:Value->Addr->Result->Shared->Prop}{E:Z0}
 (hc:X.calm=true) (hsc:X.env.scope=sc) (hN0:X.N=N0) (ok:fM sc N0 N n js scope=true)
 (hg:∀s H C cl fp,PG (dJ X N scope s H C cl fp) tg g) (hgo:qO n g) (ht:∀s H C cl fp,qM (dJ X N scope s H C cl fp) ifs tt) (he:∀s H C cl fp,PE (dJ X N scope s H C cl fp) elt te)
 (I:Inv X z5 J H s) (T:Turn X.prog X.w X.K tg σ fp it tn) (st:tn 0 s.heap) (fo:∀b∈fp,gD X z5 H b)
 (hcl:∀x c,cl.lookup x=some c->X.env.cells.lookup x=some c) (hcl2:∀y∈scope.names,y.2=.free->∃c,cl.lookup y.1=some c)
 (G:uC g tt te (df n js J) Fin σ H)
 (k:∀(D C:Addr) (oC:Obj) (m:Za) (ys:List V) (H':Hp) (s':Shared),Inv X (z5++[(C,oC)]) J (aT H' D (.lst ys)) s'->H' D=none->s'.heap.Ns C m->X.s₀.heap.objs.size<=C->C≠X.env.locals->(∀x c,X.env.cells.lookup x=some c->c≠C)->
   (∀p∈X.pn++z5,p.1≠C)->aT H' D (.lst ys) C=none->Fin ys H'->RR (.ref D) C (.ok .next) s'):
 wpAny (model X.prog X.w) X.A (newList []) (λacc s₃=>wpAny (model X.prog X.w) X.A (newFunctionEnv scope X.env.globals cl [] X.env.qual none .none (some X.env)) (λcenv s₄=>
  codeAny (model X.prog X.w) X.A (.compStart (.ListComp elt [⟨tg,zd,ifs,0⟩] scope pos) 0 (.ref it) acc {cenv with scope:=relabel scope X.env}) (RR acc cenv.locals) s₄) E s₃) E s:=by
 simp only[fM,Bool.and_eq_true,decide_eq_true_eq,List.all_eq_true,Bool.or_eq_true]at ok;obtain⟨⟨⟨⟨⟨⟨⟨kind,cell⟩,free⟩,nms⟩,cap⟩,lc⟩,lf⟩,len⟩:=ok;subst hN0 hsc;refine xx (wpAny_newFunctionEnv cell (by intro y hy;simp at hy) (λh1 ns1 sb1=>?_) kind);dsimp only at ns1 sb1 ⊢;generalize eG:s.heap.push {cls:=.type "list",dict:=none,data:=.seq ([]:Ze).toArray}=G2 at ns1 sb1 ⊢;have eC:G2.objs.size=s.heap.objs.size+1:=by rw[<-eG,xj]
 generalize eCC:G2.objs.size=C at ns1 sb1 eC ⊢;generalize eD:s.heap.objs.size=D at eC ⊢;have ltD:∀b o,s.heap.get? b=some o->b<D:=λb o e=>eD▸j9 e;have DC:D≠C:=by rw[eC];exact jl (Nat.lt_succ_self _)
 have bC:∀b:Nat,b<D->b≠C:=λb hb z=>by rw[z,eC]at hb;exact absurd hb (Nat.not_lt.mpr (Nat.le_succ _))
 have old:∀b o,s.heap.get? b=some o->h1.get? b=some o:=λb o e=>by have hb:=ltD b o e;refine sb1.extBut b o (bC b hb) (ja _ ?_);rw[<-eG];exact ja _ e
 have accD:h1.get? D=some {cls:=.type "list",data:=.seq ([]:Ze).toArray 0}:=by refine sb1.extBut _ _ DC (ja _ ?_);rw[<-eG,<-eD];exact jq _ rfl
 have freeD:H D=none:=I.hok.fresh (by rw[eD];exact jc _);have freeC:H C=none:=I.hok.fresh (by rw[eD,eC];exact Nat.le_succ _);have fpD:∀b∈fp,b<D:=λb hb=>let ⟨o,e,_⟩:=T.obj 0 _ st b hb;ltD b o e
 have cellD:∀x c,X.env.cells.lookup x=some c->c<D:=λx c e=>let ⟨v,o,ho,_⟩:=I.cell x c e;ltD c o ho
 have pinD:∀p∈X.pn++z5,p.1<D:=λp hp=>ltD _ _ (I.pin p hp).1;have stkD:∀b∈gT X.stack,b<D:=λb hb=>by
  rcases List.mem_cons.mp (I.stkSub b hb)with e|z
  .subst e;rw[<-eD];exact I.lt
  .let⟨_,o,ho,_⟩:=I.ok.funs.mem z;rw[<-eD];exact jr (j9 ho) I.sz
 have fpS:∀b∈fp,b∉gT X.stack:=λb hb z=>by
  let⟨_,f1,f2,_⟩:=fo b hb;rcases List.mem_cons.mp (I.stkSub b z)with e|q
  .exact f1 e
  .exact f2 q
 have kindB:(compEnvC scope cl C X.env).scope.kind=.function:=kind;have okB:(dJ X N scope s H C cl fp).Ok:={
  mod:=I.ok.mod
  kind:=kind
  glob:=I.ok.glob
  blt:=I.ok.blt
  above:=by show s.heap.objs.size<=C;rw[eD,eC];exact Nat.le_succ _
  inj:=λx y c e1 e2=>I.ok.inj x y c (hcl x c e1) (hcl y c e2)
  has:=λx hx=>by let⟨y,hy,e,f⟩:=IG (env:=X.env) (names:=scope.names) (x:=x) hx cell;subst e;exact hcl2 y hy f
  cab:=λx c z=>by cases z
  hd:=I.ok.hd
  frames:=I.ok.frames
  stk:=.inl rfl
  exf:=λb hb=>⟨bC b (fpD b hb),λx c e=>(fo b hb).2.2.2.2.1 x c (hcl x c e)⟩
  bs:=λb o e=>I.bs b o e
  bsz:=ju I.ok.bsz I.sz
  noex:=λb o e hb=>by
   rcases(fo b hb).2.2.2.1 with z|z
   .exact I.ok.noex b o e z
   .exact absurd (jr (j9 e) (ju I.ok.bsz z)) (xf _)
  exfs:=fpS
  funs:=I.stack
  frf:=I.stkFree}
 have upH:∀b o,s.heap.get? b=some o->h1.get? b=some o:=old;have IB:Inv (dJ X N scope s H C cl fp) [(D,{cls:=.type "list",data:=.seq ([]:Ze).toArray 0})] (df n js J) H {s with heap:=h1,toks:=s.toks+([]:List (Str×Value)).length}:=by
  refine⟨okB,rfl,I.bare,Un.kept old,⟨_,ns1,λi x v e1 e2 e3=>?_⟩,λx c e=>?_,freeC,λx c e=>I.freeC x c (hcl x c e),λp hp=>?_,I.hok.kept old,?_⟩
  .have hi:n<=i:=by
    by_cases hlt:i<n
    .rw[GI hlt]at e2;cases e2
    .omega
   let⟨j,ej,ev⟩:=qmd hi e2;have hxN:(N.drop n)[i-n]? =some x:=by rw[List.getElem?_drop,show n+(i-n)=i by omega];exact e1
   have hxm:x∈N.drop n:=xk hxN;have eN:X.N[j]? =some x:=by
    have q:(js.map λj=>X.N[j]?)[i-n]? =some (X.N[j]?):=by rw[je,ej];rfl
    rw[cap,je,hxN]at q;exact(jg q).symm
   obtain⟨m0,_,hl⟩:=I.loc;have kx:=lc x hxm;have vis:lK X.env.scope x:=by
    rcases kx with z|z
    .exact .inr (.inl z)
    .exact .inr (.inr z)
   let⟨u,r,lk⟩:=hl j x v eN ev vis;refine⟨u,r,?_⟩;rcases lk with⟨q,_⟩|⟨_,c,ec,o,ho,hd⟩
   .exfalso;have q':X.env.scope.names.lookup x=some .local:=q;rcases kx with z|z
    .rw[z]at q';cases q'
    .rw[z]at q';cases q'
   .have fx:scope.names.lookup x=some .free:=lf x hxm;obtain⟨c',ec'⟩:∃c',cl.lookup x=some c':=by
     have hm:(x,NameKind.free)∈scope.names:=mem_of_lookup fx;exact hcl2 _ hm rfl
    have ecc:c'=c:=by have z:=hcl x c' ec';rw[ec]at z;exact(jg z).symm
    subst ecc;refine .inr ⟨?_,c',ec',o,old _ _ ho,hd⟩;rcases e3 with z|z|z
    .exfalso;have z':(relabel scope X.env).names.lookup x=some .local:=z;exact II _ fx z'
    .exact .inl z
    .exact .inr z
  .let⟨v,o,ho,hd⟩:=I.cell x c (hcl x c e);exact⟨v,o,old _ _ ho,hd⟩
  .have e:p=(D,{cls:=.type "list",data:=.seq ([]:Ze).toArray 0}):=by simpa[dJ]using hp
   subst e;exact⟨accD,freeD,DC,λz=>absurd (stkD D z) (xf _),λv=>by intro z;cases z⟩
  .show(df n js J).length=N.length;rw[GH];exact len
 -- what stays true of the iterator's records
 have stat:∀{H':Hp} {oD:Obj},(∀b∈fp,H' b=none)->∀b∈fp,gD (dJ X N scope s H C cl fp) [(D,oD)] H' b:=λ{H' oD} hn b hb=>
  ⟨hn b hb,bC b (fpD b hb),fpS b hb,.inl hb,λx c e=>(fo b hb).2.2.2.2.1 x c (hcl x c e),λp hp=>by
    have e:p=(D,oD):=by simpa[dJ]using hp
    subst e;exact Nat.ne_of_gt (fpD b hb)⟩
 obtain⟨W,⟨m0,w0⟩,turn⟩:=G;have loop:codeAny (model X.prog X.w) X.A (.compLoop (.ListComp elt [⟨tg,zd,ifs,0⟩] scope pos) 0 (.ref it) (.ref D) (compEnvC scope cl C X.env)) (RR (.ref D) C) {s with heap:=h1,toks:=s.toks+([]:List (Str×Value)).length}:=by
  refine qjn (λm s'=>∃(i:Nat) (ys:List V) (its:Ze) (kk:Nat) (J':St) (H':Hp),Inv (dJ X N scope s H C cl fp) [(D,{cls:=.type "list",data:=.seq its.toArray kk})] J' H' s'/\Vals ys its/\(J'.length=(df n js J).length/\∀i,n<=i->J'[i]? =(df n js J)[i]?)/\
   tn i s'.heap/\(∀b∈fp,H' b=none)/\W i m ys H') ?_ m0 ⟨0,[],[],0,_,H,IB,.nil,⟨rfl,λ_ _=>rfl⟩,T.keep _ _ _ st λb hb o e=>old b o e,λb hb=>(fo b hb).1,w0⟩
  rintro m s3 ⟨i,ys,its,kk,J3,H3,I3,r3,⟨l3,a3⟩,st3,fr3,w3⟩;have I3':Inv (dJ X N scope s H C cl fp) [(D,{cls:=.type "list",data:=.seq its.toArray kk})] (df n js J) H3 s3:=I3.weak l3.symm λj v e=>by
   by_cases hj:j<n
   .rw[GI hj]at e;cases e
   .rw[a3 j (by omega)];exact e
  rcases turn i m ys H3 w3 with⟨stop,hz,fin⟩|⟨go,hz,Nn,hNn,step⟩
  .refine xo (T.done (dJ X N scope s H C cl fp) rfl rfl rfl hc i _ s3 _ H3 (λ_ _=>False) I3' (stat fr3) st3 stop) (λr s4 h4=>?_) λ_ _ z=>z;obtain⟨hr,I4⟩:=h4;refine .inl ⟨hr,?_⟩;have pD:=I4.pin (D,{cls:=.type "list",data:=.seq its.toArray kk}) (by simp[dJ]);obtain⟨mC,nsC,_⟩:=I4.loc;let⟨oC,es,ep,hoC,dC,rC⟩:=id nsC;have J4:Inv X z5 J H3 s4:=I.call' (s':=s4) I4.os (ch:=fp) I4.base I4.hok I4.bare λb hb=>by
    let⟨_,f1,f2,f3,f4,f5⟩:=fo b hb;exact⟨f3,f1,f4,f5⟩
   have fC:H3 C=none:=I4.free;have ltL:X.env.locals<D:=eD▸I.lt;have cL:C≠X.env.locals:=(bC _ ltL).symm;have cC:∀x c,X.env.cells.lookup x=some c->c≠C:=λx c e=>bC c (cellD x c e);have cP:∀p∈X.pn++z5,p.1≠C:=λp hp=>bC p.1 (pinD p hp);have cS:X.s₀.heap.objs.size<=C:=ju I.sz (by rw[eD,eC];exact Nat.le_succ _);have dS:X.s₀.heap.objs.size<=D:=by have:=I.sz;rw[eD]at this;exact this
   have cF:C∉X.fs:=λz=>by let⟨_,o,ho,_⟩:=I.ok.funs.mem z;exact xf _ (jr (j9 ho) cS)
   have J5:Inv X (z5++[(C,oC)]) J H3 s4:=J4.pins_of λp hp=>(List.mem_append.mp hp).elim (λz=>J4.pin p (x6 _ z)) λz=>by
    have e:p=(C,oC):=by simpa using z
    subst e;exact⟨hoC,fC,cL,cF,λv z=>by have z':oC.data=.cell v:=z;rw[dC]at z';cases z'⟩
   refine k D C oC mC ys H3 s4 (J5.track pD.2.1 dS (Nat.ne_of_gt ltL) (λx c e=>jl (cellD x c e)) (λp hp=>?_) ?_) pD.2.1 nsC cS cL cC cP ?_ fin
   .rcases List.mem_append.mp hp with z|z
    .exact jl (pinD p (List.mem_append_left _ z))
    .rcases List.mem_append.mp z with z|z
     .exact jl (pinD p (x6 _ z))
     .have e:p=(C,oC):=by simpa using z
      subst e;exact Ne.symm DC
   .exact⟨hz,its,kk,r3,pD.1⟩
   .rw[bf (Ne.symm DC)];exact fC
  .refine xo (T.item (dJ X N scope s H C cl fp) rfl rfl rfl hc i _ s3 _ H3 (λ_ _=>False) I3' (stat fr3) st3 go) (λr s4 h4=>?_) λ_ _ z=>z;obtain⟨u,hr,h4⟩:=h4;refine .inr ⟨u,hr,?_⟩;refine bu h4 λ_ s5 h5=>?_;obtain⟨x,H5,I5,r5,y5,st5,fr5⟩:=h5;have I5':=I5.pinned (stat fr5) (T.obj _ _ st5);refine bu (hg s H C cl fp _ s5 _ H5 x u _ I5' r5 (hgo _ _ _ _ (step x H5 y5))) λ_ s6 h6=>?_;obtain⟨J6,H6,I6,q6,l6,a6⟩:=h6;refine bu (ht s H C cl fp _ s6 J6 H6 _ I6 q6) λok s7 h7=>?_;obtain⟨H7,I7,q7⟩:=h7;have stays:∀{H8:Hp} {s8:Shared},Inv (dJ X N scope s H C cl fp) ([(D,{cls:=.type "list",data:=.seq its.toArray kk})]++qk fp s5.heap) J6 H8 s8->(∀b∈fp,∀o,s5.heap.get? b=some o->s8.heap.get? b=some o)/\∀b∈fp,H8 b=none:=λ{H8 s8} I8=>
    ⟨λb hb o e=>(I8.pin (b,o) (x6 _ (x6 _ (ux hb e)))).1,λb hb=>by let⟨o,e,d⟩:=T.obj _ _ st5 b hb;exact(I8.pin (b,o) (x6 _ (x6 _ (ux hb e)))).2.1⟩
   cases ok with
   | false=>
    let⟨m',hm,w7⟩:=hNn ys H7 (show Nn ys H7 from q7);let⟨z1,z2⟩:=stays I7;exact⟨m',hm,i+1,ys,its,kk,J6,H7,I7.unpinned,r3,⟨l6,a6⟩,T.keep _ _ _ st5 z1,z2,w7⟩
   | true=>
    show wpAny _ _ (eval elt _) _ _ s7;refine bu (he s H C cl fp _ s7 J6 H7 _ I7 q7) λy s8 h8=>?_;obtain⟨vy,H8,I8,ry,n8⟩:=h8;let⟨m',hm,w8⟩:=hNn _ _ n8;let⟨z1,z2⟩:=stays I8;have pD:=I8.pin (D,{cls:=.type "list",data:=.seq its.toArray kk}) (by simp[dJ]);have lenits:its.length<sizeLine:=by rw[<-r3.length];exact hz
    refine append_at pD.1 (λh9 hs9 hD9=>?_) (by simpa using Nat.le_of_lt lenits);have keep9:∀b o,b≠D->s8.heap.get? b=some o->h9.get? b=some o:=λb o hb e=>hs9.extBut b o hb e;have I9:Inv (dJ X N scope s H C cl fp) [] J6 H8 {s8 with heap:=h9}:=(I8.pins_of (pins':=[]) λp hp=>nomatch hp).turned (it:=D) keep9 pD.2.1 DC (.inr (by show s.heap.objs.size<=D;rw[eD];exact jc _))
     (λx c e=>jl (cellD x c (hcl x c e))) λp hp=>by simp[dJ]at hp
    refine⟨m',hm,i+1,ys++[vy],its++[y],kk+1,J6,H8,I9.pins_of λp hp=>?_,r3.append (.cons ry .nil),⟨l6,a6⟩,T.keep _ _ _ st5 λb hb o e=>keep9 b o (jl (fpD b hb)) (z1 b hb o e),z2,w8⟩;have e:p=(D,{cls:=.type "list",data:=.seq (its++[y]).toArray (kk+1)}):=by simpa using hp
    subst e;refine⟨?_,pD.2.1,DC,λz=>absurd (stkD D z) (xf _),λv z=>by cases z⟩;show h9.get? D=_;rw[hD9,List.push_toArray]
 exact codeAny_compStart_list loop (T.self _ 0 _ _ _ (T.keep _ _ _ st λb hb o e=>old b o e) loop)
end
section
variable{X:Cx}{tg elt zd:Expr}{ifs:Zi}{scope:Scope}{pos:Pos}{N N0:Zj}{n:Nat}{js:Zg}{sc:Scope}{wi:TI}{g:TG}{tt:TT}{te:TE}
def GK{z5:Z3}{J:St}{H:Hp}{s:Shared}(I:Inv X z5 J H s)(hsc:X.env.scope=sc)(ok:fM sc N0 N n js scope=true):∀y∈scope.names,y.2=.free->∃c,X.env.cells.lookup y.1=some c:=by
 simp only[fM,Bool.and_eq_true,decide_eq_true_eq,List.all_eq_true,Bool.or_eq_true]at ok;obtain⟨⟨⟨⟨⟨⟨⟨kind,cell⟩,free⟩,nms⟩,cap⟩,lc⟩,lf⟩,len⟩:=ok;subst hsc;intro y hy hf;rcases free y hy with(z|z)|z
 .exact absurd hf z
 .exact I.ok.has y.1 (.inl z)
 .exact I.ok.has y.1 (.inr z)
def Ig(ok:fM sc N0 N n js scope=true):scope.kind=.function/\∀x∈scope.names,x.2=.local->scope.names.lookup x.1=some .local:=by
 simp only[fM,Bool.and_eq_true,decide_eq_true_eq,List.all_eq_true,Bool.or_eq_true]at ok;obtain⟨⟨⟨⟨⟨⟨⟨kind,cell⟩,free⟩,nms⟩,cap⟩,lc⟩,lf⟩,len⟩:=ok;refine⟨kind,λx hx hl=>?_⟩;rcases nms x hx with z|z
 .exact absurd hl z
 .exact z
def Inv.butC{z5:Z3}{J:St}{H:Hp}{s:Shared}{C:Addr}{oC:Obj}{h':Heap}(I:Inv X (z5++[(C,oC)]) J H s)(hs:Heap.SameBut C s.heap h')(h1:X.s₀.heap.objs.size<=C)(h2:C≠X.env.locals)
 (h3:∀x c,X.env.cells.lookup x=some c->c≠C) (h4:∀p∈X.pn++z5,p.1≠C) (h5:H C=none):Inv X z5 J H {s with heap:=h'}:=
 I.unpinned.turned (it:=C) (t':=s.toks) (λb o hb e=>hs.extBut b o hb e) h5 h2 (.inr h1) h3 h4
def mr(hc:X.calm=true)(hsc:X.env.scope=sc)(hN0:X.N=N0)(ok:fM sc N0 N n js scope=true)(hi:PI X tg zd wi)
 (hg:∀s H C cl fp,PG (dJ X N scope s H C cl fp) tg g) (hgo:qO n g) (ht:∀s H C cl fp,qM (dJ X N scope s H C cl fp) ifs tt) (he:∀s H C cl fp,PE (dJ X N scope s H C cl fp) elt te)
 (hs:∀x,foldedSetIterable zd X.env x=pure x:=by intro _;rfl):PE X (.ListComp elt [⟨tg,zd,ifs,0⟩] scope pos) (p7 n js wi g tt te):=by
 intro z5 s J H Q I h;let⟨cl,hclos,c1,c2⟩:=IE (GK I hsc ok);let⟨kd,nm⟩:=Ig ok;rw[eval_ListComp];refine wpAny_comprehension_free (use:=none) rfl hs hclos kd nm ?_;refine bu (hi z5 s J H _ I h) λv s1 h1=>bu h1 λitv s2 h2=>?_;obtain⟨it,fp,tn,σ,H2,e,I2,T,st2,f2,G⟩:=h2;subst e;refine Ie (RR:=λacc C=>compPost (model X.prog X.w) X.A X.xe none (EP X z5 J Q) acc C) hc hsc hN0 ok hg hgo ht he I2 T st2 f2 c1 c2 G ?_;intro D C oC m ys H' s' I' hD ns k1 k2 k3 k4 k5 fin;exact⟨m,ns,λh' hs'=>⟨.ref D,_,I'.butC hs' k1 k2 k3 k4 k5,rfl,fin D hD⟩⟩
def yu{k:Nat}{y:Str}{py zz:Pos}(hc:X.calm=true)(hsc:X.env.scope=sc)(hN0:X.N=N0)(ok:fM sc N0 N n js scope=true)(hN:X.N.Nodup)(hk:X.N[k]? =some y)(hy:kH X.env.scope y)
 (hi:PI X tg zd wi) (hg:∀s H C cl fp,PG (dJ X N scope s H C cl fp) tg g) (hgo:qO n g) (ht:∀s H C cl fp,qM (dJ X N scope s H C cl fp) ifs tt) (he:∀s H C cl fp,PE (dJ X N scope s H C cl fp) elt te)
 (hsw:swapsWith (.ListComp elt [⟨tg,zd,ifs,0⟩] scope pos) (some (.Name y py)) zz.line X.env=pure true:=by rfl) (hs:∀x,foldedSetIterable zd X.env x=pure x:=by intro _;rfl)
 (hf:X.fn y=true∨X.env.scope.names.lookup y=some .local:=by first|exact .inl rfl|exact .inr rfl):PS X (.Assign [.Name y py] (.ListComp elt [⟨tg,zd,ifs,0⟩] scope pos) zz) (sS k n js wi g tt te):=by
 intro z5 s J H D0 I h;let⟨cl,hclos,c1,c2⟩:=IE (GK I hsc ok);let⟨kd,nm⟩:=Ig ok;rw[exec_Assign_Name_used _ _ _ _ hsw];refine j6 (wpAny_standAt (j6 ?_));show wpAny _ X.A (comprehension (.ListComp elt [⟨tg,zd,ifs,0⟩] scope pos) scope X.env _ (newList []) false (eval zd X.env) (some (assign (.Name y py) X.env)) >>= λ_=>pure ()) _ _ s;refine j6 (xo (wpAny_comprehension_free (use:=some (assign (.Name y py) X.env)) (Q:=λ_ s'=>SP X z5 D0 .next s') rfl hs hclos kd nm ?_) (λ_ s' q=>j8 (j8 q)) λ_ _ z=>z);refine bu (hi z5 s J H _ I h) λv s1 h1=>bu h1 λitv s2 h2=>?_;obtain⟨it,fp,tn,σ,H2,e,I2,T,st2,f2,G⟩:=h2;subst e;refine Ie (RR:=λacc C=>compPost (model X.prog X.w) X.A X.xe (some (assign (.Name y py) X.env)) (λ_ s'=>SP X z5 D0 .next s') acc C) hc hsc hN0 ok hg hgo ht he I2 T st2 f2 c1 c2 G ?_;intro D C oC m ys H' s' I' hD ns k1 k2 k3 k4 k5 fin;show wpAny _ X.A (assign (.Name y py) X.env (.ref D)) _ _ s';refine wpAny_assign_Name (yO I' hN hk hy (v:=.ref D) rfl (λs'' I''=>?_) hf);have pc:=I''.pin (C,oC) (x6 _ (x6 _ jf));obtain⟨o,es,ep,ho,r⟩:=ns;have pc':=I'.pin (C,oC) (x6 _ (x6 _ jf));have eo:o=oC:=by have z:=pc'.1;rw[ho]at z;exact jg z
 subst eo;exact⟨m,⟨o,es,ep,pc.1,r⟩,λh' hs'=>⟨_,_,I''.butC hs' k1 k2 k3 k4 k5,fin D hD⟩⟩
end
def Same.new{H:Hp}{l:Addr}{o:HO}(h:H l=none):Same H (aT H l o):=λb u e=>by rw[bf (gp e h)];exact e
def Same.tup{K:aq}{H H':Hp}{a:Addr}{xs:List V}(e:Same H H')(h:SqT K H a xs):SqT K H' a xs:=by
 rcases h with(h|⟨o,h⟩)|h
 .exact .inl (.inl (e _ _ h))
 .exact .inl (.inr ⟨o,e _ _ h⟩)
 .exact .inr h
section
variable{X:Cx}{K:aq}
def a9(h:X.K=K):IxR X (pI K):=h▸qvt
def fP(h:X.K=K):gf X (.builtin "len") (λxs H Q=>∃p ys,xs=[.ref p]/\(SqL K H p ys∨SqT K H p ys)/\Q (.int ys.length) H):=by subst h;exact qbd
def uv(h:X.K=K):gf X (.type "list") (λxs H Q=>∃p ys,xs=[.ref p]/\(SqL K H p ys∨SqT K H p ys)/\∀l,H l=none->Q (.ref l) (aT H l (.lst ys))):=by subst h;exact qbc
def qJ(h:X.K=K):gf X (.type "tuple") (λxs H Q=>∃p ys,xs=[.ref p]/\((SqL K H p ys/\∀l,H l=none->Q (.ref l) (aT H l (.tup ys)))∨(SqT K H p ys/\Q (.ref p) H))):=by subst h;exact q9u
def qku{tg l:Expr}{tl:TE}(h:X.K=K)(hl:PE X l tl):PI X tg l (vN K tl):=h▸qpb hl
def qpa{tg l:Expr}{tl:TE}(h:X.K=K)(hl:PE X l tl):PI X tg l (nS K tl):=h▸qtl hl
def iC{es:Zi}{k:Nat}{t:kG}{n:Nat}{pos:Pos}(hK:X.K=K)(hc:X.calm=true)(h:qN X es t)(hn:(assignEach es X.env).length=n:=by rfl)(hst:(assignEach es X.env).findIdx? (·.1)=none:=by rfl):PG X (.Tuple es k pos) (lV K n t):=hK▸qtn hc h hn hst
def yr{e:Expr}{f:Str}{pos:Pos}{ta:TE}(hK:X.K=K)(he:PE X e ta)(hb:attributeBase e f X.env (eval e X.env)=eval e X.env):PE X (.Attribute e f pos) (nq K ta f):=hK▸qtq he hb
end
def PE.or{X:Cx}{e:Expr}{t u:TE}(h:PE X e t)(k:PE X e u):PE X e λJ H Q=>t J H Q∨u J H Q:=λz5 s J H Q I q=>by
 rcases q with q|q
 .exact h z5 s J H Q I q
 .exact k z5 s J H Q I q
noncomputable def rW:V->Option Value
 |.ref a=>some (.ref a)
 |.ty n=>some (.type n)
 |_=>none
def Ay(K:aq):List V->Hp->VK->Prop:=λxs H Q=>∃x y t c b,xs=[x,y]/\rW y=some c/\TyOf K H x t/\W.kitOne K t c=some b/\Q (.bl b) H
section
variable{X:Cx}
def qmg{K:aq}(hK:X.K=K):gf X (.builtin "isinstance") (Ay K):=by
 subst hK;intro z5 s J H xs us Q I r h;obtain⟨x,y,t,c,b,rfl,hc,ty,e,q⟩:=h;obtain⟨u,w,rfl,ru,rw'⟩:=fJ r;have ew:w=c:=by
  cases y with
  | ref a=>
   have z:w=Value.ref a:=rw';rw[z];exact jg hc
  | ty n=>
   have z:w=Value.type n:=rw';rw[z];exact jg hc
  |_=>cases hc
 subst ew;exact qj1 I ru ty e λtk=>⟨.bl b,H,I.tok tk,rfl,q⟩
def q74{K:aq}{v:Value}:W.kitOne K v v=some true:=by unfold W.kitOne;rw[if_pos (beq_self_eq_true v)]
def q2i{K:aq}{T U:String}{b:Bool}(hm:W.kitMeta U=true)(h3:W.subIn K (.type T) (.type U)=some b)(hn:Value.type T≠.type U):W.kitOne K (.type T) (.type U)=some b:=by unfold W.kitOne;rw[if_neg (λz=>hn (eq_of_beq z))];unfold W.kitCls;dsimp only;rw[if_pos hm];exact h3
theorem Iq:∀{bs:List Bool} {us:Ze},Vals (bs.map V.bl) us->us=bs.map Value.bool
 |[],us,r=>by cases r;rfl
 | b::bs,us,r=>by
  cases r with
  | cons h t=>
   have e:_=Value.bool b:=h;rw[e,Iq t];rfl
def iY{α:Type}(l:List α)(f:α->Bool)(tr:Nat->Bool)(h:∀i x,l[i]? =some x->tr i=f x):(List.range l.length).all tr=l.all f:=by
 induction l generalizing tr with
 |nil=>rfl
 | cons a l ih=>
  rw[jt,List.range_succ_eq_map,List.all_cons,List.all_map,List.all_cons,h 0 a rfl];congr 1;exact ih (λi=>tr (i+1)) λi x e=>h (i+1) x (by simpa using e)
def qmh{K:aq}(hK:X.K=K)(hc:X.calm=true):gf X (.builtin "all") (λxs H Q=>∃(p:Addr) (bs:List Bool),xs=[.ref p]/\SqL K H p (bs.map V.bl)/\Q (.bl (bs.all id)) H):=by
 subst hK;intro z5 s J H xs us Q I r h;obtain⟨p,bs,rfl,hq,q⟩:=h;obtain⟨u,rfl,ru⟩:=cH r;cases ru;let⟨its,rv,pl,hz⟩:=I.list hq;have hh:X.A.in1.handled=none:=I.ok.hd hc;have eits:=Iq rv;have hl:=pl.isList;have hlt:p<s.heap.objs.size:=by obtain⟨_,e,_⟩:=hl;exact j9 e
 refine call_all_walk (wpAny_pyIter_list hl ?_);refine⟨_,_,_,_,_,_,λi=>bs.getD i false,rfl,Walks.list hh s.heap.objs.size p (jl hlt) its.toArray,⟨⟨_,jq _ rfl,rfl,rfl⟩,hl.push _⟩,λi v s' Q' E' hP hQ=>?_,λh' tk hk=>?_⟩
 .have e:(bs.map Value.bool)[i]? =some v:=by rw[<-eits];simpa using hP
  rw[je]at e;cases z:bs[i]? with
  |none=>rw[z]at e;cases e
  | some b=>
   rw[z]at e;have e':v=Value.bool b:=(jg e).symm;subst e';refine ke ?_;have:bs.getD i false=b:=by rw[ji,z];rfl
   dsimp only at hQ;rw[this]at hQ;exact hQ
 .have len:its.toArray.size=bs.length:=by rw[eits];simp
  refine⟨.bl (bs.all id),H,I.kept (t':=tk) λb o e=>hk b o (λz=>?_) (ja _ e),?_,q⟩
  .have:=j9 e;rw[List.mem_singleton.mp z]at this;exact xf _ this
  .show Value.bool _=Value.bool _;rw[len,iY bs id];intro i x e;rw[ji,e];rfl
mutual
inductive DV(K:aq)(H:Hp):V->PyData->Prop
 |non:DV K H .non .none
 |bl (b:Bool):DV K H (.bl b) (.bool b)
 |int (i:Int):DV K H (.int i) (.int i)
 |str (x:Str):DV K H (.str x) (.str x)
 |lst {a:Addr} {xs:List V} {ds:List PyData}:SqL K H a xs->DVs K H xs ds->DV K H (.ref a) (.list ds)
 |tup {a:Addr} {xs:List V} {ds:List PyData}:SqT K H a xs->DVs K H xs ds->DV K H (.ref a) (.tuple ds)
inductive DVs(K:aq)(H:Hp):List V->List PyData->Prop
 |nil:DVs K H [] []
 |cons {x:V} {xs:List V} {d:PyData} {ds:List PyData}:DV K H x d->DVs K H xs ds->DVs K H (x::xs) (d::ds)
end
mutual
theorem qy{z5:Z3}{J:St}{H:Hp}{s:Shared}(I:Inv X z5 J H s):∀{x:V} {d:PyData} {u:Value},DV X.K H x d->RelV x u->∃as,Reads s.heap u d as
 |_,_,u,.non,r=>by cases(show u=Value.none from r);exact⟨_,.none⟩
 |_,_,u,.bl b,r=>by cases(show u=Value.bool b from r);exact⟨_,.bool b⟩
 |_,_,u,.int i,r=>by let⟨t,e⟩:=(show∃t,u=Value.int i t from r);cases e;exact⟨_,.int i t⟩
 |_,_,u,.str x,r=>by let⟨t,e⟩:=(show∃t,u=Value.str x t from r);cases e;exact⟨_,.str x t⟩
 | _,_,u,.lst (a:=a) hq hs,r=>by cases(show u=Value.ref a from r);let⟨its,rv,pl,_⟩:=I.list hq;obtain⟨o,e,c,n,dd⟩:=pl.isList;let⟨as,q⟩:=zH I hs rv;exact⟨_,reads_list_at e c dd (by simpa using q)⟩
 | _,_,u,.tup (a:=a) hq hs,r=>by cases(show u=Value.ref a from r);let⟨its,rv,pl,_⟩:=I.tuple hq;obtain⟨o,e,c,n,dd⟩:=pl;let⟨as,q⟩:=zH I hs rv;exact⟨_,reads_tuple_at e c dd (by simpa using q)⟩
theorem zH{z5:Z3}{J:St}{H:Hp}{s:Shared}(I:Inv X z5 J H s):∀{xs:List V} {ds:List PyData} {us:Ze},DVs X.K H xs ds->Vals xs us->∃as,ReadsAll s.heap us ds as
 |_,_,_,.nil,.nil=>⟨_,.nil⟩
 | _,_,_,.cons h t,.cons r rs=>by let⟨as,q⟩:=qy I h r;let⟨bs,p⟩:=zH I t rs;exact⟨_,.cons q p⟩
end
def rG(K:aq):R2:=λx y H Q=>∃d e,DV K H x d/\DV K H y e/\SeqAt.shaped d=true/\SeqAt.shaped e=true/\Q (.bl (PyData.eqv d e)) H
def rj(K:aq):R2:=λx y H Q=>∃d e,DV K H x d/\DV K H y e/\SeqAt.shaped d=true/\SeqAt.shaped e=true/\Q (.bl (!PyData.eqv d e)) H
def eQ{K:aq}(hK:X.K=K)(hu:X.A.units+64<cLine):OpR X (compareOp .Eq) (rG K):=by subst hK;intro z5 s J H x y v u Q I rx ry h;obtain⟨d,e,hd,he,sd,se,q⟩:=h;let⟨as,ra⟩:=qy I hd rx;let⟨bs,rb⟩:=qy I he ry;exact eq_dataH ra rb sd se hu ⟨.bl _,H,I,rfl,q⟩
def kU{K:aq}(hK:X.K=K)(hu:X.A.units+64<cLine):OpR X (compareOp .NotEq) (rj K):=by subst hK;intro z5 s J H x y v u Q I rx ry h;obtain⟨d,e,hd,he,sd,se,q⟩:=h;let⟨as,ra⟩:=qy I hd rx;let⟨bs,rb⟩:=qy I he ry;exact ne_dataH ra rb sd se hu ⟨.bl _,H,I,rfl,q⟩
structure MkN(K:aq)(C:Addr):Prop where
 makes:PySem.W.makesIn K C=true
 init:PySem.W.findIn K (.ref C) "__init__"=some (some (.builtin "object.__init__"))
 kp:PySem.W.keepIn K (.ref C)=true
def FP(C:Addr):TE:=λ_ H Q=>∀x dx,H x=none->H dx=none->dx≠x->Q (.ref x) (aT (aT H dx (.own x)) x (.ins C dx []))
def qhf{C:Addr}{z5:Z3}{J:St}{H:Hp}{s:Shared}{Q:VK}(ρ:MkN X.K C)(I:Inv X z5 J H s)
 (h:∀x dx,H x=none->H dx=none->dx≠x->Q (.ref x) (aT (aT H dx (.own x)) x (.ins C dx []))):wpAny (model X.prog X.w) X.A (call (.ref C) []) (EP X z5 J Q) X.xe s:=by
 have hq:=h (s.heap.objs.size+1) s.heap.objs.size (I.hok.fresh (Nat.le_succ _)) (I.hok.fresh (jc _)) (jl (Nat.lt_succ_self _));have I2:=Inv.made (C:=C) I;refine wpAny_call (qip I.kIn ρ.makes ρ.init (λself=>PySem.W.Looks.of_pure (PySem.W.oi_bind self)) ?_);have Y:=PySem.W.makes_of (M:=model X.prog X.w) I.kIn ρ.makes;have g1:((s.heap.push PySem.W.emptyDict).push (PySem.W.instObj C s.heap.objs.size)).get? (s.heap.objs.size+1)=some (PySem.W.instObj C s.heap.objs.size):=by
  have z:=jq (o:=PySem.W.instObj C s.heap.objs.size) (s.heap.push PySem.W.emptyDict) rfl
  rwa [xj]at z
 have t1:PySem.W.Looks (model X.prog X.w) ((s.heap.push PySem.W.emptyDict).push (PySem.W.instObj C s.heap.objs.size)) (typeOf (.ref (s.heap.objs.size+1))) (.ref C):=(PySem.W.Looks.ld g1).andThen .now;have t2:PySem.W.Looks (model X.prog X.w) ((s.heap.push PySem.W.emptyDict).push (PySem.W.instObj C s.heap.objs.size)) (isInstance (.ref (s.heap.objs.size+1)) (.type "object")) true:=
  t1.andThen (Y.top.keeps λb o e=>ja _ (ja _ e))
 refine codeAny_call_builtin PySem.W.oi_plain PySem.W.entry_oi (PySem.W.check_slot PySem.W.oi_kind PySem.W.oi_split t2 (PySem.W.oi_args _) ?_);rw[PySem.W.oi_run];exact j8 ⟨rfl,⟨.ref (s.heap.objs.size+1),_,I2,rfl,hq⟩⟩
def qkw{C:Addr}{x:Str}{p pos:Pos}(ρ:MkN X.K C)(hg:Gl X x)(hm:X.mg x=some (.ref C))(hdb:(x==("__debug__":Str))=false:=by decide):PE X (.Call (.Name x p) [] [] pos) (FP C):=by intro z5 s J H Q I h;refine xq (yk I hg hm ?_ hdb);exact PySem.W.callWith_K0 I.kIn ρ.kp (qhf ρ I h)
end
def seqIs(b:Bool)(h:Heap)(l:Addr)(xs:Zd):Prop:=match b with
 |true=>h.IsList l xs
 |false=>h.IsTuple l xs
def iterIs(b:Bool)(h:Heap)(i l:Addr)(k:Nat):Prop:=match b with
 |true=>h.IsListIter i l k
 |false=>h.IsTupleIter i l k
noncomputable def mW(b:Bool)(l:Addr):Obj:={cls:=.type (if b then "list_iterator" else "tuple_iterator"),data:=.fields #[.ref l,.int 0 0]}
def seqIs.at_{b:Bool}{h h':Heap}{l:Addr}{xs:Zd}(q:seqIs b h l xs)(e:∀o,h.get? l=some o->h'.get? l=some o):seqIs b h' l xs:=by
 cases b
 .let⟨o,z,r⟩:=(show h.IsTuple l xs from q);exact(show h'.IsTuple l xs from⟨o,e o z,r⟩)
 .let⟨o,z,r⟩:=(show h.IsList l xs from q);exact(show h'.IsList l xs from⟨o,e o z,r⟩)
def iterIs.at_{b:Bool}{h h':Heap}{i l:Addr}{k:Nat}(q:iterIs b h i l k)(e:∀o,h.get? i=some o->h'.get? i=some o):iterIs b h' i l k:=by
 cases b
 .let⟨o,z,r⟩:=(show h.IsTupleIter i l k from q);exact(show h'.IsTupleIter i l k from⟨o,e o z,r⟩)
 .let⟨o,z,r⟩:=(show h.IsListIter i l k from q);exact(show h'.IsListIter i l k from⟨o,e o z,r⟩)
def iterIs.obj{b:Bool}{h:Heap}{i l:Addr}{k:Nat}(q:iterIs b h i l k):∃o,h.get? i=some o/\∀v,o.data≠.cell v:=by
 cases b
 .let⟨o,z,_,d⟩:=(show h.IsTupleIter i l k from q);exact⟨o,z,λv e=>by rw[d]at e;cases e⟩
 .let⟨o,z,_,d⟩:=(show h.IsListIter i l k from q);exact⟨o,z,λv e=>by rw[d]at e;cases e⟩
def iterIs.mk_{b:Bool}{h:Heap}{i l:Addr}(q:h.get? i=some (mW b l)):iterIs b h i l 0:=by
 cases b
 .exact(show h.IsTupleIter i l 0 from⟨_,q,rfl,rfl⟩)
 .exact(show h.IsListIter i l 0 from⟨_,q,rfl,rfl⟩)
section
variable{prog:Program}{w:World}{A:Around}{E:Z0}{s:Shared}
def Il{b:Bool}{l:Addr}{xs:Zd}{Q:Z0}(q:seqIs b s.heap l xs)(h:Q (.ref s.heap.objs.size) {s with heap:=s.heap.push (mW b l)}):wpAny (model prog w) A (pyIter (.ref l)) Q E s:=by
 cases b
 .exact wpAny_pyIter_tuple (show s.heap.IsTuple l xs from q) h
 .exact wpAny_pyIter_list (show s.heap.IsList l xs from q) h
def qav{i l:Addr}{k:Nat}{xs:Zd}{x:Value}{Q:Z0}(st:s.heap.IsTupleIter i l k)(tp:s.heap.IsTuple l xs)(e:xs[k]? =some x)
 (h:∀h',h'.IsTupleIter i l (k+1)->Heap.SameBut i s.heap h'->Q x {s with heap:=h'}):wpAny (model prog w) A (Builtin.SmallTypes.nextOf (.ref i)) Q E s:=by
 let⟨oi,gi,ci,di⟩:=id st;obtain⟨ot,gt,_,nt,dt⟩:=tp;unfold Builtin.SmallTypes.nextOf;refine j6 (ka (name:=Str.ofString "__next__") st.typeIs va (k6 va st.typeIs F.entry_tuple_iterator_next ?_ (F.args_tuple_iterator_next_1 _)));show wpAny _ _ (field (.ref i) 0 >>= _) _ _ s;refine j6 (xl gi di (x:=.ref l) rfl ?_);show wpAny _ _ (if(Value.ref l==Value.none)=true then _ else _) _ _ s;rw[if_neg (by exact Bool.false_ne_true:¬((Value.ref l==Value.none)=true))];show wpAny _ _ (field (.ref i) 1 >>= _) _ _ s;refine j6 (xl gi di (x:=.int k 0) rfl ?_);show wpAny _ _ (seqItems? (.ref l) >>= _) _ _ s;refine j6 (xv gt dt ?_);simp only[Int.toNat_natCast,e];refine j6 (wpAny_setField gi di (by simp) (j8 ⟨x,rfl,j8 (h _ ?_ (kh ..))⟩));refine⟨_,kg _ gi (Obj.isFreed_of_fields (Obj.data_mapFields di _)),(Obj.cls_mapFields ..).trans ci,?_⟩;rw[Obj.data_mapFields di];simp[rawInt]
def q70{i l:Addr}{k:Nat}{xs:Zd}{Q:Z0}(hh:A.handled=none)(st:s.heap.IsTupleIter i l k)(tp:s.heap.IsTuple l xs)(e:xs[k]? =none)
 (h:∀h' x,Heap.ExtBut i s.heap h'->(∃o,h'.get? x=some o/\o.cls=.type "StopIteration")->E (.ref x) {s with heap:=h'}):wpAny (model prog w) A (Builtin.SmallTypes.nextOf (.ref i)) Q E s:=by
 let⟨oi,gi,ci,di⟩:=id st;obtain⟨ot,gt,_,nt,dt⟩:=tp;unfold Builtin.SmallTypes.nextOf;refine j6 (ka (name:=Str.ofString "__next__") st.typeIs va (k6 va st.typeIs F.entry_tuple_iterator_next ?_ (F.args_tuple_iterator_next_1 _)));show wpAny _ _ (field (.ref i) 0 >>= _) _ _ s;refine j6 (xl gi di (x:=.ref l) rfl ?_);show wpAny _ _ (if(Value.ref l==Value.none)=true then _ else _) _ _ s;rw[if_neg (by exact Bool.false_ne_true:¬((Value.ref l==Value.none)=true))];show wpAny _ _ (field (.ref i) 1 >>= _) _ _ s;refine j6 (xl gi di (x:=.int k 0) rfl ?_);show wpAny _ _ (seqItems? (.ref l) >>= _) _ _ s;refine j6 (xv gt dt ?_);simp only[Int.toNat_natCast,e];refine j6 (wpAny_rule (j6 (wpAny_setField gi di (by simp) ?_)));show wpAny _ _ (newExc (.type "StopIteration") [] >>= _) _ _ _;refine j6 ?_;simp only[newExc,newTuple];refine j6 (xx ?_ (by size_fits));refine j6 (m:=firstArgMember _ _) (wpAny_of_eq (a:=Value.none) (by first|rfl|(simp only[firstArgMember]<;>rfl)) ?_);refine xx ?_ (by size_fits);simp only[raiseNew];refine j6 (wpAny_handled ?_)
 first|rw[(hh:A.in1.handled=none)]|rw[hh]
 refine j6 (j8 (wpAny_throw ?_));exact h _ _ (((kh ..).extBut.push _).push _) ⟨_,jq _ rfl,rfl⟩
def zD{b:Bool}{i l:Addr}{k:Nat}{xs:Zd}{x:Value}{Q:Z0}(st:iterIs b s.heap i l k)(tp:seqIs b s.heap l xs)(e:xs[k]? =some x)
 (h:∀h',iterIs b h' i l (k+1)->Heap.SameBut i s.heap h'->Q x {s with heap:=h'}):wpAny (model prog w) A (Builtin.SmallTypes.nextOf (.ref i)) Q E s:=by
 cases b
 .exact qav st tp e h
 .exact wpAny_nextOf_list_item st tp e h
def IH{b:Bool}{i l:Addr}{k:Nat}{xs:Zd}{Q:Z0}(hh:A.handled=none)(st:iterIs b s.heap i l k)(tp:seqIs b s.heap l xs)(e:xs[k]? =none)
 (h:∀h' x,Heap.ExtBut i s.heap h'->(∃o,h'.get? x=some o/\o.cls=.type "StopIteration")->E (.ref x) {s with heap:=h'}):wpAny (model prog w) A (Builtin.SmallTypes.nextOf (.ref i)) Q E s:=by
 cases b
 .exact q70 hh st tp e h
 .exact wpAny_nextOf_list_end hh st tp e h
def qk8{z TI TO i1 i2 l1 l2:Addr}{b1 b2:Bool}{k1 k2:Nat}{xs ys:Zd}{x y a b:Value}{Q:Option Value->Shared->Prop}(D:ZipApart z TI TO i1 i2 l1 l2)
 (hz:IsZip s.heap z TI TO .none) (hTI:IsPair s.heap TI (.ref i1) (.ref i2)) (hTO:IsPair s.heap TO a b) (h1:iterIs b1 s.heap i1 l1 k1) (h2:iterIs b2 s.heap i2 l2 k2) (q1:seqIs b1 s.heap l1 xs) (q2:seqIs b2 s.heap l2 ys) (hx:xs[k1]? =some x) (hy:ys[k2]? =some y)
 (hQ:∀h',IsZip h' z TI TO (rawInt s.heap.objs.size)->IsPair h' TO x y->iterIs b1 h' i1 l1 (k1+1)->iterIs b2 h' i2 l2 (k2+1)->IsPair h' s.heap.objs.size x y->
   (∀c o,c≠z->c≠TO->c≠i1->c≠i2->s.heap.get? c=some o->h'.get? c=some o)->Q (some (.ref s.heap.objs.size)) {s with heap:=h'}):wpAny (model prog w) A (pyNext (.ref z)) Q E s:=by
 have ty:s.TypeIs (.ref z) "zip":=⟨_,hz,rfl⟩;unfold pyNext;refine j6 (wpAny_attempt (ka (name:=Str.ofString "__next__") ty F.slot_zip_next (k6 F.slot_zip_next ty F.entry_zip_next ?_ (F.args_zip_next_1 _))));show wpAny _ _ (field (.ref z) 2 >>= _) _ _ _;refine j6 (xl hz rfl (x:=.bool false) rfl ?_);show wpAny _ _ (field (.ref z) 3 >>= _) _ _ _;refine j6 (xl hz rfl (x:=.ref TI) rfl (j6 (xv hTI rfl ?_)));show wpAny _ _ (Builtin.SmallTypes.ownedTupleIsFree (.ref z) >>= _) _ _ _;refine j6 ?_;unfold Builtin.SmallTypes.ownedTupleIsFree;refine j6 (xl hz rfl (x:=.none) rfl (j8 ?_));simp only[if_true];refine j6 (wpAny_rule (j6 (xl hz rfl (x:=.ref TO) rfl (j6 (km hz (by simp) λg1 z1 s1=>?_)))));have Z1:IsZip g1 z TI TO .ellipsis:=z1;refine j6 ?_;simp only[List.zipIdx_cons,List.zipIdx_nil,List.forIn_cons,List.forIn_nil];refine j6 (j6 (wpAny_onRaise ?_));show wpAny _ _ (Builtin.SmallTypes.nextOf (.ref i1) >>= _) _ _ _;refine j6 (zD (h1.at_ λo e=>s1.extBut _ o D.i1z e) (q1.at_ λo e=>s1.extBut _ o D.l1z e) hx λg2 n2 s2=>j8 ?_);have P2:IsPair g2 TO a b:=s2.extBut _ _ D.TOi1 (s1.extBut _ _ D.TOz hTO);refine j6 (xv P2 rfl (j6 (wpAny_updateSeq_pair P2 λg3 p3 s3=>j6 (wpAny_letGo (j8 ?_)))));have P3:IsPair g3 TO x b:=p3;refine j6 (j6 (wpAny_onRaise ?_));show wpAny _ _ (Builtin.SmallTypes.nextOf (.ref i2) >>= _) _ _ _;refine j6 (zD (h2.at_ λo e=>s3.extBut _ o D.TOi2.symm (s2.extBut _ o D.i12.symm (s1.extBut _ o D.i2z e))) (q2.at_ λo e=>s3.extBut _ o D.l2TO (s2.extBut _ o D.l2i1 (s1.extBut _ o D.l2z e))) hy λg4 n4 s4=>j8 ?_);have P4:IsPair g4 TO x b:=s4.extBut _ _ D.TOi2 P3;refine j6 (xv P4 rfl (j6 (wpAny_updateSeq_pair P4 λg5 p5 s5=>j6 (wpAny_letGo (j8 (j8 ?_))))));have P5:IsPair g5 TO x y:=p5;refine j6 (xv P5 rfl (j6 (wpAny_newTuple ?_)));have sz:g5.objs.size=s.heap.objs.size:=by rw[s5.1,s4.1,s3.1,s2.1,s1.1]
 have Z5:IsZip g5 z TI TO .ellipsis:=s5.extBut _ _ D.TOz.symm (s4.extBut _ _ D.i2z.symm (s3.extBut _ _ D.TOz.symm (s2.extBut _ _ D.i1z.symm Z1)));have K5:∀c o,c≠z->c≠TO->c≠i1->c≠i2->s.heap.get? c=some o->g5.get? c=some o:=λc o c1 c2 c3 c4 e=>s5.extBut _ _ c2 (s4.extBut _ _ c4 (s3.extBut _ _ c2 (s2.extBut _ _ c3 (s1.extBut _ _ c1 e))));have N1:iterIs b1 g5 i1 l1 (k1+1):=n2.at_ λo e=>s5.extBut _ o D.TOi1.symm (s4.extBut _ o D.i12 (s3.extBut _ o D.TOi1.symm e));have N2:iterIs b2 g5 i2 l2 (k2+1):=n4.at_ λo e=>s5.extBut _ o D.TOi2.symm e;have zlt:z<g5.objs.size:=j9 Z5;show wpAny _ _ (Builtin.SmallTypes.ownedTupleHandOut (.ref z) (.ref g5.objs.size) >>= _) _ _ _;refine j6 ?_;unfold Builtin.SmallTypes.ownedTupleHandOut;have Z6:IsZip (g5.push {cls:=.type "tuple",data:=.seq #[x,y]}) z TI TO .ellipsis:=ja _ Z5;refine j6 (km Z6 (by simp) λg7 z7 s7=>?_);have Z7:IsZip g7 z TI TO (rawInt g5.objs.size):=z7;refine km Z7 (by simp) λg8 z8 s8=>?_;have Z8:IsZip g8 z TI TO (rawInt g5.objs.size):=z8;have up:∀c o,c≠z->g5.get? c=some o->g8.get? c=some o:=λc o c1 e=>s8.extBut _ _ c1 (s7.extBut _ _ c1 (ja _ e));have T8:IsPair g8 g5.objs.size x y:=s8.extBut _ _ (Nat.ne_of_gt zlt) (s7.extBut _ _ (Nat.ne_of_gt zlt) (jq _ rfl));rw[sz]at Z8 T8;refine j8 ⟨_,rfl,j8 ?_⟩;show Q (some (.ref g5.objs.size)) _;rw[sz];exact hQ g8 Z8 (up _ _ D.TOz P5) (N1.at_ λo e=>up _ o D.i1z e) (N2.at_ λo e=>up _ o D.i2z e) T8 λc o c1 c2 c3 c4 e=>up c o c1 (K5 c o c1 c2 c3 c4 e)
def qos{z TI TO i1 i2 l1 l2:Addr}{b1 b2:Bool}{k1 k2:Nat}{xs ys:Zd}{a b:Value}{Q:Option Value->Shared->Prop}(hh:A.handled=none)(D:ZipApart z TI TO i1 i2 l1 l2)
 (hz:IsZip s.heap z TI TO .none) (hTI:IsPair s.heap TI (.ref i1) (.ref i2)) (hTO:IsPair s.heap TO a b) (h1:iterIs b1 s.heap i1 l1 k1) (h2:iterIs b2 s.heap i2 l2 k2) (q1:seqIs b1 s.heap l1 xs) (q2:seqIs b2 s.heap l2 ys) (hend:xs[k1]? =none∨ys[k2]? =none)
 (hQ:∀h',(∀c o,c≠z->c≠TO->c≠i1->c≠i2->s.heap.get? c=some o->h'.get? c=some o)->Q none {s with heap:=h'}):wpAny (model prog w) A (pyNext (.ref z)) Q E s:=by
 have ty:s.TypeIs (.ref z) "zip":=⟨_,hz,rfl⟩;have fin:∀(h':Heap) (e:Addr),(∀c o,c≠z->c≠TO->c≠i1->c≠i2->s.heap.get? c=some o->h'.get? c=some o)->(∃o,h'.get? e=some o/\o.cls=.type "StopIteration")->
  wpAny (model prog w) A (isInstance (.ref e) (.type "StopIteration") >>= λr=>if r=true then pure none else throw (.ref e)) Q E {s with heap:=h'}:=λh' e hk ⟨o,ho,hc⟩=>
  j6 (wpAny_isInstance (T:="StopIteration") (b:=true) ⟨o,ho,hc⟩ isSubtype_stop (j8 (hQ _ hk)))
 unfold pyNext;refine j6 (wpAny_attempt (ka (name:=Str.ofString "__next__") ty F.slot_zip_next (k6 F.slot_zip_next ty F.entry_zip_next ?_ (F.args_zip_next_1 _))));show wpAny _ _ (field (.ref z) 2 >>= _) _ _ _;refine j6 (xl hz rfl (x:=.bool false) rfl ?_);show wpAny _ _ (field (.ref z) 3 >>= _) _ _ _;refine j6 (xl hz rfl (x:=.ref TI) rfl (j6 (xv hTI rfl ?_)));show wpAny _ _ (Builtin.SmallTypes.ownedTupleIsFree (.ref z) >>= _) _ _ _;refine j6 ?_;unfold Builtin.SmallTypes.ownedTupleIsFree;refine j6 (xl hz rfl (x:=.none) rfl (j8 ?_));simp only[if_true];refine j6 (wpAny_rule (j6 (xl hz rfl (x:=.ref TO) rfl (j6 (km hz (by simp) λg1 z1 s1=>?_)))));have Z1:IsZip g1 z TI TO .ellipsis:=z1;refine j6 ?_;simp only[List.zipIdx_cons,List.zipIdx_nil,List.forIn_cons,List.forIn_nil];refine j6 (j6 (wpAny_onRaise ?_));show wpAny _ _ (Builtin.SmallTypes.nextOf (.ref i1) >>= _) _ _ _;have I1:iterIs b1 g1 i1 l1 k1:=h1.at_ λo e=>s1.extBut _ o D.i1z e;have L1:seqIs b1 g1 l1 xs:=q1.at_ λo e=>s1.extBut _ o D.l1z e;cases ex:xs[k1]? with
 | none=>
  refine j6 (IH hh I1 L1 ex λg2 e s2 he=>?_);obtain⟨oe,he,ce⟩:=he;have Z2:IsZip g2 z TI TO .ellipsis:=s2 _ _ D.i1z.symm Z1;have nez:e≠z:=λq=>by subst q;rw[Z2]at he;cases he;simp at ce
  exact km Z2 (by simp) λg3 _ s3=>fin g3 e (λc o c1 _ c3 _ q=>s3.extBut _ _ c1 (s2 _ _ c3 (s1.extBut _ _ c1 q))) ⟨oe,s3.extBut _ _ nez he,ce⟩
 | some x=>
  have ey:ys[k2]? =none:=by
   rcases hend with q|q
   .rw[ex]at q;cases q
   .exact q
  refine j6 (zD I1 L1 ex λg2 n2 s2=>j8 ?_);have P2:IsPair g2 TO a b:=s2.extBut _ _ D.TOi1 (s1.extBut _ _ D.TOz hTO);refine j6 (xv P2 rfl (j6 (wpAny_updateSeq_pair P2 λg3 p3 s3=>j6 (wpAny_letGo (j8 ?_)))));refine j6 (j6 (wpAny_onRaise ?_));show wpAny _ _ (Builtin.SmallTypes.nextOf (.ref i2) >>= _) _ _ _;refine j6 (IH hh (h2.at_ λo e=>s3.extBut _ o D.TOi2.symm (s2.extBut _ o D.i12.symm (s1.extBut _ o D.i2z e))) (q2.at_ λo e=>s3.extBut _ o D.l2TO (s2.extBut _ o D.l2i1 (s1.extBut _ o D.l2z e))) ey λg4 e s4 he=>?_);obtain⟨oe,he,ce⟩:=he;have Z4:IsZip g4 z TI TO .ellipsis:=s4 _ _ D.i2z.symm (s3.extBut _ _ D.TOz.symm (s2.extBut _ _ D.i1z.symm Z1));have nez:e≠z:=λq=>by subst q;rw[Z4]at he;cases he;simp at ce
  exact km Z4 (by simp) λg5 _ s5=>fin g5 e (λc o c1 c2 c3 c4 q=>s5.extBut _ _ c1 (s4 _ _ c4 (s3.extBut _ _ c2 (s2.extBut _ _ c3 (s1.extBut _ _ c1 q))))) ⟨oe,s5.extBut _ _ nez he,ce⟩
abbrev r9(b1:Bool)(h:Heap)(l1:Addr):Heap:=h.push (mW b1 l1)
abbrev r8(b1 b2:Bool)(h:Heap)(l1 l2:Addr):Heap:=(r9 b1 h l1).push (mW b2 l2)
abbrev rZ(b1 b2:Bool)(h:Heap)(l1 l2:Addr):Heap:=(r8 b1 b2 h l1 l2).push {cls:=.type "tuple",data:=.seq #[.ref h.objs.size,.ref (r9 b1 h l1).objs.size]}
abbrev rY(b1 b2:Bool)(h:Heap)(l1 l2:Addr):Heap:=(rZ b1 b2 h l1 l2).push {cls:=.type "tuple",data:=.seq #[.none,.none]}
abbrev oA(b1 b2:Bool)(h:Heap)(l1 l2:Addr):Heap:=(rY b1 b2 h l1 l2).push {cls:=.type "zip",data:=.fields #[.none,.bool false,.bool false,.ref (r8 b1 b2 h l1 l2).objs.size,.ref (rZ b1 b2 h l1 l2).objs.size]}
def qor(b1 b2:Bool)(l1 l2:Addr)(xs ys:Zd):Meets (Builtin.«zip.__new__» ⟨[.type "zip",.ref l1,.ref l2],[]⟩) (λ_ R s=>seqIs b1 s.heap l1 xs/\seqIs b2 s.heap l2 ys/\
 R (.ok (.ret (.ref (rY b1 b2 s.heap l1 l2).objs.size))) {s with heap:=oA b1 b2 s.heap l1 l2}):=by
 refine .of_wp λprog w A R s q=>?_;obtain⟨hp,g,d,tk,os⟩:=s;obtain⟨q1,q2,q⟩:=q;have sub:=sub_zip;have L1:seqIs b1 (Shared.heap ⟨hp,g,d,tk,os⟩) l1 xs:=q1;have L2':seqIs b2 (Shared.heap ⟨hp.push (mW b1 l1),g,d,tk,os⟩) l2 ys:=q2.at_ λo z=>ja _ z
 wp_walk using Il L1,Il L2'
 exact⟨_,rfl,q⟩
def qmf{b1 b2:Bool}{l1 l2:Addr}{xs ys:Zd}{Q:Z0}(q1:seqIs b1 s.heap l1 xs)(q2:seqIs b2 s.heap l2 ys)
 (h:∀h',IsZip h' (s.heap.objs.size+4) (s.heap.objs.size+2) (s.heap.objs.size+3) .none->IsPair h' (s.heap.objs.size+2) (.ref s.heap.objs.size) (.ref (s.heap.objs.size+1))->IsPair h' (s.heap.objs.size+3) .none .none->
   iterIs b1 h' s.heap.objs.size l1 0->iterIs b2 h' (s.heap.objs.size+1) l2 0->(∀c o,s.heap.get? c=some o->h'.get? c=some o)->Q (.ref (s.heap.objs.size+4)) {s with heap:=h'}):
 wpAny (model prog w) A (call (.type "zip") [.ref l1,.ref l2]) Q E s:=by
 refine callType_new F.called_zip (by decide) (F.typeCall_zip_2 _ _) (F.newCall_zip_2 _ _) (λobj=>F.args_object_init_3 obj _ _) F.entry_zip_new (qor b1 b2 l1 l2 xs ys) ⟨q1,q2,?_⟩;have y1:(r9 b1 s.heap l1).objs.size=s.heap.objs.size+1:=xj ..;have y2:(r8 b1 b2 s.heap l1 l2).objs.size=s.heap.objs.size+2:=by rw[xj,y1]
 have y3:(rZ b1 b2 s.heap l1 l2).objs.size=s.heap.objs.size+3:=by rw[xj,y2]
 have y4:(rY b1 b2 s.heap l1 l2).objs.size=s.heap.objs.size+4:=by rw[xj,y3]
 have k5:(oA b1 b2 s.heap l1 l2).get? (rY b1 b2 s.heap l1 l2).objs.size=some _:=jq _ rfl;have k4:(oA b1 b2 s.heap l1 l2).get? (rZ b1 b2 s.heap l1 l2).objs.size=some _:=ja _ (jq _ rfl);have k3:(oA b1 b2 s.heap l1 l2).get? (r8 b1 b2 s.heap l1 l2).objs.size=some _:=ja _ (ja _ (jq _ rfl));have k2:(oA b1 b2 s.heap l1 l2).get? (r9 b1 s.heap l1).objs.size=some (mW b2 l2):=ja _ (ja _ (ja _ (jq _ (by cases b2<;>rfl))));have k1:(oA b1 b2 s.heap l1 l2).get? s.heap.objs.size=some (mW b1 l1):=ja _ (ja _ (ja _ (ja _ (jq _ (by cases b1<;>rfl)))));show _/\_;rw[y2,y3,y4]at k5;rw[y1,y2]at k3;rw[y3]at k4;rw[y1]at k2;rw[y4];exact⟨⟨_,k5,rfl⟩,h _ k5 k3 k4 (iterIs.mk_ k1) (iterIs.mk_ k2) λc o x=>ja _ (ja _ (ja _ (ja _ (ja _ x))))⟩
end
def SqB(K:aq)(b:Bool)(H:Hp)(p:Addr)(xs:List V):Prop:=match b with
 |true=>SqL K H p xs
 |false=>SqT K H p xs
section
variable{X:Cx}{z5:Z3}{J:St}{H:Hp}{s:Shared}{b b1 b2:Bool}{p p1 p2:Addr}{xs ys:List V}
def Inv.seqB(I:Inv X z5 J H s)(h:SqB X.K b H p xs):∃its:List Value,Vals xs its/\seqIs b s.heap p its.toArray/\xs.length<=sizeLine:=by
 cases b
 .let⟨its,r,q,hz⟩:=I.tuple (show SqT X.K H p xs from h);exact⟨its,r,(show s.heap.IsTuple p its.toArray from q),hz⟩
 .let⟨its,r,q,hz⟩:=I.list (show SqL X.K H p xs from h);exact⟨its,r,(show s.heap.IsList p its.toArray from q.isList),hz⟩
def Inv.seqB_inj(I:Inv X z5 J H s)(h:SqB X.K b H p xs)(h':SqB X.K b H p ys):xs=ys:=by
 cases b
 .exact I.tuple_inj h h'
 .exact I.list_inj h h'
end
def zO(K:aq)(b1 b2:Bool)(p1 p2:Addr):It:=
 ⟨λi H=>∃xs ys x y,SqB K b1 H p1 xs/\SqB K b2 H p2 ys/\xs[i]? =some x/\ys[i]? =some y,
  λi H v H'=>∃T x y,v=.ref T/\H T=none/\H'=aT H T (.tup [x,y])/\(∀xs,SqB K b1 H p1 xs->xs[i]? =some x)/\∀ys,SqB K b2 H p2 ys->ys[i]? =some y,
  λi H=>∃xs ys,SqB K b1 H p1 xs/\SqB K b2 H p2 ys/\(xs.length<=i∨ys.length<=i)⟩
def qx3(b1 b2:Bool)(p1 p2 z TI TO i1 i2:Addr)(i:Nat)(h:Heap):Prop:=IsZip h z TI TO .none/\IsPair h TI (.ref i1) (.ref i2)/\(∃a b,IsPair h TO a b)/\iterIs b1 h i1 p1 i/\iterIs b2 h i2 p2 i
def qkd{P:Program}{w:World}{K:aq}{zm:Zi}{x1:Nat}{pos:Pos}(b1 b2:Bool){p1 p2 z TI TO i1 i2:Addr}(D:ZipApart z TI TO i1 i2 p1 p2):
 Turn P w K (.Tuple zm x1 pos) (zO K b1 b2 p1 p2) [z,TI,TO,i1,i2] z (qx3 b1 b2 p1 p2 z TI TO i1 i2) where
 mem:=by simp
 obj:=λi h st c hc=>by
  obtain⟨hz,hI,⟨a,b,hO⟩,j1,j2⟩:=st;simp only[List.mem_cons,List.not_mem_nil,or_false]at hc;rcases hc with rfl|rfl|rfl|rfl|rfl
  .exact⟨_,hz,λv e=>by cases e⟩
  .exact⟨_,hI,λv e=>by cases e⟩
  .exact⟨_,hO,λv e=>by cases e⟩
  .exact j1.obj
  .exact j2.obj
 keep:=λi h h' st k=>by obtain⟨hz,hI,⟨a,b,hO⟩,j1,j2⟩:=st;exact⟨k z (by simp) _ hz,k TI (by simp) _ hI,⟨a,b,k TO (by simp) _ hO⟩,j1.at_ λo e=>k i1 (by simp) o e,j2.at_ λo e=>k i2 (by simp) o e⟩
 item:=by
  intro X hP hw hK hc i z5 s J H E I hf st hg;subst hP hw hK;obtain⟨xs,ys,x,y,q1,q2,ex,ey⟩:=hg;let⟨it1,r1,t1,_⟩:=I.seqB q1;let⟨it2,r2,t2,_⟩:=I.seqB q2;let⟨u,eu,ru⟩:=r1.get ex;let⟨v,ev,rv⟩:=r2.get ey;obtain⟨hz,hI,⟨a,b,hO⟩,j1,j2⟩:=st;refine qk8 D hz hI hO j1 j2 t1 t2 (x:=u) (y:=v) (by simpa using eu) (by simpa using ev) λh' z' o' n1 n2 tp kk=>?_;refine⟨_,rfl,?_⟩;refine wpAny_letOwnedTupleGo_zip z' λh'' z'' s''=>?_;have fresh:H s.heap.objs.size=none:=I.hok.fresh (jc _);have zne:s.heap.objs.size≠z:=λe=>by have:=j9 hz;rw[<-e]at this;exact xf _ this
  have keep:∀c o,c∉[z,TI,TO,i1,i2]->s.heap.get? c=some o->h''.get? c=some o:=λc o hc e=>by simp only[List.mem_cons,List.not_mem_nil,or_false,not_or]at hc;exact s''.extBut c o hc.1 (kk c o hc.1 hc.2.2.1 hc.2.2.2.1 hc.2.2.2.2 e)
  have tp':h''.get? s.heap.objs.size=some {cls:=.type "tuple",data:=.seq #[u,v]}:=s''.extBut _ _ zne tp;have I':Inv X z5 J (aT H s.heap.objs.size (.tup [x,y])) {s with heap:=h'',toks:=s.toks}:=by
   refine I.step (g':=s.gens) (d':=s.drawn) (ch:=[z,TI,TO,i1,i2]) (λc hc=>?_) (λc o _ _ hc e _=>keep c o hc e) (λc o _ _ hc e _=>⟨o.slots,keep c o hc e⟩) (λc o _ e n=>?_) (λc o hc e=>⟨o,keep c o hc e⟩)
    (λc zs e=>?_) (λc o w' e=>?_) (λc ps e=>⟨#[],?_⟩) (λm hm=>?_) (λc o e=>?_) I.bare
   .let⟨_,f1,f2,f3,f4,f5⟩:=hf c hc;exact⟨f3,f1,f4,f5⟩
   .rw[bf (jl (j9 e))];exact n
   .rw[bf (gp e fresh)];exact e
   .rw[bf (gp e fresh)];exact e
   .rw[bf (gp e fresh),e];simp
   .obtain⟨o,es,ep,ho,r⟩:=hm;exact⟨o,es,ep,keep _ o (λq=>(hf _ q).2.1 rfl) ho,r⟩
   .by_cases hb:c=s.heap.objs.size
    .subst hb;rw[cT]at e;cases e;exact⟨by show 2<=sizeLine;decide,[u,v],.cons ru (.cons rv .nil),⟨_,tp',⟨rfl,_,rfl⟩,rfl⟩⟩
    .rw[bf hb]at e;refine(I.hok c o e).stay (λd w' hd q=>keep d w' (λm=>?_) q) (λd q=>?_) λd zs q=>?_
     .have n:=(hf d m).1;rcases hd with rfl|hd
      .rw[n]at e;cases e
      .rw[n]at hd;cases hd
     .rw[bf (gp q fresh)];exact q
     .rw[bf (gp q fresh)];exact q
  refine⟨.ref s.heap.objs.size,_,I',rfl,⟨_,x,y,rfl,fresh,rfl,λzs q=>by rw[I.seqB_inj q q1];exact ex,λzs q=>by rw[I.seqB_inj q q2];exact ey⟩,?_,λc hc=>?_⟩
  .refine⟨z'',s''.extBut _ _ D.TIz (kk _ _ D.TIz D.TITO D.TIi1 D.TIi2 hI),⟨u,v,s''.extBut _ _ D.TOz o'⟩,n1.at_ λo e=>s''.extBut _ o D.i1z e,n2.at_ λo e=>s''.extBut _ o D.i2z e⟩
  .have lt:c<s.heap.objs.size:=by
    simp only[List.mem_cons,List.not_mem_nil,or_false]at hc;rcases hc with rfl|rfl|rfl|rfl|rfl
    .exact j9 hz
    .exact j9 hI
    .exact j9 hO
    .obtain⟨o,e,_⟩:=j1.obj;exact j9 e
    .obtain⟨o,e,_⟩:=j2.obj;exact j9 e
   rw[bf (jl lt)];exact(hf c hc).1
 done:=by
  intro X hP hw hK hc i z5 s J H E I hf st hg;subst hP hw hK;obtain⟨xs,ys,q1,q2,hl⟩:=hg;let⟨it1,r1,t1,_⟩:=I.seqB q1;let⟨it2,r2,t2,_⟩:=I.seqB q2;obtain⟨hz,hI,⟨a,b,hO⟩,j1,j2⟩:=st;have l1:=r1.length;have l2:=r2.length;refine qos (I.ok.hd hc) D hz hI hO j1 j2 t1 t2 (by rcases hl with h|h;exact .inl (by simp;omega);exact .inr (by simp;omega)) λh' kk=>⟨rfl,?_⟩;have keep:∀c o,c∉[z,TI,TO,i1,i2]->s.heap.get? c=some o->h'.get? c=some o:=λc o hc e=>by simp only[List.mem_cons,List.not_mem_nil,or_false,not_or]at hc;exact kk c o hc.1 hc.2.2.1 hc.2.2.2.1 hc.2.2.2.2 e
  show Inv X z5 J H {s with heap:=h',toks:=s.toks};refine I.step (g':=s.gens) (d':=s.drawn) (ch:=[z,TI,TO,i1,i2]) (λc hc=>?_) (λc o _ _ hc e _=>keep c o hc e) (λc o _ _ hc e _=>⟨o.slots,keep c o hc e⟩) (λc o _ e n=>n) (λc o hc e=>⟨o,keep c o hc e⟩)
   (λc zs e=>e) (λc o w' e=>e) (λc ps e=>⟨#[],by rw[e];simp⟩) (λm hm=>?_) (λc o e=>?_) I.bare
  .let⟨_,f1,f2,f3,f4,f5⟩:=hf c hc;exact⟨f3,f1,f4,f5⟩
  .obtain⟨o,es,ep,ho,r⟩:=hm;exact⟨o,es,ep,keep _ o (λq=>(hf _ q).2.1 rfl) ho,r⟩
  .refine(I.hok c o e).stay (λd w' hd q=>keep d w' (λm=>?_) q) (λd q=>q) λd zs q=>q;have n:=(hf d m).1;rcases hd with rfl|hd
   .rw[n]at e;cases e
   .rw[n]at hd;cases hd
 self:=λ_ _ _ _ _ st h=>wpAny_pyIter_zip st.1 h
section
variable{X:Cx}{a b:Expr}{ta:TA}{p pos:Pos}{zm:Zi}{x1:Nat}{tp:Pos}
def iT(K:aq)(b1 b2:Bool)(ta:TA):TI:=λJ H R=>ta J H λvs H1=>∃p1 p2,vs=[.ref p1,.ref p2]/\(∃xs,SqB K b1 H1 p1 xs)/\(∃ys,SqB K b2 H1 p2 ys)/\R (zO K b1 b2 p1 p2) H1
def tK{K:aq}(b1 b2:Bool)(hK:X.K=K)(hg:Gl X "zip")(hm:X.mg "zip"=none)(ha:PA X [a,b] ta)(he:starEach [a,b] X.env=(false,eval a X.env)::starEach [b] X.env:=by rfl)(hpl:(backTo pos (starEach [b] X.env)).any (·.1)=false:=by rfl):
 PI X (.Tuple zm x1 tp) (.Call (.Name "zip" p) [a,b] [] pos) (iT K b1 b2 ta):=by
 subst hK;intro z5 s J H R I h;refine xq (ia I hg hm (u:=.type "zip") (by rfl) ?_);refine PyProof.Rows.callWith_type1 (bu (ha pos z5 s J H _ I h) λus s1 h1=>?_) he hpl;obtain⟨vs,H1,I1,r1,p1,p2,rfl,⟨xs,q1⟩,⟨ys,q2⟩,k⟩:=h1;obtain⟨u,w',rfl,ru,rw'⟩:=fJ r1;cases(show u=Value.ref p1 from ru);cases(show w'=Value.ref p2 from rw');let⟨it1,r1,t1,_⟩:=I1.seqB q1;let⟨it2,r2,t2,_⟩:=I1.seqB q2;have lt:∀{c:Addr} {b:Bool} {zs:Zd},seqIs b s1.heap c zs->c<s1.heap.objs.size:=λ{c b zs} q=>by
  cases b
  .let⟨o,e,_⟩:=(show s1.heap.IsTuple c zs from q);exact j9 e
  .let⟨o,e,_⟩:=(show s1.heap.IsList c zs from q);exact j9 e
 refine qmf t1 t2 λh' hz hI hO j1 j2 kk=>wpAny_pyIter_zip hz ?_;have D:=zipApart_new (lt t1) (lt t2);have I2:Inv X z5 J H1 {s1 with heap:=h',toks:=s1.toks}:=I1.kept kk;refine⟨_,_,_,_,H1,rfl,I2,qkd b1 b2 D,⟨hz,hI,⟨_,_,hO⟩,j1,j2⟩,λc hc=>?_,k⟩;have le:s1.heap.objs.size<=c:=by simp only[List.mem_cons,List.not_mem_nil,or_false]at hc;rcases hc with rfl|rfl|rfl|rfl|rfl<;>first|exact jc _|exact Nat.le_add_right _ _
 exact I1.fpOk le (I1.hok.fresh le)
end
def qeb{xs:List PyData}(h:PyData.canLayAll0 xs=true)(d:PyData.depthAll xs<=60):SeqAt.shaped (.list xs)=true:=by
 unfold SeqAt.shaped;rw[Bool.and_eq_true];refine⟨?_,decide_eq_true ?_⟩
 .simpa only[PyData.canLay0]using h
 .simp only[PyData.depth];omega
theorem GZ:∀xs:List Int,PyData.canLayAll0 (xs.map PyData.int)=true
 |[]=>by simp[PyData.canLayAll0]
 |x::xs=>by simp[PyData.canLayAll0,PyData.canLay0,GZ xs]
theorem HC:∀xs:List Int,PyData.depthAll (xs.map PyData.int)<=60
 |[]=>by simp[PyData.depthAll]
 | x::xs=>by have:=HC xs;simp[PyData.depthAll,PyData.depth];omega
def ID(xs:Zf):SeqAt.shaped (.list (xs.map PyData.int))=true:=qeb (GZ xs) (HC xs)
section
variable{X:Cx}
theorem zK:∀(ns:Zf) (k:Nat),k<=ns.length->preSum (λi=>ns.getD i 0) k=(ns.take k).sum
 |ns,0,_=>by simp[preSum]
 | ns,k+1,h=>by
  have hk:k<ns.length:=h;rw[preSum,zK ns k (Nat.le_of_lt hk),List.take_add_one,jb hk,List.sum_append];have e:ns.getD k 0=ns[k]:=by rw[ji,jb hk];rfl
  rw[e];simp
theorem lC:∀{ns:Zf} {us:Ze} {i:Nat} {v:Value},Vals (ns.map V.int) us->us[i]? =some v->∃t,v=.int (ns.getD i 0) t
 |[],us,i,v,r,e=>by cases r;simp at e
 | n::ns,us,0,v,r,e=>by
  cases r with
  | cons h t=>
   obtain⟨tk,q⟩:=h;simp at e;exact⟨tk,by rw[<-e,q];rfl⟩
 | n::ns,us,i+1,v,r,e=>by
  cases r with
  | cons h t=>
   obtain⟨tk,q⟩:=lC (i:=i) t (by simpa using e);exact⟨tk,by rw[q];rfl⟩
def yG{K:aq}(hK:X.K=K)(hc:X.calm=true):gf X (.builtin "sum") (λxs H Q=>∃(p:Addr) (ns:Zf),xs=[.ref p]/\SqL K H p (ns.map V.int)/\Q (.int ns.sum) H):=by
 subst hK;intro z5 s J H xs us Q I r h;obtain⟨p,ns,rfl,hq,q⟩:=h;obtain⟨u,rfl,ru⟩:=cH r;cases ru;let⟨its,rv,pl,hz⟩:=I.list hq;have hh:X.A.in1.handled=none:=I.ok.hd hc;have hl:=pl.isList;have hlt:p<s.heap.objs.size:=by obtain⟨_,e,_⟩:=hl;exact j9 e
 refine call_sum_walkG (wpAny_pyIter_list hl ?_);refine⟨_,_,_,_,_,_,λi=>ns.getD i 0,rfl,Walks.list hh s.heap.objs.size p (jl hlt) its.toArray,⟨⟨_,jq _ rfl,rfl,rfl⟩,hl.push _⟩,λb hb=>?_,λi v hP=>lC rv (by simpa using hP),λh' tk t' hk=>?_⟩
 .show b<(s.heap.push _).objs.size;rw[xj];rcases List.mem_cons.mp hb with rfl|hb
  .exact Nat.lt_succ_self _
  .rw[List.mem_singleton.mp hb];exact Nat.lt_succ_of_lt hlt
 .have len:its.toArray.size=ns.length:=by have:=rv.length;simp at this;simp;omega
  refine⟨.int ns.sum,H,I.kept (t':=tk) λb o e=>hk b o (λz=>?_) (ja _ e),⟨t',?_⟩,q⟩
  .have:=j9 e;rw[List.mem_singleton.mp z]at this;exact xf _ this
  .rw[len,zK ns _ (jc _),List.take_length]
end
def Exc(B:Heap)(e:Addr)(cls fl:Value)(h:Heap):Prop:=
 ∃oe vs T oT ts,h.get? e=some oe/\oe.cls=cls/\oe.dict=none/\oe.data=.fields vs/\vs[1]? =some (.ref T)/\B.get? T=none/\T≠e/\h.get? T=some oT/\oT.data=.fields ts/\ts[3]? =some fl
structure FlyD(B:Heap)(l:List Env)(e:Addr)(cls fl:Value)(h:Heap):Prop where
 st:B.StaysIn h
 new:B.get? e=none
 fr:h.FunFrames B l
 ex:Exc B e cls fl h
section
variable{ρ:Model}{A:Around}{E:Z0}{s:Shared}{B:Heap}{env:Env}{outer l:List Env}{L e:Addr}{cls fl:Value}{Q:Unit->Shared->Prop}
def qyf{h:Heap}(hl:h.FunFrames B l){b:Addr}{o:Obj}{vs:Zd}(ho:h.get? b=some o)(hd:o.data=.fields vs):b∉l.filterMap (·.frame):=λhb=>by let⟨_,o1,e1,d1⟩:=hl.mem hb;rw[ho]at e1;cases e1;exact d1 vs hd
end
structure Flies(P:Program)(w:World)(l:List Env)(H:Hp)(s:Shared)(cls:Value)(e:Addr)(H':Hp)(s':Shared):Prop where
 os:s'.os=s.os
 bare:AllBare s'.gens
 un:Un (gT l) [] H H' s.heap s'.heap
 hok:HOk P w H' s'.heap
 fly:∃B,FlyD B l e cls .none s'.heap/\∀b o,s'.heap.get? b=some o->b∉gT l->(H' b≠none∨∃o',s.heap.get? b=some o')->B.get? b=some o
def ObjOk.there{P:Program}{w:World}{H:Hp}{h:Heap}{a:Addr}{o:HO}(x:ObjOk P w H h a o):∃u,h.get? a=some u:=by
 cases o with
 |lst xs=>obtain⟨_,_,_,_,e⟩:=x;exact⟨_,e⟩
 |tup xs=>obtain⟨_,_,_,ob,e,_⟩:=x;exact⟨_,e⟩
 |dK kvs=>obtain⟨_,_,_,_,o,_,e,_⟩:=x;exact⟨_,e⟩
 |dT kvs=>obtain⟨_,_,_,_,o,_,_,e,_⟩:=x;exact⟨_,e⟩
 |set S n=>obtain⟨o,_,_,_,e,_⟩:=x;exact⟨_,e⟩
 |ins C dx fs=>obtain⟨_,_,_,e,_⟩:=x;exact⟨_,e⟩
 |own y=>exact x
 |xd fs=>obtain⟨_,⟨_,_,_,e,_⟩,_⟩:=x;exact⟨_,e⟩
 |rng lo hi=>obtain⟨_,_,_,e⟩:=x;exact⟨_,e⟩
 |frz ob u=>obtain⟨e,_⟩:=x;exact⟨_,e⟩
 |tbl ps=>exact⟨_,(show h.get? a=some _ from x)⟩
 |lam pos q=>obtain⟨_,e,_⟩:=x;exact⟨_,e⟩
 |met f y=>exact⟨_,(show h.get? a=some _ from x)⟩
 |ext φ=>obtain⟨_,⟨_,e⟩,_⟩:=x;exact⟨_,e⟩
section
variable{X:Cx}{z5:Z3}{J:St}{H H':Hp}{s:Shared}
end
section
variable{P:Program}{w:World}{K:aq}{mg:Za}{base:Heap}{N:Zj}{qual:Str}{scope:Scope}{f:Addr}{cd:Value}{A:Around}{outer:List Env}{s₀:Shared}{H₀:Hp}{E:XK}
end
section
variable{X:Cx}{x:Str}{C:Addr}{bmB:Ze}{B newId initId:String}{np zo pos:Pos}{e:Expr}{es:Zi}{t:TA}{E:XK}
end
noncomputable def rT(e:Addr)(cls:Value):HO:=.ext λh=>∃oe vs,h.get? e=some oe/\oe.cls=cls/\oe.dict=none/\oe.data=.fields vs
section
variable{X:Cx}{z5:Z3}{J:St}{H H':Hp}{s s1:Shared}{e:Addr}{cls fl:Value}
def Flies.fresh{l:List Env}{P:Program}{w:World}(F:Flies P w l H s cls e H' s1):s.heap.get? e=none/\H' e=none:=by
 obtain⟨B,fl,cond⟩:=F.fly;obtain⟨oe,vs,T,oT,ts,he,hc,hdn,hd,_⟩:=fl.ex;have nf:=qyf fl.fr he hd;have no:¬(H' e≠none∨∃o',s.heap.get? e=some o'):=λz=>by have q:=cond e oe he nf z;rw[fl.new]at q;cases q
 constructor
 .cases q:s.heap.get? e with
  |none=>rfl
  |some o=>exact absurd (.inr ⟨o,q⟩) no
 .cases q:H' e with
  |none=>rfl
  |some o=>exact absurd (.inl (by rw[q];exact λz=>nomatch z)) no
end
section
variable{X:Cx}{z5:Z3}{J:St}{H H':Hp}{s s1:Shared}{e:Addr}{cls c:Value}{i:Nat}{x n:Str}{np pos hpos:Pos}{b₀:Stmt}{suite:Zh}{ts:TS}{D:Ends}
end
section
variable{X:Cx}{z5:Z3}{J:St}{CX:io}{k:Nat}{f:Addr}{fd:FuncData}{ps:Zj}{sp:Sp}{dvs:List V}{ds:Ze}{E:XK}{x:Str}{p pos zo:Pos}{e c:Expr}{es:Zi}{t:TA}{te:TE}{tc:TT}{st:Stmt}{a b:Zh}{ta tb u:TS}
end
section
variable{X:Cx}{c:Value}{i:Nat}{x n:Str}{np pos hpos:Pos}{body:Zh}{b₀:Stmt}{suite:Zh}{ts:TS}{tb:XK->TS}
end
section
variable{P:Program}{w:World}{K:aq}{mg:Za}{base:Heap}
end
section
variable{prog:Program}{w:World}{A:Around}{E:Z0}{s:Shared}{K:aq}{e C:Addr}{oe:Obj}
end
structure ExcK(K:aq)(C:Addr):Prop where
 cls:PySem.W.isClsIn K C=true
 ty:PySem.W.typeIn K (.ref C)=some (.type "type")
 sf:PySem.W.subIn K (.ref C) (.ref C)=some true
 ga:PySem.W.findIn K (.ref C) "__getattribute__"=some (some (.builtin "BaseException.__getattribute__"))
 gt:PySem.W.findIn K (.ref C) "__getattr__"=some none
 bs:PySem.W.subIn K (.ref C) (.type "BaseException")=some true
 ha:PySem.W.findIn K (.ref C) "__class__"=some (some (.builtin "object.__class__"))
 hn:PySem.W.specialIn K (.builtin "object.__class__") "__get__"=some (some (.builtin "getset_descriptor.__get__"))
 tk:PySem.W.takesIn K (.builtin "object.__class__")=some true
 hm:PySem.W.mroIn K C (.type "object")=some true
section
variable{X:Cx}{z5:Z3}{J:St}{H:Hp}{s:Shared}{A:Around}{E:Z0}{Q:Z0}{c:Value}{b:Bool}{a C:Addr}
end
inductive D where
 |non
 |bl (b:Bool)
 |int (i:Int)
 |str (x:Str)
 |lst (xs:List D)
 |tup (xs:List D)
 |obj (x:Str) (fs:List (Str×D))
 |dct (kvs:List (bI×D))
 |dit (kvs:List (List bI×D))
 |exc (x:Str)
 |fn (x:Str)
 |tab (P:Addr) (pos:Pos) (q:Str)
mutual
inductive Rp(K:aq)(R:Hp):V->D->Prop
 |non:Rp K R .non .non
 |bl (b:Bool):Rp K R (.bl b) (.bl b)
 |int (i:Int):Rp K R (.int i) (.int i)
 |str (x:Str):Rp K R (.str x) (.str x)
 |lst {a:Addr} {xs:List V} {ds:List D}:SqL K R a xs->Rps K R xs ds->Rp K R (.ref a) (.lst ds)
 |tup {a:Addr} {xs:List V} {ds:List D}:R a=some (.tup xs)->Rps K R xs ds->Rp K R (.ref a) (.tup ds)
 |obj {a C dx:Addr} {x:Str} {fs:List (Str×V)} {gs:List (Str×D)}:PySem.W.nsIn K mainGlobals x=some (some (.ref C))->R a=some (.ins C dx fs)->Rfs K R fs gs->Rp K R (.ref a) (.obj x gs)
 |dct {a:Addr} {kvs:List (bI×V)} {gs:List (bI×D)}:R a=some (.dK kvs)->Rkk K R kvs gs->Rp K R (.ref a) (.dct gs)
 |dit {a:Addr} {kvs:List (List bI×V)} {gs:List (List bI×D)}:R a=some (.dT kvs)->Rkt K R kvs gs->Rp K R (.ref a) (.dit gs)
 |exc {a C:Addr} {x:Str}:PySem.W.nsIn K mainGlobals x=some (some (.ref C))->ExcK K C->R a=some (rT a (.ref C))->Rp K R (.ref a) (.exc x)
 |fn {l:Addr} {x:Str}:PySem.W.nsIn K mainGlobals x=some (some (.ref l))->Rp K R (.ref l) (.fn x)
 |tab {P:Addr} {pos:Pos} {q:Str}:R P=some (.lam pos q)->Rp K R (.ref P) (.tab P pos q)
inductive Rps(K:aq)(R:Hp):List V->List D->Prop
 |nil:Rps K R [] []
 |cons {x:V} {xs:List V} {d:D} {ds:List D}:Rp K R x d->Rps K R xs ds->Rps K R (x::xs) (d::ds)
inductive Rfs(K:aq)(R:Hp):List (Str×V)->List (Str×D)->Prop
 |nil:Rfs K R [] []
 |cons {f:Str} {x:V} {xs:List (Str×V)} {d:D} {ds:List (Str×D)}:Rp K R x d->Rfs K R xs ds->Rfs K R ((f,x)::xs) ((f,d)::ds)
inductive Rkk(K:aq)(R:Hp):List (bI×V)->List (bI×D)->Prop
 |nil:Rkk K R [] []
 |cons {f:bI} {x:V} {xs:List (bI×V)} {d:D} {ds:List (bI×D)}:Rp K R x d->Rkk K R xs ds->Rkk K R ((f,x)::xs) ((f,d)::ds)
inductive Rkt(K:aq)(R:Hp):List (List bI×V)->List (List bI×D)->Prop
 |nil:Rkt K R [] []
 |cons {f:List bI} {x:V} {xs:List (List bI×V)} {d:D} {ds:List (List bI×D)}:Rp K R x d->Rkt K R xs ds->Rkt K R ((f,x)::xs) ((f,d)::ds)
end
section
variable{K:aq}{R:Hp}
def Rp.isI{x:V}{i:Int}(h:Rp K R x (.int i)):x=.int i:=by cases h;rfl
def Rp.isS{x:V}{i:Str}(h:Rp K R x (.str i)):x=.str i:=by cases h;rfl
def Rp.isB{x:V}{i:Bool}(h:Rp K R x (.bl i)):x=.bl i:=by cases h;rfl
def Rp.isN{x:V}(h:Rp K R x .non):x=.non:=by cases h;rfl
noncomputable def qyo:D->Option V
 |.int i=>some (.int i)
 |.str i=>some (.str i)
 |.bl i=>some (.bl i)
 |.non=>some .non
 |_=>none
def Rp.isA{x v:V}:{d:D}->Rp K R x d->qyo d=some v->x=v
 |.int _,h,e=>h.isI.trans (jg e)
 |.str _,h,e=>h.isS.trans (jg e)
 |.bl _,h,e=>h.isB.trans (jg e)
 |.non,h,e=>h.isN.trans (jg e)
def Rp.isL{x:V}{ds:List D}(h:Rp K R x (.lst ds)):∃a xs,x=.ref a/\SqL K R a xs/\Rps K R xs ds:=by
 cases h with
 |@lst a xs ds h r=>exact⟨a,xs,rfl,h,r⟩
def Rp.isT{x:V}{ds:List D}(h:Rp K R x (.tup ds)):∃a xs,x=.ref a/\R a=some (.tup xs)/\Rps K R xs ds:=by
 cases h with
 |@tup a xs ds h r=>exact⟨a,xs,rfl,h,r⟩
def Rps.isC{xs:List V}{d:D}{ds:List D}(h:Rps K R xs (d::ds)):∃x ys,xs=x::ys/\Rp K R x d/\Rps K R ys ds:=by
 cases h with
 |@cons x ys d ds h r=>exact⟨x,ys,rfl,h,r⟩
end
abbrev aA:=List (Option D)
abbrev ba:=aA->Option (List D×aA)
abbrev aN:=aA->Option (D×aA)
abbrev dz:=aA->Option (Bool×aA)
abbrev eL:=D->aA->Option aA
def Same.sqL{K:aq}{H H':Hp}{a:Addr}{xs:List V}(e:Same H H')(h:SqL K H a xs):SqL K H' a xs:=by
 rcases h with(h|⟨o,h⟩)|h
 .exact .inl (.inl (e _ _ h))
 .exact .inl (.inr ⟨o,e _ _ h⟩)
 .exact .inr h
section
variable{K:aq}{R R':Hp}
def Rp.mono(s:Same R R'){v:V}{d:D}(h:Rp K R v d):Rp K R' v d:=
 Rp.rec (motive_1:=λv d _=>Rp K R' v d) (motive_2:=λxs ds _=>Rps K R' xs ds) (motive_3:=λxs ds _=>Rfs K R' xs ds) (motive_4:=λxs ds _=>Rkk K R' xs ds) (motive_5:=λxs ds _=>Rkt K R' xs ds)
  .non .bl .int .str (λh _ r=>.lst (s.sqL h) r) (λh _ r=>.tup (s _ _ h) r) (λn h _ r=>.obj n (s _ _ h) r) (λh _ r=>.dct (s _ _ h) r) (λh _ r=>.dit (s _ _ h) r) (λn k h=>.exc n k (s _ _ h)) (λn=>.fn n) (λh=>.tab (s _ _ h))
  .nil (λ_ _ h r=>.cons h r) .nil (λ_ _ h r=>.cons h r) .nil (λ_ _ h r=>.cons h r) .nil (λ_ _ h r=>.cons h r) h
def Rps.mono(s:Same R R'){xs:List V}{ds:List D}(h:Rps K R xs ds):Rps K R' xs ds:=
 Rps.rec (motive_1:=λv d _=>Rp K R' v d) (motive_2:=λxs ds _=>Rps K R' xs ds) (motive_3:=λxs ds _=>Rfs K R' xs ds) (motive_4:=λxs ds _=>Rkk K R' xs ds) (motive_5:=λxs ds _=>Rkt K R' xs ds)
  .non .bl .int .str (λh _ r=>.lst (s.sqL h) r) (λh _ r=>.tup (s _ _ h) r) (λn h _ r=>.obj n (s _ _ h) r) (λh _ r=>.dct (s _ _ h) r) (λh _ r=>.dit (s _ _ h) r) (λn k h=>.exc n k (s _ _ h)) (λn=>.fn n) (λh=>.tab (s _ _ h))
  .nil (λ_ _ h r=>.cons h r) .nil (λ_ _ h r=>.cons h r) .nil (λ_ _ h r=>.cons h r) .nil (λ_ _ h r=>.cons h r) h
def Rfs.mono(s:Same R R'){xs:List (Str×V)}{ds:List (Str×D)}(h:Rfs K R xs ds):Rfs K R' xs ds:=
 Rfs.rec (motive_1:=λv d _=>Rp K R' v d) (motive_2:=λxs ds _=>Rps K R' xs ds) (motive_3:=λxs ds _=>Rfs K R' xs ds) (motive_4:=λxs ds _=>Rkk K R' xs ds) (motive_5:=λxs ds _=>Rkt K R' xs ds)
  .non .bl .int .str (λh _ r=>.lst (s.sqL h) r) (λh _ r=>.tup (s _ _ h) r) (λn h _ r=>.obj n (s _ _ h) r) (λh _ r=>.dct (s _ _ h) r) (λh _ r=>.dit (s _ _ h) r) (λn k h=>.exc n k (s _ _ h)) (λn=>.fn n) (λh=>.tab (s _ _ h))
  .nil (λ_ _ h r=>.cons h r) .nil (λ_ _ h r=>.cons h r) .nil (λ_ _ h r=>.cons h r) .nil (λ_ _ h r=>.cons h r) h
def Rkk.mono(s:Same R R'){xs:List (bI×V)}{ds:List (bI×D)}(h:Rkk K R xs ds):Rkk K R' xs ds:=
 Rkk.rec (motive_1:=λv d _=>Rp K R' v d) (motive_2:=λxs ds _=>Rps K R' xs ds) (motive_3:=λxs ds _=>Rfs K R' xs ds) (motive_4:=λxs ds _=>Rkk K R' xs ds) (motive_5:=λxs ds _=>Rkt K R' xs ds)
  .non .bl .int .str (λh _ r=>.lst (s.sqL h) r) (λh _ r=>.tup (s _ _ h) r) (λn h _ r=>.obj n (s _ _ h) r) (λh _ r=>.dct (s _ _ h) r) (λh _ r=>.dit (s _ _ h) r) (λn k h=>.exc n k (s _ _ h)) (λn=>.fn n) (λh=>.tab (s _ _ h))
  .nil (λ_ _ h r=>.cons h r) .nil (λ_ _ h r=>.cons h r) .nil (λ_ _ h r=>.cons h r) .nil (λ_ _ h r=>.cons h r) h
def Rkt.mono(s:Same R R'){xs:List (List bI×V)}{ds:List (List bI×D)}(h:Rkt K R xs ds):Rkt K R' xs ds:=
 Rkt.rec (motive_1:=λv d _=>Rp K R' v d) (motive_2:=λxs ds _=>Rps K R' xs ds) (motive_3:=λxs ds _=>Rfs K R' xs ds) (motive_4:=λxs ds _=>Rkk K R' xs ds) (motive_5:=λxs ds _=>Rkt K R' xs ds)
  .non .bl .int .str (λh _ r=>.lst (s.sqL h) r) (λh _ r=>.tup (s _ _ h) r) (λn h _ r=>.obj n (s _ _ h) r) (λh _ r=>.dct (s _ _ h) r) (λh _ r=>.dit (s _ _ h) r) (λn k h=>.exc n k (s _ _ h)) (λn=>.fn n) (λh=>.tab (s _ _ h))
  .nil (λ_ _ h r=>.cons h r) .nil (λ_ _ h r=>.cons h r) .nil (λ_ _ h r=>.cons h r) .nil (λ_ _ h r=>.cons h r) h
theorem Rps.length:∀{xs:List V} {ds:List D},Rps K R xs ds->xs.length=ds.length
 |_,_,.nil=>rfl
 |_,_,.cons _ r=>by rw[jt,jt,Rps.length r]
theorem Rps.get:∀{xs:List V} {ds:List D} {i:Nat} {d:D},Rps K R xs ds->ds[i]? =some d->∃v,xs[i]? =some v/\Rp K R v d
 |_,_,_,_,.nil,e=>by simp at e
 |_,_,0,_,.cons h _,e=>by simp at e;subst e;exact⟨_,rfl,h⟩
 | _,_,i+1,d,.cons _ r,e=>by let⟨v,h1,h2⟩:=Rps.get (i:=i) (d:=d) r (by simpa using e);exact⟨v,by simpa using h1,h2⟩
theorem Rps.get':∀{xs:List V} {ds:List D} {i:Nat} {v:V},Rps K R xs ds->xs[i]? =some v->∃d,ds[i]? =some d/\Rp K R v d
 |_,_,_,_,.nil,e=>by simp at e
 |_,_,0,_,.cons h _,e=>by simp at e;subst e;exact⟨_,rfl,h⟩
 | _,_,i+1,v,.cons _ r,e=>by let⟨d,h1,h2⟩:=Rps.get' (i:=i) (v:=v) r (by simpa using e);exact⟨d,by simpa using h1,h2⟩
theorem Rps.append:∀{xs ys:List V} {ds es:List D},Rps K R xs ds->Rps K R ys es->Rps K R (xs++ys) (ds++es)
 |_,_,_,_,.nil,s=>s
 |_,_,_,_,.cons r t,s=>.cons r (Rps.append t s)
theorem Rps.take:∀{xs:List V} {ds:List D} (n:Nat),Rps K R xs ds->Rps K R (xs.take n) (ds.take n)
 |_,_,0,_=>.nil
 |_,_,_+1,.nil=>.nil
 |_,_,n+1,.cons r t=>.cons r (Rps.take n t)
theorem Rps.drop:∀{xs:List V} {ds:List D} (n:Nat),Rps K R xs ds->Rps K R (xs.drop n) (ds.drop n)
 |_,_,0,r=>r
 |_,_,_+1,.nil=>.nil
 |_,_,n+1,.cons _ t=>Rps.drop n t
theorem Rps.set{x:V}{d:D}(r:Rp K R x d):∀{xs:List V} {ds:List D} (i:Nat),Rps K R xs ds->Rps K R (xs.set i x) (ds.set i d)
 |_,_,_,.nil=>.nil
 |_,_,0,.cons _ t=>.cons r t
 |_,_,i+1,.cons q t=>.cons q (Rps.set r i t)
def Rps.one{x:V}{d:D}(r:Rp K R x d):Rps K R [x] [d]:=.cons r .nil
theorem Rps.ints:∀ns:List Int,Rps K R (ns.map V.int) (ns.map D.int)
 |[]=>.nil
 |n::ns=>.cons (.int n) (Rps.ints ns)
def Rps.snoc{xs:List V}{ds:List D}{x:V}{d:D}(h:Rps K R xs ds)(r:Rp K R x d):Rps K R (xs++[x]) (ds++[d]):=h.append (.one r)
end
inductive Sc:V->D->Prop
 |non:Sc .non .non
 |bl (b:Bool):Sc (.bl b) (.bl b)
 |int (i:Int):Sc (.int i) (.int i)
 |str (x:Str):Sc (.str x) (.str x)
def Sc.rp{K:aq}{R:Hp}{v:V}{d:D}(h:Sc v d):Rp K R v d:=by
 cases h with
 |non=>exact .non
 |bl b=>exact .bl b
 |int i=>exact .int i
 |str x=>exact .str x
def Frh(H:Hp)(a:Addr):Prop:=H a=none∨∃xs,H a=some (.tup xs)
def Liv(H H':Hp)(a:Addr):Prop:=H' a≠none/\∀xs,H' a=some (.tup xs)->H a=some (.tup xs)
def Liv.refl{H:Hp}{a:Addr}(h:H a≠none):Liv H H a:=⟨h,λ_ e=>e⟩
def Liv.trans{H H1 H2:Hp}{a:Addr}(x:Liv H H1 a)(y:Liv H1 H2 a):Liv H H2 a:=⟨y.1,λxs e=>x.2 xs (y.2 xs e)⟩
def Frh.back{H H1:Hp}{a:Addr}(h:H a≠none->Liv H H1 a)(z:Frh H1 a):Frh H a:=by
 cases q:H a with
 |none=>exact .inl q
 | some o=>
  have v:=h (by rw[q];exact λz=>nomatch z);rcases z with z|⟨xs,z⟩
  .exact absurd z v.1
  .exact .inr ⟨xs,v.2 xs z⟩
structure Ext(H R H' R':Hp):Prop where
 h:Same H H'
 r:Same R R'
 s:∀a o,R' a=some o->H' a=some o
 n:∀a,R' a≠none->R a≠none∨Frh H a
def Ext.refl{H R:Hp}(s:∀a o,R a=some o->H a=some o):Ext H R H R:=⟨Same.refl _,Same.refl _,s,λ_ h=>.inl h⟩
def Same.some{H H':Hp}(s:Same H H'){a:Addr}(h:H a≠none):H' a≠none:=by
 cases q:H a with
 |none=>exact absurd q h
 |some o=>rw[s a o q];exact λz=>nomatch z
def Same.liv{H H':Hp}(s:Same H H'){a:Addr}(h:H a≠none):Liv H H' a:=⟨s.some h,λxs e=>by
 cases q:H a with
 |none=>exact absurd q h
 |some o=>rw[s a o q]at e;exact e⟩
def Ext.trans{H R H1 R1 H2 R2:Hp}(x:Ext H R H1 R1)(y:Ext H1 R1 H2 R2):Ext H R H2 R2:=by
 refine⟨x.h.trans y.h,x.r.trans y.r,y.s,λa h=>?_⟩;rcases y.n a h with z|z
 .exact x.n a z
 .exact .inr (z.back x.h.liv)
def Ext.new{H R:Hp}{a:Addr}{o:HO}(s:∀a o,R a=some o->H a=some o)(h:H a=none):Ext H R (aT H a o) (aT R a o):=by
 have hr:R a=none:=by
  cases q:R a with
  |none=>rfl
  |some u=>rw[s a u q]at h;cases h
 refine⟨Same.new h,Same.new hr,λb u e=>?_,λb e=>?_⟩
 .by_cases hb:b=a
  .subst hb;rw[cT]at e ⊢;exact e
  .rw[bf hb]at e ⊢;exact s b u e
 .by_cases hb:b=a
  .subst hb;exact .inr (.inl h)
  .rw[bf hb]at e;exact .inl e
def Ext.hid{H R:Hp}{a:Addr}{o:HO}(s:∀a o,R a=some o->H a=some o)(h:H a=none):Ext H R (aT H a o) R:=
 ⟨Same.new h,Same.refl _,λb u e=>Same.new h _ _ (s b u e),λ_ e=>.inl e⟩
structure Anc where
 H0:Hp
 R0:Hp
 L:Addr->Prop
 P:List Nat
inductive Ob(K:aq)(R:Hp):HO->D->Prop
 |lst {vs:List V} {ds:List D}:Rps K R vs ds->Ob K R (.lst vs) (.lst ds)
 |dct {kvs:List (bI×V)} {gs:List (bI×D)}:Rkk K R kvs gs->Ob K R (.dK kvs) (.dct gs)
 |dit {kvs:List (List bI×V)} {gs:List (List bI×D)}:Rkt K R kvs gs->Ob K R (.dT kvs) (.dit gs)
def Ob.isL{K:aq}{R:Hp}{o:HO}{ds:List D}(h:Ob K R o (.lst ds)):∃vs,o=.lst vs/\Rps K R vs ds:=by
 cases h with
 |lst r=>exact⟨_,rfl,r⟩
def Ob.mono{K:aq}{R R':Hp}{o:HO}{d:D}(s:Same R R')(h:Ob K R o d):Ob K R' o d:=by
 cases h with
 |lst r=>exact .lst (r.mono s)
 |dct r=>exact .dct (r.mono s)
 |dit r=>exact .dit (r.mono s)
def Ob.noF{K:aq}{H R:Hp}{o:HO}{d:D}{l:Addr}(h:Ob K R o d)(e:H l=some o)(z:Frh H l):False:=by
 rcases z with z|⟨xs,z⟩
 .rw[e]at z;cases z
 .rw[e]at z;cases z;cases h
def Ob.rp{K:aq}{R:Hp}{o:HO}{d:D}{l:Addr}(h:Ob K R o d)(e:R l=some o):Rp K R (.ref l) d:=by
 cases h with
 |lst r=>exact .lst (SqL.of e) r
 |dct r=>exact .dct e r
 |dit r=>exact .dit e r
structure StR(K:aq)(Z:Anc)(O:Zg)(J:St)(H R:Hp)(M:aA):Prop where
 sub:∀a o,R a=some o->H a=some o
 len:J.length=M.length
 env:∀i d,i∉O->M[i]? =some (some d)->∃v,J[i]? =some (some v)/\Rp K R v d
 own:∀i,i∈O->∃l vs ds,M[i]? =some (some ds)/\J[i]? =some (some (.ref l))/\H l=some vs/\R l=none/\Ob K R vs ds
 dis:∀i j,i∈O->j∈O->i≠j->∀l,J[i]? =some (some (.ref l))->J[j]? ≠some (some (.ref l))
 ah:∀a o,Z.H0 a=some o->¬Z.L a->H a=some o
 ar:Same Z.R0 R
 an:∀a,R a≠none->Z.R0 a≠none∨Frh Z.H0 a
 ad:∀a,Z.H0 a≠none->Liv Z.H0 H a
 ao:∀i,i∈O->i∉Z.P->∀l,J[i]? =some (some (.ref l))->Z.H0 l=none
 ap:∀i,i∈O->i∈Z.P->∀l,J[i]? =some (some (.ref l))->Z.L l
structure Stp(O:Zg)(J:St)(H R H' R':Hp):Prop where
 r:Same R R'
 h:∀a o,H a=some o->(∀i,i∈O->J[i]? ≠some (some (.ref a)))->H' a=some o
 n:∀a,R' a≠none->R a≠none∨Frh H a
 d:∀a,H a≠none->Liv H H' a
def Stp.refl(O:Zg)(J:St)(H R:Hp):Stp O J H R H R:=⟨Same.refl _,λ_ _ e _=>e,λ_ h=>.inl h,λ_ h=>.refl h⟩
def Stp.trans{O:Zg}{J:St}{H R H1 R1 H2 R2:Hp}(x:Stp O J H R H1 R1)(y:Stp O J H1 R1 H2 R2):Stp O J H R H2 R2:=by
 refine⟨x.r.trans y.r,λa o e n=>y.h a o (x.h a o e n) n,λa h=>?_,λa h=>(x.d a h).trans (y.d a (x.d a h).1)⟩;rcases y.n a h with z|z
 .exact x.n a z
 .exact .inr (z.back (x.d a))
def Ext.stp{O:Zg}{J:St}{H R H' R':Hp}(x:Ext H R H' R'):Stp O J H R H' R':=⟨x.r,λa o e _=>x.h a o e,x.n,λ_ h=>x.h.liv h⟩
section
variable{K:aq}{Z:Anc}{O O':Zg}{J J':St}{H R H' R':Hp}{M M':aA}
def StR.ext(S:StR K Z O J H R M)(x:Ext H R H' R'):StR K Z O J H' R' M:=by
 refine⟨x.s,S.len,λi d hi e=>?_,λi hi=>?_,S.dis,λa o e n=>x.h a o (S.ah a o e n),S.ar.trans x.r,λa h=>?_,λa h=>(S.ad a h).trans (x.h.liv (S.ad a h).1),S.ao,S.ap⟩
 .let⟨v,h1,h2⟩:=S.env i d hi e;exact⟨v,h1,h2.mono x.r⟩
 .let⟨l,vs,ds,h1,h2,h3,h4,h5⟩:=S.own i hi;refine⟨l,vs,ds,h1,h2,x.h _ _ h3,?_,h5.mono x.r⟩;cases q:R' l with
  |none=>rfl
  | some o=>
   rcases x.n l (by rw[q];exact λz=>nomatch z)with z|z
   .exact absurd h4 z
   .exact(h5.noF h3 z).elim
 .rcases x.n a h with z|z
  .exact S.an a z
  .exact .inr (z.back (S.ad a))
noncomputable def dj(O O':Zg)(J:St)(H R:Hp):Hp:=λa=>open Classical in if∃i,i∈O/\i∉O'/\J[i]? =some (some (.ref a))then H a else R a
def StR.freeze(S:StR K Z O J H R M)(hs:∀i,i∈O'->i∈O)(hp:∀i,i∈Z.P->i∈O->i∈O'):StR K Z O' J H (dj O O' J H R) M/\Same R (dj O O' J H R):=by
 have same:Same R (dj O O' J H R):=λa o e=>by
  unfold dj;split
  .exact S.sub a o e
  .exact e
 refine⟨⟨λa o e=>?_,S.len,λi d hi e=>?_,λi hi=>?_,λi j hi hj=>S.dis i j (hs i hi) (hs j hj),S.ah,S.ar.trans same,λa h=>?_,S.ad,λi hi=>S.ao i (hs i hi),λi hi=>S.ap i (hs i hi)⟩,same⟩
 .unfold dj at e;split at e
  .exact e
  .exact S.sub a o e
 .by_cases hO:i∈O
  .let⟨l,vs,ds,h1,h2,h3,h4,h5⟩:=S.own i hO;rw[e]at h1;have ed:d=ds:=jg (jg h1);subst ed;refine⟨.ref l,h2,(h5.mono same).rp ?_⟩;unfold dj;rw[if_pos ⟨i,hO,hi,h2⟩];exact h3
  .let⟨v,h1,h2⟩:=S.env i d hO e;exact⟨v,h1,h2.mono same⟩
 .let⟨l,vs,ds,h1,h2,h3,h4,h5⟩:=S.own i (hs i hi);refine⟨l,vs,ds,h1,h2,h3,?_,h5.mono same⟩;unfold dj;rw[if_neg ?_]
  .exact h4
  .rintro⟨j,hj,hj',e⟩;exact S.dis j i hj (hs i hi) (λz=>hj' (z▸hi)) l e h2
 .unfold dj at h;split at h
  .rename_i z;obtain⟨j,hj,hj',e⟩:=z;exact .inr (.inl (S.ao j hj (λz=>hj' (hp j z hj)) a e))
  .exact S.an a h
def StR.set(S:StR K Z O J H R M){i:Nat}{v:V}{d:D}(hi:i∉O)(r:Rp K R v d):StR K Z O (J.set i (some v)) H R (M.set i (some d)):=by
 have ne:∀j,j∈O->i≠j:=λj hj z=>hi (z▸hj);refine⟨S.sub,by rw[xh,xh];exact S.len,λj e hj q=>?_,λj hj=>?_,λj k hj hk n l e=>?_,S.ah,S.ar,S.an,S.ad,λj hj hp l e=>?_,λj hj hp l e=>?_⟩
 .by_cases hij:i=j
  .subst hij;have hl:i<M.length:=by
    have:=(List.getElem?_eq_some_iff.mp q).1
    rwa [xh]at this
   rw[xg hl]at q;have e':d=e:=jg (jg q);subst e';exact⟨v,by rw[xg (by rw[S.len];exact hl)],r⟩
  .rw[jo hij]at q;let⟨w,h1,h2⟩:=S.env j e hj q;exact⟨w,by rw[jo hij];exact h1,h2⟩
 .let⟨l,vs,ds,h1,h2,h3,h4,h5⟩:=S.own j hj;exact⟨l,vs,ds,by rw[jo (ne j hj)];exact h1,by rw[jo (ne j hj)];exact h2,h3,h4,h5⟩
 .rw[jo (ne j hj)]at e;rw[jo (ne k hk)];exact S.dis j k hj hk n l e
 .rw[jo (ne j hj)]at e;exact S.ao j hj hp l e
 .rw[jo (ne j hj)]at e;exact S.ap j hj hp l e
def StR.write(S:StR K Z O J H R M){i:Nat}{l:Addr}{vs:HO}{ds:D}(hi:i∈O)(hl:J[i]? =some (some (.ref l)))(r:Ob K R vs ds):StR K Z O J (aT H l vs) R (M.set i (some ds)):=by
 let⟨l0,vs0,ds0,h1,h2,h3,h4,h5⟩:=S.own i hi;rw[hl]at h2;cases h2;have other:∀j,j∈O->i≠j->∀k,J[j]? =some (some (.ref k))->k≠l:=λj hj n k e z=>by subst z;exact S.dis i j hi hj n k hl e
 refine⟨λa o e=>?_,by rw[xh];exact S.len,λj d hj q=>?_,λj hj=>?_,S.dis,λa o e n=>?_,S.ar,S.an,λa h=>?_,S.ao,S.ap⟩
 .have ne:a≠l:=λz=>by subst z;rw[h4]at e;cases e
  rw[bf ne];exact S.sub a o e
 .have n:i≠j:=λz=>hj (z▸hi);rw[jo n]at q;exact S.env j d hj q
 .by_cases n:i=j
  .subst n;have zc:i<M.length:=(List.getElem?_eq_some_iff.mp h1).1;exact⟨l,vs,ds,by rw[xg zc],hl,cT,h4,r⟩
  .let⟨k,vs',ds',g1,g2,g3,g4,g5⟩:=S.own j hj;exact⟨k,vs',ds',by rw[jo n];exact g1,g2,by rw[bf (other j hj n k g2)];exact g3,g4,g5⟩
 .have ne:a≠l:=λz=>by
   subst z;by_cases hp:i∈Z.P
   .exact n (S.ap i hi hp a hl)
   .rw[S.ao i hi hp a hl]at e;cases e
  rw[bf ne];exact S.ah a o e n
 .by_cases ha:a=l
  .subst ha;exact⟨by rw[cT];exact(λz=>(nomatch z)),λxs e=>by rw[cT]at e;cases e;cases r⟩
  .exact⟨by rw[bf ha];exact(S.ad a h).1,λxs e=>by rw[bf ha]at e;exact(S.ad a h).2 xs e⟩
def StR.take(S:StR K Z O J H R M){i:Nat}{l:Addr}{vs:HO}{ds:D}(hi:i∉O)(hin:i∈O')(hO:∀j,j∈O'->j=i∨j∈O)(hp:i∉Z.P)(zc:i<M.length)(h0:Z.H0 l=none)(hH:H l=some vs)(hR:R l=none)(hn:∀j,j∈O->J[j]? ≠some (some (.ref l)))(hs:∀j,j∈O->j∈O')(r:Ob K R vs ds):
 StR K Z O' (J.set i (some (.ref l))) H R (M.set i (some ds)):=by
 have ne:∀j,j∈O->i≠j:=λj hj z=>hi (z▸hj);have hl:i<J.length:=by rw[S.len];exact zc
 refine⟨S.sub,by rw[xh,xh];exact S.len,λj e hj q=>?_,λj hj=>?_,λj k hj hk n m e=>?_,S.ah,S.ar,S.an,S.ad,λj hj hp l e=>?_,λj hj hp' l e=>?_⟩
 .by_cases hij:i=j
  .subst hij;rw[xg zc]at q;have e':ds=e:=jg (jg q);subst e';exact absurd hin hj
  .rw[jo hij]at q;let⟨w,h1,h2⟩:=S.env j e (λz=>hj (hs j z)) q;exact⟨w,by rw[jo hij];exact h1,h2⟩
 .rcases hO j hj with rfl|hj'
  .exact⟨l,vs,ds,by rw[xg zc],by rw[xg hl],hH,hR,r⟩
  .let⟨k,vs',ds',g1,g2,g3,g4,g5⟩:=S.own j hj';exact⟨k,vs',ds',by rw[jo (ne j hj')];exact g1,by rw[jo (ne j hj')];exact g2,g3,g4,g5⟩
 .rcases hO j hj with rfl|hj'
  .rw[xg hl]at e;cases e;rcases hO k hk with rfl|hk'
   .exact absurd rfl n
   .rw[jo (ne k hk')];exact hn k hk'
  .rw[jo (ne j hj')]at e;rcases hO k hk with rfl|hk'
   .rw[xg hl];intro z;cases z;exact hn j hj' e
   .rw[jo (ne k hk')];exact S.dis j k hj' hk' n m e
 .rcases hO j hj with rfl|hj'
  .rw[xg hl]at e;cases e;exact h0
  .rw[jo (ne j hj')]at e;exact S.ao j hj' hp l e
 .rcases hO j hj with rfl|hj'
  .exact absurd hp' hp
  .rw[jo (ne j hj')]at e;exact S.ap j hj' hp' l e
end
noncomputable def cj{α β:Type}(a:aA->Option (α×aA))(k:α->aA->Option (β×aA)):aA->Option (β×aA):=λM=>match a M with
 |none=>none
 |some (x,M1)=>k x M1
noncomputable def ae{α:Type}(x:α):aA->Option (α×aA):=λM=>some (x,M)
noncomputable def dn{α:Type}(o:Option α):aA->Option (α×aA):=λM=>match o with
 |none=>none
 |some x=>some (x,M)
def b9{α β:Type}{a:aA->Option (α×aA)}{k:α->aA->Option (β×aA)}{M:aA}{r:β×aA}(h:cj a k M=some r):∃x M1,a M=some (x,M1)/\k x M1=some r:=by
 unfold cj at h;cases e:a M with
 |none=>rw[e]at h;cases h
 |some p=>rw[e]at h;exact⟨p.1,p.2,rfl,h⟩
def c9{α:Type}{o:Option α}{M:aA}{x:α}{M':aA}(h:dn o M=some (x,M')):o=some x/\M'=M:=by
 unfold dn at h;cases o with
 |none=>cases h
 |some y=>cases h;exact⟨rfl,rfl⟩
noncomputable def aa(i:Nat):aN:=λM=>match M[i]? with
 |some (some d)=>some (d,M)
 |_=>none
def yW{i:Nat}{M M':aA}{d:D}(h:aa i M=some (d,M')):M[i]? =some (some d)/\M'=M:=by
 unfold aa at h;cases e:M[i]? with
 |none=>rw[e]at h;cases h
 | some o=>
  rw[e]at h;cases o with
  |none=>cases h
  |some y=>cases h;exact⟨rfl,rfl⟩
section
variable(K:aq)(O:Zg)
def ME(t:TE)(f:aN):Prop:=∀(Z:Anc) (J:St) (H R:Hp) (M:aA) (d:D) (M':aA) (Q:VK),StR K Z O J H R M->f M=some (d,M')->(∀v H' R',StR K Z O J H' R' M'->Stp O J H R H' R'->Rp K R' v d->Q v H')->t J H Q
def MB(t:TE)(f:aN):Prop:=∀(Z:Anc) (J:St) (H R:Hp) (M:aA) (d:D) (M':aA) (Q:VK),StR K Z O J H R M->f M=some (d,M')->(∀v H' R',StR K Z O J H' R' M'->Stp O J H R H' R'->Rp K H' v d->Q v H')->t J H Q
def MT(t:TT)(f:dz):Prop:=∀(Z:Anc) (J:St) (H R:Hp) (M:aA) (b:Bool) (M':aA) (Q:Bool->Hp->Prop),StR K Z O J H R M->f M=some (b,M')->(∀H' R',StR K Z O J H' R' M'->Stp O J H R H' R'->Q b H')->t J H Q
def MA(t:TA)(f:ba):Prop:=∀(Z:Anc) (J:St) (H R:Hp) (M:aA) (ds:List D) (M':aA) (Q:List V->Hp->Prop),StR K Z O J H R M->f M=some (ds,M')->(∀vs H' R',StR K Z O J H' R' M'->Stp O J H R H' R'->Rps K R' vs ds->Q vs H')->t J H Q
def MN(t:TE)(f:ba):Prop:=∀(Z:Anc) (J:St) (H R:Hp) (M:aA) (ds:List D) (M':aA) (Q:VK),StR K Z O J H R M->f M=some (ds,M')->(∀l vs H' R',StR K Z O J H' R' M'->Stp O J H R H' R'->H l=none->H' l=some (.lst vs)->R' l=none->Rps K R' vs ds->Q (.ref l) H')->t J H Q
end
section
variable{K:aq}{Z:Anc}{O:Zg}{t ta tb tc:TE}{tA tB':TT}{tr:TA}
def StR.same{J:St}{H R:Hp}{M:aA}(S:StR K Z O J H R M):Same R H:=S.sub
def ME.mb{f:aN}(h:ME K O t f):MB K O t f:=λZ J H R M d M' Q S e k=>h Z J H R M d M' Q S e λv H' R' S' st r=>k v H' R' S' st (r.mono S'.same)
def StR.notnew{J:St}{H R:Hp}{M:aA}(S:StR K Z O J H R M){l:Addr}(h:H l=none):∀j,j∈O->J[j]? ≠some (some (.ref l)):=λj hj e=>by
 let⟨k,vs,ds,_,h2,h3,_⟩:=S.own j hj;rw[e]at h2
 (first|obtain rfl:=h2.isA rfl|cases h2)
 rw[h]at h3
 (first|obtain rfl:=h3.isA rfl|cases h3)
def StR.know{J:St}{H R:Hp}{M:aA}{l:Addr}{vs:HO}(S:StR K Z O J H R M)(h0:Z.H0 l=none)(hH:H l=some vs)(hR:R l=none)(hn:∀j,j∈O->J[j]? ≠some (some (.ref l))):StR K Z O J H (aT R l vs) M:=by
 have same:Same R (aT R l vs):=Same.new hR;refine⟨λa o e=>?_,S.len,λi d hi e=>?_,λi hi=>?_,S.dis,S.ah,S.ar.trans same,λa h=>?_,S.ad,S.ao,S.ap⟩
 .by_cases ha:a=l
  .subst ha;rw[cT]at e;rw[hH,e]
  .rw[bf ha]at e;exact S.sub a o e
 .let⟨v,h1,h2⟩:=S.env i d hi e;exact⟨v,h1,h2.mono same⟩
 .let⟨k,ws,ds,h1,h2,h3,h4,h5⟩:=S.own i hi;refine⟨k,ws,ds,h1,h2,h3,?_,h5.mono same⟩;rw[bf (λz=>hn i hi (by rw[<-z];exact h2))];exact h4
 .by_cases ha:a=l
  .subst ha;exact .inr (.inl h0)
  .rw[bf ha]at h;exact S.an a h
def StR.new0{J:St}{H R:Hp}{M:aA}{l:Addr}(S:StR K Z O J H R M)(h:H l=none):Z.H0 l=none:=by
 cases q:Z.H0 l with
 |none=>rfl
 |some o=>exact absurd h (S.ad l (by rw[q];exact λz=>nomatch z)).1
def Stp.know{J:St}{H R H' R':Hp}{l:Addr}{o:HO}(x:Stp O J H R H' R')(h:H l=none)(hr:R' l=none):Stp O J H R H' (aT R' l o):=by
 refine⟨x.r.trans (Same.new hr),x.h,λb e=>?_,x.d⟩;by_cases hb:b=l
 .subst hb;exact .inr (.inl h)
 .rw[bf hb]at e;exact x.n b e
def MN.me{f:ba}(h:MN K O t f):ME K O t (cj f λds=>ae (.lst ds)):=λZ J H R M d M' Q S e k=>by let⟨ds,M1,e1,e2⟩:=b9 e;cases e2;refine h Z J H R M ds _ Q S e1 λl vs H' R' S' st h0 hH hR r=>?_;refine k _ H' (aT R' l (.lst vs)) (S'.know (S.new0 h0) hH hR ?_) (st.know h0 hR) (.lst (SqL.of cT) (r.mono (Same.new hR)));exact S.notnew h0
def aG{i:Nat}(hi:i∉O:=by decide):ME K O (dL i) (aa i):=λZ J H R M d M' Q S e k=>by obtain⟨e1,rfl⟩:=yW e;let⟨v,h1,h2⟩:=S.env i d hi e1;exact⟨v,h1,k v H R S (Stp.refl _ _ _ _) h2⟩
def gH{i:Nat}:MB K O (dL i) (aa i):=λZ J H R M d M' Q S e k=>by
 obtain⟨e1,rfl⟩:=yW e;by_cases hi:i∈O
 .let⟨l,vs,ds,h1,h2,h3,h4,h5⟩:=S.own i hi;rw[e1]at h1
  (first|obtain rfl:=h1.isA rfl|cases h1)
  exact⟨.ref l,h2,k _ H R S (Stp.refl _ _ _ _) ((h5.mono S.same).rp h3)⟩
 .let⟨v,h1,h2⟩:=S.env i d hi e1;exact⟨v,h1,k v H R S (Stp.refl _ _ _ _) (h2.mono S.same)⟩
def lR{v:V}{d:D}(h:Sc v d):ME K O (tC v) (ae d):=λZ J H R M e M' Q S q k=>by
 (first|obtain rfl:=q.isA rfl|cases q)
 exact k v H R S (Stp.refl _ _ _ _) h.rp
def me_int{i:Int}:ME K O (tC (.int i)) (ae (.int i)):=lR (.int i)
def oV{x:Str}:ME K O (tC (.str x)) (ae (.str x)):=lR (.str x)
def D2{b:Bool}:ME K O (tC (.bl b)) (ae (.bl b)):=lR (.bl b)
def me_non:ME K O (tC .non) (ae .non):=lR .non
def af(g:D->D->Option D)(fa fb:aN):aN:=cj fa λx=>cj fb λy=>dn (g x y)
def OpS(K:aq)(r:R2)(g:D->D->Option D):Prop:=∀(H:Hp) (x y:V) (d e u:D) (Q:VK),Rp K H x d->Rp K H y e->g d e=some u->(∀v,Sc v u->Q v H)->r x y H Q
def gX(K:aq)(r:R2)(g:D->D->Option D):Prop:=∀(H R:Hp) (x y:V) (d e u:D) (Q:VK),(∀a o,R a=some o->H a=some o)->Rp K R x d->Rp K R y e->g d e=some u->(∀v H' R',Ext H R H' R'->Rp K R' v u->Q v H')->r x y H Q
def OpS.g{r:R2}{g:D->D->Option D}(h:OpS K r g):gX K r g:=λH R x y d e u Q s rx ry q k=>
 h H x y d e u Q (rx.mono s) (ry.mono s) q λv z=>k v H R (Ext.refl s) z.rp
def dq{r:R2}{g:D->D->Option D}{fa fb:aN}(h:gX K r g)(ha:ME K O ta fa)(hb:ME K O tb fb):ME K O (jU r ta tb) (af g fa fb):=λZ J H R M d M' Q S e k=>by let⟨x,M1,e1,e⟩:=b9 e;let⟨y,M2,e2,e⟩:=b9 e;obtain⟨e3,rfl⟩:=c9 e;refine ha Z J H R M x M1 _ S e1 λv H1 R1 S1 st1 r1=>hb Z J H1 R1 M1 y _ _ S1 e2 λw H2 R2 S2 st2 r2=>?_;exact h H2 R2 v w x y d Q S2.sub (r1.mono st2.r) r2 e3 λz H3 R3 x3 r3=>k z H3 R3 (S2.ext x3) ((st1.trans st2).trans x3.stp) r3
def gO{r:R2}{g:D->D->Option D}{fa fb:aN}(h:OpS K r g)(ha:ME K O ta fa)(hb:MB K O tb fb):ME K O (jU r ta tb) (af g fa fb):=λZ J H R M d M' Q S e k=>by let⟨x,M1,e1,e⟩:=b9 e;let⟨y,M2,e2,e⟩:=b9 e;obtain⟨e3,rfl⟩:=c9 e;refine ha Z J H R M x M1 _ S e1 λv H1 R1 S1 st1 r1=>hb Z J H1 R1 M1 y _ _ S1 e2 λw H2 R2 S2 st2 r2=>?_;exact h H2 v w x y d Q ((r1.mono st2.r).mono S2.same) r2 e3 λz q=>k z H2 R2 S2 (st1.trans st2) q.rp
def iQ(i:Nat)(fb:aN):aN:=cj fb λy=>cj (aa i) λx=>dn (match x,y with
 |.lst xs,.int j=>bB xs j
 |_,_=>none)
def yf{R:Hp}{xs:List V}{ds:List D}{i:Int}{d:D}(r:Rps K R xs ds)(h:bB ds i=some d):∃v,bB xs i=some v/\Rp K R v d:=by
 unfold bB at h ⊢;rw[r.length];cases e:fI ds.length i with
 |none=>rw[e]at h;cases h
 | some j=>
  rw[e]at h;exact r.get h
def wJ{i:Nat}{fb:aN}(hi:i∈O)(hb:ME K O tb fb):ME K O (jU (pI K) (dL i) tb) (iQ i fb):=λZ J H R M d M' Q S e k=>by
 let⟨y,M1,e1,e⟩:=b9 e;let⟨x,M2,e2,e⟩:=b9 e;obtain⟨e3,rfl⟩:=c9 e;obtain⟨e4,rfl⟩:=yW e2;let⟨l,vs,ds,h1,h2,h3,_⟩:=S.own i hi;refine⟨.ref l,h2,hb Z J H R M y _ _ S e1 λw H1 R1 S1 st1 r1=>?_⟩;let⟨l',vs',ds',g1,g2,g3,g4,g5⟩:=S1.own i hi;rw[h2]at g2;cases g2;rw[e4]at g1;cases g1;split at e3
 .obtain rfl:=r1.isA rfl;obtain⟨us,rfl,q5⟩:=g5.isL;let⟨v,q1,q2⟩:=yf q5 e3;exact .inl ⟨l,_,_,v,rfl,rfl,SqL.of g3,q1,k v H1 R1 S1 st1 q2⟩
 .cases e3
def bd:D->D->Option D
 |.lst xs,.int i=>bB xs i
 |.tup xs,.int i=>bB xs i
 |.str z,.int i=>if z.length<=sizeLine then(bB z.cps.toList i).map λc=>.str ⟨#[c]⟩else none
 |_,_=>none
def gF:gX K (pI K) bd:=λH R x y d e u Q s rx ry q k=>by
 unfold bd at q;split at q
 .rename_i xs i
  (first|obtain rfl:=ry.isA rfl|cases ry)
  obtain⟨_,_,rfl,h,r⟩:=rx.isL;let⟨v,q1,q2⟩:=yf r q;exact .inl ⟨_,_,i,v,rfl,rfl,Same.sqL s h,q1,k v H R (Ext.refl s) q2⟩
 .rename_i xs i
  (first|obtain rfl:=ry.isA rfl|cases ry)
  obtain⟨_,_,rfl,h,r⟩:=rx.isT;let⟨v,q1,q2⟩:=yf r q;exact .inr (.inl ⟨_,_,i,v,rfl,rfl,SqT.of (s _ _ h),q1,k v H R (Ext.refl s) q2⟩)
 .rename_i z i
  (first|obtain rfl:=ry.isA rfl|cases ry)
  (first|obtain rfl:=rx.isA rfl|cases rx)
  split at q
  .rename_i hz;cases e':bB z.cps.toList i with
   |none=>rw[e']at q;cases q
   | some c=>
    rw[e']at q
    (first|obtain rfl:=q.isA rfl|cases q)
    exact .inr (.inr ⟨z,i,c,rfl,rfl,hz,e',k _ H R (Ext.refl s) (.str _)⟩)
  ·(first|obtain rfl:=q.isA rfl|cases q)
 ·(first|obtain rfl:=q.isA rfl|cases q)
noncomputable def kF(C:Int->Int->Bool)(g:Int->Int->Int):D->D->Option D
 |.int i,.int j=>if C i j=true then some (.int (g i j))else none
 |_,_=>none
def lP{C:Int->Int->Bool}{P:Int->Int->Prop}{g:Int->Int->Int}(hc:∀i j,C i j=true->P i j):gX K (rI P λi j=>.int (g i j)) (kF C g):=λH R x y d e u Q s rx ry q k=>by
 unfold kF at q;split at q
 .rename_i i j;split at q
  .rename_i h
   (first|obtain rfl:=q.isA rfl|cases q)
   (first|obtain rfl:=rx.isA rfl|cases rx)
   (first|obtain rfl:=ry.isA rfl|cases ry)
   exact⟨i,j,rfl,rfl,hc i j h,k _ H R (Ext.refl s) (.int _)⟩
  ·(first|obtain rfl:=q.isA rfl|cases q)
 ·(first|obtain rfl:=q.isA rfl|cases q)
noncomputable def px(g:Int->Int->Int):D->D->Option D
 |.int i,.int j=>some (.int (g i j))
 |_,_=>none
def vV{g:Int->Int->Int}:gX K (gK λi j=>.int (g i j)) (px g):=λH R x y d e u Q s rx ry q k=>by
 unfold px at q;split at q
 .rename_i i j
  (first|obtain rfl:=q.isA rfl|cases q)
  (first|obtain rfl:=rx.isA rfl|cases rx)
  (first|obtain rfl:=ry.isA rfl|cases ry)
  exact⟨i,j,rfl,rfl,k _ H R (Ext.refl s) (.int _)⟩
 ·(first|obtain rfl:=q.isA rfl|cases q)
noncomputable def pz(g:Int->Int->Bool):D->D->Option D
 |.int i,.int j=>some (.bl (g i j))
 |_,_=>none
end
section
variable{K:aq}{Z:Anc}{O:Zg}{t ta tb tc:TE}{tA tB':TT}{tr:TA}{fa fb fc:aN}{ga gb:dz}{fs:ba}
def bh(f:aN):dz:=cj f λd=>dn (match d with
 |.bl b=>some b
 |_=>none)
def ii(h:ME K O t fa):MT K O (ED t) (bh fa):=λZ J H R M b M' Q S e k=>by
 let⟨d,M1,e1,e⟩:=b9 e;obtain⟨e2,rfl⟩:=c9 e;refine h Z J H R M d _ _ S e1 λv H' R' S' st r=>?_
 (first|split at e2)
 .obtain rfl:=r.isA rfl;cases e2;exact⟨_,rfl,k H' R' S' st⟩
 .cases e2
def mU(h:ME K O t fa):MT K O (tB t) (bh fa):=λZ J H R M b M' Q S e k=>by
 let⟨d,M1,e1,e⟩:=b9 e;obtain⟨e2,rfl⟩:=c9 e;refine h Z J H R M d _ _ S e1 λv H' R' S' st r=>?_
 (first|split at e2)
 .obtain rfl:=r.isA rfl;cases e2;exact⟨_,rfl,k H' R' S' st⟩
 .cases e2
def dW(f:dz):dz:=cj f λb=>ae (!b)
def mT(h:MT K O tA ga):MT K O (qZ tA) (dW ga):=λZ J H R M b M' Q S e k=>by let⟨c,M1,e1,e⟩:=b9 e;cases e;exact h Z J H R M c _ _ S e1 λH' R' S' st=>k H' R' S' st
def dh(f g:dz):dz:=cj f λb=>if b=true then g else ae false
def iG(f g:dz):dz:=cj f λb=>if b=true then ae true else g
def tG(h:MT K O tA ga)(h2:MT K O tB' gb):MT K O (q9 tA tB') (dh ga gb):=λZ J H R M b M' Q S e k=>by
 let⟨c,M1,e1,e⟩:=b9 e;refine h Z J H R M c _ _ S e1 λH' R' S' st=>?_;cases c with
 |true=>exact fS (h2 Z J H' R' M1 b M' Q S' e λH2 R2 S2 st2=>k H2 R2 S2 (st.trans st2))
 |false=>cases e;exact fT (k H' R' S' st)
def pP(h:MT K O tA ga)(h2:MT K O tB' gb):MT K O (DO tA tB') (iG ga gb):=λZ J H R M b M' Q S e k=>by
 let⟨c,M1,e1,e⟩:=b9 e;refine h Z J H R M c _ _ S e1 λH' R' S' st=>?_;cases c with
 |true=>cases e;exact fS (k H' R' S' st)
 |false=>exact fT (h2 Z J H' R' M1 b M' Q S' e λH2 R2 S2 st2=>k H2 R2 S2 (st.trans st2))
def qc(f g:aN):aN:=cj (bh f) λb=>if b=true then g else ae (.bl false)
def sM(f:aN):aN:=cj (bh f) λb=>ae (.bl (!b))
def E7(h:ME K O ta fa)(h2:ME K O tb fb):ME K O (Et ta tb) (qc fa fb):=λZ J H R M d M' Q S e k=>by
 let⟨c,M1,e1,e⟩:=b9 e;let⟨x,M2,e1,e2⟩:=b9 e1;obtain⟨e2,rfl⟩:=c9 e2;refine h Z J H R M x _ _ S e1 λv H' R' S' st r=>?_
 (first|split at e2)
 .obtain rfl:=r.isA rfl;cases e2;refine⟨_,rfl,?_⟩;cases c with
  |true=>exact fS (h2 Z J H' R' _ d M' Q S' e λv H2 R2 S2 st2 r2=>k v H2 R2 S2 (st.trans st2) r2)
  |false=>cases e;exact fT (k _ H' R' S' st (.bl false))
 .cases e2
def qvf(h:ME K O ta fa):ME K O (EC ta) (sM fa):=λZ J H R M d M' Q S e k=>by
 let⟨c,M1,e1,e⟩:=b9 e;let⟨x,M2,e1,e2⟩:=b9 e1;obtain⟨e2,rfl⟩:=c9 e2;refine h Z J H R M x _ _ S e1 λv H' R' S' st r=>?_
 (first|split at e2)
 .obtain rfl:=r.isA rfl;cases e2;cases e;exact⟨_,rfl,k _ H' R' S' st (.bl _)⟩
 .cases e2
def jM(f:dz)(g h:aN):aN:=cj f λb=>if b=true then g else h
def vP(h:MT K O tA ga)(h1:ME K O ta fa)(h2:ME K O tb fb):ME K O (vI tA ta tb) (jM ga fa fb):=λZ J H R M d M' Q S e k=>by
 let⟨c,M1,e1,e⟩:=b9 e;refine h Z J H R M c _ _ S e1 λH' R' S' st=>?_;cases c with
 |true=>exact fS (h1 Z J H' R' M1 d M' Q S' e λv H2 R2 S2 st2 r2=>k v H2 R2 S2 (st.trans st2) r2)
 |false=>exact fT (h2 Z J H' R' M1 d M' Q S' e λv H2 R2 S2 st2 r2=>k v H2 R2 S2 (st.trans st2) r2)
def ag:ba:=ae []
def ak(f:aN)(g:ba):ba:=cj f λx=>cj g λxs=>ae (x::xs)
def bq:MA K O gv ag:=λZ J H R M ds M' Q S e k=>by cases e;exact k [] H R S (Stp.refl _ _ _ _) .nil
def aC(h:ME K O t fa)(h2:MA K O tr fs):MA K O (kN t tr) (ak fa fs):=λZ J H R M ds M' Q S e k=>by let⟨x,M1,e1,e⟩:=b9 e;let⟨xs,M2,e2,e⟩:=b9 e;cases e;refine h Z J H R M x _ _ S e1 λv H1 R1 S1 st1 r1=>h2 Z J H1 R1 M1 xs _ _ S1 e2 λvs H2 R2 S2 st2 r2=>?_;exact k (v::vs) H2 R2 S2 (st1.trans st2) (.cons (r1.mono st2.r) r2)
def ca(f:ba):aN:=cj f λxs=>dn (if xs.length<=sizeLine then some (.tup xs)else none)
def oW(h:MA K O tr fs):ME K O (qY tr) (ca fs):=λZ J H R M d M' Q S e k=>by
 let⟨xs,M1,e1,e⟩:=b9 e;obtain⟨e2,rfl⟩:=c9 e;refine h Z J H R M xs _ _ S e1 λvs H1 R1 S1 st1 r1=>?_;split at e2
 .rename_i hz;cases e2;refine⟨by rw[r1.length];exact hz,λp np=>?_⟩;have x:=Ext.new (o:=.tup vs) S1.sub np;exact k _ _ _ (S1.ext x) (st1.trans x.stp) (.tup cT (r1.mono x.r))
 .cases e2
def aW(f:ba):ba:=cj f λxs=>dn (if xs.length<=sizeLine then some xs else none)
def StR.out{J:St}{H R:Hp}{M:aA}{l:Addr}(S:StR K Z O J H R M)(h:H l=none):R l=none:=by
 cases q:R l with
 |none=>rfl
 |some o=>rw[S.sub l o q]at h;cases h
def Stp.new{J:St}{H R H' R':Hp}{l:Addr}(x:Stp O J H R H' R')(h:H' l=none):H l=none:=by
 cases q:H l with
 |none=>rfl
 |some o=>exact absurd h (x.d l (by rw[q];exact λz=>nomatch z)).1
def iz(h:MA K O tr fs):MN K O (ni tr) (aW fs):=λZ J H R M ds M' Q S e k=>by
 let⟨xs,M1,e1,e⟩:=b9 e;obtain⟨e2,rfl⟩:=c9 e;refine h Z J H R M xs _ _ S e1 λvs H1 R1 S1 st1 r1=>?_;split at e2
 .rename_i hz;cases e2;refine⟨by rw[r1.length];exact hz,λp np=>?_⟩;have x:=Ext.hid (o:=.lst vs) S1.sub np;exact k p vs _ _ (S1.ext x) (st1.trans x.stp) (st1.new np) cT (S1.out np) r1
 .cases e2
def mI(K:aq)(r:List V->Hp->VK->Prop)(g:D->Option D):Prop:=∀(H:Hp) (x:V) (d u:D) (Q:VK),Rp K H x d->g d=some u->(∀v,Sc v u->Q v H)->r [x] H Q
def aK(g:D->Option D)(f:aN):aN:=cj f λx=>dn (g x)
def gR{r:List V->Hp->VK->Prop}{g:D->Option D}(h:mI K r g)(ha:MB K O t fa):ME K O (mH r (kN t gv)) (aK g fa):=λZ J H R M d M' Q S e k=>by let⟨x,M1,e1,e⟩:=b9 e;obtain⟨e2,rfl⟩:=c9 e;refine ha Z J H R M x _ _ S e1 λv H1 R1 S1 st1 r1=>?_;exact h H1 v x d Q r1 e2 λw z=>k w H1 R1 S1 st1 z.rp
noncomputable def cr:D->Option D
 |.lst xs=>some (.int xs.length)
 |.tup xs=>some (.int xs.length)
 |_=>none
def kO:mI K (λxs H Q=>∃p ys,xs=[.ref p]/\(SqL K H p ys∨SqT K H p ys)/\Q (.int ys.length) H) cr:=λH x d u Q r e k=>by
 (first|split at e|(unfold cr at e;split at e))
 .obtain⟨_,_,rfl,h,q⟩:=r.isL;cases e;refine⟨_,_,rfl,.inl h,?_⟩;rw[q.length];exact k _ (.int _)
 .obtain⟨_,_,rfl,h,q⟩:=r.isT;cases e;refine⟨_,_,rfl,.inr (SqT.of h),?_⟩;rw[q.length];exact k _ (.int _)
 .cases e
noncomputable def hV:D->Option D
 |.int i=>some (.int i)
 |.bl b=>some (.int (if b then 1 else 0))
 |_=>none
def EV:mI K (λxs H Q=>(∃i,xs=[.int i]/\Q (.int i) H)∨∃k,xs=[.bl k]/\Q (.int (if k then 1 else 0)) H) hV:=λH x d u Q r e k=>by
 (first|split at e|(unfold hV at e;split at e))
 .rename_i i;obtain rfl:=r.isA rfl;cases e;exact .inl ⟨i,rfl,k _ (.int _)⟩
 .rename_i b;obtain rfl:=r.isA rfl;cases e;exact .inr ⟨b,rfl,k _ (.int _)⟩
 .cases e
noncomputable def c6:List D->Option (List Int)
 |[]=>some []
 |.int i::r=>(c6 r).map (i:: ·)
 |_=>none
noncomputable def jF:List D->Option (List Bool)
 |[]=>some []
 |.bl i::r=>(jF r).map (i:: ·)
 |_=>none
theorem mE{R:Hp}:∀{xs:List V} {ds:List D} {ns:Zf},Rps K R xs ds->c6 ds=some ns->xs=ns.map V.int
 |_,_,ns,.nil,e=>by cases e;rfl
 | _,_,ns,.cons (d:=d) h r,e=>by
  cases h with
  | int i=>
   unfold c6 at e;cases q:c6 _ with
   |none=>rw[q]at e;cases e
   |some ms=>rw[q]at e;cases e;rw[mE r q];rfl
  |_=>cases e
theorem Ic{R:Hp}:∀{xs:List V} {ds:List D} {ns:List Bool},Rps K R xs ds->jF ds=some ns->xs=ns.map V.bl
 |_,_,ns,.nil,e=>by cases e;rfl
 | _,_,ns,.cons (d:=d) h r,e=>by
  cases h with
  | bl i=>
   unfold jF at e;cases q:jF _ with
   |none=>rw[q]at e;cases e
   |some ms=>rw[q]at e;cases e;rw[Ic r q];rfl
  |_=>cases e
theorem gS:∀ns:List Int,c6 (ns.map D.int)=some ns
 |[]=>rfl
 |n::ns=>by rw[jz,c6,gS ns];rfl
theorem Ib:∀ns:List Bool,jF (ns.map D.bl)=some ns
 |[]=>rfl
 |n::ns=>by rw[jz,jF,Ib ns];rfl
def hG:D->Option D
 |.lst xs=>(c6 xs).map λns=>.int ns.sum
 |_=>none
def wD:mI K (λxs H Q=>∃(p:Addr) (ns:Zf),xs=[.ref p]/\SqL K H p (ns.map V.int)/\Q (.int ns.sum) H) hG:=λH x d u Q r e k=>by
 cases r with
 | lst h q=>
  rename_i ds;have e':(c6 ds).map (λns=>D.int ns.sum)=some u:=e;cases z:c6 ds with
  |none=>rw[z]at e';cases e'
  | some ns=>
   rw[z]at e';cases e';have ex:=mE q z;subst ex;exact⟨_,ns,rfl,h,k _ (.int _)⟩
 |_=>cases e
def lW:D->Option D
 |.lst xs=>(jF xs).map λbs=>.bl (bs.all id)
 |_=>none
def EU:mI K (λxs H Q=>∃(p:Addr) (bs:List Bool),xs=[.ref p]/\SqL K H p (bs.map V.bl)/\Q (.bl (bs.all id)) H) lW:=λH x d u Q r e k=>by
 cases r with
 | lst h q=>
  rename_i ds;have e':(jF ds).map (λbs=>D.bl (bs.all id))=some u:=e;cases z:jF ds with
  |none=>rw[z]at e';cases e'
  | some ns=>
   rw[z]at e';cases e';have ex:=Ic q z;subst ex;exact⟨_,ns,rfl,h,k _ (.bl _)⟩
 |_=>cases e
end
def ItOk(K:aq)(σ:It)(R:Hp)(ds:List D):Prop:=∀(H' R':Hp),Same R R'->(∀a o,R' a=some o->H' a=some o)->∀i:Nat,(i=ds.length->σ.stop i H')/\∀d,ds[i]? =some d->σ.go i H'/\∀x H'',σ.yld i H' x H''->∃R'',Ext H' R' H'' R''/\Rp K R'' x d
def ItOk.mono{K:aq}{σ:It}{R R1:Hp}{ds:List D}(h:ItOk K σ R ds)(s:Same R R1):ItOk K σ R1 ds:=λH' R' s' b=>h H' R' (s.trans s') b
def MI(K:aq)(O:Zg)(wi:TI)(f:ba):Prop:=∀(Z:Anc) (J:St) (H R:Hp) (M:aA) (ds:List D) (M':aA) (Q:It->Hp->Prop),StR K Z O J H R M->f M=some (ds,M')->(∀σ H' R',StR K Z O J H' R' M'->Stp O J H R H' R'->ItOk K σ R' ds->Q σ H')->wi J H Q
def rM(K:aq)(tl:TE):TI:=λJ H R=>vN K tl J H R∨nS K tl J H R
def fy{X:Cx}{K:aq}{tg l:Expr}{tl:TE}(h:X.K=K)(hl:PE X l tl):PI X tg l (rM K tl):=λz5 s J H R I q=>by
 rcases q with q|q
 .exact qku h hl z5 s J H R I q
 .exact qpa h hl z5 s J H R I q
def bz(f:aN):ba:=cj f λd=>dn (match d with
 |.lst xs=>some xs
 |.tup xs=>some xs
 |_=>none)
section
variable{K:aq}{O:Zg}{t:TE}{tr:TA}{fa:aN}{fs:ba}
def qqc{R:Hp}{a:Addr}{xs:List V}{ds:List D}(h:SqL K R a xs)(r:Rps K R xs ds):ItOk K (zQ K a) R ds:=λH' R' s b i=>by have q:SqL K H' a xs:=Same.sqL b (Same.sqL s h);refine⟨λe=>⟨xs,q,by rw[r.length];omega⟩,λd e=>?_⟩;let⟨v,h1,h2⟩:=r.get e;refine⟨⟨xs,v,q,h1⟩,λx H'' y=>?_⟩;obtain⟨rfl,y⟩:=y;have ex:=y xs q;rw[h1]at ex;cases ex;exact⟨R',Ext.refl b,h2.mono s⟩
def qvw{R:Hp}{a:Addr}{xs:List V}{ds:List D}(h:SqT K R a xs)(r:Rps K R xs ds):ItOk K (zP K a) R ds:=λH' R' s b i=>by have q:SqT K H' a xs:=Same.tup b (Same.tup s h);refine⟨λe=>⟨xs,q,by rw[r.length];omega⟩,λd e=>?_⟩;let⟨v,h1,h2⟩:=r.get e;refine⟨⟨xs,v,q,h1⟩,λx H'' y=>?_⟩;obtain⟨rfl,y⟩:=y;have ex:=y xs q;rw[h1]at ex;cases ex;exact⟨R',Ext.refl b,h2.mono s⟩
def kR(h:ME K O t fa):MI K O (rM K t) (bz fa):=λZ J H R M ds M' Q S e k=>by
 let⟨d,M1,e1,e⟩:=b9 e;obtain⟨e2,rfl⟩:=c9 e;cases d with
 | lst xs=>
  cases e2;refine .inl (h Z J H R M _ _ _ S e1 λv H1 R1 S1 st1 r1=>?_);obtain⟨_,_,rfl,q,r⟩:=r1.isL;exact⟨_,rfl,⟨_,Same.sqL S1.same q⟩,k _ H1 R1 S1 st1 (qqc q r)⟩
 | tup xs=>
  cases e2;refine .inr (h Z J H R M _ _ _ S e1 λv H1 R1 S1 st1 r1=>?_);obtain⟨_,_,rfl,q,r⟩:=r1.isT;exact⟨_,rfl,⟨_,SqT.of (S1.same _ _ q)⟩,k _ H1 R1 S1 st1 (qvw (SqT.of q) r)⟩
 |_=>cases e2
noncomputable def cR(lo:Int)(n:Nat):List D:=(List.range n).map λ(k:Nat)=>D.int (lo+(k:Int))
def GW{R:Hp}(lo:Int)(n:Nat):ItOk K (qQ lo n) R (cR lo n):=λH' R' s b i=>by
 have len:(cR lo n).length=n:=by simp[cR]
 refine⟨λe=>by show n<=i;omega,λd e=>?_⟩;have hi:i<n:=by have:=(List.getElem?_eq_some_iff.mp e).1;omega
 have ed:d=D.int (lo+(i:Int)):=by unfold cR at e;rw[je,xr hi]at e;exact(jg e).symm
 subst ed;refine⟨hi,λx H'' y=>?_⟩;obtain⟨rfl,rfl⟩:=y;exact⟨R',Ext.refl b,.int _⟩
noncomputable def eh(j:Int):Bool:=decide (-(2^62)<=j)&&decide (j<2^62)
def gh(f:ba):ba:=cj f λds=>dn (match ds with
 |[.int j]=>if eh j=true then some (cR 0 j.toNat)else none
 |_=>none)
def qG(h:MA K O tr fs):MI K O (DY tr) (gh fs):=λZ J H R M ds M' Q S e k=>by
 let⟨xs,M1,e1,e⟩:=b9 e;obtain⟨e2,rfl⟩:=c9 e;split at e2
 .rename_i j;split at e2
  .rename_i hb;cases e2;refine h Z J H R M _ _ _ S e1 λvs H1 R1 S1 st1 r1=>?_;obtain⟨_,_,rfl,q,r⟩:=r1.isC
   (first|obtain rfl:=r.isA rfl|cases r)
   (first|obtain rfl:=q.isA rfl|cases q)
   unfold eh at hb;rw[Bool.and_eq_true]at hb;exact⟨j,rfl,of_decide_eq_true hb.1,of_decide_eq_true hb.2,k _ H1 R1 S1 st1 (GW 0 _)⟩
  .cases e2
 .cases e2
def oP(f:ba):ba:=cj f λds=>dn (match ds with
 |[.int i,.int j]=>if(eh i&&eh j)=true then some (cR i (j-i).toNat)else none
 |_=>none)
def qij(h:MA K O tr fs):MI K O (DZ tr) (oP fs):=λZ J H R M ds M' Q S e k=>by
 let⟨xs,M1,e1,e⟩:=b9 e;obtain⟨e2,rfl⟩:=c9 e;split at e2
 .rename_i i j;split at e2
  .rename_i hb;cases e2;refine h Z J H R M _ _ _ S e1 λvs H1 R1 S1 st1 r1=>?_;obtain⟨_,_,rfl,q,r⟩:=r1.isC;obtain⟨_,_,rfl,q2,r⟩:=r.isC
   (first|obtain rfl:=r.isA rfl|cases r)
   (first|obtain rfl:=q.isA rfl|cases q)
   (first|obtain rfl:=q2.isA rfl|cases q2)
   unfold eh at hb;simp only[Bool.and_eq_true,decide_eq_true_eq]at hb;exact⟨i,j,rfl,⟨hb.1.1,hb.1.2,hb.2.1,hb.2.2⟩,k _ H1 R1 S1 st1 (GW i _)⟩
  .cases e2
 .cases e2
end
def MG(K:aq)(O T:Zg)(g:TG)(f:eL):Prop:=∀(Z:Anc) (J:St) (H R:Hp) (M:aA) (x:V) (d:D) (M':aA) (Q:St->Hp->Prop),StR K Z O J H R M->Rp K R x d->f d M=some M'->(∀J',StR K Z O J' H R M'->(∀j,j∉T->J'[j]? =J[j]?)->Q J' H)->g x J H Q
def uG(K:aq)(O T:Zg)(g:kG)(f:List D->aA->Option aA):Prop:=∀(Z:Anc) (J:St) (H R:Hp) (M:aA) (xs:List V) (ds:List D) (M':aA) (Q:St->Hp->Prop),StR K Z O J H R M->Rps K R xs ds->f ds M=some M'->(∀J',StR K Z O J' H R M'->(∀j,j∉T->J'[j]? =J[j]?)->Q J' H)->g xs J H Q
noncomputable def ai(i:Nat):eL:=λd M=>some (M.set i (some d))
noncomputable def c7:List D->aA->Option aA:=λds M=>match ds with
 |[]=>some M
 |_=>none
noncomputable def bE(f:eL)(g:List D->aA->Option aA):List D->aA->Option aA:=λds M=>match ds with
 | d::r=>match f d M with
  |some M1=>g r M1
  |none=>none
 |[]=>none
noncomputable def cY(n:Nat)(f:List D->aA->Option aA):eL:=λd M=>match d with
 |.tup ds=>if ds.length=n then f ds M else none
 |_=>none
section
variable{K:aq}{O T T':Zg}{g:TG}{gs:kG}{f:eL}{fs:List D->aA->Option aA}
def cD{i:Nat}(hi:i∉O:=by decide):MG K O [i] (gE i) (ai i):=λZ J H R M x d M' Q S r e k=>by cases e;exact k _ (S.set hi r) λj hj=>jo (λ(z:i=j)=>hj (by rw[z];exact List.mem_singleton_self j))
def i6:uG K O [] nU c7:=λZ J H R M xs ds M' Q S r e k=>by
 cases r with
 |nil=>cases e;exact⟨rfl,k J S λ_ _=>rfl⟩
 |cons _ _=>cases e
def e8(h:MG K O T g f)(h2:uG K O T' gs fs):uG K O (T++T') (sK g gs) (bE f fs):=λZ J H R M xs ds M' Q S r e k=>by
 cases r with
 |nil=>cases e
 | cons q r=>
  rename_i x xs d ds;unfold bE at e;cases e1:f d M with
  |none=>simp only[e1]at e;cases e
  | some M1=>
   simp only[e1]at e;refine⟨x,xs,rfl,h Z J H R M x d M1 _ S q e1 λJ1 S1 n1=>h2 Z J1 H R M1 xs ds M' _ S1 r e λJ2 S2 n2=>?_⟩;refine k J2 S2 λj hj=>?_;rw[List.mem_append,not_or]at hj;rw[n2 j hj.2,n1 j hj.1]
def i4{n:Nat}(h:uG K O T gs fs):MG K O T (lV K n gs) (cY n fs):=λZ J H R M x d M' Q S r e k=>by
 cases r with
 | tup q rs=>
  unfold cY at e;simp only at e;split at e
  .rename_i hn;exact⟨_,_,rfl,SqT.of (S.same _ _ q),by rw[rs.length];exact hn,h Z J H R M _ _ M' Q S rs e k⟩
  .cases e
 |_=>cases e
end
noncomputable def hW(n:Nat)(js:Zg)(M:aA):aA:=List.replicate n none++js.map λj=>(M[j]?).join
noncomputable def fQ:Option (Nat×Nat)->List Nat
 |none=>[]
 |some p=>[p.2]
noncomputable def gL(bw:Option (Nat×Nat))(M Mb:aA):aA:=match bw with
 |none=>M
 | some p=>match Mb[p.2]? with
  |some x=>M.set p.1 x
  |none=>M
noncomputable def fW(n:Nat)(js O:Zg)(bw:Option (Nat×Nat)):Bool:=match bw with
 |none=>js.all λj=>!O.contains j
 |some p=>O.contains p.1&&decide (n<=p.2)&&decide (js[p.2-n]? =some p.1)&&(List.range js.length).all λk=>decide (n+k=p.2)|| !O.contains (js.getD k 0)
noncomputable def cK(n:Nat)(js:Zg)(bw:Option (Nat×Nat))(fg:eL)(ft:dz)(fe:aN):List D->ba
 |[],M=>some ([],M)
 | d::r,M=>match fg d (hW n js M)with
  |none=>none
  | some M1=>match ft M1 with
   |none=>none
   |some (false,M2)=>cK n js bw fg ft fe r (gL bw M M2)
   | some (true,M2)=>match fe M2 with
    |none=>none
    | some (y,M3)=>match cK n js bw fg ft fe r (gL bw M M3)with
     |none=>none
     |some (ys,M4)=>some (y::ys,M4)
section
variable{K:aq}{Z Z':Anc}{O:Zg}{J σ4:St}{H R H6 R6:Hp}{M M3:aA}{n:Nat}{js:Zg}{bw:Option (Nat×Nat)}
def qjq:(hW n js M).length=n+js.length:=by simp[hW]
def qjr{i:Nat}{d:D}(e:(hW n js M)[i]? =some (some d)):n<=i/\∃j,js[i-n]? =some j/\M[j]? =some (some d):=by
 unfold hW at e;by_cases h:i<n
 .rw[k9 (by simpa using h),k8,if_pos h]at e;cases e
 .refine⟨by omega,?_⟩;rw[xw (by simp;omega),jw,je]at e;cases q:js[i-n]? with
  |none=>rw[q]at e;cases e
  | some j=>
   rw[q]at e;refine⟨j,rfl,?_⟩;have e':(M[j]?).join=some d:=jg e;cases z:M[j]? with
   |none=>rw[z]at e';cases e'
   |some o=>rw[z]at e';have:o=some d:=e';rw[this]
def qme{i j:Nat}(h:n<=i)(e:js[i-n]? =some j){d:D}(q:M[j]? =some (some d)):(hW n js M)[i]? =some (some d):=by unfold hW;rw[xw (by simp;omega),jw,je,e];show some ((M[j]?).join)=_;rw[q];rfl
def tQ{i j:Nat}(h:n<=i)(e:js[i-n]? =some j){v:V}(q:J[j]? =some (some v)):(df n js J)[i]? =some (some v):=by unfold df;rw[xw (by simp;omega),jw,je,e];show some ((J[j]?).join)=_;rw[q];rfl
def bwL(bw:Option (Nat×Nat))(J:St):Addr->Prop:=match bw with
 |none=>λ_=>False
 |some p=>λl=>J[p.1]? =some (some (.ref l))
def StR.block(S:StR K Z O J H R M)(hb:fW n js O bw=true):StR K ⟨H,R,bwL bw J,fQ bw⟩ (fQ bw) (df n js J) H R (hW n js M):=by
 have noO:∀i j,n<=i->js[i-n]? =some j->i∉fQ bw->j∉O:=λi j hi hj hn hO=>by
  cases bw with
  | none=>
   unfold fW at hb;have z:=List.all_eq_true.mp hb j (xk hj);simp at z;exact z hO
  | some p=>
   unfold fW at hb;simp only[Bool.and_eq_true]at hb;have hk:i-n<js.length:=(List.getElem?_eq_some_iff.mp hj).1;have z:=List.all_eq_true.mp hb.2 (i-n) (List.mem_range.mpr hk);have ej:js.getD (i-n) 0=j:=by rw[ji,hj];rfl
   rw[ej]at z;simp only[Bool.or_eq_true,decide_eq_true_eq]at z;rcases z with z|z
   .exact hn (by show i∈[p.2];rw[List.mem_singleton];omega)
   .simp at z;exact z hO
 have lJ:∀p,bw=some p->p.1∈O/\n<=p.2/\js[p.2-n]? =some p.1:=λp e=>by subst e;unfold fW at hb;simp only[Bool.and_eq_true,decide_eq_true_eq]at hb;exact⟨by simpa using hb.1.1.1,hb.1.1.2,hb.1.2⟩
 have only:∀i,i∈fQ bw->∃p,bw=some p/\i=p.2:=λi hi=>by
  cases bw with
  |none=>exact absurd hi (by simp[fQ])
  |some p=>exact⟨p,rfl,by simpa[fQ]using hi⟩
 refine⟨S.sub,by rw[qjq,GH],λi d hi e=>?_,λi hi=>?_,λi j hi hj hn=>?_,λa o e _=>e,Same.refl _,λa h=>.inl h,λa h=>.refl h,λi hi hp=>absurd hi hp,λi hi _ l e=>?_⟩
 .let⟨h1,j,h2,h3⟩:=qjr e;let⟨v,q1,q2⟩:=S.env j d (noO i j h1 h2 hi) h3;exact⟨v,tQ h1 h2 q1,q2⟩
 .obtain⟨p,rfl,rfl⟩:=only i hi;let⟨h1,h2,h3⟩:=lJ p rfl;let⟨l,vs,ds,q1,q2,q3⟩:=S.own p.1 h1;exact⟨l,vs,ds,qme h2 h3 q1,tQ h2 h3 q2,q3⟩
 .obtain⟨p,rfl,rfl⟩:=only i hi;obtain⟨p',e,rfl⟩:=only j hj;cases e;exact absurd rfl hn
 .obtain⟨p,rfl,rfl⟩:=only i hi;let⟨h1,h2,h3⟩:=lJ p rfl;let⟨l',vs,ds,q1,q2,q3⟩:=S.own p.1 h1;rw[tQ h2 h3 q2]at e;cases e;exact q2
def StR.back(S:StR K Z O J H R M)(hb:fW n js O bw=true)(Sb:StR K Z' (fQ bw) σ4 H6 R6 M3)(st:Stp (fQ bw) σ4 H R H6 R6)(hσ:∀p,bw=some p->σ4[p.2]? =J[p.1]?):
 StR K Z O J H6 R6 (gL bw M M3)/\Stp O J H R H6 R6:=by
 have lJ:∀p,bw=some p->p.1∈O:=λp e=>by subst e;unfold fW at hb;simp only[Bool.and_eq_true,decide_eq_true_eq]at hb;simpa using hb.1.1.1
 have only:∀i,i∈fQ bw->∃p,bw=some p/\i=p.2:=λi hi=>by
  cases bw with
  |none=>exact absurd hi (by simp[fQ])
  |some p=>exact⟨p,rfl,by simpa[fQ]using hi⟩
 have st':Stp O J H R H6 R6:=⟨st.r,λa o e n=>st.h a o e λi hi z=>by obtain⟨p,e1,rfl⟩:=only i hi;rw[hσ p e1]at z;exact n p.1 (lJ p e1) z,st.n,st.d⟩
 have keepH0:∀a o,Z.H0 a=some o->¬Z.L a->H6 a=some o:=λa o e n=>by
  refine st'.h a o (S.ah a o e n) λi hi z=>?_;by_cases hp:i∈Z.P
  .exact n (S.ap i hi hp a z)
  .rw[S.ao i hi hp a z]at e;cases e
 have len:(gL bw M M3).length=M.length:=by
  unfold gL;cases bw with
  |none=>rfl
  | some p=>
   dsimp only;split
   .rw[xh]
   .rfl
 have other:∀i,(∀p,bw=some p->p.1≠i)->(gL bw M M3)[i]? =M[i]? :=λi h=>by
  unfold gL;cases bw with
  |none=>rfl
  | some p=>
   dsimp only;split
   .rw[jo (h p rfl)]
   .rfl
 refine⟨⟨Sb.sub,by rw[len];exact S.len,λi d hi e=>?_,λi hi=>?_,S.dis,keepH0,S.ar.trans st.r,λa h=>?_,λa h=>(S.ad a h).trans (st.d a (S.ad a h).1),S.ao,S.ap⟩,st'⟩
 .rw[other i λp e1 z=>hi (z▸lJ p e1)]at e;let⟨v,h1,h2⟩:=S.env i d hi e;exact⟨v,h1,h2.mono st.r⟩
 .by_cases hp:∃p,bw=some p/\p.1=i
  .obtain⟨p,rfl,rfl⟩:=hp;let⟨l,vs,ds,q1,q2,q3,q4,q5⟩:=Sb.own p.2 (by simp[fQ]);rw[hσ p rfl]at q2;let⟨_,_,_,g1,_⟩:=S.own p.1 hi;have zc:p.1<M.length:=(List.getElem?_eq_some_iff.mp g1).1;refine⟨l,vs,ds,?_,q2,q3,q4,q5⟩;unfold gL;dsimp only;rw[q1];exact xg zc
  .have hne:∀p,bw=some p->p.1≠i:=λp e z=>hp ⟨p,e,z⟩;let⟨l,vs,ds,q1,q2,q3,q4,q5⟩:=S.own i hi;have nob:∀j,j∈fQ bw->σ4[j]? ≠some (some (.ref l)):=λj hj z=>by
    obtain⟨p,e1,rfl⟩:=only j hj;rw[hσ p e1]at z;exact S.dis p.1 i (lJ p e1) hi (hne p e1) l z q2
   refine⟨l,vs,ds,by rw[other i hne];exact q1,q2,st.h l _ q3 nob,?_,q5.mono st.r⟩;cases q:R6 l with
   |none=>rfl
   | some o=>
    rcases st.n l (by rw[q];exact λz=>nomatch z)with z|z
    .exact absurd q4 z
    .exact(q5.noF q3 z).elim
 .rcases st.n a h with z|z
  .exact S.an a z
  .exact .inr (z.back (S.ad a))
end
def qfb{K:aq}{Z:Anc}{O T:Zg}{J:St}{H R:Hp}{M M':aA}{n:Nat}{js:Zg}{bw:Option (Nat×Nat)}{g:TG}{tt:TT}{te:TE}{fg:eL}{ft:dz}{fe:aN}{σ:It}{ds ys:List D}{Fin:List V->Hp->Prop}
 (hb:fW n js O bw=true) (hg:MG K (fQ bw) T g fg) (hT:∀p,bw=some p->p.2∉T) (ht:MT K (fQ bw) tt ft) (he:ME K (fQ bw) te fe) (S:StR K Z O J H R M) (ok:ItOk K σ R ds) (e:cK n js bw fg ft fe ds M=some (ys,M')) (hz:ds.length<=sizeLine)
 (fin:∀vs H' R',StR K Z O J H' R' M'->Stp O J H R H' R'->Rps K R' vs ys->vs.length<=sizeLine->Fin vs H'):uC g tt te (df n js J) Fin σ H:=by
 refine⟨λi m vs H2=>m=ds.length-i/\i<=ds.length/\vs.length<=i/\∃R2 M2 ys1 ys2,StR K Z O J H2 R2 M2/\Stp O J H R H2 R2/\Rps K R2 vs ys1/\cK n js bw fg ft fe (ds.drop i) M2=some (ys2,M')/\ys1++ys2=ys,
  ⟨ds.length,by simp,Nat.zero_le _,Nat.zero_le _,R,M,[],ys,S,Stp.refl _ _ _ _,.nil,by rw[List.drop_zero];exact e,rfl⟩,?_⟩
 rintro i m vs H2 ⟨rfl,hi,hv,R2,M2,ys1,ys2,S2,st2,r2,e2,ey⟩;let⟨o1,o2⟩:=ok H2 R2 st2.r S2.sub i;by_cases hlt:i<ds.length
 .let⟨g1,g2⟩:=o2 ds[i] (jb hlt);rw[kc hlt]at e2;refine .inr ⟨g1,by omega,λvs' H'=>∃R' M2 ys1 ys2,vs'.length<=i+1/\StR K Z O J H' R' M2/\Stp O J H R H' R'/\Rps K R' vs' ys1/\cK n js bw fg ft fe (ds.drop (i+1)) M2=some (ys2,M')/\ys1++ys2=ys,?_,λx H3 y=>?_⟩
  .rintro vs' H' ⟨R',M3,mG,zs2,q0,q1,q2,q3,q4,q5⟩;exact⟨ds.length-(i+1),by omega,rfl,hlt,q0,R',M3,mG,zs2,q1,q2,q3,q4,q5⟩
  .let⟨R3,x3,r3⟩:=g2 x H3 y;have S3:=S2.ext x3;have B3:=S3.block hb;unfold cK at e2;cases e3:fg ds[i] (hW n js M2)with
   |none=>rw[e3]at e2;cases e2
   | some Mb1=>
    rw[e3]at e2;dsimp only at e2;refine hg _ _ _ _ _ x _ Mb1 _ B3 r3 e3 λσ4 S4 n4=>?_;have cap:∀p,bw=some p->σ4[p.2]? =J[p.1]? :=λp e1=>by rw[n4 p.2 (hT p e1)];subst e1;unfold fW at hb;simp only[Bool.and_eq_true,decide_eq_true_eq]at hb;let⟨l,_,_,_,q2,_⟩:=S3.own p.1 (by simpa using hb.1.1.1);rw[tQ hb.1.1.2 hb.1.2 q2,q2]
    cases e4:ft Mb1 with
    |none=>rw[e4]at e2;cases e2
    | some c=>
     obtain⟨b,Mb2⟩:=c;rw[e4]at e2;refine ht _ σ4 H3 R3 Mb1 b Mb2 _ S4 e4 λH5 R5 S5 st5=>?_;cases b with
     | false=>
      dsimp only at e2;let⟨T1,T2⟩:=S3.back hb S5 st5 cap;exact fT ⟨R5,_,ys1,ys2,by omega,T1,(st2.trans x3.stp).trans T2,(r2.mono x3.r).mono st5.r,e2,ey⟩
     | true=>
      dsimp only at e2;cases e5:fe Mb2 with
      |none=>rw[e5]at e2;cases e2
      | some c=>
       obtain⟨y0,Mb3⟩:=c;rw[e5]at e2;dsimp only at e2;cases e6:cK n js bw fg ft fe (ds.drop (i+1)) (gL bw M2 Mb3)with
       |none=>rw[e6]at e2;cases e2
       | some c=>
        obtain⟨zs,M6⟩:=c;rw[e6]at e2;dsimp only at e2;cases e2;refine fS (he _ σ4 H5 R5 Mb2 y0 Mb3 _ S5 e5 λw H6 R6 S6 st6 r6=>?_);let⟨T1,T2⟩:=S3.back hb S6 (st5.trans st6) cap;refine⟨R6,_,ys1++[y0],zs,by rw[jh];show vs.length+1<=i+1;omega,T1,(st2.trans x3.stp).trans T2,(((r2.mono x3.r).mono st5.r).mono st6.r).snoc r6,e6,?_⟩;rw[<-ey,List.append_assoc];rfl
 .have ei:i=ds.length:=by omega
  subst ei;rw[List.drop_length]at e2;unfold cK at e2;cases e2;rw[List.append_nil]at ey;subst ey;exact .inl ⟨o1 rfl,by omega,fin vs H2 R2 S2 st2 r2 (by omega)⟩
def cI(n:Nat)(js:Zg)(bw:Option (Nat×Nat))(fi:ba)(fg:eL)(ft:dz)(fe:aN):ba:=cj fi λds M=>if ds.length<=sizeLine then cK n js bw fg ft fe ds M else none
def jX{K:aq}{O:Zg}:MT K O iI (ae true):=λZ J H R M b M' Q S e k=>by cases e;exact k H R S (Stp.refl _ _ _ _)
def iB{K:aq}{O T:Zg}{n:Nat}{js:Zg}{bw:Option (Nat×Nat)}{wi:TI}{g:TG}{tt:TT}{te:TE}{fi:ba}{fg:eL}{ft:dz}{fe:aN}
 (hi:MI K O wi fi) (hg:MG K (fQ bw) T g fg) (ht:MT K (fQ bw) tt ft) (he:ME K (fQ bw) te fe) (hb:fW n js O bw=true:=by decide) (hT:∀p,bw=some p->p.2∉T:=by decide):MN K O (p7 n js wi g tt te) (cI n js bw fi fg ft fe):=λZ J H R M ds M' Q S e k=>by
 let⟨xs,M1,e1,e⟩:=b9 e;split at e
 .rename_i hz;refine hi Z J H R M xs M1 _ S e1 λσ H1 R1 S1 st1 ok=>?_;refine qfb hb hg hT ht he S1 ok e hz λvs H2 R2 S2 st2 r2 l2 D nD=>?_;have x:=Ext.hid (o:=.lst vs) S2.sub nD;exact k D vs _ _ (S2.ext x) ((st1.trans st2).trans x.stp) ((st1.trans st2).new nD) cT (S2.out nD) r2
 .cases e
inductive Out where
 |nx (M:aA)
 |rt (d:D) (M:aA)
 |bk (M:aA)
 |ct (M:aA)
abbrev aD:=aA->Option Out
structure MC where
 K:PySem.W.Frag
 fr:Bool
 P:List Nat
 Ol:List Nat
def pA(K:aq)(fr:Bool)(H:Hp)(v:V)(d:D)(H' R':Hp):Prop:=match fr with
 |false=>Rp K R' v d
 |true=>∃l vs ds,v=.ref l/\d=.lst ds/\H l=none/\H' l=some (.lst vs)/\R' l=none/\Rps K R' vs ds
def Ends.ok(c:MC)(Z:Anc)(O':Zg)(R:Hp)(E:Ends):Out->Prop
 |.nx M'=>∀J' H' R',StR c.K Z O' J' H' R' M'->Same R R'->E.nx J' H'
 |.bk M'=>∀J' H' R',StR c.K Z c.Ol J' H' R' M'->Same R R'->E.bk J' H'
 |.ct M'=>∀J' H' R',StR c.K Z c.Ol J' H' R' M'->Same R R'->E.ct J' H'
 |.rt d M'=>∀v J' H' R',StR c.K Z c.P J' H' R' M'->pA c.K c.fr Z.H0 v d H' R'->E.rt v H'
def MS(c:MC)(O O':Zg)(t:TS)(f:aD):Prop:=∀(Z:Anc) (E:Ends) (J:St) (H R:Hp) (M:aA) (o:Out),Z.P=c.P->StR c.K Z O J H R M->f M=some o->E.ok c Z O' R o->t E J H
noncomputable def cV(c:MC)(O O':Zg):Bool:=O'.all (λi=>O.contains i)&&c.P.all λi=>!O.contains i||O'.contains i
section
variable{c:MC}{O O' O1:Zg}{t u:TS}{te:TE}{tt:TT}{g:TG}{f h:aD}{fe:aN}{fn:ba}{ft:dz}{fg:eL}
def StR.sub'{Z:Anc}{J:St}{H R:Hp}{M:aA}(S:StR c.K Z O J H R M)(hP:Z.P=c.P)(hs:cV c O O'=true):StR c.K Z O' J H (dj O O' J H R) M/\Same R (dj O O' J H R):=by
 unfold cV at hs;simp only[Bool.and_eq_true,List.all_eq_true]at hs;refine S.freeze (λi hi=>by simpa using hs.1 i hi) λi hi hO=>?_;rw[hP]at hi;have z:=hs.2 i hi;simp only[Bool.or_eq_true]at z;rcases z with z|z
 .simp at z;exact absurd hO z
 .simpa using z
noncomputable def aJ:aD:=λM=>some (.nx M)
def dR(hs:cV c O O'=true):MS c O O' EB aJ:=λZ E J H R M o hP S e k=>by cases e;let⟨S',s⟩:=S.sub' hP hs;exact k J H _ S' s
noncomputable def am(f h:aD):aD:=λM=>match f M with
 |none=>none
 |some (.nx M1)=>h M1
 |some o=>some o
def aM(h1:MS c O O1 t f)(h2:MS c O1 O' u h):MS c O O' (lL t u) (am f h):=λZ E J H R M o hP S e k=>by
 unfold am at e;cases e1:f M with
 |none=>rw[e1]at e;cases e
 | some o1=>
  rw[e1]at e;cases o1 with
  | nx M1=>
   refine h1 Z _ J H R M _ hP S e1 λJ' H' R' S' s'=>?_;refine h2 Z E J' H' R' M1 o hP S' e ?_;cases o with
   |nx M'=>exact λJ2 H2 R2 S2 s2=>k J2 H2 R2 S2 (s'.trans s2)
   |bk M'=>exact λJ2 H2 R2 S2 s2=>k J2 H2 R2 S2 (s'.trans s2)
   |ct M'=>exact λJ2 H2 R2 S2 s2=>k J2 H2 R2 S2 (s'.trans s2)
   |rt d M'=>exact k
  |bk M1=>cases e;exact h1 Z _ J H R M _ hP S e1 k
  |ct M1=>cases e;exact h1 Z _ J H R M _ hP S e1 k
  |rt d M1=>cases e;exact h1 Z _ J H R M _ hP S e1 k
noncomputable def aw(i:Nat)(fe:aN):aD:=λM=>match fe M with
 |none=>none
 |some (d,M1)=>some (.nx (M1.set i (some d)))
def bX{i:Nat}(he:ME c.K O te fe)(hs:cV c O O'=true:=by rfl)(hi:i∉O':=by decide):MS c O O' (fB te (gE i)) (aw i fe):=λZ E J H R M o hP S e k=>by
 unfold aw at e;cases e1:fe M with
 |none=>rw[e1]at e;cases e
 | some p=>
  obtain⟨d,M1⟩:=p;rw[e1]at e;cases e;refine he Z J H R M d M1 _ S e1 λv H1 R1 S1 st1 r1=>?_;let⟨S2,s2⟩:=S1.sub' hP hs;exact k _ H1 _ (S2.set hi (r1.mono s2)) (st1.r.trans s2)
noncomputable def cg(i:Nat)(fn:ba):aD:=λM=>match fn M with
 |none=>none
 |some (ds,M1)=>if i<M1.length then some (.nx (M1.set i (some (.lst ds))))else none
def lO(c:MC)(i:Nat)(O O':Zg):Bool:=cV c O (O'.filter λj=>decide (j≠i))&&O'.contains i&& !c.P.contains i
def iA{i:Nat}(he:MN c.K O te fn)(hs:lO c i O O'=true):MS c O O' (fB te (gE i)) (cg i fn):=λZ E J H R M o hP S e k=>by
 unfold cg at e;unfold lO at hs;simp only[Bool.and_eq_true]at hs;cases e1:fn M with
 |none=>rw[e1]at e;cases e
 | some p=>
  obtain⟨ds,M1⟩:=p;rw[e1]at e;dsimp only at e;split at e
  .rename_i zc;cases e;refine he Z J H R M ds M1 _ S e1 λl vs H1 R1 S1 st1 h0 hH hR r1=>?_;let⟨S2,s2⟩:=S1.sub' hP hs.1.1;have notown:∀j,j∈O->J[j]? ≠some (some (.ref l)):=S.notnew h0;have hO':∀j,j∈O'.filter (λj=>decide (j≠i))->j∈O:=λj hj=>by
    have z:=hs.1.1;unfold cV at z;simp only[Bool.and_eq_true,List.all_eq_true]at z;simpa using z.1 j hj
   refine k _ H1 _ (S2.take (i:=i) (l:=l) (vs:=.lst vs) (ds:=.lst ds) (by simp) (by simpa using hs.1.2) (λj hj=>?_) (by rw[hP];simpa using hs.2) zc (S.new0 h0) hH ?_ (λj hj=>notown j (hO' j hj)) (λj hj=>(List.mem_filter.mp hj).1) (.lst (r1.mono s2))) (st1.r.trans s2)
   .by_cases z:j=i
    .exact .inl z
    .exact .inr (List.mem_filter.mpr ⟨hj,by simpa using z⟩)
   .unfold dj;rw[if_neg ?_]
    .exact hR
    .rintro⟨j,hj,_,z⟩;exact notown j hj z
  .cases e
noncomputable def gx(fe:aN)(fg:eL):aD:=λM=>match fe M with
 |none=>none
 | some (d,M1)=>match fg d M1 with
  |none=>none
  |some M2=>some (.nx M2)
def tF{T:Zg}(he:ME c.K O te fe)(hs:cV c O O'=true)(hg:MG c.K O' T g fg):MS c O O' (fB te g) (gx fe fg):=λZ E J H R M o hP S e k=>by
 unfold gx at e;cases e1:fe M with
 |none=>rw[e1]at e;cases e
 | some p=>
  obtain⟨d,M1⟩:=p;rw[e1]at e;dsimp only at e;cases e2:fg d M1 with
  |none=>rw[e2]at e;cases e
  | some M2=>
   rw[e2]at e;cases e;refine he Z J H R M d M1 _ S e1 λv H1 R1 S1 st1 r1=>?_;let⟨S2,s2⟩:=S1.sub' hP hs;exact hg Z J H1 _ M1 v d M2 _ S2 (r1.mono s2) e2 λJ' S3 _=>k J' H1 _ S3 (st1.r.trans s2)
noncomputable def bY(ft:dz)(f h:aD):aD:=λM=>match ft M with
 |none=>none
 |some (b,M1)=>if b=true then f M1 else h M1
def dP(ht:MT c.K O tt ft)(h1:MS c O O' t f)(h2:MS c O O' u h):MS c O O' (q8 tt t u) (bY ft f h):=λZ E J H R M o hP S e k=>by
 unfold bY at e;cases e1:ft M with
 |none=>rw[e1]at e;cases e
 | some p=>
  obtain⟨b,M1⟩:=p;rw[e1]at e;dsimp only at e;refine ht Z J H R M b M1 _ S e1 λH1 R1 S1 st1=>?_;have k':E.ok c Z O' R1 o:=by
   cases o with
   |nx M'=>exact λJ2 H2 R2 S2 s2=>k J2 H2 R2 S2 (st1.r.trans s2)
   |bk M'=>exact λJ2 H2 R2 S2 s2=>k J2 H2 R2 S2 (st1.r.trans s2)
   |ct M'=>exact λJ2 H2 R2 S2 s2=>k J2 H2 R2 S2 (st1.r.trans s2)
   |rt d M'=>exact k
  cases b with
  |true=>exact fS (h1 Z E J H1 R1 M1 o hP S1 e k')
  |false=>exact fT (h2 Z E J H1 R1 M1 o hP S1 e k')
noncomputable def az(fe:aN):aD:=λM=>match fe M with
 |none=>none
 |some (d,M1)=>some (.rt d M1)
def bW(hf:c.fr=false)(he:ME c.K O te fe)(hs:cV c O c.P=true):MS c O O' (iJ te) (az fe):=λZ E J H R M o hP S e k=>by
 unfold az at e;cases e1:fe M with
 |none=>rw[e1]at e;cases e
 | some p=>
  obtain⟨d,M1⟩:=p;rw[e1]at e;cases e;refine he Z J H R M d M1 _ S e1 λv H1 R1 S1 st1 r1=>?_;let⟨S2,s2⟩:=S1.sub' hP hs;refine k v J H1 _ S2 ?_;unfold pA;rw[hf];exact r1.mono s2
noncomputable def mQ(fn:ba):aD:=λM=>match fn M with
 |none=>none
 |some (ds,M1)=>some (.rt (.lst ds) M1)
def ym(hf:c.fr=true)(he:MN c.K O te fn)(hs:cV c O c.P=true):MS c O O' (iJ te) (mQ fn):=λZ E J H R M o hP S e k=>by
 unfold mQ at e;cases e1:fn M with
 |none=>rw[e1]at e;cases e
 | some p=>
  obtain⟨ds,M1⟩:=p;rw[e1]at e;cases e;refine he Z J H R M ds M1 _ S e1 λl vs H1 R1 S1 st1 h0 hH hR r1=>?_;let⟨S2,s2⟩:=S1.sub' hP hs;refine k _ J H1 _ S2 ?_;unfold pA;rw[hf];refine⟨l,vs,ds,rfl,rfl,S.new0 h0,hH,?_,r1.mono s2⟩;unfold dj;rw[if_neg ?_]
  .exact hR
  .rintro⟨j,hj,_,z⟩;exact S.notnew h0 j hj z
def StR.drop{K:aq}{Z:Anc}{J:St}{H R:Hp}{M:aA}{i:Nat}(S:StR K Z O J H R M)(hO:∀j,j∈O'->j∈O/\j≠i)(hc:∀j,j∈O->j≠i->j∈O'):StR K Z O' J H R (M.set i none):=by
 refine⟨S.sub,by rw[xh];exact S.len,λj d hj e=>?_,λj hj=>?_,λj k hj hk=>S.dis j k (hO j hj).1 (hO k hk).1,S.ah,S.ar,S.an,S.ad,λj hj=>S.ao j (hO j hj).1,λj hj=>S.ap j (hO j hj).1⟩
 .by_cases z:i=j
  .subst z;have hl:i<M.length:=by
    have:=(List.getElem?_eq_some_iff.mp e).1
    rwa [xh]at this
   rw[xg hl]at e;cases e
  .rw[jo z]at e;exact S.env j d (λq=>hj (hc j q (Ne.symm z))) e
 .let⟨l,vs,ds,h1,h2⟩:=S.own j (hO j hj).1;exact⟨l,vs,ds,by rw[jo (Ne.symm (hO j hj).2)];exact h1,h2⟩
noncomputable def jE(i:Nat):aD:=λM=>match M[i]? with
 |some (some (.lst xs))=>some (.rt (.lst xs) (M.set i none))
 |_=>none
def t0{i:Nat}(hf:c.fr=true)(hi:i∈O)(hs:cV c O (i::c.P)=true)(hp:i∉c.P):MS c O O' (iJ (dL i)) (jE i):=λZ E J H R M o hP S e k=>by
 let⟨S2,s2⟩:=S.sub' hP hs;let⟨l,vs,ds,h1,h2,h3,h4,h5⟩:=S2.own i jf;unfold jE at e;rw[h1]at e;have hd:∃xs,ds=.lst xs:=by
  cases h5 with
  |lst _=>exact⟨_,rfl⟩
  |_=>cases e
 obtain⟨xs,rfl⟩:=hd;cases e;refine⟨.ref l,h2,k _ J H _ (S2.drop (i:=i) (O':=c.P) (λj hj=>⟨jd _ hj,λz=>hp (z▸hj)⟩) λj hj n=>?_) ?_⟩
 .rcases List.mem_cons.mp hj with z|z
  .exact absurd z n
  .exact z
 .unfold pA;rw[hf];cases h5 with
  |lst h5=>exact⟨l,_,_,rfl,rfl,S2.ao i jf (by rw[hP];exact hp) l h2,h3,h4,h5⟩
def G1{O O':Zg}:MS c O O' FQ (λ_=>none):=λZ E J H R M o hP S e k=>by cases e
noncomputable def dI(fg:eL)(fb:aD):List D->aD
 |[],M=>some (.nx M)
 | d::r,M=>match fg d M with
  |none=>none
  | some M1=>match fb M1 with
   |none=>none
   |some (.nx M2)=>dI fg fb r M2
   |some (.ct M2)=>dI fg fb r M2
   |some (.bk M2)=>some (.nx M2)
   |some (.rt d M2)=>some (.rt d M2)
def bi(fi:ba)(fg:eL)(fb:aD):aD:=λM=>match fi M with
 |none=>none
 |some (ds,M1)=>dI fg fb ds M1
def fN{T:Zg}{wi:TI}{fi:ba}{tb:TS}{fb:aD}(hi:MI c.K O wi fi)(hs:cV c O O'=true)(hg:MG c.K O' T g fg)(hb:MS {c with Ol:=O'} O' O' tb fb):MS c O O' (nj wi g tb) (bi fi fg fb):=λZ E J H R M o hP S e k=>by
 unfold bi at e;cases e1:fi M with
 |none=>rw[e1]at e;cases e
 | some p=>
  obtain⟨ds,M1⟩:=p;rw[e1]at e;dsimp only at e;refine hi Z J H R M ds M1 _ S e1 λσ H1 R1 S1 st1 ok=>?_;let⟨S2,s2⟩:=S1.sub' hP hs;have ok2:=ok.mono s2;refine⟨λi m J' H'=>m=ds.length-i/\i<=ds.length/\∃R' M',StR c.K Z O' J' H' R' M'/\Same (dj O O' J H1 R1) R'/\dI fg fb (ds.drop i) M'=some o,⟨ds.length,by simp,Nat.zero_le _,_,M1,S2,Same.refl _,by rw[List.drop_zero];exact e⟩,?_⟩;rintro i m J' H' ⟨rfl,hi',R',M',S',s',e'⟩;let⟨o1,o2⟩:=ok2 H' R' s' S'.sub i;by_cases hlt:i<ds.length
  .let⟨g1,g2⟩:=o2 ds[i] (jb hlt);rw[kc hlt]at e';refine .inr ⟨g1,λJ3 H3=>∃R3 M3,StR c.K Z O' J3 H3 R3 M3/\Same (dj O O' J H1 R1) R3/\dI fg fb (ds.drop (i+1)) M3=some o,?_,λx H3 y=>?_⟩
   .rintro J3 H3 ⟨R3,M3,q1,q2,q3⟩;exact⟨ds.length-(i+1),by omega,rfl,hlt,R3,M3,q1,q2,q3⟩
   .let⟨R3,x3,r3⟩:=g2 x H3 y;have S3:=S'.ext x3;unfold dI at e';cases e3:fg ds[i] M' with
    |none=>rw[e3]at e';cases e'
    | some M4=>
     rw[e3]at e';dsimp only at e';refine hg Z J' H3 R3 M' x _ M4 _ S3 r3 e3 λσ4 S4 _=>?_;cases e4:fb M4 with
     |none=>rw[e4]at e';cases e'
     | some o4=>
           rw[e4]at e';refine hb Z _ σ4 H3 R3 M4 o4 hP S4 e4 ?_;cases o4 with
           |nx M5=>exact λσ5 H5 R5 S5 s5=>⟨R5,M5,S5,(s'.trans x3.r).trans s5,e'⟩
           |ct M5=>exact λσ5 H5 R5 S5 s5=>⟨R5,M5,S5,(s'.trans x3.r).trans s5,e'⟩
           | bk M5=>
            cases e';exact λσ5 H5 R5 S5 s5=>k σ5 H5 R5 S5 (((st1.r.trans s2).trans s').trans (x3.r.trans s5))
           | rt d M5=>
            cases e';exact k
  .have ei:i=ds.length:=by omega
   subst ei;rw[List.drop_length]at e';unfold dI at e';cases e';exact .inl ⟨o1 rfl,k J' H' R' S' ((st1.r.trans s2).trans s')⟩
noncomputable def ik(ft:dz)(fb:aD):Nat->aD
 |0,_=>none
 | n+1,M=>match ft M with
  |none=>none
  |some (false,M1)=>some (.nx M1)
  | some (true,M1)=>match fb M1 with
   |none=>none
   |some (.nx M2)=>ik ft fb n M2
   |some (.ct M2)=>ik ft fb n M2
   |some (.bk M2)=>some (.nx M2)
   |some (.rt d M2)=>some (.rt d M2)
def G3{n:Nat}{tb:TS}{fb:aD}(ht:MT c.K O' tt ft)(hs:cV c O O'=true)(hb:MS {c with Ol:=O'} O' O' tb fb):MS c O O' (FU tt tb) (ik ft fb n):=λZ E J H R M o hP S e k=>by
 let⟨S2,s2⟩:=S.sub' hP hs;refine⟨λm J' H'=>∃R' M',StR c.K Z O' J' H' R' M'/\Same (dj O O' J H R) R'/\ik ft fb m M'=some o,⟨n,_,M,S2,Same.refl _,e⟩,?_⟩;rintro m J' H' ⟨R',M',S',s',e'⟩;cases m with
 |zero=>cases e'
 | succ m=>
  unfold ik at e';cases e1:ft M' with
  |none=>rw[e1]at e';cases e'
  | some p=>
   obtain⟨b,M1⟩:=p;rw[e1]at e';refine ht Z J' H' R' M' b M1 _ S' e1 λH1 R1 S1 st1=>?_;cases b with
   | false=>
    dsimp only at e';cases e';exact fT (k J' H1 R1 S1 ((s2.trans s').trans st1.r))
   | true=>
    dsimp only at e';refine fS ⟨λJ3 H3=>∃R3 M3,StR c.K Z O' J3 H3 R3 M3/\Same (dj O O' J H R) R3/\ik ft fb m M3=some o,λJ3 H3 q=>⟨m,Nat.lt_succ_self _,q⟩,?_⟩;cases e4:fb M1 with
    |none=>rw[e4]at e';cases e'
    | some o4=>
     rw[e4]at e';refine hb Z _ J' H1 R1 M1 o4 hP S1 e4 ?_;cases o4 with
     |nx M5=>exact λσ5 H5 R5 S5 s5=>⟨R5,M5,S5,(s'.trans st1.r).trans s5,e'⟩
     |ct M5=>exact λσ5 H5 R5 S5 s5=>⟨R5,M5,S5,(s'.trans st1.r).trans s5,e'⟩
     | bk M5=>
           cases e';exact λσ5 H5 R5 S5 s5=>k σ5 H5 R5 S5 ((s2.trans s').trans (st1.r.trans s5))
     | rt d M5=>
           cases e';exact k
end
section
variable{c:MC}{O O':Zg}{te ti:TE}{fe fi:aN}{tr:TA}{fs:ba}
noncomputable def isL(M:aA)(i:Nat):Bool:=match M[i]? with
 |some (some (.lst _))=>true
 |_=>false
def E5{K:aq}{R:Hp}{M:aA}{i:Nat}{o:HO}{d:D}(h:isL M i=true)(e:M[i]? =some (some d))(b:Ob K R o d):∃vs ds,o=.lst vs/\d=.lst ds/\Rps K R vs ds:=by
 unfold isL at h;rw[e]at h;cases b with
 |lst r=>exact⟨_,_,rfl,rfl,r⟩
 |_=>cases h
def cW(g:List D->List D->Option (List D))(i:Nat)(fs:ba):aD:=λM=>if isL M i=true then(match fs M with
 |none=>none
 | some (as,M1)=>match M1[i]? with
  | some (some (.lst xs))=>match g xs as with
   |some ys=>some (.nx (M1.set i (some (.lst ys))))
   |none=>none
  |_=>none)else none
def DR(K:aq)(r:V->List V->Hp->VK->Prop)(g:List D->List D->Option (List D)):Prop:=∀(H R:Hp) (l:Addr) (xs:List V) (ds:List D) (vs:List V) (as bs:List D) (Q:VK),(∀a o,R a=some o->H a=some o)->H l=some (.lst xs)->R l=none->Rps K R xs ds->Rps K R vs as->g ds as=some bs->(∀ys,Rps K R ys bs->Q .non (aT H l (.lst ys)))->r (.ref l) vs H Q
def kT{r:V->List V->Hp->VK->Prop}{g:List D->List D->Option (List D)}{i:Nat}(hm:DR c.K r g)(hi:i∈O)(ha:MA c.K O tr fs)(hs:cV c O O'=true):MS c O O' (p8 (sF c.K "list" r (dL i) tr)) (cW g i fs):=λZ E J H R M o hP S e k=>by
 unfold cW at e;split at e
 case isFalse=>cases e
 rename_i hL;cases e1:fs M with
 |none=>rw[e1]at e;cases e
 | some p=>
  obtain⟨as,M1⟩:=p;rw[e1]at e;dsimp only at e;let⟨l,vs,ds,h1,h2,h3,h4,h5⟩:=S.own i hi;obtain⟨us,_,rfl,rfl,_⟩:=E5 hL h1 h5;refine⟨.ref l,h2,.inl ⟨rfl,us,SqL.of h3⟩,ha Z J H R M as M1 _ S e1 λws H1 R1 S1 st1 r1=>?_⟩;let⟨l',vs',ds',g1,g2,g3,g4,g5⟩:=S1.own i hi;rw[h2]at g2;cases g2;rw[g1]at e;cases g5 with
  |dct _=>cases e
  |dit _=>cases e
  |lst g5=>
  rename_i vs' ds';dsimp only at e;cases e2:g ds' as with
  |none=>rw[e2]at e;cases e
  | some ys=>
   rw[e2]at e;cases e;refine hm H1 R1 l vs' ds' ws as ys _ S1.sub g3 g4 g5 r1 e2 λzs rz=>?_;let⟨S2,s2⟩:=(S1.write hi h2 (.lst rz)).sub' hP hs;exact k J _ _ S2 (st1.r.trans s2)
noncomputable def f9:List D->List D->Option (List D):=λxs as=>match as with
 |[d]=>if xs.length<sizeLine then some (xs++[d])else none
 |_=>none
def lB{K:aq}:DR K yv f9:=λH R l xs ds vs as bs Q s h hr r ra e k=>by
 cases ra with
 |nil=>cases e
 | cons q t=>
  cases t with
  |cons _ _=>cases e
  | nil=>
   rename_i x d;have e':(if ds.length<sizeLine then some (ds++[d])else none)=some bs:=e;split at e'
   .rename_i hz;cases e';exact⟨l,xs,x,rfl,rfl,h,by rw[r.length];exact hz,k _ (r.snoc q)⟩
   .cases e'
noncomputable def qx2:List D->List D->Option (List D):=λxs as=>match as with
 |[.int 0,d]=>if xs.length<sizeLine then some (d::xs)else none
 |_=>none
def pT(i:Nat)(fe fi:aN):aD:=λM=>match fe M with
 |none=>none
 | some (d,M1)=>match fi M1 with
  | some (.int k,M2)=>match M2[i]? with
   | some (some (.lst xs))=>match fI xs.length k with
    |some j=>some (.nx (M2.set i (some (.lst (xs.set j d)))))
    |none=>none
   |_=>none
  |_=>none
def qpy{i:Nat}(hi:i∈O)(he:ME c.K O te fe)(hx:ME c.K O ti fi)(hs:cV c O O'=true):MS c O O' (fB te (nT (dL i) ti Er)) (pT i fe fi):=λZ E J H R M o hP S e k=>by
 unfold pT at e;cases e1:fe M with
 |none=>rw[e1]at e;cases e
 | some p=>
  obtain⟨d,M1⟩:=p;rw[e1]at e;dsimp only at e;cases e2:fi M1 with
  |none=>rw[e2]at e;cases e
  | some p=>
   obtain⟨x,M2⟩:=p;rw[e2]at e;refine he Z J H R M d M1 _ S e1 λv H1 R1 S1 st1 r1=>?_;let⟨l,vs,ds,h1,h2,h3,h4,h5⟩:=S1.own i hi;refine⟨.ref l,h2,hx Z J H1 R1 M1 x M2 _ S1 e2 λw H2 R2 S2 st2 r2=>?_⟩;let⟨l',vs',ds',g1,g2,g3,g4,g5⟩:=S2.own i hi;rw[h2]at g2;cases g2;cases r2 with
   | int j=>
    dsimp only at e;rw[g1]at e;cases g5 with
    |dct _=>cases e
    |dit _=>cases e
    |lst g5=>
    rename_i vs' ds';dsimp only at e;cases e3:fI ds'.length j with
    |none=>rw[e3]at e;cases e
    | some m=>
     rw[e3]at e;cases e;refine⟨l,vs',j,m,rfl,rfl,g3,by rw[g5.length];exact e3,?_⟩;let⟨S3,s3⟩:=(S2.write hi h2 (.lst (g5.set (r1.mono st2.r) m))).sub' hP hs;exact k J _ _ S3 ((st1.r.trans st2.r).trans s3)
   |_=>cases e
end
noncomputable def aH(fr:Bool)(n N:Nat)(f:aD)(ds:List D):Option D:=if ds.length=n then match f (ds.map some++List.replicate (N-n) none)with
 |some (.rt d _)=>some d
 |some (.nx _)=>if fr=true then none else some .non
 |_=>none
 else none
def cc(K:aq)(fr:Bool)(n:Nat)(f:List D->Option D):Sp:=λvs H Q _=>vs.length=n/\∃R ds d,(∀a o,R a=some o->H a=some o)/\Rps K R vs ds/\f ds=some d/\∀v H' R',Ext H R H' R'->pA K fr H v d H' R'->Q v H'
def uq{N:Zj}{vs:List V}{i:Nat}{v:V}(h:vs[i]? =some v):(bn N vs)[i]? =some (some v):=by unfold bn;have hi:i<vs.length:=(List.getElem?_eq_some_iff.mp h).1;rw[k9 (by simpa using hi),je,h];rfl
def um{ds:List D}{m i:Nat}{d:D}(h:(ds.map some++List.replicate m none)[i]? =some (some d)):ds[i]? =some d:=by
 by_cases hi:i<ds.length
 .rw[k9 (by simpa using hi),je]at h;cases q:ds[i]? with
  |none=>rw[q]at h;cases h
  |some e=>rw[q]at h;cases h;rfl
 .rw[xw (by simpa using hi),k8]at h;split at h<;>cases h
def IJ{K:aq}{fr:Bool}{n:Nat}{Nms:Zj}{O':Zg}{t:TS}{f:aD}{vs:List V}{H:Hp}{Q:VK}{E:XK}(hm:MS ⟨K,fr,[],[]⟩ [] O' t f)(h:cc K fr n (aH fr n Nms.length f) vs H Q E):t {nx:=λ_ H'=>Q .non H',rt:=Q} (bn Nms vs) H:=by
 obtain⟨hn,R,ds,d,sub,r,e,k⟩:=h;unfold aH at e;split at e
 .rename_i hl;have S:StR K ⟨H,R,λ_=>False,[]⟩ [] (bn Nms vs) H R (ds.map some++List.replicate (Nms.length-n) none):=by
   refine⟨sub,?_,λi d _ q=>?_,λi hi=>absurd hi (by simp),λi j hi=>absurd hi (by simp),λa o q _=>q,Same.refl _,λa q=>.inl q,λa q=>.refl q,λi hi=>absurd hi (by simp),λi hi=>absurd hi (by simp)⟩
   .unfold bn;rw[jh,jh,j7,j7,jw,jw,hn,hl]
   .let⟨v,h1,h2⟩:=r.get (um q);exact⟨v,uq h1,h2⟩
  have ext:∀{O1:Zg} {J':St} {H' R':Hp} {M':aA},StR K ⟨H,R,λ_=>False,[]⟩ O1 J' H' R' M'->Ext H R H' R':=λS'=>⟨λa o q=>S'.ah a o q (λz=>z),S'.ar,S'.sub,S'.an⟩;cases e1:f (ds.map some++List.replicate (Nms.length-n) none)with
  |none=>rw[e1]at e;cases e
  | some o=>
   rw[e1]at e;refine hm _ _ _ _ _ _ o rfl S e1 ?_;cases o with
   | nx M'=>
    dsimp only at e;split at e
    .cases e
    .rename_i hf;cases e;refine λJ' H' R' S' _=>k .non H' R' (ext S') ?_;cases fr with
     |false=>exact .non
     |true=>exact absurd rfl hf
   |bk M'=>cases e
   |ct M'=>cases e
   | rt d' M'=>
    cases e;exact λv J' H' R' S' q=>k v H' R' (ext S') q
 .cases e
noncomputable def gy(fr:Bool)(n N:Nat)(f:aD)(xs ds:List D):Option (D×List D):=if ds.length+1=n then match f (some (.lst xs)::(ds.map some++List.replicate (N-n) none))with
 | some (.rt d M)=>(match (M[0]? :Option (Option D))with
  |some (some (D.lst ys))=>some (d,ys)
  |_=>none)
 | some (.nx M)=>if fr=true then none else(match (M[0]? :Option (Option D))with
  |some (some (D.lst ys))=>some (.non,ys)
  |_=>none)
 |_=>none
 else none
structure ExtS(l:Addr)(H R H' R':Hp):Prop where
 h:∀a o,a≠l->H a=some o->H' a=some o
 r:Same R R'
 s:∀a o,R' a=some o->H' a=some o
 n:∀a,R' a≠none->R a≠none∨Frh H a
 d:∀a,H a≠none->Liv H H' a
def pH(K:aq)(fr:Bool)(n:Nat)(f:List D->List D->Option (D×List D)):Sp:=λvs H Q _=>vs.length=n/\∃l ws R us xs ds d ys,vs=.ref l::ws/\H l=some (.lst us)/\R l=none/\(∀a o,R a=some o->H a=some o)/\Rps K R us xs/\Rps K R ws ds/\f xs ds=some (d,ys)/\
 ∀v H' R' us',ExtS l H R H' R'->H' l=some (.lst us')->R' l=none->Rps K R' us' ys->pA K fr H v d H' R'->Q v H'
def Hm{K:aq}{fr:Bool}{n:Nat}{Nms:Zj}{O':Zg}{t:TS}{f:aD}{vs:List V}{H:Hp}{Q:VK}{E:XK}(hm:MS ⟨K,fr,[0],[]⟩ [0] [0] t f)(h:pH K fr n (gy fr n Nms.length f) vs H Q E):t {nx:=λ_ H'=>Q .non H',rt:=Q} (bn Nms vs) H:=by
 obtain⟨hn,l,ws,R,us,xs,ds,d,ys,rfl,hH,hR,sub,ru,r,e,k⟩:=h;unfold gy at e;split at e
 .rename_i hl;have ln:ws.length+1=n:=by simpa using hn
  have S:StR K ⟨H,R,λa=>a=l,[0]⟩ [0] (bn Nms (.ref l::ws)) H R (some (.lst xs)::(ds.map some++List.replicate (Nms.length-n) none)):=by
   have one:∀i,i∈[0]->i=0:=λi hi=>by simpa using hi
   refine⟨sub,?_,λi d hi q=>?_,λi hi=>?_,λi j hi hj z=>absurd ((one i hi).trans (one j hj).symm) z,λa o q _=>q,Same.refl _,λa q=>.inl q,λa q=>.refl q,λi hi z=>absurd hi z,λi hi _ a q=>?_⟩
   .unfold bn;simp only[List.map_cons,List.cons_append,List.length_cons,List.length_append,List.length_map,List.length_replicate];omega
   .cases i with
    |zero=>exact absurd (by simp) hi
    | succ i=>
     rw[List.getElem?_cons_succ]at q;let⟨v,h1,h2⟩:=r.get (um q);exact⟨v,uq (by rw[List.getElem?_cons_succ];exact h1),h2⟩
   .cases one i hi;exact⟨l,.lst us,.lst xs,rfl,rfl,hH,hR,.lst ru⟩
   .cases one i hi;have q':some (some (V.ref l))=some (some (V.ref a)):=q;cases q';rfl
  have ext:∀{J':St} {H' R':Hp} {M':aA},StR K ⟨H,R,λa=>a=l,[0]⟩ [0] J' H' R' M'->ExtS l H R H' R'/\∃us' zs,M'[0]? =some (some zs)/\H' l=some us'/\R' l=none/\Ob K R' us' zs:=λ{J' H' R' M'} S'=>by refine⟨⟨λa o n q=>S'.ah a o q n,S'.ar,S'.sub,S'.an,S'.ad⟩,?_⟩;let⟨l',us',zs,h1,h2,h3,h4,h5⟩:=S'.own 0 (by simp);have el:l'=l:=S'.ap 0 (by simp) (by simp) l' h2;subst el;exact⟨us',zs,h1,h3,h4,h5⟩
  cases e1:f (some (.lst xs)::(ds.map some++List.replicate (Nms.length-n) none))with
  |none=>rw[e1]at e;cases e
  | some o=>
   rw[e1]at e;refine hm _ _ _ _ _ _ o rfl S e1 ?_;cases o with
   | nx M'=>
    dsimp only at e;split at e
    .cases e
    .rename_i hf;refine λJ' H' R' S' _=>?_;let⟨x,us',zs,q1,q2,q3,q4⟩:=ext S';rw[q1]at e;cases q4 with
     |dct _=>cases e
     |dit _=>cases e
     |lst q4=>
     cases e;refine k .non H' R' _ x q2 q3 q4 ?_;cases fr with
     |false=>exact .non
     |true=>exact absurd rfl hf
   |bk M'=>cases e
   |ct M'=>cases e
   | rt d' M'=>
    dsimp only at e;refine λv J' H' R' S' q=>?_;let⟨x,us',zs,q1,q2,q3,q4⟩:=ext S';rw[q1]at e;cases q4 with
    |dct _=>cases e
    |dit _=>cases e
    |lst q4=>
    cases e;exact k v H' R' _ x q2 q3 q4 q
 .cases e
section
variable{K:aq}{O:Zg}{tr:TA}{fs:ba}{E:XK}{n:Nat}
def aS(f:List D->Option D)(fs:ba):aN:=cj fs λds=>dn (f ds)
def b8(n:Nat)(f:List D->Option D):Prop:=∀ds d,f ds=some d->ds.length=n
def cz{fr:Bool}{n N:Nat}{f:aD}:b8 n (aH fr n N f):=λds d e=>by
 unfold aH at e;split at e
 .assumption
 .cases e
def fA{f:List D->Option D}(hf:b8 n f)(h:MA K O tr fs):ME K O (oI (cc K false n f) [] E tr) (aS f fs):=λZ J H R M d M' Q S e k=>by let⟨ds,M1,e1,e⟩:=b9 e;obtain⟨e2,rfl⟩:=c9 e;refine h Z J H R M ds _ _ S e1 λvs H1 R1 S1 st1 r1=>?_;show cc K false n f (vs++[]) H1 Q E;rw[List.append_nil];exact⟨by rw[r1.length];exact hf ds d e2,R1,ds,d,S1.sub,r1,e2,λv H2 R2 x q=>k v H2 R2 (S1.ext x) (st1.trans x.stp) q⟩
noncomputable def pM(o:Option D):Option (List D):=match o with
 |some (.lst ds)=>some ds
 |_=>none
def i7(f:List D->Option D)(fs:ba):ba:=cj fs λds=>dn (pM (f ds))
def qf0{o:Option D}{ds:List D}(h:pM o=some ds):o=some (.lst ds):=by
 unfold pM at h;split at h
 .cases h;rfl
 ·(first|obtain rfl:=h.isA rfl|cases h)
def lg{f:List D->Option D}(hf:b8 n f)(h:MA K O tr fs):MN K O (oI (cc K true n f) [] E tr) (i7 f fs):=λZ J H R M d M' Q S e k=>by let⟨ds,M1,e1,e⟩:=b9 e;obtain⟨e2,rfl⟩:=c9 e;have e3:=qf0 e2;refine h Z J H R M ds _ _ S e1 λvs H1 R1 S1 st1 r1=>?_;show cc K true n f (vs++[]) H1 Q E;rw[List.append_nil];refine⟨by rw[r1.length];exact hf ds _ e3,R1,ds,_,S1.sub,r1,e3,λv H2 R2 x q=>?_⟩;obtain⟨l,us,gs,rfl,e4,h0,hH,hR,r⟩:=q;cases e4;exact k l us H2 R2 (S1.ext x) (st1.trans x.stp) (st1.new h0) hH hR r
def f8(f:List D->List D->Option (D×List D))(i:Nat)(fs:ba):aN:=cj fs λds M=>match M[i]? with
 | some (some (.lst xs))=>match f xs ds with
  |some (d,ys)=>some (d,M.set i (some (.lst ys)))
  |none=>none
 |_=>none
def sR(n:Nat)(f:List D->List D->Option (D×List D)):Prop:=∀xs ds r,f xs ds=some r->ds.length+1=n
def Fy{fr:Bool}{n N:Nat}{f:aD}:sR n (gy fr n N f):=λxs ds r e=>by
 unfold gy at e;split at e
 .assumption
 .cases e
def kA{f:List D->List D->Option (D×List D)}{i:Nat}(hf:sR n f)(hi:i∈O)(h:MA K O tr fs):ME K O (oI (pH K false n f) [] E (kN (dL i) tr)) (f8 f i fs):=λZ J H R M d M' Q S e k=>by
 let⟨ds,M1,e1,e⟩:=b9 e;let⟨l,vs0,ds0,h1,h2,h3,h4,h5⟩:=S.own i hi;refine⟨.ref l,h2,h Z J H R M ds M1 _ S e1 λvs H1 R1 S1 st1 r1=>?_⟩;let⟨l',us,xs,g1,g2,g3,g4,g5⟩:=S1.own i hi;rw[h2]at g2;cases g2;rw[g1]at e;cases g5 with
 |dct _=>cases e
 |dit _=>cases e
 |lst g5=>
 rename_i us xs;dsimp only at e;cases e2:f xs ds with
 |none=>rw[e2]at e;cases e
 | some p=>
  obtain⟨d',ys⟩:=p;rw[e2]at e;cases e;show pH K false n f (.ref l::vs++[]) H1 Q E;rw[List.append_nil];refine⟨by rw[jt,r1.length];exact hf _ _ _ e2,l,vs,R1,us,xs,ds,d,ys,rfl,g3,g4,S1.sub,g5,r1,e2,λv H2 R2 us' x hH hR ru q=>?_⟩;have zc:i<M1.length:=(List.getElem?_eq_some_iff.mp g1).1;have st2:Stp O J H1 R1 H2 R2:=⟨x.r,λa o e n=>x.h a o (λz=>by subst z;exact n i hi h2) e,x.n,x.d⟩;have other:∀j,j∈O->i≠j->∀m,J[j]? =some (some (.ref m))->m≠l:=λj hj n m e z=>by subst z;exact S1.dis i j hi hj n m h2 e
  refine k v H2 R2 ⟨x.s,by rw[xh];exact S1.len,λj e hj q=>?_,λj hj=>?_,S1.dis,λa o e n=>?_,S1.ar.trans x.r,λa h=>?_,λa h=>(S1.ad a h).trans (x.d a (S1.ad a h).1),S1.ao,S1.ap⟩ (st1.trans st2) q
  .have n:i≠j:=λz=>hj (z▸hi);rw[jo n]at q;let⟨w,q1,q2⟩:=S1.env j e hj q;exact⟨w,q1,q2.mono x.r⟩
  .by_cases n:i=j
   .subst n;exact⟨l,.lst us',.lst ys,by rw[xg zc],h2,hH,hR,.lst ru⟩
   .let⟨m,vs',ds',q1,q2,q3,q4,q5⟩:=S1.own j hj;refine⟨m,vs',ds',by rw[jo n];exact q1,q2,x.h _ _ (other j hj n m q2) q3,?_,q5.mono x.r⟩;cases z:R2 m with
    |none=>rfl
    | some o=>
     rcases x.n m (by rw[z];exact λy=>nomatch y)with y|y
     .exact absurd q4 y
     .exact(q5.noF q3 y).elim
  .have ne:a≠l:=λz=>by
    subst z;by_cases hp:i∈Z.P
    .exact n (S1.ap i hi hp a h2)
    .rw[S1.ao i hi hp a h2]at e;cases e
   exact x.h a o ne (S1.ah a o e n)
  .rcases x.n a h with z|z
   .exact S1.an a z
   .exact .inr (z.back (S1.ad a))
end
def Ek(K:aq):R2:=λx y H Q=>∃l b xs zs,x=.ref l/\y=.ref b/\SqL K H l xs/\SqL K H b zs/\xs.length+zs.length<=sizeLine/\∀p,H p=none->Q (.ref p) (aT H p (.lst (xs++zs)))
def El(K:aq):R2:=λx y H Q=>∃a b xs ys,x=.ref a/\y=.ref b/\SqT K H a xs/\SqT K H b ys/\xs.length+ys.length<=sizeLine/\
 (xs=[]->Q (.ref b) H)/\(xs≠[]->ys=[]->Q (.ref a) H)/\(xs≠[]->ys≠[]->∀p,H p=none->Q (.ref p) (aT H p (.tup (xs++ys))))
section
variable{X:Cx}{K:aq}
def qpl(hK:X.K=K):OpR X (binaryOp .Add) (Ek K):=by
 subst hK;intro z5 s J H x y v u Q I rx ry h;obtain⟨l,b,xs,zs,rfl,rfl,hH,hB,hz,q⟩:=h
 (first|obtain rfl:=rx.isA rfl|cases rx)
 (first|obtain rfl:=ry.isA rfl|cases ry)
 let⟨its,r,pl,z⟩:=I.list hH;let⟨its2,r2,pl2,z2⟩:=I.list hB;obtain⟨⟨cls,dd,data,sl⟩,ho,hc,n,hd⟩:=pl.isList;obtain⟨⟨cls2,dd2,data2,sl2⟩,ho2,hc2,n2,hd2⟩:=pl2.isList;simp only at hc hd hc2 hd2;subst hc hd hc2 hd2;have e:its.toArray++its2.toArray=(its++its2).toArray:=by simp
 refine concat_meets ⟨_,ho,rfl⟩ ⟨_,ho2,rfl⟩ noFill_list_add seq_list_add PySem.F.slot_list_add PySem.F.entry_list_add (PySem.F.args_list_add_2 _ _) (list_addW l b its.toArray its2.toArray n n2 dd dd2 sl sl2 (by rw[jx,jx,<-r.length,<-r2.length];exact hz)) ⟨ho,ho2,?_⟩;rw[e];exact⟨.ref _,_,I.lnew (t':=s.toks) (r.append r2) (by rw[jh];omega),rfl,q _ I.fresh⟩
def qpk(hK:X.K=K):OpR X (binaryOp .Add) (El K):=by
 subst hK;intro z5 s J H x y v u Q I rx ry h;obtain⟨a,b,xs,ys,rfl,rfl,ha,hb,hz,q0,q1,q2⟩:=h
 (first|obtain rfl:=rx.isA rfl|cases rx)
 (first|obtain rfl:=ry.isA rfl|cases ry)
 let⟨its,r1,p1,_⟩:=I.tuple ha;let⟨its2,r2,p2,_⟩:=I.tuple hb;let⟨⟨cls,dd,data,sl⟩,ho,hc,n,hd⟩:=id p1;let⟨⟨cls2,dd2,data2,sl2⟩,ho2,hc2,n2,hd2⟩:=id p2;simp only at hc hd hc2 hd2;subst hc hd hc2 hd2;have e:its.toArray++its2.toArray=(its++its2).toArray:=by simp
 by_cases hv:its=[]
 .exact concat_meets ⟨_,ho,rfl⟩ ⟨_,ho2,rfl⟩ noFill_tuple_add seq_tuple_add PySem.F.slot_tuple_add PySem.F.entry_tuple_add (PySem.F.args_tuple_add_2 _ _)
   (tuple_addW0 a b its.toArray its2.toArray n n2 dd dd2 sl sl2 (by simp[hv])) ⟨ho,ho2,⟨.ref b,H,I,rfl,q0 (r1.nil_iff.mp hv)⟩⟩
 .have hx:xs≠[]:=λz=>hv (r1.nil_iff.mpr z);by_cases hw:its2=[]
  .exact concat_meets ⟨_,ho,rfl⟩ ⟨_,ho2,rfl⟩ noFill_tuple_add seq_tuple_add PySem.F.slot_tuple_add PySem.F.entry_tuple_add (PySem.F.args_tuple_add_2 _ _)
    (tuple_addW1 a b its.toArray its2.toArray n n2 dd dd2 sl sl2 (by simpa using hv) (by simp[hw])) ⟨ho,ho2,⟨.ref a,H,I,rfl,q1 hx (r2.nil_iff.mp hw)⟩⟩
  .refine concat_meets ⟨_,ho,rfl⟩ ⟨_,ho2,rfl⟩ noFill_tuple_add seq_tuple_add PySem.F.slot_tuple_add PySem.F.entry_tuple_add (PySem.F.args_tuple_add_2 _ _)
    (tuple_addW2 a b its.toArray its2.toArray n n2 dd dd2 sl sl2 (by simpa using hv) (by simpa using hw) (by rw[List.size_toArray,List.size_toArray,<-r1.length,<-r2.length];exact hz)) ⟨ho,ho2,?_⟩
   rw[e];refine⟨.ref s.heap.objs.size,_,I.laid (t':=s.toks) (o:=.tup (xs++ys)) (λb ob q=>ja _ q) (jc _) ?_,rfl,q2 hx (λw=>hw (r2.nil_iff.mpr w)) _ (I.hok.fresh (jc _))⟩;exact⟨by rw[jh];exact hz,_,r1.append r2,TupN.new _ _⟩
def vX(K:aq):R2:=λx y H Q=>gK (λi j=>.int (i+j)) x y H Q∨Ek K x y H Q∨El K x y H Q∨∃i j,x=.str i/\y=.str j/\i.length+j.length<=sizeLine/\Q (.str (i++j)) H
def dO(hK:X.K=K):OpR X (binaryOp .Add) (vX K):=op_add.or ((qpl hK).or ((qpk hK).or qer))
end
section
variable{K:aq}{O:Zg}
noncomputable def bN:D->D->Option D
 |.int i,.int j=>some (.int (i+j))
 |.lst xs,.lst ys=>if xs.length+ys.length<=sizeLine then some (.lst (xs++ys))else none
 |.tup xs,.tup ys=>if xs.length+ys.length<=sizeLine then some (.tup (xs++ys))else none
 |.str x,.str y=>if x.length+y.length<=sizeLine then some (.str (x++y))else none
 |_,_=>none
def mV:gX K (vX K) bN:=λH R x y d e u Q s rx ry q k=>by
 unfold bN at q;split at q
 .rename_i i j
  (first|obtain rfl:=q.isA rfl|cases q)
  (first|obtain rfl:=rx.isA rfl|cases rx)
  (first|obtain rfl:=ry.isA rfl|cases ry)
  exact .inl ⟨i,j,rfl,rfl,k _ H R (Ext.refl s) (.int _)⟩
 .split at q
  .rename_i hz
   (first|obtain rfl:=q.isA rfl|cases q)
   obtain⟨a1,xs,rfl,h,r⟩:=rx.isL;obtain⟨a2,ys,rfl,h2,r2⟩:=ry.isL;refine .inr (.inl ⟨_,_,_,_,rfl,rfl,Same.sqL s h,Same.sqL s h2,by rw[r.length,r2.length];exact hz,λp np=>?_⟩);have x:=Ext.new (o:=.lst (xs++ys)) s np;exact k _ _ _ x (.lst (SqL.of cT) ((r.append r2).mono x.r))
  ·(first|obtain rfl:=q.isA rfl|cases q)
 .split at q
  .rename_i hz
   (first|obtain rfl:=q.isA rfl|cases q)
   obtain⟨a1,xs,rfl,h,r⟩:=rx.isT;obtain⟨a2,ys,rfl,h2,r2⟩:=ry.isT;refine .inr (.inr (.inl ⟨_,_,_,_,rfl,rfl,SqT.of (s _ _ h),SqT.of (s _ _ h2),by rw[r.length,r2.length];exact hz,λz=>?_,λ_ z=>?_,λ_ _ p np=>?_⟩))
   .subst z
    (first|obtain rfl:=r.isA rfl|cases r)
    exact k _ H R (Ext.refl s) (.tup h2 r2)
   .subst z
    (first|obtain rfl:=r2.isA rfl|cases r2)
    rw[List.append_nil]at k;exact k _ H R (Ext.refl s) (.tup h r)
   .have x:=Ext.new (o:=.tup (xs++ys)) s np;exact k _ _ _ x (.tup cT ((r.append r2).mono x.r))
  ·(first|obtain rfl:=q.isA rfl|cases q)
 .rename_i i j;split at q
  .rename_i hz
   (first|obtain rfl:=q.isA rfl|cases q)
   (first|obtain rfl:=rx.isA rfl|cases rx)
   (first|obtain rfl:=ry.isA rfl|cases ry)
   exact .inr (.inr (.inr ⟨i,j,rfl,rfl,hz,k _ H R (Ext.refl s) (.str _)⟩))
  ·(first|obtain rfl:=q.isA rfl|cases q)
 ·(first|obtain rfl:=q.isA rfl|cases q)
def IQ(K:aq)(r:R2)(g:D->D->Option (List D)):Prop:=∀(H R:Hp) (x y:V) (d e:D) (us:List D) (Q:VK),(∀a o,R a=some o->H a=some o)->Rp K R x d->Rp K R y e->g d e=some us->(∀l vs,H l=none->Rps K R vs us->Q (.ref l) (aT H l (.lst vs)))->r x y H Q
def qb(g:D->D->Option (List D))(fa fb:aN):ba:=cj fa λx=>cj fb λy=>dn (g x y)
def qy5{ta tb:TE}{r:R2}{g:D->D->Option (List D)}{fa fb:aN}(h:IQ K r g)(ha:ME K O ta fa)(hb:ME K O tb fb):MN K O (jU r ta tb) (qb g fa fb):=λZ J H R M d M' Q S e k=>by let⟨x,M1,e1,e⟩:=b9 e;let⟨y,M2,e2,e⟩:=b9 e;obtain⟨e3,rfl⟩:=c9 e;refine ha Z J H R M x M1 _ S e1 λv H1 R1 S1 st1 r1=>hb Z J H1 R1 M1 y _ _ S1 e2 λw H2 R2 S2 st2 r2=>?_;refine h H2 R2 v w x y d Q S2.sub (r1.mono st2.r) r2 e3 λl vs hl rv=>?_;have x:=Ext.hid (o:=.lst vs) S2.sub hl;exact k l vs _ _ (S2.ext x) ((st1.trans st2).trans x.stp) ((st1.trans st2).new hl) cT (S2.out hl) rv
noncomputable def qa:D->D->Option (List D)
 |.lst xs,.lst ys=>if xs.length+ys.length<=sizeLine then some (xs++ys)else none
 |_,_=>none
def qty:IQ K (vX K) qa:=λH R x y d e u Q s rx ry q k=>by
 unfold qa at q;split at q
 .split at q
  .rename_i hz
   (first|obtain rfl:=q.isA rfl|cases q)
   obtain⟨_,_,rfl,h,r⟩:=rx.isL;obtain⟨_,_,rfl,h2,r2⟩:=ry.isL;exact .inr (.inl ⟨_,_,_,_,rfl,rfl,Same.sqL s h,Same.sqL s h2,by rw[r.length,r2.length];exact hz,λp np=>k p _ np (r.append r2)⟩)
  ·(first|obtain rfl:=q.isA rfl|cases q)
 ·(first|obtain rfl:=q.isA rfl|cases q)
end
mutual
noncomputable def D.toP:D->Option PyData
 |.non=>some .none
 |.bl b=>some (.bool b)
 |.int i=>some (.int i)
 |.str x=>some (.str x)
 |.lst xs=>(D.toPs xs).map PyData.list
 |.tup xs=>(D.toPs xs).map PyData.tuple
 |.obj _ _=>none
 |.dct _=>none
 |.exc _=>none
 |.fn _=>none
 |.tab _ _ _=>none
 |.dit _=>none
noncomputable def D.toPs:List D->Option (List PyData)
 |[]=>some []
 | d::r=>match D.toP d,D.toPs r with
  |some p,some ps=>some (p::ps)
  |_,_=>none
end
section
variable{K:aq}{O:Zg}{R:Hp}
def qwp(p:PyData)(e:D.toP .non=some p):DV K R .non p:=by simp only[D.toP]at e;cases e;exact .non
def qyn(b:Bool)(p:PyData)(e:D.toP (.bl b)=some p):DV K R (.bl b) p:=by simp only[D.toP]at e;cases e;exact .bl b
def qwr(b:Int)(p:PyData)(e:D.toP (.int b)=some p):DV K R (.int b) p:=by simp only[D.toP]at e;cases e;exact .int b
def qwo(b:Str)(p:PyData)(e:D.toP (.str b)=some p):DV K R (.str b) p:=by simp only[D.toP]at e;cases e;exact .str b
def qwq{a:Addr}{xs:List V}{ds:List D}{p:PyData}(h:SqL K R a xs)(r:∀ps,D.toPs ds=some ps->DVs K R xs ps)(e:D.toP (.lst ds)=some p):DV K R (.ref a) p:=by
 simp only[D.toP]at e;cases z:D.toPs ds with
 |none=>rw[z]at e;cases e
 |some ps=>rw[z]at e;cases e;exact .lst h (r _ z)
def qwn{a:Addr}{xs:List V}{ds:List D}{p:PyData}(h:R a=some (.tup xs))(r:∀ps,D.toPs ds=some ps->DVs K R xs ps)(e:D.toP (.tup ds)=some p):DV K R (.ref a) p:=by
 simp only[D.toP]at e;cases z:D.toPs ds with
 |none=>rw[z]at e;cases e
 |some ps=>rw[z]at e;cases e;exact .tup (SqT.of h) (r _ z)
def qrb(ps:List PyData)(e:D.toPs []=some ps):DVs K R [] ps:=by simp only[D.toPs]at e;cases e;exact .nil
def qm9{x:V}{xs:List V}{d:D}{ds:List D}{ps:List PyData}(h:∀p,d.toP=some p->DV K R x p)(r:∀ps,D.toPs ds=some ps->DVs K R xs ps)(e:D.toPs (d::ds)=some ps):DVs K R (x::xs) ps:=by
 simp only[D.toPs]at e;cases z:d.toP with
 |none=>rw[z]at e;cases e
 | some p=>
  cases w:D.toPs ds with
  |none=>rw[z,w]at e;cases e
  |some qs=>rw[z,w]at e;cases e;exact .cons (h _ z) (r _ w)
def Rp.dv{v:V}{d:D}{p:PyData}(h:Rp K R v d)(e:d.toP=some p):DV K R v p:=
 Rp.rec (motive_1:=λv d _=>∀p,d.toP=some p->DV K R v p) (motive_2:=λxs ds _=>∀ps,D.toPs ds=some ps->DVs K R xs ps) (motive_3:=λ_ _ _=>True) (motive_4:=λ_ _ _=>True) (motive_5:=λ_ _ _=>True)
  qwp qyn qwr qwo (λh _ r _=>qwq h r) (λh _ r _=>qwn h r) (λ_ _ _ _ _ e=>by simp only[D.toP]at e;cases e) (λ_ _ _ _ e=>by simp only[D.toP]at e;cases e) (λ_ _ _ _ e=>by simp only[D.toP]at e;cases e) (λ_ _ _ _ e=>by simp only[D.toP]at e;cases e) (λ_ _ e=>by simp only[D.toP]at e;cases e) (λ_ _ e=>by simp only[D.toP]at e;cases e)
  qrb (λ_ _ h r _=>qm9 h r) trivial (λ_ _ _ _=>trivial) trivial (λ_ _ _ _=>trivial) trivial (λ_ _ _ _=>trivial) h _ e
def bV(d e:D):Option Bool:=match d.toP,e.toP with
 |some p,some q=>if SeqAt.shaped p=true/\SeqAt.shaped q=true then some (PyData.eqv p q)else none
 |_,_=>none
def eK(d e:D):Option D:=(bV d e).map .bl
def im(d e:D):Option D:=(bV d e).map λb=>.bl (!b)
def GO{d e:D}{b:Bool}(h:bV d e=some b):∃p q,d.toP=some p/\e.toP=some q/\SeqAt.shaped p=true/\SeqAt.shaped q=true/\PyData.eqv p q=b:=by
 unfold bV at h;cases h1:d.toP with
 |none=>rw[h1]at h;cases h
 | some p=>
  cases h2:e.toP with
  |none=>rw[h1,h2]at h;cases h
  | some q=>
   rw[h1,h2]at h;dsimp only at h;split at h
   .rename_i z;exact⟨p,q,rfl,rfl,z.1,z.2,jg h⟩
   ·(first|obtain rfl:=h.isA rfl|cases h)
def fK:OpS K (rG K) eK:=λH x y d e u Q rx ry q k=>by
 unfold eK at q;cases h:bV d e with
 |none=>rw[h]at q;cases q
 | some b=>
  rw[h]at q
  (first|obtain rfl:=q.isA rfl|cases q)
  let⟨p,r,h1,h2,h3,h4,h5⟩:=GO h;refine⟨p,r,rx.dv h1,ry.dv h2,h3,h4,?_⟩;rw[h5];exact k _ (.bl _)
def pQ:OpS K (rj K) im:=λH x y d e u Q rx ry q k=>by
 unfold im at q;cases h:bV d e with
 |none=>rw[h]at q;cases q
 | some b=>
  rw[h]at q
  (first|obtain rfl:=q.isA rfl|cases q)
  let⟨p,r,h1,h2,h3,h4,h5⟩:=GO h;refine⟨p,r,rx.dv h1,ry.dv h2,h3,h4,?_⟩;rw[h5];exact k _ (.bl _)
noncomputable def gA(d e:D):Option D:=match e with
 |.non=>some (.bl (match d with|.non=>true|_=>false))
 |_=>none
noncomputable def ix(d e:D):Option D:=match e with
 |.non=>some (.bl (match d with|.non=>false|_=>true))
 |_=>none
def qtu:OpS K (λx y H Q=>y=.non/\Q (.bl (decide (x=.non))) H) gA:=λH x y d e u Q rx ry q k=>by
 (first|split at q|(unfold gA at q;split at q))
 .obtain rfl:=ry.isA rfl;refine⟨rfl,?_⟩;cases rx<;>(cases q;exact k _ (.bl _))
 .cases q
def yo:OpS K (λx y H Q=>y=.non/\Q (.bl (!decide (x=.non))) H) ix:=λH x y d e u Q rx ry q k=>by
 (first|split at q|(unfold ix at q;split at q))
 .obtain rfl:=ry.isA rfl;refine⟨rfl,?_⟩;cases rx<;>(cases q;exact k _ (.bl _))
 .cases q
end
section
variable{K:aq}{O:Zg}{t ta tb tc:TE}{tr:TA}{fa fb fc:aN}{fs:ba}
def DP(K:aq)(r:List V->Hp->VK->Prop)(g:D->Option D):Prop:=∀(H R:Hp) (x:V) (d u:D) (Q:VK),(∀a o,R a=some o->H a=some o)->Rp K R x d->g d=some u->(∀v H' R',Ext H R H' R'->Rp K R' v u->Q v H')->r [x] H Q
def qB{r:List V->Hp->VK->Prop}{g:D->Option D}(h:DP K r g)(ha:ME K O t fa):ME K O (mH r (kN t gv)) (aK g fa):=λZ J H R M d M' Q S e k=>by let⟨x,M1,e1,e⟩:=b9 e;obtain⟨e2,rfl⟩:=c9 e;refine ha Z J H R M x _ _ S e1 λv H1 R1 S1 st1 r1=>?_;exact h H1 R1 v x d Q S1.sub r1 e2 λw H2 R2 x2 r2=>k w H2 R2 (S1.ext x2) (st1.trans x2.stp) r2
def DQ(K:aq)(r:List V->Hp->VK->Prop)(g:D->Option (List D)):Prop:=∀(H R:Hp) (x:V) (d:D) (us:List D) (Q:VK),(∀a o,R a=some o->H a=some o)->Rp K R x d->g d=some us->(∀l vs,H l=none->Rps K R vs us->Q (.ref l) (aT H l (.lst vs)))->r [x] H Q
def hZ(g:D->Option (List D))(f:aN):ba:=cj f λx=>dn (g x)
def ue{r:List V->Hp->VK->Prop}{g:D->Option (List D)}(h:DQ K r g)(ha:ME K O t fa):MN K O (mH r (kN t gv)) (hZ g fa):=λZ J H R M d M' Q S e k=>by let⟨x,M1,e1,e⟩:=b9 e;obtain⟨e2,rfl⟩:=c9 e;refine ha Z J H R M x _ _ S e1 λv H1 R1 S1 st1 r1=>?_;refine h H1 R1 v x d Q S1.sub r1 e2 λl vs hl rv=>?_;have y:=Ext.hid (o:=.lst vs) S1.sub hl;exact k l vs _ _ (S1.ext y) (st1.trans y.stp) (st1.new hl) cT (S1.out hl) rv
noncomputable def dE:D->Option (List D)
 |.lst xs=>some xs
 |.tup xs=>some xs
 |_=>none
def tR:DQ K (λxs H Q=>∃p ys,xs=[.ref p]/\(SqL K H p ys∨SqT K H p ys)/\∀l,H l=none->Q (.ref l) (aT H l (.lst ys))) dE:=λH R x d us Q s r e k=>by
 (first|split at e|(unfold dE at e;split at e))
 .obtain⟨_,_,rfl,h,q⟩:=r.isL;cases e;exact⟨_,_,rfl,.inl (Same.sqL s h),λl hl=>k l _ hl q⟩
 .obtain⟨_,_,rfl,h,q⟩:=r.isT;cases e;exact⟨_,_,rfl,.inr (SqT.of (s _ _ h)),λl hl=>k l _ hl q⟩
 .cases e
noncomputable def mz:D->Option D
 |.lst xs=>some (.tup xs)
 |.tup xs=>some (.tup xs)
 |_=>none
def qx:DP K (λxs H Q=>∃p ys,xs=[.ref p]/\((SqL K H p ys/\∀l,H l=none->Q (.ref l) (aT H l (.tup ys)))∨(SqT K H p ys/\Q (.ref p) H))) mz:=λH R x d u Q s r e k=>by
 cases r with
 | lst h q=>
  cases e;refine⟨_,_,rfl,.inl ⟨Same.sqL s h,λl hl=>?_⟩⟩;rename_i a xs ds;have y:=Ext.new (o:=.tup xs) s hl;exact k _ _ _ y (.tup cT (q.mono y.r))
 |tup h q=>cases e;exact⟨_,_,rfl,.inr ⟨SqT.of (s _ _ h),k _ H R (Ext.refl s) (.tup h q)⟩⟩
 |_=>cases e
def MO(K:aq)(O:Zg)(t:TO)(f:aA->Option (Option Int×aA)):Prop:=∀(Z:Anc) (J:St) (H R:Hp) (M:aA) (o:Option Int) (M':aA) (Q:Option Int->Hp->Prop),StR K Z O J H R M->f M=some (o,M')->(∀H' R',StR K Z O J H' R' M'->Stp O J H R H' R'->Q o H')->t J H Q
def tY:MO K O yy (ae none):=λZ J H R M o M' Q S e k=>by cases e;exact k H R S (Stp.refl _ _ _ _)
def kt(f:aN):aA->Option (Option Int×aA):=cj f λd=>dn (match d with
 |.int i=>some (some i)
 |_=>none)
def tZ(h:ME K O t fa):MO K O (vZ t) (kt fa):=λZ J H R M o M' Q S e k=>by
 let⟨x,M1,e1,e⟩:=b9 e;obtain⟨e2,rfl⟩:=c9 e;refine h Z J H R M x _ _ S e1 λv H1 R1 S1 st1 r1=>?_
 (first|split at e2)
 .rename_i i;obtain rfl:=r1.isA rfl;cases e2;exact⟨i,rfl,k H1 R1 S1 st1⟩
 .cases e2
def de(xs:List D)(lo hi:Option Int):List D:=(xs.drop (HT.sIx xs.length 0 lo)).take (HT.sIx xs.length xs.length hi-HT.sIx xs.length 0 lo)
def Rps.cut{R:Hp}{xs:List V}{ds:List D}(r:Rps K R xs ds)(lo hi:Option Int):Rps K R (fj xs lo hi) (de ds lo hi):=by unfold fj de;rw[r.length];exact(r.drop _).take _
def nO(K:aq):V->Option Int->Option Int->Hp->VK->Prop:=λx lo hi H Q=>rg K x lo hi H Q∨re K x lo hi H Q
def m4{X:Cx}(h:X.K=K):SlR X (nO K):=by subst h;exact sl_list.or qso
def gU(d:D)(lo hi:Option Int):Option D:=match d with
 |.lst xs=>some (.lst (de xs lo hi))
 |.tup xs=>if HT.sIx xs.length 0 lo=0/\HT.sIx xs.length xs.length hi=xs.length then none else some (.tup (de xs lo hi))
 |_=>none
def lE(f:aN)(fl fh:aA->Option (Option Int×aA)):aN:=cj f λd=>cj fl λlo=>cj fh λhi=>dn (gU d lo hi)
def ud{tl th:TO}{fl fh:aA->Option (Option Int×aA)}(h:ME K O t fa)(hl:MO K O tl fl)(hh:MO K O th fh):ME K O (vH (nO K) t tl th) (lE fa fl fh):=λZ J H R M d M' Q S e k=>by
 let⟨x,M1,e1,e⟩:=b9 e;let⟨lo,M2,e2,e⟩:=b9 e;let⟨hi,M3,e3,e⟩:=b9 e;obtain⟨e4,rfl⟩:=c9 e;refine h Z J H R M x _ _ S e1 λv H1 R1 S1 st1 r1=>hl Z J H1 R1 M1 lo _ _ S1 e2 λH2 R2 S2 st2=>hh Z J H2 R2 M2 hi _ _ S2 e3 λH3 R3 S3 st3=>?_;have r3:=(r1.mono st2.r).mono st3.r;have st:=(st1.trans st2).trans st3;cases r3 with
 | @lst a xs ds q r=>
  cases e4;refine .inl ⟨a,xs,rfl,Same.sqL S3.same q,λp np=>?_⟩;have y:=Ext.new (o:=.lst (fj xs lo hi)) S3.sub np;exact k _ _ _ (S3.ext y) (st.trans y.stp) (.lst (SqL.of cT) ((r.cut lo hi).mono y.r))
 | @tup a xs ds q r=>
  have e5:(if HT.sIx ds.length 0 lo=0/\HT.sIx ds.length ds.length hi=ds.length then none else some (D.tup (de ds lo hi)))=some d:=e4;split at e5
  .cases e5
  .rename_i hn;cases e5;refine .inr ⟨a,xs,rfl,SqT.of (S3.same _ _ q),by rw[r.length];exact hn,λp np=>?_⟩;have y:=Ext.new (o:=.tup (fj xs lo hi)) S3.sub np;exact k _ _ _ (S3.ext y) (st.trans y.stp) (.tup cT ((r.cut lo hi).mono y.r))
 |_=>cases e4
def t8(g g':D->D->Option D)(fa fb fc:aN):aN:=cj fa λx=>cj fb λy=>cj (bh (dn (g x y))) λb=>if b=true then cj fc λz=>dn (g' y z)else ae (.bl false)
def qlf{r r':R2}{g g':D->D->Option D}(h:OpS K r g)(h':OpS K r' g')(ha:ME K O ta fa)(hb:ME K O tb fb)(hc:ME K O tc fc):ME K O (FN r r' ta tb tc) (t8 g g' fa fb fc):=λZ J H R M d M' Q S e k=>by
 let⟨x,M1,e1,e⟩:=b9 e;let⟨y,M2,e2,e⟩:=b9 e;let⟨b,M3,e3,e⟩:=b9 e;let⟨u,M4,f3,e4⟩:=b9 e3;obtain⟨g3,rfl⟩:=c9 f3;obtain⟨g4,rfl⟩:=c9 e4;refine ha Z J H R M x _ _ S e1 λv H1 R1 S1 st1 r1=>hb Z J H1 R1 M1 y _ _ S1 e2 λw H2 R2 S2 st2 r2=>?_;refine h H2 v w x y u _ ((r1.mono st2.r).mono S2.same) (r2.mono S2.same) g3 λz q=>?_;cases q with
 | bl c=>
  cases g4;refine⟨_,rfl,?_⟩;cases b with
  | true=>
   let⟨z,M5,e5,f⟩:=b9 e;obtain⟨e6,rfl⟩:=c9 f;refine fS (hc Z J H2 R2 _ z _ _ S2 e5 λw' H3 R3 S3 st3 r3=>?_);exact h' H3 w w' y z d Q ((r2.mono st3.r).mono S3.same) (r3.mono S3.same) e6 λv' q'=>k v' H3 R3 S3 ((st1.trans st2).trans st3) q'.rp
  |false=>cases e;exact fT (k _ H2 R2 S2 (st1.trans st2) (.bl false))
 |_=>cases g4
def sQ{g:Int->Int->Bool}:OpS K (gK λi j=>.bl (g i j)) (pz g):=λH x y d e u Q rx ry q k=>by
 unfold pz at q;split at q
 .rename_i i j
  (first|obtain rfl:=q.isA rfl|cases q)
  (first|obtain rfl:=rx.isA rfl|cases rx)
  (first|obtain rfl:=ry.isA rfl|cases ry)
  exact⟨i,j,rfl,rfl,k _ (.bl _)⟩
 ·(first|obtain rfl:=q.isA rfl|cases q)
def qy7(f:ba):aN:=cj f λds=>dn (match ds with
 |[.int i,.int j]=>if 0<j/\j<1073741824 then some (.tup [.int (i / j),.int (i % j)])else none
 |_=>none)
def iH(g:Int->Int->Int)(f:ba):aN:=cj f λds=>dn (match ds with
 |[.int i,.int j]=>some (.int (g i j))
 |_=>none)
def sN{g:Int->Int->Int}(h:MA K O tr fs):ME K O (mH (λxs H Q=>∃i j,xs=[.int i,.int j]/\Q (.int (g i j)) H) tr) (iH g fs):=λZ J H R M d M' Q S e k=>by
 let⟨xs,M1,e1,e⟩:=b9 e;obtain⟨e2,rfl⟩:=c9 e;refine h Z J H R M xs _ _ S e1 λvs H1 R1 S1 st1 r1=>?_;split at e2
 .rename_i i j;cases e2;obtain⟨_,_,rfl,q,r⟩:=r1.isC
  (first|obtain rfl:=q.isA rfl|cases q)
  cases r with
  | cons q r=>
   (first|obtain rfl:=q.isA rfl|cases q)
   (first|obtain rfl:=r.isA rfl|cases r)
   exact⟨i,j,rfl,k _ H1 R1 S1 st1 (.int _)⟩
 .cases e2
def D1(K:aq)(ta:TA):TI:=λJ H R=>(iT K true true ta J H R∨iT K true false ta J H R)∨(iT K false true ta J H R∨iT K false false ta J H R)
def o7{X:Cx}{a b:Expr}{ta:TA}{p pos:Pos}{zm:Zi}{x1:Nat}{tp:Pos}(hK:X.K=K)(hg:Gl X "zip")(hm:X.mg "zip"=none)(ha:PA X [a,b] ta)(he:starEach [a,b] X.env=(false,eval a X.env)::starEach [b] X.env:=by rfl)(hpl:(backTo pos (starEach [b] X.env)).any (·.1)=false:=by rfl):
 PI X (.Tuple zm x1 tp) (.Call (.Name "zip" p) [a,b] [] pos) (D1 K ta):=λz5 s J H R I q=>by
 rcases q with(q|q)|(q|q)
 .exact tK true true hK hg hm ha he hpl z5 s J H R I q
 .exact tK true false hK hg hm ha he hpl z5 s J H R I q
 .exact tK false true hK hg hm ha he hpl z5 s J H R I q
 .exact tK false false hK hg hm ha he hpl z5 s J H R I q
noncomputable def cU(xs ys:List D):List D:=List.zipWith (λx y=>D.tup [x,y]) xs ys
def fD(f:ba):ba:=cj f λds=>dn (match ds with
 | [x,y]=>match dE x,dE y with
  |some xs,some ys=>some (cU xs ys)
  |_,_=>none
 |_=>none)
def SqB.inj_same{K:aq}{b:Bool}{R H:Hp}{p:Addr}{xs:List V}(s:Same R H)(h:SqB K b R p xs):SqB K b H p xs:=by
 cases b
 .exact Same.tup s h
 .exact Same.sqL s h
def qvv{R:Hp}{b1 b2:Bool}{p1 p2:Addr}{xs ys:List V}{ds es:List D}(h1:SqB K b1 R p1 xs)(h2:SqB K b2 R p2 ys)(r1:Rps K R xs ds)(r2:Rps K R ys es):ItOk K (zO K b1 b2 p1 p2) R (cU ds es):=λH' R' s b i=>by
 have q1:=(SqB.inj_same s h1);have q2:=(SqB.inj_same s h2);have g1:=(SqB.inj_same b q1);have g2:=(SqB.inj_same b q2);have len:(cU ds es).length=min ds.length es.length:=by simp[cU]
 have l1:=r1.length;have l2:=r2.length;refine⟨λe=>⟨xs,ys,g1,g2,by omega⟩,λd e=>?_⟩;unfold cU at e;rw[List.getElem?_zipWith]at e;cases e1:ds[i]? with
 |none=>rw[e1]at e;cases e
 | some d1=>
  cases e2:es[i]? with
  |none=>rw[e1,e2]at e;cases e
  | some d2=>
   rw[e1,e2]at e;cases e;let⟨v1,a1,a2⟩:=r1.get e1;let⟨v2,c1,c2⟩:=r2.get e2;refine⟨⟨xs,ys,v1,v2,g1,g2,a1,c1⟩,λx H'' y=>?_⟩;obtain⟨T,x1,y1,rfl,hT,rfl,z1,z2⟩:=y;have w1:=z1 xs g1;have w2:=z2 ys g2;rw[a1]at w1;rw[c1]at w2;cases w1;cases w2;have y:=Ext.new (o:=.tup [v1,v2]) b hT;exact⟨_,y,.tup cT (.cons ((a2.mono s).mono y.r) (.cons ((c2.mono s).mono y.r) .nil))⟩
def HB{x:D}{ds:List D}(h:dE x=some ds):x=.lst ds∨x=.tup ds:=by
 unfold dE at h;split at h
 .cases h;exact .inl rfl
 .cases h;exact .inr rfl
 ·(first|obtain rfl:=h.isA rfl|cases h)
def oX(h:MA K O tr fs):MI K O (D1 K tr) (fD fs):=λZ J H R M ds M' Q S e k=>by
 let⟨xs,M1,e1,e⟩:=b9 e;obtain⟨e2,rfl⟩:=c9 e;have go:∀(b1 b2:Bool) (x y:D) (as bs:List D),xs=[x,y]->ds=cU as bs->(∀(R1:Hp) (v:V),Rp K R1 v x->∃p vs,v=.ref p/\SqB K b1 R1 p vs/\Rps K R1 vs as)->(∀(R1:Hp) (v:V),Rp K R1 v y->∃p vs,v=.ref p/\SqB K b2 R1 p vs/\Rps K R1 vs bs)->iT K b1 b2 tr J H Q:=λb1 b2 x y as bs hx hd g1 g2=>by
  subst hx hd;refine h Z J H R M _ _ _ S e1 λvs H1 R1 S1 st1 r1=>?_;obtain⟨_,_,rfl,q,r⟩:=r1.isC;obtain⟨_,_,rfl,q',r⟩:=r.isC
  (first|obtain rfl:=r.isA rfl|cases r)
  obtain⟨p1,us,rfl,s1,t1⟩:=g1 _ _ q;obtain⟨p2,ws,rfl,s2,t2⟩:=g2 _ _ q';exact⟨p1,p2,rfl,⟨us,SqB.inj_same S1.same s1⟩,⟨ws,SqB.inj_same S1.same s2⟩,k _ H1 R1 S1 st1 (qvv s1 s2 t1 t2)⟩
 have gl:∀(as:List D) (R1:Hp) (v:V),Rp K R1 v (.lst as)->∃p vs,v=.ref p/\SqB K true R1 p vs/\Rps K R1 vs as:=λas R1 v r=>by obtain⟨_,_,rfl,h,q⟩:=r.isL;exact⟨_,_,rfl,h,q⟩
 have gt:∀(as:List D) (R1:Hp) (v:V),Rp K R1 v (.tup as)->∃p vs,v=.ref p/\SqB K false R1 p vs/\Rps K R1 vs as:=λas R1 v r=>by obtain⟨_,_,rfl,h,q⟩:=r.isT;exact⟨_,_,rfl,SqT.of h,q⟩
 split at e2
 .rename_i x y;split at e2
  .rename_i as bs h1 h2;cases e2;rcases HB h1 with rfl|rfl<;>rcases HB h2 with rfl|rfl
   .exact .inl (.inl (go true true _ _ as bs rfl rfl (gl as) (gl bs)))
   .exact .inl (.inr (go true false _ _ as bs rfl rfl (gl as) (gt bs)))
   .exact .inr (.inl (go false true _ _ as bs rfl rfl (gt as) (gl bs)))
   .exact .inr (.inr (go false false _ _ as bs rfl rfl (gt as) (gt bs)))
  .cases e2
 .cases e2
end
inductive TyO(K:aq)(H:Hp):V->Value->Prop where
 |of {x:V} {t:Value} (h:TyOf K H x t):TyO K H x t
 |sl {a:Addr} {xs:List V} (h:SqL K H a xs):TyO K H (.ref a) (.type "list")
 |st {a:Addr} {xs:List V} (h:SqT K H a xs):TyO K H (.ref a) (.type "tuple")
def rE(K:aq):List V->Hp->VK->Prop:=λxs H Q=>∃x y t c b,xs=[x,y]/\rW y=some c/\TyO K H x t/\PySem.W.kitOne K t c=some b/\Q (.bl b) H
section
variable{X:Cx}{K:aq}{O:Zg}{t:TE}{fa:aN}
def qw(hK:X.K=K):gf X (.builtin "isinstance") (rE K):=by
 subst hK;intro z5 s J H xs us Q I r h;obtain⟨x,y,t,c,b,rfl,hc,ty,e,q⟩:=h;cases ty with
 |of h=>exact qmg rfl z5 s J H [x,y] us Q I r ⟨x,y,t,c,b,rfl,hc,h,e,q⟩
 | sl h=>
  obtain⟨u,w,rfl,ru,rw'⟩:=fJ r
  (first|obtain rfl:=ru.isA rfl|cases ru)
  have ew:w=c:=by
   cases y with
   |ref a=>exact(show w=Value.ref a from rw').trans (jg hc)
   |ty n=>exact(show w=Value.type n from rw').trans (jg hc)
   |_=>cases hc
  subst ew;let⟨its,rv,pl,_⟩:=I.list h;obtain⟨o,e1,c1,_⟩:=pl.isList;exact PySem.W.kia_one PySem.W.kitx_list I.kIn ⟨o,e1,c1⟩ e (λz=>nomatch z) λtk=>⟨.bl b,H,I.tok tk,rfl,q⟩
 | st h=>
  obtain⟨u,w,rfl,ru,rw'⟩:=fJ r
  (first|obtain rfl:=ru.isA rfl|cases ru)
  have ew:w=c:=by
   cases y with
   |ref a=>exact(show w=Value.ref a from rw').trans (jg hc)
   |ty n=>exact(show w=Value.type n from rw').trans (jg hc)
   |_=>cases hc
  subst ew;let⟨its,rv,pl,_⟩:=I.tuple h;obtain⟨o,e1,c1,_⟩:=pl;exact PySem.W.kia_one PySem.W.kitx_tuple I.kIn ⟨o,e1,c1⟩ e (λz=>nomatch z) λtk=>⟨.bl b,H,I.tok tk,rfl,q⟩
noncomputable def sB:D->Option String
 |.non=>some "NoneType"
 |.bl _=>some "bool"
 |.int _=>some "int"
 |.str _=>some "str"
 |.lst _=>some "list"
 |.tup _=>some "tuple"
 |.dct _=>some "dict"
 |.exc _=>none
 |.fn _=>none
 |.tab _ _ _=>none
 |.dit _=>some "dict"
 |.obj _ _=>none
def qs8{H:Hp}{v:V}{d:D}{n:String}(r:Rp K H v d)(e:sB d=some n):TyO K H v (.type n):=by
 cases r with
 |non=>cases e;exact .of .non
 |bl b=>cases e;exact .of (.bl b)
 |int i=>cases e;exact .of (.int i)
 |str x=>cases e;exact .of (.str x)
 |lst h _=>cases e;exact .sl h
 |tup h _=>cases e;exact .st (SqT.of h)
 |dct h _=>cases e;exact .of (.dK h)
 |dit h _=>cases e;exact .of (.dT h)
 |obj _ _=>cases e
 |exc _ _ _=>cases e
 |fn _=>cases e
 |tab _=>cases e
def fE(K:aq)(Y:String)(f:String->Option Bool):Prop:=∀s b,f s=some b->PySem.W.kitOne K (.type s) (.type Y)=some b
noncomputable def gN(Y:String):String->Option Bool:=λs=>
 if s="NoneType" then some (decide (Y="NoneType"))else if s="bool" then some (decide (Y="bool")||decide (Y="int"))else if s="int" then some (decide (Y="int"))else if s="str" then some (decide (Y="str"))
 else if s="list" then some (decide (Y="list"))else if s="tuple" then some (decide (Y="tuple"))else if s="dict" then some (decide (Y="dict"))else none
def q9j{Y:String}(h1:PySem.W.kitOne K (.type "NoneType") (.type Y)=some (decide (Y="NoneType")))(h2:PySem.W.kitOne K (.type "bool") (.type Y)=some (decide (Y="bool")||decide (Y="int")))(h3:PySem.W.kitOne K (.type "int") (.type Y)=some (decide (Y="int")))
 (h4:PySem.W.kitOne K (.type "str") (.type Y)=some (decide (Y="str"))) (h5:PySem.W.kitOne K (.type "list") (.type Y)=some (decide (Y="list"))) (h6:PySem.W.kitOne K (.type "tuple") (.type Y)=some (decide (Y="tuple"))) (h7:PySem.W.kitOne K (.type "dict") (.type Y)=some (decide (Y="dict"))):fE K Y (gN Y):=λs b e=>by
 unfold gN at e;split at e
 .rename_i z;subst z;rw[<-e];exact h1
 split at e
 .rename_i z;subst z;rw[<-e];exact h2
 split at e
 .rename_i z;subst z;rw[<-e];exact h3
 split at e
 .rename_i z;subst z;rw[<-e];exact h4
 split at e
 .rename_i z;subst z;rw[<-e];exact h5
 split at e
 .rename_i z;subst z;rw[<-e];exact h6
 split at e
 .rename_i z;subst z;rw[<-e];exact h7
 .cases e
def hU(f:String->Option Bool)(d:D):Option D:=match sB d with
 |some s=>(f s).map .bl
 |none=>none
def qg{Y:String}{f:String->Option Bool}(hk:fE K Y f)(ha:MB K O t fa):ME K O (mH (rE K) (kN t (kN (tC (.ty Y)) gv))) (aK (hU f) fa):=λZ J H R M d M' Q S e k=>by
 let⟨x,M1,e1,e⟩:=b9 e;obtain⟨e2,rfl⟩:=c9 e;refine ha Z J H R M x _ _ S e1 λv H1 R1 S1 st1 r1=>?_;unfold hU at e2;cases e3:sB x with
 |none=>rw[e3]at e2;cases e2
 | some s=>
  rw[e3]at e2;dsimp only at e2;cases e4:f s with
  |none=>rw[e4]at e2;cases e2
  | some b=>
   rw[e4]at e2;cases e2;exact⟨v,.ty Y,.type s,.type Y,b,rfl,rfl,qs8 r1 e3,hk s b e4,k _ H1 R1 S1 st1 (.bl b)⟩
end
def br(f:ba):aN:=cj f λds=>ae (D.lst ds)
section
variable{K:aq}{O O1 O':Zg}{t:TE}{c:MC}{u:TS}{f:aD}{fn:ba}
def dD(h:MN K O t fn):ME K O t (br fn):=h.me
def mY(h:MS c O O1 u f)(hs:cV c O1 O'=true):MS c O O' u f:=λZ E J H R M o hP S e k=>by
 refine h Z E J H R M o hP S e ?_;cases o with
 | nx M'=>
  intro J' H' R' S' s';let⟨S2,s2⟩:=S'.sub' hP hs;exact k J' H' _ S2 (s'.trans s2)
 |bk M'=>exact k
 |ct M'=>exact k
 |rt d M'=>exact k
def o6{k n:Nat}{js:Zg}{wi:TI}{g:TG}{tt:TT}{te:TE}(he:MN c.K O (p7 n js wi g tt te) fn)(hs:cV c O O'=true)(hi:k∉O'):MS c O O' (sS k n js wi g tt te) (aw k (br fn)):=
 show MS c O O' (fB (p7 n js wi g tt te) (gE k)) (aw k (br fn))from bX (dD he) hs hi
noncomputable def mN(fe:aN):aD:=λM=>match fe M with
 |none=>none
 |some (_,M1)=>some (.nx M1)
def Gn{fe:aN}(he:ME c.K O t fe)(hs:cV c O O'=true):MS c O O' (p8 t) (mN fe):=λZ E J H R M o hP S e k=>by
 unfold mN at e;cases e1:fe M with
 |none=>rw[e1]at e;cases e
 | some p=>
  obtain⟨d,M1⟩:=p;rw[e1]at e;cases e;refine he Z J H R M d M1 _ S e1 λv H1 R1 S1 st1 r1=>?_;let⟨S2,s2⟩:=S1.sub' hP hs;exact k J H1 _ S2 (st1.r.trans s2)
end
noncomputable def vT(i j:Int):Bool:=(decide (-(2^64)<i)&&decide (i<2^64))||(decide (-(2^64)<j)&&decide (j<2^64))
noncomputable def vS(_ j:Int):Bool:=decide (0<j)&&decide (j<1073741824)
noncomputable def D8(_ j:Int):Bool:=decide (0<j)
noncomputable def mh(i j:Int):Bool:=decide (0<=j)&&decide (j<=1000000)&&decide (i.natAbs<2^64)
abbrev gB:D->D->Option D:=kF vS λi j=>i / j
abbrev b7:D->D->Option D:=kF D8 λi j=>i % j
abbrev nX:D->D->Option D:=kF mh λi j=>i^j.toNat
abbrev bQ:D->D->Option D:=kF mh λi j=>i*2^j.toNat
abbrev iV:D->D->Option D:=px λi j=>i-j
abbrev nY:D->D->Option D:=px λi j=>Builtin.bitAnd i j
abbrev rV:D->D->Option D:=px λi j=>Builtin.bitXor i j
abbrev uA:D->D->Option D:=pz λi j=>decide (i<j)
abbrev IM:D->D->Option D:=pz λi j=>decide (i<=j)
abbrev uB:D->D->Option D:=pz λi j=>decide (j<i)
section
variable{K:aq}
def Fb:gX K (rI rX λi j=>.int (i / j)) gB:=lP λi j h=>by unfold vS at h;simp only[Bool.and_eq_true,decide_eq_true_eq]at h;exact h
def oY:gX K (rI (λ_ j=>0<j) λi j=>.int (i % j)) b7:=lP λi j h=>of_decide_eq_true h
def qv2:gX K (rI lZ λi j=>.int (i^j.toNat)) nX:=lP λi j h=>by unfold mh at h;simp only[Bool.and_eq_true,decide_eq_true_eq]at h;exact⟨h.1.1,h.1.2,h.2⟩
def qh:gX K (rI lZ λi j=>.int (i*2^j.toNat)) bQ:=lP λi j h=>by unfold mh at h;simp only[Bool.and_eq_true,decide_eq_true_eq]at h;exact⟨h.1.1,h.1.2,h.2⟩
def Fc:gX K (gK λi j=>.int (i-j)) iV:=vV
def qv3:gX K (gK λi j=>.int (Builtin.bitAnd i j)) nY:=vV
def qv1:gX K (gK λi j=>.int (Builtin.bitXor i j)) rV:=vV
end
section
variable{K:aq}{O O':Zg}{t ta tb:TE}{fa fb:aN}{fn:ba}{c:MC}
noncomputable def iW:D->Option D
 |.int i=>some (.int (-i))
 |_=>none
def wK(h:ME K O t fa):ME K O (DK (rU λi=>.int (-i)) t) (aK iW fa):=λZ J H R M d M' Q S e k=>by
 let⟨x,M1,e1,e⟩:=b9 e;obtain⟨e2,rfl⟩:=c9 e;refine h Z J H R M x _ _ S e1 λv H1 R1 S1 st1 r1=>?_
 (first|split at e2|(unfold iW at e2;split at e2))
 .rename_i i;obtain rfl:=r1.isA rfl;cases e2;exact⟨i,rfl,k _ H1 R1 S1 st1 (.int _)⟩
 .cases e2
def dAny:D->Option D
 |.lst xs=>(jF xs).map λbs=>.bl (bs.any id)
 |_=>none
def iN(i:Nat)(fn:ba):aD:=λM=>if isL M i=true then(match fn M with
 |none=>none
 | some (ys,M1)=>match M1[i]? with
  |some (some (.lst xs))=>if xs.length+ys.length<=sizeLine then some (.nx (M1.set i (some (.lst (xs++ys)))))else none
  |_=>none)else none
def qvb{i:Nat}(hi:i∈O)(ha:MN c.K O ta fn)(hs:cV c O O'=true):MS c O O' (p8 (sF c.K "list" Gy (dL i) (kN ta gv))) (iN i fn):=λZ E J H R M o hP S e k=>by
 unfold iN at e;split at e
 case isFalse=>cases e
 rename_i hL;cases e1:fn M with
 |none=>rw[e1]at e;cases e
 | some p=>
  obtain⟨ys,M1⟩:=p;rw[e1]at e;dsimp only at e;let⟨l,vs,ds,h1,h2,h3,h4,h5⟩:=S.own i hi;obtain⟨us,_,rfl,rfl,_⟩:=E5 hL h1 h5;refine⟨.ref l,h2,.inl ⟨rfl,us,SqL.of h3⟩,ha Z J H R M ys M1 _ S e1 λb zs H1 R1 S1 st1 b0 bH bR r1=>?_⟩;let⟨l',vs',ds',g1,g2,g3,g4,g5⟩:=S1.own i hi;rw[h2]at g2;cases g2;rw[g1]at e;cases g5 with
  |dct _=>cases e
  |dit _=>cases e
  |lst g5=>
  rename_i vs' ds';dsimp only at e;split at e
  .rename_i hz;cases e;refine⟨l,b,vs',zs,rfl,rfl,g3,bH,by rw[g5.length,r1.length];exact hz,?_⟩;let⟨S2,s2⟩:=(S1.write hi h2 (.lst (g5.append r1))).sub' hP hs;exact k J _ _ S2 (st1.r.trans s2)
  .cases e
def eE(fn:ba)(fb:aN):ba:=cj fn λxs=>cj fb λy=>dn (match y with
 |.int k=>if -(2^63)<=k/\k<2^63/\xs.length*k.toNat<=sizeLine then some (List.replicate k.toNat xs).flatten else none
 |_=>none)
theorem Rps.rep{R:Hp}{xs:List V}{ds:List D}(r:Rps K R xs ds):∀k:Nat,Rps K R (List.replicate k xs).flatten (List.replicate k ds).flatten
 |0=>.nil
 | k+1=>by rw[List.replicate_succ,List.replicate_succ,List.flatten_cons,List.flatten_cons];exact r.append (Rps.rep r k)
def wL(ha:MN K O ta fn)(hb:ME K O tb fb):MN K O (jU rh ta tb) (eE fn fb):=λZ J H R M d M' Q S e k=>by
 let⟨xs,M1,e1,e⟩:=b9 e;let⟨y,M2,e2,e⟩:=b9 e;obtain⟨e3,rfl⟩:=c9 e;refine ha Z J H R M xs M1 _ S e1 λl vs H1 R1 S1 st1 h0 hH hR r1=>hb Z J H1 R1 M1 y _ _ S1 e2 λw H2 R2 S2 st2 r2=>?_
 (first|split at e3)
 .rename_i j;obtain rfl:=r2.isA rfl;have e4:(if -(2^63)<=j/\j<2^63/\xs.length*j.toNat<=sizeLine then some (List.replicate j.toNat xs).flatten else none)=some d:=e3;split at e4
  .rename_i hz;cases e4;refine⟨l,j,vs,rfl,rfl,st2.h l _ hH (λi hi=>S.notnew h0 i hi),hz.1,hz.2.1,by rw[r1.length];exact hz.2.2,λp np=>?_⟩;have y:=Ext.hid (o:=.lst (List.replicate j.toNat vs).flatten) S2.sub np;exact k p _ _ _ (S2.ext y) ((st1.trans st2).trans y.stp) ((st1.trans st2).new np) cT (S2.out np) ((r1.mono st2.r).rep _)
  .cases e4
 .cases e3
end
section
variable{ρ:Model}{A:Around}{E:Z0}{s:Shared}
end
section
variable{X:Cx}{K:aq}
end
section
variable{c:MC}{O O':Zg}{te:TE}{fn:ba}
end
theorem dN{α:Type}(a:Array α):∀(k:Nat) (acc:Array α),(List.foldl (λx1 x2=>x1++x2) acc (List.replicate k a)).size=acc.size+k*a.size
 |0,acc=>by simp
 | k+1,acc=>by rw[List.replicate_succ,List.foldl_cons,dN a k,Array.size_append,Nat.succ_mul];omega
def q6z:fillsNumberSlot (.type "tuple") "mul"=pure false:=
 PySem.fillsNumberSlot_seq (id:="tuple.__mul__") (r:=some (.builtin "tuple.__rmul__")) F.slot_tuple_mul.lookup (by decide+kernel) F.slot_tuple_rmul.lookup (by decide+kernel)
def qaj:seqRepeat? (.type "tuple")=pure (some (.builtin "tuple.__mul__")):=by unfold seqRepeat?;rw[PySem.seqSlot_of (T:="tuple") (name:="__mul__") (id:="tuple.__mul__") F.slot_tuple_mul.lookup (by decide+kernel),PySem.seqSlot_of (T:="tuple") (name:="__rmul__") (id:="tuple.__rmul__") F.slot_tuple_rmul.lookup (by decide+kernel)];rfl
def q8b(a:Int)(t:Tok)(l:Addr)(items:Zd)(n:Nat)(dd:Zc)(sl:Array (Option Value)):
 Meets (Builtin.«int.__rmul__» ⟨[.int a t,.ref l],[]⟩) (λ_ R s=>s.heap.get? l=some {cls:=.type "tuple",dict:=dd,data:=.seq items n,slots:=sl}/\R (.ok (.ret Value.notImplemented)) s):=
 .of_wp λprog w A R s h=>by obtain⟨hp,g,d,tk,os⟩:=s;obtain⟨hl,h⟩:=h;wp_walk;exact⟨_,rfl,h⟩
def qea(l:Addr)(items:Zd)(n:Nat)(dd:Zc)(sl:Array (Option Value))(x:Int)(u:Tok)(h1:1<x)(h2:x<=1000)(he:items.isEmpty=false)(hz:items.size<=1000):
 Meets (Builtin.«tuple.__mul__» ⟨[.ref l,.int x u],[]⟩) (λ_ R s=>s.heap.get? l=some {cls:=.type "tuple",dict:=dd,data:=.seq items n,slots:=sl}/\R (.ok (.ret (Value.ref s.heap.objs.size))) {s with heap:=s.heap.push {cls:=Value.type "tuple",data:=Data.seq (List.foldl (λx1 x2=>x1++x2) #[] (List.replicate x.toNat items))},toks:=s.toks}):=
 .of_wp λprog w A R s h=>by
  obtain⟨hp,g,d,tk,os⟩:=s;obtain⟨hl,h⟩:=h;have f1:=AutoSeq1.idx_int;have f2:=AutoSeq1.sub_tuple_tuple;have hc0:¬(decide (x< -2^63)||decide (x≥2^63))=true:=by simp only[Bool.or_eq_true,decide_eq_true_eq];omega
  have hc1:¬(items.isEmpty||x==1)=true:=by rw[he,Bool.false_or];simp;omega
  have hc2:¬(decide (x<=0)||items.isEmpty)=true:=by rw[he,Bool.or_false];simp;omega
  have hm:(items.size:Int)*x<=1000*1000:=Int.le_trans (Int.mul_le_mul_of_nonneg_left h2 (Int.natCast_nonneg _)) (Int.mul_le_mul_of_nonneg_right (by omega) (by decide));have hc3:¬(items.size:Int)*x>(2^63-1) / 8:=by omega
  have hc4:¬Builtin.Tuple.tupleTooMany ((items.size:Int)*x)=true:=by
   unfold Builtin.Tuple.tupleTooMany;have:(sizeLine:Int)≥1000*1000:=by decide
   simp;omega
  wp_walk using kn hl
  rw[if_neg hc0]
  wp_walk using kn hl
  rw[if_neg hc1];rw[if_neg hc2];rw[if_neg hc3];rw[if_neg hc4]
  wp_walk using kn hl
  have hc5:¬(List.foldl (λx1 x2=>x1++x2) #[] (List.replicate x.toNat items)).size>sizeLine:=by
   rw[dN];have h7:x.toNat*items.size<=1000*1000:=Nat.mul_le_mul (by omega) hz;have h8:(sizeLine:Nat)≥1000*1000:=by decide
   simp;omega
  rw[if_neg hc5]
  wp_walk using kn hl
  exact⟨_,rfl,h⟩
def Eo(K:aq):R2:=λx y H Q=>∃l k xs,x=.ref l/\y=.int k/\SqT K H l xs/\1<k/\k<=1000/\xs≠[]/\xs.length<=1000/\∀p,H p=none->Q (.ref p) (aT H p (.tup (List.replicate k.toNat xs).flatten))
section
variable{X:Cx}{K:aq}
def qpi(hK:X.K=K):OpR X (binaryOp .Mult) (Eo K):=by
 subst hK;intro z5 s J H x y v u Q I rx ry h;obtain⟨l,k,xs,rfl,rfl,hH,h1,h2,hx,hz,q⟩:=h
 (first|obtain rfl:=rx.isA rfl|cases rx)
 obtain⟨t,rfl⟩:=ry;let⟨its,r1,p1,_⟩:=I.tuple hH;let⟨⟨cls,dd,data,sl⟩,ho,hc,n,hd⟩:=id p1;simp only at hc hd;subst hc hd;have zc:=r1.length;have he:its.toArray.isEmpty=false:=by
  cases its with
  |nil=>exact absurd (r1.nil_iff.mp rfl) hx
  |cons a r=>rfl
 have f0:List.foldl (λx1 x2=>x1++x2) #[] (List.replicate k.toNat its.toArray)=(List.replicate k.toNat its).flatten.toArray:=by have:=eH its k.toNat [];rw[List.nil_append]at this;exact this
 refine wpAny_binaryOp_repeat_ref (T:="tuple") (U:="int") (by decide) ⟨_,ho,rfl⟩ (λs'=>typeIs_int s' k t) q6z F.fills_int_mul F.slot_int_rmul qaj F.slot_int_index.lookup
  (call_meets F.slot_int_rmul (typeIs_int s k t) F.entry_int_rmul (F.args_int_rmul_2 _ _) (q8b k t l its.toArray n dd sl)
    ⟨ho,rfl,⟨_,ho,rfl⟩,call_meets F.slot_tuple_mul ⟨_,ho,rfl⟩ F.entry_tuple_mul (F.args_tuple_mul_2 _ _) (qea l its.toArray n dd sl k t h1 h2 he (by rw[jx];omega)) ⟨ho,?_⟩⟩)
 rw[f0];have hsz:(List.replicate k.toNat xs).flatten.length<=sizeLine:=by rw[ir];exact ju (Nat.mul_le_mul (by omega:k.toNat<=1000) hz) (by decide)
 refine⟨.ref s.heap.objs.size,_,I.laid (t':=s.toks) (o:=.tup (List.replicate k.toNat xs).flatten) (λb ob q=>ja _ q) (jc _) ?_,rfl,q _ (I.hok.fresh (jc _))⟩;exact⟨hsz,_,r1.rep k.toNat,TupN.new _ _⟩
noncomputable def tO(z:Str)(k:Int):Str:=if(k==1||z.length==0)=true then z else⟨List.foldl (λx1 x2=>x1++x2) #[] (List.replicate k.toNat z.cps)⟩
def qi2:OpR X (binaryOp .Mult) (λx y H Q=>∃z k,x=.str z/\y=.int k/\0<k/\k<=1000/\0<z.length/\z.length<=1000/\Q (.str (tO z k)) H):=by
 intro z5 s J H x y v u Q I rx ry h;obtain⟨z,k,rfl,rfl,h1,h2,h3,h4,q⟩:=h;obtain⟨t,rfl⟩:=rx;obtain⟨t',rfl⟩:=ry;have hm:z.length*k.toNat<=1000*1000:=Nat.mul_le_mul h4 (by omega);refine PySem.P.mul_str (by simp;omega) (λ_ _=>?_) (λ_ _=>?_) ?_
 .intro hgt;have h5:((2:Int)^63-1) / 1000<=(2^63-1) / k:=by
   refine Int.le_ediv_of_mul_le h1 ?_;have:((2:Int)^63-1) / 1000*k<=(2^63-1) / 1000*1000:=Int.mul_le_mul_of_nonneg_left h2 (by decide);exact Int.le_trans this (by decide)
  have h6:(1000:Int)<(2^63-1) / 1000:=by decide
  omega
 .unfold Builtin.Str.tooLong;have:(sizeLine:Nat)≥1000*1000:=by decide
  simp;omega
 .rw[if_neg (by omega)];unfold tO at q;split
  .rename_i hh;rw[if_pos hh]at q;exact⟨.str z,H,I,⟨t,rfl⟩,q⟩
  .rename_i hh;rw[if_neg hh]at q;refine⟨?_,⟨.str _,H,I.tok _,⟨_,rfl⟩,q⟩⟩;show(List.foldl (λx1 x2=>x1++x2) #[] (List.replicate k.toNat z.cps)).size<=sizeLine;rw[dN];have h7:k.toNat*z.cps.size<=1000*1000:=Nat.mul_le_mul (by omega) h4;have h8:(sizeLine:Nat)≥1000*1000:=by decide
   simp;omega
def CMul2(i j:Int):Prop:=CMul i j∨(i.natAbs<2^250/\j.natAbs<2^250)
def F6{k:Int}(h:k.natAbs<2^250):Builtin.Int.intBits k<=250:=by
 unfold Builtin.Int.intBits;split
 .exact Nat.zero_le _
 .rename_i h0;have hk:k.natAbs≠0:=λz=>h0 (by simpa using z);have:k.natAbs.log2<250:=(Nat.log2_lt hk).mpr h;omega
def CMul2.ok{i j:Int}(h:CMul2 i j):IntMulOk i j:=by
 rcases h with h|⟨h1,h2⟩
 .exact h.ok
 .exact IntMulOk.of_le (F6 h1) (F6 h2) (by decide)
def op_mul2:OpR X (binaryOp .Mult) (rI CMul2 λi j=>.int (i*j)):=qK λ_ _ _ _ _ _ _ hc q=>mul_int q hc.ok
noncomputable def n6(i:Int):Bool:=decide (i.natAbs<2^250)
def tH(i j:Int):Bool:=vT i j||(n6 i&&n6 j)
def qi7{i j:Int}(h:tH i j=true):CMul2 i j:=by
 unfold tH vT n6 at h;simp only[Bool.or_eq_true,Bool.and_eq_true,decide_eq_true_eq]at h;rcases h with h|h
 .exact .inl h
 .exact .inr h
def En(K:aq):R2:=λx y H Q=>rI CMul2 (λi j=>.int (i*j)) x y H Q∨Eo K x y H Q∨∃z k,x=.str z/\y=.int k/\0<k/\k<=1000/\0<z.length/\z.length<=1000/\Q (.str (tO z k)) H
def jG(hK:X.K=K):OpR X (binaryOp .Mult) (En K):=op_mul2.or ((qpi hK).or qi2)
end
def ie:D->D->Option D
 |.int i,.int j=>if tH i j=true then some (.int (i*j))else none
 |.tup xs,.int k=>if 1<k/\k<=1000/\xs≠[]/\xs.length<=1000 then some (.tup (List.replicate k.toNat xs).flatten)else none
 |.str z,.int k=>if 0<k/\k<=1000/\0<z.length/\z.length<=1000 then some (.str (tO z k))else none
 |_,_=>none
def Gp{K:aq}:gX K (En K) ie:=λH R x y d e u Q s rx ry q k=>by
 unfold ie at q;split at q
 .rename_i i j;split at q
  .rename_i h
   (first|obtain rfl:=q.isA rfl|cases q)
   (first|obtain rfl:=rx.isA rfl|cases rx)
   (first|obtain rfl:=ry.isA rfl|cases ry)
   exact .inl ⟨i,j,rfl,rfl,qi7 h,k _ H R (Ext.refl s) (.int _)⟩
  ·(first|obtain rfl:=q.isA rfl|cases q)
 .rename_i ds j;split at q
  .rename_i hc
   (first|obtain rfl:=q.isA rfl|cases q)
   (first|obtain rfl:=ry.isA rfl|cases ry)
   obtain⟨a,xs,rfl,h,r⟩:=rx.isT;refine .inr (.inl ⟨a,j,xs,rfl,rfl,SqT.of (s _ _ h),hc.1,hc.2.1,λz=>?_,by rw[r.length];exact hc.2.2.2,λp np=>?_⟩)
   .subst z
    (first|obtain rfl:=r.isA rfl|cases r)
    exact hc.2.2.1 rfl
   .have y:=Ext.new (o:=.tup (List.replicate j.toNat xs).flatten) s np;exact k _ _ _ y (.tup cT ((r.rep _).mono y.r))
  ·(first|obtain rfl:=q.isA rfl|cases q)
 .rename_i z j;split at q
  .rename_i hc
   (first|obtain rfl:=q.isA rfl|cases q)
   (first|obtain rfl:=ry.isA rfl|cases ry)
   (first|obtain rfl:=rx.isA rfl|cases rx)
   exact .inr (.inr ⟨z,j,rfl,rfl,hc.1,hc.2.1,hc.2.2.1,hc.2.2.2,k _ H R (Ext.refl s) (.str _)⟩)
  ·(first|obtain rfl:=q.isA rfl|cases q)
 ·(first|obtain rfl:=q.isA rfl|cases q)
section
variable{X:Cx}{K:aq}{O:Zg}{pos:Pos}
end
inductive TyX(K:aq)(H:Hp):V->Value->Prop where
 |exc {a C:Addr} (h:H a=some (rT a (.ref C))) (k:ExcK K C):TyX K H (.ref a) (.ref C)
 |non:TyX K H .non (.type "NoneType")
section
variable{X:Cx}{K:aq}{O:Zg}{t:TE}{fa:aN}
structure KitE(K:aq)(c:Value)(sub:Str->Option Bool):Prop where
 exc:∀x C b,PySem.W.nsIn K mainGlobals x=some (some (.ref C))->sub x=some b->PySem.W.kitOne K (.ref C) c=some b
 non:PySem.W.kitOne K (.type "NoneType") c=some false
structure qzc(K:aq)(cs:Ze)(sub:Str->Option Bool):Prop where
 exc:∀x C b,PySem.W.nsIn K mainGlobals x=some (some (.ref C))->sub x=some b->PySem.W.kitAny K (.ref C) cs=some b
 non:PySem.W.kitAny K (.type "NoneType") cs=some false
end
abbrev Xr:=aA->Option (Str×aA)
def IS(K:aq)(E:XK)(C:Str)(H:Hp):Prop:=∀v,PySem.W.nsIn K mainGlobals C=some (some v)->E v none H
section
variable(K:aq)(O:Zg)
end
section
variable{K:aq}{O:Zg}{E:XK}{t ta tb:TE}{tr:TA}{tt:TT}{fa fb:aN}{fs:ba}{xa xb xs:Xr}
end
def MSX(c:MC)(O:Zg)(t:TS)(E:XK)(fx:Xr):Prop:=∀(Z:Anc) (D:Ends) (J:St) (H R:Hp) (M:aA) (C:Str) (M':aA),Z.P=c.P->StR c.K Z O J H R M->fx M=some (C,M')->(∀O' J' H' R',StR c.K Z O' J' H' R' M'->IS c.K E C H')->t D J H
def MSXa(c:MC)(O:Zg)(t:TS)(E:XK)(fx:Xr):Prop:=∀(Z:Anc) (D:Ends) (J:St) (H R:Hp) (M:aA) (C:Str) (M':aA),Z.P=c.P->StR c.K Z O J H R M->fx M=some (C,M')->(∀H' R',StR c.K Z O J H' R' M'->Same R R'->IS c.K E C H')->t D J H
def MSXa.g{c:MC}{O:Zg}{t:TS}{E:XK}{fx:Xr}(h:MSXa c O t E fx):MSX c O t E fx:=λZ D J H R M C M' hP S e k=>h Z D J H R M C M' hP S e λH' R' S' _=>k O J H' R' S'
section
variable{c:MC}{O O' O1:Zg}{t u:TS}{te:TE}{tt:TT}{tr:TA}{g:TG}{f h:aD}{fe:aN}{fs:ba}{ft:dz}{E:XK}{xe xt fx hx:Xr}
end
section
variable{c:MC}{O O':Zg}{cv:Value}{i:Nat}{sub:Str->Bool}{tb:XK->TS}{ts:TS}{fb fh:aD}{xb:Xr}
end
section
variable{K:aq}{O:Zg}{tr:TA}{fs:ba}{E:XK}{n:Nat}
end
section
variable{K:aq}
end
section
variable(K:aq)(O:Zg)
end
section
variable{K:aq}{O:Zg}{ta:TE}{tr:TA}{fa:aN}{fs:ba}{E:XK}{n:Nat}
end
def GQ{α:Type}{o:Option (α×aA)}{x:α}(h:o.map (·.1)=some x):∃M,o=some (x,M):=by
 cases o with
 |none=>cases h
 |some p=>cases h;exact⟨p.2,rfl⟩
theorem iy{n:Nat}{js:Zg}{fg:eL}{fe:aN}{M:aA}(g:D->D):∀(xs:List D),(∀x∈xs,∃M1,fg x (hW n js M)=some M1/\(fe M1).map (·.1)=some (g x))->cK n js none fg (ae true) fe xs M=some (xs.map g,M)
 |[],_=>rfl
 | x::xs,h=>by let⟨M1,h1,h2⟩:=h x jf;let⟨M2,h2⟩:=GQ h2;have ih:=iy (n:=n) (js:=js) (fg:=fg) (fe:=fe) (M:=M) g xs λy hy=>h y (jd _ hy);simp only[cK,h1,ae,h2,gL];rw[ih];rfl
theorem m9{n:Nat}{js:Zg}{fg:eL}{ft:dz}{fe:aN}{M:aA}(p:D->Bool)(g:D->D):∀(xs:List D),(∀x∈xs,∃M1,fg x (hW n js M)=some M1/\ft M1=some (p x,M1)/\(p x=true->(fe M1).map (·.1)=some (g x)))->cK n js none fg ft fe xs M=some ((xs.filter p).map g,M)
 |[],_=>rfl
 | x::xs,h=>by
  let⟨M1,h1,h2,h3⟩:=h x jf;have ih:=m9 (n:=n) (js:=js) (fg:=fg) (ft:=ft) (fe:=fe) (M:=M) p g xs λy hy=>h y (jd _ hy);cases hp:p x with
  | false=>
   rw[hp]at h2;simp only[cK,h1,h2,gL];rw[ih,List.filter_cons_of_neg (by rw[hp];exact Bool.false_ne_true)]
  | true=>
   rw[hp]at h2;let⟨M3,h4⟩:=GQ (h3 hp);simp only[cK,h1,h2,h4,gL];rw[ih,List.filter_cons_of_pos hp];rfl
theorem ua{n p q:Nat}{js:Zg}{fg:eL}{fe:aN}{S:Type}(M:S->aA)(G:D->Prop):∀(xs:List D),(∀x∈xs,∀s,∃M1 M2 y s',fg x (hW n js (M s))=some M1/\fe M1=some (y,M2)/\gL (some (p,q)) (M s) M2=M s'/\G y)->∀s,∃ys s',cK n js (some (p,q)) fg (ae true) fe xs (M s)=some (ys,M s')/\ys.length=xs.length/\∀y∈ys,G y
 |[],_,s=>⟨[],s,rfl,rfl,λ_ h=>nomatch h⟩
 | x::xs,h,s=>by
  let⟨M1,M2,y,s1,h1,h2,h3,h4⟩:=h x jf s;let⟨ys,s2,g1,g2,g3⟩:=ua M G xs (λy hy=>h y (jd _ hy)) s1;refine⟨y::ys,s2,?_,by rw[jt,jt,g2],λz hz=>?_⟩
  .simp only[cK,h1,ae,h2,h3];rw[g1]
  .rcases List.mem_cons.mp hz with rfl|hz
   .exact h4
   .exact g3 z hz
theorem gn{fg:eL}{fb:aD}(I:Nat->aA->Prop):∀(xs:List D) (k:Nat) (M:aA),I k M->(∀i x M,xs[i]? =some x->I (k+i) M->∃M1 M2,fg x M=some M1/\(fb M1=some (.nx M2)∨fb M1=some (.ct M2))/\I (k+i+1) M2)->∃M',dI fg fb xs M=some (.nx M')/\I (k+xs.length) M'
 |[],k,M,h0,_=>⟨M,rfl,h0⟩
 | x::xs,k,M,h0,hs=>by
  let⟨M1,M2,h1,h2,h3⟩:=hs 0 x M rfl h0;obtain⟨M',g1,g2⟩:=gn I xs (k+1) M2 h3 λi y M e hi=>by
   have e1:k+1+i=k+(i+1):=by omega
   rw[e1]at hi ⊢;exact hs (i+1) y M (by simpa using e) hi
  refine ⟨M', ?_, by rw[jt];have e1:k+(xs.length+1)=k+1+xs.length:=by omega
                     rw[e1];exact g2⟩
  simp only[dI,h1];rcases h2 with h2|h2
  .rw[h2];exact g1
  .rw[h2];exact g1
def tT{fg:eL}{fb:aD}(I:aA->Prop):∀(xs:List D) (M:aA),I M->(∀x M,x∈xs->I M->∃M1 M2,fg x M=some M1/\(fb M1=some (.nx M2)∨fb M1=some (.ct M2))/\I M2)->∃M',dI fg fb xs M=some (.nx M')/\I M':=λxs M h0 hs=>by let⟨M',h1,h2⟩:=gn (fg:=fg) (fb:=fb) (λ_=>I) xs 0 M h0 λi x M e hi=>hs x M (xk e) hi;exact⟨M',h1,h2⟩
def IN{α:Type}(x:α)(xs:List α):bB (x::xs) 0=some x:=by unfold bB fI;simp
def ng{α:Type}(x y:α)(xs:List α):bB (x::y::xs) 1=some y:=ye (j:=1) rfl
def at2{α:Type}(x y z:α)(xs:List α):bB (x::y::z::xs) 2=some z:=ye (j:=2) rfl
def at3{α:Type}(x y z u:α)(xs:List α):bB (x::y::z::u::xs) 3=some u:=ye (j:=3) rfl
def i3{α:Type}{xs:List α}{i:Int}(h0:0<=i)(h:i<xs.length):bB xs i=xs[i.toNat]? :=by unfold bB fI;rw[if_pos h0,if_pos h];rfl
def dg{n:Nat}(h:n<=1000000):n<=sizeLine:=ju h (by decide)
def gq(lo:Int)(n:Nat):(cR lo n).length=n:=by simp[cR]
def jL{lo:Int}{n i:Nat}{d:D}(h:(cR lo n)[i]? =some d):i<n/\d=.int (lo+(i:Int)):=by
 have hi:i<n:=by
  have:=(List.getElem?_eq_some_iff.mp h).1
  rwa [gq]at this
 refine⟨hi,?_⟩;unfold cR at h;rw[je,xr hi]at h;exact(jg h).symm
noncomputable def nx(s:Int):Int:=(s*1181783497276652981+12345678910987) % (2^61-1)
def Gc(i j:Int):bV (.int i) (.int j)=some (i==j):=by simp[bV,D.toP,SeqAt.shaped,PyData.canLay0,PyData.depth,PyData.eqv]
def ig{i j:Str}(hi:PyData.strOk i=true)(hj:PyData.strOk j=true):bV (.str i) (.str j)=some (i==j):=by simp[bV,D.toP,SeqAt.shaped,PyData.canLay0,PyData.depth,PyData.eqv,hi,hj]
def IF(j:Int):bV (.int j) .non=some false:=by simp[bV,D.toP,SeqAt.shaped,PyData.canLay0,PyData.depth,PyData.eqv]
theorem HV:∀xs:List Int,D.toPs (xs.map D.int)=some (xs.map PyData.int)
 |[]=>by simp[D.toPs]
 |x::xs=>by simp[D.toPs,D.toP,HV xs]
theorem Iw:∀xs ys:List Int,PyData.eqvAll (xs.map PyData.int) (ys.map PyData.int)=decide (xs=ys)
 |[],[]=>by simp[PyData.eqvAll]
 |[],y::ys=>by simp[PyData.eqvAll]
 |x::xs,[]=>by simp[PyData.eqvAll]
 | x::xs,y::ys=>by
  simp only[List.map_cons,PyData.eqvAll,PyData.eqv,Iw xs ys,List.cons.injEq];by_cases h:x=y
  .subst h;simp
  .have:(x==y)=false:=beq_eq_false_iff_ne.mpr h;rw[this];simp[h]
def ub(xs ys:Zf):bV (.lst (xs.map D.int)) (.lst (ys.map D.int))=some (decide (xs=ys)):=by have h1:SeqAt.shaped (.list (xs.map PyData.int))=true:=ID xs;have h2:SeqAt.shaped (.list (ys.map PyData.int))=true:=ID ys;simp only[bV,D.toP,HV,Option.map_some];rw[if_pos ⟨h1,h2⟩];simp only[PyData.eqv,Iw]
section
variable{α β:Type}{a:aA->Option (α×aA)}{k:α->aA->Option (β×aA)}{M:aA}{fa fb fc:aN}{ga gb:dz}{fs:ba}{g g':D->D->Option D}{g1:D->Option D}{gl:D->Option (List D)}{g2:D->D->Option (List D)}{fl fh:aA->Option (Option Int×aA)}
def cM:cj a k M=(a M).bind λp=>k p.1 p.2:=by unfold cj;cases a M<;>rfl
def qw9{x:α}:ae x M=some (x,M):=rfl
def eZ{o:Option α}:dn o M=o.map λx=>(x,M):=by cases o<;>rfl
def E1{i:Nat}:aa i M=(M[i]?).join.map λd=>(d,M):=by
 unfold aa;cases h:M[i]? with
 |none=>rfl
 |some o=>cases o<;>rfl
def EY:af g fa fb M=(fa M).bind λp=>(fb p.2).bind λq=>(g p.1 q.1).map λx=>(x,q.2):=by unfold af;rw[cM];congr 1;funext p;rw[cM];congr 1;funext q;rw[eZ]
def qwb:aK g1 fa M=(fa M).bind λp=>(g1 p.1).map λx=>(x,p.2):=by unfold aK;rw[cM];congr 1;funext p;rw[eZ]
def qqz:hZ gl fa M=(fa M).bind λp=>(gl p.1).map λx=>(x,p.2):=by unfold hZ;rw[cM];congr 1;funext p;rw[eZ]
def qqy:qb g2 fa fb M=(fa M).bind λp=>(fb p.2).bind λq=>(g2 p.1 q.1).map λx=>(x,q.2):=by unfold qb;rw[cM];congr 1;funext p;rw[cM];congr 1;funext q;rw[eZ]
def IL:D->D->Option D
 |.lst xs,.int j=>bB xs j
 |_,_=>none
def qwf{i:Nat}:iQ i fb M=(fb M).bind λq=>((q.2[i]?).join).bind λx=>(IL x q.1).map λz=>(z,q.2):=by
 unfold iQ;rw[cM];congr 1;funext q;rw[cM,E1];cases(q.2[i]?).join with
 |none=>rfl
 |some x=>show dn _ _=_;rw[eZ];first|rfl|(cases x<;>(cases q.1<;>rfl))
noncomputable def zM:D->Option Bool
 |.bl b=>some b
 |_=>none
def yh:bh fa M=(fa M).bind λp=>(zM p.1).map λx=>(x,p.2):=by
 unfold bh;rw[cM];congr 1;funext p;rw[eZ]
 first|rfl|(cases p.1<;>rfl)
def qwc:dW ga M=(ga M).map λp=>(!p.1,p.2):=by unfold dW;rw[cM];cases ga M<;>rfl
def qwi:dh ga gb M=(ga M).bind λp=>if p.1=true then gb p.2 else some (false,p.2):=by unfold dh;rw[cM];congr 1;funext p;split<;>rfl
def qyk:iG ga gb M=(ga M).bind λp=>if p.1=true then some (true,p.2)else gb p.2:=by unfold iG;rw[cM];congr 1;funext p;split<;>rfl
def qr9:qc fa fb M=(bh fa M).bind λp=>if p.1=true then fb p.2 else some (.bl false,p.2):=by unfold qc;rw[cM];congr 1;funext p;split<;>rfl
def qr1:sM fa M=(bh fa M).map λp=>(.bl (!p.1),p.2):=by unfold sM;rw[cM];cases bh fa M<;>rfl
def qym:jM ga fa fb M=(ga M).bind λp=>if p.1=true then fa p.2 else fb p.2:=by unfold jM;rw[cM];congr 1;funext p;split<;>rfl
def qwd:ag M=some ([],M):=rfl
def qr6:ak fa fs M=(fa M).bind λp=>(fs p.2).map λq=>(p.1::q.1,q.2):=by unfold ak;rw[cM];congr 1;funext p;rw[cM];cases fs p.2<;>rfl
def qw5:ca fs M=(fs M).bind λp=>if p.1.length<=sizeLine then some (.tup p.1,p.2)else none:=by unfold ca;rw[cM];congr 1;funext p;rw[eZ];split<;>rfl
def qwe:aW fs M=(fs M).bind λp=>if p.1.length<=sizeLine then some (p.1,p.2)else none:=by unfold aW;rw[cM];congr 1;funext p;rw[eZ];split<;>rfl
def qyl:br fs M=(fs M).map λp=>(.lst p.1,p.2):=by unfold br;rw[cM];cases fs M<;>rfl
def qr8{f:List D->Option D}:aS f fs M=(fs M).bind λp=>(f p.1).map λx=>(x,p.2):=by unfold aS;rw[cM];congr 1;funext p;rw[eZ]
def qm5{f:List D->Option D}:i7 f fs M=(fs M).bind λp=>(pM (f p.1)).map λx=>(x,p.2):=by unfold i7;rw[cM];congr 1;funext p;rw[eZ]
noncomputable def kE:D->Option (List D)
 |.lst xs=>some xs
 |_=>none
def qm4{f:List D->List D->Option (D×List D)}{i:Nat}:f8 f i fs M=(fs M).bind λp=>((p.2[i]?).join.bind kE).bind λxs=>(f xs p.1).map λr=>(r.1,p.2.set i (some (.lst r.2))):=by
 unfold f8;rw[cM];congr 1;funext p;cases h:p.2[i]? with
 |none=>rfl
 | some o=>
  cases o with
  |none=>rfl
  | some d=>
   cases d with
   | lst xs=>
    show(match f xs p.1 with|some (d,ys)=>some (d,p.2.set i (some (.lst ys)))|none=>none)=_;show _=(f xs p.1).map _;cases f xs p.1<;>rfl
   |_=>rfl
def qr7{n:Nat}{js:Zg}{bw:Option (Nat×Nat)}{fg:eL}:cI n js bw fs fg ga fa M=(fs M).bind λp=>if p.1.length<=sizeLine then cK n js bw fg ga fa p.1 p.2 else none:=by unfold cI;rw[cM]
def qw7:bz fa M=(fa M).bind λp=>(dE p.1).map λx=>(x,p.2):=by unfold bz;rw[cM];congr 1;funext p;rw[eZ];cases p.1<;>rfl
def rd:List D->Option (List D)
 |[.int j]=>if eh j=true then some (cR 0 j.toNat)else none
 |_=>none
def Ge:gh fs M=(fs M).bind λp=>(rd p.1).map λx=>(x,p.2):=by unfold gh;rw[cM];congr 1;funext p;rw[eZ];rfl
def nN:List D->Option (List D)
 |[.int i,.int j]=>if(eh i&&eh j)=true then some (cR i (j-i).toNat)else none
 |_=>none
def Gf:oP fs M=(fs M).bind λp=>(nN p.1).map λx=>(x,p.2):=by unfold oP;rw[cM];congr 1;funext p;rw[eZ];rfl
def qR:List D->Option (List D)
 | [x,y]=>match dE x,dE y with
  |some xs,some ys=>some (cU xs ys)
  |_,_=>none
 |_=>none
def qw4:fD fs M=(fs M).bind λp=>(qR p.1).map λx=>(x,p.2):=by unfold fD;rw[cM];congr 1;funext p;rw[eZ];rfl
noncomputable def lJ:D->Option (Option Int)
 |.int i=>some (some i)
 |_=>none
def qqw:kt fa M=(fa M).bind λp=>(lJ p.1).map λx=>(x,p.2):=by unfold kt;rw[cM];congr 1;funext p;rw[eZ];cases p.1<;>rfl
def qyj:lE fa fl fh M=(fa M).bind λp=>(fl p.2).bind λq=>(fh q.2).bind λr=>(gU p.1 q.1 r.1).map λx=>(x,r.2):=by unfold lE;rw[cM];congr 1;funext p;rw[cM];congr 1;funext q;rw[cM];congr 1;funext r;rw[eZ]
def qm3:t8 g g' fa fb fc M=(fa M).bind λp=>(fb p.2).bind λq=>((g p.1 q.1).bind zM).bind λb=>if b=true then(fc q.2).bind λr=>(g' q.1 r.1).map λx=>(x,r.2)else some (.bl false,q.2):=by
 unfold t8;rw[cM];congr 1;funext p;rw[cM];congr 1;funext q;rw[cM,yh,eZ];cases g p.1 q.1 with
 |none=>rfl
 | some d=>
  cases d with
  | bl b=>
   cases b with
   | true=>
    show cj fc (λz=>dn (g' q.1 z)) q.2=_;rw[cM];show _=(fc q.2).bind _;congr 1;funext r;rw[eZ]
   |false=>rfl
  |_=>rfl
def yg{f h:aD}:am f h M=(f M).bind λo=>match o with
 |.nx M1=>h M1
 |o=>some o:=by
 unfold am;cases f M with
 |none=>rfl
 |some o=>cases o<;>rfl
def qqn{i:Nat}:aw i fa M=(fa M).map λp=>.nx (p.2.set i (some p.1)):=by unfold aw;cases fa M<;>rfl
def qqp{i:Nat}:cg i fs M=(fs M).bind λp=>if i<p.2.length then some (.nx (p.2.set i (some (.lst p.1))))else none:=by unfold cg;cases fs M<;>rfl
def qqu{fg:eL}:gx fa fg M=(fa M).bind λp=>(fg p.1 p.2).map .nx:=by
 unfold gx;cases fa M with
 |none=>rfl
 | some p=>
  obtain⟨d,M1⟩:=p;show(match fg d M1 with|none=>none|some M2=>some (Out.nx M2))=(fg d M1).map _;cases fg d M1<;>rfl
def qw6{f h:aD}:bY ga f h M=(ga M).bind λp=>if p.1=true then f p.2 else h p.2:=by unfold bY;cases ga M<;>rfl
def qqo:az fa M=(fa M).map λp=>.rt p.1 p.2:=by unfold az;cases fa M<;>rfl
def qm1:mQ fs M=(fs M).map λp=>.rt (.lst p.1) p.2:=by unfold mQ;cases fs M<;>rfl
def qm0{i:Nat}:jE i M=((M[i]?).join.bind kE).map λd=>.rt (.lst d) (M.set i none):=by
 unfold jE;cases h:M[i]? with
 |none=>rfl
 | some o=>
  cases o with
  |none=>rfl
  |some d=>cases d<;>rfl
def GU{α:Type}{i:Nat}{x:Option α}:(if isL M i=true then x else none)=((M[i]?).join.bind kE).bind λ_=>x:=by
 unfold isL;cases h:M[i]? with
 |none=>rfl
 | some o=>
  cases o with
  |none=>rfl
  |some d=>cases d<;>rfl
def qqq:aJ M=some (.nx M):=rfl
def qm2:mN fa M=(fa M).map λp=>.nx p.2:=by unfold mN;cases fa M<;>rfl
def qqr{gm:List D->List D->Option (List D)}{i:Nat}:cW gm i fs M=((M[i]?).join.bind kE).bind λ_=>(fs M).bind λp=>((p.2[i]?).join.bind kE).bind λxs=>(gm xs p.1).map λys=>.nx (p.2.set i (some (.lst ys))):=by
 refine Eq.trans ?_ (GU);unfold cW;congr 1;cases fs M with
 |none=>rfl
 | some p=>
  show(match p.2[i]? with|some (some (.lst xs))=>_|_=>none)=_;show _=((p.2[i]?).join.bind kE).bind _;cases h:p.2[i]? with
  |none=>rfl
  | some o=>
   cases o with
   |none=>rfl
   | some d=>
    cases d with
    | lst xs=>
     show(match gm xs p.1 with|some ys=>some (Out.nx _)|none=>none)=(gm xs p.1).map _;cases gm xs p.1<;>rfl
    |_=>rfl
def qqt{i:Nat}:iN i fs M=((M[i]?).join.bind kE).bind λ_=>(fs M).bind λp=>((p.2[i]?).join.bind kE).bind λxs=>if xs.length+p.1.length<=sizeLine then some (.nx (p.2.set i (some (.lst (xs++p.1)))))else none:=by
 refine Eq.trans ?_ (GU);unfold iN;congr 1;cases fs M with
 |none=>rfl
 | some p=>
  show(match p.2[i]? with|some (some (.lst xs))=>_|_=>none)=_;show _=((p.2[i]?).join.bind kE).bind _;cases h:p.2[i]? with
  |none=>rfl
  | some o=>
   cases o with
   |none=>rfl
   |some d=>cases d<;>rfl
def rc(x d k:D):Option D:=match x,k with
 |.lst xs,.int j=>(fI xs.length j).map λm=>.lst (xs.set m d)
 |_,_=>none
def qlz{i:Nat}:pT i fa fb M=(fa M).bind λp=>(fb p.2).bind λq=>((q.2[i]?).join).bind λx=>(rc x p.1 q.1).map λy=>.nx (q.2.set i (some y)):=by
 unfold pT;cases fa M with
 |none=>rfl
 | some p=>
  show(match fb p.2 with|some (.int k,M2)=>_|_=>none)=(fb p.2).bind _;cases fb p.2 with
  |none=>rfl
  | some q=>
   obtain⟨y,M2⟩:=q;cases y with
   | int j=>
    show(match M2[i]? with|some (some (.lst xs))=>_|_=>none)=((M2[i]?).join).bind _;cases h:M2[i]? with
    |none=>rfl
    | some o=>
     cases o with
     |none=>rfl
     | some d=>
           cases d with
           | lst xs=>
            show(match fI xs.length j with|some m=>some (Out.nx _)|none=>none)=((fI xs.length j).map _).map _;cases fI xs.length j<;>rfl
           |_=>rfl
   | _=>
    show none=((M2[i]?).join).bind _;cases h:(M2[i]?).join with
    |none=>rfl
    |some x=>cases x<;>rfl
def qqs{fg:eL}{f:aD}:bi fs fg f M=(fs M).bind λp=>dI fg f p.1 p.2:=by unfold bi;cases fs M<;>rfl
def qr4{i:Nat}{d:D}:ai i d M=some (M.set i (some d)):=rfl
end
def qq7{n:Nat}(h:n<=1000000):(n<=sizeLine)=True:=eq_true (dg h)
def t7{n d:Nat}{k:Int}(h:0<=k):HT.sIx n d (some k)=min k.toNat n:=by show(if k<0 then(k+(n:Int)).toNat else min k.toNat n)=_;rw[if_neg (by omega)]
def tS{xs:List D}{k:Int}(h:0<=k):de xs none (some k)=xs.take k.toNat:=by unfold de;rw[t7 h,HT.sIx_none,List.drop_zero,Nat.sub_zero];exact List.take_eq_take_min.symm
def qjj{xs:List D}{k:Int}(h:0<=k):de xs (some k) none=xs.drop k.toNat:=by
 unfold de;rw[t7 h,HT.sIx_none];by_cases hk:k.toNat<=xs.length
 .rw[Nat.min_eq_left hk];exact List.take_of_length_le (by rw[xm];exact jc _)
 .rw[Nat.min_eq_right (by omega),List.drop_eq_nil_of_le (jc _),List.drop_eq_nil_of_le (by omega)];simp
def uJ(K:aq)(p:Addr):It:=
 ⟨λi H=>∃xs x,SqL K H p xs/\xs[i]? =some x,
  λi H v H'=>∃T x,v=.ref T/\H T=none/\H'=aT H T (.tup [.int (i:Int),x])/\∀xs,SqL K H p xs->xs[i]? =some x,
  λi H=>∃xs,SqL K H p xs/\xs.length<=i⟩
def qwl(p e it:Addr)(i:Nat)(h:Heap):Prop:=(∃old,IsEnum h e it (i:Int) old)/\h.IsListIter it p i
def qfu{P:Program}{w:World}{K:aq}{zm:Zi}{x1:Nat}{pos:Pos}{p e it:Addr}(hei:e≠it):
 Turn P w K (.Tuple zm x1 pos) (uJ K p) [e,it] e (qwl p e it) where
 mem:=by simp
 obj:=λi h st c hc=>by
  obtain⟨⟨old,he⟩,o,go,_,gd⟩:=st;simp only[List.mem_cons,List.not_mem_nil,or_false]at hc;rcases hc with rfl|rfl
  .exact⟨_,he,λv e=>by cases e⟩
  .exact⟨o,go,λv e=>by rw[gd]at e;cases e⟩
 keep:=λi h h' st k=>by obtain⟨⟨old,he⟩,o,go,r⟩:=st;exact⟨⟨old,k e (by simp) _ he⟩,o,k it (by simp) _ go,r⟩
 item:=by
  intro X hP hw hK hc i z5 s J H E I hf st hg;subst hP hw hK;obtain⟨xs,x,q1,ex⟩:=hg;let⟨it1,r1,t1,_⟩:=I.list q1;let⟨u,eu,ru⟩:=r1.get ex;obtain⟨⟨old,he⟩,j1⟩:=st;refine wpAny_pyNext_enum_item he j1 t1.isList (x:=u) (by simpa using eu) hei λh' ho n1 tp sz kk=>?_;refine⟨_,rfl,?_⟩;refine wpAny_letOwnedTupleGo_enum ho λh'' z'' s''=>?_;have fresh:H s.heap.objs.size=none:=I.hok.fresh (jc _);have zne:s.heap.objs.size≠e:=λq=>by have:=j9 he;rw[<-q]at this;exact xf _ this
  have keep:∀c o,c∉[e,it]->s.heap.get? c=some o->h''.get? c=some o:=λc o hc q=>by simp only[List.mem_cons,List.not_mem_nil,or_false,not_or]at hc;exact s''.extBut c o hc.1 (kk c o hc.1 hc.2 q)
  have tp':h''.get? s.heap.objs.size=some {cls:=.type "tuple",data:=.seq #[.int i s.toks,u]}:=s''.extBut _ _ zne tp;have I':Inv X z5 J (aT H s.heap.objs.size (.tup [.int (i:Int),x])) {s with heap:=h'',toks:=s.toks+1}:=by
   refine I.step (g':=s.gens) (d':=s.drawn) (ch:=[e,it]) (λc hc=>?_) (λc o _ _ hc e _=>keep c o hc e) (λc o _ _ hc e _=>⟨o.slots,keep c o hc e⟩) (λc o _ e n=>?_) (λc o hc e=>⟨o,keep c o hc e⟩)
    (λc zs e=>?_) (λc o w' e=>?_) (λc ps e=>⟨#[],?_⟩) (λm hm=>?_) (λc o e=>?_) I.bare
   .let⟨_,f1,f2,f3,f4,f5⟩:=hf c hc;exact⟨f3,f1,f4,f5⟩
   .rw[bf (jl (j9 e))];exact n
   .rw[bf (gp e fresh)];exact e
   .rw[bf (gp e fresh)];exact e
   .rw[bf (gp e fresh),e];simp
   .obtain⟨o,es,ep,ho,r⟩:=hm;exact⟨o,es,ep,keep _ o (λq=>(hf _ q).2.1 rfl) ho,r⟩
   .by_cases hb:c=s.heap.objs.size
    .subst hb;rw[cT]at e;cases e;exact⟨by show 2<=sizeLine;decide,[.int i s.toks,u],.cons ⟨_,rfl⟩ (.cons ru .nil),⟨_,tp',⟨rfl,_,rfl⟩,rfl⟩⟩
    .rw[bf hb]at e;refine(I.hok c o e).stay (λd w' hd q=>keep d w' (λm=>?_) q) (λd q=>?_) λd zs q=>?_
     .have n:=(hf d m).1;rcases hd with rfl|hd
      .rw[n]at e;cases e
      .rw[n]at hd;cases hd
     .rw[bf (gp q fresh)];exact q
     .rw[bf (gp q fresh)];exact q
  have lt:∀c∈[e,it],c<s.heap.objs.size:=λc hc=>by
   simp only[List.mem_cons,List.not_mem_nil,or_false]at hc;rcases hc with rfl|rfl
   .exact j9 he
   .obtain⟨o,e,_⟩:=j1;exact j9 e
  refine⟨.ref s.heap.objs.size,_,I',rfl,⟨_,x,rfl,fresh,rfl,λzs q=>by rw[I.list_inj q q1];exact ex⟩,?_,λc hc=>?_⟩
  .obtain⟨o,go,r⟩:=n1;exact⟨⟨u,by simpa using z''⟩,o,s''.extBut _ _ hei.symm go,r⟩
  .rw[bf (jl (lt c hc))];exact(hf c hc).1
 done:=by
  intro X hP hw hK hc i z5 s J H E I hf st hg;subst hP hw hK;obtain⟨xs,q1,hl⟩:=hg;let⟨it1,r1,t1,_⟩:=I.list q1;obtain⟨⟨old,he⟩,j1⟩:=st;have l1:=r1.length;refine wpAny_pyNext_enum_end (I.ok.hd hc) he j1 t1.isList (by simp;omega) λh' kk=>⟨rfl,?_⟩;have keep:∀c o,c∉[e,it]->s.heap.get? c=some o->h'.get? c=some o:=λc o hc q=>by simp only[List.mem_cons,List.not_mem_nil,or_false,not_or]at hc;exact kk c o hc.2 q
  show Inv X z5 J H {s with heap:=h',toks:=s.toks};refine I.step (g':=s.gens) (d':=s.drawn) (ch:=[e,it]) (λc hc=>?_) (λc o _ _ hc e _=>keep c o hc e) (λc o _ _ hc e _=>⟨o.slots,keep c o hc e⟩) (λc o _ e n=>n) (λc o hc e=>⟨o,keep c o hc e⟩)
   (λc zs e=>e) (λc o w' e=>e) (λc ps e=>⟨#[],by rw[e];simp⟩) (λm hm=>?_) (λc o e=>?_) I.bare
  .let⟨_,f1,f2,f3,f4,f5⟩:=hf c hc;exact⟨f3,f1,f4,f5⟩
  .obtain⟨o,es,ep,ho,r⟩:=hm;exact⟨o,es,ep,keep _ o (λq=>(hf _ q).2.1 rfl) ho,r⟩
  .refine(I.hok c o e).stay (λd w' hd q=>keep d w' (λm=>?_) q) (λd q=>q) λd zs q=>q;have n:=(hf d m).1;rcases hd with rfl|hd
   .rw[n]at e;cases e
   .rw[n]at hd;cases hd
 self:=λ_ _ _ _ _ st h=>by obtain⟨⟨old,he⟩,_⟩:=st;exact wpAny_pyIter_enum he h
section
variable{X:Cx}{a:Expr}{ta:TE}{p pos:Pos}{zm:Zi}{x1:Nat}{tp:Pos}
def DX(K:aq)(ta:TE):TI:=λJ H R=>ta J H λv H1=>∃p1,[v]=[V.ref p1]/\(∃xs,SqL K H1 p1 xs)/\R (uJ K p1) H1
def Gx{K:aq}(hK:X.K=K)(hg:Gl X "enumerate")(hm:X.mg "enumerate"=none)(ha:PE X a ta)(he:starEach [a] X.env=(false,eval a X.env)::starEach [] X.env:=by rfl)(hpl:(backTo pos (starEach [] X.env)).any (·.1)=false:=by rfl):
 PI X (.Tuple zm x1 tp) (.Call (.Name "enumerate" p) [a] [] pos) (DX K ta):=by
 subst hK;intro z5 s J H R I h;refine xq (ia I hg hm (u:=.type "enumerate") (by rfl) ?_);refine PyProof.Rows.callWith_type1 (bu ((aj ha av he) pos z5 s J H (λvs H1=>∃p1,vs=[.ref p1]/\(∃xs,SqL X.K H1 p1 xs)/\R (uJ X.K p1) H1) I h) λus s1 h1=>?_) he hpl;obtain⟨vs,H1,I1,r1,p1,rfl,⟨xs,q1⟩,k⟩:=h1;obtain⟨u,rfl,ru⟩:=cH r1;cases(show u=Value.ref p1 from ru);let⟨it1,r1,t1,_⟩:=I1.list q1;have lt:p1<s1.heap.objs.size:=by obtain⟨o,e,_⟩:=t1.isList;exact j9 e
 refine call_enumerate_list t1.isList λh' hz j1 sz kk=>wpAny_pyIter_enum hz ?_;have I2:Inv X z5 J H1 {s1 with heap:=h',toks:=s1.toks}:=I1.kept kk;refine⟨_,_,_,_,H1,rfl,I2,qfu (p:=p1) (e:=s1.heap.objs.size+1) (it:=s1.heap.objs.size) (Nat.ne_of_gt (Nat.lt_succ_self _)),⟨⟨_,hz⟩,j1⟩,λc hc=>?_,k⟩;have le:s1.heap.objs.size<=c:=by simp only[List.mem_cons,List.not_mem_nil,or_false]at hc;rcases hc with rfl|rfl<;>first|exact jc _|exact Nat.le_add_right _ _
 exact I1.fpOk le (I1.hok.fresh le)
end
noncomputable def gM(xs:List D):List D:=xs.zipIdx.map λq=>D.tup [.int (q.2:Int),q.1]
section
variable{K:aq}{O:Zg}{t:TE}{fa:aN}
def yT{xs:List D}{i:Nat}:(gM xs)[i]? =(xs[i]?).map λx=>D.tup [.int (i:Int),x]:=by
 unfold gM;rw[je,List.getElem?_zipIdx];cases xs[i]? with
 |none=>rfl
 |some x=>simp
def qqd{R:Hp}{p:Addr}{xs:List V}{ds:List D}(h:SqL K R p xs)(r:Rps K R xs ds):ItOk K (uJ K p) R (gM ds):=λH' R' s b i=>by
 have g1:=Same.sqL b (Same.sqL s h);have l1:=r.length;have len:(gM ds).length=ds.length:=by simp[gM]
 refine⟨λe=>⟨xs,g1,by omega⟩,λd e=>?_⟩;rw[yT]at e;cases e1:ds[i]? with
 |none=>rw[e1]at e;cases e
 | some d1=>
  rw[e1]at e;cases e;let⟨v1,a1,a2⟩:=r.get e1;refine⟨⟨xs,v1,g1,a1⟩,λx H'' y=>?_⟩;obtain⟨T,x1,rfl,hT,rfl,z1⟩:=y;have w1:=z1 xs g1;rw[a1]at w1;cases w1;have y:=Ext.new (o:=.tup [.int (i:Int),v1]) b hT;exact⟨_,y,.tup cT (.cons (.int _) (.cons ((a2.mono s).mono y.r) .nil))⟩
def oS(f:aN):ba:=cj f λd=>dn (match d with
 |.lst xs=>some (gM xs)
 |_=>none)
def Gk(h:ME K O t fa):MI K O (DX K t) (oS fa):=λZ J H R M ds M' Q S e k=>by
 let⟨d,M1,e1,e⟩:=b9 e;obtain⟨e2,rfl⟩:=c9 e;cases d with
 | lst xs=>
  cases e2;refine h Z J H R M _ _ _ S e1 λv H1 R1 S1 st1 r1=>?_;obtain⟨_,_,rfl,q,r⟩:=r1.isL;exact⟨_,rfl,⟨_,Same.sqL S1.same q⟩,k _ H1 R1 S1 st1 (qqd q r)⟩
 |_=>cases e2
def DW:D->Option (List D)
 |.lst xs=>some (gM xs)
 |_=>none
def qr5{M:aA}:oS fa M=(fa M).bind λp=>(DW p.1).map λx=>(x,p.2):=by unfold oS;rw[cM];congr 1;funext p;rw[eZ];cases p.1<;>rfl
end
section
variable{X:Cx}{K:aq}{c:MC}{O O':Zg}{t:TE}{fa:aN}
end
section
variable{M:aA}{fa fb:aN}{fs:ba}
noncomputable def gZ(xs:List D):D->Option (List D)
 |.int k=>if -(2^63)<=k/\k<2^63/\xs.length*k.toNat<=sizeLine then some (List.replicate k.toNat xs).flatten else none
 |_=>none
def EZ:eE fs fb M=(fs M).bind λp=>(fb p.2).bind λq=>(gZ p.1 q.1).map λx=>(x,q.2):=by unfold eE;rw[cM];congr 1;funext p;rw[cM];congr 1;funext q;rw[eZ];cases q.1<;>rfl
def wU{M1 M2:aA}{xs zs:List D}{y:D}(h1:fs M=some (xs,M1))(h2:fb M1=some (y,M2))(h3:gZ xs y=some zs):eE fs fb M=some (zs,M2):=by rw[EZ,h1];show(fb M1).bind _=_;rw[h2];show(gZ xs y).map _=_;rw[h3];rfl
def yx{x:D}{k:Int}(h0:0<=k)(h:k<=1000000):gZ [x] (.int k)=some (List.replicate k.toNat x):=by
 have hz:[x].length*k.toNat<=sizeLine:=by rw[List.length_singleton,Nat.one_mul];exact dg (by omega)
 show(if -(2^63)<=k/\k<2^63/\[x].length*k.toNat<=sizeLine then some (List.replicate k.toNat [x]).flatten else none)=_;rw[if_pos ⟨by omega,by omega,hz⟩,List.flatten_replicate_singleton]
def qfn{xs ys:Zf}:cU (xs.map D.int) (ys.map D.int)=(xs.zip ys).map λq=>D.tup [.int q.1,.int q.2]:=by unfold cU;rw[List.zipWith_map,List.zip,List.map_zipWith]
end
section
variable{prog:Program}{w:World}{A:Around}{E:Z0}{s:Shared}{a₀:Array Keyed}
end
section
variable{X:Cx}{K:aq}
end
section
variable{K:aq}{O:Zg}{t tb:TE}{fa fb:aN}
end
section
variable{X:Cx}
end
section
variable{K:aq}{O:Zg}{t tb:TE}{fa fb:aN}
end
section
variable{c:MC}{O O':Zg}{te:TE}{fe:aN}
end
section
variable{K:aq}{O:Zg}{tr:TA}{fs:ba}{E:XK}{n:Nat}
end
section
variable{X:Cx}{K:aq}{o e:Expr}{es:Zi}{to:TE}{t:TA}{name:Str}{zu zo:Pos}{T id:String}{r:V->List V->Hp->VK->Prop}
end
end L2
namespace L2
open PySem PySem.NumText
end L2
namespace L2
open PySem PySem.Spec
section
variable{fa:aN}{fl fh:aA->Option (Option Int×aA)}{M:aA}
end
end L2
namespace L2
open PySem PySem.Spec PyProof.Rows
section
variable{X:Cx}
end
section
variable{K:aq}{O:Zg}{t tb:TE}{fa fb:aN}
def lS(f:dz)(g h:ba):ba:=cj f λb=>if b=true then g else h
def qy6{tA:TT}{ga:dz}{fa fb:ba}(h:MT K O tA ga)(h1:MN K O t fa)(h2:MN K O tb fb):MN K O (vI tA t tb) (lS ga fa fb):=λZ J H R M d M' Q S e k=>by
 let⟨c,M1,e1,e⟩:=b9 e;refine h Z J H R M c _ _ S e1 λH' R' S' st=>?_;cases c with
 |true=>exact fS (h1 Z J H' R' M1 d M' Q S' e λl vs H2 R2 S2 st2 a1 a2 a3 a4=>k l vs H2 R2 S2 (st.trans st2) (st.new a1) a2 a3 a4)
 |false=>exact fT (h2 Z J H' R' M1 d M' Q S' e λl vs H2 R2 S2 st2 a1 a2 a3 a4=>k l vs H2 R2 S2 (st.trans st2) (st.new a1) a2 a3 a4)
def qwg{ga:dz}{fa fb:ba}{M:aA}:lS ga fa fb M=(ga M).bind λp=>if p.1=true then fa p.2 else fb p.2:=by unfold lS;rw[cM];congr 1;funext p;split<;>rfl
end
end L2
namespace L2
open PySem PySem.Spec
end L2
namespace L2
open PySem PySem.Spec PyProof.Rows
section
variable{X:Cx}
end
section
variable{K:aq}{O:Zg}{t tb:TE}{fa fb:aN}
end
section
variable{X:Cx}{z5:Z3}{J:St}{CX:io}{k:Nat}{f:Addr}{fd:FuncData}{ps:Zj}{sp:Sp}{dvs:List V}{ds:Ze}{E:XK}{x:Str}{p pos:Pos}{e:Expr}{es:Zi}{t:TA}{i:Nat}
end
section
variable{K:aq}{O:Zg}{tr:TA}{fs:ba}{E:XK}{n:Nat}
end
section
variable{prog:Program}{w:World}{A:Around}{E:Z0}{s:Shared}
end
section
variable{X:Cx}{a b:Expr}{ta:TA}{p pos:Pos}{zm:Zi}{x1:Nat}{tp:Pos}
end
section
variable{K:aq}{O:Zg}{tr:TA}{fs:ba}
end
end L2
namespace L2
def ay(w:Zf):Prop:=∀b∈w,b=0∨b=1
noncomputable def aY(w:Zf):Int:=w.foldl (λx b=>x*2+b) 0
def y8(w:Zf)(b:Int):aY (w++[b])=aY w*2+b:=by unfold aY;rw[List.foldl_append];rfl
noncomputable def bA(m a:Int)(bs:Zf):Int:=bs.foldl (λx b=>(x+x+b) % m) a
def yS(m a:Int)(bs:Zf)(b:Int):bA m a (bs++[b])=(bA m a bs+bA m a bs+b) % m:=by unfold bA;rw[List.foldl_append];rfl
def cE{α:Type}{u:List α}{i:Nat}{b:α}(q:u[i]? =some b):u.take (i+1)=u.take i++[b]:=List.take_add_one.trans (by rw[q];rfl)
noncomputable def iw(a:Int)(w:Zf):Int:=w.foldl (λx b=>x*2+b) a
theorem lA:∀(w:Zf) (a:Int),iw a w=a*2^w.length+aY w
 |[],a=>by simp[iw,aY]
 | b::bs,a=>by have h1:=lA bs (a*2+b);have h2:=lA bs (0*2+b);have e1:iw a (b::bs)=iw (a*2+b) bs:=rfl;have e2:aY (b::bs)=iw (0*2+b) bs:=rfl;rw[e1,e2,h1,h2,jt,Int.pow_succ];generalize (2:Int)^bs.length=p;generalize aY bs=z;rw[Int.add_mul,Int.add_mul,Int.zero_mul,Int.zero_mul,Int.zero_add,Int.mul_assoc,Int.mul_comm 2 p];omega
theorem qz(m:Int):∀(w:Zf) (a:Int),bA m a w % m=iw a w % m
 |[],a=>rfl
 | b::bs,a=>by
  have e1:bA m a (b::bs)=bA m ((a+a+b) % m) bs:=rfl;have e2:iw a (b::bs)=iw (a*2+b) bs:=rfl;rw[e1,e2,qz m bs,lA,lA];have e3:a+a+b=a*2+b:=by omega
  rw[e3,Int.add_emod,Int.mul_emod,Int.emod_emod,<-Int.mul_emod,<-Int.add_emod]
theorem kY{m:Int}(hm:0<m):∀(w:Zf) (a:Int),(0<=a/\a<m)->0<=bA m a w/\bA m a w<m
 |[],a,h=>h
 |b::bs,a,h=>kY hm bs ((a+a+b) % m) ⟨Int.emod_nonneg _ (by omega),Int.emod_lt_of_pos _ hm⟩
theorem kZ:∀(w:Zf),(∀b∈w,b=0∨b=1)->0<=aY w/\aY w<2^w.length
 |[],_=>by decide
 | b::bs,h=>by
  have h1:=kZ bs λx hx=>h x (jd _ hx);have e2:aY (b::bs)=iw (0*2+b) bs:=rfl;rw[e2,lA,jt,Int.pow_succ];generalize (2:Int)^bs.length=p at h1 ⊢;rcases h b jf with rfl|rfl
  .simp only[Int.zero_mul,Int.zero_add];omega
  .simp only[Int.zero_mul,Int.zero_add,Int.one_mul];omega
def qD(u v:Zf):aY (u++v)=aY u*2^v.length+aY v:=by
 have:aY (u++v)=iw (aY u) v:=by unfold aY iw;rw[List.foldl_append]
 rw[this,lA]
theorem y9:∀n,aY (List.replicate n 0)=0
 |0=>rfl
 | n+1=>by rw[List.replicate_succ',qD,y9 n];rfl
def qje(n:Nat)(w:Zf):bA (2^n) 0 (w++List.replicate n 0)=0:=by have m0:(0:Int)<2^n:=Int.pow_pos (by decide);have h1:=qz (2^n) (w++List.replicate n 0) 0;rw[lA,Int.zero_mul,Int.zero_add,qD,y9,jw,Int.add_zero,Int.mul_emod_left]at h1;have h2:=kY m0 (w++List.replicate n 0) 0 ⟨Int.le_refl _,m0⟩;rw[Int.emod_eq_of_lt h2.1 h2.2]at h1;exact h1
def GN(n:Nat)(pre u:Zf)(hp:pre.length=n)(hb:ay pre)(hu:ay u)(k:Nat)(hk:k<=u.length):
 bA (2^n) (aY pre) (u.take k)=aY (((pre++u).drop k).take n):=by
 have m0:(0:Int)<2^n:=Int.pow_pos (by decide);have ha:=kZ pre hb;rw[hp]at ha;have h1:=qz (2^n) (u.take k) (aY pre);have e1:iw (aY pre) (u.take k)=aY (pre++u.take k):=by unfold aY iw;rw[List.foldl_append]
 have e2:pre++u.take k=(pre++u).take k++((pre++u).drop k).take n:=by rw[<-List.take_add,Nat.add_comm k n,<-hp,List.take_length_add_append]
 have hl:(((pre++u).drop k).take n).length=n:=by rw[xi,xm,jh];omega
 have hlt:=kZ (((pre++u).drop k).take n) λb h=>by
  rcases List.mem_append.mp (List.mem_of_mem_drop (List.mem_of_mem_take h))with h|h
  .exact hb b h
  .exact hu b h
 rw[hl]at hlt;rw[e1,e2,qD,hl,Int.add_comm,Int.add_mul_emod_self_right,Int.emod_eq_of_lt hlt.1 hlt.2]at h1;have h2:=kY m0 (u.take k) (aY pre) ha;rw[Int.emod_eq_of_lt h2.1 h2.2]at h1;exact h1
noncomputable def cn:Nat->Nat->Nat
 |0,_=>0
 |f+1,n=>(n % 2+cn f (n / 2)) % 2
theorem uk:∀f,cn f 0=0
 |0=>rfl
 |f+1=>by unfold cn;rw[show(0:Nat) / 2=0 from rfl,uk f]
def yp:∀f n,cn f n<2
 |0,_=>Nat.zero_lt_two
 |f+1,n=>Nat.mod_lt _ (by decide)
def dG(win tap:Int):Int:=(cn 5 (win.toNat &&& tap.toNat):Nat)
def qp2{a t:Int}:dG a t=0∨dG a t=1:=by have:=yp 5 (a.toNat &&& t.toNat);unfold dG;omega
def qn5(x y:Nat):(x &&& y) / 2=x / 2 &&& y / 2:=by apply Nat.eq_of_testBit_eq;intro i;rw[Nat.testBit_div_two,Nat.testBit_and,Nat.testBit_and,Nat.testBit_div_two,Nat.testBit_div_two]
def qry(x y:Nat):(x &&& y) % 2=(x % 2)*(y % 2):=by have h:=Nat.testBit_and x y 0;simp only[Nat.testBit_zero]at h;have h1:=Nat.mod_two_eq_zero_or_one x;have h2:=Nat.mod_two_eq_zero_or_one y;have h3:=Nat.mod_two_eq_zero_or_one (x &&& y);rcases h1 with h1|h1<;>rcases h2 with h2|h2<;>rcases h3 with h3|h3<;>simp_all
noncomputable def g6:List Int->Int->Int
 |[],_=>0
 |b::bs,t=>(t % 2)*b+g6 bs (t / 2)
theorem HM:∀(f:Nat) (ws:Zf) (t:Int),ay ws->ws.length<=f->0<=t->((cn f ((aY ws.reverse).toNat &&& t.toNat):Nat):Int)=g6 ws t % 2
 | f,[],t,_,_,_=>by have:(aY ([]:Zf).reverse).toNat=0:=rfl;rw[this,Nat.zero_and,uk];rfl
 |0,b::bs,t,_,h,_=>by simp at h
 | f+1,b::bs,t,hb,hl,ht=>by
  have ih:=HM f bs (t / 2) (λx hx=>hb x (jd _ hx)) (by simpa using hl) (by omega);have hw:=kZ bs.reverse λx hx=>hb x (jd _ (List.mem_reverse.mp hx));have hbb:=hb b jf;rw[List.reverse_cons,y8];unfold cn g6;rw[qn5,qry];have e1:(aY bs.reverse*2+b).toNat / 2=(aY bs.reverse).toNat:=by omega
  have e2:t.toNat / 2=(t / 2).toNat:=by omega
  have e3:(aY bs.reverse*2+b).toNat % 2=b.toNat:=by omega
  have e4:(t.toNat % 2:Nat)=(t % 2).toNat:=by omega
  rw[e1,e2,e3,e4];generalize cn f ((aY bs.reverse).toNat &&& (t / 2).toNat)=P at ih ⊢;generalize g6 bs (t / 2)=Q at ih ⊢;have t2:t % 2=0∨t % 2=1:=by omega
  rcases hbb with rfl|rfl<;>rcases t2 with q|q<;>rw[q]<;>simp<;>omega
def qkj{ws:Zf}(t:Int)(hb:ay ws)(hl:ws.length<=5)(ht:0<=t):dG (aY ws.reverse) t=g6 ws t % 2:=HM 5 ws t hb hl ht
noncomputable def fz(row:Zf)(signs:Zf):List Int:=((signs.zip row).filter λq=>q.2==1).map (·.1)
def qI(row U:Zf)(g:Int->Int):fz row (U.map g)=((U.zip row).filter λq=>q.2==1).map λq=>g q.1:=by unfold fz;rw[List.zip_map_left,List.filter_map,jj];rfl
noncomputable def aE(G:Z9)(k:Nat):List Int:=(G[k % G.length]?).getD []
def fZ(n:Nat)(U:Zf)(G:Z9)(a:Int)(u:Zf)(k:Nat):List Int:=
 fz (aE G k) (U.map (dG (2*bA (2^n) a (u.take k)+u.getD k 0)))
def p6(n:Nat)(U:Zf)(G:Z9)(a:Int)(u:Zf):List Int:=(List.range u.length).flatMap (fZ n U G a u)
def jI{α:Type}(f:Nat->List α)(k:Nat):(List.range (k+1)).flatMap f=(List.range k).flatMap f++f k:=by rw[List.range_succ,List.flatMap_append];simp
theorem uc{α:Type}(f:Nat->List α)(m:Nat)(h:∀k,(f k).length<=m):∀n,((List.range n).flatMap f).length<=n*m
 |0=>by simp
 | n+1=>by rw[jI,jh];have:=uc f m h n;have:=h n;rw[Nat.succ_mul];omega
noncomputable def dc(za:Bool)(n:Nat)(w:Zf):List Int:=if za=true then w.drop (w.length-n)else List.replicate n 0
noncomputable def eW(za:Bool)(w:Zf)(i:Int):Int:=if 0<=i/\i<w.length then w.getD i.toNat 0 else if za=true then w.getD (i+w.length).toNat 0 else 0
def Hb{za:Bool}{n:Nat}{w:Zf}(h:za=true->n<=w.length):(dc za n w).length=n:=by
 unfold dc;split
 .rename_i q;have:=h q;rw[xm];omega
 .rw[jw]
def HN{za:Bool}{n:Nat}{w:Zf}(h:ay w):ay (dc za n w):=by
 unfold dc;split
 .exact λb hb=>h b (List.mem_of_mem_drop hb)
 .exact λb hb=>.inl (List.eq_of_mem_replicate hb)
def qs0{za:Bool}{n z:Nat}{w:Zf}(h:za=true->n<=w.length/\z=0){i:Nat}(hi:i<n+(w.length+z)):
 (dc za n w++(w++List.replicate z 0))[i]? =some (eW za w ((i:Int)-n)):=by
 have hl:(dc za n w).length=n:=Hb λq=>(h q).1;by_cases h1:i<n
 .rw[k9 (by omega)];unfold eW;rw[if_neg (by omega)];unfold dc;cases za with
  | true=>
   let⟨h2,h3⟩:=h rfl;simp only[if_true];have e:w.length-n+i<w.length:=by omega
   have e2:((i:Int)-n+w.length).toNat=w.length-n+i:=by omega
   rw[List.getElem?_drop,jb e,e2,ji,jb e];rfl
  | false=>
   simp only[Bool.false_eq_true,if_false];rw[k8,if_pos h1]
 .rw[xw (by omega),hl];have e2:((i:Int)-n).toNat=i-n:=by omega
  unfold eW;by_cases h4:i-n<w.length
  .rw[if_pos ⟨by omega,by omega⟩,e2,k9 h4,ji,jb h4];rfl
  .rw[if_neg (by omega)];cases za with
   | true=>
    let⟨h2,h3⟩:=h rfl;omega
   | false=>
    simp only[Bool.false_eq_true,if_false];rw[xw (by omega),k8,if_pos (by omega)]
def jV(za:Bool)(w:Zf)(k:Int)(n:Nat):List Int:=(List.range n).map λ(j:Nat)=>eW za w (k-(j:Int))
def gQ{u v:Zf}(hu:ay u)(hv:ay v):ay (u++v):=λb h=>by
 rcases List.mem_append.mp h with h|h
 .exact hu b h
 .exact hv b h
def t9(z:Nat):ay (List.replicate z 0):=λb h=>.inl (List.eq_of_mem_replicate h)
def qs4{za:Bool}{n z:Nat}{w:Zf}(hb:ay w)(h:za=true->n<=w.length/\z=0){k:Nat}(hk:k<w.length+z):
 2*bA (2^n) (aY (dc za n w)) ((w++List.replicate z 0).take k)+(w++List.replicate z 0).getD k 0=aY (jV za w k (n+1)).reverse/\ay (jV za w k (n+1)):=by
 have hl:(dc za n w).length=n:=Hb λq=>(h q).1;have hu:ay (w++List.replicate z 0):=gQ hb (t9 z);have hul:(w++List.replicate z 0).length=w.length+z:=by rw[jh,jw]
 have ga:∀i,i<n+(w.length+z)->(dc za n w++(w++List.replicate z 0))[i]? =some (eW za w ((i:Int)-n)):=λi hi=>qs0 h hi;have gu:∀j,j<w.length+z->(w++List.replicate z 0)[j]? =some (eW za w (j:Int)):=λj hj=>by have:=ga (n+j) (by omega);rw[xw (by omega),hl,show n+j-n=j from by omega]at this;rw[this];congr 2;omega
 rw[GN n (dc za n w) (w++List.replicate z 0) hl (HN hb) hu k (by omega)];have hBs:ay (dc za n w++(w++List.replicate z 0)):=gQ (HN hb) hu;have hLl:(dc za n w++(w++List.replicate z 0)).length=n+(w.length+z):=by rw[jh,hl,hul]
 generalize hL:dc za n w++(w++List.replicate z 0)=L at ga hBs hLl ⊢;have e1:(w++List.replicate z 0).getD k 0=eW za w (k:Int):=by rw[ji,gu k hk];rfl
 rw[e1];have e2:(jV za w k (n+1)).reverse=(L.drop k).take n++[eW za w (k:Int)]:=by
  apply List.ext_getElem?;intro i;have lb:(jV za w k (n+1)).length=n+1:=by unfold jV;rw[j7,List.length_range]
  have lt:((L.drop k).take n).length=n:=by rw[xi,xm];omega
  by_cases hi:i<n+1
  .rw[List.getElem?_reverse (by omega),lb];unfold jV;rw[je,xr (by omega)];by_cases hi2:i<n
   .rw[k9 (by omega),List.getElem?_take_of_lt hi2,List.getElem?_drop,ga (k+i) (by omega)];show some (eW za w ((k:Int)-((n+1-1-i:Nat):Int)))=some (eW za w (((k+i:Nat):Int)-(n:Int)));congr 2;omega
   .have:i=n:=by omega
    subst this;rw[xw (by omega),lt,Nat.sub_self];show some (eW za w ((k:Int)-((i+1-1-i:Nat):Int)))=some (eW za w (k:Int));congr 2;omega
  .rw[x9 (by rw[List.length_reverse];omega),x9 (by rw[jh,List.length_singleton];omega)]
 refine⟨by rw[e2,y8];omega,λb hb'=>?_⟩;have:b∈(jV za w k (n+1)).reverse:=List.mem_reverse.mpr hb';rw[e2]at this;rcases List.mem_append.mp this with q|q
 .exact hBs b (List.mem_of_mem_drop (List.mem_of_mem_take q))
 .rw[List.mem_singleton.mp q,<-e1];rw[ji,jb (by omega)];exact hu _ (xn _)
def qkk{za:Bool}{n z:Nat}{w:Zf}(hn:n<=4)(hb:ay w)(h:za=true->n<=w.length/\z=0){k:Nat}(hk:k<w.length+z){t:Int}(ht:0<=t):
 dG (2*bA (2^n) (aY (dc za n w)) ((w++List.replicate z 0).take k)+(w++List.replicate z 0).getD k 0) t=g6 (jV za w k (n+1)) t % 2:=by
 let⟨h1,h2⟩:=qs4 hb h hk;rw[h1];exact qkj t h2 (by unfold jV;rw[j7,List.length_range];omega) ht
def bF(U:Zf)(G:Z9)(k:Nat):List (Int×Int):=(U.zip (aE G k)).filter λq=>q.2==1
def qkn{U:Zf}{G:Z9}{k:Nat}{q:Int×Int}(h:q∈bF U G k):q.1∈U:=by have:=(List.mem_filter.mp h).1;exact(List.of_mem_zip (show(q.1,q.2)∈_ from this)).1
def mP(za:Bool)(n:Nat)(U:Zf)(G:Z9)(w:Zf)(N:Nat):List Int:=
 (List.range N).flatMap λk=>(bF U G k).map λq=>g6 (jV za w k (n+1)) q.1 % 2
def qf5{α:Type}{f g:Nat->List α}{N:Nat}(h:∀k,k<N->f k=g k):(List.range N).flatMap f=(List.range N).flatMap g:=by
 induction N with
 |zero=>rfl
 |succ N ih=>rw[jI,jI,ih λk hk=>h k (by omega),h N (by omega)]
def qkm{za:Bool}{n z:Nat}{U:Zf}{G:Z9}{w:Zf}(hn:n<=4)(hb:ay w)(h:za=true->n<=w.length/\z=0)(ht:∀t∈U,0<=t):
 p6 n U G (aY (dc za n w)) (w++List.replicate z 0)=mP za n U G w (w.length+z):=by
 unfold p6 mP;rw[jh,jw];refine qf5 λk hk=>?_;unfold fZ;rw[qI];show(bF U G k).map _=_;refine List.map_congr_left λq hq=>?_;exact qkk hn hb h hk (ht _ (qkn hq))
def qee{za:Bool}{n N:Nat}{U:Zf}{G:Z9}{w:Zf}:ay (mP za n U G w N):=λb hb=>by unfold mP at hb;let⟨k,hk,hb⟩:=List.mem_flatMap.mp hb;obtain⟨q,hq,rfl⟩:=List.mem_map.mp hb;omega
end L2
namespace L2
open PySem
noncomputable def c0(row:Zf):D:=.tup (row.map D.int)
def au(r:Int)(U:Zf)(G:Z9)(e:Str):D:=.tup [.int r,.tup (U.map D.int),.tup (G.map c0),.str e]
structure q27(r:Int)(U:Zf)(G:Z9)(e:Str):Prop where
 r0:0<=r
 r4:r<=4
 t1:1<=U.length
 t4:U.length<=4
 tb:∀t∈U,0<=t/\t<2*2^r.toNat
 m1:1<=G.length
 m6:G.length<=6
 rw:∀row∈G,row.length=U.length/\∀b∈row,b=0∨b=1
 en:e="open"∨e="ended"∨e="ring"
theorem tW{P:Int->Prop}:∀{ys:List D},(∀y∈ys,∃t,y=.int t/\P t)->∃ts:List Int,ys=ts.map D.int/\∀t∈ts,P t
 |[],_=>⟨[],rfl,λ_ h=>nomatch h⟩
 | y::ys,h=>by
  obtain⟨t,rfl,ht⟩:=h y jf;obtain⟨ts,rfl,hs⟩:=tW (P:=P) λz hz=>h z (jd _ hz);refine⟨t::ts,rfl,λu hu=>?_⟩;rcases List.mem_cons.mp hu with rfl|hu
  .exact ht
  .exact hs u hu
def iL:bV (.str "open") (.str "ring")=some false:=by rw[ig (by decide+kernel) (by decide+kernel)];decide+kernel
def iM:bV (.str "ended") (.str "ring")=some false:=by rw[ig (by decide+kernel) (by decide+kernel)];decide+kernel
def gY:bV (.str "ring") (.str "ring")=some true:=by rw[ig (by decide+kernel) (by decide+kernel)];decide+kernel
def nL:bV (.str "open") (.str "ended")=some false:=by rw[ig (by decide+kernel) (by decide+kernel)];decide+kernel
def nM:bV (.str "ended") (.str "ended")=some true:=by rw[ig (by decide+kernel) (by decide+kernel)];decide+kernel
def nK:bV (.str "ring") (.str "ended")=some false:=by rw[ig (by decide+kernel) (by decide+kernel)];decide+kernel
def aZ(r:Int)(e:Str)(w:Zf):Int:=if e="ring" then aY (w.drop (w.length-r.toNat))else 0
noncomputable def sI(r:Int)(e:Str)(w:Zf):List Int:=if e="ended" then w++List.replicate r.toNat 0 else w
def F5{α:Type}{xs:List α}{x:α}:bB (xs++[x]) (-1)=some x:=by
 unfold bB fI;have h1:¬((0:Int)<= -1):=by decide
 have h2:(-(((xs++[x]).length:Nat):Int)<= -1):=by rw[jh,List.length_singleton];omega
 have h3:((-1:Int)+(((xs++[x]).length:Nat):Int)).toNat=xs.length:=by rw[jh,List.length_singleton];omega
 rw[if_neg h1,if_pos h2,h3];show(xs++[x])[xs.length]? =some x;rw[xw (jc _),Nat.sub_self];rfl
def qm7(n:Nat)(w:Zf)(hb:∀b∈w,b=0∨b=1)(hn:n<=w.length):bA (2^n) (aY (w.drop (w.length-n))) w=aY (w.drop (w.length-n)):=by
 have m0:(0:Int)<2^n:=Int.pow_pos (by decide);have hl:(w.drop (w.length-n)).length=n:=by rw[xm];omega
 have ha:=kZ (w.drop (w.length-n)) λb h=>hb b (List.mem_of_mem_drop h);rw[hl]at ha;generalize hz:aY (w.drop (w.length-n))=a at ha ⊢;have h1:=qz (2^n) w a;have hw:aY w=aY (w.take (w.length-n))*2^n+a:=by have:=qD (w.take (w.length-n)) (w.drop (w.length-n));rw[List.take_append_drop,hl,hz]at this;exact this
 have hp:(2:Int)^w.length=2^(w.length-n)*2^n:=by rw[<-Int.pow_add];congr 1;omega
 rw[lA,hw,hp,<-Int.mul_assoc,<-Int.add_assoc,<-Int.add_mul,Int.add_comm,Int.add_mul_emod_self_right,Int.emod_eq_of_lt ha.1 ha.2]at h1;have h2:=kY m0 w a ha;rw[Int.emod_eq_of_lt h2.1 h2.2]at h1;exact h1
noncomputable def bS(e:Str):Bool:=decide (e="ring")
noncomputable def aB(r:Int)(e:Str):Nat:=if e="ended" then r.toNat else 0
def yD(r:Int)(e:Str)(w:Zf):sI r e w=w++List.replicate (aB r e) 0:=by
 unfold sI aB;split
 .rfl
 .simp
def qqh(r:Int)(e:Str)(w:Zf):aZ r e w=aY (dc (bS e) r.toNat w):=by
 unfold aZ dc bS;by_cases h:e="ring"
 .rw[if_pos h,decide_eq_true h,if_pos rfl]
 .rw[if_neg h,decide_eq_false h,if_neg (by decide),y9]
def qhh{r:Int}{e:Str}{n:Nat}(hw:e="ring"->r.toNat<=n):bS e=true->r.toNat<=n/\aB r e=0:=λh=>by have he:e="ring":=of_decide_eq_true h;subst he;exact⟨hw rfl,if_neg (by decide)⟩
def qrz{x:Int}(h:0<=x):Builtin.bitAnd x 1=x % 2:=by unfold Builtin.bitAnd;rw[decide_eq_true h,decide_eq_true (by decide:(0:Int)<=1)];show((x.toNat &&& 1:Nat):Int)=x % 2;rw[Nat.and_one_is_mod];omega
def FZ{x y:Int}(h:0<=x)(g:0<=y):Builtin.bitAnd x y=((x.toNat &&& y.toNat:Nat):Int):=by unfold Builtin.bitAnd;rw[decide_eq_true h,decide_eq_true g]
def qk9{x y:Int}(h:x=0∨x=1)(g:y=0∨y=1):Builtin.bitXor x y=(x+y) % 2:=by rcases h with rfl|rfl<;>rcases g with rfl|rfl<;>decide
def jZ{r:Int}(r0:0<=r)(r4:r<=4):(1:Int)<=2^r.toNat/\(2:Int)^r.toNat<=16:=by rcases(by omega:r=0∨r=1∨r=2∨r=3∨r=4)with rfl|rfl|rfl|rfl|rfl<;>decide
end L2
namespace L2
open PySem PySem.Spec
def DOk(n:Nat)(d:D):Prop:=∃p,d.toP=some p/\p.canLay0=true/\p.depth<=n
def DOks(n:Nat)(ds:List D):Prop:=∃ps,D.toPs ds=some ps/\PyData.canLayAll0 ps=true/\PyData.depthAll ps<=n
def DOk.int(n:Nat)(i:Int):DOk n (.int i):=⟨.int i,by simp only[D.toP],by simp only[PyData.canLay0],by simp only[PyData.depth];exact Nat.zero_le _⟩
def DOk.bl(n:Nat)(i:Bool):DOk n (.bl i):=⟨.bool i,by simp only[D.toP],by simp only[PyData.canLay0],by simp only[PyData.depth];exact Nat.zero_le _⟩
def DOk.str(n:Nat){x:Str}(h:PyData.strOk x=true):DOk n (.str x):=⟨.str x,by simp only[D.toP],by simp only[PyData.canLay0];exact h,by simp only[PyData.depth];exact Nat.zero_le _⟩
def DOks.nil(n:Nat):DOks n []:=⟨[],by simp only[D.toPs],by simp only[PyData.canLayAll0],by simp only[PyData.depthAll];exact Nat.zero_le _⟩
def DOks.cons{n:Nat}{d:D}{ds:List D}(h:DOk n d)(r:DOks n ds):DOks n (d::ds):=by obtain⟨p,h1,h2,h3⟩:=h;obtain⟨ps,g1,g2,g3⟩:=r;refine⟨p::ps,by simp only[D.toPs,h1,g1],by simp only[PyData.canLayAll0,h2,g2];rfl,?_⟩;simp only[PyData.depthAll];exact Nat.max_le.mpr ⟨h3,g3⟩
theorem DOks.all{n:Nat}:∀{ds:List D},(∀d∈ds,DOk n d)->DOks n ds
 |[],_=>DOks.nil n
 |d::ds,h=>DOks.cons (h d jf) (DOks.all λx hx=>h x (jd _ hx))
def DOks.lst{n:Nat}{ds:List D}(h:DOks n ds):DOk (n+1) (.lst ds):=by obtain⟨ps,g1,g2,g3⟩:=h;exact⟨.list ps,by simp only[D.toP,g1];rfl,by simp only[PyData.canLay0];exact g2,by simp only[PyData.depth];omega⟩
def DOks.tup{n:Nat}{ds:List D}(h:DOks n ds):DOk (n+1) (.tup ds):=by obtain⟨ps,g1,g2,g3⟩:=h;exact⟨.tuple ps,by simp only[D.toP,g1];rfl,by simp only[PyData.canLay0];exact g2,by simp only[PyData.depth];omega⟩
def DOk.ints(xs:Zf):DOk 1 (.lst (xs.map D.int)):=DOks.lst (.all λd hd=>by obtain⟨i,_,rfl⟩:=List.mem_map.mp hd;exact .int _ i)
def DOk.le{n m:Nat}{d:D}(h:DOk n d)(hn:n<=m):DOk m d:=by obtain⟨p,h1,h2,h3⟩:=h;exact⟨p,h1,h2,by omega⟩
def Iv{n:Nat}{d:D}{ds:List D}(h:DOk n d)(r:DOks n ds)(hn:n<64):bV (.lst (d::ds)) (.lst [])=some false:=by
 let⟨p,h1,h2,h3⟩:=DOks.lst (DOks.cons h r);obtain⟨q,g1,g2,g3⟩:=h;obtain⟨qs,k1,k2,k3⟩:=r;have e:D.toP (.lst (d::ds))=some (.list (q::qs)):=by simp only[D.toP,D.toPs,g1,k1];rfl
 rw[e]at h1;cases h1;have hs:SeqAt.shaped (.list (q::qs))=true:=by unfold SeqAt.shaped;rw[h2,decide_eq_true (by omega:(PyData.list (q::qs)).depth<=64)];rfl
 have e0:D.toP (.lst [])=some (.list []):=by simp only[D.toP,D.toPs];rfl
 have hs0:SeqAt.shaped (.list [])=true:=by decide+kernel
 unfold bV;rw[e,e0];show(if SeqAt.shaped (.list (q::qs))=true/\SeqAt.shaped (.list [])=true then some (PyData.eqv (.list (q::qs)) (.list []))else none)=some false;rw[if_pos ⟨hs,hs0⟩];simp[PyData.eqv,PyData.eqvAll]
end L2
namespace L2
open PySem PySem.Spec PySem.NumText
section
variable{K:aq}{O:Zg}{E:XK}
end
end L2
namespace L2
open PySem PySem.Spec PyProof.Rows
section
variable{c:MC}{O O':Zg}{te:TE}{fa:aN}
end
section
variable{ρ:Model}{A:Around}{E:Z0}{s:Shared}{B:Heap}{env:Env}{outer l:List Env}{L e:Addr}{cls fl:Value}{Q:Unit->Shared->Prop}
end
section
variable{X:Cx}{z5:Z3}{J:St}{H H':Hp}{s:Shared}
end
section
variable{P:Program}{w:World}{K:aq}{mg:Za}{base:Heap}{N:Zj}{qual:Str}{scope:Scope}{f:Addr}{cd:Value}{A:Around}{outer:List Env}{s₀:Shared}{H₀:Hp}{E:XK}
end
section
variable{X:Cx}{tg elt zd:Expr}{ifs:Zi}{scope:Scope}{pos:Pos}{N N0:Zj}{n:Nat}{js:Zg}{sc:Scope}{wi:TI}{g:TG}{tt:TT}{te:TE}
end
@[irreducible] def QSs(X:Cx)(st:Zh)(t:TS):Prop:=PSs X st t
section
variable{X:Cx}{st:Stmt}{sts a b:Zh}{t u:TS}{tc:TT}{c tg zd:Expr}{wi:TI}{g:TG}{pos:Pos}
end
inductive Inn(K:aq)(H R:Hp):List Addr->List (List D)->Prop
 |nil:Inn K H R [] []
 |cons {a:Addr} {as:List Addr} {vs:List V} {ds:List D} {dss:List (List D)}:H a=some (.lst vs)->R a=none->Rps K R vs ds->Inn K H R as dss->Inn K H R (a::as) (ds::dss)
structure Deep(K:aq)(H R:Hp)(l:Addr)(as:List Addr)(dss:List (List D)):Prop where
 top:H l=some (.lst (as.map V.ref))
 rl:R l=none
 inn:Inn K H R as dss
 nd:(l::as).Nodup
def StR.put{K:aq}{Z:Anc}{O:Zg}{J:St}{H R:Hp}{M:aA}{a:Addr}{o:HO}(S:StR K Z O J H R M)(hr:R a=none)(n:∀i,i∈O->J[i]? ≠some (some (.ref a)))(z:Z.H0 a=none):StR K Z O J (aT H a o) R M:=by
 have ne:∀b u,Z.H0 b=some u->b≠a:=λb u e q=>by rw[q,z]at e;cases e
 refine⟨λb u e=>?_,S.len,S.env,λi hi=>?_,S.dis,λb u e nl=>?_,S.ar,S.an,λb h=>?_,S.ao,S.ap⟩
 .have q:b≠a:=λq=>by rw[q,hr]at e;cases e
  rw[bf q];exact S.sub b u e
 .let⟨l,vs,ds,h1,h2,h3,h4,h5⟩:=S.own i hi;have q:l≠a:=λq=>n i hi (by rw[h2,q]);exact⟨l,vs,ds,h1,h2,by rw[bf q];exact h3,h4,h5⟩
 .rw[bf (ne b u e)];exact S.ah b u e nl
 .have q:b≠a:=λq=>h (by rw[q];exact z);have l:=S.ad b h;unfold Liv at l ⊢;rw[bf q];exact l
def Inn.has{K:aq}{H R:Hp}{as:List Addr}{dss:List (List D)}(h:Inn K H R as dss):∀a∈as,∃vs,H a=some (.lst vs):=by
 induction h with
 |nil=>exact λ_ h=>nomatch h
 | cons h1 _ _ _ ih=>
  intro a ha;rcases List.mem_cons.mp ha with rfl|ha
  .exact⟨_,h1⟩
  .exact ih a ha
def Inn.wr{K:aq}{H R:Hp}{as:List Addr}{dss:List (List D)}{b:Addr}{o:HO}(h:Inn K H R as dss)(n:b∉as):Inn K (aT H b o) R as dss:=by
 induction h with
 |nil=>exact .nil
 | cons h1 h2 h3 _ ih=>
  exact .cons (by rw[bf λq=>n (by rw[q];exact jf)];exact h1) h2 h3 (ih λq=>n (jd _ q))
def Inn.len{K:aq}{H R:Hp}{as:List Addr}{dss:List (List D)}(h:Inn K H R as dss):as.length=dss.length:=by
 induction h with
 |nil=>rfl
 |cons _ _ _ _ ih=>rw[jt,jt,ih]
def Inn.at{K:aq}{H R:Hp}{as:List Addr}{dss:List (List D)}(h:Inn K H R as dss):∀{k:Nat} {a:Addr},as[k]? =some a->∃vs ds,dss[k]? =some ds/\H a=some (.lst vs)/\R a=none/\Rps K R vs ds:=by
 induction h with
 |nil=>intro k a e;simp at e
 | cons h1 h2 h3 _ ih=>
  intro k a e;cases k with
  | zero=>
   cases e;exact⟨_,_,rfl,h1,h2,h3⟩
  |succ k=>exact ih e
def Inn.setAt{K:aq}{H R:Hp}{as:List Addr}{dss:List (List D)}{vs:List V}{ds:List D}(h:Inn K H R as dss)(r:Rps K R vs ds):∀{k:Nat} {a:Addr},as.Nodup->as[k]? =some a->Inn K (aT H a (.lst vs)) R as (dss.set k ds):=by
 induction h with
 |nil=>intro k a _ e;simp at e
 | @cons b _ _ _ _ h1 h2 h3 t ih=>
  intro k a nd e;let⟨n1,n2⟩:=List.nodup_cons.mp nd;cases k with
  | zero=>
   cases e;exact .cons cT h2 r (t.wr n1)
  | succ k=>
   rw[List.getElem?_cons_succ]at e;have m:=xk e;have ne:b≠a:=λq=>n1 (by rw[q];exact m);exact .cons (by rw[bf ne];exact h1) h2 h3 (ih n2 e)
def Deep.setAt{K:aq}{H R:Hp}{l a:Addr}{as:List Addr}{dss:List (List D)}{vs:List V}{ds:List D}{k:Nat}(h:Deep K H R l as dss)(e:as[k]? =some a)(r:Rps K R vs ds):Deep K (aT H a (.lst vs)) R l as (dss.set k ds):=by let⟨n1,n2⟩:=List.nodup_cons.mp h.nd;have ne:l≠a:=λq=>n1 (by rw[q];exact xk e);exact⟨by rw[bf ne];exact h.top,h.rl,h.inn.setAt r n2 e,h.nd⟩
def Inn.other{K:aq}{H R:Hp}{as:List Addr}{dss:List (List D)}{b:Addr}{o:HO}(h:Inn K H R as dss)(n:b∉as)(hb:R b=none):Inn K H (aT R b o) as dss:=by
 have s:Same R (aT R b o):=λa u e=>by
  have q:a≠b:=λq=>by rw[q,hb]at e;cases e
  rw[bf q];exact e
 induction h with
 |nil=>exact .nil
 | cons h1 h2 h3 _ ih=>
  exact .cons h1 (by rw[bf λq=>n (by rw[q];exact jf)];exact h2) (h3.mono s) (ih λq=>n (jd _ q))
theorem StR.knowAll{K:aq}{Z:Anc}{O:Zg}{J:St}{H:Hp}{M:aA}:∀{as:List Addr} {dss:List (List D)} {R:Hp},StR K Z O J H R M->Inn K H R as dss->as.Nodup->(∀a∈as,Z.H0 a=none/\∀j,j∈O->J[j]? ≠some (some (.ref a)))->∃R1,StR K Z O J H R1 M/\Same R R1/\Rps K R1 (as.map V.ref) (dss.map D.lst)/\∀b,b∉as->R1 b=R b
 | [],dss,R,S,h,_,_=>by
  have l:=h.len;cases dss with
  |cons x r=>simp at l
  |nil=>exact⟨R,S,Same.refl _,.nil,λ_ _=>rfl⟩
 | a::as,dss,R,S,h,nd,hz=>by
  cases h with
  | @cons _ _ vs ds dss h1 h2 h3 h4=>
   let⟨na,nd'⟩:=List.nodup_cons.mp nd;let⟨z1,z2⟩:=hz a jf;have s:Same R (aT R a (.lst vs)):=λb u e=>by
    have q:b≠a:=λq=>by rw[q,h2]at e;cases e
    rw[bf q];exact e
   let⟨R1,S1,s1,r1,o1⟩:=StR.knowAll (S.know z1 h1 h2 z2) (h4.other na h2) nd' λb hb=>hz b (jd _ hb);refine⟨R1,S1,s.trans s1,.cons (.lst (SqL.of (s1 _ _ cT)) ((h3.mono s).mono s1)) r1,λb hb=>?_⟩;have hb1:b≠a:=λq=>hb (by rw[q];exact jf);rw[o1 b λq=>hb (jd _ q),bf hb1]
def Inn.stp{K:aq}{O:Zg}{J:St}{H R H' R':Hp}{as:List Addr}{dss:List (List D)}(h:Inn K H R as dss)(s:Stp O J H R H' R')(ow:∀a∈as,∀j,j∈O->J[j]? ≠some (some (.ref a))):Inn K H' R' as dss:=by
 induction h with
 |nil=>exact .nil
 | @cons a as vs ds dss h1 h2 h3 _ ih=>
  refine .cons (s.h _ _ h1 (ow a jf)) ?_ (h3.mono s.r) (ih λb hb=>ow b (jd _ hb));cases q:R' a with
  |none=>rfl
  | some o=>
   rcases s.n a (by rw[q];exact λz=>nomatch z)with z|z
   .exact absurd h2 z
   .rcases z with z|⟨xs,z⟩<;>(rw[h1]at z;cases z)
structure StD(K:aq)(Z:Anc)(O:Zg)(i:Nat)(J:St)(H R:Hp)(M:aA)(l:Addr)(as:List Addr)(dss:List (List D)):Prop where
 st:StR K Z O J H R M
 hi:i∉O
 no:M[i]? =some none
 at':J[i]? =some (some (.ref l))
 dp:Deep K H R l as dss
 z0:∀a∈l::as,Z.H0 a=none
 ow:∀a∈l::as,∀j,j∈O->J[j]? ≠some (some (.ref a))
section
variable{K:aq}{Z:Anc}{O:Zg}{i j:Nat}{J:St}{H R H' R':Hp}{M M':aA}{l:Addr}{as:List Addr}{dss:List (List D)}
def StD.stp(S:StD K Z O i J H R M l as dss)(T:StR K Z O J H' R' M')(s:Stp O J H R H' R')(no:M'[i]? =some none):StD K Z O i J H' R' M' l as dss:=by
 refine⟨T,S.hi,no,S.at',⟨s.h _ _ S.dp.top (S.ow l jf),?_,S.dp.inn.stp s λa ha=>S.ow a (jd _ ha),S.dp.nd⟩,S.z0,S.ow⟩;cases q:R' l with
 |none=>rfl
 | some o=>
  rcases s.n l (by rw[q];exact λz=>nomatch z)with z|z
  .exact absurd S.dp.rl z
  .rcases z with z|⟨xs,z⟩<;>(rw[S.dp.top]at z;cases z)
def StD.grown(S:StD K Z O i J H R M l as dss)(s:Same H H'):StD K Z O i J H' R M l as dss:=
 have y:Ext H R H' R:=⟨s,Same.refl _,λa o z=>s _ _ (S.st.sub a o z),λ_ z=>.inl z⟩
 S.stp (S.st.ext y) y.stp S.no
def StD.set(S:StD K Z O i J H R M l as dss){v:V}{d:D}(hj:j∉O)(ij:j≠i)(r:Rp K R v d):StD K Z O i (J.set j (some v)) H R (M.set j (some d)) l as dss:=
 ⟨S.st.set hj r,S.hi,by rw[jo ij];exact S.no,by rw[jo ij];exact S.at',S.dp,S.z0,λa ha k hk=>by rw[jo λ(q:j=k)=>hj (q▸hk)];exact S.ow a ha k hk⟩
def StR.blind{v:V}(S:StR K Z O J H R M)(hj:j∉O):StR K Z O (J.set j (some v)) H R (M.set j none):=by
 have ne:∀k,k∈O->j≠k:=λk hk z=>hj (z▸hk);refine⟨S.sub,by rw[xh,xh];exact S.len,λk e hk q=>?_,λk hk=>?_,λk m hk hm n l e=>?_,S.ah,S.ar,S.an,S.ad,λk hk hp l e=>?_,λk hk hp l e=>?_⟩
 .by_cases hij:j=k
  .subst hij;have hl:j<M.length:=by
    have:=(List.getElem?_eq_some_iff.mp q).1
    rwa [xh]at this
   rw[xg hl]at q;cases q
  .rw[jo hij]at q ⊢;exact S.env k e hk q
 .rw[jo (ne k hk),jo (ne k hk)];exact S.own k hk
 .rw[jo (ne k hk)]at e;rw[jo (ne m hm)];exact S.dis k m hk hm n l e
 .rw[jo (ne k hk)]at e;exact S.ao k hk hp l e
 .rw[jo (ne k hk)]at e;exact S.ap k hk hp l e
def StD.wrAt{k:Nat}{a:Addr}{vs:List V}{ds:List D}(S:StD K Z O i J H R M l as dss)(e:as[k]? =some a)(r:Rps K R vs ds):StD K Z O i J (aT H a (.lst vs)) R M l as (dss.set k ds):=by have m:a∈l::as:=jd _ (xk e);let⟨_,_,_,_,hr,_⟩:=S.dp.inn.at e;exact⟨S.st.put hr (λj hj=>S.ow a m j hj) (S.z0 a m),S.hi,S.no,S.at',S.dp.setAt e r,S.z0,S.ow⟩
end
abbrev Fd:=aA->List (List D)->Option (aA×List (List D))
def qP(K:aq)(O:Zg)(i:Nat)(t:TS)(f:Fd):Prop:=∀(Z:Anc) (E:Ends) (J:St) (H R:Hp) (M:aA) (l:Addr) (as:List Addr) (dss:List (List D)) (M':aA) (zy:List (List D)),StD K Z O i J H R M l as dss->f M dss=some (M',zy)->
 (∀J' H' R' as',StD K Z O i J' H' R' M' l as' zy->Same R R'->E.nx J' H')->t E J H
section
variable{K:aq}{O:Zg}{i j:Nat}{t u:TS}{te:TE}{tt:TT}{tr:TA}{f h:Fd}{fe:aN}{fs:ba}{ft:dz}
noncomputable def dk(M:aA)(i:Nat):Bool:=match M[i]? with
 |some none=>true
 |_=>false
def uj{M:aA}{i:Nat}(h:dk M i=true):M[i]? =some none:=by
 unfold dk at h;split at h
 .assumption
 .cases h
end
def vJ(K:aq)(n:Nat)(f:List D->Option (List (List D))):Sp:=λvs H Q _=>vs.length=n/\∃R ds dss,(∀a o,R a=some o->H a=some o)/\Rps K R vs ds/\f ds=some dss/\
 ∀l as H' R',Ext H R H' R'->(∀a∈l::as,H a=none)->Deep K H' R' l as dss->Q (.ref l) H'
noncomputable def oM(o:Option (List (List D))):Option D:=o.map λdss=>.lst (dss.map D.lst)
def Deep.known{K:aq}{H R H' R':Hp}{l:Addr}{as:List Addr}{dss:List (List D)}(x:Ext H R H' R')(z:∀a∈l::as,H a=none)(h:Deep K H' R' l as dss):∃R1,Ext H R H' R1/\Rp K R1 (.ref l) (.lst (dss.map D.lst)):=by
 have S:StR K ⟨H,R,λ_=>False,[]⟩ [] [] H' R' []:=⟨x.s,rfl,λi d _ q=>by simp at q,λi hi=>(nomatch hi),λi j hi=>(nomatch hi),λa o q _=>x.h a o q,x.r,x.n,λa q=>x.h.liv q,λi hi=>(nomatch hi),λi hi=>(nomatch hi)⟩;let⟨nl,nd⟩:=List.nodup_cons.mp h.nd;let⟨R1,S1,s1,r1,o1⟩:=S.knowAll h.inn nd λa ha=>⟨z a (jd _ ha),λj hj=>(nomatch hj)⟩;have e1:R1 l=none:=by rw[o1 l nl];exact h.rl
 have S2:=S1.know (z l jf) h.top e1 λj hj=>(nomatch hj);exact⟨_,⟨λa o q=>S2.ah a o q (λz=>z),S2.ar,S2.sub,S2.an⟩,.lst (SqL.of cT) (r1.mono (Same.new e1))⟩
def qx5{K:aq}{n:Nat}{f:List D->Option (List (List D))}{vs:List V}{H:Hp}{Q:VK}{E:XK}(h:cc K false n (λds=>oM (f ds)) vs H Q E):vJ K n f vs H Q E:=by
 obtain⟨hn,R,ds,d,sub,r,e,k⟩:=h;have e:oM (f ds)=some d:=e;cases q:f ds with
 |none=>rw[q]at e;cases e
 | some dss=>
  rw[q]at e;cases e;refine⟨hn,R,ds,dss,sub,r,q,λl as H' R' x z dp=>?_⟩;let⟨R1,x1,r1⟩:=dp.known x z;exact k _ H' R1 x1 r1
def qlv{K:aq}{Nms:Zj}{n:Nat}{H R:Hp}{vs:List V}{ds:List D}(hn:vs.length=n)(hl:ds.length=n)(sub:∀a o,R a=some o->H a=some o)(r:Rps K R vs ds):StR K ⟨H,R,λ_=>False,[]⟩ [] (bn Nms vs) H R (ds.map some++List.replicate (Nms.length-n) none):=by
 refine⟨sub,?_,λi d _ q=>?_,λi hi=>absurd hi (by simp),λi j hi=>absurd hi (by simp),λa o q _=>q,Same.refl _,λa q=>.inl q,λa q=>.refl q,λi hi=>absurd hi (by simp),λi hi=>absurd hi (by simp)⟩
 .unfold bn;rw[jh,jh,j7,j7,jw,jw,hn,hl]
 .let⟨v,h1,h2⟩:=r.get (um q);exact⟨v,uq h1,h2⟩
def qjs{X:Cx}{K:aq}(hK:X.K=K)(hc:X.calm=true):gf X (.builtin "sum") (λxs H Q=>∃(p:Addr) (ns:Zf),xs=[.ref p]/\SqT K H p (ns.map V.int)/\Q (.int ns.sum) H):=by
 subst hK;intro z5 s J H xs us Q I r h;obtain⟨p,ns,rfl,hq,q⟩:=h;obtain⟨u,rfl,ru⟩:=cH r;cases ru;let⟨its,rv,pl,hz⟩:=I.tuple hq;have hh:X.A.in1.handled=none:=I.ok.hd hc;have hl:s.heap.IsTuple p its.toArray:=pl;have hlt:p<s.heap.objs.size:=by obtain⟨_,e,_⟩:=hl;exact j9 e
 refine call_sum_walkG (wpAny_pyIter_tuple hl ?_);refine⟨_,_,_,_,_,_,λi=>ns.getD i 0,rfl,Walks.tuple hh s.heap.objs.size p (jl hlt) its.toArray,⟨⟨_,jq _ rfl,rfl,rfl⟩,hl.push _⟩,λb hb=>?_,λi v hP=>lC rv (by simpa using hP),λh' tk t' hk=>?_⟩
 .show b<(s.heap.push _).objs.size;rw[xj];rcases List.mem_cons.mp hb with rfl|hb
  .exact Nat.lt_succ_self _
  .rw[List.mem_singleton.mp hb];exact Nat.lt_succ_of_lt hlt
 .have len:its.toArray.size=ns.length:=by have:=rv.length;simp at this;simp;omega
  refine⟨.int ns.sum,H,I.kept (t':=tk) λb o e=>hk b o (λz=>?_) (ja _ e),⟨t',?_⟩,q⟩
  .have:=j9 e;rw[List.mem_singleton.mp z]at this;exact xf _ this
  .rw[len,zK ns _ (jc _),List.take_length]
def sY:D->Option D
 |.tup xs=>(c6 xs).map λns=>.int ns.sum
 |_=>none
def qrg{K:aq}:mI K (λxs H Q=>∃(p:Addr) (ns:Zf),xs=[.ref p]/\SqT K H p (ns.map V.int)/\Q (.int ns.sum) H) sY:=λH x d u Q r e k=>by
 unfold sY at e;split at e
 .rename_i ds;obtain⟨a,xs,rfl,h,q⟩:=r.isT;cases z:c6 ds with
  |none=>rw[z]at e;cases e
  | some ns=>
   rw[z]at e;cases e;have ex:=mE q z;subst ex;exact⟨_,ns,rfl,SqT.of h,k _ (.int _)⟩
 .cases e
section
variable{K:aq}{O T:Zg}{i:Nat}{t:TS}{te:TE}{tr:TA}{g:TG}{f:Fd}{fe:aN}{fs:ba}{fg:eL}
noncomputable def kP(i:Nat)(fg:eL)(f:Fd):List D->Fd
 |[],M,dss=>some (M,dss)
 | d::r,M,dss=>match fg d M with
  | some M1=>if dk M1 i=true then(match f M1 dss with
   |some p=>kP i fg f r p.1 p.2
   |none=>none)else none
  |none=>none
def tE(i:Nat)(fg:eL)(fi:ba)(f:Fd):Fd:=λM dss=>match fi M with
 |some (ds,M1)=>if dk M1 i=true then kP i fg f ds M1 dss else none
 |none=>none
def StD.tgt{Z:Anc}{J J':St}{H R:Hp}{M M':aA}{l:Addr}{as:List Addr}{dss:List (List D)}(S:StD K Z O i J H R M l as dss)(S':StR K Z O J' H R M')(n:∀j,j∉T->J'[j]? =J[j]?)(hT:∀k∈i::O,k∉T)(no:M'[i]? =some none):StD K Z O i J' H R M' l as dss:=
 ⟨S',S.hi,no,by rw[n i (hT i jf)];exact S.at',S.dp,S.z0,λa ha k hk=>by rw[n k (hT k (jd _ hk))];exact S.ow a ha k hk⟩
def qlb{wi:TI}{fi:ba}{tb:TS}(hi:MI K O wi fi)(hg:MG K O T g fg)(hT:∀k∈i::O,k∉T)(hb:qP K O i tb f):qP K O i (nj wi g tb) (tE i fg fi f):=λZ E J H R M l as dss M' zy S e k=>by
 unfold tE at e;split at e
 .rename_i ds M1 q;split at e
  .rename_i z;have no:=uj z;refine hi Z J H R M ds M1 _ S.st q λσ H1 R1 S1 st1 ok=>?_;have S2:=S.stp S1 st1 no;refine⟨λn m J' H'=>m=ds.length-n/\n<=ds.length/\∃R2 M2 as2 dss2,StD K Z O i J' H' R2 M2 l as2 dss2/\Same R1 R2/\kP i fg f (ds.drop n) M2 dss2=some (M',zy),⟨ds.length,by simp,Nat.zero_le _,R1,M1,as,dss,S2,Same.refl _,by rw[List.drop_zero];exact e⟩,?_⟩;rintro n m J' H' ⟨rfl,hn,R2,M2,as2,dss2,S3,s3,e3⟩;let⟨o1,o2⟩:=ok H' R2 s3 S3.st.sub n;by_cases hlt:n<ds.length
   .let⟨g1,g2⟩:=o2 ds[n] (jb hlt);rw[kc hlt]at e3;refine .inr ⟨g1,λJ3 H3=>∃R2 M2 as2 dss2,StD K Z O i J3 H3 R2 M2 l as2 dss2/\Same R1 R2/\kP i fg f (ds.drop (n+1)) M2 dss2=some (M',zy),?_,λx H3 y=>?_⟩
    .rintro J3 H3 ⟨R3,M3,as3,dss3,q1,q2,q3⟩;exact⟨ds.length-(n+1),by omega,rfl,hlt,R3,M3,as3,dss3,q1,q2,q3⟩
    .let⟨R3,x3,r3⟩:=g2 x H3 y;have S4:=S3.stp (S3.st.ext x3) x3.stp S3.no;unfold kP at e3;split at e3
     .rename_i M4 e4;split at e3
      .rename_i z4;have no4:=uj z4;refine hg Z J' H3 R3 M2 x ds[n] M4 _ S4.st r3 e4 λσ4 S5 n5=>?_;have S6:=S4.tgt S5 n5 hT no4;split at e3
       .rename_i p e5;exact hb Z _ _ H3 R3 _ l as2 dss2 p.1 p.2 S6 e5 λσ5 H5 R5 as5 S7 s5=>⟨R5,p.1,as5,p.2,S7,(s3.trans x3.r).trans s5,e3⟩
       .cases e3
      .cases e3
     .cases e3
   .have en:n=ds.length:=by omega
    subst en;rw[List.drop_length]at e3;unfold kP at e3;cases e3;exact .inl ⟨o1 rfl,k J' H' R2 as2 S3 (st1.r.trans s3)⟩
  .cases e
 .cases e
noncomputable def qo(dss:List (List D))(n:Int)(d:D):Option (List (List D)):=if 0<=n then(match dss[n.toNat]? with
 |some ds=>if ds.length<sizeLine then some (dss.set n.toNat (ds++[d]))else none
 |none=>none)else none
def pe(i:Nat)(fe:aN)(fs:ba):Fd:=λM dss=>match fe M with
 | some (.int n,M0)=>if dk M0 i=true then(match fs M0 with
  |some ([d],M1)=>if dk M1 i=true then(qo dss n d).map λx=>(M1,x)else none
  |_=>none)else none
 |_=>none
def qet(he:ME K O te fe)(ha:MA K O tr fs):qP K O i (p8 (sF K "list" yv (jU (pI K) (dL i) te) tr)) (pe i fe fs):=λZ E J H R M l as dss M' zy S e k=>by
 unfold pe at e;split at e
 .rename_i n M0 q0;split at e
  .rename_i z0;have no0:=uj z0;split at e
   .rename_i d M1 q;split at e
    .rename_i z;have no:=uj z;cases w:qo dss n d with
     |none=>rw[w]at e;cases e
     | some x=>
      rw[w]at e;cases e;unfold qo at w;split at w
      .rename_i hn0;split at w
       .rename_i ds w1;split at w
        .rename_i w2;cases w;refine⟨.ref l,S.at',he Z J H R M (.int n) M0 _ S.st q0 λv0 H0 R0 S0 st0 r0=>?_⟩;cases r0;have T0:=S.stp S0 st0 no0;have ln:=T0.dp.inn.len;have hk:n.toNat<as.length:=by rw[ln];exact(List.getElem?_eq_some_iff.mp w1).1
         have ea:as[n.toNat]? =some as[n.toNat]:=jb hk;let⟨vs,ds2,g1,g2,g3,g4⟩:=T0.dp.inn.at ea;rw[w1]at g1;cases g1;refine .inl ⟨l,_,n,.ref as[n.toNat],rfl,rfl,SqL.of T0.dp.top,?_,?_⟩
         .unfold bB;have e1:fI (as.map V.ref).length n=some n.toNat:=by
           rw[j7];unfold fI;rw[if_pos hn0,if_pos (by omega)]
          rw[e1];show(as.map V.ref)[n.toNat]? =_;rw[je,ea];rfl
         .refine⟨.inl ⟨rfl,vs,SqL.of g2⟩,ha Z J H0 R0 M0 [d] _ _ T0.st q λws H1 R1 S1 st1 r1=>?_⟩;obtain⟨v,_,rfl,rv,rn⟩:=r1.isC;cases rn;have S2:=T0.stp S1 st1 no;let⟨vs2,ds3,g1,g2,g3,g4⟩:=S2.dp.inn.at ea;rw[w1]at g1;cases g1;exact⟨_,vs2,v,rfl,rfl,g2,by rw[g4.length];exact w2,k J _ R1 as (S2.wrAt ea (g4.snoc rv)) (st0.r.trans st1.r)⟩
        .cases w
       .cases w
      .cases w
    .cases e
   .cases e
  .cases e
 .cases e
end
def FO(i n:Nat)(js:Zg)(wi:TI)(t:TS):TS:=lL (sS i n js wi (gE 0) iI (ni gv)) (lL t (iJ (dL i)))
theorem Inn.empty{K:aq}{H R:Hp}:∀{as:List Addr},(∀a∈as,H a=some (.lst []))->(∀a∈as,R a=none)->Inn K H R as (List.replicate as.length [])
 |[],_,_=>.nil
 |a::as,h,r=>.cons (h a jf) (r a jf) .nil (Inn.empty (λb hb=>h b (jd _ hb)) λb hb=>r b (jd _ hb))
def qf7{K:aq}{i n:Nat}{js:Zg}{wi:TI}{fi:ba}{t:TS}{f:Fd}{H R H1 R1:Hp}{J:St}{M M1:aA}{ds:List D}{dss:List (List D)}{Q:VK}(hw:MI K [] wi fi)(hm:qP K [] i t f)(S:StR K ⟨H,R,λ_=>False,[]⟩ [] J H1 R1 M)(e1:fi M=some (ds,M1))(hl:i<M1.length)(hz:ds.length<=sizeLine){M':aA}(e:f (M1.set i none) (List.replicate ds.length [])=some (M',dss))
 (k:∀l as H' R',Ext H R H' R'->(∀a∈l::as,H a=none)->Deep K H' R' l as dss->Q (.ref l) H'):FO i n js wi t {nx:=λ_ H'=>Q .non H',rt:=Q} J H1:=by
 refine hw _ J H1 R1 M ds M1 _ S e1 λσ H2 R2 S2 st2 ok=>?_;refine⟨λc m ys H3=>m=ds.length-c/\c<=ds.length/\∃(R3:Hp) (as:List Addr),ys=as.map V.ref/\as.length=c/\as.Nodup/\(∀a∈as,H a=none)/\(∀a∈as,H3 a=some (.lst []))/\(∀a∈as,R3 a=none)/\Same R2 R3/\StR K ⟨H,R,λ_=>False,[]⟩ [] J H3 R3 M1,
  ⟨ds.length,by simp,Nat.zero_le _,R2,[],rfl,rfl,List.nodup_nil,λ_ h=>(nomatch h),λ_ h=>(nomatch h),λ_ h=>(nomatch h),Same.refl _,S2⟩,?_⟩
 rintro c m ys H3 ⟨rfl,hc,R3,as,rfl,la,nd,a1,a2,a3,s3,S3⟩;let⟨o1,o2⟩:=ok H3 R3 s3 S3.sub c;by_cases hlt:c<ds.length
 .let⟨g1,g2⟩:=o2 ds[c] (jb hlt);refine .inr ⟨g1,by rw[j7];omega,λys' H'=>∃(R3:Hp) (as:List Addr),ys'=as.map V.ref/\as.length=c+1/\as.Nodup/\(∀a∈as,H a=none)/\(∀a∈as,H' a=some (.lst []))/\(∀a∈as,R3 a=none)/\Same R2 R3/\StR K ⟨H,R,λ_=>False,[]⟩ [] J H' R3 M1,?_,λx H4 y=>?_⟩
  .rintro ys' H' ⟨R4,as4,q⟩;exact⟨ds.length-(c+1),by omega,rfl,hlt,R4,as4,q⟩
  .let⟨R4,x4,r4⟩:=g2 x H4 y;have S4:=S3.ext x4;dsimp only[gE,iI];rw[if_pos rfl];refine⟨by show 0<=sizeLine;exact Nat.zero_le _,λp hp=>?_⟩;have b2:∀a∈as,H4 a=some (.lst []):=λa ha=>x4.h a _ (a2 a ha);have np:p∉as:=λq=>by have:=b2 p q;rw[hp]at this;cases this
   have b3:∀a∈as,R4 a=none:=λa ha=>by
    cases q:R4 a with
    |none=>rfl
    | some o=>
     rcases x4.n a (by rw[q];exact λz=>nomatch z)with z|z
     .exact absurd (a3 a ha) z
     .rcases z with z|⟨xs,z⟩<;>(rw[a2 a ha]at z;cases z)
   refine⟨R4,as++[p],by rw[x5];rfl,by rw[jh,la];rfl,List.nodup_append.mpr ⟨nd,by simp,λu hu v hv q=>np (by rw[List.mem_singleton.mp hv]at q;exact q▸hu)⟩,λa ha=>?_,λa ha=>?_,λa ha=>?_,s3.trans x4.r,S4.ext (Ext.hid S4.sub hp)⟩
   .rcases List.mem_append.mp ha with ha|ha
    .exact a1 a ha
    .rw[List.mem_singleton.mp ha];exact S4.new0 hp
   .rcases List.mem_append.mp ha with ha|ha
    .rw[bf λq=>np (by rw[<-q];exact ha)];exact b2 a ha
    .rw[List.mem_singleton.mp ha];exact cT
   .rcases List.mem_append.mp ha with ha|ha
    .exact b3 a ha
    .rw[List.mem_singleton.mp ha];exact S4.out hp
 .have ec:c=ds.length:=by omega
  subst ec;refine .inl ⟨o1 rfl,by rw[j7,la];exact hz,λp hp=>?_⟩;have np:p∉as:=λq=>by have:=a2 p q;rw[hp]at this;cases this
  have x:=Ext.hid (o:=.lst (as.map V.ref)) S3.sub hp;have S4:=S3.ext x;have T:StD K ⟨H,R,λ_=>False,[]⟩ [] i (J.set i (some (.ref p))) (aT H3 p (.lst (as.map V.ref))) R3 (M1.set i none) p as (List.replicate ds.length []):=by
   refine⟨S4.blind (by simp),by simp,List.getElem?_set_self hl,List.getElem?_set_self (by rw[S3.len];exact hl),⟨cT,S3.out hp,?_,List.nodup_cons.mpr ⟨np,nd⟩⟩,λa ha=>?_,λa ha j hj=>(nomatch hj)⟩
   .rw[<-la];exact Inn.empty (λa ha=>by rw[bf λq=>np (by rw[<-q];exact ha)];exact a2 a ha) a3
   .rcases List.mem_cons.mp ha with ha|ha
    .rw[ha];exact S3.new0 hp
    .exact a1 a ha
  refine hm _ _ _ _ R3 _ p as _ M' dss T e λJ' H' R' as' S' s'=>?_;exact⟨.ref p,S'.at',k p as' H' R' ⟨λa o q=>S'.st.ah a o q (λz=>z),S'.st.ar,S'.st.sub,S'.st.an⟩ S'.z0 S'.dp⟩
noncomputable def mM(n N i:Nat)(fi:ba)(f:Fd)(ds:List D):Option (List (List D)):=if ds.length=n then match fi (ds.map some++List.replicate (N-n) none)with
 | some (xs,M1)=>if i<M1.length/\xs.length<=sizeLine then(match f (M1.set i none) (List.replicate xs.length [])with
  |some p=>some p.2
  |none=>none)else none
 |none=>none
 else none
def qp6{n N i:Nat}{fi:ba}{f:Fd}:b8 n (λds=>oM (mM n N i fi f ds)):=λds d e=>by
 have e:oM (mM n N i fi f ds)=some d:=e;unfold mM at e;split at e
 .assumption
 .cases e
def qg9{K:aq}{n i m:Nat}{js:Zg}{Nms:Zj}{wi:TI}{fi:ba}{t:TS}{f:Fd}{vs:List V}{H:Hp}{Q:VK}{E:XK}(hw:MI K [] wi fi)(hm:qP K [] i t f)(h:vJ K n (mM n Nms.length i fi f) vs H Q E):FO i m js wi t {nx:=λ_ H'=>Q .non H',rt:=Q} (bn Nms vs) H:=by
 obtain⟨hn,R,ds,dss,sub,r,e,k⟩:=h;unfold mM at e;split at e
 .rename_i hl;split at e
  .rename_i xs M1 e1;split at e
   .rename_i hz;split at e
    .rename_i p e2;cases e;exact qf7 hw hm (qlv hn hl sub r) e1 hz.1 hz.2 e2 k
    .cases e
   .cases e
  .cases e
 .cases e
def qib:typeLookup (.type "list_reverseiterator") (Str.ofString "__len__")=pure none:=by kernel_rfl
def qlp:typeLookup (.type "list_reverseiterator") (Str.ofString "__length_hint__")=pure (some (.builtin "list_reverseiterator.__length_hint__")):=by kernel_rfl
noncomputable def uI(K:aq)(a:Addr)(n:Nat):It:=
 ⟨λi H=>∃xs,SqL K H a xs/\xs.length=n/\i<n,λi H x H'=>H'=H/\∀xs,SqL K H a xs->xs[n-1-i]? =some x,λi H=>i=n⟩
def qke{P:Program}{w:World}{K:aq}{tg:Expr}(a it:Addr)(n:Nat):Turn P w K tg (uI K a n) [it] it (λi h=>i<=n/\h.IsRevIter it a ((n:Int)-1-i)) where
 mem:=by simp
 obj:=λi h st b hb=>by
  have e:b=it:=by simpa using hb
  subst e;obtain⟨_,o,e,c,d⟩:=st;exact⟨o,e,λv z=>by rw[d]at z;cases z⟩
 keep:=λi h h' st k=>⟨st.1,by obtain⟨o,e,c⟩:=st.2;exact⟨o,k it (by simp) o e,c⟩⟩
 item:=by
  intro X hP hw hK hc i z5 s J H E I hf st hg;subst hP hw hK;obtain⟨xs,hq,hl,hi⟩:=hg;let⟨its,rv,p,hz⟩:=I.list hq;have hx:xs[n-1-i]? =some (xs[n-1-i]'(by omega)):=jb (by omega);let⟨u,hu,ru⟩:=rv.get hx;let⟨f0,f1,f2,f3,f4,f5⟩:=hf it (by simp);have st2:=st.2;have en:((n:Int)-1-i)=((n-1-i:Nat):Int):=by omega
  rw[en]at st2;refine wpAny_pyNext_rev_item st2 p.isList (x:=u) (by simpa using hu) λh' st' sb=>?_;have I1:Inv X z5 J H {s with heap:=h'}:=I.turned (t':=s.toks) (λb o hb e=>(sb.2 b hb).trans e) f0 f1 f3 f4 f5;have st3:h'.IsRevIter it a ((n:Int)-1-(i+1:Nat)):=by
   have e2:((n:Int)-1-(i+1:Nat))=((n-1-i:Nat):Int)-1:=by omega
   rw[e2];exact st'
  let⟨o,e,c,d⟩:=id st';exact⟨u,rfl,pL (s:={s with heap:=h'}) e c d (by decide) ⟨_,H,I1,ru,⟨rfl,λys hy=>by rw[I.list_inj hy hq];exact hx⟩,⟨by omega,st3⟩,λb hb=>(hf b hb).1⟩⟩
 done:=by
  intro X hP hw hK hc i z5 s J H E I hf st hg;subst hP hw hK;have hi:i=n:=hg;let⟨f0,f1,f2,f3,f4,f5⟩:=hf it (by simp);have st2:=st.2;have en:((n:Int)-1-i)= -1:=by omega
  rw[en]at st2;exact wpAny_pyNext_rev_end (I.ok.hd hc) st2 λh' eb=>⟨rfl,I.turned (t':=s.toks) (λb o hb e=>eb b o hb e) f0 f1 f3 f4 f5⟩
 self:=λ_ _ _ _ _ st h=>wpAny_pyIter_revIter st.2 h
section
variable{X:Cx}{K:aq}{a tg:Expr}{ta:TE}{p pos:Pos}
def rN(K:aq)(ta:TE):TI:=λJ H R=>ta J H λv H1=>∃p1 xs,[v]=[V.ref p1]/\SqL K H1 p1 xs/\R (uI K p1 xs.length) H1
def qtm(hK:X.K=K)(hg:Gl X "reversed")(hm:X.mg "reversed"=none)(ha:PE X a ta)(he:starEach [a] X.env=(false,eval a X.env)::starEach [] X.env:=by rfl)(hpl:(backTo pos (starEach [] X.env)).any (·.1)=false:=by rfl):
 PI X tg (.Call (.Name "reversed" p) [a] [] pos) (rN K ta):=by
 subst hK;intro z5 s J H R I h;refine xq (ia I hg hm (u:=.type "reversed") (by rfl) ?_);refine PyProof.Rows.callWith_type1 (bu ((aj ha av he) pos z5 s J H (λvs H1=>∃p1 xs,vs=[V.ref p1]/\SqL X.K H1 p1 xs/\R (uI X.K p1 xs.length) H1) I h) λus s1 h1=>?_) he hpl;obtain⟨vs,H1,I1,r1,p1,xs,rfl,q1,k⟩:=h1;obtain⟨u,rfl,ru⟩:=cH r1;cases(show u=Value.ref p1 from ru);let⟨its,rv,pl,hz⟩:=I1.list q1;have ln:its.length=xs.length:=by have:=rv.length;omega
 refine call_reversed_list pl.isList (wpAny_pyIter_revIter ⟨_,jq _ rfl,rfl,rfl⟩ ?_);refine⟨s1.heap.objs.size,[s1.heap.objs.size],_,_,H1,rfl,I1.kept (t':=s1.toks) λb o e=>ja _ e,qke p1 _ xs.length,⟨Nat.zero_le _,_,jq _ rfl,rfl,?_⟩,λb hb=>?_,k⟩
 .show Data.fields #[Value.ref p1,rawInt ((its.toArray.size:Int)-1)]=_;rw[jx,ln];simp
 .have e:b=s1.heap.objs.size:=by simpa using hb
  subst e;exact I1.fpOk (jc _) (I1.hok.fresh (jc _))
end
def qf6{prog:Program}{w:World}{A:Around}{s:Shared}{R:Zb}{I l S:Addr}{items:Zd}{c₀:Nat}{res:Value}(hh:A.in1.handled=none)(hn:items.size<=sizeLine)(gI:s.heap.IsRevIter I l ((items.size:Int)-1))(gl:s.heap.IsList l items)(lI:l≠I)(SI:S≠I)(Sl:S≠l)
 (hS:s.heap.get? S=some {cls:=.type "list",data:=.seq #[] c₀})
 (hR:∀s' acc c',Moved [S,I] (λa b=>b=a) s s'->s'.heap.get? S=some {cls:=.type "list",data:=.seq acc c'}->ItemsOf (λi v=>items[items.size-1-i]? =some v) acc items.size->R (.ok (.ret res)) s'):
 wpAny (model prog w) A.in1 (Builtin.List.listExtendWith (.ref S) (.ref I) res) (λfin s'=>match fin with
  |.done f=>R (.ok f) s'
  |.again c'=>c'.quiet=true/\codeAny (model prog w) A c' R s') (λe s'=>R (.error e) s') s:=by
 have ty:s.TypeIs (.ref I) "list_reverseiterator":=by obtain⟨o,e,c,_⟩:=gI;exact⟨o,e,c⟩
 have W:=(Walks.listRev (prog:=prog) (w:=w) hh I l lI items).toS;unfold Builtin.List.listExtendWith;refine j6 (wpAny_typeOf ty ?_);have h1:Builtin.List.listSameRef (.ref S) (.ref I)=false:=by unfold Builtin.List.listSameRef;simp[SI]
 have h2:(Value.type "list_reverseiterator"==Value.type "list")=false:=by decide
 have h3:(Value.type "list_reverseiterator"==Value.type "tuple")=false:=by decide
 simp only[h1,h2,h3,Bool.or_false,Bool.false_eq_true,if_false];refine j6 (wpAny_pyIter_revIter gI ?_);refine j6 (xu ?_);unfold Builtin.List.listLengthHint;refine j6 (wpAny_specialOf ty qib ?_);show wpAny _ _ (specialOf (.ref I) (Str.ofString "__length_hint__") >>= _) _ _ s;refine j6 (wpAny_specialOf ty qlp ?_);show wpAny _ _ (isInstance (.ref I) (.type "list_reverseiterator") >>= _) _ _ s;refine j6 (wpAny_isInstance ty (b:=true) (by kernel_rfl) ?_);show wpAny _ _ (pure false) _ _ s;refine j8 ?_;show wpAny _ _ (again (.builtin "list.extend.loop" ⟨[.ref S,.ref I,res],[]⟩)) _ _ s;refine j8 ⟨ki F.plain_extend_loop _,?_⟩;refine codeAny_extend_loopS W hn S (by simp;exact⟨SI,Sl⟩) res items.size 0 s #[] c₀ rfl (Nat.zero_le _) ⟨Nat.zero_le _,by simpa using gI,gl⟩ hS (.nil _) λs' acc c' m e i=>hR s' acc c' ?_ e i;exact m
def qlo{prog:Program}{w:World}{A:Around}{s:Shared}{R:Zb}{I l S:Addr}{items:Zd}(hh:A.in1.handled=none)(hn:items.size<=sizeLine)(gI:s.heap.IsRevIter I l ((items.size:Int)-1))(gl:s.heap.IsList l items)(lI:l≠I)(SI:S≠I)(Sl:S≠l)
 (hS:s.heap.get? S=some {cls:=.type "list",data:=.seq #[]})
 (hR:∀s' acc c',Moved [S,I] (λa b=>b=a) s s'->s'.heap.get? S=some {cls:=.type "list",data:=.seq acc c'}->ItemsOf (λi v=>items[items.size-1-i]? =some v) acc items.size->R (.ok (.ret .none)) s'):
 wpAny (model prog w) A.in1 (Builtin.«list.__init__» ⟨[.ref S,.ref I],[]⟩) (λfin s'=>match fin with
  |.done f=>R (.ok f) s'
  |.again c'=>c'.quiet=true/\codeAny (model prog w) A c' R s') (λe s'=>R (.error e) s') s:=by
 show wpAny _ _ (Builtin.List.listItems (.ref S) >>= _) _ _ s;refine j6 ?_;unfold Builtin.List.listItems;refine j6 (xv hS rfl (j8 ?_));show wpAny _ _ (Builtin.List.listUpdate (.ref S) _ >>= _) _ _ s;unfold Builtin.List.listUpdate;refine j6 (wpAny_updateSeq hS rfl ?_ (by simp) (by simp));have hS2:=kg (Obj.mapSeq λ_=>#[]) hS rfl;have oth:∀b o,b≠S->s.heap.get? b=some o->(s.heap.update S (Obj.mapSeq λ_=>#[])).get? b=some o:=λb o hb e=>(kb s.heap (Obj.mapSeq λ_=>#[]) (Ne.symm hb)).trans e;refine j6 (wpAny_letGo ?_);refine qf6 (s:={s with heap:=s.heap.update S (Obj.mapSeq λ_=>#[])}) hh hn ?_ ?_ lI SI Sl hS2 λs' acc c' m e i=>hR s' acc c' ?_ e i
 .obtain⟨o,e,c⟩:=gI;exact⟨o,oth I o (Ne.symm SI) e,c⟩
 .obtain⟨o,e,c⟩:=gl;exact⟨o,oth l o (Ne.symm Sl) e,c⟩
 .exact⟨λb o nb e=>m.heap b o nb (oth b o (λq=>nb (by rw[q];simp)) e),m.gens,m.drawn,m.os,m.toks⟩
def q9w{prog:Program}{w:World}{A:Around}{E:Z0}{s:Shared}{Q:Z0}{I l:Addr}{items:Zd}(hh:A.in1.in1.handled=none)(hn:items.size<=sizeLine)(gI:s.heap.IsRevIter I l ((items.size:Int)-1))(gl:s.heap.IsList l items)(lI:l≠I)
 (hQ:∀s' acc c',(∀b o,b≠I->s.heap.get? b=some o->s'.heap.get? b=some o)->s'.gens=s.gens->s'.drawn=s.drawn->s'.os=s.os->s'.heap.get? s.heap.objs.size=some {cls:=.type "list",data:=.seq acc c'}->ItemsOf (λi v=>items[items.size-1-i]? =some v) acc items.size->Q (.ref s.heap.objs.size) s'):
 wpAny (model prog w) A (call (.type "list") [.ref I]) Q E s:=by
 have ltI:I<s.heap.objs.size:=by obtain⟨o,e,_⟩:=gI;exact j9 e
 have ltl:l<s.heap.objs.size:=by obtain⟨o,e,_⟩:=gl;exact j9 e
 refine callType_codes F.called_list (F.typeCall_list_1 _) F.entry_list_init (Q₁:=λv s1=>v=.ref s.heap.objs.size/\s1={s with heap:=s.heap.push {cls:=.type "list",data:=.seq #[]}}) (code_list_new _ ⟨rfl,rfl⟩) λobj s1 h1=>?_;obtain⟨rfl,rfl⟩:=h1;have hS:=jq s.heap (o:={cls:=.type "list",data:=.seq #[]}) rfl;refine⟨⟨_,hS,rfl⟩,F.args_list_init_2 _ _,?_⟩;refine qlo (l:=l) (items:=items) hh hn ?_ ?_ lI (Nat.ne_of_gt ltI) (Nat.ne_of_gt ltl) hS λs' acc c' m e i=>⟨rfl,hQ s' acc c' (λb o nb eb=>?_) m.gens m.drawn m.os e i⟩
 .obtain⟨o,e,c⟩:=gI;exact⟨o,ja _ e,c⟩
 .obtain⟨o,e,c⟩:=gl;exact⟨o,ja _ e,c⟩
 .refine m.heap b o (λq=>?_) (ja _ eb);rcases List.mem_cons.mp q with q|q
  .have:=j9 eb;rw[q]at this;exact xf _ this
  .exact nb (List.mem_singleton.mp q)
section
variable{X:Cx}{K:aq}{O:Zg}{a:Expr}{ta:TE}{p p2 pos zk:Pos}{fa:aN}
def Eu(K:aq)(ta:TE):TE:=λJ H Q=>ta J H λv H1=>∃p xs,[v]=[V.ref p]/\SqL K H1 p xs/\∀q,H1 q=none->Q (.ref q) (aT H1 q (.lst xs.reverse))
def qpf(hK:X.K=K)(hc:X.calm=true)(hg:Gl X "list")(hm:X.mg "list"=none)(hg2:Gl X "reversed")(hm2:X.mg "reversed"=none)(ha:PE X a ta)(he2:starEach [a] X.env=(false,eval a X.env)::starEach [] X.env:=by rfl)(hpl2:(backTo pos (starEach [] X.env)).any (·.1)=false:=by rfl)
 (he:starEach [.Call (.Name "reversed" p) [a] [] pos] X.env=(false,eval (.Call (.Name "reversed" p) [a] [] pos) X.env)::starEach [] X.env:=by rfl) (hpl:(backTo zk (starEach [] X.env)).any (·.1)=false:=by rfl):
 PE X (.Call (.Name "list" p2) [.Call (.Name "reversed" p) [a] [] pos] [] zk) (Eu K ta):=by
 subst hK;intro z5 s J H Q I h;refine xq (ia I hg hm (u:=.type "list") (by rfl) ?_);refine PyProof.Rows.callWith_type1 ?_ he hpl;rw[he];show wpAny _ _ (spliced ((false,eval (.Call (.Name "reversed" p) [a] [] pos) X.env)::backTo zk (starEach [] X.env))) _ _ s;refine ku ?_;refine xq (ia I hg2 hm2 (u:=.type "reversed") (by rfl) ?_);refine PyProof.Rows.callWith_type1 (bu ((aj ha av he2) pos z5 s J H (λvs H1=>∃p1 xs,vs=[V.ref p1]/\SqL X.K H1 p1 xs/\∀q,H1 q=none->Q (.ref q) (aT H1 q (.lst xs.reverse))) I h) λus s1 h1=>?_) he2 hpl2;obtain⟨vs,H1,I1,r1,p1,xs,rfl,q1,k⟩:=h1;obtain⟨u,rfl,ru⟩:=cH r1;cases(show u=Value.ref p1 from ru);let⟨its,rv,pl,hz⟩:=I1.list q1;have ln:its.length=xs.length:=by have:=rv.length;omega
 have lp:p1<s1.heap.objs.size:=by obtain⟨o,e,_⟩:=pl.isList;exact j9 e
 refine call_reversed_list pl.isList (Calls.spliced_nil ?_);have gl:(s1.heap.push (revObj p1 ((its.toArray.size:Int)-1))).IsList p1 its.toArray:=by obtain⟨o,e,c⟩:=pl.isList;exact⟨o,ja _ e,c⟩
 refine q9w (l:=p1) (items:=its.toArray) (I1.ok.hd hc) (by rw[jx];omega) ⟨_,jq _ rfl,rfl,rfl⟩ gl (jl lp) λs2 acc c' kp eg ed eo e i=>?_;have es:s2={s1 with heap:=s2.heap,toks:=s2.toks}:=by obtain⟨h2,g2,d2,t2,o2⟩:=s2;cases eg;cases ed;cases eo;rfl
 have hf:H1 (s1.heap.push (revObj p1 ((its.toArray.size:Int)-1))).objs.size=none:=I1.hok.fresh (by rw[xj];exact Nat.le_succ _);have ea:acc.toList=its.reverse:=by
  apply List.ext_getElem?;intro j;by_cases hj:j<its.length
  .have hj2:j<acc.size:=by rw[i.1,jx];exact hj
   have v2:=i.2 j acc[j] (Array.getElem?_eq_getElem hj2);rw[List.getElem?_reverse hj];have v2':its[its.length-1-j]? =some acc[j]:=by simpa using v2
   rw[v2'];simp
  .rw[x9 (by simp;have:=i.1;simp at this;omega),x9 (by simp;omega)]
 refine⟨.ref _,_,?_,rfl,k _ hf⟩;rw[es];refine I1.laid (t':=s2.toks) (λb o eb=>kp b o (jl (j9 eb)) (ja _ eb)) (by rw[xj];exact Nat.le_succ _) ?_;refine⟨by rw[List.length_reverse];exact hz,its.reverse,c',rv.reverse,?_⟩;rw[e,<-ea]
def qvx{R:Hp}{b:Addr}{xs:List V}{ds:List D}(h:SqL K R b xs)(r:Rps K R xs ds):ItOk K (uI K b xs.length) R ds.reverse:=λH' R' s sb i=>by
 have q:SqL K H' b xs:=Same.sqL sb (Same.sqL s h);have ln:=r.length;refine⟨λe=>by show i=xs.length;rw[e,List.length_reverse];exact ln.symm,λd e=>?_⟩;have hi:i<ds.length:=by
  have:=(List.getElem?_eq_some_iff.mp e).1
  rwa [List.length_reverse]at this
 rw[List.getElem?_reverse hi]at e;let⟨v,h1,h2⟩:=r.get e;refine⟨⟨xs,q,rfl,by omega⟩,λx H'' y=>?_⟩;obtain⟨rfl,y⟩:=y;have ex:=y xs q;rw[ln,h1]at ex;cases ex;exact⟨R',Ext.refl sb,h2.mono s⟩
noncomputable def iO:D->Option (List D)
 |.lst xs=>some xs.reverse
 |_=>none
def gz(f:aN):ba:=cj f λd=>dn (iO d)
def qvc(h:ME K O ta fa):MI K O (rN K ta) (gz fa):=λZ J H R M ds M' Q S e k=>by
 let⟨x,M1,e1,e⟩:=b9 e;obtain⟨e3,rfl⟩:=c9 e;refine h Z J H R M x _ _ S e1 λv H1 R1 S1 st1 r1=>?_;unfold iO at e3;split at e3
 .cases e3;obtain⟨b,xs,rfl,q,r⟩:=r1.isL;exact⟨b,xs,rfl,Same.sqL S1.sub q,k _ H1 R1 S1 st1 (qvx q r)⟩
 .cases e3
def qw8{M:aA}:gz fa M=(fa M).bind λp=>(iO p.1).map λx=>(x,p.2):=by
 unfold gz cj dn;cases fa M with
 |none=>rfl
 |some p=>cases h:iO p.1<;>simp[h]
theorem Rps.rev{R:Hp}:∀{xs:List V} {ds:List D},Rps K R xs ds->Rps K R xs.reverse ds.reverse
 |_,_,.nil=>.nil
 | _,_,.cons h r=>by rw[List.reverse_cons,List.reverse_cons];exact(Rps.rev r).snoc h
end
structure Kp(I S:Addr)(s0 s:Shared):Prop where
 heap:∀b o,b≠I->b≠S->s0.heap.get? b=some o->s.heap.get? b=some o
 gens:s.gens=s0.gens
 drawn:s.drawn=s0.drawn
 os:s.os=s0.os
structure Kq(s s':Shared):Prop where
 heap:∀b o,s.heap.get? b=some o->s'.heap.get? b=some o
 gens:s'.gens=s.gens
 drawn:s'.drawn=s.drawn
 os:s'.os=s.os
def Kp.on{I S:Addr}{s0 s s':Shared}(x:Kp I S s0 s)(heap:∀b o,b≠I->b≠S->s.heap.get? b=some o->s'.heap.get? b=some o)(g:s'.gens=s.gens)(d:s'.drawn=s.drawn)(o:s'.os=s.os):Kp I S s0 s':=
 ⟨λb u h1 h2 e=>heap b u h1 h2 (x.heap b u h1 h2 e),g.trans x.gens,d.trans x.drawn,o.trans x.os⟩
def jN(prog:Program)(w:World)(A:Around)(I S:Addr)(s0:Shared)(its:Zd)(bt:Nat->Nat->Bool):Prop:=
 ∀(i j:Nat) (vi vj:Value) (s:Shared) (Q:Z0) (E:Z0),its[i]? =some vi->its[j]? =some vj->Kp I S s0 s->(∀s',Kq s s'->Q (.bool (bt i j)) s')->wpAny (model prog w) A (richCompare .Lt vi vj) Q E s
section
variable{prog:Program}{w:World}{A:Around}{R:Zb}{I S l:Addr}{its:Zd}{s0:Shared}{bt:Nat->Nat->Bool}{kw:List (Str×Value)}
abbrev StL(I l:Addr)(its:Zd)(i:Nat)(h:Heap):Prop:=h.IsListIter I l i/\h.IsList l its
def StL.keep{i:Nat}{h h':Heap}(st:StL I l its i h)(k:∀b o,b=I∨b=l->h.get? b=some o->h'.get? b=some o):StL I l its i h':=by obtain⟨⟨o,e,c⟩,⟨o2,e2,c2⟩⟩:=st;exact⟨⟨o,k I o (.inl rfl) e,c⟩,⟨o2,k l o2 (.inr rfl) e2,c2⟩⟩
def qii(hh:A.in1.handled=none)(lI:l≠I)(SI:S≠I)(Sl:S≠l)(zq:jN prog w A.in1 I S s0 its bt)(hR:∀v s',its[argBest bt (its.size-1)]? =some v->Kp I S s0 s'->R (.ok (.ret v)) s'):
 ∀(k j:Nat) (s:Shared) (vb:Value) (c:Nat),its.size-(j+1)=k->j+1<=its.size->StL I l its (j+1) s.heap->its[argBest bt j]? =some vb->s.heap.get? S=some {cls:=.type "list",data:=.seq #[vb,vb] c}->Kp I S s0 s->
   codeAny (model prog w) A (.builtin "min.loop" ⟨[.ref I,.none,.ref S],kw⟩) R s:=by
 intro k;induction k with
 | zero=>
  intro j s vb c hk hj st hb hS K;have en:j+1=its.size:=by omega
  refine codeAny_builtin F.entry_min_loop ?_;rw[ky kj];show wpAny _ _ (seqItems? (.ref S) >>= _) _ _ s;refine j6 (xv hS rfl ?_);refine j6 (wpAny_tryCatch ?_);refine wpAny_pyNext_list_end hh st.1 st.2 (Array.getElem?_eq_none (by omega)) λh' eb=>?_;have hS2:h'.get? S=some {cls:=.type "list",data:=.seq #[vb,vb] c}:=eb S _ SI hS;show wpAny _ _ (updateSeq S (λ_=>#[]) >>= _) _ _ {s with heap:=h'};refine j6 (wpAny_updateSeq (s:={s with heap:=h'}) hS2 rfl ?_ (by simp[sizeLine_eq]) (by simp[sizeLine_eq]));refine j6 (wpAny_letGo ?_);refine j8 ?_;have ej:its.size-1=j:=by omega
  refine hR vb _ (by rw[ej];exact hb) (K.on (λb o h1 h2 e=>?_) rfl rfl rfl);exact(kb h' _ (Ne.symm h2)).trans (eb b o h1 e)
 | succ k ih=>
  intro j s vb c hk hj st hb hS K;have lt:j+1<its.size:=by omega
  refine codeAny_builtin F.entry_min_loop ?_;rw[ky kj];show wpAny _ _ (seqItems? (.ref S) >>= _) _ _ s;refine j6 (xv hS rfl ?_);refine j6 (wpAny_tryCatch ?_);have hx:its[j+1]? =some its[j+1]:=Array.getElem?_eq_getElem lt;refine wpAny_pyNext_list_item st.1 st.2 (x:=its[j+1]) hx λh' st' sb=>?_;have kI:∀b o,b≠I->s.heap.get? b=some o->h'.get? b=some o:=λb o hb e=>(sb.2 b hb).trans e;have hS2:h'.get? S=some {cls:=.type "list",data:=.seq #[vb,vb] c}:=kI S _ SI hS;have L2:h'.IsList l its:=by obtain⟨o,e,q⟩:=st.2;exact⟨o,kI l o lI e,q⟩
  have K2:Kp I S s0 {s with heap:=h'}:=K.on (λb o h1 _ e=>kI b o h1 e) rfl rfl rfl;show wpAny _ _ (pure its[j+1] >>= _) _ _ {s with heap:=h'};refine j6 (j8 ?_);show wpAny _ _ (Sem.tryCatch _ _ >>= _) _ _ {s with heap:=h'};refine j6 (wpAny_tryCatch (xu ?_));refine j6 (zq (j+1) (argBest bt j) _ vb _ _ _ hx hb K2 λs3 q3=>?_);refine j6 (xu (ke ?_));refine j6 (wpAny_letGo ?_);refine j8 ?_;have hS3:=q3.heap S _ hS2;have st3:StL I l its (j+1+1) s3.heap:=StL.keep ⟨st',L2⟩ λb o _ e=>q3.heap b o e;have K3:Kp I S s0 s3:=K2.on (λb o _ _ e=>q3.heap b o e) q3.gens q3.drawn q3.os;have eb:argBest bt (j+1)=if bt (j+1) (argBest bt j)=true then j+1 else argBest bt j:=by rw[argBest]
  cases q:bt (j+1) (argBest bt j)with
  | true=>
   rw[q,if_pos rfl]at eb;show wpAny _ _ (updateSeq S _ >>= _) _ _ s3;refine j6 (wpAny_updateSeq hS3 rfl ?_ (by simp[sizeLine_eq]) (by simp[sizeLine_eq]));refine j6 (wpAny_letGo ?_);refine j8 ⟨ki kj _,?_⟩;have hS4:=kg (Obj.mapSeq λ_=>#[its[j+1],its[j+1]]) hS3 rfl;refine ih (j+1) _ its[j+1] _ (by omega) lt (st3.keep λb o hb e=>?_) (by rw[eb];exact hx) hS4 (K3.on (λb o h1 h2 e=>(kb s3.heap _ (Ne.symm h2)).trans e) rfl rfl rfl);refine(kb s3.heap _ ?_).trans e;rcases hb with rfl|rfl
   .exact SI
   .exact Sl
  | false=>
   rw[q,if_neg (by decide)]at eb;show wpAny _ _ (letGo _ >>= _) _ _ s3;refine j6 (wpAny_letGo ?_);refine j8 ⟨ki kj _,?_⟩;exact ih (j+1) s3 vb c (by omega) lt st3 (by rw[eb];exact hb) hS3 K3
def qeu(hh:A.in1.handled=none)(lI:l≠I)(SI:S≠I)(Sl:S≠l)(zq:jN prog w A.in1 I S s0 its bt)(hR:∀v s',its[argBest bt (its.size-1)]? =some v->Kp I S s0 s'->R (.ok (.ret v)) s')
 (hD:its.size=0->∃x d r,kw=(x,d)::r/\∀s',Kp I S s0 s'->R (.ok (.ret d)) s')
 {s:Shared} {c:Nat} (st:StL I l its 0 s.heap) (hS:s.heap.get? S=some {cls:=.type "list",data:=.seq #[] c}) (K:Kp I S s0 s):codeAny (model prog w) A (.builtin "min.loop" ⟨[.ref I,.none,.ref S],kw⟩) R s:=by
 refine codeAny_builtin F.entry_min_loop ?_;rw[ky kj];show wpAny _ _ (seqItems? (.ref S) >>= _) _ _ s;refine j6 (xv hS rfl ?_);refine j6 (wpAny_tryCatch ?_);by_cases h0:its.size=0
 .obtain⟨x,d,r,rfl,hE⟩:=hD h0;refine wpAny_pyNext_list_end hh st.1 st.2 (Array.getElem?_eq_none (by omega)) λh' eb=>?_;show wpAny _ _ (rule _ >>= _) _ _ {s with heap:=h'};refine j6 (wpAny_rule ?_);refine j8 ?_;exact hE _ (K.on (λb o h1 h2 e=>eb b o h1 e) rfl rfl rfl)
 .have lt:0<its.size:=by omega
  have hx:its[0]? =some its[0]:=Array.getElem?_eq_getElem lt;refine wpAny_pyNext_list_item st.1 st.2 (x:=its[0]) hx λh' st' sb=>?_;have kI:∀b o,b≠I->s.heap.get? b=some o->h'.get? b=some o:=λb o hb e=>(sb.2 b hb).trans e;have hS2:h'.get? S=some {cls:=.type "list",data:=.seq #[] c}:=kI S _ SI hS;have L2:h'.IsList l its:=by obtain⟨o,e,q⟩:=st.2;exact⟨o,kI l o lI e,q⟩
  show wpAny _ _ (pure its[0] >>= _) _ _ {s with heap:=h'};refine j6 (j8 ?_);show wpAny _ _ (updateSeq S _ >>= _) _ _ {s with heap:=h'};refine j6 (wpAny_updateSeq (s:={s with heap:=h'}) hS2 rfl ?_ (by simp[sizeLine_eq]) (by simp[sizeLine_eq]));refine j8 ⟨ki kj _,?_⟩;have hS4:=kg (Obj.mapSeq λ_=>#[its[0],its[0]]) hS2 rfl;refine qii hh lI SI Sl zq hR (its.size-1) 0 _ its[0] _ rfl lt (StL.keep ⟨st',L2⟩ λb o hb e=>?_) hx hS4 (K.on (λb o h1 h2 e=>(kb h' _ (Ne.symm h2)).trans (kI b o h1 e)) rfl rfl rfl);refine(kb h' _ ?_).trans e;rcases hb with rfl|rfl
  .exact SI
  .exact Sl
end
section
variable{X:Cx}{z5:Z3}{J:St}{H:Hp}{s:Shared}
def qli{P c:Addr}{params:Arguments}{body:Expr}{scope:Scope}{zr:List (Str×Addr)}{pos:Pos}{Q:Z0}{E:Z0}(I:Inv X z5 J H s)(hH:H P=some (.lam pos (X.env.qual++"<lambda>")))(hdef:defaultsOf params X.env=([],[]))(hcl:closureFor scope X.env=pure zr)(hge0:X.env.globals=mainGlobals)(zx:X.env.code=.ref c)(C:W.CodeHd X.base c P)(hb:X.base.BuiltinsAt X.mg P)
 (k:∀(f c':Addr) (ctv:Value) (H':Hp) (s':Shared),Inv X z5 J H' s'->(∀a o,H a=some o->H' a=some o)->(∀a,H' a≠none->H a≠none∨s.heap.objs.size<=a)->s'.heap.get? f=some (W.kla_obj "<lambda>" (X.env.qual++"<lambda>") params body scope zr ((X.mg "__name__").getD .none) c' ctv)->H' f=none->s.heap.objs.size<=f->s'.heap.CodeRec (.ref c') (X.env.qual++"<lambda>")->H' c'=some (.own P)->(∃ps:Array Value,s'.heap.get? P=some {cls:=.none,data:=.fields ps}/\TriplesOk ps.toList/\codeAmong pos ps.toList=some (.ref c'))->Q (.ref f) s'):
 wpAny (model X.prog X.w) X.A (eval (.Lambda params body scope pos) X.env) Q E s:=by
 let⟨ps,e,t,r⟩:=I.hok P _ hH;have hgs:s.heap.Ns mainGlobals X.mg:=I.mod.glob.keeps I.bk;have hgP:mainGlobals≠P:=λq=>by obtain⟨o,es,ep,e1,hd,_⟩:=I.mod.glob;have:=(I.bs _ _ e1).2;rw[q,hH]at this;cases this
 obtain⟨bm,ob,b1,b2,b3,b4,b5,b6⟩:=hb;have hb':s.heap.BuiltinsAt X.mg P:=⟨bm,ob,b1,b2,b3,b4,I.bk _ _ b5,b6⟩;have nP:∀b,H b=none->b≠P:=λb h q=>by rw[q,hH]at h;cases h
 refine W.kla_eval hdef ?_;rcases r with hnf|⟨c',hf,hc,hcd⟩
 .refine W.kla_makeFunction (mg:=X.mg) hcl hge0 hgs zx (C.keeps I.bk) e t hnf hgP hb' λc' ctv h' tk hx hge hlt hrec htb=>?_;have hc0:H c'=none:=I.hok.fresh hge;have up:∀b o,b≠P->s.heap.get? b=some o->(h'.push (W.kla_obj "<lambda>" (X.env.qual++"<lambda>") params body scope zr ((X.mg "__name__").getD .none) c' ctv)).get? b=some o:=λb o hb e=>ja _ (hx b o hb e);have hne:∀b o,H b=some o->b≠c':=λb o h q=>by rw[q,hc0]at h;cases h
  have hpc:P≠c':=hne P _ hH;have hrec2:=hrec.push (W.kla_obj "<lambda>" (X.env.qual++"<lambda>") params body scope zr ((X.mg "__name__").getD .none) c' ctv);have hok:HOk X.prog X.w (aT H c' (.own P)) (h'.push (W.kla_obj "<lambda>" (X.env.qual++"<lambda>") params body scope zr ((X.mg "__name__").getD .none) c' ctv)):=λb o hb=>by
   by_cases q:b=c'
   .subst q;rw[cT]at hb;cases hb;obtain⟨c2,oc,vs,tq,hc2,hoc,_⟩:=hrec2;cases hc2;exact⟨oc,hoc⟩
   .rw[bf q]at hb;by_cases q2:b=P
    .subst q2;rw[hH]at hb;cases hb;refine⟨ps++#[rawInt pos.line,rawInt pos.col,.ref c'],ja _ htb,?_,.inr ⟨c',?_,cT,hrec2⟩⟩
     .rw[Array.toList_append];exact TriplesOk_snoc _ _ _ _ t
     .rw[Array.toList_append];exact codeAmong_snoc _ t hnf
    .refine(I.hok b o hb).stay (λd u hd e1=>up d u ?_ e1) (λd hd=>by rw[bf (hne d _ hd)];exact hd) λd xs hd=>by rw[bf (hne d _ hd)];exact hd
     rcases hd with rfl|hd
     .exact q2
     .exact λz=>by rw[z,hH]at hd;cases hd
  have I2:Inv X z5 J (aT H c' (.own P)) {s with heap:=h'.push (W.kla_obj "<lambda>" (X.env.qual++"<lambda>") params body scope zr ((X.mg "__name__").getD .none) c' ctv),toks:=tk}:=
   I.step (g':=s.gens) (d':=s.drawn) (ch:=[]) (λ_ z=>nomatch z) (λb o _ _ _ e1 n=>up b o (nP b n) e1) (λb o _ _ _ e1 n=>⟨o.slots,up b o (nP b n) e1⟩)
    (λb o _ e1 n=>by rw[bf (jl (jr (j9 e1) hge))];exact n)
    (λb o _ e1=>by
      by_cases q:b=P
      .rw[q];exact⟨_,ja _ htb⟩
      .exact⟨o,up b o q e1⟩)
    (λb xs h=>by rw[bf (hne b _ h)];exact h) (λb o u h=>by rw[bf (hne b _ h)];exact h) (λb ps h=>⟨#[],by rw[bf (hne b _ h),h];simp⟩)
    (λm hn=>(hn.extBut hx (nP _ I.free)).push _) hok I.bare
  have hfs:s.heap.objs.size<=h'.objs.size:=ju hge (Nat.le_of_lt hlt);refine k h'.objs.size c' ctv _ _ I2 (λa o h=>by rw[bf (hne a o h)];exact h) (λa h=>?_) (jq _ rfl) ?_ hfs hrec2 cT ⟨ps++#[rawInt pos.line,rawInt pos.col,.ref c'],ja _ htb,by rw[Array.toList_append];exact TriplesOk_snoc _ _ _ _ t,by rw[Array.toList_append];exact codeAmong_snoc _ t hnf⟩
  .by_cases q:a=c'
   .rw[q];exact .inr hge
   .rw[bf q]at h;exact .inl h
  .rw[bf (Nat.ne_of_gt hlt)];exact I.hok.fresh hfs
 .refine W.kla_makeFunctionHit (mg:=X.mg) hcl hge0 hgs zx (C.keeps I.bk) e t hf hb' λctv h' tk hk hsz=>?_;have up:∀b o,s.heap.get? b=some o->(h'.push (W.kla_obj "<lambda>" (X.env.qual++"<lambda>") params body scope zr ((X.mg "__name__").getD .none) c' ctv)).get? b=some o:=λb o e=>ja _ (hk b o e);have I2:Inv X z5 J H {s with heap:=h'.push (W.kla_obj "<lambda>" (X.env.qual++"<lambda>") params body scope zr ((X.mg "__name__").getD .none) c' ctv),toks:=tk}:=
   I.step (g':=s.gens) (d':=s.drawn) (ch:=[]) (λ_ z=>nomatch z) (λb o _ _ _ e1 n=>up b o e1) (λb o _ _ _ e1 n=>⟨o.slots,up b o e1⟩) (λb o _ e1 n=>n) (λb o _ e1=>⟨o,up b o e1⟩) (λb xs h=>h) (λb o u h=>h) (λb ps h=>⟨#[],by rw[h];simp⟩)
    (λm hn=>hn.keeps up) (I.hok.kept up) I.bare
  exact k h'.objs.size c' ctv _ _ I2 (λa o h=>h) (λa h=>.inl h) (jq _ rfl) (I.hok.fresh hsz) hsz (hcd.keeps up) hc ⟨ps,up _ _ e,t,hf⟩
end
section
open PySem.SeqAt PySem.MeetsSeq PySem.MeetsSeq2 PySem.MeetsSeq3
def mB{ρ:Model}{A:Around}{E:Z0}{s:Shared}{l:Addr}{items:Zd}{n:Nat}{dd:Zc}{sl:Array (Option Value)}{Q:Array Value->Shared->Prop}(h:s.heap.get? l=some {cls:=.type "list",dict:=dd,data:=.seq items n,slots:=sl})(q:Q items s):wpAny ρ A (Builtin.List.listItems (.ref l)) Q E s:=by unfold Builtin.List.listItems;exact j6 (xv h rfl (j8 q))
def mq:∀{vs:Ze} {ns:Zf},IntsAre vs ns->∀{i:Nat} {a:Int},ns[i]? =some a->∃t,vs[i]? =some (.int a t):=by
 intro vs ns h;induction h with
 |nil=>intro i a e;simp at e
 | cons a t _ ih=>
  intro i b e;cases i with
  |zero=>cases e;exact⟨t,rfl⟩
  |succ i=>exact ih e
def qq5(l b:Addr)(items zb:Zd)(n n2:Nat)(dd dd2:Zc)(sl sl2:Array (Option Value))(ns ms:Zf)(hi:IntsAre items.toList ns)(hj:IntsAre zb.toList ms)(hl:ns.length=ms.length):
 ∀(k i:Nat),ns.length-i=k->i<=ns.length->Meets (Builtin.«list.__eq__.loop» ⟨[.ref l,.ref b,rawInt i,rawInt 0],[]⟩)
   (λ_ R s=>s.heap.get? l=some {cls:=.type "list",dict:=dd,data:=.seq items n,slots:=sl}/\s.heap.get? b=some {cls:=.type "list",dict:=dd2,data:=.seq zb n2,slots:=sl2}/\
     R (.ok (.ret (.bool (HT.lexLt (ns.drop i) (ms.drop i))))) s):=by
 have z1:items.size=ns.length:=by rw[<-hi.length];simp
 have z2:zb.size=ms.length:=by rw[<-hj.length];simp
 intro k;induction k with
 | zero=>
  intro i hk hle prog w A R s h;obtain⟨h1,h2,h⟩:=h;have e1:items[i]? =none:=Array.getElem?_eq_none (by omega);rw[List.drop_eq_nil_of_le (as:=ns) (by omega),List.drop_eq_nil_of_le (as:=ms) (by omega)]at h;show wpAny _ _ (Builtin.List.listItems (.ref l) >>= _) _ _ s;refine j6 (mB h1 (j6 (mB h2 ?_)));simp only[Int.toNat_natCast,e1];refine j6 (mB h1 (j6 (mB h2 (j8 ?_))));have ez:items.size=zb.size:=by omega
  show R (.ok (.ret (.bool (decide (items.size<zb.size))))) s;rw[ez,decide_eq_false (xf _)];exact h
 | succ k ih=>
  intro i hk hle prog w A R s h;obtain⟨h1,h2,h⟩:=h;have lt1:i<ns.length:=by omega
  have lt2:i<ms.length:=by omega
  let⟨t,e1⟩:=mq hi (jb lt1);let⟨u,e2⟩:=mq hj (jb lt2);have e1:items[i]? =some (.int ns[i] t):=by simpa using e1
  have e2:zb[i]? =some (.int ms[i] u):=by simpa using e2
  rw[kc lt1,kc lt2,HT.lexLt_cons]at h;show wpAny _ _ (Builtin.List.listItems (.ref l) >>= _) _ _ s;refine j6 (mB h1 (j6 (mB h2 ?_)));simp only[Int.toNat_natCast,e1,e2];let⟨e,he,hiff⟩:=HT.eqAt_int A.in1 s ns[i] t ms[i] u;refine j6 (he prog w _ _ ?_);cases e with
  | true=>
   rw[if_pos (hiff.mp rfl)]at h;simp only[if_true];refine j8 ⟨ki plain_eq_loop _,?_⟩;refine codeAny_builtin entry_eq_loop ?_;rw[ky plain_eq_loop];have ei:rawInt ((i:Int)+1)=rawInt ((i+1:Nat):Int):=by rw[Int.natCast_add];rfl
   rw[ei];exact ih (i+1) (by omega) (by omega) prog w A R s ⟨h1,h2,h⟩
  | false=>
   rw[if_neg (λq=>absurd (hiff.mpr q) Bool.false_ne_true)]at h;simp only[Bool.false_eq_true,if_false];refine j6 (mB h1 (j6 (mB h2 ?_)));simp only[e1,e2];refine j6 (HT.rcLt_int A.in1 s _ t _ u prog w _ _ ?_);exact j8 h
def qay(l b:Addr)(items zb:Zd)(n n2:Nat)(dd dd2:Zc)(sl sl2:Array (Option Value))(ns ms:Zf)(hi:IntsAre items.toList ns)(hj:IntsAre zb.toList ms)(hl:ns.length=ms.length):
 Meets (Builtin.«list.__lt__» ⟨[.ref l,.ref b],[]⟩)
  (λ_ R s=>s.heap.get? l=some {cls:=.type "list",dict:=dd,data:=.seq items n,slots:=sl}/\s.heap.get? b=some {cls:=.type "list",dict:=dd2,data:=.seq zb n2,slots:=sl2}/\
    R (.ok (.ret (.bool (HT.lexLt ns ms)))) s):=λprog w A R s h=>by
 obtain⟨h1,h2,h⟩:=h;have ty:s.TypeIs (.ref b) "list":=⟨_,h2,rfl⟩;show wpAny _ _ (isInstance (.ref b) (.type "list") >>= _) _ _ s;refine j6 (wpAny_isInstance ty (b:=true) sub_list_self ?_);show wpAny _ _ (again (.builtin "list.__eq__.loop" ⟨[.ref l,.ref b,rawInt 0,rawInt 0],[]⟩)) _ _ s;refine j8 ⟨ki plain_eq_loop _,?_⟩;refine codeAny_builtin entry_eq_loop ?_;rw[ky plain_eq_loop];exact qq5 l b items zb n n2 dd dd2 sl sl2 ns ms hi hj hl _ 0 rfl (Nat.zero_le _) prog w A R s ⟨h1,h2,h⟩
end
section
variable{prog:Program}{w:World}{A:Around}{E:Z0}{s:Shared}
def HP{l b:Addr}{items zb:Zd}{ns ms:Zf}{Q:Z0}(hl:s.heap.IsList l items)(hb:s.heap.IsList b zb)(hi:IntsAre items.toList ns)(hj:IntsAre zb.toList ms)(hn:ns.length=ms.length)
 (hu:A.units<cLine) (h:Q (.bool (HT.lexLt ns ms)) s):wpAny (model prog w) A (richCompare .Lt (.ref l) (.ref b)) Q E s:=by
 let⟨⟨cls,dd,data,sl⟩,ho,hc,n,hd⟩:=id hl;let⟨⟨cls2,dd2,data2,sl2⟩,ho2,hc2,n2,hd2⟩:=id hb;simp only at hc hd hc2 hd2;subst hc hd hc2 hd2;exact richCompare_meets_room (op:=.Lt) ⟨_,ho,rfl⟩ ⟨_,ho2,rfl⟩ F.slot_list_lt F.entry_list_lt (F.args_list_lt_2 _ _) (qay l b items zb n n2 dd dd2 sl sl2 ns ms hi hj hn)
  ⟨ho,ho2,show Value.bool (HT.lexLt ns ms)≠Value.notImplemented/\Q (.bool (HT.lexLt ns ms)) s from⟨(λx=>nomatch x),h⟩⟩ hu
end
inductive Cmps(A:Around)(s:Shared):List Value->List Value->Bool->Prop
 |nil:Cmps A s [] [] false
 |eq {x y:Value} {vs ws:Ze} {r:Bool}:SeqAt.EqAt A s x y true->Cmps A s vs ws r->Cmps A s (x::vs) (y::ws) r
 |ne {x y:Value} {vs ws:Ze} {r:Bool}:SeqAt.EqAt A s x y false->(∀(prog:Program) (w:World) (E Q:Z0),Q (.bool r) s->wpAny (model prog w) A (richCompare .Lt x y) Q E s)->vs.length=ws.length->Cmps A s (x::vs) (y::ws) r
def Cmps.len{A:Around}{s:Shared}{vs ws:Ze}{r:Bool}(h:Cmps A s vs ws r):vs.length=ws.length:=by
 induction h with
 |nil=>rfl
 |eq _ _ ih=>rw[jt,jt,ih]
 |ne _ _ e=>rw[jt,jt,e]
section
open PySem.SeqAt
open PySem.AutoSeq1 (wpAny_loadPart')
open PySem.MeetsSeq PySem.MeetsSeq2 PySem.MeetsSeq3
def qa9(l b:Addr)(items zb:Zd)(n n2:Nat)(dd dd2:Zc)(sl sl2:Array (Option Value))(r:Bool):
 Meets (Builtin.«tuple.__lt__» ⟨[.ref l,.ref b],[]⟩)
  (λA R s=>s.heap.get? l=some {cls:=.type "tuple",dict:=dd,data:=.seq items n,slots:=sl}/\s.heap.get? b=some {cls:=.type "tuple",dict:=dd2,data:=.seq zb n2,slots:=sl2}/\
    Cmps A.in1 s items.toList zb.toList r/\R (.ok (.ret (.bool r))) s):=
 .of_wp λprog w A R s h=>by
  obtain⟨hp,g,d,tk,os⟩:=s;obtain⟨hl,hb,hC,h⟩:=h;have f2:=AutoSeq1.sub_tuple_tuple;have z:items.size=zb.size:=by have:=hC.len;simpa using this
  wp_walk using kn hl,kn hb,wpAny_forIn_list _ (λrest b s'=>b.1=none/\s'=⟨hp,g,d,tk,os⟩/\∃(vs ws:Ze),rest=vs.zip ws/\
   Cmps A.in1 ⟨hp,g,d,tk,os⟩ vs ws r) _
  case turn=>
   rintro⟨y,x⟩ rest b s' ⟨hb',rfl,vs,ws,hz,hv⟩;cases hv with
   |nil=>cases hz
   | eq he hr=>
    rw[List.zip_cons_cons]at hz;injection hz with hyx hrest;injection hyx with hy hx;subst hy hx;refine j6 (he prog w _ _ ?_)
    wp_walk
    exact⟨rfl,rfl,_,_,hrest,hr⟩
   | ne he hc hl'=>
    rw[List.zip_cons_cons]at hz;injection hz with hyx hrest;injection hyx with hy hx;subst hy hx;refine j6 (he prog w _ _ ?_);have hri:=hc prog w
    wp_walk using hri
    exact⟨_,rfl,by simpa using h⟩
  case fin=>
   rintro⟨b1,b2⟩ s' ⟨hb',rfl,vs,ws,hz,hv⟩;simp only at hb';subst hb';cases hv with
   | nil=>
    wp_walk
    exact⟨_,rfl,by simpa[Builtin.Tuple.tupleCompareSizes,z]using h⟩
   |eq he hr=>rw[List.zip_cons_cons]at hz;cases hz
   |ne he hc hl'=>rw[List.zip_cons_cons]at hz;cases hz
  case h=>
   exact⟨rfl,rfl,items.toList,zb.toList,rfl,hC⟩
end
section
variable{prog:Program}{w:World}{A:Around}{E:Z0}{s:Shared}
def qkr{l b:Addr}{items zb:Zd}{r:Bool}{Q:Z0}(hl:IsTup s.heap l items)(hb:IsTup s.heap b zb)(hC:Cmps A.in1 s items.toList zb.toList r)
 (hu:A.units<cLine) (h:Q (.bool r) s):wpAny (model prog w) A (richCompare .Lt (.ref l) (.ref b)) Q E s:=by
 let⟨⟨cls,dd,data,sl⟩,ho,hc,n,hd⟩:=id hl;let⟨⟨cls2,dd2,data2,sl2⟩,ho2,hc2,n2,hd2⟩:=id hb;simp only at hc hd hc2 hd2;subst hc hd hc2 hd2;exact richCompare_meets_room (op:=.Lt) ⟨_,ho,rfl⟩ ⟨_,ho2,rfl⟩ F.slot_tuple_lt F.entry_tuple_lt (F.args_tuple_lt_2 _ _) (qa9 l b items zb n n2 dd dd2 sl sl2 r)
  ⟨ho,ho2,hC,show Value.bool r≠Value.notImplemented/\Q (.bool r) s from⟨(λx=>nomatch x),h⟩⟩ hu
end
theorem uw:∀ns:List Int,HT.lexLt ns ns=false
 |[]=>rfl
 |n::ns=>by rw[HT.lexLt_cons,if_pos rfl,uw ns]
def HE{A:Around}{s:Shared}{l b:Addr}{vs ws:Ze}{ns ms:Zf}(hl:s.heap.IsList l vs.toArray)(hb:s.heap.IsList b ws.toArray)(hi:IntsAre vs ns)(hj:IntsAre ws ms)(hn:ns.length=ms.length)(hu:A.units<cLine):SeqAt.EqAt A s (.ref l) (.ref b) (decide (ns=ms)):=by
 by_cases q:l=b
 .subst q;have e:vs=ws:=by
   obtain⟨o,e1,c1,n1,d1⟩:=hl;obtain⟨o2,e2,c2,n2,d2⟩:=hb;rw[e1]at e2;cases e2;rw[d1]at d2;injection d2 with d3 _;simpa using d3
  subst e;have en:ns=ms:=by
   apply List.ext_getElem?;intro i;by_cases h:i<ns.length
   .let⟨t,e1⟩:=mq hi (jb h);let⟨u,e2⟩:=mq hj (jb (show i<ms.length by omega));rw[e1]at e2;injection e2 with e3;injection e3 with e4 _;rw[jb h,jb (show i<ms.length by omega),e4]
   .rw[x9 (by omega),x9 (by omega)]
  rw[decide_eq_true en];exact SeqAt.EqAt.same _
 .have lv:vs.length=ns.length:=hi.length;have lw:ws.length=ms.length:=hj.length;have h:=SeqAt.RcAt.lists (A:=A) (e:=λj=>decide (ns[j]? =ms[j]?)) hl hb (by simp;omega) hu λj h1 h2=>by
   have h1':j<ns.length:=by simp at h1;omega
   have h2':j<ms.length:=by omega
   let⟨t,e1⟩:=mq hi (jb h1');let⟨u,e2⟩:=mq hj (jb h2');let⟨e,he,hiff⟩:=HT.eqAt_int A.in1 s ns[j] t ms[j] u;have g1:vs.toArray[j]=.int ns[j] t:=by have:=(List.getElem?_eq_some_iff.mp e1).2;simpa using this
   have g2:ws.toArray[j]=.int ms[j] u:=by have:=(List.getElem?_eq_some_iff.mp e2).2;simpa using this
   rw[g1,g2];have ee:decide (ns[j]? =ms[j]?)=e:=by
    rw[jb h1',jb h2'];cases e with
    |true=>simp[hiff.mp rfl]
    | false=>
     have:¬ns[j]=ms[j]:=λz=>absurd (hiff.mpr z) (by decide);simp[this]
   rw[ee];exact he
  have ea:(List.range vs.toArray.size).all (λj=>decide (ns[j]? =ms[j]?))=decide (ns=ms):=by
   rw[Bool.eq_iff_iff];simp only[List.all_eq_true,decide_eq_true_eq,List.mem_range,List.size_toArray];constructor
   .intro z;apply List.ext_getElem?;intro i;by_cases hi:i<ns.length
    .exact z i (by omega)
    .rw[x9 (by omega),x9 (by omega)]
   .intro z i _;rw[z]
  rw[ea]at h;exact SeqAt.EqAt.of_refs q h
def mm(a c:Int)(ns ms:Zf):Bool:=if a=c then HT.lexLt ns ms else decide (a<c)
def qhj{prog:Program}{w:World}{A:Around}{E:Z0}{s:Shared}{l b p q:Addr}{a c:Int}{t u:Tok}{vs ws:Ze}{ns ms:Zf}{Q:Z0}(hl:IsTup s.heap l #[.int a t,.ref p])(hb:IsTup s.heap b #[.int c u,.ref q])(hp:s.heap.IsList p vs.toArray)(hq:s.heap.IsList q ws.toArray)(hi:IntsAre vs ns)(hj:IntsAre ws ms)(hn:ns.length=ms.length)
 (hu:A.units+1<cLine) (h:Q (.bool (mm a c ns ms)) s):wpAny (model prog w) A (richCompare .Lt (.ref l) (.ref b)) Q E s:=by
 have hu1:A.in1.units<cLine:=hu;refine qkr (r:=mm a c ns ms) hl hb ?_ (by omega) h;let⟨e,he,hiff⟩:=HT.eqAt_int A.in1 s a t c u;unfold mm;cases e with
 | true=>
  have eac:=hiff.mp rfl;rw[if_pos eac];refine .eq he ?_;have ee:=HE (A:=A.in1) hp hq hi hj hn hu1;by_cases z:ns=ms
  .rw[decide_eq_true z]at ee;subst z;rw[uw];exact .eq ee .nil
  .rw[decide_eq_false z]at ee;exact .ne ee (λprog w E Q h=>HP hp hq (by simpa using hi) (by simpa using hj) hn hu1 h) rfl
 | false=>
  rw[if_neg λz=>absurd (hiff.mpr z) (by decide)];exact .ne he (λprog w E Q h=>HT.rcLt_int A.in1 s a t c u prog w E Q h) rfl
def qk6{a d:Value}:argsOk "min" ⟨[a],[(Str.ofString "default",d)]⟩:=by kernel_rfl
section
variable{prog:Program}{w:World}{A:Around}{E:Z0}{s:Shared}{Q:Z0}{p:Addr}{its:Zd}{bt:Nat->Nat->Bool}
def E9(hh:A.in1.handled=none)(hl:s.heap.IsList p its){kw:List (Str×Value)}{dflt:Option Value}(hk:kw=dflt.toList.map λd=>(Str.ofString "default",d))
 (zq:jN prog w A.in1 s.heap.objs.size (s.heap.objs.size+1) s its bt)
 (hD:its.size=0->∃d,dflt=some d/\∀s',Kq s s'->Q d s') (hQ:∀v s',its[argBest bt (its.size-1)]? =some v->Kq s s'->Q v s'):
 wpAny (model prog w) A.in1 (do let it <-pyIter (.ref p);let b <-newList [];again (.builtin "min.loop" ⟨[it,.none,b],kw⟩)) (λfin s'=>match fin with
  | .done f=>(match (Except.ok f:Result)with
   |.ok (.ret v)=>Q v s'
   |.ok _=>False
   |.error e=>E e s')
  | .again c'=>c'.quiet=true/\codeAny (model prog w) A c' (λr s'=>match r with
   |.ok (.ret v)=>Q v s'
   |.ok _=>False
   |.error e=>E e s') s') E s:=by
 have lp:p<s.heap.objs.size:=by obtain⟨o,e,_⟩:=hl;exact j9 e
 refine j6 (wpAny_pyIter_list hl ?_);refine j6 (xx ?_ (by first|exact Nat.zero_le _|(show(0:Nat)<=sizeLine;exact Nat.zero_le _)));refine j8 ⟨ki kj _,?_⟩;have push2:∀b o,s.heap.get? b=some o->((s.heap.push {cls:=.type "list_iterator",data:=.fields #[.ref p,.int 0 0]}).push {cls:=.type "list",data:=.seq #[]}).get? b=some o:=λb o e=>ja _ (ja _ e);have sz:(s.heap.push {cls:=.type "list_iterator",data:=.fields #[.ref p,.int 0 0]}).objs.size=s.heap.objs.size+1:=xj _ _;have kq:∀s',Kp s.heap.objs.size (s.heap.objs.size+1) s s'->Kq s s':=λs' k=>⟨λb o e=>k.heap b o (jl (j9 e)) (jl (Nat.lt_succ_of_lt (j9 e))) e,k.gens,k.drawn,k.os⟩;dsimp only;rw[sz];refine qeu (s0:=s) hh (jl lp) (Nat.ne_of_gt (Nat.lt_succ_self _)) (Nat.ne_of_gt (Nat.lt_succ_of_lt lp)) zq (λv s' e k=>hQ v s' e (kq s' k)) (λh0=>?_) (c:=0) ⟨⟨_,ja _ (jq _ rfl),rfl,rfl⟩,?_⟩ ?_ ⟨λb o _ _ e=>push2 b o e,rfl,rfl,rfl⟩
 .let⟨d,e,k⟩:=hD h0;subst e;exact⟨_,d,[],by rw[hk];rfl,λs' k'=>k s' (kq s' k')⟩
 .obtain⟨o,e,c⟩:=hl;exact⟨o,push2 p o e,c⟩
 .have:=jq (s.heap.push {cls:=.type "list_iterator",data:=.fields #[.ref p,.int 0 0]}) (o:={cls:=.type "list",data:=.seq #[]}) rfl;rw[sz]at this;exact this
def qju(hh:A.in1.handled=none)(hl:s.heap.IsList p its){d:Value}(zq:jN prog w A.in1 s.heap.objs.size (s.heap.objs.size+1) s its bt)
 (hD:its.size=0->∀s',Kq s s'->Q d s') (hQ:∀v s',0<its.size->its[argBest bt (its.size-1)]? =some v->Kq s s'->Q v s'):wpAny (model prog w) A (call (.builtin "min") [.ref p] [(Str.ofString "default",d)]) Q E s:=by
 refine kmk_tree F.kind_min F.plain_min F.entry_min (qk6) ?_;show wpAny _ _ (Builtin.Builtins.bindParams "min" ["key","default"] 0 ⟨[],[(Str.ofString "default",d)]⟩ >>= _) _ _ s;refine j6 (wpAny_of_eq (show _=pure [none,some d]from by rfl) ?_);show wpAny _ _ (pure (Value.ref p) >>= _) _ _ s;refine j6 (j8 ?_);dsimp only;rw[show(toString "min"++toString ".loop")="min.loop" from by decide];exact E9 hh hl (dflt:=some d) rfl zq (λh=>⟨d,rfl,hD h⟩) λv s' e k=>hQ v s' (by
  rcases Nat.eq_zero_or_pos its.size with z|z
  .rw[Array.getElem?_eq_none (by omega)]at e;cases e
  .exact z) e k
def qjt(hh:A.in1.handled=none)(hl:s.heap.IsList p its)(h0:0<its.size)(zq:jN prog w A.in1 s.heap.objs.size (s.heap.objs.size+1) s its bt)
 (hQ:∀v s',its[argBest bt (its.size-1)]? =some v->Kq s s'->Q v s'):wpAny (model prog w) A (call (.builtin "min") [.ref p]) Q E s:=by
 refine kmk_tree F.kind_min F.plain_min F.entry_min (F.args_min1 _) ?_;show wpAny _ _ (Builtin.Builtins.bindParams "min" ["key","default"] 0 ⟨[],[]⟩ >>= _) _ _ s;refine j6 (wpAny_of_eq (show _=pure [none,none]from by rfl) ?_);show wpAny _ _ (pure (Value.ref p) >>= _) _ _ s;refine j6 (j8 ?_);dsimp only;rw[show(toString "min"++toString ".loop")="min.loop" from by decide];exact E9 hh hl (dflt:=none) rfl zq (λh=>absurd h (by omega)) hQ
end
def qfi{α:Type}{lt:α->α->Bool}{f:Nat->α}(h1:∀a,lt a a=false)(h2:∀a b c,lt a b=true->lt c b=false->lt c a=false)(n:Nat):argBest (λi j=>lt (f i) (f j)) n<=n/\∀i,i<=n->lt (f i) (f (argBest (λi j=>lt (f i) (f j)) n))=false:=by
 induction n with
 | zero=>
  rw[argBest];exact⟨jc _,λi hi=>by rw[Nat.le_zero.mp hi];exact h1 _⟩
 | succ n ih=>
  obtain⟨h3,h4⟩:=ih;rw[argBest];cases q:lt (f (n+1)) (f (argBest (λi j=>lt (f i) (f j)) n))with
  | true=>
   rw[if_pos rfl];refine⟨jc _,λi hi=>?_⟩;rcases Nat.lt_or_ge i (n+1)with z|z
   .exact h2 _ _ _ q (h4 i (by omega))
   .have e:i=n+1:=by omega
    rw[e];exact h1 _
  | false=>
   rw[if_neg (by decide)];refine⟨by omega,λi hi=>?_⟩;rcases Nat.lt_or_ge i (n+1)with z|z
   .exact h4 i (by omega)
   .have e:i=n+1:=by omega
    rw[e];exact q
def wG{X:Cx}{z5:Z3}{J:St}{H:Hp}{s s':Shared}(I:Inv X z5 J H s)(k:Kq s s'):Inv X z5 J H s':=by
 have es:s'={s with heap:=s'.heap,toks:=s'.toks}:=by obtain⟨h2,g2,d2,t2,o2⟩:=s';obtain⟨_,eg,ed,eo⟩:=k;cases eg;cases ed;cases eo;rfl
 rw[es];exact I.kept k.heap
noncomputable def uD(ns:Zf):Nat->Nat->Bool:=λi j=>decide (ns.getD i 0<ns.getD j 0)
def cX(ns:Zf):Option Int:=match ns with
 |[]=>none
 |_=>some (ns.getD (argBest (uD ns) (ns.length-1)) 0)
def pO(ns:Zf):V:=match cX ns with
 |none=>.non
 |some m=>.int m
def tX{ns:Zf}{m:Int}(h:cX ns=some m):m∈ns/\∀x∈ns,m<=x:=by
 cases ns with
 |nil=>cases h
 | cons a r=>
  cases h;let⟨h1,h2⟩:=qfi (lt:=λ(x y:Int)=>decide (x<y)) (f:=λi=>(a::r).getD i 0) (λa=>by simp) (λa b c=>by simp;omega) ((a::r).length-1);have hb:argBest (uD (a::r)) ((a::r).length-1)<(a::r).length:=Nat.lt_of_le_of_lt h1 (by simp);refine⟨?_,λx hx=>?_⟩
  .rw[ji,jb hb];exact xn hb
  .obtain⟨i,hi,rfl⟩:=List.mem_iff_getElem.mp hx;have:=h2 i (by omega);simp only[decide_eq_false_iff_not]at this;rw[ji (i:=i),jb hi]at this;exact Int.not_lt.mp this
def y6{ns:Zf}(h:cX ns=none):ns=[]:=by
 cases ns with
 |nil=>rfl
 |cons a r=>cases h
def qq2{ns:Zf}{m:Int}(h:m∈ns)(k:∀x∈ns,m<=x):cX ns=some m:=by
 cases q:cX ns with
 |none=>rw[y6 q]at h;cases h
 | some y=>
  let⟨h1,h2⟩:=tX q;have e1:=h2 m h;have e2:=k y h1;congr 1;omega
section
variable{X:Cx}{K:aq}{O:Zg}{e:Expr}{d:Expr}{te:TE}{p kp pos:Pos}{fe:aN}
def Ez(K:aq)(te:TE):TE:=λJ H Q=>te J H λv H1=>∃(p:Addr) (ns:Zf),[v]=[V.ref p]/\SqL K H1 p (ns.map V.int)/\Q (pO ns) H1
def qpe(hK:X.K=K)(hc:X.calm=true)(hg:Gl X "min")(hm:X.mg "min"=none)(ha:PE X e te)(hd:PE X d (tC .non))(he:starEach [e] X.env=(false,eval e X.env)::starEach [] X.env:=by rfl)
 (h1:backTo pos (starEach [e] X.env)=(false,eval e X.env)::backTo pos (starEach [] X.env):=by rfl) (h2:(backTo pos (starEach [e] X.env)).any (·.1)=false:=by rfl)
 (h3:(backToKw pos (keywordEach [⟨some "default",d,kp⟩] X.env)).all (λx=>x.1.isSome)=true:=by rfl) (h4:(backToKw pos (keywordEach [⟨some "default",d,kp⟩] X.env)).any (λx=>x.1.isNone)=false:=by rfl)
 (h5:(backToKw pos (keywordEach [⟨some "default",d,kp⟩] X.env)).filterMap (·.1)=[Str.ofString "default"]:=by rfl):
 PE X (.Call (.Name "min" p) [e] [⟨some "default",d,kp⟩] pos) (Ez K te):=by
 subst hK;intro z5 s J H Q I h;refine xq (ia I hg hm (u:=.builtin "min") (by rfl) ?_);refine callWith_kw (bu ((aj ha av he) pos z5 s J H (λvs H1=>∃(p1:Addr) (ns:Zf),vs=[V.ref p1]/\SqL X.K H1 p1 (ns.map V.int)/\Q (pO ns) H1) I h) λus s1 hh1=>?_) h1 h2 h3 h4;obtain⟨vs,H1,I1,r1,p1,ns,rfl,q1,k⟩:=hh1;obtain⟨u,rfl,ru⟩:=cH r1;cases(show u=Value.ref p1 from ru);refine kws_cons (bu (hd z5 s1 J H1 (λv H2=>v=.non/\H2=H1) I1 ⟨rfl,rfl⟩) λdv s2 hh2=>?_);obtain⟨x,H2,I2,r2,rfl,rfl⟩:=hh2;cases r2;refine kws_nil ?_;rw[h5];let⟨its,rv,pl,hz⟩:=I2.list q1;have ln:its.length=ns.length:=by have:=rv.length;simp at this;omega
 have hh:X.A.in1.handled=none:=I2.ok.hd hc;show wpAny _ _ (call (.builtin "min") [.ref p1] [(Str.ofString "default",.none)]) _ _ s2;refine qju (its:=its.toArray) (bt:=uD ns) hh pl.isList (λi j vi vj s Q E hi hj _ q=>?_) (λh0 s' k'=>?_) λv s' h0 ev k'=>?_
 .obtain⟨t,rfl⟩:=lC rv (by simpa using hi);obtain⟨t',rfl⟩:=lC rv (by simpa using hj);exact HT.rcLt_int _ s _ t _ t' _ _ _ _ (q s ⟨λ_ _ e=>e,rfl,rfl,rfl⟩)
 .have en:ns=[]:=List.eq_nil_of_length_eq_zero (by simp at h0;rw[h0]at ln;simpa using ln.symm);subst en;exact⟨.non,_,wG I2 k',rfl,k⟩
 .have hn:ns≠[]:=λz=>by rw[z]at ln;simp at h0 ln;rw[ln]at h0;exact absurd h0 (by simp)
  rw[jx,ln]at ev;obtain⟨t,rfl⟩:=lC rv (by simpa using ev);refine⟨_,_,wG I2 k',?_,k⟩;unfold pO cX;cases ns with
  |nil=>exact absurd rfl hn
  |cons a r=>exact⟨t,rfl⟩
noncomputable def bZ:Option Int->D
 |none=>.non
 |some m=>.int m
def oN:D->Option D
 |.lst xs=>(c6 xs).map λns=>bZ (cX ns)
 |_=>none
def qq3(h:MB K O te fe):ME K O (Ez K te) (aK oN fe):=λZ J H R M d M' Q S e k=>by
 let⟨x,M1,e1,e⟩:=b9 e;obtain⟨e3,rfl⟩:=c9 e;refine h Z J H R M x _ _ S e1 λv H1 R1 S1 st1 r1=>?_;unfold oN at e3;split at e3
 .rename_i xs;obtain⟨b,vs,rfl,q,r⟩:=r1.isL;cases z:c6 xs with
  |none=>rw[z]at e3;cases e3
  | some ns=>
   rw[z]at e3;cases e3;have ex:=mE r z;subst ex;refine⟨b,ns,rfl,q,k _ H1 R1 S1 st1 ?_⟩;show Rp K R1 (pO ns) (bZ (cX ns));unfold pO;cases cX ns with
   |none=>exact .non
   |some m=>exact .int m
 .cases e3
end
theorem HH:∀a b c:List Int,HT.lexLt a b=true->HT.lexLt c b=false->HT.lexLt c a=false
 |[],[],_,h,_=>by cases h
 |[],_::_,[],_,g=>by cases g
 |[],_::_,_::_,_,_=>rfl
 |_::_,[],_,h,_=>by cases h
 |_::_,_::_,[],_,g=>by cases g
 | x::xs,y::ys,z::zs,h,g=>by
  rw[HT.lexLt_cons]at h g ⊢;by_cases q:x=y
  .rw[if_pos q]at h;subst q;by_cases r:z=x
   .rw[if_pos r]at g ⊢;exact HH xs ys zs h g
   .rw[if_neg r]at g ⊢;exact g
  .rw[if_neg q]at h;simp only[decide_eq_true_eq]at h;by_cases r:z=y
   .rw[if_neg (by omega)];simp;omega
   .rw[if_neg r]at g;simp only[decide_eq_false_iff_not]at g;rw[if_neg (by omega)];simp;omega
def cB(x y:Int×List Int):Bool:=mm x.1 y.1 x.2 y.2
def Hh(x:Int×List Int):cB x x=false:=by unfold cB mm;rw[if_pos rfl,uw]
def t5(a b c:Int×List Int)(h:cB a b=true)(g:cB c b=false):cB c a=false:=by
 unfold cB mm at h g ⊢;by_cases q:a.1=b.1
 .rw[if_pos q]at h;rw[q];by_cases r:c.1=b.1
  .rw[if_pos r]at g ⊢;exact HH _ _ _ h g
  .rw[if_neg r]at g ⊢;exact g
 .rw[if_neg q]at h;simp only[decide_eq_true_eq]at h;by_cases r:c.1=b.1
  .rw[if_neg (by omega)];simp;omega
  .rw[if_neg r]at g;simp only[decide_eq_false_iff_not]at g;rw[if_neg (by omega)];simp;omega
section
variable{X:Cx}{K:aq}{O:Zg}
def PrV(K:aq)(H:Hp)(v:V)(q:Int×List Int):Prop:=∃a b,v=.ref a/\SqT K H a [.int q.1,.ref b]/\SqL K H b (q.2.map V.int)
def Fu{X:Cx}{z5:Z3}{J:St}{H:Hp}{s:Shared}{v:V}{q:Int×List Int}{u:Value}(I:Inv X z5 J H s)(h:PrV X.K H v q)(r:RelV v u):∃a b t vs,u=.ref a/\IsTup s.heap a #[.int q.1 t,.ref b]/\s.heap.IsList b vs.toArray/\IntsAre vs q.2:=by
 obtain⟨a,b,rfl,h1,h2⟩:=h;cases r;let⟨its,rv,p,_⟩:=I.tuple h1;let⟨its2,rv2,p2,_⟩:=I.list h2;cases rv with
 | cons r1 r2=>
  cases r2 with
  | cons r2 r3=>
   cases r3;obtain⟨t,rfl⟩:=r1;cases r2;exact⟨a,b,t,its2,rfl,p,p2.isList,dM rv2⟩
theorem HW:∀{xs:List V} {us:Ze} {i:Nat} {u:Value},Vals xs us->us[i]? =some u->∃x,xs[i]? =some x/\RelV x u
 |_,_,_,_,.nil,e=>by simp at e
 |_,_,0,_,.cons r _,e=>by simp at e;subst e;exact⟨_,rfl,r⟩
 | _,_,i+1,u,.cons _ t,e=>by let⟨x,h1,h2⟩:=HW (i:=i) (u:=u) t (by simpa using e);exact⟨x,by simpa using h1,h2⟩
def pR:D->Option (Int×List Int)
 |.tup [.int a,.lst xs]=>(c6 xs).map λns=>(a,ns)
 |_=>none
noncomputable def aR(q:Int×List Int):D:=.tup [.int q.1,.lst (q.2.map D.int)]
theorem GT:∀{xs:List D} {ns:Zf},c6 xs=some ns->xs=ns.map D.int
 |[],ns,h=>by cases h;rfl
 | d::r,ns,h=>by
  cases d with
  | int i=>
   have h:(c6 r).map (λx=>i::x)=some ns:=h;cases q:c6 r with
   |none=>rw[q]at h;cases h
   | some ms=>
    rw[q]at h;cases h;rw[GT q];rfl
  |_=>cases h
def Ha{R:Hp}{v:V}{d:D}{q:Int×List Int}(r:Rp K R v d)(e:pR d=some q):PrV K R v q/\d=aR q:=by
 unfold pR at e;split at e
 .rename_i a xs;cases z:c6 xs with
  |none=>rw[z]at e;cases e
  | some ns=>
   rw[z]at e;cases e;obtain⟨l,vs,rfl,h,r⟩:=r.isT;obtain⟨v1,_,rfl,r1,r⟩:=r.isC;obtain⟨v2,_,rfl,r2,r⟩:=r.isC;cases r;obtain rfl:=r1.isI;obtain⟨b,ws,rfl,h2,r3⟩:=r2.isL;have ex:=mE r3 z;subst ex;refine⟨⟨l,b,rfl,SqT.of h,h2⟩,?_⟩;unfold aR;rw[GT z]
 .cases e
def PrV.mono{H R:Hp}{v:V}{q:Int×List Int}(s:Same R H)(h:PrV K R v q):PrV K H v q:=by obtain⟨a,b,e,h1,h2⟩:=h;exact⟨a,b,e,Same.tup s h1,Same.sqL s h2⟩
end
def ya(C:Addr)(names:Zj):Sp:=λvs H Q _=>∃(x dx:Addr) (args:List V),vs=.ref x::args/\args.length=names.length/\H x=some (.ins C dx [])/\Q .non (aT H x (.ins C dx (names.zip args)))
section
variable{K:aq}{R:Hp}{O:Zg}{t ta:TE}{tr:TA}{fa fb:aN}{fs:ba}{E:XK}{C:Addr}{x m f:Str}
theorem Rfs.zip:∀{names:Zj} {vs:List V} {ds:List D},Rps K R vs ds->Rfs K R (names.zip vs) (names.zip ds)
 |[],_,_,_=>.nil
 |_::_,_,_,.nil=>.nil
 |_::_,_,_,.cons h r=>.cons h (Rfs.zip r)
theorem Rfs.lookup:∀{fs:List (Str×V)} {gs:List (Str×D)} {d:D},Rfs K R fs gs->gs.lookup f=some d->∃v,fs.lookup f=some v/\Rp K R v d
 |_,_,_,.nil,e=>by cases e
 | _,_,d,.cons (f:=g) (x:=v) (d:=d') h r,e=>by
  rw[List.lookup_cons]at e ⊢;cases q:f==g with
  | true=>
   rw[q]at e;cases e;exact⟨v,rfl,h⟩
  | false=>
   rw[q]at e;exact Rfs.lookup r e
theorem Rfs.lookup_none:∀{fs:List (Str×V)} {gs:List (Str×D)},Rfs K R fs gs->gs.lookup f=none->fs.lookup f=none
 |_,_,.nil,_=>rfl
 | _,_,.cons (f:=g) h r,e=>by
  rw[List.lookup_cons]at e ⊢;cases q:f==g with
  |true=>rw[q]at e;cases e
  | false=>
   rw[q]at e;exact Rfs.lookup_none r e
def pN(x:Str)(names:Zj)(fs:ba):aN:=cj fs λds=>dn (if ds.length=names.length then some (.obj x (names.zip ds))else none)
def Gj{names:Zj}(n:W.nsIn K mainGlobals x=some (some (.ref C)))(h:MA K O tr fs):ME K O (Ex C (ya C names) [] E tr) (pN x names fs):=λZ J H R M d M' Q S e k=>by
 let⟨ds,M1,e1,e⟩:=b9 e;obtain⟨e2,rfl⟩:=c9 e;split at e2
 .rename_i hl;cases e2;refine h Z J H R M ds _ _ S e1 λvs H1 R1 S1 st1 r1=>?_;intro a dx ha hdx hne;refine⟨a,dx,vs,by rw[List.append_nil],by rw[r1.length,hl],cT,rfl,?_⟩;rw[GE];have y1:=Ext.hid (o:=.own a) S1.sub hdx;have ha2:(aT H1 dx (HO.own a)) a=none:=by rw[bf (Ne.symm hne)];exact ha
  have y2:=Ext.new (o:=.ins C dx (names.zip vs)) y1.s ha2;exact k _ _ _ ((S1.ext y1).ext y2) ((st1.trans y1.stp).trans y2.stp) (.obj n cT (Rfs.zip (r1.mono y2.r)))
 .cases e2
def wH(x:Str):aN:=ae (.obj x [])
def qle(n:W.nsIn K mainGlobals x=some (some (.ref C))):ME K O (FP C) (wH x):=λZ J H R M d M' Q S e k=>by
 cases e;intro a dx ha hdx hne;have y1:=Ext.hid (o:=.own a) S.sub hdx;have ha2:(aT H dx (HO.own a)) a=none:=by rw[bf (Ne.symm hne)];exact ha
 have y2:=Ext.new (o:=.ins C dx []) y1.s ha2;exact k _ _ _ ((S.ext y1).ext y2) (y1.stp.trans y2.stp) (.obj n cT .nil)
noncomputable def iU(x f:Str):D->Option D
 |.obj y gs=>if y=x then gs.lookup f else none
 |_=>none
def iR(x f:Str)(fa:aN):aN:=cj fa λd=>dn (iU x f d)
def Fa{C':Addr}(n:W.nsIn K mainGlobals x=some (some (.ref C)))(n':W.nsIn K mainGlobals x=some (some (.ref C'))):C'=C:=by rw[n]at n';cases n';rfl
def wI(n:W.nsIn K mainGlobals x=some (some (.ref C)))(c:Cls K C)(na:NoAttr K C f)(h:ME K O ta fa):ME K O (nq K ta f) (iR x f fa):=λZ J H R M d M' Q S e k=>by
 let⟨d0,M1,e1,e⟩:=b9 e;obtain⟨e2,rfl⟩:=c9 e;refine h Z J H R M _ _ _ S e1 λv H1 R1 S1 st1 r1=>?_;cases d0 with
 | obj y gs=>
  have e3:(if y=x then gs.lookup f else none)=some d:=e2;split at e3
  .rename_i hy;subst hy;cases r1 with
   | obj n' hR rf=>
    have hC:=Fa n n';subst hC;let⟨v',hl,rv⟩:=rf.lookup e3;exact⟨_,_,_,_,v',rfl,S1.sub _ _ hR,c,na,hl,k v' H1 R1 S1 st1 rv⟩
  .cases e3
 |_=>cases e2
noncomputable def jW(x m:Str)(f:List D->Option D)(d:D)(ds:List D):Option D:=match d with
 |.obj y gs=>if y=x/\gs.lookup m=none then f (d::ds)else none
 |_=>none
def pd(x m:Str)(f:List D->Option D)(fa:aN)(fs:ba):aN:=cj fa λd=>cj fs λds=>dn (jW x m f d ds)
def yl{k0:Nat}{g:List D->Option D}(n:W.nsIn K mainGlobals x=some (some (.ref C)))(hg:b8 k0 g)(h:ME K O ta fa)(ha:MA K O tr fs):ME K O (Ey C m (cc K false k0 g) [] E ta tr) (pd x m g fa fs):=λZ J H R M d M' Q S e k=>by
 let⟨d0,M1,e1,e⟩:=b9 e;let⟨ds,M2,e2,e⟩:=b9 e;obtain⟨e3,rfl⟩:=c9 e;refine h Z J H R M _ _ _ S e1 λv H1 R1 S1 st1 r1=>?_;cases d0 with
 | obj y gs=>
  have e4:(if y=x/\gs.lookup m=none then g (.obj y gs::ds)else none)=some d:=e3;split at e4
  .rename_i hy;obtain⟨hy,hm⟩:=hy;subst hy;have r1':=r1;cases r1 with
   | obj n' hR rf=>
    have hC:=Fa n n';subst hC;refine⟨_,_,_,rfl,S1.sub _ _ hR,rf.lookup_none hm,?_⟩;refine ha Z J H1 R1 M1 ds _ _ S1 e2 λvs H2 R2 S2 st2 r2=>?_;rw[List.append_nil];have r3:=Rps.cons (r1'.mono st2.r) r2;exact⟨by rw[r3.length];exact hg _ d e4,R2,_,d,S2.sub,r3,e4,λv H3 R3 y q=>k v H3 R3 (S2.ext y) ((st1.trans st2).trans y.stp) q⟩
  .cases e4
 |_=>cases e3
noncomputable def iP(f g:aN):aN:=λM=>match f M with
 |some r=>some r
 |none=>g M
def E8{t1 t2:TE}(h1:ME K O t1 fa)(h2:ME K O t2 fb):ME K O (λJ H Q=>t1 J H Q∨t2 J H Q) (iP fa fb):=λZ J H R M d M' Q S e k=>by
 unfold iP at e;cases e1:fa M with
 | some q=>
  rw[e1]at e;cases e;exact .inl (h1 Z J H R M d M' Q S e1 k)
 | none=>
  rw[e1]at e;exact .inr (h2 Z J H R M d M' Q S e k)
def qr3{M:aA}{names:Zj}:pN x names fs M=(fs M).bind λp=>(if p.1.length=names.length then some (D.obj x (names.zip p.1))else none).map λy=>(y,p.2):=by unfold pN;rw[cM];congr 1;funext p;rw[eZ]
def qwh{M:aA}:iR x f fa M=(fa M).bind λp=>(iU x f p.1).map λy=>(y,p.2):=by unfold iR;rw[cM];congr 1;funext p;rw[eZ]
def qr2{M:aA}{g:List D->Option D}:pd x m g fa fs M=(fa M).bind λp=>(fs p.2).bind λq=>(jW x m g p.1 q.1).map λy=>(y,q.2):=by unfold pd;rw[cM];congr 1;funext p;rw[cM];congr 1;funext q;rw[eZ]
def qwa{M:aA}:iP fa fb M=(fa M).or (fb M):=by unfold iP;cases fa M<;>rfl
end
end L2
namespace L2
open PySem
inductive Told where
 |clear (b:Int)
 |gap
 |soft (z o:Int)
noncomputable def bo:Told->D
 |.clear b=>.tup [.str "clear",.int b]
 |.gap=>.tup [.str "gap"]
 |.soft z o=>.tup [.str "soft",.int z,.int o]
noncomputable def bG:Told->D
 |.clear b=>.obj "Clear" [("bit",.int b)]
 |.gap=>.obj "Gap" []
 |.soft z o=>.obj "Soft" [("zero",.int z),("one",.int o)]
noncomputable def gG:Told->Int->Int
 |.clear b,x=>if x=b then 0 else 1
 |.gap,_=>0
 |.soft z o,x=>if x=1 then o else z
def gg(ts:List Told)(bits:Zf):Int:=((ts.zip bits).map λq=>gG q.1 q.2).sum
def yK{x m:Str}{f:List D->Option D}{gs:List (Str×D)}{ds:List D}(h:gs.lookup m=none):jW x m f (.obj x gs) ds=f (.obj x gs::ds):=if_pos ⟨rfl,h⟩
def yZ{x y m:Str}{f:List D->Option D}{gs:List (Str×D)}{ds:List D}(h:¬y=x):jW x m f (.obj y gs) ds=none:=if_neg λq=>h q.1
def yi{x f:Str}{gs:List (Str×D)}{d:D}(h:gs.lookup f=some d):iU x f (.obj x gs)=some d:=(if_pos rfl).trans h
def bK(U:Zf)(G:Z9)(N:Nat):List Int:=(List.range N).flatMap λk=>List.replicate (bF U G k).length (k:Int)
def IC{za:Bool}{n:Nat}{U:Zf}{G:Z9}(w:Zf):∀N,(bK U G N).length=(mP za n U G w N).length:=λN=>by
 unfold bK mP;induction N with
 |zero=>rfl
 |succ N ih=>rw[jI,jI,jh,jh,ih,jw,j7]
def qE(xs ys:List D):cU xs ys=(xs.zip ys).map λq=>D.tup [q.1,q.2]:=by unfold cU;rw[List.zip,List.map_zipWith]
theorem qF{α β γ δ:Type}(f:α->γ)(g:β->δ):∀(xs:List α) (ys:List β),(xs.map f).zip (ys.map g)=(xs.zip ys).map λq=>(f q.1,g q.2)
 |[],_=>rfl
 |_::_,[]=>rfl
 | x::xs,y::ys=>by show(f x,g y)::(xs.map f).zip (ys.map g)=(f x,g y)::(xs.zip ys).map _;rw[qF f g xs ys]
def qW:bV (.str "gap") (.str "clear")=some false:=by rw[ig (by decide+kernel) (by decide+kernel)];decide+kernel
def qV:bV (.str "soft") (.str "clear")=some false:=by rw[ig (by decide+kernel) (by decide+kernel)];decide+kernel
def qT:bV (.str "soft") (.str "gap")=some false:=by rw[ig (by decide+kernel) (by decide+kernel)];decide+kernel
def qX:bV (.str "clear") (.str "clear")=some true:=by rw[ig (by decide+kernel) (by decide+kernel)];decide+kernel
def qU:bV (.str "gap") (.str "gap")=some true:=by rw[ig (by decide+kernel) (by decide+kernel)];decide+kernel
abbrev Mv:=Int×Int
abbrev Sx:=List (List Mv)
abbrev Rw:=List (Option Int)
noncomputable def dy(t:Rw)(z6:Int):Option Int:=(t[z6.toNat]?).join
def du(q:Mv)(z9:Rw):Option Int:=(dy z9 q.1).map λx=>q.2+x
def fG(ch:List Mv)(z9:Rw):Option Int:=cX ((ch.map λq=>du q z9).filterMap id)
noncomputable def bT:List Sx->Rw->List Rw
 |[],ends=>[ends]
 |st::rest,ends=>(st.map λch=>fG ch ((bT rest ends).headD []))::bT rest ends
noncomputable def cw(st:Sx)(z6:Int):List Mv:=st.getD z6.toNat []
noncomputable def eI:List Sx->Rw->Int->List Int->Option Int
 |[],ends,z6,_=>dy ends z6
 | st::rest,ends,z6,b::bs=>match (cw st z6)[b.toNat]? with
  |some q=>(eI rest ends q.1 bs).map λx=>q.2+x
  |none=>none
 |_::_,_,_,[]=>none
def jB(st:Sx)(t t':Rw)(z6:Int):Int:=if du ((cw st z6).getD 0 (0,0)) t'=dy t z6 then 0 else 1
noncomputable def gk:Nat->List Sx->List Rw->Int->List Int
 |0,_,_,_=>[]
 |_+1,[],_,_=>[]
 |_+1,_::_,[],_=>[]
 |n+1,st::rest,t::ts,z6=>jB st t (ts.headD []) z6::gk n rest ts ((cw st z6).getD (jB st t (ts.headD []) z6).toNat (0,0)).1
def y7(st:Sx)(rest:List Sx)(ends:Rw)(z6 b:Int)(bs:Zf):eI (st::rest) ends z6 (b::bs)=match (cw st z6)[b.toNat]? with
 |some q=>(eI rest ends q.1 bs).map λx=>q.2+x
 |none=>none:=rfl
def zI(n:Nat)(st:Sx)(rest:List Sx)(t:Rw)(ts:List Rw)(z6:Int):gk (n+1) (st::rest) (t::ts) z6=jB st t (ts.headD []) z6::gk n rest ts ((cw st z6).getD (jB st t (ts.headD []) z6).toNat (0,0)).1:=rfl
theorem zn:∀(steps:List Sx) (ends:Rw),(bT steps ends).length=steps.length+1
 |[],_=>rfl
 | _::rest,ends=>by unfold bT;rw[jt,zn rest ends,jt]
theorem zG:∀(steps:List Sx) (ends:Rw) (k:Nat),k<=steps.length->(bT steps ends).drop k=bT (steps.drop k) ends
 |_,_,0,_=>rfl
 |[],_,k+1,h=>by simp at h
 | _::rest,ends,k+1,h=>by show(bT rest ends).drop k=bT (rest.drop k) ends;exact zG rest ends k (by simpa using h)
def yY{ch:List Mv}{z9:Rw}{q:Mv}{x:Int}(h:q∈ch)(e:du q z9=some x):x∈(ch.map λq=>du q z9).filterMap id:=by rw[List.mem_filterMap];exact⟨some x,List.mem_map.mpr ⟨q,h,e⟩,rfl⟩
def tP{st:Sx}{f:List Mv->Option Int}{z6:Int}{ch:List Mv}(h:st[z6.toNat]? =some ch):dy (st.map f) z6=f ch:=by unfold dy;rw[je,h];rfl
def ug{st:Sx}{z6:Int}{ch:List Mv}(h:st[z6.toNat]? =some ch):cw st z6=ch:=by unfold cw;rw[ji,h];rfl
def F8{st:Sx}{z6:Int}{i:Nat}{q:Mv}(h:(cw st z6)[i]? =some q):st[z6.toNat]? =some (cw st z6):=by
 unfold cw at h ⊢;rw[ji]at h ⊢;cases e:st[z6.toNat]? with
 |none=>rw[e]at h;simp at h
 |some ch=>rfl
theorem yB:∀(steps:List Sx) (ends:Rw) (z6:Int) (us:Zf) (c:Int),eI steps ends z6 us=some c->∃m,dy ((bT steps ends).headD []) z6=some m/\m<=c
 |[],ends,z6,us,c,h=>⟨c,h,Int.le_refl _⟩
 |st::rest,ends,z6,[],c,h=>by cases h
 | st::rest,ends,z6,b::bs,c,h=>by
  unfold eI at h;cases e:(cw st z6)[b.toNat]? with
  |none=>rw[e]at h;cases h
  | some q=>
   rw[e]at h;simp only at h;cases e1:eI rest ends q.1 bs with
   |none=>rw[e1]at h;cases h
   | some c1=>
    rw[e1]at h;cases h;let⟨m1,h1,h2⟩:=yB rest ends q.1 bs c1 e1;have hc:du q ((bT rest ends).headD [])=some (q.2+m1):=by unfold du;rw[h1];rfl
    have hm:=yY (xk e) hc;show∃m,dy (st.map λch=>fG ch ((bT rest ends).headD [])) z6=some m/\_;rw[tP (F8 e)];unfold fG;cases e2:cX (((cw st z6).map λq=>du q ((bT rest ends).headD [])).filterMap id)with
    |none=>rw[y6 e2]at hm;cases hm
    | some m=>
     have:=(tX e2).2 _ hm;exact⟨m,rfl,by show m<=q.2+c1;omega⟩
def OkS(ρ:Nat):Nat->List Sx->Prop
 |_,[]=>True
 |n,st::rest=>st.length=ρ/\(∀ch∈st,ch.length=(if n=0 then 1 else 2)/\∀q∈ch,0<=q.1/\q.1.toNat<ρ)/\OkS ρ (n-1) rest
noncomputable def jY(k:Nat):List Int:=List.replicate k 0
def Ik(a:Int)(xs ys:Zf):HT.lexLt (a::xs) (a::ys)=HT.lexLt xs ys:=by rw[HT.lexLt_cons,if_pos rfl]
def qes{q:Mv}{z9:Rw}:fG [q] z9=du q z9:=by
 unfold fG;cases h:du q z9 with
 |none=>simp[h];rfl
 | some x=>
  simp[h];exact qq2 (by simp) (by simp)
def Hq{q0 q1:Mv}{z9:Rw}{m:Int}(h:fG [q0,q1] z9=some m):(du q0 z9=some m∨du q1 z9=some m)/\(∀x,du q0 z9=some x->m<=x)/\∀x,du q1 z9=some x->m<=x:=by
 unfold fG at h;let⟨h1,h2⟩:=tX h;refine⟨?_,λx hx=>h2 x (yY (by simp) hx),λx hx=>h2 x (yY (by simp) hx)⟩;rw[List.mem_filterMap]at h1;obtain⟨o,ho,eo⟩:=h1;have eo:o=some m:=eo;subst eo;simp at ho;rcases ho with ho|ho
 .exact .inl ho.symm
 .exact .inr ho.symm
def two_of{α:Type}{xs:List α}(h:xs.length=2):∃a b,xs=[a,b]:=by
 match xs,h with
 |[a,b],_=>exact⟨a,b,rfl⟩
theorem ui(ρ:Nat):∀(steps:List Sx) (n:Nat) (ends:Rw) (z6:Int) (m:Int),OkS ρ n steps->n<=steps.length->(0<=z6/\z6.toNat<ρ)->dy ((bT steps ends).headD []) z6=some m->
 ay (gk n steps (bT steps ends) z6)/\(gk n steps (bT steps ends) z6).length=n/\eI steps ends z6 (gk n steps (bT steps ends) z6++jY (steps.length-n))=some m/\
 ∀w,ay w->w.length=n->eI steps ends z6 (w++jY (steps.length-n))=some m->HT.lexLt w (gk n steps (bT steps ends) z6)=false
 |[],0,ends,z6,m,_,_,_,h=>⟨λb h=>(nomatch h),rfl,h,λw _ hw _=>by rw[List.eq_nil_of_length_eq_zero hw];rfl⟩
 |[],n+1,_,_,_,_,hn,_,_=>by simp at hn
 | st::rest,0,ends,z6,m,ok,_,hr,h=>by
  obtain⟨o1,o2,o3⟩:=ok;have hlt:z6.toNat<st.length:=by rw[o1];exact hr.2
  have es:st[z6.toNat]? =some st[z6.toNat]:=jb hlt;let⟨c1,c2⟩:=o2 _ (xn hlt);rw[if_pos rfl]at c1;let⟨q,eq⟩:=List.length_eq_one_iff.mp c1;have h:dy (st.map λch=>fG ch ((bT rest ends).headD [])) z6=some m:=h;rw[tP es,eq,qes]at h;unfold du at h;cases e1:dy ((bT rest ends).headD []) q.1 with
  |none=>rw[e1]at h;cases h
  | some m1=>
   rw[e1]at h;cases h;have hq:=c2 q (by rw[eq];simp);let⟨_,_,g3,_⟩:=ui ρ rest 0 ends q.1 m1 (by simpa using o3) (Nat.zero_le _) hq e1;refine⟨λb h=>(nomatch h),rfl,?_,λw _ hw _=>by rw[List.eq_nil_of_length_eq_zero hw];rfl⟩;show eI (st::rest) ends z6 ([]++jY (rest.length+1-0))=_;have ez:jY (rest.length+1-0)=0::jY rest.length:=rfl;rw[List.nil_append,ez];unfold eI;rw[ug es,eq];simp only[Int.toNat_zero,List.getElem?_cons_zero];have g3:eI rest ends q.1 ([]++jY (rest.length-0))=some m1:=g3;rw[List.nil_append,Nat.sub_zero]at g3;rw[g3];rfl
 | st::rest,n+1,ends,z6,m,ok,hn,hr,h=>by
  obtain⟨o1,o2,o3⟩:=ok;have hlt:z6.toNat<st.length:=by rw[o1];exact hr.2
  have es:st[z6.toNat]? =some st[z6.toNat]:=jb hlt;let⟨c1,c2⟩:=o2 _ (xn hlt);rw[if_neg (by omega)]at c1;let⟨q0,q1,eq⟩:=two_of c1;have h0:dy (st.map λch=>fG ch ((bT rest ends).headD [])) z6=some m:=h;rw[tP es,eq]at h0;let⟨t1,t2,t3⟩:=Hq h0;have ech:cw st z6=[q0,q1]:=by rw[ug es,eq]
  have hq0:=c2 q0 (by rw[eq];simp);have hq1:=c2 q1 (by rw[eq];simp);have hn':n<=rest.length:=by simpa using hn
  have ln:(st::rest).length-(n+1)=rest.length-n:=by simp
  have hd:(bT (st::rest) ends)=(st.map λch=>fG ch ((bT rest ends).headD []))::bT rest ends:=rfl;have ea:dy (st.map λch=>fG ch ((bT rest ends).headD [])) z6=some m:=h;rw[ln,hd];have o3:OkS ρ n rest:=by simpa using o3
  have pc:∀(b:Int) (bs:Zf) (q:Mv),[q0,q1][b.toNat]? =some q->eI (st::rest) ends z6 (b::bs)=(eI rest ends q.1 bs).map λx=>q.2+x:=λb bs q e=>by rw[y7,ech,e]
  by_cases z:du q0 ((bT rest ends).headD [])=some m
  .have eb:jB st (st.map λch=>fG ch ((bT rest ends).headD [])) ((bT rest ends).headD []) z6=0:=by
    unfold jB;rw[ech,ea];exact if_pos z
   have eg:gk (n+1) (st::rest) ((st.map λch=>fG ch ((bT rest ends).headD []))::bT rest ends) z6=0::gk n rest (bT rest ends) q0.1:=by rw[zI,eb,ech];rfl
   rw[eg];unfold du at z;cases e1:dy ((bT rest ends).headD []) q0.1 with
   |none=>rw[e1]at z;cases z
   | some m1=>
    rw[e1]at z;have z:q0.2+m1=m:=jg z;let⟨g1,g2,g3,g4⟩:=ui ρ rest n ends q0.1 m1 o3 hn' hq0 e1;refine⟨λb hb=>?_,by rw[jt,g2],?_,λw hw lw pw=>?_⟩
    .rcases List.mem_cons.mp hb with rfl|hb
     .exact .inl rfl
     .exact g1 b hb
    .rw[List.cons_append,pc 0 _ q0 rfl,g3];exact congrArg some z
    .cases w with
     |nil=>simp at lw
     | cons b bs=>
      have hbs:ay bs:=λx hx=>hw x (jd _ hx);have lbs:bs.length=n:=by simpa using lw
      rcases hw b jf with rfl|rfl
      .rw[Ik];rw[List.cons_append,pc 0 _ q0 rfl]at pw;refine g4 bs hbs lbs ?_;cases e2:eI rest ends q0.1 (bs++jY (rest.length-n))with
       |none=>rw[e2]at pw;cases pw
       | some c=>
        rw[e2]at pw;have pw:q0.2+c=m:=jg pw;congr 1;omega
      .rw[HT.lexLt_cons,if_neg (by decide)];decide
  .have z1:du q1 ((bT rest ends).headD [])=some m:=t1.resolve_left z;have eb:jB st (st.map λch=>fG ch ((bT rest ends).headD [])) ((bT rest ends).headD []) z6=1:=by
    unfold jB;rw[ech,ea];exact if_neg z
   have eg:gk (n+1) (st::rest) ((st.map λch=>fG ch ((bT rest ends).headD []))::bT rest ends) z6=1::gk n rest (bT rest ends) q1.1:=by rw[zI,eb,ech];rfl
   rw[eg];unfold du at z1;cases e1:dy ((bT rest ends).headD []) q1.1 with
   |none=>rw[e1]at z1;cases z1
   | some m1=>
    rw[e1]at z1;have z1:q1.2+m1=m:=jg z1;let⟨g1,g2,g3,g4⟩:=ui ρ rest n ends q1.1 m1 o3 hn' hq1 e1;refine⟨λb hb=>?_,by rw[jt,g2],?_,λw hw lw pw=>?_⟩
    .rcases List.mem_cons.mp hb with rfl|hb
     .exact .inr rfl
     .exact g1 b hb
    .rw[List.cons_append,pc 1 _ q1 rfl,g3];exact congrArg some z1
    .cases w with
     |nil=>simp at lw
     | cons b bs=>
      have hbs:ay bs:=λx hx=>hw x (jd _ hx);have lbs:bs.length=n:=by simpa using lw
      rcases hw b jf with rfl|rfl
      .exfalso;rw[List.cons_append,pc 0 _ q0 rfl]at pw;cases e2:eI rest ends q0.1 (bs++jY (rest.length-n))with
       |none=>rw[e2]at pw;cases pw
       | some c=>
        rw[e2]at pw;have pw:q0.2+c=m:=jg pw;let⟨m0,h1,h2⟩:=yB rest ends q0.1 _ c e2;have hc:du q0 ((bT rest ends).headD [])=some (q0.2+m0):=by unfold du;rw[h1];rfl
        have:=t2 _ hc;have e3:q0.2+m0=m:=by omega
        exact z (by rw[hc,e3])
      .rw[Ik];rw[List.cons_append,pc 1 _ q1 rfl]at pw;refine g4 bs hbs lbs ?_;cases e2:eI rest ends q1.1 (bs++jY (rest.length-n))with
       |none=>rw[e2]at pw;cases pw
       | some c=>
        rw[e2]at pw;have pw:q1.2+c=m:=jg pw;congr 1;omega
theorem G0:∀a b:List Int,HT.lexLt a b=false->HT.lexLt b a=false->a=b
 |[],[],_,_=>rfl
 |[],_::_,h,_=>by cases h
 |_::_,[],_,h=>by cases h
 | x::xs,y::ys,h,g=>by
  rw[HT.lexLt_cons]at h g;by_cases q:x=y
  .rw[if_pos q]at h;rw[if_pos q.symm]at g;rw[q,G0 xs ys h g]
  .rw[if_neg q]at h;rw[if_neg λz=>q z.symm]at g;simp only[decide_eq_false_iff_not]at h g;omega
def ql{x y:Int×List Int}(h:cB x y=false)(g:cB y x=false):x=y:=by
 unfold cB mm at h g;by_cases q:x.1=y.1
 .rw[if_pos q]at h;rw[if_pos q.symm]at g;exact Prod.ext q (G0 _ _ h g)
 .rw[if_neg q]at h;rw[if_neg λz=>q z.symm]at g;simp only[decide_eq_false_iff_not]at h g;omega
def qhl{x y z:Int×List Int}(h:cB x y=false)(g:cB y z=false):cB x z=false:=by
 cases q:cB x z with
 |false=>rfl
 | true=>
  have e:=ql h (t5 x z y q g);rw[e,g]at q;cases q
structure Near(n:Nat)(cost:List Int->Int)(x:Int×List Int):Prop where
 bits:ay x.2
 len:x.2.length=n
 val:x.1=cost x.2
 least:∀w,ay w->w.length=n->cB (cost w,w) x=false
section
variable(r:Int)(U:Zf)(G:Z9)(e:Str)(ts:List Told)(n:Nat)
def aF(k:Nat):List Told:=(ts.drop (bK U G k).length).take (bF U G k).length
def cZ(k:Nat)(z6 bit:Int):Mv:=((2*z6+bit) % 2^r.toNat,gg (aF U G ts k) (fz (aE G k) (U.map (dG (2*z6+bit)))))
noncomputable def eX(k:Nat):List Int:=if k<n then [0,1]else [0]
def stepK(k:Nat):Sx:=(List.range (2^r.toNat)).map λ(z6:Nat)=>(eX n k).map λb=>cZ r U G ts k (z6:Int) b
def bO(k len:Nat):List Sx:=(List.range' k len).map (stepK r U G ts n)
noncomputable def dH(s:Int):Rw:=(List.range (2^r.toNat)).map λ(z6:Nat)=>if e="open"∨(z6:Int)=(if e="ring" then s else 0)then some 0 else none
def fu(w:Zf):Int:=gg ts (p6 r.toNat U G (aZ r e w) (sI r e w))
end
section
variable{r:Int}{U:Zf}{G:Z9}{e:Str}{ts:List Told}{n:Nat}
def uy(k len:Nat):bO r U G ts n k (len+1)=stepK r U G ts n k::bO r U G ts n (k+1) len:=by unfold bO;rw[List.range'_succ];rfl
def f7:((2^r.toNat:Nat):Int)=(2:Int)^r.toNat:=by rw[Int.natCast_pow];rfl
theorem pq:∀(len k:Nat),OkS (2^r.toNat) (n-k) (bO r U G ts n k len)
 |0,k=>True.intro
 | len+1,k=>by
  rw[uy];refine⟨by unfold stepK;simp,λch hch=>?_,by rw[Nat.sub_sub];exact pq len (k+1)⟩;unfold stepK at hch;obtain⟨z6,hr,rfl⟩:=List.mem_map.mp hch;refine⟨?_,λq hq=>?_⟩
  .unfold eX;by_cases h:k<n
   .rw[if_pos h,if_neg (by omega)];rfl
   .rw[if_neg h,if_pos (by omega)];rfl
  .obtain⟨b,_,rfl⟩:=List.mem_map.mp hq;have h1:(0:Int)<2^r.toNat:=Int.pow_pos (by decide);have h2:=Int.emod_nonneg (2*(z6:Int)+b) (by omega:(2:Int)^r.toNat≠0);have h3:=Int.emod_lt_of_pos (2*(z6:Int)+b) h1;have h4:=f7 (r:=r);refine⟨h2,?_⟩;show((2*(z6:Int)+b) % 2^r.toNat).toNat<_;omega
def uh{k:Nat}{z6:Int}(h0:0<=z6)(h1:z6<2^r.toNat):cw (stepK r U G ts n k) z6=(eX n k).map λb=>cZ r U G ts k z6 b:=by
 have h4:=f7 (r:=r);have lt:z6.toNat<2^r.toNat:=by omega
 refine ug ?_;unfold stepK;rw[je,xr lt];simp only[Option.map_some,Int.toNat_of_nonneg h0]
theorem yM{a:Int}{u:Zf}(ha:0<=a/\a<2^r.toNat)(hb:ay u)(hz:∀k b,n<=k->u[k]? =some b->b=0)(ends:Rw):∀(len k:Nat),k+len=u.length->
 eI (bO r U G ts n k len) ends (bA (2^r.toNat) a (u.take k)) (u.drop k)=(dy ends (bA (2^r.toNat) a u)).map λx=>((List.range' k len).map λj=>gg (aF U G ts j) (fZ r.toNat U G a u j)).sum+x
 | 0,k,h=>by
  have e1:u.take k=u:=List.take_of_length_le (by omega);rw[e1];show dy ends _=_;cases dy ends (bA (2^r.toNat) a u)with
  |none=>rfl
  |some x=>simp
 | len+1,k,h=>by
  have lt:k<u.length:=by omega
  have ek:u[k]? =some u[k]:=jb lt;have mp:(0:Int)<2^r.toNat:=Int.pow_pos (by decide);have hr:=kY mp (u.take k) a ha;rw[uy,kc lt,y7,uh hr.1 hr.2];have eb:((eX n k).map λb=>cZ r U G ts k (bA (2^r.toNat) a (u.take k)) b)[u[k].toNat]? =some (cZ r U G ts k (bA (2^r.toNat) a (u.take k)) u[k]):=by
   unfold eX;by_cases h1:k<n
   .rw[if_pos h1];rcases hb _ (xn lt)with z|z
    .rw[z];rfl
    .rw[z];rfl
   .have z:=hz k _ (by omega) ek;rw[if_neg h1,z];rfl
  rw[eb];simp only;have en:(cZ r U G ts k (bA (2^r.toNat) a (u.take k)) u[k]).1=bA (2^r.toNat) a (u.take (k+1)):=by rw[cE ek,yS];show(2*_+u[k]) % _=_;congr 1;omega
  rw[en,yM ha hb hz ends len (k+1) (by omega),Option.map_map];have es:(cZ r U G ts k (bA (2^r.toNat) a (u.take k)) u[k]).2=gg (aF U G ts k) (fZ r.toNat U G a u k):=by unfold fZ;rw[ji,ek];rfl
  rw[es,List.range'_succ,jz,List.sum_cons];congr 1;funext x;show _+(_+x)=_;omega
def qjm{a b:List Told}{c d:Zf}(h:a.length=c.length):gg (a++b) (c++d)=gg a c+gg b d:=by unfold gg;rw[List.zip_append h,x5,List.sum_append]
def Im{a:Int}{u:Zf}{m:Nat}(k:Nat):(fZ m U G a u k).length=(bF U G k).length:=by unfold fZ;rw[qI,j7];rfl
def pr(N:Nat):(bK U G (N+1)).length=(bK U G N).length+(bF U G N).length:=by unfold bK;rw[jI,jh,jw]
theorem yU{m:Nat}{a:Int}{u:Zf}:∀N,((List.range N).flatMap (fZ m U G a u)).length=(bK U G N).length
 |0=>rfl
 |N+1=>by rw[jI,jh,yU N,Im,pr]
theorem Ih{m:Nat}{a:Int}{u:Zf}:∀N,(bK U G N).length<=ts.length->gg (ts.take (bK U G N).length) ((List.range N).flatMap (fZ m U G a u))=((List.range' 0 N).map λj=>gg (aF U G ts j) (fZ m U G a u j)).sum
 |0,_=>rfl
 | N+1,h=>by
  rw[pr]at h;have e1:ts.take (bK U G (N+1)).length=ts.take (bK U G N).length++aF U G ts N:=by rw[pr,List.take_add];rfl
  rw[e1,jI,qjm (by rw[xi,yU];omega),Ih N (by omega),List.range'_concat,x5,List.sum_append];simp
def qka{a:Int}{u:Zf}(hl:ts.length=(bK U G u.length).length):gg ts (p6 r.toNat U G a u)=((List.range' 0 u.length).map λj=>gg (aF U G ts j) (fZ r.toNat U G a u j)).sum:=by have h:=Ih (ts:=ts) (U:=U) (G:=G) (m:=r.toNat) (a:=a) (u:=u) u.length (by omega);rw[List.take_of_length_le (by omega)]at h;exact h
def Ir{w:Zf}(hw:w.length=n):∀k b,n<=k->(w++List.replicate (aB r e) 0)[k]? =some b->b=0:=λk b hk h=>by rw[xw (by omega)]at h;exact List.eq_of_mem_replicate (xk h)
def GG{s z6:Int}(h0:0<=z6)(h1:z6<2^r.toNat):dy (dH r e s) z6=if e="open"∨z6=(if e="ring" then s else 0)then some 0 else none:=by
 have h4:=f7 (r:=r);have lt:z6.toNat<2^r.toNat:=by omega
 unfold dy dH;rw[je,xr lt];simp only[Option.map_some,Option.join_some,Int.toNat_of_nonneg h0]
def yI(hb:∀w:List Int,ay w->0<=aY w/\aY w<2^w.length)(w:Zf)(hw:ay w)(hl:e="ring"->r.toNat<=w.length):0<=aZ r e w/\aZ r e w<2^r.toNat:=by
 unfold aZ;by_cases h:e="ring"
 .rw[if_pos h];have hd:ay (w.drop (w.length-r.toNat)):=λb m=>hw b (List.mem_of_mem_drop m);have:=hb _ hd;rw[xm,show w.length-(w.length-r.toNat)=r.toNat from by have:=hl h;omega]at this;exact this
 .rw[if_neg h];exact⟨Int.le_refl _,Int.pow_pos (by decide)⟩
def HU{w:Zf}(hb:ay w):ay (w++List.replicate (aB r e) 0):=gQ hb (t9 _)
def H9{w:Zf}(hb:ay w)(hw:w.length=n)(hl:e="ring"->r.toNat<=n)(hen:e="open"∨e="ended"∨e="ring")(ht:ts.length=(bK U G (n+aB r e)).length):
 eI (bO r U G ts n 0 (n+aB r e)) (dH r e (aZ r e w)) (aZ r e w) (w++List.replicate (aB r e) 0)=some (fu r U G e ts w):=by
 have hf:=yI (r:=r) (e:=e) kZ w hb (by rw[hw];exact hl);have lu:(w++List.replicate (aB r e) 0).length=n+aB r e:=by rw[jh,jw,hw]
 have h:=yM (r:=r) (U:=U) (G:=G) (ts:=ts) (n:=n) hf (HU (r:=r) (e:=e) hb) (Ir hw) (dH r e (aZ r e w)) (n+aB r e) 0 (by omega);have h':eI (bO r U G ts n 0 (n+aB r e)) (dH r e (aZ r e w)) (aZ r e w) (w++List.replicate (aB r e) 0)=_:=h;rw[h'];have mp:(0:Int)<2^r.toNat:=Int.pow_pos (by decide);have he:=kY mp (w++List.replicate (aB r e) 0) _ hf;rw[GG he.1 he.2,if_pos]
 .unfold fu;rw[yD,qka (by rw[lu];exact ht),lu];simp
 .rcases hen with h1|h1|h1
  .exact .inl h1
  .refine .inr ?_;have h2:¬e="ring":=by rw[h1];decide
   have h3:aB r e=r.toNat:=by unfold aB;rw[if_pos h1]
   rw[if_neg h2,h3];unfold aZ;rw[if_neg h2];exact qje r.toNat w
  .refine .inr ?_;have h2:¬e="ended":=by rw[h1];decide
   have h3:aB r e=0:=by unfold aB;rw[if_neg h2]
   rw[if_pos h1,h3];simp only[List.replicate_zero,List.append_nil];unfold aZ;rw[if_pos h1];exact qm7 r.toNat w hb (by rw[hw];exact hl h1)
theorem F7:∀(m:Nat) (x:Int),0<=x->x<2^m->∃p:List Int,p.length=m/\ay p/\aY p=x
 |0,x,h0,h1=>⟨[],rfl,λ_ h=>(nomatch h),by have:x<1:=h1;show(0:Int)=x;omega⟩
 | m+1,x,h0,h1=>by
  have h2:x / 2<2^m:=by rw[Int.pow_succ]at h1;omega
  let⟨p,p1,p2,p3⟩:=F7 m (x / 2) (by omega) h2;refine⟨p++[x % 2],by rw[jh,p1];rfl,gQ p2 λb hb=>?_,by rw[y8,p3];omega⟩;rw[List.mem_singleton.mp hb];omega
def qkg{w:Zf}{s:Int}(hb:ay w)(hl:r.toNat<=w.length)(h0:0<=s)(h1:s<2^r.toNat)(h:bA (2^r.toNat) s w=s):aY (w.drop (w.length-r.toNat))=s:=by
 let⟨p,p1,p2,p3⟩:=F7 r.toNat s h0 h1;have g:=GN r.toNat p w p1 p2 hb w.length (jc _);rw[List.take_length,p3,h]at g;rw[g];congr 1;have e1:(p++w).drop w.length=w.drop (w.length-r.toNat):=by rw[List.drop_append,List.drop_eq_nil_of_le (by omega),List.nil_append,p1]
 rw[e1,List.take_of_length_le (by rw[xm];omega)]
section
variable(r:Int)(U:Zf)(G:Z9)(e:Str)(ts:List Told)(n:Nat)
noncomputable def ck:List Int:=if e="ring" then(List.range (2^r.toNat)).map λ(k:Nat)=>(k:Int)else [0]
def bU(s:Int):List Rw:=bT (bO r U G ts n 0 (n+aB r e)) (dH r e s)
end
def ur{s:Int}(h:s∈ck r e):0<=s/\s<2^r.toNat:=by
 unfold ck at h;by_cases q:e="ring"
 .rw[if_pos q]at h;obtain⟨k,hk,rfl⟩:=List.mem_map.mp h;have:=List.mem_range.mp hk;have h4:=f7 (r:=r);omega
 .rw[if_neg q]at h;rw[List.mem_singleton.mp h];exact⟨Int.le_refl _,Int.pow_pos (by decide)⟩
def Ii{w:Zf}(hb:ay w)(hl:e="ring"->r.toNat<=w.length):aZ r e w∈ck r e:=by
 have h:=yI (r:=r) (e:=e) kZ w hb hl;unfold ck;by_cases q:e="ring"
 .rw[if_pos q];have h4:=f7 (r:=r);exact List.mem_map.mpr ⟨(aZ r e w).toNat,List.mem_range.mpr (by omega),Int.toNat_of_nonneg h.1⟩
 .rw[if_neg q];unfold aZ;rw[if_neg q];simp
def qht{w:Zf}{s c:Int}(hs:s∈ck r e)(hb:ay w)(hw:w.length=n)(hl:e="ring"->r.toNat<=n)(hen:e="open"∨e="ended"∨e="ring")(ht:ts.length=(bK U G (n+aB r e)).length)
 (h:eI (bO r U G ts n 0 (n+aB r e)) (dH r e s) s (w++List.replicate (aB r e) 0)=some c):s=aZ r e w/\c=fu r U G e ts w:=by
 have h1:=ur hs;have es:s=aZ r e w:=by
  by_cases q:e="ring"
  .have lu:(w++List.replicate (aB r e) 0).length=n+aB r e:=by rw[jh,jw,hw]
   have g:=yM (r:=r) (U:=U) (G:=G) (ts:=ts) (n:=n) h1 (HU (r:=r) (e:=e) hb) (Ir hw) (dH r e s) (n+aB r e) 0 (by omega);have g':eI (bO r U G ts n 0 (n+aB r e)) (dH r e s) s (w++List.replicate (aB r e) 0)=_:=g;rw[g']at h;have mp:(0:Int)<2^r.toNat:=Int.pow_pos (by decide);have he:=kY mp (w++List.replicate (aB r e) 0) _ h1;have h2:¬e="ended":=by rw[q];decide
   have h5:¬e="open":=by rw[q];decide
   have h3:aB r e=0:=by unfold aB;rw[if_neg h2]
   rw[GG he.1 he.2]at h;by_cases z:e="open"∨bA (2^r.toNat) s (w++List.replicate (aB r e) 0)=(if e="ring" then s else 0)
   .rcases z with z|z
    .exact absurd z h5
    .rw[if_pos q,h3]at z;simp only[List.replicate_zero,List.append_nil]at z;unfold aZ;rw[if_pos q];exact(qkg hb (by rw[hw];exact hl q) h1.1 h1.2 z).symm
   .rw[if_neg z]at h;cases h
  .unfold ck at hs;rw[if_neg q]at hs;unfold aZ;rw[if_neg q];exact List.mem_singleton.mp hs
 refine⟨es,?_⟩;rw[es,H9 hb hw hl hen ht]at h;exact(jg h).symm
end
end L2
namespace L2
open PySem PySem.Spec PyProof.Rows
def DRaw(h:Heap)(d:Addr)(es:Array DictEntry)(ep:Nat):Prop:=∃o,h.get? d=some o/\o.ExactDict/\o.data=.dict es ep
def DRaw.ty{s:Shared}{d:Addr}{es:Array DictEntry}{ep:Nat}(x:DRaw s.heap d es ep):s.TypeIs (.ref d) "dict":=let ⟨o,e,c,_⟩:=x;⟨o,e,c.1⟩
def DRaw.at_{h h':Heap}{d:Addr}{es:Array DictEntry}{ep:Nat}(x:DRaw h d es ep)(k:∀o,h.get? d=some o->h'.get? d=some o):DRaw h' d es ep:=let ⟨o,e,r⟩:=x;⟨o,k o e,r⟩
section
variable{prog:Program}{w:World}{A:Around}{E:Z0}{s:Shared}
def qlj{d:Addr}{es:Array DictEntry}{ep:Nat}{Q:Z0}(nd:(d==sysModules)=false)(x:DRaw s.heap d es ep)
 (q:Q (.ref s.heap.objs.size) {s with heap:=s.heap.push {cls:=.type "dict_keyiterator",data:=.fields #[.ref d,.int 0 0,.int es.size 0,.int ep 0]}}):wpAny (model prog w) A (pyIter (.ref d)) Q E s:=by
 let⟨o,e,c,dt⟩:=id x;refine wpAny_pyIter_slot x.ty F.slot_dict_iter (k6 F.slot_dict_iter x.ty F.entry_dict_iter ?_ (F.args_dict_iter_1 _));unfold Builtin.«dict.__iter__» Builtin.Dict.dictSlotNone;refine j6 (j6 (wpAny_notOrdered_dict x.ty ?_));show wpAny _ _ (pure (Value.ref d)) _ _ s;refine j8 ?_;unfold Builtin.Dict.showsAll;show wpAny _ _ ((if(d==sysModules)=true then _ else _) >>= _) _ _ s;rw[if_neg (by rw[nd];decide)];exact j6 (j8 (j6 (wpAny_dictEntries e dt (j6 (wpAny_dictEpoch e dt (j6 (xx (j8 ⟨_,rfl,"dict_keyiterator",_,⟨_,jq _ rfl,rfl⟩,F.slot_dict_keyiterator_next.lookup,q⟩))))))))
def qlk{it d:Addr}{i ep:Nat}{es:Array DictEntry}{Q:Option Value->Shared->Prop}(g:s.heap.IsKeyIter it d i es.size ep)(x:DRaw s.heap d es ep)(hi:i<es.size)
 (q:∀h',h'.IsKeyIter it d (i+1) es.size ep->Heap.SameBut it s.heap h'->Q (some es[i].key) {s with heap:=h'}):wpAny (model prog w) A (pyNext (.ref it)) Q E s:=by
 let⟨oi,ei,ci,fi⟩:=id g;let⟨o,e,c,dt⟩:=id x;have own0:Builtin.Dict_items.ownsTuple "dict_keyiterator"=false:=by decide
 unfold pyNext;refine j6 (wpAny_attempt (ka (name:=Str.ofString "__next__") g.typeIs vc (k6 vc g.typeIs F.entry_dict_keyiterator_next (j6 (j8 (j6 ?_))) (F.args_dict_keyiterator_next_1 _))));refine j6 (j6 (vd g.typeIs (j8 (j6 (wpAny_fieldsOf ei fi ?_)))));simp only[own0,Bool.false_eq_true,if_false];show wpAny _ _ (if(Value.ref d==Value.none)=true then _ else _) _ _ s;have nn:(Value.ref d==Value.none)=false:=rfl;rw[if_neg (by rw[nn];decide)];refine j6 (j8 (j6 (wpAny_dictEntries e dt ?_)));rw[if_neg (by simp)];refine j6 (j8 (j6 (wpAny_dictEpoch e dt ?_)));rw[if_neg (by simp)];refine j8 ?_;have n0:¬((i:Int)<0):=by omega
 simp only[n0,if_false,Int.toNat_natCast,Array.getElem?_eq_getElem hi];refine j6 (j6 (vd g.typeIs (j8 (j6 (wpAny_isOneOf_keyiter g.typeIs ?_)))));show wpAny _ _ (setField (.ref it) 1 (rawInt ((i:Int)+1)) >>= _) _ _ s;have g':(s.heap.update it (Obj.mapFields (·.setIfInBounds 1 (rawInt ((i:Int)+1))))).IsKeyIter it d (i+1) es.size ep:=
  ⟨_,kg _ ei (Obj.isFreed_of_fields (Obj.data_mapFields fi _)),(Obj.cls_mapFields ..).trans ci,by rw[Obj.data_mapFields fi];simp[rawInt]⟩
 refine j6 (wpAny_setField ei fi (by simp) (j6 (xu (j6 (wpAny_isOneOf_keyiter (s:={s with heap:=s.heap.update it (Obj.mapFields (·.setIfInBounds 1 (rawInt ((i:Int)+1))))}) g'.typeIs ?_)))));show wpAny _ _ (pure es[i].key) _ _ _;exact j8 (j8 ⟨_,rfl,j8 (q _ g' (kh ..))⟩)
def qqa{it d:Addr}{i ep:Nat}{es:Array DictEntry}{Q:Option Value->Shared->Prop}(hh:A.handled=none)(g:s.heap.IsKeyIter it d i es.size ep)(x:DRaw s.heap d es ep)(hi:es.size<=i)
 (q:∀h',Heap.ExtBut it s.heap h'->Q none {s with heap:=h'}):wpAny (model prog w) A (pyNext (.ref it)) Q E s:=by
 let⟨oi,ei,ci,fi⟩:=id g;let⟨o,e,c,dt⟩:=id x;have own0:Builtin.Dict_items.ownsTuple "dict_keyiterator"=false:=by decide
 unfold pyNext;refine j6 (wpAny_attempt (ka (name:=Str.ofString "__next__") g.typeIs vc (k6 vc g.typeIs F.entry_dict_keyiterator_next (j6 (j8 (j6 ?_))) (F.args_dict_keyiterator_next_1 _))));refine j6 (j6 (vd g.typeIs (j8 (j6 (wpAny_fieldsOf ei fi ?_)))));simp only[own0,Bool.false_eq_true,if_false];show wpAny _ _ (if(Value.ref d==Value.none)=true then _ else _) _ _ s;have nn:(Value.ref d==Value.none)=false:=rfl;rw[if_neg (by rw[nn];decide)];refine j6 (j8 (j6 (wpAny_dictEntries e dt ?_)));rw[if_neg (by simp)];refine j6 (j8 (j6 (wpAny_dictEpoch e dt ?_)));rw[if_neg (by simp)];refine j8 ?_;have n0:¬((i:Int)<0):=by omega
 simp only[n0,if_false,Int.toNat_natCast,Array.getElem?_eq_none hi];refine j6 (j6 (vd g.typeIs (j8 ?_)));show wpAny _ _ (setField (.ref it) 0 .none >>= _) _ _ s;refine j6 (wpAny_setField ei fi (by simp) ?_);show wpAny _ _ (newExc (.type "StopIteration") [] >>= _) _ _ _;simp only[newExc,newTuple,raiseNew];refine j6 (j6 (xx (j6 (m:=firstArgMember _ _) (wpAny_of_eq (a:=Value.none) (by first|rfl|(simp only[firstArgMember];rfl)) (xx ?_ (by size_fits)))) (by size_fits)));refine j6 (wpAny_handled ?_);rw[show A.in1.handled=none from hh];refine j6 (j8 (wpAny_throw ?_));exact j6 (wpAny_isInstance (T:="StopIteration") (b:=true) ⟨_,jq _ rfl,rfl⟩ isSubtype_stop (j8 (q _ (((kh ..).extBut.push _).push _))))
end
def qsl{X:Cx}{z5:Z3}{J:St}{H:Hp}{s:Shared}(I:Inv X z5 J H s):sysModules<s.heap.objs.size:=by have h:mainGlobals<s.heap.objs.size:=(I.mod.glob.keeps I.bk).lt;exact Nat.lt_trans (by decide) h
def EA:TE:=λ_ H Q=>∀p,H p=none->Q (.ref p) (aT H p (.dK []))
def qpd{X:Cx}{pos:Pos}:PE X (.Dict [] [] pos) EA:=λz5 s J H Q I h=>
 wpAny_Dict_empty ⟨.ref s.heap.objs.size,_,I.laid (a:=s.heap.objs.size) (o:=.dK []) (t':=s.toks) (λ_ _ q=>ja _ q) (jc _)
  ⟨Nat.zero_le _,beq_eq_false_iff_ne.mpr (Ne.symm (jl (qsl I))),[],.nil,_,#[],jq _ rfl,⟨rfl,rfl,rfl⟩,rfl,λe he=>by simp at he,.nil,List.nodup_nil⟩,rfl,h _ (I.hok.fresh (jc _))⟩
section
variable{prog:Program}{w:World}{κ:Type}[DecidableEq κ]{knd:KeyKind prog w κ}{A:Around}{E:Z0}{s:Shared}
def qxe{d:Addr}{kvs:List (κ×Value)}{n:Nat}{k:κ}{key v:Value}{Q:Unit->Shared->Prop}(hk:knd.is k key=true)(hm:DictN knd s.heap d kvs n)(hz:kvs.length<=sizeLine)(nk:k∉kvs.map (·.1))
 (q:∀h',DictN knd h' d (kvs++[(k,v)]) (n+1)->Heap.SameBut d s.heap h'->Q () {s with heap:=h',toks:=s.toks+1}):wpAny (model prog w) A (dictSet d key v) Q E s:=by
 obtain⟨o,es,g0,cx,dt,ko,hp,nd⟩:=hm;have z1:es.size=kvs.length:=by have:=hp.length;simpa using this
 have fi:es.findIdx? (λe=>knd.is k e.key)=none:=by
  have h1:=hp.findIdx k;have h2:kvs.findIdx? (λkv=>decide (kv.1=k))=none:=by rw[List.findIdx?_eq_none_iff];intro x hx;exact decide_eq_false λe=>nk (List.mem_map.mpr ⟨x,hx,e⟩)
  rw[h2]at h1;obtain⟨l⟩:=es;simpa using h1
 unfold dictSet
 (try with_reducible refine xu ?_);refine j6 (knd.pyHash hk ?_);unfold dictSetHashed
 (try with_reducible refine xu ?_);refine j6 (wpAny_dictFind_of (s:={s with toks:=s.toks+1}) hk g0 dt ko ?_);rw[fi];refine j6 (wpAny_rule (wpAny_updateDictKeys (hz:=by omega) (s:={s with toks:=s.toks+1}) g0 dt (q _ ?_ (kh ..))));refine⟨_,_,kg _ g0 (Obj.isFreed_of_dict (Obj.data_mapDictKeys dt _)),cx.mapDictKeys _,Obj.data_mapDictKeys dt _,ko.push hk v,?_,?_⟩
 .have:=hp.append hk (knd.hash k) v;simpa using this
 .rw[x5,List.nodup_append];refine⟨nd,by simp,λx hx y hy z=>?_⟩;have ey:y=k:=by simpa using hy
  exact nk (by rw[<-ey,<-z];exact hx)
def qsp{d:Addr}{kvs:List (κ×Value)}{n:Nat}{k:κ}{key v:Value}{Q:Unit->Shared->Prop}(hk:knd.is k key=true)(hm:DictN knd s.heap d kvs n)(hz:kvs.length<=sizeLine)(nk:k∉kvs.map (·.1))
 (q:∀h',DictN knd h' d (kvs++[(k,v)]) (n+1)->Heap.SameBut d s.heap h'->Q () {s with heap:=h',toks:=s.toks+1}):wpAny (model prog w) A (setItem (.ref d) key v) Q E s:=by
 have ty:=hm.of.typeIs (s:=s);unfold setItem
 (try with_reducible refine xu ?_);refine j6 (wpAny_sequenceKey ty (by decide) (j6 ?_));refine ka (name:=Str.ofString "__setitem__") ty slot_dict_setitem (k6 slot_dict_setitem ty entry_dict_setitem ?_ (args_dict_setitem _ _ _));show wpAny _ _ (Builtin.Dict.notOrdered "__setitem__" ⟨[.ref d,key,v],[]⟩ >>= _) _ _ s;refine j6 (wpAny_notOrdered_dict ty ?_);show wpAny _ _ (dictSet d key v >>= _) _ _ s;exact j6 (qxe hk hm hz nk λh' m' t'=>j8 ⟨.none,rfl,j8 (q h' m' t')⟩)
end
def rL(kvs:List (bI×V))(k:Int):Prop:=Sum.inl k∈kvs.map (·.1)
def KV.map1{κ:Type}{kvs:List (κ×V)}{vs:List (κ×Value)}(r:KV kvs vs):kvs.map (·.1)=vs.map (·.1):=by
 unfold KV at r;induction r with
 |nil=>rfl
 |cons h _ ih=>rw[jz,jz,ih,h.1]
def KV.snoc{κ:Type}{kvs:List (κ×V)}{vs:List (κ×Value)}{k:κ}{v:V}{u:Value}(r:KV kvs vs)(h:RelV v u):KV (kvs++[(k,v)]) (vs++[(k,u)]):=by
 unfold KV at r ⊢;induction r with
 |nil=>exact .cons ⟨rfl,h⟩ .nil
 |cons g _ ih=>exact .cons g ih
def KV.len{κ:Type}{kvs:List (κ×V)}{vs:List (κ×Value)}(r:KV kvs vs):kvs.length=vs.length:=Paired.length r
section
variable{X:Cx}{K:aq}
def Ep:V->V->V->Hp->(Hp->Prop)->Prop:=λo i v H Q=>∃p kvs k,o=.ref p/\i=.int k/\H p=some (.dK kvs)/\kvs.length<sizeLine/\¬rL kvs k/\Q (aT H p (.dK (kvs++[(.inl k,v)])))
def qx6:ox X Ep:=by
 intro z5 s J H o i v ov iv u Q I ro ri rv h;obtain⟨p,kvs,k,rfl,rfl,hp,hz,hn,q⟩:=h;cases ro;obtain⟨t,rfl⟩:=ri;let⟨_,hd,vs,rel,dd⟩:=(show ObjOk X.prog X.w H s.heap p (.dK kvs)from I.hok p _ hp);refine qsp (k:=.inl k) (IA k t) dd (by rw[<-rel.len];omega) (by rw[<-rel.map1];exact hn) λh' dd' sb=>⟨_,?_,q⟩;have he:∃q,h'.get? p=some q:=let ⟨q,_,hq,_⟩:=dd';⟨q,hq⟩
 refine I.write (t':=s.toks+1) (x:=p) (e:=p) (by rw[hp];exact True.intro) (.inl rfl) (λb q hb z=>(sb.2 b hb).trans z) he ⟨by rw[jh];exact hz,hd,_,rel.snoc rv,?_⟩;rw[jh];exact dd'
noncomputable def g9(kvs:List (bI×V))(k:Int):Option V:=(kvs.find? λp=>decide (p.1=Sum.inl k)).map (·.2)
def qls{kvs:List (bI×V)}{vs:List (bI×Value)}{k:Int}{v:V}(r:KV kvs vs)(h:g9 kvs k=some v):∃u,valueAt vs (Sum.inl k)=some u/\RelV v u:=by
 unfold KV at r;induction r with
 |nil=>cases h
 | @cons p q ps qs g _ ih=>
  obtain⟨h1,h2⟩:=g;unfold g9 at h;by_cases e:p.1=Sum.inl k
  .have e':q.1=Sum.inl k:=h1.symm.trans e;simp[List.find?_cons,e]at h;subst h;exact⟨q.2,by simp[valueAt,List.find?_cons,e'],h2⟩
  .have e':¬q.1=Sum.inl k:=λz=>e (h1.trans z);simp[List.find?_cons,e]at h;let⟨u,u1,u2⟩:=ih (by unfold g9;simpa using h);exact⟨u,by rw[<-u1];simp[valueAt,List.find?_cons,e'],u2⟩
def rD:R2:=λx y H Q=>∃p kvs k v,x=.ref p/\y=.int k/\H p=some (.dK kvs)/\g9 kvs k=some v/\Q v H
def Bc:IxR X rD:=by
 intro value zf z5 s J H x y v u Q I rx ry h hs;obtain⟨p,kvs,k,z,rfl,rfl,hp,hg,q⟩:=h;cases rx;obtain⟨t,rfl⟩:=ry;let⟨_,hd,vs,rel,dd⟩:=(show ObjOk X.prog X.w H s.heap p (.dK kvs)from I.hok p _ hp);let⟨w',hw,rw'⟩:=qls rel hg;have ty:=dd.of.typeIs (s:=s);unfold subscriptTail;refine j6 ?_;rw[getitemInPython_of_ne ty.not_modules];refine j6 (wpAny_specialOf ty F.slot_dict_getitem.lookup ?_);have fin:wpAny (model X.prog X.w) X.A (subscripted zf false (.ref p) (.int k t)) (λr s₃=>wpAny (model X.prog X.w) X.A (letTemporaryGo value (.ref p) r >>= λ_=>pure r) (EP X z5 J Q) X.xe s₃) X.xe s:=by rw[hs];exact wpAny_operating (wpAny_getItem_of (knd:=qp X.prog X.w) (k:=.inl k) (IA k t) dd.of.mapOf hw (j6 (wpAny_letTemporaryGo (j8 ⟨z,H,I.tok _,rw',q⟩))))
 first
  |exact j8 (j6 fin)
  |exact j6 (j8 (j6 fin))
  |exact j6 fin
end
def oz(a:Addr)(n:Nat):It:=
 ⟨λi H=>∃kvs p,H a=some (.dK kvs)/\kvs.length=n/\kvs[i]? =some p,
  λi H v H'=>H'=H/\∀kvs p,H a=some (.dK kvs)->kvs[i]? =some p->v=kV p.1,
  λi H=>∃kvs,H a=some (.dK kvs)/\kvs.length=n/\n<=i⟩
def jP{P:Program}{w:World}:∀{es:List DictEntry} {kvs:List (bI×V)} {vs:List (bI×Value)} {i:Nat} {p:bI×V},Pairs (qp P w) es vs->KV kvs vs->kvs[i]? =some p->∃e,es[i]? =some e/\RelV (kV p.1) e.key:=by
 intro es kvs vs i p h;induction h generalizing kvs i with
 |nil=>intro r e;cases r;simp at e
 | @cons en kv es vs h1 h2 _ ih=>
  intro r e;cases r with
  | @cons q _ ks _ g r=>
   cases i with
   | zero=>
    simp at e;subst e;refine⟨en,rfl,?_⟩;rw[g.1];rcases kC h1 with⟨j,t,e1,e2⟩|⟨x,t,e1,e2⟩
    .rw[e1,e2];exact⟨t,rfl⟩
    .rw[e1,e2];exact⟨t,rfl⟩
   |succ i=>exact ih r (by simpa using e)
def yw{X:Cx}{z5:Z3}{J:St}{H:Hp}{s:Shared}{a:Addr}{kvs:List (bI×V)}(I:Inv X z5 J H s)(e:H a=some (.dK kvs)):
 (a==sysModules)=false/\∃es,es.size=kvs.length/\DRaw s.heap a es kvs.length/\∀i p,kvs[i]? =some p->∃hi:i<es.size,RelV (kV p.1) es[i].key:=by
 let⟨_,y,vs,r,o,es,h1,h2,h3,h4,h5,_⟩:=(show ObjOk X.prog X.w H s.heap a (.dK kvs)from I.hok a _ e);have z:es.size=kvs.length:=by have:=h5.length;rw[<-r.len]at this;simpa using this
 refine⟨y,es,z,⟨o,h1,h2,h3⟩,λi p hp=>?_⟩;let⟨en,e1,e2⟩:=jP h5 r hp;have hi:i<es.size:=by rw[z];exact(List.getElem?_eq_some_iff.mp hp).1
 refine⟨hi,?_⟩;have ee:es[i]=en:=by have:=(List.getElem?_eq_some_iff.mp e1).2;simpa using this
 rw[ee];exact e2
def qe9{P:Program}{w:World}{K:aq}{tg:Expr}(a it:Addr)(n:Nat):Turn P w K tg (oz a n) [it] it (λi h=>h.IsKeyIter it a i n n) where
 mem:=by simp
 obj:=λi h st b hb=>by obtain⟨o,e,c,d⟩:=st;rw[List.mem_singleton.mp hb];exact⟨o,e,λv z=>by rw[d]at z;cases z⟩
 keep:=λi h h' st k=>st.at λo e=>k it (by simp) o e
 item:=by intro X hP hw hK hc i z5 s J H E I hf st hg;subst hP hw hK;obtain⟨kvs,p,e,rfl,hp⟩:=hg;let⟨_,es,z,dr,al⟩:=yw I e;let⟨hi,k1⟩:=al i p hp;let⟨f0,f1,f2,f3,f4,f5⟩:=hf it (by simp);rw[<-z]at st dr;refine qlk st dr hi λh' st' sb=>?_;have I1:Inv X z5 J H {s with heap:=h'}:=I.turned (t':=s.toks) (λb o hb e=>(sb.2 b hb).trans e) f0 f1 f3 f4 f5;let⟨o,e1,c1,d1⟩:=id st';refine⟨_,rfl,pL (s:={s with heap:=h'}) e1 c1 d1 (by decide) ⟨kV p.1,H,I1,k1,⟨rfl,λkvs' p' e' hp'=>?_⟩,by rw[<-z];exact st',λb hb=>(hf b hb).1⟩⟩;rw[e]at e';cases e';rw[hp]at hp';cases hp';rfl
 done:=by intro X hP hw hK hc i z5 s J H E I hf st hg;subst hP hw hK;obtain⟨kvs,e,rfl,hp⟩:=hg;let⟨_,es,z,dr,_⟩:=yw I e;let⟨f0,f1,f2,f3,f4,f5⟩:=hf it (by simp);rw[<-z]at st dr hp;exact qqa (I.ok.hd hc) st dr hp λh' eb=>⟨rfl,I.turned (t':=s.toks) (λb o hb e=>eb b o hb e) f0 f1 f3 f4 f5⟩
 self:=λ_ _ _ _ _ st h=>wpAny_pyIter_keyiter st h
def E3(td:TE):TI:=λJ H R=>td J H λx H1=>∃a kvs,x=.ref a/\H1 a=some (.dK kvs)/\R (oz a kvs.length) H1
def qkv{X:Cx}{tg l:Expr}{td:TE}(hl:PE X l td):PI X tg l (E3 td):=by intro z5 s J H R I h;refine bu (hl z5 s J H _ I h) λv s1 ⟨x,H1,I1,rx,a,kvs,ex,e,q⟩=>?_;subst ex;obtain rfl:v=Value.ref a:=rx;let⟨y,es,z,dr,_⟩:=yw I1 e;refine qlj y dr ?_;refine⟨s1.heap.objs.size,[s1.heap.objs.size],_,_,H1,rfl,I1.kept (t':=s1.toks) λb o e=>ja _ e,qe9 a _ kvs.length,⟨_,jq _ rfl,rfl,by rw[z];rfl⟩,λb hb=>?_,q⟩;rw[List.mem_singleton.mp hb];exact I1.fpOk (jc _) (I1.hok.fresh (jc _))
noncomputable def kD:bI->D
 |.inl i=>.int i
 |.inr x=>.str x
section
variable{K:aq}{O O':Zg}{R:Hp}
def qye{k:bI}:Rp K R (kV k) (kD k):=by
 cases k with
 |inl i=>exact .int i
 |inr x=>exact .str x
theorem Rkk.length:∀{kvs:List (bI×V)} {gs:List (bI×D)},Rkk K R kvs gs->kvs.length=gs.length
 |_,_,.nil=>rfl
 |_,_,.cons _ r=>by rw[jt,jt,Rkk.length r]
theorem Rkk.keys:∀{kvs:List (bI×V)} {gs:List (bI×D)},Rkk K R kvs gs->kvs.map (·.1)=gs.map (·.1)
 |_,_,.nil=>rfl
 |_,_,.cons _ r=>by rw[jz,jz,Rkk.keys r]
theorem Rkk.snoc{k:bI}{v:V}{d:D}(r:Rp K R v d):∀{kvs:List (bI×V)} {gs:List (bI×D)},Rkk K R kvs gs->Rkk K R (kvs++[(k,v)]) (gs++[(k,d)])
 |_,_,.nil=>.cons r .nil
 |_,_,.cons h t=>.cons h (Rkk.snoc r t)
noncomputable def mJ(gs:List (bI×D))(k:Int):Option D:=(gs.find? λp=>decide (p.1=Sum.inl k)).map (·.2)
theorem Rkk.val{k:Int}{d:D}:∀{kvs:List (bI×V)} {gs:List (bI×D)},Rkk K R kvs gs->mJ gs k=some d->∃v,g9 kvs k=some v/\Rp K R v d
 |_,_,.nil,e=>by cases e
 | _,_,@Rkk.cons _ _ f x xs d' ds h t,e=>by
  unfold mJ at e;by_cases z:f=Sum.inl k
  .simp[List.find?_cons,z]at e;subst e;exact⟨x,by simp[g9,List.find?_cons,z],h⟩
  .simp[List.find?_cons,z]at e;let⟨v,h1,h2⟩:=Rkk.val (k:=k) (d:=d) t (by unfold mJ;simpa using e);exact⟨v,by rw[<-h1];simp[g9,List.find?_cons,z],h2⟩
theorem Rkk.get:∀{kvs:List (bI×V)} {gs:List (bI×D)} {i:Nat} {g:bI×D},Rkk K R kvs gs->gs[i]? =some g->∃v,kvs[i]? =some (g.1,v)
 |_,_,_,_,.nil,e=>by simp at e
 |_,_,0,_,.cons h _,e=>by simp at e;subst e;exact⟨_,rfl⟩
 | _,_,i+1,g,.cons _ t,e=>by let⟨v,h1⟩:=Rkk.get (i:=i) (g:=g) t (by simpa using e);exact⟨v,by simpa using h1⟩
def fV:D->D->Option D
 |.dct gs,.int k=>mJ gs k
 |_,_=>none
def Rp.isD{x:V}{gs:List (bI×D)}(h:Rp K R x (.dct gs)):∃a kvs,x=.ref a/\R a=some (.dK kvs)/\Rkk K R kvs gs:=by
 cases h with
 |dct h r=>exact⟨_,_,rfl,h,r⟩
def qtx:gX K rD fV:=λH R x y d e u Q s rx ry q k=>by
 unfold fV at q;split at q
 .rename_i gs i;obtain rfl:=ry.isI;obtain⟨a,kvs,rfl,h,r⟩:=rx.isD;let⟨v,h1,h2⟩:=r.val q;exact⟨a,kvs,i,v,rfl,rfl,s _ _ h,h1,k v H R (Ext.refl s) h2⟩
 .cases q
def mf:D->Option (List D)
 |.dct gs=>some (gs.map λg=>kD g.1)
 |_=>none
def mS(f:aN):ba:=cj f λd=>dn (mf d)
def qlm{a:Addr}{kvs:List (bI×V)}{gs:List (bI×D)}(h:R a=some (.dK kvs))(r:Rkk K R kvs gs):ItOk K (oz a kvs.length) R (gs.map λg=>kD g.1):=λH' R' s b i=>by
 have q:H' a=some (.dK kvs):=b _ _ (s _ _ h);refine⟨λe=>⟨kvs,q,rfl,by rw[j7]at e;rw[r.length];omega⟩,λd e=>?_⟩;rw[je]at e;cases g0:gs[i]? with
 |none=>rw[g0]at e;cases e
 | some g=>
  rw[g0]at e;cases e;let⟨v,h1⟩:=r.get g0;refine⟨⟨kvs,_,q,rfl,h1⟩,λx H'' y=>?_⟩;obtain⟨rfl,y⟩:=y;have ex:=y kvs _ q h1;subst ex;exact⟨R',Ext.refl b,qye⟩
def qlc{td:TE}{fd:aN}(h:ME K O td fd):MI K O (E3 td) (mS fd):=λZ J H R M ds M' Q S e k=>by
 let⟨d,M1,e1,e⟩:=b9 e;obtain⟨e2,rfl⟩:=c9 e;refine h Z J H R M d _ _ S e1 λv H1 R1 S1 st1 r1=>?_;unfold mf at e2;split at e2
 .cases e2;obtain⟨a,kvs,rfl,q,r⟩:=r1.isD;exact⟨a,kvs,rfl,S1.sub _ _ q,k _ H1 R1 S1 st1 (qlm q r)⟩
 .cases e2
def GP{fd:aN}{M:aA}:mS fd M=(fd M).bind λp=>(mf p.1).map λx=>(x,p.2):=by
 unfold mS cj dn;cases fd M with
 |none=>rfl
 |some p=>cases h:mf p.1<;>simp[h]
end
section
variable{c:MC}{O O':Zg}{te ti:TE}{fe fi:aN}
noncomputable def mO(i:Nat):aD:=λM=>if i<M.length then some (.nx (M.set i (some (.dct []))))else none
def qq0{i:Nat}(hs:lO c i O O'=true):MS c O O' (fB EA (gE i)) (mO i):=λZ E J H R M o hP S e k=>by
 unfold mO at e;unfold lO at hs;simp only[Bool.and_eq_true]at hs;split at e
 .rename_i zc;cases e;intro l hl;have S1:=S.ext (Ext.hid (o:=.dK []) S.sub hl);let⟨S2,s2⟩:=S1.sub' hP hs.1.1;have notown:∀j,j∈O->J[j]? ≠some (some (.ref l)):=S.notnew hl;have hO':∀j,j∈O'.filter (λj=>decide (j≠i))->j∈O:=λj hj=>by
   have z:=hs.1.1;unfold cV at z;simp only[Bool.and_eq_true,List.all_eq_true]at z;simpa using z.1 j hj
  refine k _ _ _ (S2.take (i:=i) (l:=l) (vs:=.dK []) (ds:=.dct []) (by simp) (by simpa using hs.1.2) (λj hj=>?_) (by rw[hP];simpa using hs.2) zc (S.new0 hl) cT ?_ (λj hj=>notown j (hO' j hj)) (λj hj=>(List.mem_filter.mp hj).1) (.dct .nil)) s2
  .by_cases z:j=i
   .exact .inl z
   .exact .inr (List.mem_filter.mpr ⟨hj,by simpa using z⟩)
  .unfold dj;rw[if_neg ?_]
   .exact S.out hl
   .rintro⟨j,hj,_,z⟩;exact notown j hj z
 .cases e
noncomputable def oQ(gs:List (bI×D))(k:Int)(d:D):Option (List (bI×D)):=if gs.length<sizeLine/\(gs.all λg=>!decide (g.1=Sum.inl k))=true then some (gs++[(.inl k,d)])else none
def qd(i:Nat)(fe fi:aN):aD:=λM=>match fe M with
 |none=>none
 | some (d,M1)=>match fi M1 with
  | some (.int k,M2)=>match M2[i]? with
   | some (some (.dct gs))=>match oQ gs k d with
    |some gs'=>some (.nx (M2.set i (some (.dct gs'))))
    |none=>none
   |_=>none
  |_=>none
def qpz{i:Nat}(hi:i∈O)(he:ME c.K O te fe)(hx:ME c.K O ti fi)(hs:cV c O O'=true):MS c O O' (fB te (nT (dL i) ti Ep)) (qd i fe fi):=λZ E J H R M o hP S e k=>by
 unfold qd at e;cases e1:fe M with
 |none=>rw[e1]at e;cases e
 | some p=>
  obtain⟨d,M1⟩:=p;rw[e1]at e;dsimp only at e;cases e2:fi M1 with
  |none=>rw[e2]at e;cases e
  | some p=>
   obtain⟨x,M2⟩:=p;rw[e2]at e;refine he Z J H R M d M1 _ S e1 λv H1 R1 S1 st1 r1=>?_;let⟨l,vs,ds,h1,h2,h3,h4,h5⟩:=S1.own i hi;refine⟨.ref l,h2,hx Z J H1 R1 M1 x M2 _ S1 e2 λw H2 R2 S2 st2 r2=>?_⟩;let⟨l',vs',ds',g1,g2,g3,g4,g5⟩:=S2.own i hi;rw[h2]at g2;cases g2;cases r2 with
   | int j=>
    dsimp only at e;rw[g1]at e;cases g5 with
    |lst _=>cases e
    |dit _=>cases e
    |dct g5=>
    rename_i kvs gs;dsimp only at e;cases e3:oQ gs j d with
    |none=>rw[e3]at e;cases e
    | some m=>
     rw[e3]at e;cases e;unfold oQ at e3;split at e3
     .rename_i hz;cases e3;refine⟨l,kvs,j,rfl,rfl,g3,by rw[g5.length];exact hz.1,by
            unfold rL;rw[g5.keys];intro hm;let⟨g,hg,eg⟩:=List.mem_map.mp hm;have:=List.all_eq_true.mp hz.2 g hg;simp[eg]at this,?_⟩
      obtain⟨S3,s3⟩:=(S2.write hi h2 (.dct (g5.snoc (r1.mono st2.r)))).sub' hP hs;exact k J _ _ S3 ((st1.r.trans st2.r).trans s3)
     .cases e3
   |_=>cases e
def qqx{i:Nat}{M:aA}(h:i<M.length):mO i M=some (.nx (M.set i (some (.dct [])))):=by unfold mO;rw[if_pos h]
def qqv{i:Nat}{M M1 M2:aA}{d:D}{k:Int}{gs gs':List (bI×D)}(h1:fe M=some (d,M1))(h2:fi M1=some (.int k,M2))(h3:M2[i]? =some (some (.dct gs)))(h4:oQ gs k d=some gs'):qd i fe fi M=some (.nx (M2.set i (some (.dct gs')))):=by unfold qd;simp only[h1,h2,h3,h4]
end
def qq1{K:aq}{O:Zg}{ta:TE}{fa:aN}(h:ME K O ta fa):MN K O (Eu K ta) (gz fa):=λZ J H R M ds M' Q S e k=>by
 let⟨x,M1,e1,e⟩:=b9 e;obtain⟨e3,rfl⟩:=c9 e;refine h Z J H R M x _ _ S e1 λv H1 R1 S1 st1 r1=>?_;unfold iO at e3;split at e3
 .cases e3;obtain⟨b,xs,rfl,q,r⟩:=r1.isL;refine⟨b,xs,rfl,Same.sqL S1.sub q,λl hl=>?_⟩;have x:=Ext.hid (o:=.lst xs.reverse) S1.sub hl;exact k l xs.reverse _ _ (S1.ext x) (st1.trans x.stp) (st1.new hl) cT (S1.out hl) r.rev
 .cases e3
section
variable{X:Cx}{K:aq}{O:Zg}{a:Expr}{ta:TE}{p p2 pos zk:Pos}{fa:aN}
noncomputable def jA(n:Int):List Int:=(List.range n.toNat).map λ(i:Nat)=>(i:Int)
def Ew(ta:TE):TE:=λJ H Q=>ta J H λv H1=>∃n:Int,[v]=[V.int n]/\0<=n/\n<=1000000/\∀q,H1 q=none->Q (.ref q) (aT H1 q (.lst ((jA n).map V.int)))
def qkb{acc:Ze}{ns:Zf}(hl:acc.length=ns.length)(h:∀(i:Nat) (v:Value),acc[i]? =some v->∃t,v=Value.int (ns.getD i 0) t):Vals (ns.map V.int) acc:=by
 induction acc generalizing ns with
 | nil=>
  cases ns with
  |nil=>exact .nil
  |cons n ns=>simp at hl
 | cons v r ih=>
  cases ns with
  |nil=>simp at hl
  | cons n ns=>
   refine .cons ?_ (ih (by simpa using hl) λi w e=>?_)
   .let⟨t,e⟩:=h 0 v rfl;exact⟨t,e⟩
   .let⟨t,e⟩:=h (i+1) w (by simpa using e);exact⟨t,by simpa using e⟩
def Gv(hc:X.calm=true)(hg:Gl X "list")(hm:X.mg "list"=none)(hg2:Gl X "range")(hm2:X.mg "range"=none)(ha:PE X a ta)(he2:starEach [a] X.env=(false,eval a X.env)::starEach [] X.env:=by rfl)(hpl2:(backTo pos (starEach [] X.env)).any (·.1)=false:=by rfl)
 (he:starEach [.Call (.Name "range" p) [a] [] pos] X.env=(false,eval (.Call (.Name "range" p) [a] [] pos) X.env)::starEach [] X.env:=by rfl) (hpl:(backTo zk (starEach [] X.env)).any (·.1)=false:=by rfl):
 PE X (.Call (.Name "list" p2) [.Call (.Name "range" p) [a] [] pos] [] zk) (Ew ta):=by
 intro z5 s J H Q I h;refine xq (ia I hg hm (u:=.type "list") (by rfl) ?_);refine PyProof.Rows.callWith_type1 ?_ he hpl;rw[he];show wpAny _ _ (spliced ((false,eval (.Call (.Name "range" p) [a] [] pos) X.env)::backTo zk (starEach [] X.env))) _ _ s;refine ku ?_;refine xq (ia I hg2 hm2 (u:=.type "range") (by rfl) ?_);refine PyProof.Rows.callWith_type1 (bu ((aj ha av he2) pos z5 s J H (λvs H1=>∃n:Int,vs=[V.int n]/\0<=n/\n<=1000000/\∀q,H1 q=none->Q (.ref q) (aT H1 q (.lst ((jA n).map V.int)))) I h) λus s1 h1=>?_) he2 hpl2;obtain⟨vs,H1,I1,r1,n,rfl,n0,n1,k⟩:=h1;obtain⟨u,rfl,ru⟩:=cH r1;obtain⟨t,rfl⟩:=ru;refine call_range_1 (Calls.spliced_nil ?_);have sz:Builtin.Range.rangeSize 0 n 1=(n.toNat:Int):=by rw[rangeSize_one];split<;>omega
 refine call_list_range (n := n.toNat) (I1.ok.hd hc) (IsRange.new ..) (small_one (by omega) (by omega) (by omega) (by omega)) sz (by have:(2:Nat)^24=16777216:=by decide
                                                                                                                                     omega) λh' tk acc c' kp e i=>?_
 have hf:H1 (s1.heap.push {cls:=.type "range",data:=.fields #[.int 0 s1.toks,.int n t,.int 1 (s1.toks+1)]}).objs.size=none:=I1.hok.fresh (by rw[xj];exact Nat.le_succ _);refine⟨.ref _,_,?_,rfl,k _ hf⟩;refine I1.laid (t':=tk) (λb o eb=>kp b o (ja _ eb)) (by rw[xj];exact Nat.le_succ _) ?_;have hsl:=xy;refine⟨by simp only[jA,List.length_map,List.length_range];omega,acc.toList,c',qkb (by have:=i.1;simp[jA];omega) λj v ev=>?_,by rw[e]⟩;have ev':acc[j]? =some v:=by simpa using ev
 let⟨t',e'⟩:=i.2 j v ev';have hj:j<n.toNat:=by have:=(Array.getElem?_eq_some_iff.mp ev').1;have:=i.1;omega
 refine⟨t',?_⟩;rw[e'];simp[jA,List.getD_eq_getElem?_getD,hj]
def e9:D->Option (List D)
 |.int n=>if 0<=n/\n<=1000000 then some ((jA n).map D.int)else none
 |_=>none
def Gm(h:ME K O ta fa):MN K O (Ew ta) (hZ e9 fa):=λZ J H R M ds M' Q S e k=>by
 let⟨x,M1,e1,e⟩:=b9 e;obtain⟨e3,rfl⟩:=c9 e;refine h Z J H R M x _ _ S e1 λv H1 R1 S1 st1 r1=>?_;unfold e9 at e3;split at e3
 .rename_i n;split at e3
  .rename_i hn;cases e3;obtain rfl:=r1.isI;refine⟨n,rfl,hn.1,hn.2,λl hl=>?_⟩;have x:=Ext.hid (o:=.lst ((jA n).map V.int)) S1.sub hl;exact k l _ _ _ (S1.ext x) (st1.trans x.stp) (st1.new hl) cT (S1.out hl) (Rps.ints _)
  .cases e3
 .cases e3
end
end L2
namespace L2
open PySem
noncomputable def lD(q:Mv):D:=.tup [.int q.1,.int q.2]
def gW(ch:List Mv):D:=.lst (ch.map lD)
def fY(st:Sx):D:=.lst (st.map gW)
def gc(steps:List Sx):D:=.lst (steps.map fY)
def dZ(t:Rw):D:=.lst (t.map bZ)
def fX(t:List Rw):D:=.lst (t.map dZ)
noncomputable def i0{α:Type}(c:List (List α))(q:Int×α):List (List α):=c.set q.1.toNat (c.getD q.1.toNat []++[q.2])
theorem Hf{α:Type}(j:Nat):∀(xs:List α) (c:List (List α)),j<c.length->((List.replicate xs.length (j:Int)).zip xs).foldl i0 c=c.set j (c.getD j []++xs)
 | [],c,h=>by
  have e:c.set j (c.getD j []++[])=c:=by rw[List.append_nil,ji,jb h];exact List.set_getElem_self h
  rw[e];rfl
 | x::xs,c,h=>by
  have e1:((List.replicate (x::xs).length (j:Int)).zip (x::xs))=((j:Int),x)::(List.replicate xs.length (j:Int)).zip xs:=rfl;rw[e1,List.foldl_cons];have e2:i0 c ((j:Int),x)=c.set j (c.getD j []++[x]):=by unfold i0;simp only[Int.toNat_natCast]
  rw[e2,Hf j xs _ (by rw[xh];exact h),List.set_set];congr 1;rw[ji,xg h];simp
theorem yR{α β:Type}:∀{xs:List α} {ys zs:List β},xs.length=ys.length->xs.zip (ys++zs)=xs.zip ys
 |[],[],_,_=>rfl
 | x::xs,y::ys,zs,h=>by rw[List.cons_append,List.zip_cons_cons,List.zip_cons_cons,yR (by simpa using h)]
 |[],_::_,_,h=>by simp at h
 |_::_,[],_,h=>by simp at h
section
variable{U:Zf}{G:Z9}{ts:List Told}
theorem He(N:Nat):∀j,j<=N->(bK U G j).length<=ts.length->((bK U G j).zip ts).foldl i0 (List.replicate N [])=(List.range N).map λk=>if k<j then aF U G ts k else []
 | 0,_,_=>by
  show List.replicate N []=_;apply List.ext_getElem?;intro i;by_cases h:i<N
  .rw[je,xr h,k8,if_pos h];simp
  .rw[x9 (by simp;omega),x9 (by simp;omega)]
 | j+1,hj,hl=>by
  rw[pr]at hl;have eP:bK U G (j+1)=bK U G j++List.replicate (bF U G j).length (j:Int):=jI _ _;have lc:(aF U G ts j).length=(bF U G j).length:=by unfold aF;rw[xi,xm];omega
  have eT:ts=ts.take (bK U G j).length++(aF U G ts j++(ts.drop (bK U G j).length).drop (bF U G j).length):=by unfold aF;rw[List.take_append_drop,List.take_append_drop]
  have ez:(bK U G (j+1)).zip ts=(bK U G j).zip ts++(List.replicate (bF U G j).length (j:Int)).zip (aF U G ts j):=by
   have h1:(bK U G j).length=(ts.take (bK U G j).length).length:=by rw[xi];omega
   have e1:(bK U G j).zip ts=(bK U G j).zip (ts.take (bK U G j).length):=by have:=yR (zs:=aF U G ts j++(ts.drop (bK U G j).length).drop (bF U G j).length) h1;rw[<-eT]at this;exact this
   rw[e1,eP];have:=List.zip_append (r₁:=List.replicate (bF U G j).length (j:Int)) (r₂:=aF U G ts j++(ts.drop (bK U G j).length).drop (bF U G j).length) h1;rw[<-eT]at this;rw[this,yR (by rw[jw,lc])]
  rw[ez,List.foldl_append,He N j (by omega) (by omega),<-lc,Hf j _ _ (by simp;omega)];apply List.ext_getElem?;intro i;by_cases h:i<N
  .rw[je,xr h];by_cases q:j=i
   .subst q;rw[xg (by simp;omega)];rw[ji,je,xr h];simp
   .rw[jo q,je,xr h];simp only[Option.map_some];congr 1;by_cases z:i<j
    .rw[if_pos z,if_pos (by omega)]
    .rw[if_neg z,if_neg (by omega)]
  .rw[x9 (by simp;omega),x9 (by simp;omega)]
def qhm(N:Nat)(hl:(bK U G N).length<=ts.length):((bK U G N).zip ts).foldl i0 (List.replicate N [])=(List.range N).map (aF U G ts):=by rw[He N N (jc _) hl];refine List.map_congr_left λk hk=>?_;rw[if_pos (List.mem_range.mp hk)]
end
def qcg{i:Nat}{fg:eL}{f:Fd}(d:D)(r:List D)(M:aA)(dss:List (List D)):kP i fg f (d::r) M dss=match fg d M with
 | some M1=>if dk M1 i=true then(match f M1 dss with
  |some p=>kP i fg f r p.1 p.2
  |none=>none)else none
 |none=>none:=rfl
theorem Hg{i a b:Nat}{fe:aN}{fs:ba}{α:Type}(dat obj:α->D)(M0:Option D->Option D->aA)(hf:∀u v,dk (M0 u v) i=true)
 (hg:∀(k:Int) (t:α) (u v:Option D),(cY 2 (bE (ai a) (bE (ai b) c7))) (.tup [.int k,dat t]) (M0 u v)=some (M0 (some (.int k)) (some (dat t))))
 (he:∀(k:Int) (t:α),fe (M0 (some (.int k)) (some (dat t)))=some (.int k,M0 (some (.int k)) (some (dat t)))) (hs:∀(k:Int) (t:α),fs (M0 (some (.int k)) (some (dat t)))=some ([obj t],M0 (some (.int k)) (some (dat t)))):
 ∀(zs:List (Int×α)) (c:List (List α)) (u v:Option D),(∀q∈zs,0<=q.1/\q.1.toNat<c.length)->(∀g∈c,g.length+zs.length<sizeLine)->∃u' v',kP i (cY 2 (bE (ai a) (bE (ai b) c7))) (pe i fe fs) (zs.map λq=>D.tup [.int q.1,dat q.2]) (M0 u v) (c.map λg=>g.map obj)=some (M0 u' v',(zs.foldl i0 c).map λg=>g.map obj)
 |[],c,u,v,_,_=>⟨u,v,rfl⟩
 | q::zs,c,u,v,hz,hc=>by
  let⟨z0,z1⟩:=hz q jf;have hq:c[q.1.toNat]? =some c[q.1.toNat]:=jb z1;have hp:qo (c.map λg=>g.map obj) q.1 (obj q.2)=some ((i0 c q).map λg=>g.map obj):=by unfold qo;rw[if_pos z0,je,hq];simp only[Option.map_some];rw[if_pos (by rw[j7];have:=hc _ (xn z1);simp at this;omega)];unfold i0;rw[List.map_set,ji,hq];simp
  let⟨u',v',h⟩:=Hg (i:=i) (a:=a) (b:=b) (fe:=fe) (fs:=fs) dat obj M0 hf hg he hs zs (i0 c q) (some (.int q.1)) (some (dat q.2)) (λp hp=>by
   have:=hz p (jd _ hp);refine⟨this.1,?_⟩;unfold i0;rw[xh];exact this.2) (λg hg=>by
   unfold i0 at hg;rcases List.mem_or_eq_of_mem_set hg with h1|h1
   .have:=hc g h1;simp at this;omega
   .rw[h1,ji,hq];have:=hc _ (xn z1);simp at this ⊢;omega)
  refine⟨u',v',?_⟩;have step:pe i fe fs (M0 (some (.int q.1)) (some (dat q.2))) (c.map λg=>g.map obj)=some (M0 (some (.int q.1)) (some (dat q.2)),(i0 c q).map λg=>g.map obj):=by unfold pe;rw[he q.1 q.2];simp only[hf,if_true];rw[hs q.1 q.2];simp only[hf,if_true,hp,Option.map_some]
  rw[jz,List.foldl_cons,<-h,qcg,hg q.1 q.2 u v];simp only[hf,if_true,step]
def mD{a b:Int×List Int}(h:cB a b=true):cB b a=false:=t5 a b b h (Hh b)
abbrev Kr:=List (Option (Int×List Int))
section
variable(r:Int)(U:Zf)(G:Z9)(ts:List Told)
def IK(k:Nat)(u:Zf):Int:=((List.range' 0 k).map λj=>gg (aF U G ts j) (fZ r.toNat U G 0 u j)).sum
end
section
variable{r:Int}{U:Zf}{G:Z9}{ts:List Told}{n:Nat}
structure qyp(k:Nat)(row:Kr):Prop where
 len:row.length=2^r.toNat
 is:∀(q:Nat) (p:Int×List Int),row[q]? =some (some p)->ay p.2/\p.2.length=k/\bA (2^r.toNat) 0 p.2=(q:Int)/\p.1=IK r U G ts k p.2
 best:∀u:List Int,ay u->u.length=k->∃p,row[(bA (2^r.toNat) 0 u).toNat]? =some (some p)/\cB (IK r U G ts k u,u) p=false
end
end L2
namespace L2
open PySem PySem.W PyProof.Rows
section
variable{α β:Type}{lt:Nat->Nat->Bool}{N n:Nat}{p:Array Nat}
def iF(lt:Nat->Nat->Bool)(N:Nat):KasT α->(α->Prop)->Prop
 |.ret a,Q=>Q a
 |.ask i j k,Q=>i<N/\j<N/\iF lt N (k (lt i j)) Q
theorem ph{f:α->KasT β}{Q:β->Prop}:∀{t:KasT α},iF lt N t (λa=>iF lt N (f a) Q)->iF lt N (t.bind f) Q
 |.ret _,h=>h
 |.ask i j k,h=>⟨h.1,h.2.1,ph h.2.2⟩
theorem m7{Q Q':α->Prop}(hq:∀a,Q a->Q' a):∀{t:KasT α},iF lt N t Q->iF lt N t Q'
 |.ret _,h=>hq _ h
 |.ask i j k,h=>⟨h.1,h.2.1,m7 hq h.2.2⟩
theorem Fv{cmp:Nat->Nat->(Bool->Shared->Prop)->Shared->Prop}{I:Shared->Prop}(hc:∀i j,i<N->j<N->∀C s,I s->(∀s',I s'->C (lt i j) s')->cmp i j C s){P:α->Prop}{Q:α->Shared->Prop}(hq:∀a s,P a->I s->Q a s):∀{t:KasT α} {s:Shared},iF lt N t P->I s->t.kasWp cmp Q s
 |.ret _,s,h,hI=>hq _ s h hI
 |.ask i j k,s,h,hI=>hc i j h.1 h.2.1 _ s hI λs' hI'=>Fv hc hq h.2.2 hI'
structure Pm(n:Nat)(p:Array Nat):Prop where
 size:p.size=n
 perm:p.toList.Perm (List.range n)
def Pm.get(h:Pm n p){i:Nat}(hi:i<n):p[i]? =some (p.getD i 0):=by
 have:i<p.size:=by rw[h.size];exact hi
 rw[Array.getElem?_eq_getElem this];simp[this]
def Pm.lo(h:Pm n p){i:Nat}(hi:i<n):p.getD i 0<n:=by
 have hm:p.getD i 0∈p.toList:=by have:=h.get hi;rw[<-Array.getElem?_toList]at this;exact xk this
 exact List.mem_range.mp (h.perm.mem_iff.mp hm)
def Pm.ne(h:Pm n p){i j:Nat}(hi:i<n)(hj:j<n)(ij:i≠j):p.getD i 0≠p.getD j 0:=λe=>by
 have nd:p.toList.Nodup:=h.perm.nodup_iff.mpr List.nodup_range;have a:=h.get hi;have b:=h.get hj;rw[<-Array.getElem?_toList]at a b;rw[e]at a;have li:i<p.toList.length:=by rw[Array.length_toList,h.size];exact hi
 exact ij ((List.getElem?_inj li nd).mp (a.trans b.symm))
def Pm.of(h:Pm n p){q:Array Nat}(hq:q.Perm p):Pm n q:=⟨by rw[hq.size_eq];exact h.size,(Array.perm_iff_toList_perm.mp hq).trans h.perm⟩
def tU{q:Array Nat}{i j:Nat}(h:q[i]? =p[j]?):q.getD i 0=p.getD j 0:=by rw[Array.getD_eq_getD_getElem?,Array.getD_eq_getD_getElem?,h]
def Up(lt:Nat->Nat->Bool)(p:Array Nat)(m:Nat):Prop:=∀i j,i<j->j<m->lt (p.getD i 0) (p.getD j 0)=true
def Dn(lt:Nat->Nat->Bool)(p:Array Nat)(m:Nat):Prop:=∀i j,i<j->j<m->lt (p.getD j 0) (p.getD i 0)=true
structure Ord(lt:Nat->Nat->Bool)(n:Nat):Prop where
 irr:∀a b,a<n->b<n->lt a b=true->lt b a=false
 tot:∀a b,a<n->b<n->a≠b->lt a b=false->lt b a=true
 tr:∀a b c,a<n->b<n->c<n->lt a b=true->lt b c=true->lt a c=true
theorem wC(O:Ord lt n)(h:Pm n p):∀(f a:Nat),1<=a->a+f=n->Up lt p a->iF lt n (kas_asc p f a) λm=>1<=m/\a<=m/\m<=n/\Up lt p m/\(m<n->lt (p.getD m 0) (p.getD (m-1) 0)=true)
 |0,a,h1,h2,u=>⟨h1,jc _,by omega,u,λz=>by omega⟩
 | f+1,a,h1,h2,u=>by
  unfold kas_asc;refine⟨h.lo (by omega),h.lo (by omega),?_⟩;cases c:lt (p.getD a 0) (p.getD (a-1) 0)with
  |true=>exact⟨h1,jc _,by omega,u,λ_=>c⟩
  | false=>
   have last:lt (p.getD (a-1) 0) (p.getD a 0)=true:=O.tot _ _ (h.lo (by omega)) (h.lo (by omega)) (h.ne (by omega) (by omega) (by omega)) c;have u':Up lt p (a+1):=λi j ij jm=>by
    by_cases q:j<a
    .exact u i j ij q
    .have ej:j=a:=by omega
     subst ej;by_cases qi:i=j-1
     .rw[qi];exact last
     .exact O.tr _ _ _ (h.lo (by omega)) (h.lo (by omega)) (h.lo (by omega)) (u i (j-1) (by omega) (by omega)) last
   exact m7 (λm hm=>⟨hm.1,by omega,hm.2.2⟩) (wC O h f (a+1) (by omega) (by omega) u')
theorem Gb(O:Ord lt n)(h:Pm n p):∀(f a:Nat),2<=a->a+f=n->Dn lt p a->iF lt n (kas_desc f p a 0) λr=>r.1=p/\r.2.2=0/\2<=r.2.1/\r.2.1<=n/\Dn lt p r.2.1
 |0,a,h1,h2,u=>⟨rfl,rfl,h1,by show a<=n;omega,u⟩
 | f+1,a,h1,h2,u=>by
  unfold kas_desc;refine⟨h.lo (by omega),h.lo (by omega),?_⟩;cases c:lt (p.getD a 0) (p.getD (a-1) 0)with
  | true=>
   have u':Dn lt p (a+1):=λi j ij jm=>by
    by_cases q:j<a
    .exact u i j ij q
    .have ej:j=a:=by omega
     subst ej;by_cases qi:i=j-1
     .rw[qi];exact c
     .exact O.tr _ _ _ (h.lo (by omega)) (h.lo (by omega)) (h.lo (by omega)) c (u i (j-1) (by omega) (by omega))
   dsimp only;rw[if_pos rfl,if_neg (by decide)];exact Gb O h f (a+1) (by omega) (by omega) u'
  | false=>
   dsimp only;rw[if_neg (by decide)];have last:lt (p.getD (a-1) 0) (p.getD a 0)=true:=O.tot _ _ (h.lo (by omega)) (h.lo (by omega)) (h.ne (by omega) (by omega) (by omega)) c;refine⟨h.lo (by omega),h.lo (by omega),?_⟩;rw[last];dsimp only;rw[if_pos rfl];exact⟨rfl,rfl,h1,by show a<=n;omega,u⟩
def qta(h:Pm n p){m:Nat}(hm:m<=n)(u:Dn lt p m):Pm n (kas_rev p 0 m)/\Up lt (kas_rev p 0 m) m:=by
 have e:∀k,k<m->(kas_rev p 0 m).getD k 0=p.getD (m-1-k) 0:=λk hk=>tU (by unfold kas_rev;rw[getElem?_mirror_all (by rw[h.size];exact hm),if_pos ⟨Nat.zero_le _,hk⟩,jv])
 refine⟨h.of (mirror_perm _ _ _ _),λi j ij jm=>?_⟩;rw[e i (by omega),e j jm];exact u _ _ (by omega) (by omega)
def qmc(O:Ord lt n)(h:Pm n p)(h2:2<=n):iF lt n (kas_count n p) λr=>Pm n r.2/\1<=r.1/\r.1<=n/\Up lt r.2 r.1:=by
 unfold kas_count;refine ph (m7 ?_ (wC O h (n-1) 1 (jc _) (by omega) λi j ij jm=>by omega));rintro m ⟨m1,_,mn,u,stop⟩;by_cases q:m=n
 .rw[if_pos (by rw[q];exact beq_self_eq_true n)];exact⟨h,m1,mn,u⟩
 .rw[if_neg (by simpa using q)];by_cases q1:m>1
  .rw[if_pos q1];refine⟨h.lo (by omega),h.lo (by omega),?_⟩;rw[u 0 (m-1) (by omega) (by omega)];dsimp only;rw[if_pos rfl];exact⟨h,m1,mn,u⟩
  .rw[if_neg q1];have e1:m=1:=by omega
   subst e1;unfold kas_descPart;refine ph (m7 ?_ (Gb O h (n-(1+1)) (1+1) (by omega) (by omega) λi j ij jm=>?_))
   .rintro⟨q,a,b⟩ ⟨rfl,rfl,a2,an,d⟩;dsimp only at a2 an d ⊢;rw[if_neg (by decide)];unfold kas_tail3;let⟨h',u'⟩:=qta h an d;refine ph (m7 ?_ (wC O h' (n-a) a (by omega) (by omega) u'));rintro m' ⟨x1,_,x2,x3,_⟩;exact⟨h',x1,x2,x3⟩
   .have ei:i=0:=by omega
    have ej:j=1:=by omega
    subst ei ej;exact stop (by omega)
theorem yN(O:Ord lt n)(h:Pm n p){k:Nat}(hk:k<n)(u:Up lt p k):∀(f l r:Nat),l<=r->r<=k->r-l<=f->(∀i,i<l->lt (p.getD i 0) (p.getD k 0)=true)->(∀i,r<=i->i<k->lt (p.getD k 0) (p.getD i 0)=true)->iF lt n (kas_place p k f l r) λm=>m<=k/\(∀i,i<m->lt (p.getD i 0) (p.getD k 0)=true)/\∀i,m<=i->i<k->lt (p.getD k 0) (p.getD i 0)=true
 | 0,l,r,lr,rk,hf,a,b=>by
  have e:l=r:=by omega
  subst e;exact⟨rk,a,b⟩
 | f+1,l,r,lr,rk,hf,a,b=>by
  unfold kas_place;by_cases q:l≥r
  .rw[if_pos q];have e:l=r:=by omega
   subst e;exact⟨rk,a,b⟩
  .rw[if_neg q];refine⟨h.lo hk,h.lo (by omega),?_⟩;cases c:lt (p.getD k 0) (p.getD ((l+r) / 2) 0)with
   | true=>
    dsimp only;rw[if_pos rfl];refine yN O h hk u f l ((l+r) / 2) (by omega) (by omega) (by omega) a λi h1 h2=>?_;by_cases qi:i=(l+r) / 2
    .rw[qi];exact c
    .exact O.tr _ _ _ (h.lo hk) (h.lo (by omega)) (h.lo (by omega)) c (u _ _ (by omega) h2)
   | false=>
    dsimp only;rw[if_neg (by decide)];have c':lt (p.getD ((l+r) / 2) 0) (p.getD k 0)=true:=O.tot _ _ (h.lo hk) (h.lo (by omega)) (h.ne hk (by omega) (by omega)) c;refine yN O h hk u f ((l+r) / 2+1) r (by omega) rk (by omega) (λi hi=>?_) b;by_cases qi:i=(l+r) / 2
    .rw[qi];exact c'
    .exact O.tr _ _ _ (h.lo (by omega)) (h.lo (by omega)) (h.lo hk) (u _ _ (by omega) (by omega)) c'
theorem ES(O:Ord lt n):∀(f:Nat) (p:Array Nat) (k:Nat),Pm n p->k+f=n->Up lt p k->iF lt n (kas_bin f p k) λq=>Pm n q/\Up lt q n
 |0,p,k,h,e,u=>⟨h,by rw[<-e];exact u⟩
 | f+1,p,k,h,e,u=>by
  unfold kas_bin;have hk:k<n:=by omega
  refine ph (m7 ?_ (yN O h hk u k 0 k (Nat.zero_le _) (jc _) (by omega) (λi hi=>by omega) λi h1 h2=>by omega));rintro l ⟨lk,a,b⟩;have g:∀j,(bubble p k (k-l)).getD j 0=if j=l then p.getD k 0 else if l<j/\j<=k then p.getD (j-1) 0 else p.getD j 0:=λj=>by
   have e1:=getElem?_bubble (xs:=p) (src:=k) (by rw[h.size];exact hk) (k-l) (by omega) j;rw[show k-(k-l)=l from by omega]at e1;by_cases q1:j=l
   .rw[if_pos q1]at e1 ⊢;exact tU e1
   .rw[if_neg q1]at e1 ⊢;by_cases q2:l<j/\j<=k
    .rw[if_pos q2]at e1 ⊢;exact tU e1
    .rw[if_neg q2]at e1 ⊢;exact tU e1
  refine ES O f _ (k+1) (h.of (bubble_perm _ _ _)) (by omega) λi j ij jk=>?_;rw[g i,g j];by_cases j1:j=l
  .rw[if_pos j1,if_neg (by omega),if_neg (by omega)];exact a i (by omega)
  .rw[if_neg j1];by_cases j2:l<j/\j<=k
   .rw[if_pos j2];by_cases i1:i=l
    .rw[if_pos i1];exact b (j-1) (by omega) (by omega)
    .rw[if_neg i1];by_cases i2:l<i/\i<=k
     .rw[if_pos i2];exact u _ _ (by omega) (by omega)
     .rw[if_neg i2];exact u _ _ (by omega) (by omega)
   .rw[if_neg j2,if_neg (by omega),if_neg (by omega)];exact u _ _ ij (by omega)
def qp0(O:Ord lt n)(h2:2<=n):iF lt n (kas_sort n) λq=>Pm n q/\Up lt q n:=by
 unfold kas_sort;have h0:Pm n (List.toArray (List.range n)):=⟨by simp,by simp⟩;refine ph (m7 ?_ (qmc O h0 h2));rintro⟨m,q⟩ ⟨h,m1,mn,u⟩;dsimp only at h m1 mn u ⊢;by_cases c:m<n
 .rw[if_pos c,Nat.max_eq_left m1];exact ES O _ _ _ h (by omega) u
 .rw[if_neg c];have e:m=n:=by omega
  subst e;exact⟨h,u⟩
end
end L2
namespace L2
open PySem PySem.Spec PyProof.Rows
section
variable{prog:Program}{w:World}{A:Around}{E:Z0}{s:Shared}
def GB{env:Env}{v:Str}{a:Addr}{its:Zd}{x:Value}{i:Nat}{m:Za}{p1 q1 r1:Pos}{j1:Nat}{Q:Z0}(zg:env.scope.kind=.function)(hk:env.scope.names.lookup v=some .local)(hn:s.heap.Ns env.locals m)(hm:m v=some (.ref a))(hd:(v==("__debug__":Str))=false)(ht:IsTup s.heap a its)(hi:its[i]? =some x)(hz:i<1000)(k:∀tk,Q x {s with toks:=tk}):
 wpAny (model prog w) A (eval (.Subscript (.Name v p1) (.Constant (.int i) j1 q1) r1) env) Q E s:=by
 refine Subscript_ ?_;refine wpAny_Name (wpAny_loadName_local zg hk hn hm ?_) hd;refine wpAny_Constant_int ?_;have hl:i<its.size:=(Array.getElem?_eq_some_iff.mp hi).1;exact subscriptTail_builtinR (x:=x) (IsTup.typeIs (s:={s with toks:=s.toks+1}) ht) slot_tuple_getitem.lookup
  (getItem_tuple (j:=i) (Q:=λr s'=>r=x/\Q r s') ht (by omega) (by omega) (seqIndex_of (by omega) (by simpa using hl)) hi ⟨rfl,k _⟩) rfl
abbrev mX(v:Str)(p1 q1 r1 p2 q2 r2 pos:Pos)(j1 j2:Nat)(x1:Nat):Expr:=.Tuple [.Subscript (.Name v p1) (.Constant (.int 0) j1 q1) r1,.Subscript (.Name v p2) (.Constant (.int 1) j2 q2) r2] x1 pos
def qq9{f c' a:Addr}{name qual v:Str}{params:Arguments}{scope:Scope}{pm ctv x0 x1:Value}{its:Zd}{p1 q1 r1 p2 q2 r2 pos:Pos}{j1 j2:Nat}{xc:Nat}{Q:Z0}(zi:A.depth<recursionLimit)(lim:s.heap.NoLimit)
 (ho:s.heap.get? f=some (W.kla_obj name qual params (mX v p1 q1 r1 p2 q2 r2 pos j1 j2 xc) scope [] pm c' ctv)) (hcd:s.heap.CodeRec (.ref c') qual) (hb:bindArgs (W.kla_fn name qual params (mX v p1 q1 r1 p2 q2 r2 pos j1 j2 xc) scope [] pm (.ref c') ctv) ⟨[.ref a],[]⟩=pure [(v,.ref a)])
 (hco:scope.isCoroutine=false) (hgen:scope.isGenerator=false) (zg:scope.kind=.function) (zp:∀x∈scope.names,x.2≠.cell) (hloc:scope.names.lookup v=some .local) (hd:(v==("__debug__":Str))=false) (ht:IsTup s.heap a its) (h0:its[0]? =some x0) (h1:its[1]? =some x1)
 (k:∀t s',Kq s s'->s.heap.objs.size<=t->s'.heap.get? t=some {cls:=.type "tuple",data:=.seq #[x0,x1]}->Q (.ref t) s'):wpAny (model prog w) A (call (.ref f) [.ref a]) Q E s:=by
 refine wpAny_call (W.kla_callFunE zi ho rfl hco hgen rfl hcd ?_);rw[hb];refine j8 (wpAny_newFunctionEnv zp (λy hy=>by rw[List.mem_singleton.mp hy];exact hloc) (λh₁ hns hsb=>⟨lim.fresh _ hsb,W.kla_codeExpr ?_⟩) zg);have hk₁:∀b o,s.heap.get? b=some o->h₁.get? b=some o:=λb o e=>hsb.extBut b o (jl (j9 e)) (ja _ e);have ht1:IsTup h₁ a its:=let ⟨o,e,c⟩:=ht;⟨o,hk₁ _ _ e,c⟩
 have hm:(λx=>([(v,Value.ref a)]:List (Str×Value)).reverse.lookup x) v=some (.ref a):=by simp
 have hsz:s.heap.objs.size<=h₁.objs.size:=by obtain⟨o,es,ep,e1,_⟩:=hns;exact Nat.le_of_lt (j9 e1)
 refine wpAny_Tuple_spliced (ku ?_);refine GB (m:=λx=>([(v,Value.ref a)]:List (Str×Value)).reverse.lookup x) zg hloc hns hm hd ht1 h0 (by decide) λtk1=>?_;refine ku ?_;refine GB (m:=λx=>([(v,Value.ref a)]:List (Str×Value)).reverse.lookup x) zg hloc hns hm hd ht1 h1 (by decide) λtk2=>?_;refine Calls.spliced_nil ⟨by show 2<=sizeLine;decide,?_⟩;exact k _ _ ⟨λb o e=>ja _ (hk₁ b o e),rfl,rfl,rfl⟩ hsz (jq _ rfl)
def qvp{t u x y:Addr}{c d:Int}{tc td:Tok}{vs us:Ze}{ws zs:Zf}{Q:Bool->Shared->Prop}(ht:s.heap.get? t=some {cls:=.type "tuple",data:=.seq #[.int c tc,.ref x]})(hu:s.heap.get? u=some {cls:=.type "tuple",data:=.seq #[.int d td,.ref y]})
 (hx:s.heap.IsList x vs.toArray) (hy:s.heap.IsList y us.toArray) (hi:IntsAre vs ws) (hj:IntsAre us zs) (hl:ws.length=zs.length) (un:A.units+1<cLine) (k:Q (cB (c,ws) (d,zs)) s):wpAny (model prog w) A (keyLt' (tuples' true) (.ref t) (.ref u)) Q E s:=by
 refine W.kat_lt ht rfl hu rfl ?_;show W.KatLex prog w A true _ Q [(.int c tc,.int d td),(.ref x,.ref y)] 0 s;refine W.kat_cons (wpAny_eqBool_int (W.kat_go (λe=>?_) λe=>?_))
 .have ecd:c=d:=by simpa using e
  subst ecd;have q1:cB (c,ws) (c,zs)=HT.lexLt ws zs:=if_pos rfl;rw[q1]at k;have ee:=HE (A:=A) (s:=s) hx hy hi hj hl (by omega);refine W.kat_yes (W.kat_cons (ee prog w _ _ ?_));by_cases z:ws=zs
  .subst z;rw[decide_eq_true rfl];refine W.kat_yes (W.kat_nil ?_);rw[uw]at k;exact k
  .rw[decide_eq_false z];refine W.kat_no (W.kat_one _ _ ?_);exact HP hx hy (by simpa using hi) (by simpa using hj) hl (by omega) k
 .have ncd:c≠d:=by simpa using e
  have q1:cB (c,ws) (d,zs)=decide (c<d):=if_neg ncd;rw[q1]at k;exact W.kat_no (oneLt_int k)
end
end L2
namespace L2
open PySem PySem.Spec PyProof.Rows PySem.W
noncomputable def fk(h₀:Heap)(L:Addr)(h:Heap):List (Addr×Obj):=(List.range h.objs.size).filterMap λb=>match h.get? b with
 | some o=>if b=L then none else(match h₀.get? b with
  |some _=>none
  |none=>some (b,o))
 |none=>none
def mem_allN{h₀ h:Heap}{L b:Addr}{o:Obj}:(b,o)∈fk h₀ L h↔h.get? b=some o/\b≠L/\h₀.get? b=none:=by
 unfold fk;rw[List.mem_filterMap];constructor
 .rintro⟨x,_,hx⟩;cases e:h.get? x with
  |none=>rw[e]at hx;cases hx
  | some u=>
   rw[e]at hx;dsimp only at hx;split at hx
   .cases hx
   .rename_i q;cases e0:h₀.get? x with
    |some v=>rw[e0]at hx;cases hx
    | none=>
     rw[e0]at hx;cases hx;exact⟨e,q,e0⟩
 .rintro⟨e,q,e0⟩;refine⟨b,List.mem_range.mpr (j9 e),?_⟩;rw[e];dsimp only;rw[if_neg q,e0]
def Hs{h₀ h:Heap}{L:Addr}:News h₀ L h (fk h₀ L h):=λp hp=>mem_allN.mp hp
def ut{h₀ h h':Heap}{L:Addr}{m m':Za}(F:Fr h₀ L h m)(F':Fr h₀ L h' m')(k:∀p∈fk h₀ L h,h'.get? p.1=some p.2):∀b o,h.get? b=some o->b≠L->h'.get? b=some o:=λb o e q=>by
 cases e0:h₀.get? b with
 | some v=>
  have:=F.keep b v e0;rw[e]at this;cases this;exact F'.keep b o e0
 |none=>exact k (b,o) (mem_allN.mpr ⟨e,q,e0⟩)
def gC(h:Heap)(L:Addr)(v:Value)(q:Int×List Int):Prop:=∃a its t x vs,v=.ref a/\a≠L/\x≠L/\IsTup h a its/\its[0]? =some (.int q.1 t)/\its[1]? =some (.ref x)/\h.IsList x vs.toArray/\IntsAre vs q.2
def oy(h:Heap)(L:Addr)(rest:Z3)(v:Value)(q:Int×List Int):Prop:=∃a t x vs,v=.ref a/\(a,({cls:=.type "tuple",data:=.seq #[.int q.1 t,.ref x]}:Obj))∈rest/\x≠L/\h.IsList x vs.toArray/\IntsAre vs q.2
def qy9(qs:List (Int×List Int))(hd:∀i j,i<qs.length->j<qs.length->i≠j->qs.getD i (0,[])≠qs.getD j (0,[])):Ord (λi j=>cB (qs.getD i (0,[])) (qs.getD j (0,[]))) qs.length where
 irr:=λa b _ _ h=>mD h
 tot:=λa b ha hb ab h=>by
  cases q:cB (qs.getD b (0,[])) (qs.getD a (0,[]))with
  |true=>rfl
  |false=>exact absurd (ql h q) (hd a b ha hb ab)
 tr:=λa b c _ _ _ h1 h2=>by
  cases q:cB (qs.getD a (0,[])) (qs.getD c (0,[]))with
  |true=>rfl
  | false=>
   have:=t5 _ _ _ h2 q;rw[h1]at this;cases this
section
variable{prog:Program}{w:World}{A:Around}{E:Z0}{s:Shared}{h₀:Heap}{L f c':Addr}{m:Za}
def oJ(s s1:Shared):Prop:=s1.gens=s.gens/\s1.drawn=s.drawn/\s1.os=s.os
def lY(prog:Program)(w:World)(A:Around)(h₀:Heap)(L f:Addr)(m:Za)(s:Shared):Prop:=∀(s1:Shared) (v:Value) (q:Int×List Int) (Q:Z0),oJ s s1->Fr h₀ L s1.heap m->(∀b o,s.heap.get? b=some o->b≠L->s1.heap.get? b=some o)->gC s.heap L v q->
 (∀t s' tc x vs,Kq s1 s'->s1.heap.objs.size<=t->x≠L->s'.heap.get? t=some {cls:=.type "tuple",data:=.seq #[.int q.1 tc,.ref x]}->s.heap.IsList x vs.toArray->IntsAre vs q.2->Q (.ref t) s')->wpAny (model prog w) A (call (.ref f) [v]) Q (λ_ _=>False) s1
theorem yj{kS:Addr}{Fin:List Value->Nat->Shared->Prop}{news:Z3}{qs:List (Int×List Int)}(hf:lY prog w A h₀ L f m s)(F0:Fr h₀ L s.heap m)(base:∀p∈fk h₀ L s.heap,p∈news)
 (fin:∀(ks:Ze) (e:Nat) (tps:Z3) (s1:Shared),oJ s s1->Fr h₀ L s1.heap m->News h₀ L s1.heap ((kS,seqObj "list" ks.toArray e)::(tps++news))->(∀p∈tps++news,p.1≠kS)->(∀p∈tps,∀q∈news,q.1≠p.1)->Paired (oy s.heap L (tps++news)) ks qs->Fin ks e s1):
 ∀(r:Ze) (qr ps:List (Int×List Int)) (ks:Ze) (e:Nat) (tps:Z3) (s1:Shared),qs=ps++qr->oJ s s1->Fr h₀ L s1.heap m->News h₀ L s1.heap ((kS,seqObj "list" ks.toArray e)::(tps++news))->(∀p∈tps++news,p.1≠kS)->(∀p∈tps,∀q∈news,q.1≠p.1)->
   Paired (gC s.heap L) r qr->Paired (oy s.heap L (tps++news)) ks ps->KatKeys prog w A h₀ L m kS (.ref f) Fin r ks e s1
 | [],qr,ps,ks,e,tps,s1,eq,so,F,N,hk,hn,hr,hp=>by cases hr;rw[List.append_nil]at eq;exact .nil (fin ks e tps s1 so F N hk hn (by rw[eq];exact hp))
 | v::r,qr0,ps,ks,e,tps,s1,eq,so,F,N,hk,hn,hr0,hp=>by
  obtain⟨q,qr,rfl,hv,hr⟩:∃q qr,qr0=q::qr/\gC s.heap L v q/\Paired (gC s.heap L) r qr:=by
   cases hr0 with
   |cons h t=>exact⟨_,_,rfl,h,t⟩
  have keeps:=ut F0 F λp hp'=>(N p (jd _ (x6 _ (base p hp')))).1;refine .cons (hf s1 v q _ so F keeps hv λt s2 tc x vs kq ht xL et hx hi=>?_);have F2:Fr h₀ L s2.heap m:=⟨F.ns.keeps kq.heap,λb o e=>kq.heap _ _ (F.keep b o e),F.above⟩;have tL:L<t:=jr F.ns.lt ht;have N2:News h₀ L s2.heap ((kS,seqObj "list" ks.toArray e)::(((t,{cls:=.type "tuple",data:=.seq #[.int q.1 tc,.ref x]})::tps)++news)):=λp hp'=>by
   rcases List.mem_cons.mp hp' with rfl|hp'
   .have:=N _ jf;exact⟨kq.heap _ _ this.1,this.2⟩
   .rw[List.cons_append]at hp';rcases List.mem_cons.mp hp' with rfl|hp'
    .exact⟨et,Nat.ne_of_gt tL,kr (ju F.above (Nat.le_of_lt tL))⟩
    .have:=N p (jd _ hp');exact⟨kq.heap _ _ this.1,this.2⟩
  have hk2:∀p∈((t,({cls:=.type "tuple",data:=.seq #[.int q.1 tc,.ref x]}:Obj))::tps)++news,p.1≠kS:=λp hp'=>by
   rw[List.cons_append]at hp';rcases List.mem_cons.mp hp' with rfl|hp'
   .exact Nat.ne_of_gt (jr (j9 (N _ jf).1) ht)
   .exact hk p hp'
  have hn2:∀p∈(t,({cls:=.type "tuple",data:=.seq #[.int q.1 tc,.ref x]}:Obj))::tps,∀y∈news,y.1≠p.1:=λp hp' y hy=>by
   rcases List.mem_cons.mp hp' with rfl|hp'
   .exact jl (jr (j9 (N y (jd _ (x6 _ hy))).1) ht)
   .exact hn p hp' y hy
  refine KatBack.intro F2 N2 (.head hk2) λh' c F' N'=>?_;refine yj hf F0 base fin r qr (ps++[q]) (ks++[.ref t]) c ((t,{cls:=.type "tuple",data:=.seq #[.int q.1 tc,.ref x]})::tps) {s2 with heap:=h'} (by rw[eq,List.append_assoc];rfl) ⟨kq.gens.trans so.1,kq.drawn.trans so.2.1,kq.os.trans so.2.2⟩ F' N' hk2 hn2 hr ?_;refine Paired.snoc (Paired.mapP hp λk y hy=>?_) ⟨t,tc,x,vs,rfl,by rw[List.cons_append];exact jf,xL,hx,hi⟩;obtain⟨a,t',x',vs',e1,e2,e3⟩:=hy;exact⟨a,t',x',vs',e1,by rw[List.cons_append];exact jd _ e2,e3⟩
theorem yP{D:Addr}{o:Obj}{post:Z3}(hp:∀p∈post,p.1≠D):∀{pre:Z3},(∀p∈pre,p.1≠D)->UpdF D o (pre++(D,o)::post) (λo'=>pre++(D,o')::post)
 |[],_=>.head hp
 |x::pre,h=>.tail (h x jf) (yP hp λp hp'=>h p (jd _ hp'))
theorem zJ{α β:Type}{G:α->β->Prop}{a:α}{b:β}:∀{xs:List α} {ys:List β} {i:Nat},Paired G xs ys->i<xs.length->G (xs.getD i a) (ys.getD i b)
 |_,_,0,.cons h _,_=>h
 |_,_,i+1,.cons _ t,hi=>zJ (i:=i) t (by simpa using hi)
 |_,_,_,.nil,hi=>by cases hi
theorem zE{α β:Type}{G:α->β->Prop}:∀{xs:List α} {ys:List β},Paired G xs ys->xs.length=ys.length
 |_,_,.nil=>rfl
 |_,_,.cons _ t=>congrArg Nat.succ (zE t)
theorem GX{h h1:Heap}{rest:Z3}(hr:∀p∈rest,h1.get? p.1=some p.2):∀{ks:Ze} {qs:List (Int×List Int)},Paired (oy h L rest) ks qs->∃fs,KatTups h1 ks fs/\fs.length=ks.length/\∀v∈fs,∃c t,v=Value.int c t
 |_,_,.nil=>⟨[],.nil,rfl,λ_ z=>nomatch z⟩
 | _,_,.cons ⟨a,t,x,vs,e1,e2,_⟩ r=>by
  let⟨fs,h1,h2,h3⟩:=GX hr r;subst e1;refine⟨.int _ t::fs,.cons (hr _ e2) rfl rfl rfl h1,congrArg Nat.succ h2,λv hv=>?_⟩;rcases List.mem_cons.mp hv with rfl|hv
  .exact⟨_,_,rfl⟩
  .exact h3 v hv
def qfc{l:Addr}{vs:Ze}{qs:List (Int×List Int)}{Q:Z0}(F:Fr h₀ L s.heap m)(hl:s.heap.IsList l vs.toArray)(h2:2<=vs.length)(h64:vs.length<64)(hq:Paired (gC s.heap L) vs qs)(hd:∀i j,i<qs.length->j<qs.length->i≠j->qs.getD i (0,[])≠qs.getD j (0,[]))
 (hw:∀i j,i<qs.length->j<qs.length->(qs.getD i (0,[])).2.length=(qs.getD j (0,[])).2.length) (hf:lY prog w A.in1.in1 h₀ L f m s) (un:A.in1.in1.units+1<cLine)
 (k:∀(D:Addr) (s4:Shared) (p:Array Nat) (c:Nat),oJ s s4->Fr h₀ L s4.heap m->(∀b o,s.heap.get? b=some o->b≠L->s4.heap.get? b=some o)->s.heap.get? D=none->D≠L->Pm vs.length p->Up (λi j=>cB (qs.getD i (0,[])) (qs.getD j (0,[]))) p vs.length->
   s4.heap.get? D=some {cls:=.type "list",data:=.seq (List.toArray (p.toList.map λi=>vs.getD i Value.none)) c}->Q (.ref D) s4):
 wpAny (model prog w) A (call (.builtin "sorted") [.ref l] [(Str.ofString "key",.ref f)]) Q E s:=by
 have lq:=zE hq;refine kat_sortedK (b:=false) (f:=.ref f) F Hs hl h2 h64 (ksk_s1 _ _) (λx=>ksk_l1 _ _) (λx=>ksk_t1 f x) λD kS e1 h' F' N' hD hlt=>?_;have ND:=N' (D,seqObj "list" #[] e1) (jd _ jf);have sD:s.heap.get? D=none:=by
  cases z:s.heap.get? D with
  |none=>rfl
  |some o=>exact absurd (hlt (D,o) (mem_allN.mpr ⟨z,ND.2.1,ND.2.2⟩)) (xf _)
 refine yj (kS:=kS) (news:=(D,seqObj "list" #[] e1)::fk h₀ L s.heap) hf F (λp hp=>jd _ hp) (λks e tps s1 so F1 N1 hk hn hp=>?_) vs qs [] [] 0 [] {s with heap:=h'} rfl ⟨rfl,rfl,rfl⟩ F' N' (λp hp=>?_) (λp hp=>nomatch hp) hq .nil
 .have lk:=zE hp;have n1:∀p∈tps++(D,seqObj "list" #[] e1)::fk h₀ L s.heap,s1.heap.get? p.1=some p.2:=λp hp'=>(N1 p (jd _ hp')).1;have keeps:=ut F F1 λp hp'=>n1 p (x6 _ (jd _ hp'));let⟨fs,g1,g2,g3⟩:=GX n1 hp;have lkv:ks.length=vs.length:=lk.trans lq.symm;refine kat_kind (T:=.type "int") g1 (by rw[g2,lkv];exact jr (by decide) h2) (λv hv=>?_) (by decide) ?_
  .obtain⟨c,t,rfl⟩:=g3 v hv;exact λA Q E s _ q=>j8 q
  .refine Fv (lt:=λi j=>cB (qs.getD i (0,[])) (qs.getD j (0,[]))) (N:=vs.length) (I:=λs3=>s3=s1) (λi j hi hj C s3 hs hC=>?_) (λp s3 hp3 hs=>?_) (P:=λp=>Pm vs.length p/\Up (λi j=>cB (qs.getD i (0,[])) (qs.getD j (0,[]))) p vs.length) (by rw[lq];exact qp0 (qy9 qs hd) (by rw[<-lq];exact h2)) rfl
   .subst hs;let⟨a,t,x,us,e1',e2,e3,e4,e5⟩:=zJ (a:=Value.none) (b:=((0:Int),([]:Zf))) (i:=i) hp (by rw[lkv];exact hi);let⟨a',t',x',us',e1'',e2',e3',e4',e5'⟩:=zJ (a:=Value.none) (b:=((0:Int),([]:Zf))) (i:=j) hp (by rw[lkv];exact hj);show wpAny (model prog w) A.in1.in1 (keyLt' (tuples' true) (ks.getD i Value.none) (ks.getD j Value.none)) C (λ_ _=>False) s3;rw[e1',e1''];have up:∀{y:Addr} {is:Zd},y≠L->s.heap.IsList y is->s3.heap.IsList y is:=λyL g=>by obtain⟨o,e,c⟩:=g;exact⟨o,keeps _ _ e yL,c⟩
    exact qvp (n1 _ e2) (n1 _ e2') (up e3 e4) (up e3' e4') e5 e5' (hw i j (by rw[<-lq];exact hi) (by rw[<-lq];exact hj)) un (hC _ rfl)
   .subst hs;show KatFin h₀ L m kS D ks e e1 (p.toList.map λi=>vs.getD i Value.none) (λs4=>Q (.ref D) s4) s3;refine KatFin.intro F1 N1 (.head hk) λh2' c F2 N2=>?_;refine KasFin.intro F2 N2 (.tail (Nat.ne_of_gt hD) (yP (λp hp'=>jl (hlt p hp')) λp hp'=>(hn p hp' _ jf).symm)) λh3 c3 F3 N3=>?_;refine k D {s3 with heap:=h3} p c3 so F3 (ut F F3 λp hp'=>?_) sD ND.2.1 hp3.1 hp3.2 ?_
    .exact(N3 p (jd _ (x6 _ (jd _ hp')))).1
    .exact(N3 _ (jd _ (x6 _ jf))).1
 .rw[List.nil_append]at hp;rcases List.mem_cons.mp hp with rfl|hp
  .exact jl hD
  .exact jl (Nat.lt_trans (hlt p hp) hD)
end
section
variable{prog:Program}{w:World}{A:Around}{E:Z0}{s:Shared}{h₀:Heap}{L f:Addr}{m:Za}
def qqm{a kS:Addr}{ks vs:Ze}{e e1:Nat}{P:PySem.Fin->Shared->Prop}(hl:ks.length=vs.length)(h2:vs.length<2)(ho:((List.toArray ks).zip vs.toArray).map (·.2)=vs.toArray)(h:KatFin h₀ L m kS a ks e e1 vs (λs3=>P (.done (.ret .none)) s3) s):
 wpAny (model prog w) A (ksk_end a false vs.toArray e1 (.ref kS) (List.toArray ks)) P E s:=by
 have small:vs.toArray.size<2:=by rw[jx];exact h2
 unfold ksk_end;dsimp only;rw[if_neg Bool.false_ne_true,if_pos small,if_pos small];refine j6 (j8 ?_);rw[if_neg Bool.false_ne_true,StateT.run_pure];refine j6 (j8 ?_);exact kat_tail (b:=false) (out:=vs) (st:=SortSt.mk' general' (ks.toArray.zip vs.toArray) #[] 7 none) ho (by omega) (by omega) rfl h
def qlx{a kS:Addr}{vs:Ze}{fv:Value}{e1:Nat}{P:PySem.Fin->Shared->Prop}(hk:s.heap.get? kS=some (seqObj "list" #[] 0))(h2:vs.length<2)(ho:∀ks:List Value,ks.length=vs.length->((List.toArray ks).zip vs.toArray).map (·.2)=vs.toArray)
 (h:KatKeys prog w A h₀ L m kS fv (λks e s1=>KatFin h₀ L m kS a ks e e1 vs (λs2=>P (.done (.ret .none)) s2) s1) vs [] 0 s):wpAny (model prog w) A (ksk_rest a fv false vs.toArray e1 (.ref kS)) P E s:=by
 unfold ksk_rest;refine j6 (wpAny_rule ?_);rw[List.forIn_toArray];refine j6 (xo (kat_fold (Nat.lt_trans h2 (by decide)) ?one vs [] 0 s (jv _) hk h) ?two λ_ _ z=>z)
 case two=>
  rintro _ s1 ⟨ks,e,q1,q2,q3⟩;exact j6 (listItems_at q1 rfl (qqm q2 h2 (ho ks q2) q3))
 case one=>
  intro x ks e s1 C l64 hc;refine j6 (wpAny_attempt (xo hc ?_ λ_ _ z=>z.elim));rintro k s2 ⟨nw,g,F1,N1,U,c⟩;obtain⟨pre,post,q0,q1,z1,z2⟩:=U.split;rw[q0]at N1;have ng:=N1 (kS,seqObj "list" (List.toArray ks) e) (x6 _ jf);have same:=kh s2.heap kS (Obj.mapSeq (·.push k));have grown:(List.toArray ks).push k=List.toArray (ks++[k]):=by simp
  have now:=get?_update_seq ng.1 (·.push k);rw[grown]at now;dsimp only;refine j6 (listUpdate_at ng.1 rfl ?_ ?_ ?_)
  .refine j8 ⟨rfl,k,_,now,c _ _ (kas_fr F1 same ng.2.1 ng.2.2) ?_⟩;rw[q1];exact news_set N1 z1 z2 same now
  .rw[jx,xy];omega
  .rw[grown,jx,jh,xy];simp;omega
def qlw{a:Addr}{vs:Ze}{fv:Value}{n:Nat}{nw:Z3}{P:PySem.Fin->Shared->Prop}(F:Fr h₀ L s.heap m)(N:News h₀ L s.heap nw)(ha:s.heap.get? a=some (seqObj "list" vs.toArray n))(aL:a≠L)(a0:h₀.get? a=none)(an:∀p∈nw,p.1≠a)(h2:vs.length<2)
 (ho:∀ks:List Value,ks.length=vs.length->((List.toArray ks).zip vs.toArray).map (·.2)=vs.toArray)
 (h:∀(kS:Addr) (e1:Nat) (h1:Heap),Fr h₀ L h1 m->News h₀ L h1 ((kS,seqObj "list" #[] 0)::(a,seqObj "list" #[] e1)::nw)->a<kS->KatKeys prog w A h₀ L m kS fv (λks e s1=>KatFin h₀ L m kS a ks e e1 vs (λs2=>P (.done (.ret .none)) s2) s1) vs [] 0 {s with heap:=h1}):
 wpAny (model prog w) A (ksk_tree a fv false) P E s:=by
 have lt:=j9 ha;have cleared:=kh s.heap a (Obj.mapSeq λ_=>(#[]:Zd));have now:=get?_update_seq ha λ_=>(#[]:Zd);have F1:=kas_fr F cleared aL a0;have N1:=kas_news N cleared an;have sz:((s.heap.update a (Obj.mapSeq λ_=>(#[]:Zd))).push (seqObj "tuple" vs.toArray 0)).objs.size=s.heap.objs.size+1:=by rw[size_push',Heap.size_update]
 have F2:=F1.push (seqObj "tuple" vs.toArray 0);have Llt:=F2.ns.lt;have l1:vs.length<=1:=by omega
 unfold ksk_tree;refine j6 (listItems_at ha rfl ?_);refine j6 (listUpdate_at ha rfl ?_ ?_ (Nat.zero_le _))
 .refine j6 (seqEpoch_at now rfl ?_);refine j6 (wpAny_newTuple ?_ ?_)
  .refine j6 (wpAny_newList ?_ (Nat.zero_le _));refine xu (qlx (jq _ rfl) h2 ho (h _ _ _ (F2.push _) ?_ ?_))
   .intro p hp;rcases List.mem_cons.mp hp with rfl|hp
    .exact⟨jq _ rfl,Nat.ne_of_gt Llt,kr (ju F.above (Nat.le_of_lt Llt))⟩
    rcases List.mem_cons.mp hp with rfl|hp
    .exact⟨ja _ (ja _ now),aL,a0⟩
    .let⟨g1,g2⟩:=N1 p hp;exact⟨ja _ (ja _ g1),g2⟩
   .rw[sz];exact Nat.lt_succ_of_lt lt
  .show vs.length<=_;rw[xy];omega
 .rw[jx,xy];omega
def qfm:∀{ks vs:Ze},vs.length<2->ks.length=vs.length->((List.toArray ks).zip vs.toArray).map (·.2)=vs.toArray
 |[],[],_,_=>by simp
 |[_],[_],_,_=>by simp
 |[],_::_,_,h=>by simp at h
 |_::_,[],_,h=>by simp at h
 |_,_::_::_,h,_=>by simp at h;omega
 |_::_::_,[_],_,h=>by simp at h
def qfe{l:Addr}{vs:Ze}{qs:List (Int×List Int)}{Q:Z0}(F:Fr h₀ L s.heap m)(hl:s.heap.IsList l vs.toArray)(h2:vs.length<2)(hq:Paired (gC s.heap L) vs qs)(hf:lY prog w A.in1.in1 h₀ L f m s)
 (k:∀(D:Addr) (s4:Shared) (c:Nat),oJ s s4->Fr h₀ L s4.heap m->(∀b o,s.heap.get? b=some o->b≠L->s4.heap.get? b=some o)->s.heap.get? D=none->D≠L->
   s4.heap.get? D=some {cls:=.type "list",data:=.seq vs.toArray c}->Q (.ref D) s4):
 wpAny (model prog w) A (call (.builtin "sorted") [.ref l] [(Str.ofString "key",.ref f)]) Q E s:=by
 have l1:vs.length<=1:=by omega
 refine call_function_entry_kw kind_sorted plain_sorted entry_sorted (ksk_s1 _ _) ?_;unfold Builtin.«sorted»;refine j6 (m:=checkCount "sorted" 1 1 _) (j8 ?_);refine j6 (collect_list hl ?_ (by rw[xy];omega));refine j6 (wpAny_newList ?_ (by rw[xy];omega));have sz:((s.heap.push (seqObj "list" #[] 0)).update s.heap.objs.size (Obj.mapSeq (·++vs.toArray))).objs.size=s.heap.objs.size+1:=by rw[Heap.size_update,size_push']
 have kp:∀b o,s.heap.get? b=some o->((s.heap.push (seqObj "list" #[] 0)).update s.heap.objs.size (Obj.mapSeq (·++vs.toArray))).get? b=some o:=λb o e=>by have:=jl (j9 e);rw[Heap.get?_update_ne _ _ _ _ this,Heap.get?_push_ne _ _ _ this];exact e
 generalize (s.heap.push (seqObj "list" #[] 0)).update s.heap.objs.size (Obj.mapSeq (·++vs.toArray))=h1 at sz kp;have Llt:L<s.heap.objs.size:=F.ns.lt;have kp2:∀b o,s.heap.get? b=some o->(h1.push (seqObj "list" vs.toArray 0)).get? b=some o:=λb o e=>ja _ (kp b o e);have hD:(h1.push (seqObj "list" vs.toArray 0)).get? h1.objs.size=some (seqObj "list" vs.toArray 0):=jq _ rfl;have D0:s.heap.get? h1.objs.size=none:=kr (by rw[sz];exact Nat.le_succ _);have DL:h1.objs.size≠L:=by rw[sz];exact Nat.ne_of_gt (Nat.lt_succ_of_lt Llt)
 show wpAny _ _ _ _ _ {s with heap:=h1.push (seqObj "list" vs.toArray 0)};show wpAny (model prog w) A.in1 (holding [.ref h1.objs.size] (call (.builtin "list.sort") [.ref h1.objs.size] [(Str.ofString "key",.ref f)]) >>= λ_=>ret (.ref h1.objs.size)) _ _ {s with heap:=h1.push (seqObj "list" vs.toArray 0)};generalize h1.objs.size=D at hD D0 DL sz ⊢;refine j6 (xu (wpAny_call_entry_kw slot_list_sort ⟨_,hD,rfl⟩ entry_list_sort ?_ (ksk_l1 _ _)));show wpAny (model prog w) A.in1.in1 (Builtin.«list.sort» ⟨[.ref D],[(Str.ofString "key",.ref f)]⟩) _ _ _;rw[ksk_t1];refine qlw (s:={s with heap:=h1.push (seqObj "list" vs.toArray 0)}) (F.kept kp2) ((Hs (h:=s.heap)).grown kp2) hD DL (kr (ju F.above (by rw[sz];exact Nat.le_succ_of_le (Nat.le_of_lt Llt)))) (λp hp z=>?_) h2 (λks=>qfm h2) λkS e1 h' F' N' lt=>?_
 .have:=(mem_allN.mp (show(p.1,p.2)∈fk h₀ L s.heap from hp)).1;rw[z,D0]at this;cases this
 .refine yj (kS:=kS) (news:=(D,seqObj "list" #[] e1)::fk h₀ L s.heap) hf F (λp hp=>jd _ hp) (λks e tps s1 so F1 N1 hk hn hp=>?_) vs qs [] [] 0 [] {s with heap:=h'} rfl ⟨rfl,rfl,rfl⟩ F' N' (λp hp=>?_) (λp hp=>nomatch hp) hq .nil
  .refine KatFin.intro F1 N1 (.head hk) λh2' c F2 N2=>?_;refine KasFin.intro F2 N2 (.tail (Nat.ne_of_gt lt) (yP (λp hp' z=>?_) λp hp'=>(hn p hp' _ jf).symm)) λh3 c3 F3 N3=>?_
   .have:=(mem_allN.mp (show(p.1,p.2)∈fk h₀ L s.heap from hp')).1;rw[z,D0]at this;cases this
   .refine⟨_,rfl,j8 ⟨_,rfl,k D {s1 with heap:=h3} c3 so F3 (ut F F3 λp hp'=>?_) D0 DL ?_⟩⟩
    .exact(N3 p (jd _ (x6 _ (jd _ hp')))).1
    .exact(N3 _ (jd _ (x6 _ jf))).1
  .rw[List.nil_append]at hp;rcases List.mem_cons.mp hp with rfl|hp
   .exact jl lt
   .intro z;have h1':=(N' _ jf).1;have:=(mem_allN.mp (show(p.1,p.2)∈fk h₀ L s.heap from hp)).1;have lt2:=j9 this;rw[z]at lt2;have:D<kS:=lt;rw[sz]at this;exact absurd lt2 (by have:s.heap.objs.size+1<kS:=this;exact Nat.not_lt.mpr (Nat.le_of_lt (Nat.lt_of_succ_lt this)))
def qfd{l:Addr}{vs:Ze}{qs:List (Int×List Int)}{Q:Z0}(F:Fr h₀ L s.heap m)(hl:s.heap.IsList l vs.toArray)(h64:vs.length<64)(hq:Paired (gC s.heap L) vs qs)(hd:∀i j,i<qs.length->j<qs.length->i≠j->qs.getD i (0,[])≠qs.getD j (0,[]))
 (hw:∀i j,i<qs.length->j<qs.length->(qs.getD i (0,[])).2.length=(qs.getD j (0,[])).2.length) (hf:lY prog w A.in1.in1 h₀ L f m s) (un:A.in1.in1.units+1<cLine)
 (k:∀(D:Addr) (s4:Shared) (p:Array Nat) (c:Nat),oJ s s4->Fr h₀ L s4.heap m->(∀b o,s.heap.get? b=some o->b≠L->s4.heap.get? b=some o)->s.heap.get? D=none->D≠L->Pm vs.length p->Up (λi j=>cB (qs.getD i (0,[])) (qs.getD j (0,[]))) p vs.length->
   s4.heap.get? D=some {cls:=.type "list",data:=.seq (List.toArray (p.toList.map λi=>vs.getD i Value.none)) c}->Q (.ref D) s4):
 wpAny (model prog w) A (call (.builtin "sorted") [.ref l] [(Str.ofString "key",.ref f)]) Q E s:=by
 by_cases h2:2<=vs.length
 .exact qfc F hl h2 h64 hq hd hw hf un k
 .have small:vs.length<2:=by omega
  refine qfe F hl small hq hf λD s4 c so F4 kp sD DL eD=>k D s4 (Array.range vs.length) c so F4 kp sD DL ⟨by simp,by simp⟩ (λi j ij hj=>by omega) ?_;rw[eD];have e1:((Array.range vs.length).toList.map λi=>vs.getD i Value.none)=vs:=by
   match vs,small with
   |[],_=>rfl
   |[v],_=>rfl
   |_::_::_,h=>exact absurd h (by simp)
  rw[e1]
end
end L2
namespace L2
open PySem PySem.Spec PyProof.Rows
section
variable{P:Program}{w:World}{K:aq}{mg:Za}{base:Heap}{N:Zj}{qual:Str}{scope:Scope}{f:Addr}{cd:Value}{cl:List (Str×Addr)}{A:Around}{outer:List Env}{s:Shared}{H:Hp}
structure Holds(cl:List (Str×Addr))(scope:Scope)(H:Hp)(h:Heap):Prop where
 free:∀x,scope.names.lookup x=some .free->∃c,cl.lookup x=some c
 inj:∀x y c,cl.lookup x=some c->cl.lookup y=some c->x=y
 cell:∀x c,cl.lookup x=some c->∃u,h.IsCell c u
 hid:∀x c,cl.lookup x=some c->H c=none
end
structure Betw(I S l:Addr)(xs:List V)(σ Je:Shared->Prop):Prop where
 lst:∀s,σ s->∃its:List Value,Vals xs its/\s.heap.IsList l its.toArray
 turn:∀(s:Shared) (h':Heap),σ s->(∀b o,b≠I->b≠S->s.heap.get? b=some o->h'.get? b=some o)->(∃o,h'.get? I=some o)->(∃o,h'.get? S=some o)->σ {s with heap:=h'}
 stop:∀(s:Shared) (h':Heap),σ s->(∀b o,b≠I->b≠S->s.heap.get? b=some o->h'.get? b=some o)->Je {s with heap:=h'}
section
variable{prog:Program}{w:World}{A:Around}{R:Zb}{I S l f:Addr}{xs:List V}{kz:Nat->Int}{σ Je:Shared->Prop}
end
section
variable{X:Cx}{z5:Z3}{J:St}{H H3:Hp}{s s3:Shared}{P:Addr}{pos:Pos}{q:Str}{o:Obj}
end
def SqL.keepX{K:aq}{H H':Hp}{a:Addr}{xs:List V}(s:Same H H')(h:SqL K H a xs):SqL K H' a xs:=by
 rcases h with h|h
 .rcases h with h|⟨o,h⟩
  .exact .inl (.inl (s _ _ h))
  .exact .inl (.inr ⟨o,s _ _ h⟩)
 .exact .inr h
section
variable{X:Cx}{z5:Z3}{J:St}{H:Hp}{s:Shared}{I S:Addr}
def Inv.turn(σ:Inv X z5 J H s){h':Heap}(hI:H I=none)(hS:H S=none)(c1:X.s₀.heap.objs.size<=I/\I≠X.env.locals/\(∀x c,X.env.cells.lookup x=some c->c≠I)/\∀p∈X.pn++z5,p.1≠I)(c2:X.s₀.heap.objs.size<=S/\S≠X.env.locals/\(∀x c,X.env.cells.lookup x=some c->c≠S)/\∀p∈X.pn++z5,p.1≠S)
 (k:∀b o,b≠I->b≠S->s.heap.get? b=some o->h'.get? b=some o):Inv X z5 J H {s with heap:=h'}:=by
 have nc:∀{b:Addr},b∉[I,S]->b≠I/\b≠S:=λh=>⟨λz=>h (by rw[z];simp),λz=>h (by rw[z];simp)⟩;refine σ.step (g':=s.gens) (d':=s.drawn) (t':=s.toks) (ch:=[I,S]) (λb hb=>?_) (λb o _ _ hb e _=>k b o (nc hb).1 (nc hb).2 e) (λb o _ _ hb e _=>⟨o.slots,k b o (nc hb).1 (nc hb).2 e⟩) (λb o _ _ n=>n) (λb o hb e=>⟨o,k b o (nc hb).1 (nc hb).2 e⟩) (λb xs h=>h) (λb o u h=>h) (λb ps h=>⟨#[],by rw[h];simp⟩) (λm hn=>?_) (λa o h=>?_) σ.bare
 .rcases List.mem_cons.mp hb with rfl|hb
  .exact⟨.inr c1.1,c1.2⟩
  .rw[List.mem_singleton.mp hb];exact⟨.inr c2.1,c2.2⟩
 .obtain⟨o,es,ep,e,r⟩:=hn;exact⟨o,es,ep,k _ _ c1.2.1.symm c2.2.1.symm e,r⟩
 .refine(σ.hok a o h).stay (λb u hb e=>k b u ?_ ?_ e) (λb hb=>hb) λb xs hb=>hb
  .rcases hb with rfl|hb
   .exact λz=>by rw[z,hI]at h;cases h
   .exact λz=>by rw[z,hI]at hb;cases hb
  .rcases hb with rfl|hb
   .exact λz=>by rw[z,hS]at h;cases h
   .exact λz=>by rw[z,hS]at hb;cases hb
end
section
variable{X:Cx}{K:aq}{e:Expr}{te tb:TE}{p kp pos lp:Pos}{params:Arguments}{body:Expr}{scope:Scope}{x y:Str}{cb c P:Addr}{ib k:Nat}
end
def uE(K:aq)(H:Hp)(v:V)(q:Int×List Int):Prop:=∃(a x:Addr) (ys:List V),v=.ref a/\SqT K H a (.int q.1::.ref x::ys)/\SqL K H x (q.2.map V.int)
def jT(qs:List (Int×List Int))(i j:Nat):Bool:=cB (qs.getD i (0,[])) (qs.getD j (0,[]))
def FS(K:aq)(P:Addr)(lp:Pos)(q:Str)(te:TE):TE:=λJ H Q=>te J H λv H1=>∃(l:Addr) (xs:List V) (qs:List (Int×List Int)),[v]=[V.ref l]/\H1 P=some (.lam lp q)/\SqL K H1 l xs/\xs.length<64/\xs.length=qs.length/\(∀i v,xs[i]? =some v->uE K H1 v (qs.getD i (0,[])))/\
 (∀i j,i<qs.length->j<qs.length->i≠j->qs.getD i (0,[])≠qs.getD j (0,[]))/\(∀i j,i<qs.length->j<qs.length->(qs.getD i (0,[])).2.length=(qs.getD j (0,[])).2.length)/\
 ∀(p:Array Nat) (D:Addr) (H3:Hp),Pm xs.length p->Up (jT qs) p xs.length->Same H1 H3->H3 D=none->Q (.ref D) (aT H3 D (.lst (p.toList.map λi=>xs.getD i .non)))
def SqT.keepX{K:aq}{H H':Hp}{a:Addr}{xs:List V}(s:Same H H')(h:SqT K H a xs):SqT K H' a xs:=by
 rcases h with h|h
 .rcases h with h|⟨o,h⟩
  .exact .inl (.inl (s _ _ h))
  .exact .inl (.inr ⟨o,s _ _ h⟩)
 .exact .inr h
theorem HY{xs:List V}{its:Ze}(r:Vals xs its):∀is:List Nat,Vals (is.map λi=>xs.getD i .non) (is.map λi=>its.getD i Value.none)
 |[]=>.nil
 | i::is=>by
  refine .cons ?_ (HY r is);have ln:=Paired.length r;show RelV (xs.getD i .non) (its.getD i Value.none);rw[ji,ji];by_cases h:i<xs.length
  .let⟨u,e1,e2⟩:=Vals.get r (jb h);rw[jb h,e1];exact e2
  .rw[x9 (by omega),x9 (show its.length<=i by omega)];exact(show RelV .non Value.none from rfl)
theorem HL{α β:Type}{G:α->β->Prop}{b:β}:∀{xs:List α} {ys:List β},xs.length=ys.length->(∀i x,xs[i]? =some x->G x (ys.getD i b))->Paired G xs ys
 |[],[],_,_=>.nil
 |x::xs,y::ys,hl,h=>.cons (h 0 x rfl) (HL (by simpa using hl) λi x hx=>h (i+1) x hx)
section
variable{X:Cx}{K:aq}{e:Expr}{te:TE}{p kp pos lp:Pos}{params:Arguments}{scope:Scope}{v:Str}{c P:Addr}{k:Nat}{p1 q1 r1 p2 q2 r2 bp:Pos}{j1 j2 xc:Nat}
def qeq(hK:X.K=K)(hc:X.calm=true)(hr:Room (k+2) X.A)(hg:Gl X "sorted")(hm:X.mg "sorted"=none)(ha:PE X e te)
 (hdef:defaultsOf params X.env=([],[])) (hcl:closureFor scope X.env=pure []) (hge0:X.env.globals=mainGlobals) (zx:X.env.code=.ref c) (C:∀h:Heap,X.K.In h->W.CodeHd h c P) (hbt:∀h:Heap,X.K.In h->h.BuiltinsAt X.mg P)
 (sx:scope.names.lookup v=some .local) (hco:scope.isCoroutine=false) (hgen:scope.isGenerator=false) (zg:scope.kind=.function) (zp:∀z∈scope.names,z.2≠.cell) (hd:(v==("__debug__":Str))=false)
 (j5:∀(pm cdv ctv u:Value),bindArgs (W.kla_fn "<lambda>" (X.env.qual++"<lambda>") params (mX v p1 q1 r1 p2 q2 r2 bp j1 j2 xc) scope [] pm cdv ctv) ⟨[u],[]⟩=pure [(v,u)])
 (he:starEach [e] X.env=(false,eval e X.env)::starEach [] X.env:=by rfl)
 (h1:backTo pos (starEach [e] X.env)=(false,eval e X.env)::backTo pos (starEach [] X.env):=by rfl) (h2:(backTo pos (starEach [e] X.env)).any (·.1)=false:=by rfl)
 (h3:(backToKw pos (keywordEach [⟨some "key",.Lambda params (mX v p1 q1 r1 p2 q2 r2 bp j1 j2 xc) scope lp,kp⟩] X.env)).all (λx=>x.1.isSome)=true:=by rfl) (h4:(backToKw pos (keywordEach [⟨some "key",.Lambda params (mX v p1 q1 r1 p2 q2 r2 bp j1 j2 xc) scope lp,kp⟩] X.env)).any (λx=>x.1.isNone)=false:=by rfl)
 (h5:(backToKw pos (keywordEach [⟨some "key",.Lambda params (mX v p1 q1 r1 p2 q2 r2 bp j1 j2 xc) scope lp,kp⟩] X.env)).filterMap (·.1)=[Str.ofString "key"]:=by rfl):
 PE X (.Call (.Name "sorted" p) [e] [⟨some "key",.Lambda params (mX v p1 q1 r1 p2 q2 r2 bp j1 j2 xc) scope lp,kp⟩] pos) (FS K P lp (X.env.qual++"<lambda>") te):=by
 subst hK;intro z5 s J H Q I h;refine xq (ia I hg hm (u:=.builtin "sorted") (by rfl) ?_);refine callWith_kw (bu ((aj ha av he) pos z5 s J H (λvs H1=>∃(l:Addr) (xs:List V) (qs:List (Int×List Int)),vs=[V.ref l]/\H1 P=some (.lam lp (X.env.qual++"<lambda>"))/\SqL X.K H1 l xs/\xs.length<64/\xs.length=qs.length/\(∀i v,xs[i]? =some v->uE X.K H1 v (qs.getD i (0,[])))/\
 (∀i j,i<qs.length->j<qs.length->i≠j->qs.getD i (0,[])≠qs.getD j (0,[]))/\(∀i j,i<qs.length->j<qs.length->(qs.getD i (0,[])).2.length=(qs.getD j (0,[])).2.length)/\
 ∀(p:Array Nat) (D:Addr) (H3:Hp),Pm xs.length p->Up (jT qs) p xs.length->Same H1 H3->H3 D=none->Q (.ref D) (aT H3 D (.lst (p.toList.map λi=>xs.getD i .non)))) I h) λus s1 hh1=>?_) h1 h2 h3 h4
 obtain⟨vs,H1,I1,rr,l,xs,qs,rfl,hP,sq,l64,lq,keys,dist,lens,fin⟩:=hh1;obtain⟨u,rfl,ru⟩:=cH rr;cases(show u=Value.ref l from ru);refine kws_cons (qli I1 hP hdef hcl hge0 zx (C _ I1.mod.kin) (hbt _ I1.mod.kin) λf c' ctv H2 s2 I2 sm new ef nf szf hcd hcH tab=>?_);refine kws_nil ?_;rw[h5];show wpAny _ _ (call (.builtin "sorted") [.ref l] [(Str.ofString "key",.ref f)]) _ _ s2;obtain⟨m,F⟩:=I2.fr;let⟨its,rv,pl,hz⟩:=I2.list (sq.keepX sm);have ln:=Paired.length rv;have lH:∀{a:Addr} {o:HO},H2 a=some o->a≠X.env.locals:=λh z=>by rw[z,I2.free]at h;cases h
 have nsD:∀{a:Addr} {o:Obj} {xs:Zd} {n:Nat},s2.heap.get? a=some o->o.data=.seq xs n->a≠X.env.locals:=λh d z=>by obtain⟨o',es,ep,e',hd',_⟩:=F.ns;rw[z]at h;rw[h]at e';cases e';rw[d]at hd';exact nomatch hd'
 have fL:f≠X.env.locals:=Nat.ne_of_gt (jr I1.lt szf);have cL:c'≠X.env.locals:=lH hcH;have hkeys:Paired (gC s2.heap X.env.locals) its qs:=HL (b:=(0,[])) (by omega) λi u hu=>by
  let⟨x,ex,rx⟩:=HW rv hu;obtain⟨a,y,ys,rfl,g1,g2⟩:=keys i x ex;cases rx;let⟨its',r',pt,_⟩:=I2.tuple (g1.keepX sm);let⟨vs',rvs,plx,_⟩:=I2.list (g2.keepX sm);cases r' with
  | cons ra r'=>
   cases r' with
   | cons rb r'=>
    obtain⟨t,rfl⟩:=ra;cases rb;refine⟨a,_,t,y,vs',rfl,?_,?_,pt,rfl,rfl,plx.isList,dM rvs⟩
    .obtain⟨o,e1,_,n,d⟩:=pt;exact nsD e1 d
    .obtain⟨o,e1,_,n,d⟩:=plx.isList;exact nsD e1 d
 have hun:X.A.in1.in1.units+1<cLine:=by have:=hr.un;show X.A.units+1+1+1<cLine;omega
 have hdep:X.A.in1.in1.depth<recursionLimit:=by have:=hr.dp;show X.A.depth<_;omega
 refine qfd (h₀:=X.base) (L:=X.env.locals) (f:=f) (m:=m) F pl.isList (by omega) hkeys dist lens (λs3 w q Q3 so F3 kp3 kI cont=>?_) hun λD s4 p c so F4 kp sD DL pm up eD=>?_
 .obtain⟨a,its',t,x,vs',rfl,aL,xL,ht,e0,e1,hx,hi⟩:=kI;have ht3:IsTup s3.heap a its':=let ⟨o,e,r⟩:=ht;⟨o,kp3 _ _ e aL,r⟩
  refine qq9 (pm:=((X.mg "__name__").getD .none)) (c':=c') (ctv:=ctv) hdep (I2.mod.nolimit.keeps F3.keep) (kp3 _ _ ef fL) ?_ (j5 _ _ _ _) hco hgen zg zp sx hd ht3 e0 e1 λt' s5 kq st et=>cont t' s5 t x vs' kq st xL et hx hi;obtain⟨c2,oc,vs2,tq,hc2,hoc,r⟩:=hcd;cases hc2;exact⟨c',oc,vs2,tq,rfl,kp3 _ _ hoc cL,r⟩
 .obtain⟨hp4,g4,d4,t4,os4⟩:=s4;obtain⟨so1,so2,so3⟩:=so;dsimp only at so1 so2 so3 F4 kp eD;subst so1 so2 so3;have D0:H2 D=none:=by
   cases z:H2 D with
   |none=>rfl
   | some o=>
    let⟨u,hu⟩:=ObjOk.there (I2.hok D o z);rw[sD]at hu;cases hu
  have neD:∀{b:Addr} {o:HO},H2 b=some o->b≠D:=λh z=>by rw[z,D0]at h;cases h
  have lpm:p.toList.length=xs.length:=by have:=pm.size;simpa[ln]using this
  have I4:Inv X z5 J (aT H2 D (.lst (p.toList.map λi=>xs.getD i .non))) {s2 with heap:=hp4,toks:=t4}:=by
   refine I2.step (g':=s2.gens) (d':=s2.drawn) (ch:=[]) (λ_ z=>nomatch z) (λb o bL _ _ e1 _=>kp b o e1 bL) (λb o bL _ _ e1 _=>⟨o.slots,kp b o e1 bL⟩) (λb o _ e1 n=>by rw[bf (λz=>by rw[z,sD]at e1;cases e1)];exact n)
    (λb o _ e1=>?_) (λb xs h=>by rw[bf (neD h)];exact h) (λb o u h=>by rw[bf (neD h)];exact h) (λb ps h=>⟨#[],by rw[bf (neD h),h];simp⟩) (λm' hn=>?_) (λa o h=>?_) I2.bare
   .by_cases z:b=X.env.locals
    .obtain⟨o',_,_,e',_⟩:=F4.ns;exact⟨o',by rw[z];exact e'⟩
    .exact⟨o,kp b o e1 z⟩
   .have em:m'=m:=funext λx=>hn.agree F.ns x;rw[em];exact F4.ns
   .by_cases z:a=D
    .subst z;rw[cT]at h;cases h;refine⟨?_,_,c,HY rv p.toList,eD⟩;rw[j7,lpm];exact hz
    .rw[bf z]at h;refine(I2.hok a o h).stay (λb u hb e1=>kp b u e1 ?_) (λb hb=>by rw[bf (neD hb)];exact hb) λb xs hb=>by rw[bf (neD hb)];exact hb
     rcases hb with rfl|hb
     .exact lH h
     .exact lH hb
  refine⟨.ref D,_,I4,rfl,fin p D H2 (by rw[ln];exact pm) (by rw[ln];exact up) sm D0⟩
end
section
variable{K:aq}{R R2:Hp}
end
def gw(K:aq)(P:Addr)(lp:Pos)(q:Str)(n:Nat)(f:List D->Option D):Sp:=λvs H Q _=>vs.length=n/\∃R ds d,(∀a o,R a=some o->H a=some o)/\R P=some (.lam lp q)/\Rps K R vs ds/\f ds=some d/\∀v H' R',Ext H R H' R'->Rp K R' v d->Q v H'
noncomputable def kQ(j:Nat)(P:Addr)(lp:Pos)(q:Str)(f:List D->Option D)(fs:ba):aN:=λM=>match fs M with
 | some (ds,M1)=>(match M1[j]? with
  |some (some (.tab P' lp' q'))=>if P'=P/\lp'=lp/\q'=q then(f ds).map λd=>(d,M1)else none
  |_=>none)
 |none=>none
def yX{K:aq}{O:Zg}{P:Addr}{lp:Pos}{q:Str}{n j:Nat}{f:List D->Option D}{tr:TA}{fs:ba}{E:XK}(hj:j∉O)(hf:b8 n f)(h:MA K O tr fs):ME K O (oI (gw K P lp q n f) [] E tr) (kQ j P lp q f fs):=λZ J H R M d M' Q S e k=>by
 unfold kQ at e;split at e
 .rename_i ds M1 e1;split at e
  .rename_i P' lp' q' e2;split at e
   .rename_i z;obtain⟨rfl,rfl,rfl⟩:=z;cases e3:f ds with
    |none=>rw[e3]at e;cases e
    | some d'=>
     rw[e3]at e;cases e;refine h Z J H R M ds _ _ S e1 λvs H1 R1 S1 st1 r1=>?_;show gw K P' lp' q' n f (vs++[]) H1 Q E;rw[List.append_nil];let⟨v,_,rt⟩:=S1.env j _ hj e2;cases rt with
     |tab hP=>exact⟨by rw[r1.length];exact hf ds d e3,R1,ds,d,S1.sub,hP,r1,e3,λv H2 R2 x q=>k v H2 R2 (S1.ext x) (st1.trans x.stp) q⟩
   .cases e
  .cases e
 .cases e
def Inv.phantom{X:Cx}{z5:Z3}{J:St}{H:Hp}{s:Shared}(I:Inv X z5 J H s){j:Nat}{z:Str}{v:V}(hN:X.N[j]? =some z)(hz:¬lK X.env.scope z):Inv X z5 (J.set j (some v)) H s:=by
 obtain⟨m,hn,hl⟩:=I.loc;refine⟨I.ok,I.os,I.bare,I.base,⟨m,hn,λi x u h1 h2 h3=>?_⟩,I.cell,I.free,I.freeC,I.pin,I.hok,by rw[xh];exact I.len⟩;by_cases q:j=i
 .subst q;rw[hN]at h1;cases h1;exact absurd h3 hz
 .rw[jo q]at h2;exact hl i x u h1 h2 h3
def Fun.okT{P:Program}{w:World}{K:aq}{mg:Za}{base:Heap}{x qual:Str}{st:Stmt}{f:Addr}{fd:FuncData}{N ps:Zj}{k j:Nat}{z:Str}{sp:Sp}{u:V}(F:Fun K x qual st f fd)(S:q0m N ps (aU st))(hz:N[j]? =some z)(nv:¬lK (aU st) z)(len:∀vs H Q E,sp vs H Q E->vs.length=ps.length)
 (ze:∀(cdv:Value) (A:Around) (outer:List Env) (s:Shared) (H:Hp) (vs:List V) (Q:VK) (E:XK),Room k (A.deeper (envOfC qual (aU st) s.heap.objs.size f cdv))->sp vs H Q E->
   ∃t,PSs (ff bJ P w K mg base N qual (aU st) f cdv A outer s H E).nox (fH st) t/\t {nx:=λ_ H'=>Q .non H',rt:=Q} ((bn N vs).set j (some u)) H):FnOk P w K mg base bJ (k+1) f fd ps sp:=by
 refine F.ok S len λcdv A outer s H vs Q E hr hsp=>?_;let⟨t,ht,hq⟩:=ze cdv A outer s H vs Q E hr hsp;refine⟨λD J H=>t D (J.set j (some u)) H,λz5 s1 J H1 D I h=>?_,hq⟩;exact ht z5 s1 _ H1 D (I.phantom hz nv) h
def Fun.okL{P:Program}{w:World}{K:aq}{mg:Za}{base:Heap}{x qual:Str}{st:Stmt}{f:Addr}{fd:FuncData}{N ps:Zj}{k:Nat}{sp:Sp}(F:Fun K x qual st f fd)(S:q0m N ps (aU st))(len:∀vs H Q E,sp vs H Q E->vs.length=ps.length)
 (ze:∀(A:Around) (outer:List Env) (s:Shared) (H:Hp) (vs:List V) (Q:VK) (E:XK),Room k (A.deeper (envOfC qual (aU st) s.heap.objs.size f fd.code))->sp vs H Q E->
   ∃t,PSs (ff bJ P w K mg base N qual (aU st) f fd.code A outer s H E).nox (fH st) t/\t {nx:=λ_ H'=>Q .non H',rt:=Q} (bn N vs) H):FnOk P w K mg base bJ (k+1) f fd ps sp:=by
 obtain⟨oc,od,kV,doc,pm,an,cdv,ct,osl,rfl,lk,hcd⟩:=F.ex;refine vM lk hcd S len λA outer s H vs Q E hr hsp=>?_;let⟨t,h,q⟩:=ze A outer s H vs Q E hr hsp;exact⟨t,h.nox,q⟩
noncomputable def mi(fr:Bool)(n N j:Nat)(d:D)(f:aD)(ds:List D):Option D:=if ds.length=n/\n<=j then match f ((ds.map some++List.replicate (N-n) none).set j (some d))with
 |some (.rt d _)=>some d
 |some (.nx _)=>if fr=true then none else some .non
 |_=>none
 else none
def HR{K:aq}{P:Addr}{lp:Pos}{q:Str}{n j:Nat}{Nms:Zj}{O':Zg}{t:TS}{f:aD}{vs:List V}{H:Hp}{Q:VK}{E:XK}(hj:j<Nms.length)(hm:MS ⟨K,false,[],[]⟩ [] O' t f)(h:gw K P lp q n (mi false n Nms.length j (.tab P lp q) f) vs H Q E):t {nx:=λ_ H'=>Q .non H',rt:=Q} ((bn Nms vs).set j (some (.ref P))) H:=by
 obtain⟨hn,R,ds,d,sub,rP,r,e,k⟩:=h;unfold mi at e;split at e
 .rename_i hl;obtain⟨hl,hjn⟩:=hl;have S0:StR K ⟨H,R,λ_=>False,[]⟩ [] (bn Nms vs) H R (ds.map some++List.replicate (Nms.length-n) none):=by
   refine⟨sub,?_,λi d _ q=>?_,λi hi=>(nomatch hi),λi j hi=>(nomatch hi),λa o q _=>q,Same.refl _,λa q=>.inl q,λa q=>.refl q,λi hi=>(nomatch hi),λi hi=>(nomatch hi)⟩
   .unfold bn;rw[jh,jh,j7,j7,jw,jw,hn,hl]
   .let⟨v,h1,h2⟩:=r.get (um q);exact⟨v,uq h1,h2⟩
  have S:=S0.set (i:=j) (v:=.ref P) (d:=.tab P lp q) (λh=>nomatch h) (.tab rP);have ext:∀{O1:Zg} {J':St} {H' R':Hp} {M':aA},StR K ⟨H,R,λ_=>False,[]⟩ O1 J' H' R' M'->Ext H R H' R':=λS'=>⟨λa o q=>S'.ah a o q (λz=>z),S'.ar,S'.sub,S'.an⟩;cases e1:f ((ds.map some++List.replicate (Nms.length-n) none).set j (some (.tab P lp q)))with
  |none=>rw[e1]at e;cases e
  | some o=>
   rw[e1]at e;refine hm _ _ _ _ _ _ o rfl S e1 ?_;cases o with
   | nx M'=>
    dsimp only at e;rw[if_neg (by decide)]at e;cases e;exact λJ' H' R' S' _=>k .non H' R' (ext S') .non
   |bk M'=>cases e
   |ct M'=>cases e
   | rt d' M'=>
    cases e;exact λv J' H' R' S' q=>k v H' R' (ext S') q
 .cases e
def qp5{n N j:Nat}{d:D}{f:aD}:b8 n (mi false n N j d f):=λds d' h=>by
 unfold mi at h;split at h
 .rename_i z;exact z.1
 .cases h
def lG(qs:List (Int×List Int))(i j:Nat):Bool:=!jT qs j i
def iK(qs:List (Int×List Int)):List Nat:=(List.range qs.length).mergeSort (lG qs)
def m8(qs:List (Int×List Int)):(iK qs).Perm (List.range qs.length):=List.mergeSort_perm _ _
def FL(qs:List (Int×List Int)):(iK qs).Pairwise λi j=>lG qs i j=true:=by
 refine List.pairwise_mergeSort (le:=lG qs) (λa b c h1 h2=>?_) (λa b=>?_) _
 .unfold lG jT at*;rw[Bool.not_eq_true']at*;exact qhl h2 h1
 .unfold lG jT;cases h:cB (qs.getD b (0,[])) (qs.getD a (0,[]))with
  |false=>rfl
  |true=>rw[mD h];rfl
def qkh{qs:List (Int×List Int)}{p:Array Nat}(hd:∀i j,i<qs.length->j<qs.length->i≠j->qs.getD i (0,[])≠qs.getD j (0,[]))(pm:Pm qs.length p)(up:Up (jT qs) p qs.length):p.toList=iK qs:=by
 have lp:p.toList.length=qs.length:=by have:=pm.size;simpa using this
 refine List.Perm.eq_of_pairwise (le:=λi j=>lG qs i j=true) (λa b ha hb h1 h2=>?_) ?_ (FL qs) (pm.perm.trans (m8 qs).symm)
 .have ha':a<qs.length:=List.mem_range.mp (pm.perm.subset ha);have hb':b<qs.length:=List.mem_range.mp ((m8 qs).subset hb);unfold lG jT at h1 h2;rw[Bool.not_eq_true']at h1 h2;by_cases z:a=b
  .exact z
  .exact absurd (ql h2 h1) (hd a b ha' hb' z)
 .rw[List.pairwise_iff_getElem];intro i j hi hj hij;have:=up i j hij (by omega);have gi:p.getD i 0=p.toList[i]:=by simp[Array.getD,show i<p.size by simpa using hi]
  have gj:p.getD j 0=p.toList[j]:=by simp[Array.getD,show j<p.size by simpa using hj]
  rw[gi,gj]at this;unfold jT at this;unfold lG jT;rw[mD this];rfl
def lU(d:D):Option (Int×List Int):=match d with
 |.tup (.int c::.lst bs::_)=>(c6 bs).map λns=>(c,ns)
 |_=>none
noncomputable def mK:List D->Option (List (Int×List Int))
 |[]=>some []
 | d::r=>match lU d,mK r with
  |some q,some qs=>some (q::qs)
  |_,_=>none
def uz(qs:List (Int×List Int)):Prop:=qs.length<64/\qs.Nodup/\∀q∈qs,q.2.length=(qs.headD (0,[])).2.length
instance(qs:List (Int×List Int)):Decidable (uz qs):=by unfold uz;infer_instance
def mR(ds:List D):Option D:=match ds with
 | [.lst xs,.int m]=>(match mK xs with
  |some qs=>if uz qs then some (.lst (de ((iK qs).map λi=>xs.getD i .non) none (some m)))else none
  |none=>none)
 |_=>none
def qly:b8 2 mR:=λds d h=>by
 unfold mR at h;split at h
 .rfl
 .cases h
section
variable{K:aq}{R:Hp}
def qqb{v:V}{d:D}{q:Int×List Int}(r:Rp K R v d)(e:lU d=some q):uE K R v q:=by
 unfold lU at e;split at e
 .rename_i c bs rest;obtain⟨ns,e1,rfl⟩:=Option.map_eq_some_iff.mp e;obtain⟨a,xs,rfl,h,r⟩:=r.isT;cases r with
  | cons r1 r=>
   cases r with
   | cons r2 r=>
    obtain rfl:=r1.isI;obtain⟨x,ys,rfl,hx,rx⟩:=r2.isL;have ex:=mE rx e1;subst ex;exact⟨a,x,_,rfl,SqT.of h,hx⟩
 .cases e
theorem HF:∀{vs:List V} {ds:List D} {qs:List (Int×List Int)},Rps K R vs ds->mK ds=some qs->vs.length=qs.length/\∀i v,vs[i]? =some v->uE K R v (qs.getD i (0,[]))
 | _,_,qs,.nil,e=>by cases e;exact⟨rfl,λi v h=>by simp at h⟩
 | _,_,qs,.cons (d:=d) (ds:=ds) r t,e=>by
  unfold mK at e;split at e
  .rename_i q qs' e1 e2;cases e;let⟨h1,h2⟩:=HF t e2;refine⟨by simp[h1],λi v h=>?_⟩;cases i with
   |zero=>cases h;exact qqb r e1
   |succ i=>exact h2 i v h
  .cases e
theorem Hj{vs:List V}{ds:List D}(r:Rps K R vs ds):∀is:List Nat,(∀i∈is,i<vs.length)->Rps K R (is.map λi=>vs.getD i .non) (is.map λi=>ds.getD i .non)
 |[],_=>.nil
 | i::is,h=>by refine .cons ?_ (Hj r is λj hj=>h j (jd _ hj));have hi:=h i jf;let⟨d,e1,e2⟩:=r.get' (jb hi);show Rp K R (vs.getD i .non) (ds.getD i .non);rw[ji,ji,jb hi,e1];exact e2
def qg7{P:Addr}{lp:Pos}{q:Str}{Nms:Zj}{vs:List V}{H:Hp}{Q:VK}{E:XK}(hN:2<=Nms.length)(h:gw K P lp q 2 mR vs H Q E):
 (iJ (vH (nO K) (FS K P lp q (dL 0)) yy (vZ (dL 1)))) {nx:=λ_ H'=>Q .non H',rt:=Q} (bn Nms vs) H:=by
 obtain⟨hn,R,ds,d,sub,rP,r,e,k⟩:=h;unfold mR at e;split at e
 .rename_i xs m;cases e1:mK xs with
  |none=>rw[e1]at e;cases e
  | some qs=>
   rw[e1]at e;dsimp only at e;split at e
   .rename_i ok;obtain⟨n64,nd,ln⟩:=ok;cases e;cases r with
    |cons r0 r=>
    cases r with
    |cons r1 r=>
    cases r;obtain rfl:=r1.isI;obtain⟨l,vxs,rfl,hl,rx⟩:=r0.isL;let⟨lq,keys⟩:=HF rx e1;have dist:∀i j,i<qs.length->j<qs.length->i≠j->qs.getD i (0,[])≠qs.getD j (0,[]):=λi j hi hj ij z=>by
     rw[ji,ji,jb hi,jb hj]at z;have z':qs[i]=qs[j]:=z;have pw:=List.pairwise_iff_getElem.mp nd;rcases Nat.lt_or_gt_of_ne ij with w|w
     .exact pw i j hi hj w z'
     .exact pw j i hj hi w z'.symm
    have lens:∀i j,i<qs.length->j<qs.length->(qs.getD i (0,[])).2.length=(qs.getD j (0,[])).2.length:=λi j hi hj=>by rw[ji,ji,jb hi,jb hj];exact(ln _ (xn hi)).trans (ln _ (xn hj)).symm
    refine⟨.ref l,rfl,l,vxs,qs,rfl,sub _ _ rP,hl.keepX sub,by omega,lq,λi v hv=>?_,dist,lens,λp D H3 pm up sm hD=>?_⟩
    .let⟨a,x,ys,ea,g1,g2⟩:=keys i v hv;exact⟨a,x,ys,ea,g1.keepX sub,g2.keepX sub⟩
    .rw[lq]at pm up;have ep:=qkh dist pm up;refine⟨.int m,rfl,m,rfl,.inl ⟨D,_,rfl,SqL.of cT,λp2 hp2=>?_⟩⟩;have x0:Ext H R H3 R:=⟨sm,Same.refl _,λa o h=>sm _ _ (sub _ _ h),λ_ h=>.inl h⟩;have x1:=x0.trans (Ext.hid (o:=.lst (p.toList.map λi=>vxs.getD i .non)) x0.s hD);have x2:=Ext.new (o:=.lst (fj (p.toList.map λi=>vxs.getD i .non) none (some m))) x1.s hp2;refine k _ _ _ (x1.trans x2) (.lst (SqL.of cT) ?_);rw[<-ep];exact((Hj rx p.toList λi hi=>by rw[lq];exact List.mem_range.mp (pm.perm.subset hi)).mono x2.r).cut none (some m)
   .cases e
 .cases e
end
section
variable{X:Cx}{K:aq}
def rm(K:aq):R2:=λx y H Q=>∃p q,PrV K H x p/\PrV K H y q/\p.2.length=q.2.length/\Q (.bl (cB p q)) H
def Fn(hK:X.K=K)(hu:X.A.units+64<cLine):OpR X (compareOp .Lt) (rm K):=by subst hK;intro z5 s J H x y v u Q I rx ry h;obtain⟨p,q,hp,hq,hl,k⟩:=h;obtain⟨a,b,t,us,rfl,g1,g2,g3⟩:=Fu I hp rx;obtain⟨a',b',t',us',rfl,g1',g2',g3'⟩:=Fu I hq ry;exact qhj g1 g1' g2 g2' g3 g3' hl (by omega) ⟨.bl _,H,I,rfl,k⟩
def hJ(d e:D):Option D:=match pR d,pR e with
 |some p,some q=>if p.2.length=q.2.length then some (.bl (cB p q))else none
 |_,_=>none
def Fo:OpS K (rm K) hJ:=λH x y d e u Q rx ry q k=>by
 unfold hJ at q;split at q
 .rename_i p p' e1 e2;split at q
  .rename_i hl;cases q;exact⟨p,p',(Ha rx e1).1,(Ha ry e2).1,hl,k _ (.bl _)⟩
  .cases q
 .cases q
def Gu(x:Int×List Int):pR (aR x)=some x:=by show(c6 (x.2.map D.int)).map _=_;rw[gS];rfl
def EX{x y:Int×List Int}(h:x.2.length=y.2.length):hJ (aR x) (aR y)=some (.bl (cB x y)):=by unfold hJ;rw[Gu,Gu];show(if x.2.length=y.2.length then some (D.bl (cB x y))else none)=_;rw[if_pos h]
end
structure FunD(K:aq)(x qual:Str)(st:Stmt)(f:Addr)(fd:FuncData):Prop where
 ex:∃(oc:Value) (od:Zc) (dV kV doc pm:Value) (an:Zc) (cdv ct:Value) (osl:Array (Option Value)),
  fd=W.fnOf x qual (il st) (fH st) (aU st) dV kV doc pm an cdv ct/\K.lookup f=some ⟨oc,od,.func fd,osl⟩/\W.codeIn K cdv qual=true
 kp:W.keepIn K (.ref f)=true
section
variable{P:Program}{w:World}{K:aq}{mg:Za}{base:Heap}
def FunD.ok{x qual:Str}{st:Stmt}{f:Addr}{fd:FuncData}{N ps:Zj}{k:Nat}{sp:Sp}(F:FunD K x qual st f fd)(S:q0m N ps (aU st))(len:∀vs H Q E,sp vs H Q E->vs.length=ps.length)
 (ze:∀(cdv:Value) (A:Around) (outer:List Env) (s:Shared) (H:Hp) (vs:List V) (Q:VK) (E:XK),Room k (A.deeper (envOfC qual (aU st) s.heap.objs.size f cdv))->sp vs H Q E->
   ∃t,PSs (ff bJ P w K mg base N qual (aU st) f cdv A outer s H E).nox (fH st) t/\t {nx:=λ_ H'=>Q .non H',rt:=Q} (bn N vs) H):FnOk P w K mg base bJ (k+1) f fd ps sp:=by
 obtain⟨oc,od,dV,kV,doc,pm,an,cdv,ct,osl,rfl,lk,hcd⟩:=F.ex;refine vM lk hcd S len λA outer s H vs Q E hr hsp=>?_;let⟨t,h,q⟩:=ze cdv A outer s H vs Q E hr hsp;exact⟨t,h.nox,q⟩
def qqg{x qual:Str}{st:Stmt}{f:Addr}{oc:Value}{od an:Zc}{osl:Array (Option Value)}{dV kV doc pm cdv ct:Value}(l:K.lookup f=some ⟨oc,od,.func (W.fnOf x qual (il st) (fH st) (aU st) dV kV doc pm an cdv ct),osl⟩)
 (c:W.codeIn K cdv qual=true) (k:W.keepIn K (.ref f)=true):FunD K x qual st f (W.fnOf x qual (il st) (fH st) (aU st) dV kV doc pm an cdv ct):=⟨⟨oc,od,dV,kV,doc,pm,an,cdv,ct,osl,rfl,l,c⟩,k⟩
def ET{fd:FuncData}{ps:Zj}{T:Addr}{oc:Value}{od:Zc}{osl:Array (Option Value)}{items:Zd}{n:Nat}(hd:fd.defaults=.ref T)(l:K.lookup T=some ⟨oc,od,.seq items n,osl⟩)
 (h:∀us:List Value,us.length=ps.length->∃k,bindArgs fd ⟨us,[]⟩=seqItems? fd.defaults >>= k/\k (some items)=pure (ps.zip us)):Binds K fd ps []:=λs us X hl=>by
 rw[List.append_nil]at hl ⊢;let⟨k,h1,h2⟩:=h us hl;exact BindsTo.of_defaults hd (X _ _ l) rfl h1 h2
end
section
variable{K:aq}{Z:Anc}{O:Zg}{J:St}{H R H' R':Hp}{M:aA}{l:Addr}
end
def FunD.okT{P:Program}{w:World}{K:aq}{mg:Za}{base:Heap}{x qual:Str}{st:Stmt}{f:Addr}{fd:FuncData}{N ps:Zj}{k j:Nat}{z:Str}{sp:Sp}{u:V}(F:FunD K x qual st f fd)(S:q0m N ps (aU st))(hz:N[j]? =some z)(nv:¬lK (aU st) z)(len:∀vs H Q E,sp vs H Q E->vs.length=ps.length)
 (ze:∀(cdv:Value) (A:Around) (outer:List Env) (s:Shared) (H:Hp) (vs:List V) (Q:VK) (E:XK),Room k (A.deeper (envOfC qual (aU st) s.heap.objs.size f cdv))->sp vs H Q E->
   ∃t,PSs (ff bJ P w K mg base N qual (aU st) f cdv A outer s H E).nox (fH st) t/\t {nx:=λ_ H'=>Q .non H',rt:=Q} ((bn N vs).set j (some u)) H):FnOk P w K mg base bJ (k+1) f fd ps sp:=by
 refine F.ok S len λcdv A outer s H vs Q E hr hsp=>?_;let⟨t,ht,hq⟩:=ze cdv A outer s H vs Q E hr hsp;refine⟨λD J H=>t D (J.set j (some u)) H,λz5 s1 J H1 D I h=>?_,hq⟩;exact ht z5 s1 _ H1 D (I.phantom hz nv) h
section
variable{X:Cx}{tg elt zd:Expr}{ifs:Zi}{scope:Scope}{pos:Pos}{N N0:Zj}{js:Zg}{sc:Scope}{wi:TI}{g:TG}{tt:TT}{te:TE}
end
section
variable{X:Cx}{K:aq}
end
def uH(K:aq)(H:Hp)(v:V)(ns:Zf):Prop:=∃a,v=.ref a/\SqL K H a (ns.map V.int)
inductive Lsn(K:aq)(H:Hp):List V->List (List Int)->Prop
 |nil:Lsn K H [] []
 |cons {v:V} {vs:List V} {n:Zf} {ns:Z9}:uH K H v n->Lsn K H vs ns->Lsn K H (v::vs) (n::ns)
def rF(K:aq)(neg:Bool):R2:=λx y H Q=>∃p xs ns nss,y=.ref p/\SqL K H p xs/\uH K H x ns/\Lsn K H xs nss/\Q (.bl (if neg then !nss.contains ns else nss.contains ns)) H
section
variable{X:Cx}{K:aq}
def vO{z5:Z3}{J:St}{H:Hp}{s:Shared}{v:V}{ns:Zf}{u:Value}(I:Inv X z5 J H s)(h:uH X.K H v ns)(r:RelV v u):∃a vs,u=.ref a/\s.heap.IsList a vs.toArray/\IntsAre vs ns:=by obtain⟨a,rfl,h1⟩:=h;cases r;let⟨its,rv,p,_⟩:=I.list h1;exact⟨a,its,rfl,p.isList,dM rv⟩
def qvi{z5:Z3}{J:St}{H:Hp}{s:Shared}{A:Around}{ns:Zf}{b:Addr}{ws:Ze}(I:Inv X z5 J H s)(hb:s.heap.IsList b ws.toArray)(hj:IntsAre ws ns)(hu:A.in1.units+64<cLine):∀{xs:List V} {us:Ze} {nss:Z9},Lsn X.K H xs nss->Vals xs us->
 ∃e:Value->Bool,(∀y∈us,SeqAt.EqAt A.in1 s y (.ref b) (e y))/\us.any e=nss.contains ns:=by
 -- the answer at an address is fixed by its object
 have uniq:∀(a:Addr) (vs vs':Ze) (ms ms':Zf),s.heap.IsList a vs.toArray->IntsAre vs ms->s.heap.IsList a vs'.toArray->IntsAre vs' ms'->ms=ms':=λa vs vs' ms ms' h1 h2 h3 h4=>by
  obtain⟨o,e1,c1,n1,d1⟩:=h1;obtain⟨o2,e2,c2,n2,d2⟩:=h3;rw[e1]at e2;cases e2;rw[d1]at d2;injection d2 with d3 _;have e:vs=vs':=by simpa using d3
  subst e;apply List.ext_getElem?;intro i;have l1:=h2.length;have l2:=h4.length;by_cases h:i<ms.length
  .let⟨t,e1⟩:=mq h2 (jb h);let⟨u,e2⟩:=mq h4 (jb (show i<ms'.length by omega));rw[e1]at e2;injection e2 with e3;injection e3 with e4 _;rw[jb h,jb (show i<ms'.length by omega),e4]
  .rw[x9 (by omega),x9 (by omega)]
 intro xs us nss h r
 classical
 refine⟨λy=>decide (∃a vs,y=Value.ref a/\s.heap.IsList a vs.toArray/\IntsAre vs ns),?_,?_⟩
 .induction h generalizing us with
  |nil=>cases r;exact λy hy=>nomatch hy
  | @cons v vs n ms hv t ih=>
   cases r with
   | @cons _ u _ us' r1 r2=>
    intro y hy;rcases List.mem_cons.mp hy with rfl|hy
    .obtain⟨a,vs2,rfl,g1,g2⟩:=vO I hv r1;have:=W.keq_ints (A:=A) g1 g2 hb hj hu;have ee:decide (∃a' vs',Value.ref a=Value.ref a'/\s.heap.IsList a' vs'.toArray/\IntsAre vs' ns)=decide (n=ns):=by
      rw[Bool.eq_iff_iff,decide_eq_true_eq,decide_eq_true_eq];constructor
      .rintro⟨a',vs',e,k1,k2⟩;cases e;exact uniq a _ _ _ _ g1 g2 k1 k2
      .intro e;subst e;exact⟨a,vs2,rfl,g1,g2⟩
     rw[<-ee]at this;exact this
    .exact ih r2 y hy
 .induction h generalizing us with
  |nil=>cases r;rfl
  | @cons v vs n ms hv t ih=>
   cases r with
   | @cons _ u _ us' r1 r2=>
    obtain⟨a,vs2,rfl,g1,g2⟩:=vO I hv r1;rw[List.any_cons,ih r2,List.contains_cons];congr 1;rw[Bool.eq_iff_iff,decide_eq_true_eq,beq_iff_eq];constructor
    .rintro⟨a',vs',e,k1,k2⟩;cases e;exact(uniq a _ _ _ _ g1 g2 k1 k2).symm
    .intro e;subst e;exact⟨a,vs2,rfl,g1,g2⟩
def Room.units9{k:Nat}{A:Around}(r:Room k A):A.units+200<cLine:=by have:=r.un;omega
def qi4(hK:X.K=K)(hu:X.A.units+200<cLine):OpR X (compareOp .NotIn) (rF K true):=by subst hK;intro z5 s J H x y v u Q I rx ry h;obtain⟨p,xs,ns,nss,rfl,hq,hx,hs,q⟩:=h;cases ry;let⟨its,r,pl,hz⟩:=I.list hq;obtain⟨b,ws,rfl,hb,hj⟩:=vO I hx rx;let⟨e,h1,h2⟩:=qvi (A:=X.A) I hb hj (show X.A.units+1+64<cLine by omega) hs r;refine SeqAt.notIn_listAt e pl.isList (λw hw=>h1 w (by simpa using hw)) ⟨.bl _,H,I,rfl,?_⟩;rw[show its.toArray.any e=its.any e by simp,h2];exact q
end
def iS:D->Option (List Int)
 |.lst xs=>c6 xs
 |_=>none
noncomputable def mL:List D->Option (List (List Int))
 |[]=>some []
 | d::r=>match iS d,mL r with
  |some n,some ns=>some (n::ns)
  |_,_=>none
def pk(x y:D):Option D:=match y with
 | .lst ys=>(match iS x,mL ys with
  |some n,some ns=>some (.bl (!ns.contains n))
  |_,_=>none)
 |_=>none
section
variable{K:aq}{R:Hp}
def Gh{v:V}{d:D}{n:Zf}(r:Rp K R v d)(e:iS d=some n):uH K R v n:=by
 unfold iS at e;split at e
 .obtain⟨a,xs,rfl,h,r⟩:=r.isL;have ex:=mE r e;subst ex;exact⟨a,rfl,h⟩
 .cases e
theorem HI:∀{vs:List V} {ds:List D} {ns:Z9},Rps K R vs ds->mL ds=some ns->Lsn K R vs ns
 | _,[],ns,.nil,e=>by unfold mL at e;cases e;exact .nil
 | v::vs,d::ds,ns,.cons r t,e=>by
  unfold mL at e;split at e
  .rename_i q qs' e1 e2;cases e;exact .cons (Gh r e1) (HI t e2)
  .cases e
def qi0:OpS K (rF K true) pk:=λH x y d e u Q rx ry q k=>by
 unfold pk at q;split at q
 .split at q
  .rename_i n ns e1 e2;cases q;obtain⟨p,xs,rfl,h,r⟩:=ry.isL;exact⟨p,xs,n,ns,rfl,h,Gh rx e1,HI r e2,k _ (.bl _)⟩
  .cases q
 .cases q
end
def HA{K:aq}{c P:Addr}{o:Obj}{vs:Zd}{file:Str}{tf:Tok}{flags:Int}{tg:Tok}{inF:Bool}{text:Int}{tt:Tok}(h:K.lookup c=some o)(h1:o.cls=.type "code")(h2:o.data=.fields vs)(h3:vs[11]? =some (.ref P))(h4:vs.getD 11 .none=.ref P)(h5:vs.getD 18 .none=.str file tf)(h6:vs.getD 7 .none=.int flags tg)(h7:vs.getD 9 .none=.bool inF)(h8:vs.getD 10 .none=.int text tt)(h9:c≠P):∀h:Heap,K.In h->W.CodeHd h c P:=
 λ_ X=>⟨o,vs,file,tf,flags,tg,inF,text,tt,X _ _ h,h1,h2,h3,h4,h5,h6,h7,h8,h9⟩
def q9y{K:aq}{mg:Za}{P bm:Addr}(hm:mg "__builtins__"=some (.ref bm))(h:K.lookup bm=some {cls:=.type "module",dict:=some builtinsNs,data:=.plain})(n1:bm≠builtinsNs)(n2:bm≠mainGlobals)(n3:bm≠P):∀h:Heap,K.In h->h.BuiltinsAt mg P:=
 λ_ X=>⟨bm,_,hm,n1,n2,n3,X _ _ h,rfl,rfl,rfl⟩
def tN(K:aq)(P:Addr)(lp:Pos)(q:Str)(n:Nat):Sp:=λvs H Q _=>∃(b:Addr) (ns:Zf),vs=[.ref b]/\SqL K H b (ns.map V.int)/\ns.length<=n/\H P=some (.lam lp q)/\∀H',H' P=some (.lam lp q)->Q (.bl true) H'
def qq8{P:Program}{w:World}{K:aq}{mg:Za}{base:Heap}{CX:io}{k n:Nat}{fa:Addr}{fd:FuncData}{x:Str}{P0:Addr}{lp:Pos}{q:Str}{f:List D->Option D}(F:FnOk P w K mg base CX k fa fd [x] (gw K P0 lp q 1 f))(h:∀ns:List Int,ns.length<=n->f [.lst (ns.map D.int)]=some (.bl true)):FnOk P w K mg base CX k fa fd [x] (tN K P0 lp q n):=
 F.imp λvs H Q E h0=>by obtain⟨b,ns,rfl,hb,hl,hP,k⟩:=h0;refine⟨rfl,H,[.lst (ns.map D.int)],.bl true,λ_ _ e=>e,hP,.cons (.lst hb (Rps.ints ns)) .nil,h ns hl,λv H' R' x r=>?_⟩;have r':Rp K R' v (.bl true):=r;cases r';exact k H' (x.s _ _ (x.r _ _ hP))
def qix{P:Program}{w:World}{K:aq}{mg mb:Za}{k n:Nat}{fa a c P0:Addr}{lp:Pos}{q:Str}{fd:FuncData}{x:Str}{s₁:Shared}{vs:Ze}{ns:Zf}
 (KX:K.In s₁.heap) (hns:s₁.heap.Ns mainGlobals mg) (hb:s₁.heap.Ns builtinsNs mb) (hbb:∀x:Str,x≠"__name__"->mb x=bootBuiltins x) (hlim:s₁.heap.NoLimit) (hg:s₁.gens=#[])
 (ha:s₁.heap.get? a=some {cls:=.type "list",data:=.seq vs.toArray}) (hi:IntsAre vs ns) (hl:ns.length<=sizeLine) (hn:ns.length<=n) (hr:Room k callerA)
 (hP:s₁.heap.get? P0=some {cls:=.none,data:=.fields #[]}) (hKP:K.lookup P0=none) (hcd:W.CodeHd s₁.heap c P0)
 (F:∀base:Heap,K.In base->base.Ns mainGlobals mg->FnOk P w K mg base bJ k fa fd [x] (tN K P0 lp q n)) (j5:∀(s:Shared) (u:Value),BindsTo s fd ⟨[u],[]⟩ [(x,u)]):
 codeAny (model P w) callerA (.call (.ref fa) ⟨[.ref a],[]⟩) (λr s'=>r=.ok (.ret (.bool true))/\OldK s₁.heap s'.heap/\s'.os=s₁.os/\AllBare s'.gens) s₁:=by
 have rv:=HX hi;have lenV:=hi.length;have naP:a≠P0:=λz=>by rw[z,hP]at ha;cases ha
 have core:∀H:Hp,(∀b,H b=none∨(b=P0/\H b=some (.lam lp q))∨∃o xs,H b=some (.frz o (.lst xs)))->H P0=some (.lam lp q)->SqL K H a (ns.map V.int)->HOk P w H s₁.heap->(∀b,H b≠none->b=a∨b=P0)->(H a≠none->K.lookup a=none)->
  codeAny (model P w) callerA (.call (.ref fa) ⟨[.ref a],[]⟩) (λr s'=>r=.ok (.ret (.bool true))/\OldK s₁.heap s'.heap/\s'.os=s₁.os/\AllBare s'.gens) s₁:=by
  intro H hO hH hS hok hA hK;have base_of:∀{b:Addr} {o:Obj},s₁.heap.get? b=some o->H b=none->(fU s₁.heap H).get? b=some o:=λe n=>qlq e n;have noA:∀{b:Addr} {o:Obj} {es:Array DictEntry} {ep:Nat},s₁.heap.get? b=some o->o.data=.dict es ep->H b=none:=λ{b o es ep} e d=>by
   cases z:H b with
   |none=>rfl
   | some u=>
    rcases hA b (by rw[z];simp)with e'|e'
    .subst e';rw[ha]at e;cases e;have d':Data.seq vs.toArray _=Data.dict es ep:=d;cases d'
    .subst e';rw[hP]at e;cases e;have d':Data.fields _=Data.dict es ep:=d;cases d'
  have nsK:∀{b:Addr} {m:Za},s₁.heap.Ns b m->(fU s₁.heap H).Ns b m:=λ{b m} ⟨o,es,ep,e,d,r⟩=>⟨o,es,ep,base_of e (noA e d),d,r⟩;have hKb:K.In (fU s₁.heap H):=λb o e=>base_of (KX b o e) (by
   cases z:H b with
   |none=>rfl
   | some u=>
    rcases hA b (by rw[z];simp)with e'|e'
    .subst e';rw[hK (by rw[z];simp)]at e;cases e
    .subst e';rw[hKP]at e;cases e)
  have hM:Mod K mg (fU s₁.heap H):=⟨hKb,nsK hns,⟨mb,nsK hb,hbb⟩,let ⟨mc,h1,h2⟩:=hlim;⟨mc,nsK h1,h2⟩⟩;have e0:Env0 P w K mg (fU s₁.heap H) callerA [] s₁ H:=⟨rfl,hM,λb o e=>qpq e,Nat.le_of_eq (qj4),trivial,λb hb=>absurd (show b∈([]:List Addr)from hb) (by simp),hok,.of_eq hg⟩;refine codeAny_mono ((F _ hKb (nsK hns)).run callerA [] s₁ H ⟨[.ref a],[]⟩ [.ref a] [.ref a] (λv H'=>v=.bl true/\H' P0=some (.lam lp q)) (λ_ _ _=>False) hr e0 (j5 s₁ (.ref a)) (.cons rfl .nil) ⟨a,ns,rfl,hS,hn,hH,λH' h=>⟨rfl,h⟩⟩) λr s' h=>?_;cases r with
  |error e=>exact h.elim
  | ok fl=>
   cases fl with
   |next=>exact False.elim h
   |brk=>exact False.elim h
   |cont=>exact False.elim h
   | ret u=>
    obtain⟨v,H',os,bare,un,hok',r',q',hP'⟩:=h;subst q';obtain rfl:u=Value.bool true:=r';have keep:∀b o,b≠P0->s₁.heap.get? b=some o->s'.heap.get? b=some o:=λb o nb e=>by
     cases z:H b with
     |none=>exact un.keep b o e z (by intro z;exact absurd (show b∈([]:List Addr)from z) (by simp)) (by simp)
     | some u=>
      rcases hO b with z2|⟨z2,_⟩|⟨ob,xs,z2⟩
      .rw[z]at z2;cases z2
      .exact absurd z2 nb
      .have z3:=un.frzs b ob _ z2;let⟨e1,_⟩:=hok b _ z2;let⟨e2,_⟩:=hok' b _ z3;rw[e]at e1;cases e1;exact e2
    let⟨ps,e1,_⟩:=hok' P0 _ hP';refine⟨rfl,⟨λb o e=>?_,λb o e=>?_⟩,os,bare⟩
    .by_cases z:b=P0
     .subst z;rw[hP]at e;cases e;obtain⟨oc,cs,_,_,_,_,_,_,_,k1,k2,k3,k4,_⟩:=hcd;exact .inr (.inl ⟨⟨c,oc,cs,k1,k2,k3,k4⟩,rfl,#[],ps,rfl,by rw[Array.empty_append];exact e1⟩)
     .exact .inl (keep b o z e)
    .by_cases z:b=P0
     .rw[z];exact⟨_,e1⟩
     .exact⟨o,keep b o z e⟩
 have cy:∀H:Hp,ObjOk P w H s₁.heap P0 (.lam lp q):=λH=>⟨#[],hP,by unfold TriplesOk;trivial,.inl (by rfl)⟩;cases hk:K.lookup a with
 | some o=>
  have e:=KX a o hk;rw[ha]at e;cases e;refine core (λb=>if b=P0 then some (.lam lp q)else none) (λb=>?_) (if_pos rfl) (.inr ⟨_,vs.toArray,_,hk,rfl,rfl,rfl,by rw[jx,lenV];exact hl,by simpa using rv⟩) (λb u z=>?_) (λb z=>?_) λz=>absurd (if_neg naP) z
  .by_cases hb:b=P0
   .exact .inr (.inl ⟨hb,if_pos hb⟩)
   .exact .inl (if_neg hb)
  .by_cases hb:b=P0
   .have z':=(if_pos hb).symm.trans z;cases z';subst hb;exact cy _
   .have z':=(if_neg hb).symm.trans z;cases z'
  .by_cases hb:b=P0
   .exact .inr hb
   .exact absurd (if_neg hb) z
 | none=>
  have hHa:(λb=>if b=P0 then some (HO.lam lp q)else if b=a then some (.frz {cls:=.type "list",data:=.seq vs.toArray} (.lst (ns.map V.int)))else none) a=some (.frz {cls:=.type "list",data:=.seq vs.toArray} (.lst (ns.map V.int))):=by dsimp only;rw[if_neg naP,if_pos rfl]
  refine core (λb=>if b=P0 then some (.lam lp q)else if b=a then some (.frz {cls:=.type "list",data:=.seq vs.toArray} (.lst (ns.map V.int)))else none) (λb=>?_) (if_pos rfl) (.inl (.inr ⟨{cls:=.type "list",data:=.seq vs.toArray},hHa⟩)) (λb u z=>?_) (λb z=>?_) λ_=>hk
  .by_cases hb:b=P0
   .exact .inr (.inl ⟨hb,if_pos hb⟩)
   .by_cases hb2:b=a
    .exact .inr (.inr ⟨_,_,by rw[hb2];exact hHa⟩)
    .exact .inl (by rw[if_neg hb,if_neg hb2])
  .by_cases hb:b=P0
   .have z':=(if_pos hb).symm.trans z;cases z';subst hb;exact cy _
   .by_cases hb2:b=a
    .subst hb2;rw[hHa]at z;cases z;exact⟨ha,by rw[j7];exact hl,vs,_,rv,ha⟩
    .dsimp only at z;rw[if_neg hb,if_neg hb2]at z;cases z
  .by_cases hb:b=P0
   .exact .inr hb
   .by_cases hb2:b=a
    .exact .inl hb2
    .rw[if_neg hb,if_neg hb2]at z;exact absurd rfl z
def walk_ofL{l:W.OpenLaw}{n k:Nat}{q:Program}{loose:Zj}{XP:(Str->Option Value)->Heap->Prop}{YP:World->Heap->Prop}{d:DefRec}{K:Params->W.Frag}{P0 c:Addr}{lp:Pos}{qn:Str}{x:Str}
 (hn:l.most=some n) (hn2:n<=sizeLine) (hdf:d.params.defaults=[]) (hr:Room k callerA)
 (hY:∀(w:World) (h:Heap),YP w h->(K w.params).In h/\h.get? P0=some {cls:=.none,data:=.fields #[]}) (hKP:∀P,(K P).lookup P0=none) (hcd:∀P (h:Heap),(K P).In h->W.CodeHd h c P0)
 (F:∀(w:World) (mg:Za) (fa:Addr) (h:Heap),(K w.params).In h->h.Ns mainGlobals mg->mg d.name=some (.ref fa)->
   ∃fd:FuncData,(∀(s:Shared) (u:Value),BindsTo s fd ⟨[u],[]⟩ [(x,u)])/\
    ∀base:Heap,(K w.params).In base->base.Ns mainGlobals mg->FnOk l.prog w (K w.params) mg base bJ k fa fd [x] (tN (K w.params) P0 lp qn n)):
 W.WalkO q loose XP YP l.row.toRowW d [] (λf vs=>PySem.call f vs):=by
 refine Att.attach_call hn hdf λw s₀ s₁ mg mb fa o pm cd doc a vs ns G Y ho hd hcd' hmg hobj j4 zc hg=>?_;let⟨KX,hP⟩:=hY w _ Y;let⟨fd,hb,hF⟩:=F w mg fa _ KX G.T.g hmg;exact qix KX G.T.g G.T.b G.T.builtins G.T.nolimit hg hobj j4 (ju zc hn2) zc hr hP (hKP _) (hcd _ _ KX) hF hb
section
variable{X:Cx}{K:aq}
def Em(K:aq):List V->Hp->VK->Prop:=λxs H Q=>∃(p:Addr) (ns:Zf),xs=[.ref p]/\SqL K H p (ns.map V.int)/\ns≠[]/\Q (.int ((cX ns).getD 0)) H
def qff(hK:X.K=K)(hc:X.calm=true):gf X (.builtin "min") (Em K):=by
 subst hK;intro z5 s J H xs us Q I r h;obtain⟨p,ns,rfl,hq,hn,k⟩:=h;obtain⟨u,rfl,ru⟩:=cH r;cases ru;let⟨its,rv,pl,hz⟩:=I.list hq;have ln:its.length=ns.length:=by have:=rv.length;simp at this;omega
 have hh:X.A.in1.handled=none:=I.ok.hd hc;have n0:0<ns.length:=List.length_pos_iff.mpr hn;refine qjt (its:=its.toArray) (bt:=uD ns) hh pl.isList (by simp;omega) (λi j vi vj s Q E hi hj _ q=>?_) λv s' ev k'=>?_
 .obtain⟨t,rfl⟩:=lC rv (by simpa using hi);obtain⟨t',rfl⟩:=lC rv (by simpa using hj);exact HT.rcLt_int _ s _ t _ t' _ _ _ _ (q s ⟨λ_ _ e=>e,rfl,rfl,rfl⟩)
 .rw[jx,ln]at ev;obtain⟨t,rfl⟩:=lC rv (by simpa using ev);refine⟨_,_,wG I k',?_,k⟩;cases ns with
  |nil=>exact absurd rfl hn
  |cons a r=>exact⟨t,rfl⟩
def sJ:D->Option D
 | .lst xs=>match c6 xs with
  |some ns=>if ns≠[]then some (.int ((cX ns).getD 0))else none
  |none=>none
 |_=>none
def qrh:mI K (Em K) sJ:=λH x d u Q r e k=>by
 unfold sJ at e;split at e
 .obtain⟨p,vs,rfl,h,rs⟩:=r.isL;split at e
  .rename_i ns z;split at e
   .rename_i hn;cases e;have ex:=mE rs z;subst ex;exact⟨p,ns,rfl,h,hn,k _ (.int _)⟩
   .cases e
  .cases e
 .cases e
end
end L2
namespace L2
open PySem
def qti{x y z:Int×List Int}(h:cB x y=true)(g:cB y z=true):cB x z=true:=by
 cases q:cB x z with
 |true=>rfl
 | false=>
  have h1:=t5 x y z h (mD g);have h2:=ql q h1;subst h2;rw[mD h]at g;cases g
def qtj{x y:Int×List Int}(h:cB x y=true):x≠y:=λz=>by rw[z,Hh]at h;cases h
def Fw{x y:Int×List Int}(h:x≠y):cB x y=true∨cB y x=true:=by
 cases q:cB x y with
 |true=>exact .inl rfl
 | false=>
  cases q2:cB y x with
  |true=>exact .inr rfl
  |false=>exact absurd (ql q q2) h
theorem HG:∀{a b:Zf} (c d:Zf),a.length=b.length->HT.lexLt a b=true->HT.lexLt (a++c) (b++d)=true
 |[],[],_,_,_,h=>by cases h
 |[],_::_,_,_,l,_=>by simp at l
 |_::_,[],_,_,l,_=>by simp at l
 | x::xs,y::ys,c,d,l,h=>by
  rw[HT.lexLt_cons]at h;rw[List.cons_append,List.cons_append,HT.lexLt_cons];by_cases q:x=y
  .rw[if_pos q]at h ⊢;exact HG c d (by simpa using l) h
  .rw[if_neg q]at h ⊢;exact h
theorem qH{α:Type}[DecidableEq α]:∀{F T:List α},F.Nodup->(∀x∈F,x∈T)->F.length<=T.length
 |[],_,_,_=>Nat.zero_le _
 | x::F,T,nd,h=>by have hx:=h x jf;let⟨n1,n2⟩:=List.nodup_cons.mp nd;have h2:=qH (F:=F) (T:=T.erase x) n2 λy hy=>(List.mem_erase_of_ne λz=>n1 (by rw[<-z];exact hy)).mpr (h y (jd _ hy));rw[List.length_erase_of_mem hx]at h2;have:=List.length_pos_of_mem hx;rw[jt];omega
section
variable(L:List Int->Int)
noncomputable def cq(b:Zf):Int×List Int:=(L b,b)
abbrev i9(a b:Zf):Prop:=cB (cq L a) (cq L b)=true
def fR(E:Z9):List (List Int):=(iK (E.map (cq L))).map λi=>E.getD i []
def eO(most:Nat)(E:Z9):List (List Int):=(fR L E).take most
structure Top(most k:Nat)(R:Z9):Prop where
 bits:∀b∈R,ay b/\b.length=k
 up:R.Pairwise (i9 L)
 out:∀b,ay b->b.length=k->b∉R->R.length=most/\∀a∈R,i9 L a b
noncomputable def aO(R:Z9):List (List Int):=R.flatMap λb=>[b++[0],b++[1]]
end
section
variable{L:List Int->Int}
def yJ{a b:Zf}(h:cq L a=cq L b):a=b:=congrArg Prod.snd h
def iZ{α:Type}(d:α)(E:List α):((List.range E.length).map λi=>E.getD i d)=E:=by
 apply List.ext_getElem?;intro i;by_cases h:i<E.length
 .rw[je,xr h,Option.map_some,ji,jb h];rfl
 .rw[x9 (by simp;omega),x9 (by omega)]
def HS(E:Z9):(fR L E).Perm E:=by have h:=(m8 (E.map (cq L))).map λi=>E.getD i [];rw[j7,iZ]at h;exact h
def GR{E:Z9}{i:Nat}(h:i<E.length):(E.map (cq L)).getD i (0,[])=cq L (E.getD i []):=by rw[ji,ji,je,jb h];rfl
def GA{E:Z9}(nd:E.Nodup):(fR L E).Pairwise (i9 L):=by
 unfold fR;rw[List.pairwise_map];have h1:=FL (E.map (cq L));have h2:(iK (E.map (cq L))).Nodup:=(m8 _).nodup_iff.mpr List.nodup_range;refine(List.pairwise_and_iff.mpr ⟨h1,h2⟩).imp_of_mem λ{i j} hi hj h=>?_;obtain⟨h3,h4⟩:=h;have li:i<E.length:=by simpa using List.mem_range.mp ((m8 _).subset hi)
 have lj:j<E.length:=by simpa using List.mem_range.mp ((m8 _).subset hj)
 unfold lG jT at h3;rw[Bool.not_eq_true',GR li,GR lj]at h3;refine(Fw λz=>h4 ?_).resolve_right (by rw[h3];decide);have z:=yJ z;rw[ji,ji,jb li,jb lj]at z;have z:E[i]=E[j]:=z;rcases Nat.lt_trichotomy i j with w|w|w
 .exact absurd z (List.pairwise_iff_getElem.mp nd i j li lj w)
 .exact w
 .exact absurd z.symm (List.pairwise_iff_getElem.mp nd j i lj li w)
def pj{R:Z9}(h:R.Pairwise (i9 L)):R.Nodup:=List.Pairwise.imp (S:=λa b=>a≠b) (λ{a b} h (z:a=b)=>qtj h (congrArg (cq L) z)) h
def Gz{R:Z9}(h:R.Pairwise (i9 L)):fR L R=R:=by refine List.Perm.eq_of_pairwise (le:=i9 L) (λa b _ _ h1 h2=>?_) (GA (pj h)) h (HS R);have h3:cB (cq L b) (cq L a)=true:=h2;rw[mD h1]at h3;cases h3
def qj8{R:Z9}{most:Nat}(h:R.Pairwise (i9 L))(hm:R.length<=most):eO L most R=R:=by unfold eO;rw[Gz h,List.take_of_length_le hm]
def GD{most:Nat}:Top L most 0 [[]]:=⟨λb hb=>by rw[List.mem_singleton.mp hb];exact⟨λ_ h=>(nomatch h),rfl⟩,List.pairwise_singleton _ _,λb _ hl h=>by rw[List.eq_nil_of_length_eq_zero hl]at h;exact absurd (List.mem_singleton.mpr rfl) h⟩
def mem_both{R:Z9}{x:Zf}:x∈aO R↔∃b∈R,x=b++[0]∨x=b++[1]:=by unfold aO;rw[List.mem_flatMap];simp
theorem uu:∀{R:Z9},R.Nodup->(aO R).Nodup
 |[],_=>List.nodup_nil
 | b::R,nd=>by
  let⟨n1,n2⟩:=List.nodup_cons.mp nd;have h:=uu n2;have e:aO (b::R)=(b++[0])::(b++[1])::aO R:=rfl;have ab:∀(x:Int),b++[x]∉aO R:=λx hx=>by
   let⟨c,hc,z⟩:=mem_both.mp hx;have:b=c:=by rcases z with z|z<;>exact(List.append_inj z (by have:=congrArg List.length z;simpa using this)).1
   exact n1 (by rw[this];exact hc)
  rw[e];refine List.nodup_cons.mpr ⟨λz=>?_,List.nodup_cons.mpr ⟨ab 1,h⟩⟩;rcases List.mem_cons.mp z with z|z
  .have:=(List.append_inj z rfl).2;simp at this
  .exact ab 0 z
def qkf{most k:Nat}{R:Z9}(h:Top L most k R)
 (hL:∀b,ay b->b.length=k->L b<=L (b++[0])/\L b<=L (b++[1])/\(L (b++[0])=L b∨L (b++[1])=L b)):Top L most (k+1) (eO L most (aO R)):=by
 have nE:=uu (pj h.up);have uS:=GA (L:=L) nE;have pS:=HS (L:=L) (aO R);have eS:fR L (aO R)=eO L most (aO R)++(fR L (aO R)).drop most:=(List.take_append_drop _ _).symm;have uS':=uS;rw[eS,List.pairwise_append]at uS';obtain⟨uT,_,uX⟩:=uS';have inS:∀x∈eO L most (aO R),x∈aO R:=λx hx=>pS.subset (by rw[eS];exact List.mem_append_left _ hx);have cut:∀x∈aO R,x∉eO L most (aO R)->x∈(fR L (aO R)).drop most:=λx hx nx=>by have:=pS.symm.subset hx;rw[eS]at this;exact(List.mem_append.mp this).resolve_left nx
 have bitsE:∀x∈aO R,ay x/\x.length=k+1:=λx hx=>by
  let⟨b,hb,z⟩:=mem_both.mp hx;let⟨b1,b2⟩:=h.bits b hb;rcases z with rfl|rfl
  .exact⟨gQ b1 λy hy=>.inl (List.mem_singleton.mp hy),by simp[b2]⟩
  .exact⟨gQ b1 λy hy=>.inr (List.mem_singleton.mp hy),by simp[b2]⟩
 refine⟨λb hb=>bitsE b (inS b hb),uT,λx bx lx nx=>?_⟩;have nz:x≠[]:=λz=>by rw[z]at lx;simp at lx
 obtain⟨b,y,ex⟩:∃b y,x=b++[y]:=⟨x.dropLast,x.getLast nz,(List.dropLast_concat_getLast nz).symm⟩;subst ex;have bb:ay b:=λz hz=>bx z (List.mem_append_left _ hz);have lb:b.length=k:=by simpa using lx
 have hy:y=0∨y=1:=bx y (by simp);have leb:L b<=L (b++[y]):=by rcases hy with rfl|rfl;exact(hL b bb lb).1;exact(hL b bb lb).2.1
 by_cases hb:b∈R
 .have hx:b++[y]∈aO R:=mem_both.mpr ⟨b,hb,by rcases hy with rfl|rfl;exact .inl rfl;exact .inr rfl⟩;have hd:=cut _ hx nx;refine⟨?_,λa ha=>uX a ha _ hd⟩;have:=List.length_pos_of_mem hd;rw[xm]at this;unfold eO;rw[xi];omega
 .let⟨lr,hr⟩:=h.out b bb lb hb
  let st:List Int->List Int:=λa=>if L (a++[0])=L a then a++[0]else a++[1]
  have st1:∀a∈R,st a∈aO R/\L (st a)=L a/\∃z,st a=a++[z]:=λa ha=>by
   let⟨a1,a2⟩:=h.bits a ha;let⟨_,_,l3⟩:=hL a a1 a2;show(if L (a++[0])=L a then a++[0]else a++[1])∈aO R/\L (if L (a++[0])=L a then a++[0]else a++[1])=L a/\∃z,(if L (a++[0])=L a then a++[0]else a++[1])=a++[z];by_cases q:L (a++[0])=L a
   .rw[if_pos q];exact⟨mem_both.mpr ⟨a,ha,.inl rfl⟩,q,0,rfl⟩
   .rw[if_neg q];exact⟨mem_both.mpr ⟨a,ha,.inr rfl⟩,l3.resolve_left q,1,rfl⟩
  have stlt:∀a∈R,i9 L (st a) (b++[y]):=λa ha=>by
   let⟨_,s2,z,s3⟩:=st1 a ha;let⟨a1,a2⟩:=h.bits a ha;have g:=hr a ha;unfold i9 cB mm cq at g ⊢;simp only at g ⊢;rw[s2];by_cases q:L a=L b
   .rw[if_pos q]at g;by_cases q2:L a=L (b++[y])
    .rw[if_pos q2,s3];exact HG _ _ (by rw[a2,lb]) g
    .rw[if_neg q2];simp;omega
   .rw[if_neg q]at g;simp at g;rw[if_neg (by omega)];simp;omega
  have nF:(R.map st).Nodup:=by show List.Pairwise (λa b=>a≠b) (R.map st);rw[List.pairwise_map];refine(pj h.up).imp_of_mem λ{a c} ha hc ne z=>ne ?_;let⟨_,_,z1,e1⟩:=st1 a ha;let⟨_,_,z2,e2⟩:=st1 c hc;rw[e1,e2]at z;exact(List.append_inj z (by have:=congrArg List.length z;simpa using this)).1
  have inF:∀f∈R.map st,f∈aO R/\i9 L f (b++[y]):=λf hf=>by obtain⟨a,ha,rfl⟩:=List.mem_map.mp hf;exact⟨(st1 a ha).1,stlt a ha⟩
  have lF:(R.map st).length=most:=by rw[j7,lr]
  have lT:(eO L most (aO R)).length=most:=by have:=qH nF λf hf=>pS.symm.subset (inF f hf).1;unfold eO;rw[xi];omega
  refine⟨lT,λa ha=>?_⟩;have ne:cq L a≠cq L (b++[y]):=λz=>nx (by rw[<-yJ z];exact ha);rcases Fw ne with g|g
  .exact g
  .exfalso;have sub:∀f∈a::R.map st,f∈eO L most (aO R):=λf hf=>by
    rcases List.mem_cons.mp hf with rfl|hf
    .exact ha
    .by_cases q:f∈eO L most (aO R)
     .exact q
     .let⟨i1,i2⟩:=inF f hf;have h1:=uX a ha f (cut f i1 q);have h2:cB (cq L f) (cq L a)=true:=qti i2 g;rw[mD h1]at h2;cases h2
   have na:a∉R.map st:=λhf=>by have h2:cB (cq L a) (cq L (b++[y]))=true:=(inF a hf).2;rw[mD g]at h2;cases h2
   have:=qH (List.nodup_cons.mpr ⟨na,nF⟩) sub;rw[jt,lF,lT]at this;omega
noncomputable def db(L:List Int->Int)(most:Nat):Nat->List (List Int)
 |0=>[[]]
 |k+1=>eO L most (aO (db L most k))
def Hn{most:Nat}(k:Nat):(db L most (k+1)).length<=most:=List.length_take_le _ _
theorem yA{most n:Nat}(hL:∀b,ay b->b.length<n->L b<=L (b++[0])/\L b<=L (b++[1])/\(L (b++[0])=L b∨L (b++[1])=L b)):∀k,k<=n->Top L most k (db L most k)
 |0,_=>GD
 |k+1,h=>qkf (yA hL k (by omega)) λb hb hk=>hL b hb (by omega)
end
noncomputable def eY:List Sx->Int->Int->List Int->Int×Int
 |st::rest,z6,c,b::bs=>eY rest ((cw st z6).getD b.toNat (0,0)).1 (c+((cw st z6).getD b.toNat (0,0)).2) bs
 |[],z6,c,_=>(z6,c)
 |_::_,z6,c,[]=>(z6,c)
def uf(steps:List Sx)(z6 c:Int):eY steps z6 c []=(z6,c):=by cases steps<;>rfl
theorem HZ:∀(steps:List Sx) (z6 c:Int) (bs:Zf) (x:Int),bs.length<steps.length->eY steps z6 c (bs++[x])=
 (((cw (steps.getD bs.length []) (eY steps z6 c bs).1).getD x.toNat (0,0)).1,(eY steps z6 c bs).2+((cw (steps.getD bs.length []) (eY steps z6 c bs).1).getD x.toNat (0,0)).2)
 |[],_,_,_,_,h=>by simp at h
 | st::rest,z6,c,[],x,h=>by show eY rest _ _ []=_;rw[uf];rfl
 | st::rest,z6,c,b::bs,x,h=>by show eY rest _ _ (bs++[x])=_;rw[HZ rest _ _ bs x (by simpa using h)];rfl
theorem OkS.drop{ρ:Nat}:∀{steps:List Sx} {n:Nat} (k:Nat),OkS ρ n steps->OkS ρ (n-k) (steps.drop k)
 |_,_,0,h=>h
 |[],_,_+1,_=>True.intro
 | _::_,n,k+1,h=>by have:=OkS.drop k h.2.2;rw[show n-1-k=n-(k+1)from by omega]at this;exact this
theorem ul{ρ:Nat}{ends:Rw}{us:Zf}:∀(steps:List Sx) (n:Nat) (z6 c:Int) (bs:Zf),OkS ρ n steps->bs.length<=n->n<=steps.length->ay bs->(0<=z6/\z6.toNat<ρ)->
 (0<=(eY steps z6 c bs).1/\(eY steps z6 c bs).1.toNat<ρ)/\(eI steps ends z6 (bs++us)).map (λx=>c+x)=(eI (steps.drop bs.length) ends (eY steps z6 c bs).1 us).map λx=>(eY steps z6 c bs).2+x
 | steps,n,z6,c,[],_,_,_,_,hr=>by rw[uf];exact⟨hr,rfl⟩
 |[],n,_,_,b::bs,_,h1,h2,_,_=>by simp at h1 h2;omega
 | st::rest,n,z6,c,b::bs,ok,h1,h2,hb,hr=>by
  obtain⟨o1,o2,o3⟩:=ok;have h1':bs.length+1<=n:=by simpa using h1
  have h2':n<=rest.length+1:=by simpa using h2
  have hlt:z6.toNat<st.length:=by rw[o1];exact hr.2
  have es:st[z6.toNat]? =some st[z6.toNat]:=jb hlt;let⟨c1,c2⟩:=o2 _ (xn hlt);rw[if_neg (by omega)]at c1;let⟨q0,q1,eq⟩:=two_of c1;have ech:cw st z6=[q0,q1]:=by rw[ug es,eq]
  have key:∀q,[q0,q1][b.toNat]? =some q->((0<=(eY (st::rest) z6 c (b::bs)).1/\(eY (st::rest) z6 c (b::bs)).1.toNat<ρ)/\(eI (st::rest) ends z6 (b::bs++us)).map (λx=>c+x)=(eI ((st::rest).drop (b::bs).length) ends (eY (st::rest) z6 c (b::bs)).1 us).map λx=>(eY (st::rest) z6 c (b::bs)).2+x):=λq e=>by
   have hq:=c2 q (by rw[eq];exact xk e);let⟨g1,g2⟩:=ul (us:=us) (ends:=ends) rest (n-1) q.1 (c+q.2) bs o3 (by omega) (by omega) (λx hx=>hb x (jd _ hx)) hq;have ew:eY (st::rest) z6 c (b::bs)=eY rest q.1 (c+q.2) bs:=by show eY rest ((cw st z6).getD b.toNat (0,0)).1 _ bs=_;rw[ech,ji,e];rfl
   rw[ew,jt,List.drop_succ_cons,<-g2,List.cons_append,y7,ech,e];refine⟨g1,?_⟩;simp only[Option.map_map];congr 1;funext x;show c+(q.2+x)=c+q.2+x;omega
  rcases hb b jf with rfl|rfl
  .exact key q0 rfl
  .exact key q1 rfl
def qf2{α:Type}(d:α)(xs:List α)(k:Nat):(xs.drop k).headD d=xs.getD k d:=by rw[ji,List.headD_eq_head?_getD,List.head?_drop]
section
variable(r:Int)(U:Zf)(G:Z9)(e:Str)(ts:List Told)(n:Nat)
def aP(s:Int)(b:Zf):Int×Int:=eY (bO r U G ts n 0 (n+aB r e)) s 0 b
def cG(s:Int)(b:Zf):Option Int:=(dy ((bU r U G e ts n s).getD b.length []) (aP r U G e ts n s b).1).map λx=>(aP r U G e ts n s b).2+x
def jD(s:Int)(b:Zf):List Int:=gk (n-b.length) ((bO r U G ts n 0 (n+aB r e)).drop b.length) (bT ((bO r U G ts n 0 (n+aB r e)).drop b.length) (dH r e s)) (aP r U G e ts n s b).1
def tD(b:Zf):List Int:=(ck r e).filterMap λs=>cG r U G e ts n s b
def cJ(b:Zf):Int:=(cX (tD r U G e ts n b)).getD 0
end
section
variable{r:Int}{U:Zf}{G:Z9}{e:Str}{ts:List Told}{n:Nat}
def jK:(bO r U G ts n 0 (n+aB r e)).length=n+aB r e:=by unfold bO;rw[j7,List.length_range']
def dY{s:Int}{k:Nat}(h:k<=n):(bU r U G e ts n s).getD k []=(bT ((bO r U G ts n 0 (n+aB r e)).drop k) (dH r e s)).headD []:=by unfold bU;rw[<-qf2,zG _ _ _ (by rw[jK];omega)]
def pi{s:Int}{b:Zf}(hs:s∈ck r e)(hb:ay b)(hl:b.length<=n):0<=(aP r U G e ts n s b).1/\(aP r U G e ts n s b).1.toNat<2^r.toNat:=by have h1:=ur hs;have h4:=f7 (r:=r);exact(ul (us:=[]) (ends:=[]) _ n s 0 b (pq (n:=n) (n+aB r e) 0) hl (by rw[jK];omega) hb ⟨h1.1,by omega⟩).1
def Ho{s:Int}{b:Zf}(x:Int)(hl:b.length<n):aP r U G e ts n s (b++[x])=
 (((cw (stepK r U G ts n b.length) (aP r U G e ts n s b).1).getD x.toNat (0,0)).1,(aP r U G e ts n s b).2+((cw (stepK r U G ts n b.length) (aP r U G e ts n s b).1).getD x.toNat (0,0)).2):=by
 have es:(bO r U G ts n 0 (n+aB r e)).getD b.length []=stepK r U G ts n b.length:=by unfold bO;rw[ji,je,List.getElem?_range' (by omega)];simp
 unfold aP;rw[HZ _ _ _ _ _ (by rw[jK];omega),es]
def GM{s c:Int}{b:Zf}(hs:s∈ck r e)(hb:ay b)(hl:b.length<=n)(hr:e="ring"->r.toNat<=n)(hen:e="open"∨e="ended"∨e="ring")(ht:ts.length=(bK U G (n+aB r e)).length)(h:cG r U G e ts n s b=some c):
 ay (b++jD r U G e ts n s b)/\(b++jD r U G e ts n s b).length=n/\aZ r e (b++jD r U G e ts n s b)=s/\fu r U G e ts (b++jD r U G e ts n s b)=c:=by
 unfold jD;have h1:=ur hs;have h4:=f7 (r:=r);have ok:=pq (r:=r) (U:=U) (G:=G) (ts:=ts) (n:=n) (n+aB r e) 0;unfold cG at h;rw[dY hl]at h;let⟨m,hm,em⟩:=Option.map_eq_some_iff.mp h;let⟨g1,g2,g3,_⟩:=ui (2^r.toNat) _ (n-b.length) (dH r e s) (aP r U G e ts n s b).1 m (OkS.drop b.length ok) (by rw[xm,jK];omega) (pi hs hb hl) hm;have ez:jY (((bO r U G ts n 0 (n+aB r e)).drop b.length).length-(n-b.length))=List.replicate (aB r e) 0:=by rw[xm,jK,show n+aB r e-b.length-(n-b.length)=aB r e from by omega];rfl
 rw[ez]at g3;have g:=(ul (ends:=dH r e s) (us:=gk (n-b.length) ((bO r U G ts n 0 (n+aB r e)).drop b.length) (bT ((bO r U G ts n 0 (n+aB r e)).drop b.length) (dH r e s)) (aP r U G e ts n s b).1++List.replicate (aB r e) 0) _ n s 0 b ok hl (by rw[jK];omega) hb ⟨h1.1,by omega⟩).2;have g3':eI (List.drop b.length (bO r U G ts n 0 (n+aB r e))) (dH r e s) (eY (bO r U G ts n 0 (n+aB r e)) s 0 b).1 _=_:=g3;rw[g3',<-List.append_assoc]at g;have bw:ay (b++gk (n-b.length) ((bO r U G ts n 0 (n+aB r e)).drop b.length) (bT ((bO r U G ts n 0 (n+aB r e)).drop b.length) (dH r e s)) (aP r U G e ts n s b).1):=gQ hb g1;have lw:(b++gk (n-b.length) ((bO r U G ts n 0 (n+aB r e)).drop b.length) (bT ((bO r U G ts n 0 (n+aB r e)).drop b.length) (dH r e s)) (aP r U G e ts n s b).1).length=n:=by rw[jh,g2];omega
 let⟨c',hc,ec⟩:=Option.map_eq_some_iff.mp g;let⟨p1,p2⟩:=qht hs bw lw hr hen ht hc;refine⟨bw,lw,p1.symm,?_⟩;have ec:0+c'=(aP r U G e ts n s b).2+m:=ec;rw[<-p2,<-em];omega
def GL{s c:Int}{b:Zf}(hs:s∈ck r e)(hb:ay b)(hl:b.length<=n)(hr:e="ring"->r.toNat<=n)(hen:e="open"∨e="ended"∨e="ring")(ht:ts.length=(bK U G (n+aB r e)).length)(h:cG r U G e ts n s b=some c):
 ∃w,ay w/\w.length=n/\b<+:w/\aZ r e w=s/\fu r U G e ts w=c:=by
 let⟨h1,h2,h3,h4⟩:=GM hs hb hl hr hen ht h;exact⟨_,h1,h2,List.prefix_append _ _,h3,h4⟩
def EW{w b:Zf}(hw:ay w)(lw:w.length=n)(hp:b<+:w)(hr:e="ring"->r.toNat<=n)(hen:e="open"∨e="ended"∨e="ring")(ht:ts.length=(bK U G (n+aB r e)).length):
 ∃m,cG r U G e ts n (aZ r e w) b=some m/\m<=fu r U G e ts w:=by
 obtain⟨u,rfl⟩:=hp;have hs:=Ii (r:=r) (e:=e) hw (by rw[lw];exact hr);have h1:=ur hs;have h4:=f7 (r:=r);have hl:b.length<=n:=by rw[<-lw,jh];omega
 have hb:ay b:=λx hx=>hw x (List.mem_append_left _ hx);have p:=H9 (U:=U) (G:=G) hw lw hr hen ht;rw[List.append_assoc]at p;have g:=(ul (ends:=dH r e (aZ r e (b++u))) (us:=u++List.replicate (aB r e) 0) _ n (aZ r e (b++u)) 0 b (pq (r:=r) (U:=U) (G:=G) (ts:=ts) (n:=n) (n+aB r e) 0) hl (by rw[jK];omega) hb ⟨h1.1,by omega⟩).2;rw[p]at g;let⟨c,hc,ec⟩:=Option.map_eq_some_iff.mp g.symm;let⟨m,hm,le⟩:=yB _ _ _ _ _ hc;unfold cG;rw[dY hl];refine⟨(aP r U G e ts n (aZ r e (b++u)) b).2+m,Option.map_eq_some_iff.mpr ⟨m,hm,rfl⟩,?_⟩;have ec:(aP r U G e ts n (aZ r e (b++u)) b).2+c=0+fu r U G e ts (b++u):=ec;omega
section
variable(hr:e="ring"->r.toNat<=n)(hen:e="open"∨e="ended"∨e="ring")(ht:ts.length=(bK U G (n+aB r e)).length)
include hr hen ht
theorem qA{b:Zf}(hb:ay b)(hl:b.length<=n):cX (tD r U G e ts n b)=some (cJ r U G e ts n b)/\
 (∃w,ay w/\w.length=n/\b<+:w/\fu r U G e ts w=cJ r U G e ts n b)/\∀w,ay w->w.length=n->b<+:w->cJ r U G e ts n b<=fu r U G e ts w:=by
 have lo:∀w,ay w->w.length=n->b<+:w->∃m∈tD r U G e ts n b,m<=fu r U G e ts w:=λw bw lw pw=>by let⟨m,h1,h2⟩:=EW (U:=U) (G:=G) bw lw pw hr hen ht;exact⟨m,List.mem_filterMap.mpr ⟨_,Ii bw (by rw[lw];exact hr),h1⟩,h2⟩
 let⟨m0,hm0,_⟩:=lo (b++List.replicate (n-b.length) 0) (gQ hb (t9 _)) (by rw[jh,jw];omega) (List.prefix_append _ _);cases q:cX (tD r U G e ts n b)with
 |none=>rw[y6 q]at hm0;cases hm0
 | some m=>
  have el:cJ r U G e ts n b=m:=by unfold cJ;rw[q];rfl
  rw[el];let⟨h1,h2⟩:=tX q;let⟨s,hs,es⟩:=List.mem_filterMap.mp h1;let⟨w,w1,w2,w3,_,w5⟩:=GL hs hb hl hr hen ht es;refine⟨rfl,⟨w,w1,w2,w3,w5⟩,λw bw lw pw=>?_⟩;let⟨x,hx,le⟩:=lo w bw lw pw;have:=h2 x hx;omega
theorem zC{w:Zf}(hw:ay w)(lw:w.length=n):cJ r U G e ts n w=fu r U G e ts w:=by let⟨_,⟨v,_,v2,v3,v4⟩,_⟩:=qA hr hen ht hw (by omega);have:w=v:=v3.eq_of_length (by omega);rw[<-v4,this]
theorem Ij{b:Zf}(hb:ay b)(hl:b.length<n):cJ r U G e ts n b<=cJ r U G e ts n (b++[0])/\cJ r U G e ts n b<=cJ r U G e ts n (b++[1])/\(cJ r U G e ts n (b++[0])=cJ r U G e ts n b∨cJ r U G e ts n (b++[1])=cJ r U G e ts n b):=by
 have b0:ay (b++[0]):=gQ hb λy hy=>.inl (List.mem_singleton.mp hy);have b1:ay (b++[1]):=gQ hb λy hy=>.inr (List.mem_singleton.mp hy);let⟨_,⟨w,w1,w2,w3,w4⟩,hm⟩:=qA hr hen ht hb (by omega);let⟨_,⟨u,u1,u2,u3,u4⟩,hu⟩:=qA hr hen ht b0 (by simp;omega);let⟨_,⟨v,v1,v2,v3,v4⟩,hv⟩:=qA hr hen ht b1 (by simp;omega);have l0:=hm u u1 u2 ((List.prefix_append _ _).trans u3);have l1:=hm v v1 v2 ((List.prefix_append _ _).trans v3);refine⟨by omega,by omega,?_⟩;obtain⟨t,et⟩:=w3;cases t with
 |nil=>rw[List.append_nil]at et;rw[<-et]at w2;omega
 | cons y t=>
  have et:w=(b++[y])++t:=by rw[<-et];simp
  rcases w1 y (by rw[et];simp)with z|z
  .subst z;have:=hu w w1 w2 ⟨t,et.symm⟩;exact .inl (by omega)
  .subst z;have:=hv w w1 w2 ⟨t,et.symm⟩;exact .inr (by omega)
theorem qfj{s:Int}{b:Zf}{x:Int}(hs:s∈ck r e)(hb:ay (b++[x]))(hl:b.length<n)(h:cG r U G e ts n s (b++[x])≠none):cG r U G e ts n s b≠none:=by
 cases q:cG r U G e ts n s (b++[x])with
 |none=>exact absurd q h
 | some c=>
  let⟨w,w1,w2,w3,w4,_⟩:=GL hs hb (by simp;omega) hr hen ht q;let⟨m,h1,_⟩:=EW (U:=U) (G:=G) w1 w2 ((List.prefix_append _ _).trans w3) hr hen ht;rw[w4]at h1;rw[h1];simp
end
end
end L2
namespace K22
open PySem L2
abbrev Nx(f:aA->Option Out)(l:aA)(i:Nat)(x:D):Prop:=f l=some (.nx (l.set i (some x)))
abbrev Nz(f:aA->Option Out)(l:aA):Prop:=f l=some (.nx l)
abbrev Nr(f:aA->Option Out)(l:aA)(d:D):Prop:=f l=some (.rt d l)
abbrev Ns{α:Type}(f:aA->Option (α×aA))(l:aA)(y:α):Prop:=f l=some (y,l)
local macro_rules|`(tactic|walk_at "e")=>`(tactic|simp[Nx,Nz,Nr,Ns,gy,aH,cM,qw9,eZ,E1,EY,qwb,qqz,qqy,qwf,yh,qwc,qwi,qyk,qr9,qr1,qym,qwd,qr6,qw5,qwe,qyl,qr8,qm5,qm4,qr7,qw7,Ge,Gf,qw4,qqw,qyj,qm3,yg,qqn,qqp,qqu,qw6,qqo,qm1,qm0,qqq,qm2,qqr,qqt,qlz,qqs,qr4,dI,IL,zM,kE,pM,rd,nN,qR,lJ,rc,c7,bE,cY,kF,px,pz,bN,ie,bd,cr,hV,hG,lW,mz,dE,iW,gA,ix,hU,sB,gN,f9,vT,tH,D8,vS,mh,IN,ng,at2,at3,fI,eK,im,Gc,IF,qq7,qwg,qw8,iO,GP,mf,fV,oN,bZ,e9,iH,qr5,DW,EZ,qa,qr3,qwh,qr2,qwa,wH, *])
local macro_rules|`(tactic|walk_at "sc")=>`(tactic|exact⟨rfl,rfl,rfl,by decide+kernel,rfl,by decide+kernel,by decide+kernel⟩)
local macro_rules|`(tactic|walk_at "lr")=>`(tactic|first|exact Or.inl rfl|exact Or.inr rfl)
noncomputable def top(i:Nat):Stmt:=Challenge.pw_trellisway_k22_whole_few_leave_none.main.body.getD i (.Pass ⟨0,0,0,0⟩)
abbrev nJ:Stmt:=top 5
def qxd:q0m ["reach"] ["reach"] (aU nJ):=by walk_at "sc"
abbrev nI:Stmt:=top 6
def qxc:q0m ["scheme"] ["scheme"] (aU nI):=by walk_at "sc"
abbrev nH:Stmt:=top 7
def scy2:q0m ["number","left","odd"] ["number"] (aU nH):=by walk_at "sc"
abbrev nG:Stmt:=top 8
def scy3:q0m ["scheme","room","bit","window","signs"] ["scheme","room","bit"] (aU nG):=by walk_at "sc"
abbrev lM:Stmt:=top 9
abbrev BY:List Str:=["scheme","number","signs","rows","row"]
abbrev uM:List Str:=["scheme","number","signs"]
def scy4:q0m BY uM (aU lM):=by walk_at "sc"
abbrev nC:Stmt:=top 11
def qxb:q0m ["scheme"] ["scheme"] (aU nC):=by walk_at "sc"
abbrev nB:Stmt:=top 12
def qxa:q0m ["scheme","size"] ["scheme","size"] (aU nB):=by walk_at "sc"
abbrev nA:Stmt:=top 13
def qx9:q0m ["scheme"] ["scheme"] (aU nA):=by walk_at "sc"
abbrev ny:Stmt:=top 14
def qx8:q0m ["scheme"] ["scheme"] (aU ny):=by walk_at "sc"
abbrev nu:Stmt:=top 15
def qx7:q0m ["scheme","size"] ["scheme","size"] (aU nu):=by walk_at "sc"
abbrev wX:Stmt:=top 16
def scya:q0m ["scheme","size","signs","places","number"] ["scheme","size"] (aU wX):=by walk_at "sc"
abbrev pV:Stmt:=dX (top 19) 0
def qt4:q0m ["self","bit"] ["self","bit"] (aU pV):=by walk_at "sc"
abbrev pW:Stmt:=dX (top 19) 2
def qt3:q0m ["self","bit"] ["self","bit"] (aU pW):=by walk_at "sc"
abbrev pX:Stmt:=dX (top 20) 1
def qt2:q0m ["self","bit"] ["self","bit"] (aU pX):=by walk_at "sc"
abbrev pY:Stmt:=dX (top 21) 0
def qt1:q0m ["self","zero","one"] ["self","zero","one"] (aU pY):=by walk_at "sc"
abbrev pZ:Stmt:=dX (top 21) 2
def qt0:q0m ["self","bit"] ["self","bit"] (aU pZ):=by walk_at "sc"
abbrev wY:Stmt:=top 22
def qsz:q0m ["told"] ["told"] (aU wY):=by walk_at "sc"
abbrev wZ:Stmt:=top 24
abbrev jS:List Str:=["scheme","size","heard"]
def scyk:q0m ["scheme","size","heard","places"] jS (aU wZ):=by walk_at "sc"
abbrev sZ:Stmt:=top 25
def qsy:q0m ["signs","bits"] ["signs","bits"] (aU sZ):=by walk_at "sc"
abbrev w6:Stmt:=top 26
abbrev Cm:List Str:=["scheme","size","heard","found","number","told"]
def scym:q0m Cm jS (aU w6):=by walk_at "sc"
abbrev xz:Stmt:=top 27
abbrev uO:List Str:=["scheme","number","signs","room","bit"]
def scyn:q0m ["scheme","number","signs","room","bit","led"] uO (aU xz):=by walk_at "sc"
abbrev xA:Stmt:=top 28
abbrev sj:List Str:=["scheme","number","signs","room","bits"]
def FA:q0m sj sj (aU xA):=by walk_at "sc"
abbrev xB:Stmt:=top 29
def scyp:q0m ["scheme","size","heard","found","number","signs","bits"] jS (aU xB):=by walk_at "sc"
abbrev xC:Stmt:=top 30
def scyq:q0m ["scheme","start","end"] ["scheme","start"] (aU xC):=by walk_at "sc"
abbrev xD:Stmt:=top 31
def scyr:q0m ["taken","behind","rest"] ["taken","behind"] (aU xD):=by walk_at "sc"
abbrev s9:Stmt:=top 32
def FF:q0m ["choices","behind","found"] ["choices","behind"] (aU s9):=by walk_at "sc"
abbrev xE:Stmt:=top 33
def scyt:q0m ["steps","ends","table","choices_by_room","behind"] ["steps","ends"] (aU xE):=by walk_at "sc"
abbrev p0:Stmt:=top 34
abbrev oF:List Str:=["scheme","size","heard","start"]
def qsx:q0m oF oF (aU p0):=by walk_at "sc"
abbrev xF:Stmt:=top 35
def scyv:q0m ["scheme","steps","tables","start"] ["scheme","steps"] (aU xF):=by walk_at "sc"
abbrev xG:Stmt:=top 37
abbrev oB:List Str:=["track","tables","number"]
def scyw:q0m ["track","tables","number","rest"] oB (aU xG):=by walk_at "sc"
abbrev tj:Stmt:=top 38
abbrev B7:List Str:=["bits","tracks","tables","number","alive"]
abbrev uL:List Str:=["bits","tracks","tables"]
def scyx:q0m B7 uL (aU tj):=by walk_at "sc"
abbrev xH:Stmt:=top 39
abbrev si:List Str:=["track","bit","choices_by_room"]
def scyy:q0m ["track","bit","choices_by_room","taken"] si (aU xH):=by walk_at "sc"
abbrev xI:Stmt:=top 40
abbrev uU:List Str:=["begun","bit","choices_by_room","tables"]
def FH:q0m ["begun","bit","choices_by_room","tables","tracks"] uU (aU xI):=by walk_at "sc"
abbrev xJ:Stmt:=top 41
def qsw:q0m ["found","most"] ["found","most"] (aU xJ):=by walk_at "sc"
abbrev pU:Stmt:=top 42
abbrev sh:List Str:=["scheme","size","heard","most"]
abbrev CZ:List Str:=["scheme","size","heard","most","steps","tables","found","choices_by_room","longer","begun","@t"]
def sc_few:q0m CZ sh (aU pU):=by walk_at "sc"
abbrev xK:Stmt:=top 44
def qsv:q0m ["_law_script","_law_k"] ["_law_script","_law_k"] (aU xK):=by walk_at "sc"
abbrev xM:Stmt:=top 45
def qsu:q0m ["_law_cell","_law_k"] ["_law_cell","_law_k"] (aU xM):=by walk_at "sc"
abbrev xN:Stmt:=top 46
abbrev pB:List Str:=["_law_state_here","_law_many"]
def qst:q0m pB pB (aU xN):=by walk_at "sc"
abbrev xO:Stmt:=top 47
abbrev uY:List Str:=["_law_state_here","_law_most","_law_endings"]
abbrev CT:List Str:=["_law_state_here","_law_most","_law_endings","_law_reach","_law_taps","_law_lines","_law_k"]
def scyE:q0m CT uY (aU xO):=by walk_at "sc"
abbrev xP:Stmt:=top 48
def scyF:q0m ["_law_number","_law_odd_here"] ["_law_number"] (aU xP):=by walk_at "sc"
abbrev tm:Stmt:=top 49
abbrev CU:List Str:=["_law_scheme_here","_law_number","_law_room","_law_bit","_law_both","_law_signs","_law_line"]
abbrev u6:List Str:=["_law_scheme_here","_law_number","_law_room","_law_bit"]
def scyG:q0m CU u6 (aU tm):=by walk_at "sc"
abbrev xQ:Stmt:=top 50
abbrev oE:List Str:=["_law_scheme_here","_law_word"]
def scyH:q0m ["_law_scheme_here","_law_word","_law_room","_law_bit"] oE (aU xQ):=by walk_at "sc"
abbrev xR:Stmt:=top 51
def scyI:q0m ["_law_scheme_here","_law_word","_law_bits","_law_room","_law_found","_law_number","_law_signs"] oE (aU xR):=by walk_at "sc"
abbrev xS:Stmt:=top 52
abbrev uN:List Str:=["_law_cell","_law_k","_law_bit"]
def scyJ:q0m ["_law_cell","_law_k","_law_bit","_law_mixed","_law_way"] uN (aU xS):=by walk_at "sc"
abbrev xT:Stmt:=top 53
abbrev uW:List Str:=["_law_script","_law_scheme_here","_law_word"]
def scyK:q0m ["_law_script","_law_scheme_here","_law_word","_law_found","_law_k","_law_bit"] uW (aU xT):=by walk_at "sc"
abbrev xU:Stmt:=top 54
def qss:q0m ["_law_told","_law_bit"] ["_law_told","_law_bit"] (aU xU):=by walk_at "sc"
abbrev tu:Stmt:=top 55
abbrev pE:List Str:=["_law_scheme_here","_law_word","_law_heard_here"]
def qsr:q0m pE pE (aU tu):=by walk_at "sc"
abbrev xV:Stmt:=top 56
def qsq:q0m ["_law_found"] ["_law_found"] (aU xV):=by walk_at "sc"
abbrev xW:Stmt:=top 57
abbrev sg:List Str:=["_law_found","_law_size"]
def FJ:q0m sg sg (aU xW):=by walk_at "sc"
abbrev xX:Stmt:=top 58
abbrev u9:List Str:=["_law_found","_law_scheme_here","_law_size","_law_heard_here"]
def scyP:q0m ["_law_found","_law_scheme_here","_law_size","_law_heard_here","_law_told"] u9 (aU xX):=by walk_at "sc"
abbrev xY:Stmt:=top 59
abbrev uZ:List Str:=["_law_scheme_here","_law_heard_here","_law_steps"]
def scyQ:q0m ["_law_scheme_here","_law_heard_here","_law_steps","_law_found","_law_spot","_law_number","_law_many"] uZ (aU xY):=by walk_at "sc"
abbrev tw:Stmt:=top 60
abbrev vh:List Str:=["_law_scheme_here","_law_number","_law_signs","_law_room","_law_bit"]
abbrev CY:List Str:=["_law_scheme_here","_law_number","_law_signs","_law_room","_law_bit","_law_there","_law_made"]
def scyR:q0m CY vh (aU tw):=by walk_at "sc"
abbrev xZ:Stmt:=top 61
abbrev vq:List Str:=["_law_scheme_here","_law_parts","_law_table","_law_start_here","_law_bits","_law_size"]
def scyS:q0m ["_law_scheme_here","_law_parts","_law_table","_law_start_here","_law_bits","_law_size","_law_room","_law_total_here","_law_number","_law_price_here","_law_word","_law_there","_law_bit"] vq (aU xZ):=by walk_at "sc"
abbrev tx:Stmt:=top 62
abbrev CM:List Str:=["_law_words","_law_size","_law_found","_law_word","_law_number","_law_bits"]
abbrev uK:List Str:=["_law_words","_law_size"]
def scyT:q0m CM uK (aU tx):=by walk_at "sc"
abbrev tz:Stmt:=top 63
abbrev Do:List Str:=["_law_scheme_here","_law_size","_law_heard_here","_law_told","_law_starts","_law_steps","_law_parts","_law_start_here","_law_table","_law_words","_law_bits","_law_other"]
abbrev u8:List Str:=["_law_scheme_here","_law_size","_law_heard_here","_law_told"]
def scyU:q0m Do u8 (aU tz):=by walk_at "sc"
abbrev wW:Stmt:=top 64
abbrev Dl:List Str:=["_law_script","_law_first_here","_law_scheme_here","_law_second","_law_size","_law_heard_here","_law_most","_law_found","_law_one","_law_other","@t"]
def sc_law:q0m Dl ["_law_script"] (aU wW):=by walk_at "sc"
set_option genInjectivity false in
structure Ad where
 (c_Clear c_Gap c_Soft fy0 fy1 fy2 fy3 fy4 fy5 fy6 fy7 fy8 fy9 fya fyb fyd fyf fyg fyi fyj fyk fyl fym fyn fyo fyp fyq fyr fys fyt fyu fyv fyw fyx fyy fyz fyA f_few fyB fyC fyD fyE fyF fyG fyH fyI fyJ fyK fyL fyM fyN fyO fyP fyQ fyR fyS fyT fyU f_law tyA cyA:Addr)
 (fdy0 fdy1 fdy2 fdy3 fdy4 fdy5 fdy6 fdy7 fdy8 fdy9 fdya fdyb fdyd fdyf fdyg fdyi fdyj fdyk fdyl fdym fdyn fdyo fdyp fdyq fdyr fdys fdyt fdyu fdyv fdyw fdyx fdyy fdyz fdyA fd_few fdyB fdyC fdyD fdyE fdyF fdyG fdyH fdyI fdyJ fdyK fdyL fdyM fdyN fdyO fdyP fdyQ fdyR fdyS fdyT fdyU fd_law:FuncData)
structure Df(K:aq)(mg:Za)(x:Str)(s:Stmt)(f:Addr)(fd:FuncData)(ps:Zj):Prop where
 F:Fun K x x s f fd
 B:Binds K fd ps []
 m:mg x=some (.ref f)
section
open PySem.Spec PyProof.Rows
variable{P:Program}{w:World}{K:aq}{mg:Za}{base:Heap}
def bj{X:Cx}{k:Nat}{x:Str}{st:Stmt}{f:Addr}{fd:FuncData}{ps:Zj}{sp:Sp}{e:Expr}{es:Zi}{t:TA}{p pos:Pos}(F:FnOk X.prog X.w X.K X.mg X.base bJ k f fd ps sp)(hr:Room k X.A)(D:Df X.K X.mg x st f fd ps)(ha:PA X (e::es) t)(hg:Gl X x:=by rfl)(hdb:(x==("__debug__":Str))=false:=by decide)(he:starEach (e::es) X.env=(false,eval e X.env)::starEach es X.env:=by rfl)(hpl:(backTo pos (starEach es X.env)).any (·.1)=false:=by rfl):PE X (.Call (.Name x p) (e::es) [] pos) (oI sp [] E0 t):=zL F hr hg D.m D.F.kp D.B .nil mF ha hdb he hpl
def cy{x qual:Str}{st:Stmt}{f:Addr}{fd:FuncData}{N ps:Zj}{k n m:Nat}{fr:Bool}{b:aA->Option Out}(F:Fun K x qual st f fd)(S:q0m N ps (aU st))(hb:∀(cdv:Value) (A:Around) (outer:List Env) (s:Shared) (H:Hp) (E:XK),Room k (A.deeper (envOfC qual (aU st) s.heap.objs.size f cdv))->∃t,PSs (ff bJ P w K mg base N qual (aU st) f cdv A outer s H E).nox (fH st) t/\MS ⟨K,fr,[],[]⟩ [] [] t b)(hn:n=ps.length:=by rfl)(hm:m=N.length:=by rfl):FnOk P w K mg base bJ (k+1) f fd ps (cc K fr n (aH fr n m b)):=by
 subst hn hm;exact F.ok S (λ_ _ _ _ h=>h.1) λcdv A outer s H vs Q E hr h=>by let⟨t,h1,h2⟩:=hb cdv A outer s H E hr;exact⟨t,h1,IJ h2 h⟩
end
structure Txt(K:aq)(mg:Za)(a:Ad):Prop where
 mg_Clear:mg "Clear"=some (.ref a.c_Clear)
 ns_Clear:W.nsIn K mainGlobals "Clear"=some (some (.ref a.c_Clear))
 cl_Clear:Cls K a.c_Clear
 no_Clear_bit:NoAttr K a.c_Clear "bit"
 mg_Gap:mg "Gap"=some (.ref a.c_Gap)
 ns_Gap:W.nsIn K mainGlobals "Gap"=some (some (.ref a.c_Gap))
 cl_Gap:Cls K a.c_Gap
 mg_Soft:mg "Soft"=some (.ref a.c_Soft)
 ns_Soft:W.nsIn K mainGlobals "Soft"=some (some (.ref a.c_Soft))
 cl_Soft:Cls K a.c_Soft
 no_Soft_zero:NoAttr K a.c_Soft "zero"
 no_Soft_one:NoAttr K a.c_Soft "one"
 Dy0:Df K mg "rooms_at" nJ a.fy0 a.fdy0 ["reach"]
 Dy1:Df K mg "rooms" nI a.fy1 a.fdy1 ["scheme"]
 Dy2:Df K mg "parity" nH a.fy2 a.fdy2 ["number"]
 Dy3:Df K mg "step" nG a.fy3 a.fdy3 ["scheme","room","bit"]
 Dy4:Df K mg "sent_at" lM a.fy4 a.fdy4 uM
 Dy5:Df K mg "is_ring" nC a.fy5 a.fdy5 ["scheme"]
 Dy6:Df K mg "check_size" nB a.fy6 a.fdy6 ["scheme","size"]
 Dy7:Df K mg "bits_behind" nA a.fy7 a.fdy7 ["scheme"]
 Dy8:Df K mg "first_rooms" ny a.fy8 a.fdy8 ["scheme"]
 Dy9:Df K mg "steps_of" nu a.fy9 a.fdy9 ["scheme","size"]
 Dya:Df K mg "places_of" wX a.fya a.fdya ["scheme","size"]
 Fyb:Fun K "__init__" "Clear.__init__" pV a.fyb a.fdyb
 Byb:Binds K a.fdyb ["self","bit"] []
 Fyd:Fun K "cost" "Clear.cost" pW a.fyd a.fdyd
 Byd:Binds K a.fdyd ["self","bit"] []
 myd:Meth K a.c_Clear "cost" a.fyd
 Fyf:Fun K "cost" "Gap.cost" pX a.fyf a.fdyf
 Byf:Binds K a.fdyf ["self","bit"] []
 myf:Meth K a.c_Gap "cost" a.fyf
 Fyg:Fun K "__init__" "Soft.__init__" pY a.fyg a.fdyg
 Byg:Binds K a.fdyg ["self","zero","one"] []
 Fyi:Fun K "cost" "Soft.cost" pZ a.fyi a.fdyi
 Byi:Binds K a.fdyi ["self","bit"] []
 myi:Meth K a.c_Soft "cost" a.fyi
 Dyj:Df K mg "sign_of" wY a.fyj a.fdyj ["told"]
 Dyk:Df K mg "check_heard" wZ a.fyk a.fdyk jS
 Dyl:Df K mg "signs_cost" sZ a.fyl a.fdyl ["signs","bits"]
 Dym:Df K mg "signs_by_step" w6 a.fym a.fdym jS
 Dyn:Df K mg "move" xz a.fyn a.fdyn uO
 Dyo:Df K mg "moves_from" xA a.fyo a.fdyo sj
 Dyp:Df K mg "moves" xB a.fyp a.fdyp jS
 Dyq:Df K mg "end_costs" xC a.fyq a.fdyq ["scheme","start"]
 Dyr:Df K mg "cost_by" xD a.fyr a.fdyr ["taken","behind"]
 Dys:Df K mg "least_by" s9 a.fys a.fdys ["choices","behind"]
 Dyt:Df K mg "ahead_by" xE a.fyt a.fdyt ["steps","ends"]
 Fyu:FunD K "ahead" "ahead" p0 a.fyu a.fdyu
 Byu:Binds K a.fdyu oF []
 mgyu:mg "ahead"=some (.ref a.fyu)
 Dyv:Df K mg "ahead_by_start" xF a.fyv a.fdyv ["scheme","steps"]
 Dyw:Df K mg "cost_of_track" xG a.fyw a.fdyw oB
 Dyx:Df K mg "beginning" tj a.fyx a.fdyx uL
 Dyy:Df K mg "track_on" xH a.fyy a.fdyy si
 Dyz:Df K mg "beginning_on" xI a.fyz a.fdyz uU
 DyA:Df K mg "first_ones" xJ a.fyA a.fdyA ["found","most"]
 F_few:FunD K "few" "few" pU a.f_few a.fd_few
 B_few:Binds K a.fd_few sh []
 mg_few:mg "few"=some (.ref a.f_few)
 DyB:Df K mg "_law_cell_at" xK a.fyB a.fdyB ["_law_script","_law_k"]
 DyC:Df K mg "_law_state" xM a.fyC a.fdyC ["_law_cell","_law_k"]
 DyD:Df K mg "_law_next" xN a.fyD a.fdyD pB
 DyE:Df K mg "_law_scheme" xO a.fyE a.fdyE uY
 DyF:Df K mg "_law_odd" xP a.fyF a.fdyF ["_law_number"]
 DyG:Df K mg "_law_step" tm a.fyG a.fdyG u6
 DyH:Df K mg "_law_start" xQ a.fyH a.fdyH oE
 DyI:Df K mg "_law_sent" xR a.fyI a.fdyI oE
 DyJ:Df K mg "_law_sign" xS a.fyJ a.fdyJ uN
 DyK:Df K mg "_law_heard" xT a.fyK a.fdyK uW
 DyL:Df K mg "_law_price" xU a.fyL a.fdyL ["_law_told","_law_bit"]
 DyM:Df K mg "_law_total" tu a.fyM a.fdyM pE
 DyN:Df K mg "_law_whole" xV a.fyN a.fdyN ["_law_found"]
 DyO:Df K mg "_law_is_word" xW a.fyO a.fdyO sg
 DyP:Df K mg "_law_rows" xX a.fyP a.fdyP u9
 DyQ:Df K mg "_law_by_steps" xY a.fyQ a.fdyQ uZ
 DyR:Df K mg "_law_gone" tw a.fyR a.fdyR vh
 DyS:Df K mg "_law_first" xZ a.fyS a.fdyS vq
 DyT:Df K mg "_law_leaving" tx a.fyT a.fdyT uK
 DyU:Df K mg "_law_none_ahead" tz a.fyU a.fdyU u8
 D_law:Df K mg "law" wW a.f_law a.fd_law ["_law_script"]
 mk_Clear:Mk K a.c_Clear a.fyb
 mk_Gap:MkN K a.c_Gap
 mk_Soft:Mk K a.c_Soft a.fyg
 cdyA:a.fdyA.code=.ref a.cyA
 chyA:∀h:Heap,K.In h->W.CodeHd h a.cyA a.tyA
 btyA:∀h:Heap,K.In h->h.BuiltinsAt mg a.tyA
 z_all:mg "all"=none
 z_bool:mg "bool"=none
 z_enumerate:mg "enumerate"=none
 z_int:mg "int"=none
 z_isinstance:mg "isinstance"=none
 z_len:mg "len"=none
 z_list:mg "list"=none
 z_max:mg "max"=none
 z_min:mg "min"=none
 z_range:mg "range"=none
 z_reversed:mg "reversed"=none
 z_sorted:mg "sorted"=none
 z_sum:mg "sum"=none
 z_tuple:mg "tuple"=none
 z_zip:mg "zip"=none
 kb_bool:fE K "bool" (gN "bool")
 kb_int:fE K "int" (gN "int")
 kb_list:fE K "list" (gN "list")
 kb_tuple:fE K "tuple" (gN "tuple")
def qln{K:aq}{mg:Za}{a:Ad}(T:Txt K mg a):fE K "bool" (gN "bool"):=T.kb_bool
def qqe{K:aq}{mg:Za}{a:Ad}(T:Txt K mg a):fE K "int" (gN "int"):=T.kb_int
def GV{K:aq}{mg:Za}{a:Ad}(T:Txt K mg a):fE K "list" (gN "list"):=T.kb_list
def qj2{K:aq}{mg:Za}{a:Ad}(T:Txt K mg a):fE K "tuple" (gN "tuple"):=T.kb_tuple
local macro_rules|`(tactic|walk_at "og")=>`(tactic|first|exact gF|exact mV|exact oY|exact Gp|exact Fc|exact Fb|exact qh|exact qv3|exact qv1|exact qv2|exact qtx)
local macro_rules|`(tactic|walk_at "os")=>`(tactic|first|exact sQ|exact fK|exact pQ|exact qtu|exact yo|exact Fo)
local macro_rules|`(tactic|walk_at "cs")=>`(tactic|first|exact kO|exact wD|exact EU|exact EV)
local macro_rules|`(tactic|walk_at "m")=>`(tactic|repeat' (first|(with_reducible first|exact aG|exact gH|exact bq|apply aC|exact me_int|refine dq (by walk_at "og") ?_ ?_|exact oV|apply fA|refine gO (by walk_at "os") ?_ ?_|apply ii|apply dD|exact cD|apply oW|apply iz|refine gR (by walk_at "cs") ?_|apply kR|exact jX|exact me_non|exact D2|apply qG|apply mU|apply mT|apply pP|apply tG|apply vP|apply ud|exact tY|apply tZ|apply oX|apply iB|apply i4|apply e8|exact i6|apply ME.mb)|exact cz|apply fA|decide))
section
open PySem.Spec PyProof.Rows
def jp{X:Cx}{elt zd:Expr}{scope:Scope}{pos xp:Pos}{x:Str}{N0 ps:Zj}{sc:Scope}{wi:TI}{te:TE}(_S:q0m N0 ps sc)(N:Zj)(js:Zg)(hi:PI X (.Name x xp) zd wi)(he:∀{s H C cl fp},PE (dJ X N scope s H C cl fp) elt te)(hc:X.calm=true:=by rfl)(hsc:X.env.scope=sc:=by rfl)(hN0:X.N=N0:=by rfl)(ok:fM sc N0 N 1 js scope=true:=by decide+kernel)(hnd:N.Nodup:=by decide+kernel)(h0:N[0]? =some x:=by rfl)(hx:∀{s H C cl fp},kH (dJ X N scope s H C cl fp).env.scope x:=by exact Or.inl rfl)(hf:∀{s H C cl fp},(dJ X N scope s H C cl fp).fn x=true∨(dJ X N scope s H C cl fp).env.scope.names.lookup x=some .local:=by first|exact .inl rfl|exact .inr rfl)(hs:∀x,foldedSetIterable zd X.env x=pure x:=by intro _;rfl):PE X (.ListComp elt [⟨.Name x xp,zd,[],0⟩] scope pos) (p7 1 js wi (gE 0) iI te):=mr hc hsc hN0 ok hi (λ_ _ _ _ _=>gr (i:=0) hnd h0 hx hf) (pf (by decide)) (λ_ _ _ _ _=>qt) (λ_ _ _ _ _=>he) hs
def mG{X:Cx}{elt zd:Expr}{scope:Scope}{pos xp py zz:Pos}{x y:Str}{N0 ps:Zj}{sc:Scope}{wi:TI}{te:TE}(k:Nat)(S:q0m N0 ps sc)(N:Zj)(js:Zg)(hi:PI X (.Name x xp) zd wi)(he:∀{s H C cl fp},PE (dJ X N scope s H C cl fp) elt te)(hc:X.calm=true:=by rfl)(hsc:X.env.scope=sc:=by rfl)(hN0:X.N=N0:=by rfl)(ok:fM sc N0 N 1 js scope=true:=by decide+kernel)(hnd:N.Nodup:=by decide+kernel)(h0:N[0]? =some x:=by rfl)(hx:∀{s H C cl fp},kH (dJ X N scope s H C cl fp).env.scope x:=by exact Or.inl rfl)(hf:∀{s H C cl fp},(dJ X N scope s H C cl fp).fn x=true∨(dJ X N scope s H C cl fp).env.scope.names.lookup x=some .local:=by first|exact .inl rfl|exact .inr rfl)(hk:X.N[k]? =some y:=by rfl)(hy:kH X.env.scope y:=by exact Or.inl rfl)(hsw:swapsWith (.ListComp elt [⟨.Name x xp,zd,[],0⟩] scope pos) (some (.Name y py)) zz.line X.env=pure true:=by rfl)(hs:∀x,foldedSetIterable zd X.env x=pure x:=by intro _;rfl)(hf2:X.fn y=true∨X.env.scope.names.lookup y=some .local:=by first|exact .inl rfl|exact .inr rfl):PS X (.Assign [.Name y py] (.ListComp elt [⟨.Name x xp,zd,[],0⟩] scope pos) zz) (sS k 1 js wi (gE 0) iI te):=yu hc hsc hN0 ok (hN0▸S.nd) hk hy hi (λ_ _ _ _ _=>gr (i:=0) hnd h0 hx hf) (pf (by decide)) (λ_ _ _ _ _=>qt) (λ_ _ _ _ _=>he) hsw hs hf2
end
section
variable{P:Program}{w:World}{K:aq}{mg:Za}{base:Heap}{a:Ad}
def oq:aD:=
 (az (af bQ (ae (.int 1)) (aa 0)))
def fy0:List D->Option D:=aH false 1 1 oq
def ny0:b8 1 fy0:=cz
def qxo(T:Txt K mg a):FnOk P w K mg base bJ 1 a.fy0 a.fdy0 ["reach"] (cc K false 1 fy0):=by
 exact cy T.Dy0.F qxd λ_ _ _ _ _ _ hr=>⟨_,(aQ (bM (bc oZ ax (pv 0)))),by unfold oq;exact(bW rfl (dq qh me_int (aG (i:=0))) rfl)⟩
def oo:aD:=
 (az (aS fy0 (ak (af bd (aa 0) (ae (.int 0))) ag)))
def fy1:List D->Option D:=aH false 1 1 oo
def nR:b8 1 fy1:=cz
def pJ(T:Txt K mg a):FnOk P w K mg base bJ 2 a.fy1 a.fdy1 ["scheme"] (cc K false 1 fy1):=by
 exact cy T.Dy1.F qxc λ_ _ _ _ _ _ hr=>⟨_,(aQ (bM (bj (qxo T) hr.m T.Dy0 (aj (aX (a9 (K:=K) rfl) (pv 0) ax) av)))),by unfold oo;refine(bW rfl ?_ rfl)<;>walk_at "m"⟩
abbrev vx:=(am (aw 2 (af rV (aa 2) (af nY (aa 1) (ae (.int 1))))) (aw 1 (af gB (aa 1) (ae (.int 2)))))
abbrev uQ:=(bh (af uB (aa 1) (ae (.int 0))))
def om:aD:=
 (am (aw 1 (aa 0))
 (am (aw 2 (ae (.int 0)))
 (am (ik uQ
   vx 1000)
 (az (aa 2)))))
def fy2:List D->Option D:=aH false 1 3 om
def ny2:b8 1 fy2:=cz
def qxn(T:Txt K mg a):FnOk P w K mg base bJ 1 a.fy2 a.fdy2 ["number"] (cc K false 1 fy2):=by
 exact cy T.Dy2.F scy2 λ_ _ _ _ _ _ hr=>⟨_,(aI (bD 1 scy2.nd (pv 0)) (aI (bD 2 scy2.nd ax) (aI (Hd x8 (cA sO (pv 1) ax (cu)) (aI (bD 2 scy2.nd (bc qtv (pv 2) (bc wN (pv 1) ax))) (aQ (bD 1 scy2.nd (bc mZ (pv 1) ax))))) (aQ (bM (pv 2)))))),by unfold om;refine(aM (O1:=[]) (bX ?_) (aM (O1:=[]) (bX ?_) (aM (O1:=[]) (G3 (O':=[]) ?_ rfl (aM (O1:=[]) (bX ?_) (bX ?_))) (bW rfl ?_ rfl))))<;>walk_at "m"⟩
abbrev pC:=(ak (af nY (aa 1) (aa 0)) ag)
abbrev uR:=(bz (af bd (aa 0) (ae (.int 1))))
def ol:aD:=
 (am (aw 3 (af bN (af ie (ae (.int 2)) (aa 1)) (aa 2)))
 (am (aw 4 (br (cI 1 [3] none uR (ai 0) (ae true) (aS fy2 pC))))
 (az (ca (ak (af b7 (aa 3) (aS fy1 (ak (aa 0) ag))) (ak (aK mz (aa 4)) ag))))))
def fy3:List D->Option D:=aH false 3 5 ol
def ny3:b8 3 fy3:=cz
def D9(T:Txt K mg a):FnOk P w K mg base bJ 3 a.fy3 a.fdy3 ["scheme","room","bit"] (cc K false 3 fy3):=by
 exact cy T.Dy3.F scy3 λ_ _ _ _ _ _ hr=>⟨_,(aI (bD 3 scy3.nd (bc (dO (K:=K) rfl) (bc (jG (K:=K) rfl) ax (pv 1)) (pv 2))) (aI (mG 4 scy3 ["tap","window"] [3] (fy (K:=K) rfl (aX (a9 (K:=K) rfl) (pv 0) ax)) (bj (qxn T) hr.m T.Dy2 (aj (bc wN (pv 1) (pv 0)) av))) (aQ (bM (f6 (aj (bc fw (pv 3) (bj (pJ T) hr.m T.Dy1 (aj (pv 0) av))) (aj (jJ (qJ (K:=K) rfl) (by rfl) T.z_tuple (by rfl) (aj (pv 4) av)) av))))))),by unfold ol;refine(aM (O1:=[]) (bX ?_) (aM (O1:=[]) (o6 ?_ rfl (by decide)) (bW rfl (oW (aC (dq oY (aG (i:=3)) (fA nR (aC (aG (i:=0)) bq))) (aC (qB qx (aG (i:=4))) bq))) rfl)))<;>walk_at "m"⟩
def oj:aD:=
 (am (aw 3 (af bd (aa 0) (ae (.int 2))))
 (am (aw 4 (af bd (aa 3) (af b7 (aa 1) (aK cr (aa 3)))))
 (az (aK mz (br (cI 2 [] none (fD (ak (aa 2) (ak (aa 4) ag))) (cY 2 (bE (ai 0) (bE (ai 1) c7))) (bh (af eK (aa 1) (ae (.int 1)))) (aa 0)))))))
def fy4:List D->Option D:=aH false 3 5 oj
def AX:b8 3 fy4:=cz
def Ee(T:Txt K mg a):FnOk P w K mg base bJ 1 a.fy4 a.fdy4 uM (cc K false 3 fy4):=by
 exact cy T.Dy4.F scy4 λ_ _ _ _ _ _ hr=>⟨_,(aI (bD 3 scy4.nd (aX (a9 (K:=K) rfl) (pv 0) ax)) (aI (bD 4 scy4.nd (aX (a9 (K:=K) rfl) (pv 3) (bc fw (pv 1) (dw (fP (K:=K) rfl) (by rfl) T.z_len (by rfl) (aj (pv 3) av))))) (aQ (bM (jJ (qJ (K:=K) rfl) (by rfl) T.z_tuple (by rfl) (aj (mr (sc:=aU lM) (N0:=BY) rfl rfl rfl (show fM _ _ ["sign","chosen"] 2 [] _=true by decide+kernel) (o7 (K:=K) rfl (by rfl) T.z_zip (aj (pv 2) (aj (pv 4) av))) (λ_ _ _ _ _=>(iC (K:=K) rfl rfl (eJ (gr (i:=0) (show List.Nodup (["sign","chosen"]:Zj)from(by decide+kernel)) rfl (Or.inl rfl)) (eJ (gr (i:=1) (show List.Nodup (["sign","chosen"]:Zj)from(by decide+kernel)) rfl (Or.inl rfl)) iD)))) (qC (by decide) (by decide)) (λ_ _ _ _ _=>(o8 (cA (eQ (K:=K) rfl hr.units) (pv 1) ax (cu)))) (λ_ _ _ _ _=>(pv 0))) av)))))),by unfold oj;refine(aM (O1:=[]) (bX ?_) (aM (O1:=[]) (bX ?_) (bW rfl (qB qx (dD (iB (bw:=none) (oX (aC (aG (i:=2)) (aC (aG (i:=4)) bq))) (i4 (e8 (cD (i:=0)) (e8 (cD (i:=1)) i6))) (ii (gO fK (aG (i:=1)) me_int.mb)) (aG (i:=0))))) rfl)))<;>walk_at "m"⟩
abbrev oG:=(af eK (af bd (aa 0) (ae (.int 3))) (ae (.str "ring")))
def oh:aD:=
 (az oG)
def fy5:List D->Option D:=aH false 1 1 oh
def AW:b8 1 fy5:=cz
def vU(T:Txt K mg a):FnOk P w K mg base bJ 1 a.fy5 a.fdy5 ["scheme"] (cc K false 1 fy5):=by
 exact cy T.Dy5.F qxb λ_ _ _ _ _ _ hr=>⟨_,(aQ (bM (yq (eQ (K:=K) rfl hr.units) (aX (a9 (K:=K) rfl) (pv 0) ax) eU (cu)))),by unfold oh;refine(bW rfl ?_ rfl)<;>walk_at "m"⟩
def og:aD:=
 (bY (dh (bh (aS fy5 (ak (aa 0) ag))) (bh (af uA (aa 1) (af bd (aa 0) (ae (.int 0))))))
   (λ_=>none)
   aJ)
def fy6:List D->Option D:=aH false 2 2 og
def ny6:b8 2 fy6:=cz
def qxm(T:Txt K mg a):FnOk P w K mg base bJ 2 a.fy6 a.fdy6 ["scheme","size"] (cc K false 2 fy6):=by
 exact cy T.Dy6.F qxa λ_ _ _ _ _ _ hr=>⟨_,(aQ (dQ (PW.pt (fq (kW (bj (vU T) hr.m T.Dy5 (aj (pv 0) av))) (e7 (cA sP (pv 1) (aX (a9 (K:=K) rfl) (pv 0) ax) (cu))))) (aQ Hc) dU)),by unfold og;refine(dP ?_ G1 (dR rfl))<;>walk_at "m"⟩
abbrev pG:=(bh (af eK (af bd (aa 0) (ae (.int 3))) (ae (.str "ended"))))
def oa:aD:=
 (az (jM pG (af bd (aa 0) (ae (.int 0))) (ae (.int 0))))
def fy7:List D->Option D:=aH false 1 1 oa
def ny7:b8 1 fy7:=cz
def qxl(T:Txt K mg a):FnOk P w K mg base bJ 1 a.fy7 a.fdy7 ["scheme"] (cc K false 1 fy7):=by
 exact cy T.Dy7.F qx9 λ_ _ _ _ _ _ hr=>⟨_,(aQ (bM (lh (cA (eQ (K:=K) rfl hr.units) (aX (a9 (K:=K) rfl) (pv 0) ax) eU (cu)) (aX (a9 (K:=K) rfl) (pv 0) ax) ax))),by unfold oa;refine(bW rfl ?_ rfl)<;>walk_at "m"⟩
def lX:aD:=
 (mQ (lS (bh (aS fy5 (ak (aa 0) ag))) (hZ e9 (aS fy1 (ak (aa 0) ag))) (aW (ak (ae (.int 0)) ag))))
def fy8:List D->Option D:=aH true 1 1 lX
def AV:b8 1 fy8:=cz
def qxk(T:Txt K mg a):FnOk P w K mg base bJ 3 a.fy8 a.fdy8 ["scheme"] (cc K true 1 fy8):=by
 exact cy T.Dy8.F qx8 λ_ _ _ _ _ _ hr=>⟨_,(aQ (bM (lh (kW (bj (vU T) hr.m T.Dy5 (aj (pv 0) av))) (Gv rfl (by rfl) T.z_list (by rfl) T.z_range (bj (pJ T) hr.m T.Dy1 (aj (pv 0) av))) (d8 (aj ax av))))),by unfold lX;exact(ym rfl (qy6 (mU (fA AW (aC (aG (i:=0)) bq))) (Gm (fA nR (aC (aG (i:=0)) bq))) (iz (aC me_int bq))) rfl)⟩
def n9:aD:=
 (am (mN (aS fy6 (ak (aa 0) (ak (aa 1) ag))))
 (az (af bN (aa 1) (aS fy7 (ak (aa 0) ag)))))
def fy9:List D->Option D:=aH false 2 2 n9
def AU:b8 2 fy9:=cz
def Eg(T:Txt K mg a):FnOk P w K mg base bJ 3 a.fy9 a.fdy9 ["scheme","size"] (cc K false 2 fy9):=by
 exact cy T.Dy9.F qx7 λ_ _ _ _ _ _ hr=>⟨_,(aI (iE (bj (qxm T) hr.m T.Dy6 (aj (pv 0) (aj (pv 1) av)))) (aQ (bM (bc (dO (K:=K) rfl) (pv 1) (bj (qxl T) hr.m T.Dy7 (aj (pv 0) av)))))),by unfold n9;refine(aM (O1:=[]) (Gn ?_ rfl) (bW rfl ?_ rfl))<;>walk_at "m"⟩
abbrev sy:=(aK cr (aS fy4 (ak (aa 0) (ak (aa 4) (ak (aa 2) ag)))))
abbrev Cb:=(iN 3 (eE (aW (ak (aa 4) ag)) sy))
abbrev Cv:=(gh (ak (aS fy9 (ak (aa 0) (ak (aa 1) ag))) ag))
def wa:aD:=
 (am (aw 2 (af bd (aS fy3 (ak (aa 0) (ak (ae (.int 0)) (ak (ae (.int 0)) ag)))) (ae (.int 1))))
 (am (cg 3 (aW ag))
 (am (bi Cv (ai 4)
   Cb)
 (jE 3))))
def fya:List D->Option D:=aH true 2 5 wa
def D3:b8 2 fya:=cz
def Fe(T:Txt K mg a):FnOk P w K mg base bJ 4 a.fya a.fdya ["scheme","size"] (cc K true 2 fya):=by
 exact cy T.Dya.F scya λ_ _ _ _ _ _ hr=>⟨_,(aI (bD 2 scya.nd (aX (a9 (K:=K) rfl) (bj (D9 T) hr.m T.Dy3 (aj (pv 0) (aj ax (aj ax av)))) ax)) (aI (bD 3 scya.nd (d8 av)) (aI (fF x8 rfl (i8 (by rfl) T.z_range (aj (bj (Eg T) hr.m T.Dy9 (aj (pv 0) (aj (pv 1) av))) av)) (dF 4 scya.nd) (aQ (iE (jC F.plainAttrs_list F.slot_list_extend F.type_list_extend qid (pv 3) (aj (bc wO (d8 (aj (pv 4) av)) (dw (fP (K:=K) rfl) (by rfl) T.z_len (by rfl) (aj (bj (Ee T) hr.m T.Dy4 (aj (pv 0) (aj (pv 4) (aj (pv 2) av)))) av))) av))))) (aQ (bM (pv 3)))))),by unfold wa;refine(aM (O1:=[]) (bX ?_) (aM (O1:=[3]) (iA ?_ rfl) (aM (O1:=[3]) (fN (O':=[3]) ?_ rfl (cD (i:=4)) (qvb (by decide) (wL (iz (aC (aG (i:=4)) bq)) (gR kO (fA AX (aC (aG (i:=0)) (aC (aG (i:=4)) (aC (aG (i:=2)) bq)))).mb)) rfl)) (t0 rfl (by first|decide|simp) rfl (by first|decide|simp)))))<;>walk_at "m"⟩
def qux(T:Txt K mg a):FnOk P w K mg base bJ 1 a.fyb a.fdyb ["self","bit"] (ya a.c_Clear ["bit"]):=by
 refine T.Fyb.ok qt4 (λvs H Q E h=>?_) (λcdv A outer s H vs Q E hr h=>?_)
 .obtain⟨x,dx,args,rfl,hl,_⟩:=h;exact congrArg Nat.succ hl
 .obtain⟨x,dx,args,rfl,hl,hx,k⟩:=h
  match args,hl,k with
  | [b0],_,k=>
   refine⟨_,(aQ (wR (pv 0) (pv 1) rfl)),?_⟩;refine⟨_,rfl,_,rfl,x,_,dx,_,rfl,hx,T.cl_Clear,T.no_Clear_bit,(by show 0<1000;decide),?_⟩;exact k
def wb:aD:=
 (az (jM (bh (af eK (aa 1) (iR "Clear" "bit" (aa 0)))) (ae (.int 0)) (ae (.int 1))))
def fyd:List D->Option D:=aH false 2 2 wb
def qy3:b8 2 fyd:=cz
def quw(T:Txt K mg a):FnOk P w K mg base bJ 1 a.fyd a.fdyd ["self","bit"] (cc K false 2 fyd):=by
 exact cy T.Fyd qt3 λ_ _ _ _ _ _ hr=>⟨_,(aQ (bM (lh (cA (eQ (K:=K) rfl hr.units) (pv 1) (yr (K:=K) rfl (pv 0) rfl) (cu)) ax ax))),by unfold wb;exact(bW rfl (vP (ii (gO fK (aG (i:=1)) (wI T.ns_Clear T.cl_Clear T.no_Clear_bit (aG (i:=0))).mb)) me_int me_int) rfl)⟩
def wc:aD:=
 (az (ae (.int 0)))
def fyf:List D->Option D:=aH false 2 2 wc
def qy2:b8 2 fyf:=cz
def quv(T:Txt K mg a):FnOk P w K mg base bJ 1 a.fyf a.fdyf ["self","bit"] (cc K false 2 fyf):=by
 exact cy T.Fyf qt2 λ_ _ _ _ _ _ hr=>⟨_,(aQ (bM ax)),by unfold wc;exact(bW rfl me_int rfl)⟩
def quu(T:Txt K mg a):FnOk P w K mg base bJ 1 a.fyg a.fdyg ["self","zero","one"] (ya a.c_Soft ["zero","one"]):=by
 refine T.Fyg.ok qt1 (λvs H Q E h=>?_) (λcdv A outer s H vs Q E hr h=>?_)
 .obtain⟨x,dx,args,rfl,hl,_⟩:=h;exact congrArg Nat.succ hl
 .obtain⟨x,dx,args,rfl,hl,hx,k⟩:=h
  match args,hl,k with
  | [b0,b1],_,k=>
   refine⟨_,(aI (wR (pv 0) (pv 1) rfl) (aQ (wR (pv 0) (pv 2) rfl))),?_⟩;refine⟨_,rfl,_,rfl,x,_,dx,_,rfl,hx,T.cl_Soft,T.no_Soft_zero,(by show 0<1000;decide),?_⟩;refine⟨_,rfl,_,rfl,x,_,dx,_,rfl,cT,T.cl_Soft,T.no_Soft_one,(by show 1<1000;decide),?_⟩;rw[GE];have e:(c5 "one" b1 (c5 "zero" b0 []))=([("zero",b0),("one",b1)]:List (Str×V)):=by
    have hne:¬(("zero":Str)="one"):=by decide+kernel
    simp[c5,hne]
   rw[e];exact k
def wd:aD:=
 (az (jM (bh (af eK (aa 1) (ae (.int 1)))) (iR "Soft" "one" (aa 0)) (iR "Soft" "zero" (aa 0))))
def fyi:List D->Option D:=aH false 2 2 wd
def qy1:b8 2 fyi:=cz
def qut(T:Txt K mg a):FnOk P w K mg base bJ 1 a.fyi a.fdyi ["self","bit"] (cc K false 2 fyi):=by
 exact cy T.Fyi qt0 λ_ _ _ _ _ _ hr=>⟨_,(aQ (bM (lh (cA (eQ (K:=K) rfl hr.units) (pv 1) ax (cu)) (yr (K:=K) rfl (pv 0) rfl) (yr (K:=K) rfl (pv 0) rfl)))),by unfold wd;exact(bW rfl (vP (ii (gO fK (aG (i:=1)) me_int.mb)) (wI T.ns_Soft T.cl_Soft T.no_Soft_one (aG (i:=0))) (wI T.ns_Soft T.cl_Soft T.no_Soft_zero (aG (i:=0)))) rfl)⟩
abbrev CD:=(bh (af eK (af bd (aa 0) (ae (.int 0))) (ae (.str "gap"))))
abbrev CJ:=(bh (af eK (af bd (aa 0) (ae (.int 0))) (ae (.str "clear"))))
abbrev Ca:=(ak (af bd (aa 0) (ae (.int 1))) ag)
def wg:aD:=
 (am (bY CJ
   (az (pN "Clear" ["bit"] Ca))
   aJ)
 (am (bY CD
   (az (wH "Gap"))
   aJ)
 (az (pN "Soft" ["zero","one"] (ak (af bd (aa 0) (ae (.int 1))) (ak (af bd (aa 0) (ae (.int 2))) ag))))))
def fyj:List D->Option D:=aH false 1 1 wg
def qy0:b8 1 fyj:=cz
def qus(T:Txt K mg a):FnOk P w K mg base bJ 3 a.fyj a.fdyj ["told"] (cc K false 1 fyj):=by
 have Gyb:=@qux P w K mg base a T;have Gyg:=@quu P w K mg base a T;exact cy T.Dyj.F qsz λ_ _ _ _ _ _ hr=>⟨_,(aI (dQ (cA (eQ (K:=K) rfl hr.units) (aX (a9 (K:=K) rfl) (pv 0) ax) eU (cu)) (aQ (bM (Gw T.mk_Clear Gyb hr.m (by rfl) T.mg_Clear T.Byb .nil mF (aj (aX (a9 (K:=K) rfl) (pv 0) ax) av)))) dU) (aI (dQ (cA (eQ (K:=K) rfl hr.units) (aX (a9 (K:=K) rfl) (pv 0) ax) eU (cu)) (aQ (bM (qkw T.mk_Gap (by rfl) T.mg_Gap))) dU) (aQ (bM (Gw T.mk_Soft Gyg hr.m (by rfl) T.mg_Soft T.Byg .nil mF (aj (aX (a9 (K:=K) rfl) (pv 0) ax) (aj (aX (a9 (K:=K) rfl) (pv 0) ax) av))))))),by unfold wg;refine(aM (O1:=[]) (dP ?_ (bW rfl (Gj T.ns_Clear (aC (dq gF (aG (i:=0)) me_int) bq)) rfl) (dR rfl)) (aM (O1:=[]) (dP ?_ (bW rfl (qle T.ns_Gap) rfl) (dR rfl)) (bW rfl (Gj T.ns_Soft (aC (dq gF (aG (i:=0)) me_int) (aC (dq gF (aG (i:=0)) me_int) bq))) rfl)))<;>walk_at "m"⟩
abbrev u0:=(br (i7 fya (ak (aa 0) (ak (aa 1) ag))))
def wj:aD:=
 (am (aw 3 u0)
 (bY (bh (af im (aK cr (aa 2)) (aK cr (aa 3))))
   (λ_=>none)
   aJ))
def fyk:List D->Option D:=aH false 3 4 wj
def qzb:b8 3 fyk:=cz
def qur(T:Txt K mg a):FnOk P w K mg base bJ 5 a.fyk a.fdyk jS (cc K false 3 fyk):=by
 exact cy T.Dyk.F scyk λ_ _ _ _ _ _ hr=>⟨_,(aI (bD 3 scyk.nd (bj (Fe T) hr.m T.Dya (aj (pv 0) (aj (pv 1) av)))) (aQ (dQ (cA (kU (K:=K) rfl hr.units) (dw (fP (K:=K) rfl) (by rfl) T.z_len (by rfl) (aj (pv 2) av)) (dw (fP (K:=K) rfl) (by rfl) T.z_len (by rfl) (aj (pv 3) av)) (cu)) (aQ Hc) dU))),by unfold wj;refine(aM (O1:=[]) (bX (dD (lg D3 (aC (aG (i:=0)) (aC (aG (i:=1)) bq))))) (dP ?_ G1 (dR rfl)))<;>walk_at "m"⟩
abbrev sA:=(iP (pd "Clear" "cost" fyd (aa 0) (ak (aa 1) ag)) (iP (pd "Gap" "cost" fyf (aa 0) (ak (aa 1) ag)) (pd "Soft" "cost" fyi (aa 0) (ak (aa 1) ag))))
def wk:aD:=
 (az (aK hG (br (cI 2 [] none (fD (ak (aa 0) (ak (aa 1) ag))) (cY 2 (bE (ai 0) (bE (ai 1) c7))) (ae true) sA))))
def fyl:List D->Option D:=aH false 2 2 wk
def qza:b8 2 fyl:=cz
def quq(T:Txt K mg a):FnOk P w K mg base bJ 2 a.fyl a.fdyl ["signs","bits"] (cc K false 2 fyl):=by
 have Gyi:=@qut P w K mg base a T;have Gyf:=@quv P w K mg base a T;have Gyd:=@quw P w K mg base a T;exact cy T.Dyl.F qsy λ_ _ _ _ _ _ hr=>⟨_,(aQ (bM (dw (yG (K:=K) rfl rfl) (by rfl) T.z_sum (by rfl) (aj (mr (sc:=aU sZ) (N0:=["signs","bits"]) rfl rfl rfl (show fM _ _ ["sign","bit"] 2 [] _=true by decide+kernel) (o7 (K:=K) rfl (by rfl) T.z_zip (aj (pv 0) (aj (pv 1) av))) (λ_ _ _ _ _=>(iC (K:=K) rfl rfl (eJ (gr (i:=0) (show List.Nodup (["sign","bit"]:Zj)from(by decide+kernel)) rfl (Or.inl rfl)) (eJ (gr (i:=1) (show List.Nodup (["sign","bit"]:Zj)from(by decide+kernel)) rfl (Or.inl rfl)) iD)))) (qC (by decide) (by decide)) (λ_ _ _ _ _=>qt) (λ_ _ _ _ _=>(PE.or (yt (pv 0) T.cl_Clear T.myd Gyd hr.m T.Byd .nil mF (aj (pv 1) av)) (PE.or (yt (pv 0) T.cl_Gap T.myf Gyf hr.m T.Byf .nil mF (aj (pv 1) av)) (yt (pv 0) T.cl_Soft T.myi Gyi hr.m T.Byi .nil mF (aj (pv 1) av)))))) av)))),by unfold wk;exact(bW rfl (gR wD (dD (iB (bw:=none) (oX (aC (aG (i:=0)) (aC (aG (i:=1)) bq))) (i4 (e8 (cD (i:=0)) (e8 (cD (i:=1)) i6))) jX (E8 (yl T.ns_Clear qy3 (aG (i:=0)) (aC (aG (i:=1)) bq)) (E8 (yl T.ns_Gap qy2 (aG (i:=0)) (aC (aG (i:=1)) bq)) (yl T.ns_Soft qy1 (aG (i:=0)) (aC (aG (i:=1)) bq)))))).mb) rfl)⟩
def oK:Fd:=
 (tE 3 (cY 2 (bE (ai 4) (bE (ai 5) c7))) (fD (ak u0 (ak (aa 2) ag)))
   (pe 3 (aa 4) (ak (aS fyj (ak (aa 5) ag)) ag)))
def oO:ba:=Cv
def qe:List D->Option (List (List D)):=mM 3 6 3 oO oK
def fym:List D->Option D:=λds=>oM (qe ds)
def qxz:b8 3 fym:=qp6
def qpp(T:Txt K mg a):FnOk P w K mg base bJ 5 a.fym a.fdym jS (vJ K 3 qe):=by
 refine T.Dym.F.ok scym (λvs H Q E h=>h.1) (λcdv A outer s H vs Q E hr h=>?_);refine⟨_,(aI (mG 3 scym ["number"] [] (i8 (by rfl) T.z_range (aj (bj (Eg T) hr.m T.Dy9 (aj (pv 0) (aj (pv 1) av))) av)) (d8 av)) (aI (fF x8 rfl (o7 (K:=K) rfl (by rfl) T.z_zip (aj (bj (Fe T) hr.m T.Dya (aj (pv 0) (aj (pv 1) av))) (aj (pv 2) av))) (iC (K:=K) rfl rfl (eJ (dF 4 scym.nd) (eJ (dF 5 scym.nd) iD))) (aQ (iE (jC F.plainAttrs_list F.slot_list_append F.type_list_append kB (aX (a9 (K:=K) rfl) (pv 3) (pv 4)) (aj (bj (qus T) hr.m T.Dyj (aj (pv 5) av)) av))))) (aQ (bM (pv 3))))),?_⟩;exact qg9 (Nms:=Cm) (i:=3) (m:=1) (js:=[]) (fi:=oO) (f:=oK) (by
  unfold oO;exact(qG (aC (fA AU (aC (aG (i:=0)) (aC (aG (i:=1)) bq))) bq))) (by
  unfold oK;exact(qlb (oX (aC (dD (lg D3 (aC (aG (i:=0)) (aC (aG (i:=1)) bq)))) (aC (aG (i:=2)) bq))) (i4 (e8 (cD (i:=4)) (e8 (cD (i:=5)) i6))) (by decide) (qet (aG (i:=4)) (aC (fA qy0 (aC (aG (i:=5)) bq)) bq)))) h
def qup(T:Txt K mg a):FnOk P w K mg base bJ 5 a.fym a.fdym jS (cc K false 3 fym):=(qpp T).imp λ_ _ _ _ h=>qx5 h
def wl:aD:=
 (am (aw 5 (aS fy3 (ak (aa 0) (ak (aa 3) (ak (aa 4) ag)))))
 (az (ca (ak (af bd (aa 5) (ae (.int 0))) (ak (aS fyl (ak (aa 2) (ak (aS fy4 (ak (aa 0) (ak (aa 1) (ak (af bd (aa 5) (ae (.int 1))) ag)))) ag))) ag)))))
def fyn:List D->Option D:=aH false 5 6 wl
def qz9:b8 5 fyn:=cz
def quo(T:Txt K mg a):FnOk P w K mg base bJ 4 a.fyn a.fdyn uO (cc K false 5 fyn):=by
 exact cy T.Dyn.F scyn λ_ _ _ _ _ _ hr=>⟨_,(aI (bD 5 scyn.nd (bj (D9 T) hr.m T.Dy3 (aj (pv 0) (aj (pv 3) (aj (pv 4) av))))) (aQ (bM (f6 (aj (aX (a9 (K:=K) rfl) (pv 5) ax) (aj (bj (quq T) hr.m T.Dyl (aj (pv 2) (aj (bj (Ee T) hr.m T.Dy4 (aj (pv 0) (aj (pv 1) (aj (aX (a9 (K:=K) rfl) (pv 5) ax) av)))) av))) av)))))),by unfold wl;refine(aM (O1:=[]) (bX ?_) (bW rfl ?_ rfl))<;>walk_at "m"⟩
abbrev sv:=(ak (aa 1) (ak (aa 2) (ak (aa 3) (ak (aa 4) (ak (aa 0) ag)))))
def wm:aD:=
 (az (br (cI 1 [0,1,2,3] none (bz (aa 4)) (ai 0) (ae true) (aS fyn sv))))
def fyo:List D->Option D:=aH false 5 5 wm
def qz8:b8 5 fyo:=cz
def qun(T:Txt K mg a):FnOk P w K mg base bJ 5 a.fyo a.fdyo sj (cc K false 5 fyo):=by
 exact cy T.Dyo.F FA λ_ _ _ _ _ _ hr=>⟨_,(aQ (bM (jp FA ["bit","scheme","number","signs","room"] [0,1,2,3] (fy (K:=K) rfl (pv 4)) (bj (quo T) hr.m T.Dyn (aj (pv 1) (aj (pv 2) (aj (pv 3) (aj (pv 4) (aj (pv 0) av))))))))),by unfold wm;refine(bW rfl ?_ rfl)<;>walk_at "m"⟩
abbrev CN:=(ak (aa 1) (ak (aa 2) (ak (aa 3) (ak (aa 0) (ak (aa 4) ag)))))
abbrev Da:=(aw 6 (jM (bh (af uA (aa 4) (aa 1))) (ca (ak (ae (.int 0)) (ak (ae (.int 1)) ag))) (ca (ak (ae (.int 0)) ag))))
abbrev Ce:=(gh (ak (aS fy1 (ak (aa 0) ag)) ag))
abbrev DE:=(am Da (cW f9 3 (ak (br (cI 1 [0,4,5,6] none Ce (ai 0) (ae true) (aS fyo CN))) ag)))
abbrev gJ:=(ak (aa 0) (ak (aa 1) (ak (aa 2) ag)))
def wo:aD:=
 (am (mN (aS fyk gJ))
 (am (cg 3 (aW ag))
 (am (bi (oS (aS fym gJ)) (cY 2 (bE (ai 4) (bE (ai 5) c7)))
   DE)
 (az (aa 3)))))
def fyp:List D->Option D:=aH false 3 7 wo
def qz7:b8 3 fyp:=cz
def Ff(T:Txt K mg a):FnOk P w K mg base bJ 6 a.fyp a.fdyp jS (cc K false 3 fyp):=by
 exact cy T.Dyp.F scyp λ_ _ _ _ _ _ hr=>⟨_,(aI (iE (bj (qur T) hr.m T.Dyk (aj (pv 0) (aj (pv 1) (aj (pv 2) av))))) (aI (bD 3 scyp.nd (d8 av)) (aI (fF x8 rfl (Gx (K:=K) rfl (by rfl) T.z_enumerate (bj (qup T) hr.m T.Dym (aj (pv 0) (aj (pv 1) (aj (pv 2) av))))) (iC (K:=K) rfl rfl (eJ (dF 4 scyp.nd) (eJ (dF 5 scyp.nd) iD))) (aI (bD 6 scyp.nd (lh (cA sP (pv 4) (pv 1) (cu)) (f6 (aj ax (aj ax av))) (f6 (aj ax av)))) (aQ (iE (jC F.plainAttrs_list F.slot_list_append F.type_list_append kB (pv 3) (aj (jp scyp ["room","scheme","number","signs","bits"] [0,4,5,6] (i8 (by rfl) T.z_range (aj (bj (pJ T) hr.m T.Dy1 (aj (pv 0) av)) av)) (bj (qun T) hr.m T.Dyo (aj (pv 1) (aj (pv 2) (aj (pv 3) (aj (pv 0) (aj (pv 4) av))))))) av)))))) (aQ (bM (pv 3)))))),by unfold wo;refine(aM (O1:=[]) (Gn ?_ rfl) (aM (O1:=[3]) (iA ?_ rfl) (aM (O1:=[]) (mY (fN (O':=[3]) (Gk (fA qxz (aC (aG (i:=0)) (aC (aG (i:=1)) (aC (aG (i:=2)) bq))))) rfl (i4 (e8 (cD (i:=4)) (e8 (cD (i:=5)) i6))) (aM (O1:=[3]) (bX ?_) (kT lB (by decide) ?_ rfl))) rfl) (bW rfl ?_ rfl))))<;>walk_at "m"⟩
abbrev vt:=Ce
abbrev sr:=(jM (bh (af eK (aa 0) (aa 1))) (ae (.int 0)) (ae .non))
abbrev CF:=(bh (af eK (af bd (aa 0) (ae (.int 3))) (ae (.str "open"))))
abbrev CK:=(aw 2 (jM (bh (aS fy5 (ak (aa 0) ag))) (aa 1) (ae (.int 0))))
def wq:aD:=
 (am (bY CF
   (az (br (eE (aW (ak (ae (.int 0)) ag)) (aS fy1 (ak (aa 0) ag)))))
   aJ)
 (am CK
 (az (br (cI 1 [2] none vt (ai 0) (ae true) sr)))))
def fyq:List D->Option D:=aH false 2 3 wq
def qz6:b8 2 fyq:=cz
def Fg(T:Txt K mg a):FnOk P w K mg base bJ 3 a.fyq a.fdyq ["scheme","start"] (cc K false 2 fyq):=by
 exact cy T.Dyq.F scyq λ_ _ _ _ _ _ hr=>⟨_,(aI (dQ (cA (eQ (K:=K) rfl hr.units) (aX (a9 (K:=K) rfl) (pv 0) ax) eU (cu)) (aQ (bM (bc wO (d8 (aj ax av)) (bj (pJ T) hr.m T.Dy1 (aj (pv 0) av))))) dU) (aI (bD 2 scyq.nd (lh (kW (bj (vU T) hr.m T.Dy5 (aj (pv 0) av))) (pv 1) ax)) (aQ (bM (jp scyq ["room","end"] [2] (i8 (by rfl) T.z_range (aj (bj (pJ T) hr.m T.Dy1 (aj (pv 0) av)) av)) (lh (cA (eQ (K:=K) rfl hr.units) (pv 0) (pv 1) (cu)) ax i5)))))),by unfold wq;refine(aM (O1:=[]) (dP ?_ (bW rfl (dD (wL (iz (aC me_int bq)) (fA nR (aC (aG (i:=0)) bq)))) rfl) (dR rfl)) (aM (O1:=[]) (bX ?_) (bW rfl ?_ rfl)))<;>walk_at "m"⟩
def sU:aD:=
 (am (aw 2 (af bd (aa 1) (af bd (aa 0) (ae (.int 0)))))
 (az (jM (bh (af gA (aa 2) (ae .non))) (ae .non) (af bN (af bd (aa 0) (ae (.int 1))) (aa 2)))))
def fyr:List D->Option D:=aH false 2 3 sU
def qz5:b8 2 fyr:=cz
def qum(T:Txt K mg a):FnOk P w K mg base bJ 1 a.fyr a.fdyr ["taken","behind"] (cc K false 2 fyr):=by
 exact cy T.Dyr.F scyr λ_ _ _ _ _ _ hr=>⟨_,(aI (bD 2 scyr.nd (aX (a9 (K:=K) rfl) (pv 1) (aX (a9 (K:=K) rfl) (pv 0) ax))) (aQ (bM (lh (cA tI (pv 2) i5 (cu)) i5 (bc (dO (K:=K) rfl) (aX (a9 (K:=K) rfl) (pv 0) ax) (pv 2)))))),by unfold sU;refine(aM (O1:=[]) (bX ?_) (bW rfl ?_ rfl))<;>walk_at "m"⟩
def wt:aD:=
 (am (aw 2 (br (cI 1 [1] none (bz (aa 0)) (ai 0) (ae true) (aS fyr (ak (aa 0) (ak (aa 1) ag))))))
 (az (aK oN (br (cI 1 [] none (bz (aa 2)) (ai 0) (bh (af ix (aa 0) (ae .non))) (aa 0))))))
def fys:List D->Option D:=aH false 2 3 wt
def qz4:b8 2 fys:=cz
def qul(T:Txt K mg a):FnOk P w K mg base bJ 2 a.fys a.fdys ["choices","behind"] (cc K false 2 fys):=by
 exact cy T.Dys.F FF λ_ _ _ _ _ _ hr=>⟨_,(aI (mG 2 FF ["taken","behind"] [1] (fy (K:=K) rfl (pv 0)) (bj (qum T) hr.m T.Dyr (aj (pv 0) (aj (pv 1) av)))) (aQ (bM (qpe (K:=K) rfl rfl (by rfl) T.z_min (mr (sc:=aU s9) (N0:=["choices","behind","found"]) rfl rfl rfl (show fM _ _ ["one"] 1 [] _=true by decide+kernel) (fy (K:=K) rfl (pv 2)) (λ_ _ _ _ _=>(gr (i:=0) (show List.Nodup (["one"]:Zj)from(by decide+kernel)) rfl (Or.inl rfl))) (pf (by decide)) (λ_ _ _ _ _=>(o8 (cA yn (pv 0) i5 (cu)))) (λ_ _ _ _ _=>(pv 0))) i5)))),by unfold wt;refine(aM (O1:=[]) (o6 ?_ rfl (by decide)) (bW rfl (qq3 (dD (iB (bw:=none) (kR (aG (i:=2))) (cD (i:=0)) (ii (gO yo (aG (i:=0)) me_non.mb)) (aG (i:=0)))).mb) rfl))<;>walk_at "m"⟩
abbrev B8:=(aw 4 (iQ 2 (aK iW (ae (.int 1)))))
abbrev Dq:=(am B8 (cW f9 2 (ak (br (cI 1 [4] none (bz (aa 3)) (ai 0) (ae true) (aS fys (ak (aa 0) (ak (aa 1) ag))))) ag)))
def wu:aD:=
 (am (cg 2 (aW (ak (aa 1) ag)))
 (am (bi (gz (aa 0)) (ai 3)
   Dq)
 (az (br (gz (aa 2))))))
def fyt:List D->Option D:=aH false 2 5 wu
def qz3:b8 2 fyt:=cz
def Fh(T:Txt K mg a):FnOk P w K mg base bJ 3 a.fyt a.fdyt ["steps","ends"] (cc K false 2 fyt):=by
 exact cy T.Dyt.F scyt λ_ _ _ _ _ _ hr=>⟨_,(aI (bD 2 scyt.nd (d8 (aj (pv 1) av))) (aI (fF x8 rfl (qtm (K:=K) rfl (by rfl) T.z_reversed (pv 0)) (dF 3 scyt.nd) (aI (bD 4 scyt.nd (aX (a9 (K:=K) rfl) (pv 2) (vW yc ax))) (aQ (iE (jC F.plainAttrs_list F.slot_list_append F.type_list_append kB (pv 2) (aj (jp scyt ["choices","behind"] [4] (fy (K:=K) rfl (pv 3)) (bj (qul T) hr.m T.Dys (aj (pv 0) (aj (pv 1) av)))) av)))))) (aQ (bM (qpf (K:=K) rfl rfl (by rfl) T.z_list (by rfl) T.z_reversed (pv 2)))))),by unfold wu;refine(aM (O1:=[2]) (iA ?_ rfl) (aM (O1:=[]) (mY (fN (O':=[2]) (qvc (aG (i:=0))) rfl (cD (i:=3)) (aM (O1:=[2]) (bX (wJ (i:=2) (by decide) (wK me_int))) (kT lB (by decide) ?_ rfl))) rfl) (bW rfl (dD (qq1 (aG (i:=2)))) rfl)))<;>walk_at "m"⟩
abbrev Cr:=(ak (aS fyq (ak (aa 0) (ak (aa 3) ag))) ag)
def sG:aD:=
 (az (aS fyt (ak (aS fyp gJ) Cr)))
def fyu:List D->Option D:=aH false 4 4 sG
def qxy:b8 4 fyu:=cz
def quj(T:Txt K mg a):FnOk P w K mg base bJ 7 a.fyu a.fdyu oF (cc K false 4 fyu):=by
 refine T.Fyu.ok qsx (λ_ _ _ _ h=>h.1) (λcdv A outer s H vs Q E hr h=>?_)
 .refine⟨_,(aQ (bM (bj (Fh T) hr.m T.Dyt (aj (bj (Ff T) hr.m T.Dyp (aj (pv 0) (aj (pv 1) (aj (pv 2) av)))) (aj (bj (Fg T) hr.m T.Dyq (aj (pv 0) (aj (pv 3) av))) av))))),?_⟩;exact IJ (O':=[]) (Nms:=oF) (f:=sG) (by unfold sG;refine(bW rfl ?_ rfl)<;>walk_at "m") h
abbrev vw:=(qd 2 (aS fyt (ak (aa 1) Cr)) (aa 3))
abbrev B4:=(bz (br (i7 fy8 (ak (aa 0) ag))))
def wv:aD:=
 (am (mO 2)
 (am (bi B4 (ai 3)
   vw)
 (az (aa 2))))
def fyv:List D->Option D:=aH false 2 4 wv
def qz2:b8 2 fyv:=cz
def qui(T:Txt K mg a):FnOk P w K mg base bJ 4 a.fyv a.fdyv ["scheme","steps"] (cc K false 2 fyv):=by
 exact cy T.Dyv.F scyv λ_ _ _ _ _ _ hr=>⟨_,(aI (bD 2 scyv.nd qpd) (aI (fF x8 rfl (fy (K:=K) rfl (bj (qxk T) hr.m T.Dy8 (aj (pv 0) av))) (dF 3 scyv.nd) (aQ (o5 (bj (Fh T) hr.m T.Dyt (aj (pv 1) (aj (bj (Fg T) hr.m T.Dyq (aj (pv 0) (aj (pv 3) av))) av))) (Ft (pv 2) (pv 3) qx6)))) (aQ (bM (pv 2))))),by unfold wv;refine(aM (O1:=[2]) (qq0 rfl) (aM (O1:=[]) (mY (fN (O':=[2]) (kR (dD (lg AV (aC (aG (i:=0)) bq)))) rfl (cD (i:=3)) (qpz (by decide) ?_ ?_ rfl)) rfl) (bW rfl ?_ rfl)))<;>walk_at "m"⟩
def sV:aD:=
 (am (aw 3 (af bd (af bd (af fV (aa 1) (af bd (aa 0) (ae (.int 0)))) (aa 2)) (af bd (aa 0) (ae (.int 1)))))
 (az (jM (bh (af gA (aa 3) (ae .non))) (ae .non) (af bN (af bd (aa 0) (ae (.int 2))) (aa 3)))))
def fyw:List D->Option D:=aH false 3 4 sV
def qxx:b8 3 fyw:=cz
def Ea(T:Txt K mg a):FnOk P w K mg base bJ 1 a.fyw a.fdyw oB (cc K false 3 fyw):=by
 exact cy T.Dyw.F scyw λ_ _ _ _ _ _ hr=>⟨_,(aI (bD 3 scyw.nd (aX (a9 (K:=K) rfl) (aX (a9 (K:=K) rfl) (aX Bc (pv 1) (aX (a9 (K:=K) rfl) (pv 0) ax)) (pv 2)) (aX (a9 (K:=K) rfl) (pv 0) ax))) (aQ (bM (lh (cA tI (pv 3) i5 (cu)) i5 (bc (dO (K:=K) rfl) (aX (a9 (K:=K) rfl) (pv 0) ax) (pv 3)))))),by unfold sV;refine(aM (O1:=[]) (bX ?_) (bW rfl ?_ rfl))<;>walk_at "m"⟩
def EE:aD:=
 (am (aw 3 (aK cr (aa 0)))
 (am (aw 4 (br (cI 1 [2,3] none (bz (aa 1)) (ai 0) (bh (af ix (aS fyw gJ) (ae .non))) (aa 0))))
 (az (ca (ak (aK sJ (br (cI 1 [2,3] none (bz (aa 4)) (ai 0) (ae true) (aS fyw gJ)))) (ak (aa 0) (ak (aa 4) ag)))))))
def fyx:List D->Option D:=aH false 3 5 EE
def qxw:b8 3 fyx:=cz
def Fi(T:Txt K mg a):FnOk P w K mg base bJ 2 a.fyx a.fdyx uL (cc K false 3 fyx):=by
 exact cy T.Dyx.F scyx λ_ _ _ _ _ _ hr=>⟨_,(aI (bD 3 scyx.nd (dw (fP (K:=K) rfl) (by rfl) T.z_len (by rfl) (aj (pv 0) av))) (aI (yu (k:=4) (sc:=aU tj) (N0:=B7) rfl rfl rfl (show fM _ _ oB 1 [2,3] _=true by decide+kernel) scyx.nd rfl (Or.inl rfl) (fy (K:=K) rfl (pv 1)) (λ_ _ _ _ _=>(gr (i:=0) (show List.Nodup (oB:Zj)from(by decide+kernel)) rfl (Or.inl rfl))) (pf (by decide)) (λ_ _ _ _ _=>(o8 (cA yn (bj (Ea T) hr.m T.Dyw (aj (pv 0) (aj (pv 1) (aj (pv 2) av)))) i5 (cu)))) (λ_ _ _ _ _=>(pv 0))) (aQ (bM (f6 (aj (dw (qff (K:=K) rfl rfl) (by rfl) T.z_min (by rfl) (aj (jp scyx oB [2,3] (fy (K:=K) rfl (pv 4)) (bj (Ea T) hr.m T.Dyw (aj (pv 0) (aj (pv 1) (aj (pv 2) av))))) av)) (aj (pv 0) (aj (pv 4) av)))))))),by unfold EE;refine(aM (O1:=[]) (bX ?_) (aM (O1:=[]) (o6 ?_ rfl (by decide)) (bW rfl (oW (aC (gR qrh (dD (iB (bw:=none) (kR (aG (i:=4))) (cD (i:=0)) jX (fA qxx (aC (aG (i:=0)) (aC (aG (i:=1)) (aC (aG (i:=2)) bq)))))).mb) (aC (aG (i:=0)) (aC (aG (i:=4)) bq)))) rfl)))<;>walk_at "m"⟩
def ww:aD:=
 (am (aw 3 (af bd (af bd (aa 2) (af bd (aa 0) (ae (.int 1)))) (aa 1)))
 (az (ca (ak (af bd (aa 0) (ae (.int 0))) (ak (af bd (aa 3) (ae (.int 0))) (ak (af bN (af bd (aa 0) (ae (.int 2))) (af bd (aa 3) (ae (.int 1)))) ag))))))
def fyy:List D->Option D:=aH false 3 4 ww
def qz1:b8 3 fyy:=cz
def qug(T:Txt K mg a):FnOk P w K mg base bJ 1 a.fyy a.fdyy si (cc K false 3 fyy):=by
 exact cy T.Dyy.F scyy λ_ _ _ _ _ _ hr=>⟨_,(aI (bD 3 scyy.nd (aX (a9 (K:=K) rfl) (aX (a9 (K:=K) rfl) (pv 2) (aX (a9 (K:=K) rfl) (pv 0) ax)) (pv 1))) (aQ (bM (f6 (aj (aX (a9 (K:=K) rfl) (pv 0) ax) (aj (aX (a9 (K:=K) rfl) (pv 3) ax) (aj (bc (dO (K:=K) rfl) (aX (a9 (K:=K) rfl) (pv 0) ax) (aX (a9 (K:=K) rfl) (pv 3) ax)) av))))))),by unfold ww;refine(aM (O1:=[]) (bX ?_) (bW rfl ?_ rfl))<;>walk_at "m"⟩
abbrev Di:=(az (aS fyx (ak (af bN (af bd (aa 0) (ae (.int 1))) (br (aW (ak (aa 1) ag)))) (ak (aa 4) (ak (aa 3) ag)))))
abbrev B2:=(bz (af bd (aa 0) (ae (.int 2))))
def EF:aD:=
 (am (aw 4 (br (cI 1 [1,2] none B2 (ai 0) (ae true) (aS fyy gJ))))
 Di)
def fyz:List D->Option D:=aH false 4 5 EF
def qz0:b8 4 fyz:=cz
def Eb(T:Txt K mg a):FnOk P w K mg base bJ 3 a.fyz a.fdyz uU (cc K false 4 fyz):=by
 exact cy T.Dyz.F FH λ_ _ _ _ _ _ hr=>⟨_,(aI (mG 4 FH si [1,2] (fy (K:=K) rfl (aX (a9 (K:=K) rfl) (pv 0) ax)) (bj (qug T) hr.m T.Dyy (aj (pv 0) (aj (pv 1) (aj (pv 2) av))))) (aQ (bM (bj (Fi T) hr.m T.Dyx (aj (bc (dO (K:=K) rfl) (aX (a9 (K:=K) rfl) (pv 0) ax) (d8 (aj (pv 1) av))) (aj (pv 4) (aj (pv 3) av))))))),by unfold EF;refine(aM (O1:=[]) (o6 ?_ rfl (by decide)) (bW rfl ?_ rfl))<;>walk_at "m"⟩
abbrev d7:Pos:=⟨147,29,147,63⟩
abbrev d5:Str:=(("first_ones"++".<locals>.":Str)++"<lambda>")
def fyA:List D->Option D:=mR
def D4:b8 2 fyA:=qly
def Ec(T:Txt K mg a):FnOk P w K mg base bJ 4 a.fyA a.fdyA ["found","most"] (gw K a.tyA d7 d5 2 fyA):=by refine T.DyA.F.okL qsw (λvs H Q E h=>h.1) λA outer s H vs Q E hr h=>?_;refine⟨_,aQ (bM (m5 (m4 (K:=K) rfl) (qeq (v:="begun") (c:=a.cyA) (P:=a.tyA) (k:=1) rfl rfl hr.m (by rfl) T.z_sorted (pv 0) rfl rfl rfl T.cdyA T.chyA T.btyA rfl rfl rfl rfl (by decide+kernel) (by decide+kernel) (λ_ _ _ _=>rfl)) o9 (mv (pv 1)))),?_⟩;exact qg7 (by decide) h
abbrev sn:=(ak (aa 0) (ak (ae (.int 0)) ag))
abbrev vp:=(ak (af bd (aa 0) (ae (.int 0))) Ca)
abbrev vB:=(am (cW f9 8 (ak (aS fyz (ak (aa 9) (ak (ae (.int 0)) (ak (aa 7) (ak (aa 5) ag))))) ag)) (cW f9 8 (ak (aS fyz (ak (aa 9) (ak (ae (.int 1)) (ak (aa 7) (ak (aa 5) ag))))) ag)))
abbrev Cg:=(bz (lE (aa 4) (ae none) (kt (aa 1))))
abbrev Cq:=(aw 5 (aS fyv (ak (aa 0) (ak (aa 4) ag))))
def DT(P0:Addr):aD:=
 (am (aw 4 (aS fyp gJ))
 (am Cq
 (am (aw 6 (br (aW (ak (aS fyx (ak (br (aW ag)) (ak (br (cI 1 [] none (mS (aa 5)) (ai 0) (ae true) (ca (ak (aa 0) sn)))) (ak (aa 5) ag)))) ag))))
 (am (bi Cg (ai 7)
   (am (cg 8 (aW ag)) (am (bi (bz (aa 6)) (ai 9)
   vB) (aw 6 (kQ 10 P0 d7 d5 fyA (ak (aa 8) (ak (aa 3) ag)))))))
 (az (br (cI 1 [] none (bz (kQ 10 P0 d7 d5 fyA (ak (aa 6) (ak (aa 3) ag)))) (ai 0) (ae true) (ca vp))))))))
def f_few(P0:Addr):List D->Option D:=mi false 4 11 10 (.tab P0 d7 d5) (DT P0)
def qy4{P0:Addr}:b8 4 (f_few P0):=qp5
def quz(T:Txt K mg a):FnOk P w K mg base bJ 7 a.f_few a.fd_few sh (gw K a.tyA d7 d5 4 (f_few a.tyA)):=by
 refine T.F_few.okT (z:="@t") (j:=10) (u:=.ref a.tyA) sc_few rfl (by unfold lK;decide+kernel) (λvs H Q E h=>h.1) (λcdv A outer s H vs Q E hr h=>?_);refine⟨_,(aI (bD 4 sc_few.nd (bj (Ff T) hr.m T.Dyp (aj (pv 0) (aj (pv 1) (aj (pv 2) av))))) (aI (bD 5 sc_few.nd (bj (qui T) hr.m T.Dyv (aj (pv 0) (aj (pv 4) av)))) (aI (bD 6 sc_few.nd (d8 (aj (bj (Fi T) hr.m T.Dyx (aj (d8 av) (aj (jp sc_few ["start"] [] (qkv (pv 5)) (f6 (aj (pv 0) (aj (pv 0) (aj ax av))))) (aj (pv 5) av)))) av))) (aI (fF x8 rfl (fy (K:=K) rfl (m5 (m4 (K:=K) rfl) (pv 4) o9 (mv (pv 1)))) (dF 7 sc_few.nd) (aI (bD 8 sc_few.nd (d8 av)) (aI (fF x8 rfl (fy (K:=K) rfl (pv 6)) (dF 9 sc_few.nd) (aI (iE (jC F.plainAttrs_list F.slot_list_append F.type_list_append kB (pv 8) (aj (bj (Eb T) hr.m T.Dyz (aj (pv 9) (aj ax (aj (pv 7) (aj (pv 5) av))))) av))) (aQ (iE (jC F.plainAttrs_list F.slot_list_append F.type_list_append kB (pv 8) (aj (bj (Eb T) hr.m T.Dyz (aj (pv 9) (aj ax (aj (pv 7) (aj (pv 5) av))))) av)))))) (aQ (bD 6 sc_few.nd (bj (Ec T) hr.m T.DyA (aj (pv 8) (aj (pv 3) av)))))))) (aQ (bM (jp sc_few ["begun"] [] (fy (K:=K) rfl (bj (Ec T) hr.m T.DyA (aj (pv 6) (aj (pv 3) av)))) (f6 (aj (aX (a9 (K:=K) rfl) (pv 0) ax) (aj (aX (a9 (K:=K) rfl) (pv 0) ax) av)))))))))),?_⟩;exact HR (O':=[]) (Nms:=CZ) (by decide) (by unfold DT;refine(aM (O1:=[]) (bX ?_) (aM (O1:=[]) (bX ?_) (aM (O1:=[]) (bX (dD (iz (aC (fA qxw (aC (dD (iz bq)) (aC (dD (iB (bw:=none) (qlc (aG (i:=5))) (cD (i:=0)) jX (oW (aC (aG (i:=0)) (aC (aG (i:=0)) (aC me_int bq)))))) (aC (aG (i:=5)) bq)))) bq)))) (aM (O1:=[]) (fN (O':=[]) ?_ rfl (cD (i:=7)) (aM (O1:=[8]) (iA ?_ rfl) (aM (O1:=[]) (mY (fN (O':=[8]) ?_ rfl (cD (i:=9)) (aM (O1:=[8]) (kT lB (by decide) ?_ rfl) (kT lB (by decide) ?_ rfl))) rfl) (bX (yX (by decide) D4 (aC (aG (i:=8)) (aC (aG (i:=3)) bq))))))) (bW rfl (dD (iB (bw:=none) (kR (yX (by decide) D4 (aC (aG (i:=6)) (aC (aG (i:=3)) bq)))) (cD (i:=0)) jX (oW (aC (dq gF (aG (i:=0)) me_int) (aC (dq gF (aG (i:=0)) me_int) bq))))) rfl)))))<;>walk_at "m") h
abbrev sk:=(af nX (ae (.int 10)) (ae (.int 60)))
def sW:aD:=
 (am (bY (bh (af uA (aa 1) (aK cr (aa 0))))
   (az (af b7 (af bd (aa 0) (aa 1)) sk))
   aJ)
 (az (ae (.int 0))))
def fyB:List D->Option D:=aH false 2 2 sW
def vQ:b8 2 fyB:=cz
def v0(T:Txt K mg a):FnOk P w K mg base bJ 1 a.fyB a.fdyB ["_law_script","_law_k"] (cc K false 2 fyB):=by
 exact cy T.DyB.F qsv λ_ _ _ _ _ _ hr=>⟨_,(aI (dQ (cA sP (pv 1) (dw (fP (K:=K) rfl) (by rfl) T.z_len (by rfl) (aj (pv 0) av)) (cu)) (aQ (bM (bc fw (aX (a9 (K:=K) rfl) (pv 0) (pv 1)) (bc tJ ax ax)))) dU) (aQ (bM ax))),by unfold sW;refine(aM (O1:=[]) (dP ?_ (bW rfl ?_ rfl) (dR rfl)) (bW rfl ?_ rfl))<;>walk_at "m"⟩
def wx:aD:=
 (mQ (aW (ak (af b7 (af bN (af bN (af ie (af b7 (aa 0) sk) (ae (.int 7368787))) (af ie (ae (.int 1000003)) (aa 1))) (ae (.int 17))) (ae (.int 2305843009213693951))) ag)))
def fyC:List D->Option D:=aH true 2 2 wx
def D5:b8 2 fyC:=cz
def Ed(T:Txt K mg a):FnOk P w K mg base bJ 1 a.fyC a.fdyC ["_law_cell","_law_k"] (cc K true 2 fyC):=by
 exact cy T.DyC.F qsu λ_ _ _ _ _ _ hr=>⟨_,(aQ (bM (d8 (aj (bc fw (bc (dO (K:=K) rfl) (bc (dO (K:=K) rfl) (bc (jG (K:=K) rfl) (bc fw (pv 0) (bc tJ ax ax)) ax) (bc (jG (K:=K) rfl) ax (pv 1))) ax) ax) av)))),by unfold wx;refine(ym rfl ?_ rfl)<;>walk_at "m"⟩
def sH:aD:=
 (am (pT 0 (af b7 (af bN (af ie (iQ 0 (ae (.int 0))) (ae (.int 1181783497276652981))) (ae (.int 12345678910987))) (ae (.int 2305843009213693951))) (ae (.int 0)))
 (az (af b7 (af gB (iQ 0 (ae (.int 0))) (ae (.int 65537))) (aa 1))))
def fyD:List D->List D->Option (D×List D):=gy false 2 2 sH
def kK:sR 2 fyD:=Fy
def kJ(T:Txt K mg a):FnOk P w K mg base bJ 1 a.fyD a.fdyD pB (pH K false 2 fyD):=by
 refine T.DyD.F.ok qst (λ_ _ _ _ h=>h.1) (λcdv A outer s H vs Q E hr h=>?_)
 .refine⟨_,(aI (o5 (bc fw (bc (dO (K:=K) rfl) (bc (jG (K:=K) rfl) (aX (a9 (K:=K) rfl) (pv 0) ax) ax) ax) ax) (Ft (pv 0) ax jO)) (aQ (bM (bc fw (bc mZ (aX (a9 (K:=K) rfl) (pv 0) ax) ax) (pv 1))))),?_⟩;exact Hm (O':=[]) (Nms:=pB) (f:=sH) (by unfold sH;exact(aM (O1:=[0]) (qpy (by decide) (dq oY (dq mV (dq Gp (wJ (i:=0) (by decide) me_int) me_int) me_int) me_int) me_int rfl) (bW rfl (dq oY (dq Fb (wJ (i:=0) (by decide) me_int) me_int) (aG (i:=1))) rfl))) h
abbrev vk:=(ak (af bN (ae (.int 1)) (f8 fyD 0 (ak (ae (.int 4)) ag))) ag)
abbrev vm:=(ak (af bN (ae (.int 1)) (f8 fyD 0 (ak (ae (.int 6)) ag))) ag)
abbrev Dm:=(az (ca (ak (aa 3) (ak (aK mz (aa 4)) (ak (aK mz (aa 5)) (ak (af bd (aa 2) (f8 fyD 0 (ak (aK cr (aa 2)) ag))) ag))))))
abbrev DB:=(ak (aa 1) (ak (af bd (br (aW (ak (ae (.int 0)) (ak (ae (.int 1)) (ak (ae (.int 2)) (ak (ae (.int 2)) (ak (ae (.int 3)) (ak (ae (.int 1)) (ak (ae (.int 2)) (ak (ae (.int 3)) (ak (ae (.int 4)) ag))))))))))) (f8 fyD 0 (ak (ae (.int 9)) ag))) ag))
abbrev Cy:=(af uB (f8 fyD 1 (ak (ae (.int 4)) ag)) (ae (.int 0)))
abbrev vA:=(cW f9 5 (ak (aK mz (br (cI 1 [0] (some (0,1)) (bz (aa 4)) (ai 0) (ae true) (aK hV Cy)))) ag))
def pK:aD:=
 (am (aw 3 (iH (λi j=>if j<i then j else i) DB))
 (am (aw 4 (br (cI 1 [0,3] (some (0,1)) (gh vk) (ai 0) (ae true) (f8 fyD 1 (ak (af bQ (ae (.int 2)) (aa 2)) ag)))))
 (am (cg 5 (aW ag))
 (am (bi (gh vm) (ai 6)
   vA)
 Dm))))
def fyE:List D->List D->Option (D×List D):=gy false 3 7 pK
def qxv:sR 3 fyE:=Fy
def qub(T:Txt K mg a):FnOk P w K mg base bJ 2 a.fyE a.fdyE uY (pH K false 3 fyE):=by
 refine T.DyE.F.ok scyE (λ_ _ _ _ h=>h.1) (λcdv A outer s H vs Q E hr h=>?_)
 .refine⟨_,(aI (bD 3 scyE.nd (dw (Hz rfl) (by rfl) T.z_min (by rfl) (aj (pv 1) (aj (aX (a9 (K:=K) rfl) (d8 (aj ax (aj ax (aj ax (aj ax (aj ax (aj ax (aj ax (aj ax (aj ax av)))))))))) (bj (kJ T) hr.m T.DyD (aj (pv 0) (aj ax av)))) av)))) (aI (mG 4 scyE ["_law_k","_law_state_here","_law_reach"] [0,3] (i8 (by rfl) T.z_range (aj (bc (dO (K:=K) rfl) ax (bj (kJ T) hr.m T.DyD (aj (pv 0) (aj ax av)))) av)) (bj (kJ T) hr.m T.DyD (aj (pv 1) (aj (bc oZ ax (pv 2)) av)))) (aI (bD 5 scyE.nd (d8 av)) (aI (fF x8 rfl (i8 (by rfl) T.z_range (aj (bc (dO (K:=K) rfl) ax (bj (kJ T) hr.m T.DyD (aj (pv 0) (aj ax av)))) av)) (dF 6 scyE.nd) (aQ (iE (jC F.plainAttrs_list F.slot_list_append F.type_list_append kB (pv 5) (aj (jJ (qJ (K:=K) rfl) (by rfl) T.z_tuple (by rfl) (aj (jp scyE ["_law_tap","_law_state_here"] [0] (fy (K:=K) rfl (pv 4)) (jJ Hx (by rfl) T.z_int (by rfl) (aj (yq sO (bj (kJ T) hr.m T.DyD (aj (pv 1) (aj ax av))) ax (cu)) av))) av)) av))))) (aQ (bM (f6 (aj (pv 3) (aj (jJ (qJ (K:=K) rfl) (by rfl) T.z_tuple (by rfl) (aj (pv 4) av)) (aj (jJ (qJ (K:=K) rfl) (by rfl) T.z_tuple (by rfl) (aj (pv 5) av)) (aj (aX (a9 (K:=K) rfl) (pv 2) (bj (kJ T) hr.m T.DyD (aj (pv 0) (aj (dw (fP (K:=K) rfl) (by rfl) T.z_len (by rfl) (aj (pv 2) av)) av)))) av))))))))))),?_⟩;exact Hm (O':=[]) (Nms:=CT) (f:=pK) (by unfold pK;exact(aM (O1:=[0]) (bX (sN (aC (aG (i:=1)) (aC (dq gF (dD (iz (aC me_int (aC me_int (aC me_int (aC me_int (aC me_int (aC me_int (aC me_int (aC me_int (aC me_int bq))))))))))) (kA (i:=0) kK (by decide) (aC me_int bq))) bq)))) (aM (O1:=[0]) (o6 (iB (bw:=(some (0,1))) (qG (aC (dq mV me_int (kA (i:=0) kK (by decide) (aC me_int bq))) bq)) (cD (i:=0)) jX (kA (i:=1) kK (by decide) (aC (dq qh me_int (aG (i:=2))) bq))) rfl (by decide)) (aM (O1:=[0,5]) (iA (iz bq) rfl) (aM (O1:=[0]) (mY (fN (O':=[0,5]) (qG (aC (dq mV me_int (kA (i:=0) kK (by decide) (aC me_int bq))) bq)) rfl (cD (i:=6)) (kT lB (by decide) (aC (qB qx (dD (iB (bw:=(some (0,1))) (kR (aG (i:=4))) (cD (i:=0)) jX (gR EV (gO sQ (kA (i:=1) kK (by decide) (aC me_int bq)) me_int.mb).mb)))) bq) rfl)) rfl) (bW rfl (oW (aC (aG (i:=3)) (aC (qB qx (aG (i:=4))) (aC (qB qx (aG (i:=5))) (aC (dq gF (aG (i:=2)) (kA (i:=0) kK (by decide) (aC (gR kO gH) bq))) bq))))) rfl)))))) h
abbrev vz:=(am (aw 1 (af b7 (af bN (aa 1) (af b7 (aa 0) (ae (.int 2)))) (ae (.int 2)))) (aw 0 (af gB (aa 0) (ae (.int 2)))))
abbrev uP:=(bh (af uB (aa 0) (ae (.int 0))))
def wy:aD:=
 (am (aw 1 (ae (.int 0)))
 (am (ik uP
   vz 1000)
 (az (aa 1))))
def fyF:List D->Option D:=aH false 1 2 wy
def qyz:b8 1 fyF:=cz
def qua(T:Txt K mg a):FnOk P w K mg base bJ 1 a.fyF a.fdyF ["_law_number"] (cc K false 1 fyF):=by
 exact cy T.DyF.F scyF λ_ _ _ _ _ _ hr=>⟨_,(aI (bD 1 scyF.nd ax) (aI (Hd x8 (cA sO (pv 0) ax (cu)) (aI (bD 1 scyF.nd (bc fw (bc (dO (K:=K) rfl) (pv 1) (bc fw (pv 0) ax)) ax)) (aQ (bD 0 scyF.nd (bc mZ (pv 0) ax))))) (aQ (bM (pv 1))))),by unfold wy;refine(aM (O1:=[]) (bX ?_) (aM (O1:=[]) (G3 (O':=[]) ?_ rfl (aM (O1:=[]) (bX ?_) (bX ?_))) (bW rfl ?_ rfl)))<;>walk_at "m"⟩
abbrev Cc:=(aK cr (af bd (aa 0) (ae (.int 2))))
abbrev Dp:=Cc
abbrev pF:=(af bN (af ie (ae (.int 2)) (aa 2)) (aa 3))
abbrev CP:=(aw 6 (af bd (af bd (aa 0) (ae (.int 2))) (af b7 (aa 1) Dp)))
abbrev u5:=(af eK (af bd (aa 2) (aa 0)) (ae (.int 1)))
def EG:aD:=
 (am (aw 4 pF)
 (am (aw 5 (br (cI 1 [4] none uR (ai 0) (ae true) (aS fyF pC))))
 (am CP
 (az (ca (ak (af b7 (aa 4) (af bQ (ae (.int 1)) (af bd (aa 0) (ae (.int 0))))) (ak (br (cI 1 [5,6] none (gh (ak (aK cr (aa 5)) ag)) (ai 0) (bh u5) (af bd (aa 1) (aa 0)))) ag)))))))
def fyG:List D->Option D:=aH false 4 7 EG
def qyy:b8 4 fyG:=cz
abbrev BW:List Str:=["_law_k","_law_signs","_law_line"]
def wM(T:Txt K mg a):FnOk P w K mg base bJ 2 a.fyG a.fdyG u6 (cc K false 4 fyG):=by
 exact cy T.DyG.F scyG λ_ _ _ _ _ _ hr=>⟨_,(aI (bD 4 scyG.nd (bc (dO (K:=K) rfl) (bc (jG (K:=K) rfl) ax (pv 2)) (pv 3))) (aI (bD 5 scyG.nd (jp scyG ["_law_tap","_law_both"] [4] (fy (K:=K) rfl (aX (a9 (K:=K) rfl) (pv 0) ax)) (bj (qua T) hr.m T.DyF (aj (bc wN (pv 1) (pv 0)) av)))) (aI (bD 6 scyG.nd (aX (a9 (K:=K) rfl) (aX (a9 (K:=K) rfl) (pv 0) ax) (bc fw (pv 1) (dw (fP (K:=K) rfl) (by rfl) T.z_len (by rfl) (aj (aX (a9 (K:=K) rfl) (pv 0) ax) av))))) (aQ (bM (f6 (aj (bc fw (pv 4) (bc oZ ax (aX (a9 (K:=K) rfl) (pv 0) ax))) (aj (mr (sc:=aU tm) (N0:=CU) rfl rfl rfl (show fM _ _ BW 1 [5,6] _=true by decide+kernel) (i8 (by rfl) T.z_range (aj (dw (fP (K:=K) rfl) (by rfl) T.z_len (by rfl) (aj (pv 5) av)) av)) (λ_ _ _ _ _=>(gr (i:=0) (show List.Nodup (BW:Zj)from(by decide+kernel)) rfl (Or.inl rfl))) (pf (by decide)) (λ_ _ _ _ _=>(o8 (cA (eQ (K:=K) rfl hr.units) (aX (a9 (K:=K) rfl) (pv 2) (pv 0)) ax (cu)))) (λ_ _ _ _ _=>(aX (a9 (K:=K) rfl) (pv 1) (pv 0)))) av)))))))),by unfold EG;refine(aM (O1:=[]) (bX ?_) (aM (O1:=[]) (bX ?_) (aM (O1:=[]) (bX ?_) (bW rfl ?_ rfl))))<;>walk_at "m"⟩
def sX:aD:=
 (am (aw 2 (ae (.int 0)))
 (am (bY (bh oG)
   (bi (bz (aa 1)) (ai 3)
   (aw 2 (af b7 pF (af bQ (ae (.int 1)) (af bd (aa 0) (ae (.int 0)))))))
   aJ)
 (az (aa 2))))
def fyH:List D->Option D:=aH false 2 4 sX
def qyx:b8 2 fyH:=cz
def Fj(T:Txt K mg a):FnOk P w K mg base bJ 1 a.fyH a.fdyH oE (cc K false 2 fyH):=by
 exact cy T.DyH.F scyH λ_ _ _ _ _ _ hr=>⟨_,(aI (bD 2 scyH.nd ax) (aI (dQ (cA (eQ (K:=K) rfl hr.units) (aX (a9 (K:=K) rfl) (pv 0) ax) eU (cu)) (aQ (fF x8 rfl (fy (K:=K) rfl (pv 1)) (dF 3 scyH.nd) (aQ (bD 2 scyH.nd (bc fw (bc (dO (K:=K) rfl) (bc (jG (K:=K) rfl) ax (pv 2)) (pv 3)) (bc oZ ax (aX (a9 (K:=K) rfl) (pv 0) ax))))))) dU) (aQ (bM (pv 2))))),by unfold sX;refine(aM (O1:=[]) (bX ?_) (aM (O1:=[]) (dP ?_ (fN (O':=[]) ?_ rfl (cD (i:=3)) (bX ?_)) (dR rfl)) (bW rfl ?_ rfl)))<;>walk_at "m"⟩
abbrev Dz:=(gx (aS fyG (ak (aa 0) (ak (aa 5) (ak (aa 3) (ak (af bd (aa 2) (aa 5)) ag))))) (cY 2 (bE (ai 3) (bE (ai 6) c7))))
abbrev C9:=(bY pG (aw 2 (af bN (aa 2) (br (eE (aW (ak (ae (.int 0)) ag)) (af bd (aa 0) (ae (.int 0))))))) aJ)
abbrev Ci:=(am Dz (cg 4 (qb qa (aa 4) (aa 6))))
abbrev Cp:=(aw 3 (aS fyH (ak (aa 0) (ak (aa 1) ag))))
def EH:aD:=
 (am (aw 2 (br (hZ dE (aa 1))))
 (am C9
 (am Cp
 (am (cg 4 (aW ag))
 (am (bi (gh (ak (aK cr (aa 2)) ag)) (ai 5)
   Ci)
 (jE 4))))))
def fyI:List D->Option D:=aH true 2 7 EH
def D6:b8 2 fyI:=cz
def Fk(T:Txt K mg a):FnOk P w K mg base bJ 3 a.fyI a.fdyI oE (cc K true 2 fyI):=by
 exact cy T.DyI.F scyI λ_ _ _ _ _ _ hr=>⟨_,(aI (bD 2 scyI.nd (jJ (uv (K:=K) rfl) (by rfl) T.z_list (by rfl) (aj (pv 1) av))) (aI (dQ (cA (eQ (K:=K) rfl hr.units) (aX (a9 (K:=K) rfl) (pv 0) ax) eU (cu)) (aQ (bD 2 scyI.nd (bc (dO (K:=K) rfl) (pv 2) (bc wO (d8 (aj ax av)) (aX (a9 (K:=K) rfl) (pv 0) ax))))) dU) (aI (bD 3 scyI.nd (bj (Fj T) hr.m T.DyH (aj (pv 0) (aj (pv 1) av)))) (aI (bD 4 scyI.nd (d8 av)) (aI (fF x8 rfl (i8 (by rfl) T.z_range (aj (dw (fP (K:=K) rfl) (by rfl) T.z_len (by rfl) (aj (pv 2) av)) av)) (dF 5 scyI.nd) (aI (o5 (bj (wM T) hr.m T.DyG (aj (pv 0) (aj (pv 5) (aj (pv 3) (aj (aX (a9 (K:=K) rfl) (pv 2) (pv 5)) av))))) (iC (K:=K) rfl rfl (eJ (dF 3 scyI.nd) (eJ (dF 6 scyI.nd) iD)))) (aQ (bD 4 scyI.nd (bc (dO (K:=K) rfl) (pv 4) (pv 6)))))) (aQ (bM (pv 4)))))))),by unfold EH;refine(aM (O1:=[]) (bX (dD (ue tR (aG (i:=1))))) (aM (O1:=[]) (dP ?_ (bX (dq mV (aG (i:=2)) (dD (wL (iz (aC me_int bq)) (dq gF (aG (i:=0)) me_int))))) (dR rfl)) (aM (O1:=[]) (bX ?_) (aM (O1:=[4]) (iA ?_ rfl) (aM (O1:=[4]) (fN (O':=[4]) ?_ rfl (cD (i:=5)) (aM (O1:=[]) (tF ?_ rfl (i4 (e8 (cD (i:=3)) (e8 (cD (i:=6)) i6)))) (iA (qy5 qty (aG (i:=4)) (aG (i:=6))) rfl))) (t0 rfl (by first|decide|simp) rfl (by first|decide|simp)))))))<;>walk_at "m"⟩
abbrev Dk:=(bY (bh (af eK (aa 4) (ae (.int 4)))) (az (ca (ak (ae (.str "clear")) (ak (af iV (ae (.int 1)) (aa 2)) ag)))) aJ)
abbrev Dr:=(az (ca (ak (ae (.str "soft")) (ak (af b7 (af gB (aa 3) (ae (.int 9))) (ae (.int 4))) (ak (af b7 (af gB (aa 3) (ae (.int 36))) (ae (.int 4))) ag)))))
abbrev Dw:=(aw 3 (af b7 (af ie (af bN (af bN (af b7 (aa 0) (af nX (ae (.int 10)) (ae (.int 18)))) (ae (.int 1))) (af ie (af ie (aa 1) (aa 1)) (ae (.int 104729)))) (ae (.int 742938285))) (ae (.int 2147483647))))
abbrev C1:=(ak (af iV (af b7 (af gB (aa 3) (ae (.int 9))) (ae (.int 3))) (ae (.int 1))) ag)
abbrev C2:=(bY (bh (af eK (aa 4) (ae (.int 5)))) (az (ca (ak (ae (.str "gap")) ag))) aJ)
abbrev C5:=(af iV (ae (.int 1)) (af ie (ae (.int 2)) (af b7 (af gB (aa 3) (ae (.int 27))) (ae (.int 2)))))
abbrev B1:=(bh (af uA (aa 4) (ae (.int 4))))
abbrev C6:=(bY B1 (az (ca (ak (ae (.str "clear")) (ak (aa 2) ag)))) aJ)
abbrev B0:=(bh (af eK (aa 4) (ae (.int 6))))
abbrev B9:=(aw 4 (af b7 (aa 3) (ae (.int 9))))
def EI:aD:=
 (am Dw
 (am B9
 (am C6
 (am Dk
 (am C2
 (am (bY B0
   (az (ca (ak (ae (.str "soft")) (ak (af ie (af b7 (aa 0) sk) C5) C1))))
   aJ)
 Dr))))))
def fyJ:List D->Option D:=aH false 3 5 EI
def qxu:b8 3 fyJ:=cz
def qu9(T:Txt K mg a):FnOk P w K mg base bJ 1 a.fyJ a.fdyJ uN (cc K false 3 fyJ):=by
 exact cy T.DyJ.F scyJ λ_ _ _ _ _ _ hr=>⟨_,(aI (bD 3 scyJ.nd (bc fw (bc (jG (K:=K) rfl) (bc (dO (K:=K) rfl) (bc (dO (K:=K) rfl) (bc fw (pv 0) (bc tJ ax ax)) ax) (bc (jG (K:=K) rfl) (bc (jG (K:=K) rfl) (pv 1) (pv 1)) ax)) ax) ax)) (aI (bD 4 scyJ.nd (bc fw (pv 3) ax)) (aI (dQ (cA sP (pv 4) ax (cu)) (aQ (bM (f6 (aj eU (aj (pv 2) av))))) dU) (aI (dQ (cA (eQ (K:=K) rfl hr.units) (pv 4) ax (cu)) (aQ (bM (f6 (aj eU (aj (bc qj ax (pv 2)) av))))) dU) (aI (dQ (cA (eQ (K:=K) rfl hr.units) (pv 4) ax (cu)) (aQ (bM (f6 (aj eU av)))) dU) (aI (dQ (cA (eQ (K:=K) rfl hr.units) (pv 4) ax (cu)) (aQ (bM (f6 (aj eU (aj (bc (jG (K:=K) rfl) (bc fw (pv 0) (bc tJ ax ax)) (bc qj ax (bc (jG (K:=K) rfl) ax (bc fw (bc mZ (pv 3) ax) ax)))) (aj (bc qj (bc fw (bc mZ (pv 3) ax) ax) ax) av)))))) dU) (aQ (bM (f6 (aj eU (aj (bc fw (bc mZ (pv 3) ax) ax) (aj (bc fw (bc mZ (pv 3) ax) ax) av)))))))))))),by unfold EI;refine(aM (O1:=[]) (bX ?_) (aM (O1:=[]) (bX ?_) (aM (O1:=[]) (dP ?_ (bW rfl ?_ rfl) (dR rfl)) (aM (O1:=[]) (dP ?_ (bW rfl ?_ rfl) (dR rfl)) (aM (O1:=[]) (dP ?_ (bW rfl ?_ rfl) (dR rfl)) (aM (O1:=[]) (dP ?_ (bW rfl ?_ rfl) (dR rfl)) (bW rfl ?_ rfl)))))))<;>walk_at "m"⟩
abbrev vn:=(ak (ae (.int 1)) (ak (af iV (aK cr (aa 0)) (ae (.int 2))) ag))
abbrev Cs:=(oS (br (i7 fyI (ak (aa 1) (ak (aa 2) ag)))))
def EJ:aD:=
 (am (cg 3 (aW ag))
 (am (bi Cs (cY 2 (bE (ai 4) (bE (ai 5) c7)))
   (cW f9 3 (ak (aS fyJ (ak (aS fyB (ak (aa 0) (ak (af bN (ae (.int 2)) (af b7 (aa 4) (iH (λi j=>if j>i then j else i) vn))) ag))) (ak (aa 4) (ak (aa 5) ag)))) ag)))
 (jE 3)))
def fyK:List D->Option D:=aH true 3 6 EJ
def qxt:b8 3 fyK:=cz
def qu8(T:Txt K mg a):FnOk P w K mg base bJ 4 a.fyK a.fdyK uW (cc K true 3 fyK):=by
 exact cy T.DyK.F scyK λ_ _ _ _ _ _ hr=>⟨_,(aI (bD 3 scyK.nd (d8 av)) (aI (fF x8 rfl (Gx (K:=K) rfl (by rfl) T.z_enumerate (bj (Fk T) hr.m T.DyI (aj (pv 1) (aj (pv 2) av)))) (iC (K:=K) rfl rfl (eJ (dF 4 scyK.nd) (eJ (dF 5 scyK.nd) iD))) (aQ (iE (jC F.plainAttrs_list F.slot_list_append F.type_list_append kB (pv 3) (aj (bj (qu9 T) hr.m T.DyJ (aj (bj (v0 T) hr.m T.DyB (aj (pv 0) (aj (bc (dO (K:=K) rfl) ax (bc fw (pv 4) (dw (Hy rfl) (by rfl) T.z_max (by rfl) (aj ax (aj (bc qj (dw (fP (K:=K) rfl) (by rfl) T.z_len (by rfl) (aj (pv 0) av)) ax) av))))) av))) (aj (pv 4) (aj (pv 5) av)))) av))))) (aQ (bM (pv 3))))),by unfold EJ;exact(aM (O1:=[3]) (iA (iz bq) rfl) (aM (O1:=[3]) (fN (O':=[3]) (Gk (dD (lg D6 (aC (aG (i:=1)) (aC (aG (i:=2)) bq))))) rfl (i4 (e8 (cD (i:=4)) (e8 (cD (i:=5)) i6))) (kT lB (by decide) (aC (fA qxu (aC (fA vQ (aC (aG (i:=0)) (aC (dq mV me_int (dq oY (aG (i:=4)) (sN (aC me_int (aC (dq Fc (gR kO gH) me_int) bq))))) bq))) (aC (aG (i:=4)) (aC (aG (i:=5)) bq)))) bq) rfl)) (t0 rfl (by first|decide|simp) rfl (by first|decide|simp))))⟩
def p9:aD:=
 (am (bY CJ
   (az (aK hV (af im (af bd (aa 0) (ae (.int 1))) (aa 1))))
   aJ)
 (am (bY CD
   (az (ae (.int 0)))
   aJ)
 (az (af bd (aa 0) (af bN (ae (.int 1)) (aa 1))))))
def fyL:List D->Option D:=aH false 2 2 p9
def qxs:b8 2 fyL:=cz
def Fl(T:Txt K mg a):FnOk P w K mg base bJ 1 a.fyL a.fdyL ["_law_told","_law_bit"] (cc K false 2 fyL):=by
 exact cy T.DyL.F qss λ_ _ _ _ _ _ hr=>⟨_,(aI (dQ (cA (eQ (K:=K) rfl hr.units) (aX (a9 (K:=K) rfl) (pv 0) ax) eU (cu)) (aQ (bM (jJ Hx (by rfl) T.z_int (by rfl) (aj (yq (kU (K:=K) rfl hr.units) (aX (a9 (K:=K) rfl) (pv 0) ax) (pv 1) (cu)) av)))) dU) (aI (dQ (cA (eQ (K:=K) rfl hr.units) (aX (a9 (K:=K) rfl) (pv 0) ax) eU (cu)) (aQ (bM ax)) dU) (aQ (bM (aX (a9 (K:=K) rfl) (pv 0) (bc (dO (K:=K) rfl) ax (pv 1))))))),by unfold p9;refine(aM (O1:=[]) (dP ?_ (bW rfl ?_ rfl) (dR rfl)) (aM (O1:=[]) (dP ?_ (bW rfl ?_ rfl) (dR rfl)) (bW rfl ?_ rfl)))<;>walk_at "m"⟩
abbrev CQ:=(fD (ak (aa 2) (ak (br (i7 fyI (ak (aa 0) (ak (aa 1) ag)))) ag)))
def wz:aD:=
 (az (aK hG (br (cI 2 [] none CQ (cY 2 (bE (ai 0) (bE (ai 1) c7))) (ae true) (aS fyL (ak (aa 0) (ak (aa 1) ag)))))))
def fyM:List D->Option D:=aH false 3 3 wz
def qyw:b8 3 fyM:=cz
def qu7(T:Txt K mg a):FnOk P w K mg base bJ 4 a.fyM a.fdyM pE (cc K false 3 fyM):=by
 exact cy T.DyM.F qsr λ_ _ _ _ _ _ hr=>⟨_,(aQ (bM (dw (yG (K:=K) rfl rfl) (by rfl) T.z_sum (by rfl) (aj (mr (sc:=aU tu) (N0:=pE) rfl rfl rfl (show fM _ _ ["_law_told","_law_bit"] 2 [] _=true by decide+kernel) (o7 (K:=K) rfl (by rfl) T.z_zip (aj (pv 2) (aj (bj (Fk T) hr.m T.DyI (aj (pv 0) (aj (pv 1) av))) av))) (λ_ _ _ _ _=>(iC (K:=K) rfl rfl (eJ (gr (i:=0) (show List.Nodup (["_law_told","_law_bit"]:Zj)from(by decide+kernel)) rfl (Or.inl rfl)) (eJ (gr (i:=1) (show List.Nodup (["_law_told","_law_bit"]:Zj)from(by decide+kernel)) rfl (Or.inl rfl)) iD)))) (qC (by decide) (by decide)) (λ_ _ _ _ _=>qt) (λ_ _ _ _ _=>(bj (Fl T) hr.m T.DyL (aj (pv 0) (aj (pv 1) av))))) av)))),by unfold wz;exact(bW rfl (gR wD (dD (iB (bw:=none) (oX (aC (aG (i:=2)) (aC (dD (lg D6 (aC (aG (i:=0)) (aC (aG (i:=1)) bq)))) bq))) (i4 (e8 (cD (i:=0)) (e8 (cD (i:=1)) i6))) jX (fA qxs (aC (aG (i:=0)) (aC (aG (i:=1)) bq))))).mb) rfl)⟩
def wA:aD:=
 (az (qc (aK (hU (gN "int")) (aa 0)) (sM (aK (hU (gN "bool")) (aa 0)))))
def fyN:List D->Option D:=aH false 1 1 wA
def D7:b8 1 fyN:=cz
def Fm(T:Txt K mg a):FnOk P w K mg base bJ 1 a.fyN a.fdyN ["_law_found"] (cc K false 1 fyN):=by
 exact cy T.DyN.F qsq λ_ _ _ _ _ _ hr=>⟨_,(aQ (bM (Fq (dw (qw (K:=K) rfl) (by rfl) T.z_isinstance (by rfl) (aj (pv 0) (aj (qq (v:=.ty "int") (by rfl) T.z_int (by rfl) rfl) av))) (Fs (qtp (dw (qw (K:=K) rfl) (by rfl) T.z_isinstance (by rfl) (aj (pv 0) (aj (qq (v:=.ty "bool") (by rfl) T.z_bool (by rfl) rfl) av)))))))),by unfold wA;exact(bW rfl (E7 (qg (qqe T) gH) (qvf (qg (qln T) gH))) rfl)⟩
abbrev Cf:=(dW (bh (aK (hU (gN "list")) (aa 0))))
abbrev Dj:=(bY (iG Cf (bh (af im (aK cr (aa 0)) (aa 1)))) (az (ae (.bl false))) aJ)
abbrev vv:=(qc (aS fyN (ak (aa 0) ag)) (t8 IM IM (ae (.int 0)) (aa 0) (ae (.int 1))))
def wB:aD:=
 (am Dj
 (az (aK lW (br (cI 1 [] none (bz (aa 0)) (ai 0) (ae true) vv)))))
def fyO:List D->Option D:=aH false 2 2 wB
def qyv:b8 2 fyO:=cz
def qu6(T:Txt K mg a):FnOk P w K mg base bJ 2 a.fyO a.fdyO sg (cc K false 2 fyO):=by
 exact cy T.DyO.F FJ λ_ _ _ _ _ _ hr=>⟨_,(aI (dQ (PW.pt (fm (mo (kW (dw (qw (K:=K) rfl) (by rfl) T.z_isinstance (by rfl) (aj (pv 0) (aj (qq (v:=.ty "list") (by rfl) T.z_list (by rfl) rfl) av))))) (eF (cA (kU (K:=K) rfl hr.units) (dw (fP (K:=K) rfl) (by rfl) T.z_len (by rfl) (aj (pv 0) av)) (pv 1) (cu))))) (aQ (bM kL)) dU) (aQ (bM (dw (qmh (K:=K) rfl rfl) (by rfl) T.z_all (by rfl) (aj (jp FJ ["_law_bit"] [] (fy (K:=K) rfl (pv 0)) (Fq (bj (Fm T) hr.m T.DyN (aj (pv 0) av)) (Fs (qkx Eh Eh ax (pv 0) ax)))) av))))),by unfold wB;exact(aM (O1:=[]) (dP (pP (mT (mU (qg (GV T) gH))) (ii (gO pQ (gR kO gH) gH))) (bW rfl D2 rfl) (dR rfl)) (bW rfl (gR EU (dD (iB (bw:=none) (kR (aG (i:=0))) (cD (i:=0)) jX (E7 (fA D7 (aC (aG (i:=0)) bq)) (qlf sQ sQ me_int (aG (i:=0)) me_int)))).mb) rfl))⟩
abbrev Dh:=Cf
abbrev Dd:=(iG (dW (bh (aK (hU (gN "tuple")) (aa 4)))) (iG (bh (af im (aK cr (aa 4)) (ae (.int 2)))) (dW (bh (aS fyN (ak (af bd (aa 4) (ae (.int 0))) ag))))))
abbrev Dg:=(iG (dW (bh (aS fyO (ak (af bd (aa 4) (ae (.int 1))) (ak (aa 2) ag))))) (bh (af im (af bd (aa 4) (ae (.int 0))) (aS fyM (ak (aa 1) (ak (af bd (aa 4) (ae (.int 1))) (ak (aa 3) ag)))))))
abbrev DH:=(am (bY Dd (az (ae (.bl false))) aJ) (bY Dg (az (ae (.bl false))) aJ))
def EK:aD:=
 (am (bY Dh
   (az (ae (.bl false)))
   aJ)
 (am (bi (bz (aa 0)) (ai 4)
   DH)
 (az (ae (.bl true)))))
def fyP:List D->Option D:=aH false 4 5 EK
def qxr:b8 4 fyP:=cz
def qu5(T:Txt K mg a):FnOk P w K mg base bJ 5 a.fyP a.fdyP u9 (cc K false 4 fyP):=by
 exact cy T.DyP.F scyP λ_ _ _ _ _ _ hr=>⟨_,(aI (dQ (mo (kW (dw (qw (K:=K) rfl) (by rfl) T.z_isinstance (by rfl) (aj (pv 0) (aj (qq (v:=.ty "list") (by rfl) T.z_list (by rfl) rfl) av))))) (aQ (bM kL)) dU) (aI (fF x8 rfl (fy (K:=K) rfl (pv 0)) (dF 4 scyP.nd) (aI (dQ (PW.pt (fm (mo (kW (dw (qw (K:=K) rfl) (by rfl) T.z_isinstance (by rfl) (aj (pv 4) (aj (qq (v:=.ty "tuple") (by rfl) T.z_tuple (by rfl) rfl) av))))) (fm (cA (kU (K:=K) rfl hr.units) (dw (fP (K:=K) rfl) (by rfl) T.z_len (by rfl) (aj (pv 4) av)) ax (cu)) (eF (mo (kW (bj (Fm T) hr.m T.DyN (aj (aX (a9 (K:=K) rfl) (pv 4) ax) av)))))))) (aQ (bM kL)) dU) (aQ (dQ (PW.pt (fm (mo (kW (bj (qu6 T) hr.m T.DyO (aj (aX (a9 (K:=K) rfl) (pv 4) ax) (aj (pv 2) av))))) (eF (cA (kU (K:=K) rfl hr.units) (aX (a9 (K:=K) rfl) (pv 4) ax) (bj (qu7 T) hr.m T.DyM (aj (pv 1) (aj (aX (a9 (K:=K) rfl) (pv 4) ax) (aj (pv 3) av)))) (cu))))) (aQ (bM kL)) dU)))) (aQ (bM kL)))),by unfold EK;refine(aM (O1:=[]) (dP (mT (mU (qg (GV T) gH))) (bW rfl ?_ rfl) (dR rfl)) (aM (O1:=[]) (fN (O':=[]) ?_ rfl (cD (i:=4)) (aM (O1:=[]) (dP (pP (mT (mU (qg (qj2 T) gH))) (pP (ii (gO pQ (gR kO gH) me_int.mb)) (mT (mU (fA D7 (aC (dq gF (aG (i:=4)) me_int) bq)))))) (bW rfl ?_ rfl) (dR rfl)) (dP ?_ (bW rfl ?_ rfl) (dR rfl)))) (bW rfl ?_ rfl)))<;>walk_at "m"⟩
abbrev CS:=(cW f9 3 (ak (lE (aa 1) (kt (aa 4)) (kt (af bN (aa 4) (aa 6)))) ag))
abbrev Dy:=(am (aw 6 (aK sY (af bd (af bd (aa 0) (ae (.int 2))) (af b7 (aa 5) Cc)))) (am CS (aw 4 (af bN (aa 4) (aa 6)))))
def EL:aD:=
 (am (cg 3 (aW ag))
 (am (aw 4 (ae (.int 0)))
 (am (bi (gh (ak (aa 2) ag)) (ai 5)
   Dy)
 (az (aa 3)))))
def fyQ:List D->Option D:=aH false 3 7 EL
def qyu:b8 3 fyQ:=cz
def qu4(T:Txt K mg a):FnOk P w K mg base bJ 1 a.fyQ a.fdyQ uZ (cc K false 3 fyQ):=by
 exact cy T.DyQ.F scyQ λ_ _ _ _ _ _ hr=>⟨_,(aI (bD 3 scyQ.nd (d8 av)) (aI (bD 4 scyQ.nd ax) (aI (fF x8 rfl (i8 (by rfl) T.z_range (aj (pv 2) av)) (dF 5 scyQ.nd) (aI (bD 6 scyQ.nd (dw (qjs (K:=K) rfl rfl) (by rfl) T.z_sum (by rfl) (aj (aX (a9 (K:=K) rfl) (aX (a9 (K:=K) rfl) (pv 0) ax) (bc fw (pv 5) (dw (fP (K:=K) rfl) (by rfl) T.z_len (by rfl) (aj (aX (a9 (K:=K) rfl) (pv 0) ax) av)))) av))) (aI (iE (jC F.plainAttrs_list F.slot_list_append F.type_list_append kB (pv 3) (aj (m5 (m4 (K:=K) rfl) (pv 1) (mv (pv 4)) (mv (bc (dO (K:=K) rfl) (pv 4) (pv 6)))) av))) (aQ (bD 4 scyQ.nd (bc (dO (K:=K) rfl) (pv 4) (pv 6))))))) (aQ (bM (pv 3)))))),by unfold EL;refine(aM (O1:=[3]) (iA ?_ rfl) (aM (O1:=[3]) (bX ?_) (aM (O1:=[]) (mY (fN (O':=[3]) ?_ rfl (cD (i:=5)) (aM (O1:=[3]) (bX (gR qrg (dq gF (dq gF (aG (i:=0)) me_int) (dq oY (aG (i:=5)) (gR kO (dq gF (aG (i:=0)) me_int).mb))).mb)) (aM (O1:=[3]) (kT lB (by decide) ?_ rfl) (bX ?_)))) rfl) (bW rfl ?_ rfl))))<;>walk_at "m"⟩
abbrev C7:=(gx (aS fyG (ak (aa 0) (ak (aa 1) (ak (aa 3) (ak (aa 4) ag))))) (cY 2 (bE (ai 5) (bE (ai 6) c7))))
abbrev BZ:=(fD (ak (aa 2) (ak (aa 6) ag)))
def EM:aD:=
 (am C7
 (az (ca (ak (aa 5) (ak (aK hG (br (cI 2 [] none BZ (cY 2 (bE (ai 0) (bE (ai 1) c7))) (ae true) (aS fyL (ak (aa 0) (ak (aa 1) ag)))))) ag)))))
def fyR:List D->Option D:=aH false 5 7 EM
def qyt:b8 5 fyR:=cz
def Ef(T:Txt K mg a):FnOk P w K mg base bJ 3 a.fyR a.fdyR vh (cc K false 5 fyR):=by
 exact cy T.DyR.F scyR λ_ _ _ _ _ _ hr=>⟨_,(aI (o5 (bj (wM T) hr.m T.DyG (aj (pv 0) (aj (pv 1) (aj (pv 3) (aj (pv 4) av))))) (iC (K:=K) rfl rfl (eJ (dF 5 scyR.nd) (eJ (dF 6 scyR.nd) iD)))) (aQ (bM (f6 (aj (pv 5) (aj (dw (yG (K:=K) rfl rfl) (by rfl) T.z_sum (by rfl) (aj (mr (sc:=aU tw) (N0:=CY) rfl rfl rfl (show fM _ _ ["_law_told","_law_one"] 2 [] _=true by decide+kernel) (o7 (K:=K) rfl (by rfl) T.z_zip (aj (pv 2) (aj (pv 6) av))) (λ_ _ _ _ _=>(iC (K:=K) rfl rfl (eJ (gr (i:=0) (show List.Nodup (["_law_told","_law_one"]:Zj)from(by decide+kernel)) rfl (Or.inl rfl)) (eJ (gr (i:=1) (show List.Nodup (["_law_told","_law_one"]:Zj)from(by decide+kernel)) rfl (Or.inl rfl)) iD)))) (qC (by decide) (by decide)) (λ_ _ _ _ _=>qt) (λ_ _ _ _ _=>(bj (Fl T) hr.m T.DyL (aj (pv 0) (aj (pv 1) av))))) av)) av)))))),by unfold EM;refine(aM (O1:=[]) (tF ?_ rfl (i4 (e8 (cD (i:=5)) (e8 (cD (i:=6)) i6)))) (bW rfl ?_ rfl))<;>walk_at "m"⟩
abbrev su:=(af bd (af bd (aa 2) (aK cr (aa 4))) (aa 6))
abbrev DD:=(gx (aS fyR (ak (aa 0) (ak (aa 8) (ak (af bd (aa 1) (aa 8)) (ak (aa 6) (ak (ae (.int 0)) ag)))))) (cY 2 (bE (ai 11) (bE (ai 9) c7))))
abbrev vD:=(am (gx (aS fyR (ak (aa 0) (ak (aa 8) (ak (af bd (aa 1) (aa 8)) (ak (aa 6) (ak (af bd (aa 4) (aa 8)) ag)))))) (cY 2 (bE (ai 6) (bE (ai 9) c7)))) (aw 7 (af bN (aa 7) (aa 9))))
abbrev CL:=(af bd (af bd (aa 2) (af bN (aa 8) (ae (.int 1)))) (aa 11))
abbrev vG:=(bY (iG (bh (af gA CL (ae .non))) (bh (af im (af bN (aa 9) CL) (af bd (af bd (aa 2) (aa 8)) (aa 6))))) (am (aw 12 (ae (.int 1))) (aw 11 (af bd (aS fyG (ak (aa 0) (ak (aa 8) (ak (aa 6) (ak (ae (.int 1)) ag))))) (ae (.int 0))))) aJ)
abbrev uV:=(ak (aK cr (aa 4)) (ak (aa 5) ag))
abbrev Cu:=(am (cW f9 10 (ak (aa 12) ag)) (aw 6 (aa 11)))
abbrev C4:=(am DD (am (aw 12 (ae (.int 0))) (am vG Cu)))
abbrev Ck:=(az (ca (ak (aa 7) (ak (aa 10) ag))))
abbrev CA:=(bY (bh (af gA su (ae .non))) (az (ae .non)) aJ)
def EO:aD:=
 (am (aw 6 (aa 3))
 (am (aw 7 (ae (.int 0)))
 (am (bi (gh (ak (aK cr (aa 4)) ag)) (ai 8)
   vD)
 (am CA
 (am (cg 10 (hZ dE (aa 4)))
 (am (aw 7 (af bN (aa 7) su))
 (am (bi (oP uV) (ai 8)
   C4)
 Ck)))))))
def fyS:List D->Option D:=aH false 6 13 EO
def qys:b8 6 fyS:=cz
def qu2(T:Txt K mg a):FnOk P w K mg base bJ 4 a.fyS a.fdyS vq (cc K false 6 fyS):=by
 exact cy T.DyS.F scyS λ_ _ _ _ _ _ hr=>⟨_,(aI (bD 6 scyS.nd (pv 3)) (aI (bD 7 scyS.nd ax) (aI (fF x8 rfl (i8 (by rfl) T.z_range (aj (dw (fP (K:=K) rfl) (by rfl) T.z_len (by rfl) (aj (pv 4) av)) av)) (dF 8 scyS.nd) (aI (o5 (bj (Ef T) hr.m T.DyR (aj (pv 0) (aj (pv 8) (aj (aX (a9 (K:=K) rfl) (pv 1) (pv 8)) (aj (pv 6) (aj (aX (a9 (K:=K) rfl) (pv 4) (pv 8)) av)))))) (iC (K:=K) rfl rfl (eJ (dF 6 scyS.nd) (eJ (dF 9 scyS.nd) iD)))) (aQ (bD 7 scyS.nd (bc (dO (K:=K) rfl) (pv 7) (pv 9)))))) (aI (dQ (cA tI (aX (a9 (K:=K) rfl) (aX (a9 (K:=K) rfl) (pv 2) (dw (fP (K:=K) rfl) (by rfl) T.z_len (by rfl) (aj (pv 4) av))) (pv 6)) i5 (cu)) (aQ (bM i5)) dU) (aI (bD 10 scyS.nd (jJ (uv (K:=K) rfl) (by rfl) T.z_list (by rfl) (aj (pv 4) av))) (aI (bD 7 scyS.nd (bc (dO (K:=K) rfl) (pv 7) (aX (a9 (K:=K) rfl) (aX (a9 (K:=K) rfl) (pv 2) (dw (fP (K:=K) rfl) (by rfl) T.z_len (by rfl) (aj (pv 4) av))) (pv 6)))) (aI (fF x8 rfl (qhp (by rfl) T.z_range (aj (dw (fP (K:=K) rfl) (by rfl) T.z_len (by rfl) (aj (pv 4) av)) (aj (pv 5) av))) (dF 8 scyS.nd) (aI (o5 (bj (Ef T) hr.m T.DyR (aj (pv 0) (aj (pv 8) (aj (aX (a9 (K:=K) rfl) (pv 1) (pv 8)) (aj (pv 6) (aj ax av)))))) (iC (K:=K) rfl rfl (eJ (dF 11 scyS.nd) (eJ (dF 9 scyS.nd) iD)))) (aI (bD 12 scyS.nd ax) (aI (dQ (PW.pt (fm (cA tI (aX (a9 (K:=K) rfl) (aX (a9 (K:=K) rfl) (pv 2) (bc (dO (K:=K) rfl) (pv 8) ax)) (pv 11)) i5 (cu)) (eF (cA (kU (K:=K) rfl hr.units) (bc (dO (K:=K) rfl) (pv 9) (aX (a9 (K:=K) rfl) (aX (a9 (K:=K) rfl) (pv 2) (bc (dO (K:=K) rfl) (pv 8) ax)) (pv 11))) (aX (a9 (K:=K) rfl) (aX (a9 (K:=K) rfl) (pv 2) (pv 8)) (pv 6)) (cu))))) (aI (bD 12 scyS.nd ax) (aQ (bD 11 scyS.nd (aX (a9 (K:=K) rfl) (bj (wM T) hr.m T.DyG (aj (pv 0) (aj (pv 8) (aj (pv 6) (aj ax av))))) ax)))) dU) (aI (iE (jC F.plainAttrs_list F.slot_list_append F.type_list_append kB (pv 10) (aj (pv 12) av))) (aQ (bD 6 scyS.nd (pv 11)))))))) (aQ (bM (f6 (aj (pv 7) (aj (pv 10) av)))))))))))),by unfold EO;refine(aM (O1:=[]) (bX ?_) (aM (O1:=[]) (bX ?_) (aM (O1:=[]) (fN (O':=[]) ?_ rfl (cD (i:=8)) (aM (O1:=[]) (tF ?_ rfl (i4 (e8 (cD (i:=6)) (e8 (cD (i:=9)) i6)))) (bX ?_))) (aM (O1:=[]) (dP ?_ (bW rfl ?_ rfl) (dR rfl)) (aM (O1:=[10]) (iA (ue tR (aG (i:=4))) rfl) (aM (O1:=[10]) (bX ?_) (aM (O1:=[]) (mY (fN (O':=[10]) (qij (aC (gR kO gH) (aC (aG (i:=5)) bq))) rfl (cD (i:=8)) (aM (O1:=[10]) (tF ?_ rfl (i4 (e8 (cD (i:=11)) (e8 (cD (i:=9)) i6)))) (aM (O1:=[10]) (bX ?_) (aM (O1:=[10]) (dP ?_ (aM (O1:=[10]) (bX ?_) (bX ?_)) (dR rfl)) (aM (O1:=[10]) (kT lB (by decide) ?_ rfl) (bX ?_)))))) rfl) (bW rfl ?_ rfl))))))))<;>walk_at "m"⟩
abbrev CW:=(bh (af eK (lE (aa 0) (ae none) (kt (af bN (aa 2) (ae (.int 1))))) (aa 1)))
abbrev Dc:=(aw 5 (af bN (lE (aa 3) (ae none) (kt (aa 4))) (br (aW (ak (af iV (ae (.int 1)) (af bd (aa 3) (aa 4))) ag)))))
abbrev DI:=(am Dc (bY (dh (bh (af eK (br (cI 1 [5,4] none (bz (aa 0)) (ai 0) CW (aa 0))) (br (aW ag)))) (bh (af pk (aa 5) (aa 2)))) (cW f9 2 (ak (aa 5) ag)) aJ))
abbrev B5:=(bh (af eK (aa 0) (br (aW ag))))
abbrev C0:=(bY B5 (mQ (aW (ak (br (aW ag)) ag))) aJ)
abbrev Ch:=(bi (gh (ak (aa 1) ag)) (ai 4) DI)
def EQ:aD:=
 (am C0
 (am (cg 2 (aW ag))
 (am (bi (bz (aa 0)) (ai 3)
   Ch)
 (jE 2))))
def fyT:List D->Option D:=aH true 2 6 EQ
def qxq:b8 2 fyT:=cz
abbrev BX:List Str:=["_law_other","_law_bits","_law_number"]
def qu1(T:Txt K mg a):FnOk P w K mg base bJ 1 a.fyT a.fdyT uK (cc K true 2 fyT):=by
 exact cy T.DyT.F scyT λ_ _ _ _ _ _ hr=>⟨_,(aI (dQ (cA (eQ (K:=K) rfl hr.units) (pv 0) (d8 av) (cu)) (aQ (bM (d8 (aj (d8 av) av)))) dU) (aI (bD 2 scyT.nd (d8 av)) (aI (fF x8 rfl (fy (K:=K) rfl (pv 0)) (dF 3 scyT.nd) (aQ (fF x8 rfl (i8 (by rfl) T.z_range (aj (pv 1) av)) (dF 4 scyT.nd) (aI (bD 5 scyT.nd (bc (dO (K:=K) rfl) (m5 (m4 (K:=K) rfl) (pv 3) o9 (mv (pv 4))) (d8 (aj (bc qj ax (aX (a9 (K:=K) rfl) (pv 3) (pv 4))) av)))) (aQ (dQ (PW.pt (fq (cA (eQ (K:=K) rfl hr.units) (mr (sc:=aU tx) (N0:=CM) rfl rfl rfl (show fM _ _ BX 1 [5,4] _=true by decide+kernel) (fy (K:=K) rfl (pv 0)) (λ_ _ _ _ _=>(gr (i:=0) (show List.Nodup (BX:Zj)from(by decide+kernel)) rfl (Or.inl rfl))) (pf (by decide)) (λ_ _ _ _ _=>(o8 (cA (eQ (K:=K) rfl hr.units) (m5 (m4 (K:=K) rfl) (pv 0) o9 (mv (bc (dO (K:=K) rfl) (pv 2) ax))) (pv 1) (cu)))) (λ_ _ _ _ _=>(pv 0))) (d8 av) (cu)) (e7 (cA (qi4 (K:=K) rfl hr.units9) (pv 5) (pv 2) (by with_unfolding_all rfl))))) (aQ (iE (jC F.plainAttrs_list F.slot_list_append F.type_list_append kB (pv 2) (aj (pv 5) av)))) dU)))))) (aQ (bM (pv 2)))))),by unfold EQ;refine(aM (O1:=[]) (dP ?_ (ym rfl ?_ rfl) (dR rfl)) (aM (O1:=[2]) (iA ?_ rfl) (aM (O1:=[2]) (fN (O':=[2]) ?_ rfl (cD (i:=3)) (fN (O':=[2]) ?_ rfl (cD (i:=4)) (aM (O1:=[2]) (bX ?_) (dP (tG (ii (gO fK (dD (iB (bw:=none) (kR (aG (i:=0))) (cD (i:=0)) (ii (gO fK (ud (aG (i:=0)) tY (tZ (dq mV (aG (i:=2)) me_int))) gH)) (aG (i:=0)))) (dD (iz bq)).mb)) (ii (gO qi0 (aG (i:=5)) gH))) (kT lB (by decide) ?_ rfl) (dR rfl))))) (t0 rfl (by first|decide|simp) rfl (by first|decide|simp)))))<;>walk_at "m"⟩
abbrev Ds:=(aw 8 (aS fyu (ak (aa 0) (ak (aa 1) (ak (br (hZ dE (aa 2))) (ak (aa 7) ag))))))
abbrev CI:=(bh (af im (af bd (aa 3) (ae (.int 3))) (ae (.str "ring"))))
abbrev vC:=(iG CI (bh (af eK (aS fyH (ak (aa 3) (ak (aa 1) ag))) (aa 2))))
abbrev CV:=(ak (aa 0) (ak (aa 6) (ak (aa 8) (ak (aa 7) (ak (aa 10) (ak (aa 1) ag))))))
abbrev B6:=(bh (af im (aa 3) (br (aW ag))))
abbrev Cd:=(af bd (aa 3) (aK iW (ae (.int 1))))
abbrev vF:=(am (aw 11 (aS fyS CV)) (bY (dh (bh (af ix (aa 11) (ae .non))) (dh B6 (dW (bh (af hJ Cd (aa 11)))))) (az (ae (.bl false))) aJ))
abbrev CC:=(aw 6 (aS fyQ (ak (aa 0) (ak (aa 2) (ak (aa 5) ag)))))
abbrev vg:=(bY pG (aw 5 (af bN (aa 1) (af bd (aa 0) (ae (.int 0))))) aJ)
abbrev Ct:=(bz (br (i7 fyT (ak (aa 9) (ak (aa 1) ag)))))
abbrev De:=(am Ds (am (aw 9 (br (cI 2 [7,0] none (bz (aa 3)) (cY 2 (bE (ai 0) (bE (ai 1) c7))) vC (aa 1)))) (bi Ct (ai 10) vF)))
abbrev Cj:=(aw 4 (br (aW (ak (ae (.int 0)) ag))))
def ER:aD:=
 (am Cj
 (am (aw 5 (aa 1))
 (am (bY (bh oG)
   (aw 4 (br (hZ e9 (af bQ (ae (.int 1)) (af bd (aa 0) (ae (.int 0)))))))
   aJ)
 (am vg
 (am CC
 (am (bi (bz (aa 4)) (ai 7)
   De)
 (az (ae (.bl true)))))))))
def fyU:List D->Option D:=aH false 4 12 ER
def qyr:b8 4 fyU:=cz
abbrev vf:List Str:=["_law_price_here","_law_word","_law_start_here","_law_scheme_here"]
def qu0(T:Txt K mg a):FnOk P w K mg base bJ 8 a.fyU a.fdyU u8 (cc K false 4 fyU):=by
 have Gyu:=@quj P w K mg base a T;exact cy T.DyU.F scyU λ_ _ _ _ _ _ hr=>⟨_,(aI (bD 4 scyU.nd (d8 (aj ax av))) (aI (bD 5 scyU.nd (pv 1)) (aI (dQ (cA (eQ (K:=K) rfl hr.units) (aX (a9 (K:=K) rfl) (pv 0) ax) eU (cu)) (aQ (bD 4 scyU.nd (Gv rfl (by rfl) T.z_list (by rfl) T.z_range (bc oZ ax (aX (a9 (K:=K) rfl) (pv 0) ax))))) dU) (aI (dQ (cA (eQ (K:=K) rfl hr.units) (aX (a9 (K:=K) rfl) (pv 0) ax) eU (cu)) (aQ (bD 5 scyU.nd (bc (dO (K:=K) rfl) (pv 1) (aX (a9 (K:=K) rfl) (pv 0) ax)))) dU) (aI (bD 6 scyU.nd (bj (qu4 T) hr.m T.DyQ (aj (pv 0) (aj (pv 2) (aj (pv 5) av))))) (aI (fF x8 rfl (fy (K:=K) rfl (pv 4)) (dF 7 scyU.nd) (aI (bD 8 scyU.nd (zL Gyu hr.m (by rfl) T.mgyu T.Fyu.kp T.Byu .nil mF (aj (pv 0) (aj (pv 1) (aj (jJ (uv (K:=K) rfl) (by rfl) T.z_list (by rfl) (aj (pv 2) av)) (aj (pv 7) av)))))) (aI (yu (k:=9) (sc:=aU tz) (N0:=Do) rfl rfl rfl (show fM _ _ vf 2 [7,0] _=true by decide+kernel) scyU.nd rfl (Or.inl rfl) (fy (K:=K) rfl (pv 3)) (λ_ _ _ _ _=>(iC (K:=K) rfl rfl (eJ (gr (i:=0) (show List.Nodup (vf:Zj)from(by decide+kernel)) rfl (Or.inl rfl)) (eJ (gr (i:=1) (show List.Nodup (vf:Zj)from(by decide+kernel)) rfl (Or.inl rfl)) iD)))) (qC (by decide) (by decide)) (λ_ _ _ _ _=>(o8 (PW.pt (fm (cA (kU (K:=K) rfl hr.units) (aX (a9 (K:=K) rfl) (pv 3) ax) eU (cu)) (eF (cA (eQ (K:=K) rfl hr.units) (bj (Fj T) hr.m T.DyH (aj (pv 3) (aj (pv 1) av))) (pv 2) (cu))))))) (λ_ _ _ _ _=>(pv 1))) (aQ (fF x8 rfl (fy (K:=K) rfl (bj (qu1 T) hr.m T.DyT (aj (pv 9) (aj (pv 1) av)))) (dF 10 scyU.nd) (aI (bD 11 scyU.nd (bj (qu2 T) hr.m T.DyS (aj (pv 0) (aj (pv 6) (aj (pv 8) (aj (pv 7) (aj (pv 10) (aj (pv 1) av)))))))) (aQ (dQ (PW.pt (fq (cA yn (pv 11) i5 (cu)) (fq (cA (kU (K:=K) rfl hr.units) (pv 3) (d8 av) (cu)) (e7 (mo (cA (Fn (K:=K) rfl hr.units) (aX (a9 (K:=K) rfl) (pv 3) (vW yc ax)) (pv 11) (cu))))))) (aQ (bM kL)) dU)))))))) (aQ (bM kL)))))))),by unfold ER;refine(aM (O1:=[]) (bX ?_) (aM (O1:=[]) (bX ?_) (aM (O1:=[]) (dP ?_ (bX (dD (Gm (dq qh me_int (dq gF (aG (i:=0)) me_int))))) (dR rfl)) (aM (O1:=[]) (dP ?_ (bX ?_) (dR rfl)) (aM (O1:=[]) (bX ?_) (aM (O1:=[]) (fN (O':=[]) ?_ rfl (cD (i:=7)) (aM (O1:=[]) (bX (fA qxy (aC (aG (i:=0)) (aC (aG (i:=1)) (aC (dD (ue tR (aG (i:=2)))) (aC (aG (i:=7)) bq)))))) (aM (O1:=[]) (o6 ?_ rfl (by decide)) (fN (O':=[]) (kR (dD (lg qxq (aC (aG (i:=9)) (aC (aG (i:=1)) bq))))) rfl (cD (i:=10)) (aM (O1:=[]) (bX ?_) (dP (tG (ii (gO yo (aG (i:=11)) me_non.mb)) (tG (ii (gO pQ (aG (i:=3)) (dD (iz bq)).mb)) (mT (ii (gO Fo (dq gF (aG (i:=3)) (wK me_int)) gH))))) (bW rfl ?_ rfl) (dR rfl))))))) (bW rfl ?_ rfl)))))))<;>walk_at "m"⟩
abbrev vo:=(ak (aa 2) (ak (aa 4) (ak (br (hZ dE (aa 5))) (ak (aa 6) ag))))
abbrev Du:=(aw 2 (f8 fyE 1 (ak (ae (.int 4)) (ak (br (aW (ak (ae (.str "open")) (ak (ae (.str "ended")) (ak (ae (.str "open")) (ak (ae (.str "ended")) (ak (ae (.str "ring")) ag))))))) ag))))
abbrev CO:=(bY (dW (bh (af hJ (aa 8) (aa 9)))) (az (ae (.bl false))) aJ)
abbrev C8:=(fD (ak (lE (aa 7) (ae none) (kt (aK iW (ae (.int 1))))) (ak (lE (aa 7) (kt (ae (.int 1))) (ae none)) ag)))
abbrev Cw:=(ak (aa 2) (ak (aa 4) (ak (aa 5) (ak (aa 7) ag))))
abbrev DF:=(am (bi C8 (cY 2 (bE (ai 8) (bE (ai 9) c7))) CO) (az (aS fyU Cw)))
abbrev CG:=(bh (af eK (af bd (aa 2) (ae (.int 3))) (ae (.str "ring"))))
abbrev oH:=CG
abbrev Cz:=(bh (af uB (af bd (aa 2) (ae (.int 0))) (ae (.int 2))))
abbrev vE:=(bY (dh CG Cz) (aw 2 (ca (ak (af bd (aa 2) (ae (.int 0))) (ak (af bd (aa 2) (ae (.int 1))) (ak (af bd (aa 2) (ae (.int 2))) (ak (ae (.str "ended")) ag)))))) aJ)
abbrev C3:=(cg 3 (i7 fyC (ak (aS fyB (ak (aa 0) (ak (ae (.int 1)) ag))) (ak (ae (.int 1)) ag))))
abbrev u7:=(ak (aa 4) (ak (af bd (aa 2) (ae (.int 0))) ag))
abbrev ve:=(ak (aa 7) (ak (aa 2) (ak (aa 4) (ak (aa 5) ag))))
abbrev Cn:=(aw 4 (f8 fyD 3 (ak (ae (.int 13)) ag)))
abbrev Co:=(aw 6 (f8 fyD 3 (ak (ae (.int 10)) ag)))
abbrev CB:=(cg 1 (i7 fyC (ak (aS fyB sn) (ak (ae (.int 0)) ag))))
def DU(P0:Addr):aD:=
 (am CB
 (am Du
 (am vE
 (am C3
 (am Cn
 (am (bY oH
   (aw 4 (iH (λi j=>if j>i then j else i) u7))
   aJ)
 (am (aw 5 (br (i7 fyK (ak (aa 0) (ak (aa 2) (ak (br (cI 1 [3] (some (3,1)) (gh (ak (aa 4) ag)) (ai 0) (ae true) (f8 fyD 1 (ak (ae (.int 2)) ag)))) ag))))))
 (am Co
 (am (aw 7 (kQ 10 P0 d7 d5 (f_few P0) vo))
 (am (bY (iG (dW (bh (aS fyP ve))) (bh (af im (aK cr (aa 7)) (iH (λi j=>if j<i then j else i) (ak (aa 6) (ak (af bQ (ae (.int 1)) (aa 4)) ag))))))
   (az (ae (.bl false)))
   aJ)
 DF))))))))))
def f_law(P0:Addr):List D->Option D:=mi false 1 11 10 (.tab P0 d7 d5) (DU P0)
def quy(T:Txt K mg a):FnOk P w K mg base bJ 9 a.f_law a.fd_law ["_law_script"] (gw K a.tyA d7 d5 1 (f_law a.tyA)):=by
 have G_few:=@quz P w K mg base a T;refine T.D_law.F.okT (z:="@t") (j:=10) (u:=.ref a.tyA) sc_law rfl (by unfold lK;decide+kernel) (λvs H Q E h=>h.1) (λcdv A outer s H vs Q E hr h=>?_);refine⟨_,(aI (bD 1 sc_law.nd (bj (Ed T) hr.m T.DyC (aj (bj (v0 T) hr.m T.DyB (aj (pv 0) (aj ax av))) (aj ax av)))) (aI (bD 2 sc_law.nd (bj (qub T) hr.m T.DyE (aj (pv 1) (aj ax (aj (d8 (aj eU (aj eU (aj eU (aj eU (aj eU av)))))) av))))) (aI (dQ (PW.pt (fq (cA (eQ (K:=K) rfl hr.units) (aX (a9 (K:=K) rfl) (pv 2) ax) eU (cu)) (e7 (cA sO (aX (a9 (K:=K) rfl) (pv 2) ax) ax (cu))))) (aQ (bD 2 sc_law.nd (f6 (aj (aX (a9 (K:=K) rfl) (pv 2) ax) (aj (aX (a9 (K:=K) rfl) (pv 2) ax) (aj (aX (a9 (K:=K) rfl) (pv 2) ax) (aj eU av))))))) dU) (aI (bD 3 sc_law.nd (bj (Ed T) hr.m T.DyC (aj (bj (v0 T) hr.m T.DyB (aj (pv 0) (aj ax av))) (aj ax av)))) (aI (bD 4 sc_law.nd (bj (kJ T) hr.m T.DyD (aj (pv 3) (aj ax av)))) (aI (dQ (cA (eQ (K:=K) rfl hr.units) (aX (a9 (K:=K) rfl) (pv 2) ax) eU (cu)) (aQ (bD 4 sc_law.nd (dw (Hy rfl) (by rfl) T.z_max (by rfl) (aj (pv 4) (aj (aX (a9 (K:=K) rfl) (pv 2) ax) av))))) dU) (aI (bD 5 sc_law.nd (bj (qu8 T) hr.m T.DyK (aj (pv 0) (aj (pv 2) (aj (jp sc_law ["_law_k","_law_second"] [3] (i8 (by rfl) T.z_range (aj (pv 4) av)) (bj (kJ T) hr.m T.DyD (aj (pv 1) (aj ax av)))) av))))) (aI (bD 6 sc_law.nd (bj (kJ T) hr.m T.DyD (aj (pv 3) (aj ax av)))) (aI (bD 7 sc_law.nd (zL G_few hr.m (by rfl) T.mg_few T.F_few.kp T.B_few .nil mF (aj (pv 2) (aj (pv 4) (aj (jJ (uv (K:=K) rfl) (by rfl) T.z_list (by rfl) (aj (pv 5) av)) (aj (pv 6) av)))))) (aI (dQ (PW.pt (fm (mo (kW (bj (qu5 T) hr.m T.DyP (aj (pv 7) (aj (pv 2) (aj (pv 4) (aj (pv 5) av))))))) (eF (cA (kU (K:=K) rfl hr.units) (dw (fP (K:=K) rfl) (by rfl) T.z_len (by rfl) (aj (pv 7) av)) (dw (Hz rfl) (by rfl) T.z_min (by rfl) (aj (pv 6) (aj (bc oZ ax (pv 4)) av))) (cu))))) (aQ (bM kL)) dU) (aI (fF x8 rfl (o7 (K:=K) rfl (by rfl) T.z_zip (aj (m5 (m4 (K:=K) rfl) (pv 7) o9 (mv (vW yc ax))) (aj (m5 (m4 (K:=K) rfl) (pv 7) (mv ax) o9) av))) (iC (K:=K) rfl rfl (eJ (dF 8 sc_law.nd) (eJ (dF 9 sc_law.nd) iD))) (aQ (dQ (mo (cA (Fn (K:=K) rfl hr.units) (pv 8) (pv 9) (cu))) (aQ (bM kL)) dU))) (aQ (bM (bj (qu0 T) hr.m T.DyU (aj (pv 2) (aj (pv 4) (aj (pv 5) (aj (pv 7) av)))))))))))))))))),?_⟩;exact HR (O':=[]) (Nms:=Dl) (by decide) (by unfold DU;refine(aM (O1:=[1]) (iA (lg D5 (aC (fA vQ (aC (aG (i:=0)) (aC me_int bq))) (aC me_int bq))) rfl) (aM (O1:=[]) (bX (kA (i:=1) qxv (by decide) (aC me_int (aC (dD (iz (aC oV (aC oV (aC oV (aC oV (aC oV bq))))))) bq)))) (aM (O1:=[]) (dP ?_ (bX ?_) (dR rfl)) (aM (O1:=[3]) (iA (lg D5 (aC (fA vQ (aC (aG (i:=0)) (aC me_int bq))) (aC me_int bq))) rfl) (aM (O1:=[3]) (bX (kA (i:=3) kK (by decide) (aC me_int bq))) (aM (O1:=[3]) (dP ?_ (bX (sN (aC (aG (i:=4)) (aC (dq gF (aG (i:=2)) me_int) bq)))) (dR rfl)) (aM (O1:=[3]) (bX (dD (lg qxt (aC (aG (i:=0)) (aC (aG (i:=2)) (aC (dD (iB (bw:=(some (3,1))) (qG (aC (aG (i:=4)) bq)) (cD (i:=0)) jX (kA (i:=1) kK (by decide) (aC me_int bq)))) bq)))))) (aM (O1:=[]) (bX (kA (i:=3) kK (by decide) (aC me_int bq))) (aM (O1:=[]) (bX (yX (by decide) qy4 (aC (aG (i:=2)) (aC (aG (i:=4)) (aC (dD (ue tR (aG (i:=5)))) (aC (aG (i:=6)) bq)))))) (aM (O1:=[]) (dP (pP (mT (mU (fA qxr (aC (aG (i:=7)) (aC (aG (i:=2)) (aC (aG (i:=4)) (aC (aG (i:=5)) bq))))))) (ii (gO pQ (gR kO gH) (sN (aC (aG (i:=6)) (aC (dq qh me_int (aG (i:=4))) bq))).mb))) (bW rfl ?_ rfl) (dR rfl)) (aM (O1:=[]) (fN (O':=[]) (oX (aC (ud (aG (i:=7)) tY (tZ (wK me_int))) (aC (ud (aG (i:=7)) (tZ me_int) tY) bq))) rfl (i4 (e8 (cD (i:=8)) (e8 (cD (i:=9)) i6))) (dP ?_ (bW rfl ?_ rfl) (dR rfl))) (bW rfl ?_ rfl))))))))))))<;>walk_at "m") h
end
section
variable{r:Int}{U:Zf}{G:Z9}{e:Str}
def lN(ok:q27 r U G e):fy1 [au r U G e]=some (.int (2^r.toNat)):=by
 have r0:=ok.r0;have r4:=ok.r4;have r6:r<=1000000:=by omega
 have hr:fy0 [.int r]=some (.int (2^r.toNat)):=by unfold fy0 oq;clear ok;walk_at "e"
 unfold fy1 oo au;clear ok;walk_at "e"
theorem Gs(n:D):∀(f zl:Nat) (l o:Int),0<=l->l.toNat<2^f->(o=0∨o=1)->f<zl->∃l':Int,ik uQ
 vx zl [n,D.int l,D.int o]=some (.nx [n,D.int l',D.int ((o+(cn f l.toNat:Nat)) % 2)])
 |_,0,_,_,_,_,_,h=>absurd h (Nat.not_lt_zero _)
 | f,zl+1,l,o,l0,lf,ho,hf=>by
  have ht:uQ [n,D.int l,D.int o]=some (decide (0<l),[some n,some (.int l),some (.int o)]):=by walk_at "e"
  by_cases hl:0<l
  .cases f with
   |zero=>exact absurd lf (by omega)
   | succ f=>
    have hb:vx [n,D.int l,D.int o]=some (.nx [n,D.int (l / 2),D.int (Builtin.bitXor o (Builtin.bitAnd l 1))]):=by clear ht;walk_at "e"
    have ex:Builtin.bitXor o (Builtin.bitAnd l 1)=(o+l % 2) % 2:=by rw[qrz l0];exact qk9 ho (by omega)
    have e2:(l / 2).toNat=l.toNat / 2:=by omega
    have lt2:(l / 2).toNat<2^f:=by rw[e2];rw[Nat.pow_succ]at lf;omega
    let⟨l',ih⟩:=Gs n f zl (l / 2) (Builtin.bitXor o (Builtin.bitAnd l 1)) (by omega) lt2 (by rw[ex];omega) (by omega);refine⟨l',?_⟩;rw[decide_eq_true hl]at ht;unfold ik;rw[ht];dsimp only;rw[hb];dsimp only;rw[ih,ex,e2];have u:cn (f+1) l.toNat=(l.toNat % 2+cn f (l.toNat / 2)) % 2:=rfl;rw[u];have ev:((o+l % 2) % 2+(cn f (l.toNat / 2):Nat)) % 2=(o+(((l.toNat % 2+cn f (l.toNat / 2)) % 2:Nat):Int)) % 2:=by omega
    rw[ev]
  .rw[decide_eq_false hl]at ht;refine⟨l,?_⟩;unfold ik;rw[ht];dsimp only;have e0:l=0:=by omega
   subst e0;rw[show((0:Int)).toNat=0 from rfl,uk];have ev:(o+((0:Nat):Int)) % 2=o:=by omega
   rw[ev]
def rJ(n:Int)(h0:0<=n)(h:n<32):fy2 [.int n]=some (.int (cn 5 n.toNat:Nat)):=by
 let⟨l',hw⟩:=Gs (.int n) 5 1000 n 0 h0 (by omega) (.inl rfl) (by decide);have e1:((0:Int)+(cn 5 n.toNat:Nat)) % 2=(cn 5 n.toNat:Nat):=by have:=yp 5 n.toNat;omega
 rw[e1]at hw;generalize cn 5 n.toNat=p at hw ⊢;unfold fy2 om;generalize (1000:Nat)=zl at hw ⊢;clear h0 h e1;walk_at "e"
def rH(ok:q27 r U G e)(z6 bit:Int)(a0:0<=z6)(a1:z6<2^r.toNat)(hb:bit=0∨bit=1):
 fy3 [au r U G e,.int z6,.int bit]=some (.tup [.int ((2*z6+bit) % 2^r.toNat),.tup ((U.map (dG (2*z6+bit))).map D.int)]):=by
 have p16:=jZ ok.r0 ok.r4;have hr:=lN ok;have hp:=rJ;have m0:(0:Int)<2^r.toNat:=by omega
 have cm:=iy (n:=1) (js:=[3]) (fg:=ai 0) (fe:=aS fy2 pC) (M:=[au r U G e,D.int z6,D.int bit,D.int (2*z6+bit),none]) (λd=>match d with|.int t=>.int (dG (2*z6+bit) t)|d=>d) (U.map D.int) (λx hx=>by
  obtain⟨t,ht,rfl⟩:=List.mem_map.mp hx;refine⟨[D.int t,D.int (2*z6+bit)],rfl,?_⟩;have tb:=ok.tb t ht;have w0:0<=2*z6+bit:=by omega
  have ea:=FZ w0 tb.1;have lt:(2*z6+bit).toNat &&& t.toNat<32:=Nat.lt_of_le_of_lt Nat.and_le_left (by omega);have hq:=rJ (((2*z6+bit).toNat &&& t.toNat:Nat):Int) (by omega) (by omega);rw[jy,<-ea]at hq;show _=some (D.int (dG (2*z6+bit) t));unfold dG;generalize 2*z6+bit=W at hq ⊢;generalize cn 5 (W.toNat &&& t.toNat)=z at hq ⊢;clear hx ht tb w0 ea lt hr hp hb a0 a1 m0 p16;walk_at "e")
 have e2:(U.map D.int).map (λd=>match d with|.int t=>D.int (dG (2*z6+bit) t)|d=>d)=(U.map (dG (2*z6+bit))).map D.int:=by rw[jj,jj];rfl
 rw[e2]at cm;have ll:(U.map D.int).length<=sizeLine:=by rw[j7];exact dg (by have:=ok.t4;omega)
 unfold fy3 ol;unfold au at cm hr ⊢;generalize (U.map (dG (2*z6+bit))).map D.int=S at cm ⊢;generalize U.map D.int=TS at cm hr ll ⊢;generalize (2:Int)^r.toNat=m at hr m0 a1 p16 ⊢;have two:2<=sizeLine:=by decide
 clear ok hp hb a0 a1 p16 e2;walk_at "e"
def wQ(ok:q27 r U G e):fy5 [au r U G e]=some (.bl (bS e)):=by
 have h1:=iL;have h2:=iM;have h3:=gY;unfold fy5 oh au bS;rcases ok.en with rfl|rfl|rfl
 .rw[decide_eq_false (by decide)];clear ok;walk_at "e"
 .rw[decide_eq_false (by decide)];clear ok;walk_at "e"
 .rw[decide_eq_true rfl];clear ok;walk_at "e"
def qph(ok:q27 r U G e)(n:Int)(h:e="ring"->r<=n):fy6 [au r U G e,.int n]=some .non:=by
 have hr:=wQ ok;unfold fy6 og;cases hi:bS e with
 | false=>
  rw[hi]at hr;clear ok hi;generalize au r U G e=S at hr ⊢;walk_at "e"
 | true=>
  rw[hi]at hr;have hn:¬n<r:=by have:=h (of_decide_eq_true hi);omega
  unfold au at hr ⊢;clear ok hi h;walk_at "e"
def ql5(ok:q27 r U G e):fy7 [au r U G e]=some (.int (aB r e:Nat)):=by
 have h1:=nL;have h2:=nM;have h3:=nK;have r0:=ok.r0;have er:((r.toNat:Nat):Int)=r:=by omega
 unfold fy7 oa au aB;rcases ok.en with rfl|rfl|rfl
 .rw[if_neg (by decide)];clear ok;walk_at "e"
 .rw[if_pos rfl,er];clear ok er;walk_at "e"
 .rw[if_neg (by decide)];clear ok;walk_at "e"
def jH(ok:q27 r U G e):aB r e<=4:=by have:=ok.r4;unfold aB;split<;>omega
def wV(ok:q27 r U G e)(k:Nat):bB (G.map c0) ((k:Int) % ((G.map c0).length:Nat))=some (.tup ((aE G k).map D.int)):=by
 have m1:=ok.m1;have hk:k % G.length<G.length:=Nat.mod_lt _ (by omega);have e1:((k:Int) % ((G.map c0).length:Nat))=((k % G.length:Nat):Int):=by rw[j7];exact(Int.natCast_emod k G.length).symm
 rw[e1,i3 (by omega) (by rw[j7];omega),jy,je];unfold aE;rw[jb hk];rfl
def G9(ok:q27 r U G e)(k:Nat)(signs:Zf)(hl:signs.length<=1000):
 fy4 [au r U G e,.int k,.tup (signs.map D.int)]=some (.tup ((fz (aE G k) signs).map D.int)):=by
 have hr:=wV ok k;have zc:0<(G.map c0).length:=by have:=ok.m1;rw[j7];omega
 have hz:cU (signs.map D.int) ((aE G k).map D.int)=(signs.zip (aE G k)).map λq=>D.tup [.int q.1,.int q.2]:=qfn;have cm:∀M:aA,cK 2 [] none (cY 2 (bE (ai 0) (bE (ai 1) c7))) (bh (af eK (aa 1) (ae (.int 1)))) (aa 0) ((signs.zip (aE G k)).map λq=>D.tup [.int q.1,.int q.2]) M=some ((fz (aE G k) signs).map D.int,M):=λM=>by
  have:=m9 (n:=2) (js:=[]) (fg:=cY 2 (bE (ai 0) (bE (ai 1) c7))) (ft:=bh (af eK (aa 1) (ae (.int 1)))) (fe:=aa 0) (M:=M) (λd=>match d with|.tup [_,.int b]=>b==1|_=>false) (λd=>match d with|.tup [x,_]=>x|d=>d) ((signs.zip (aE G k)).map λq=>D.tup [.int q.1,.int q.2]) (λx hx=>by obtain⟨q,_,rfl⟩:=List.mem_map.mp hx;refine⟨[D.int q.1,D.int q.2],rfl,?_,λ_=>rfl⟩;clear hr hz hx;walk_at "e")
  rw[this,List.filter_map,jj];unfold fz;rw[jj];rfl
 have ll:((signs.zip (aE G k)).map λq=>D.tup [.int q.1,.int q.2]).length<=sizeLine:=by rw[j7,k7];exact dg (by have:=kl signs.length (aE G k).length;omega)
 unfold fy4 oj au;generalize (signs.zip (aE G k)).map (λq=>D.tup [.int q.1,.int q.2])=Z at hz cm ll;generalize (fz (aE G k) signs).map D.int=Y at cm ⊢;generalize (aE G k).map D.int=R at hr hz;generalize G.map c0=RS at hr zc ⊢;generalize signs.map D.int=S at hz ⊢;clear ok hl;walk_at "e"
def ql2(t:Told):fyj [bo t]=some (bG t):=by
 have h1:=qW;have h2:=qV;have h3:=qT;have h4:=qX;have h5:=qU;unfold fyj wg;cases t with
 |clear b=>unfold bo bG;walk_at "e"
 |gap=>unfold bo bG;walk_at "e"
 |soft z o=>unfold bo bG;walk_at "e"
def AC(c b:Int):fyd [.obj "Clear" [("bit",.int c)],.int b]=some (.int (if b=c then 0 else 1)):=by
 have h1:iU "Clear" "bit" (.obj "Clear" [("bit",.int c)])=some (.int c):=yi (by simp[List.lookup_cons]);unfold fyd wb;generalize D.obj "Clear" [("bit",.int c)]=X at h1 ⊢;by_cases h:b=c
 .rw[if_pos h];have h':(b==c)=true:=beq_iff_eq.mpr h;clear h;walk_at "e"
 .rw[if_neg h];have h':(b==c)=false:=beq_eq_false_iff_ne.mpr h;walk_at "e"
def AB{X:D}(b:Int):fyf [X,.int b]=some (.int 0):=by unfold fyf wc;walk_at "e"
def Az(z o b:Int):fyi [.obj "Soft" [("zero",.int z),("one",.int o)],.int b]=some (.int (if b=1 then o else z)):=by
 have nz:(("one":Str)=="zero")=false:=by decide+kernel
 have h1:iU "Soft" "one" (.obj "Soft" [("zero",.int z),("one",.int o)])=some (.int o):=yi (by rw[List.lookup_cons,nz];simp[List.lookup_cons]);have h2:iU "Soft" "zero" (.obj "Soft" [("zero",.int z),("one",.int o)])=some (.int z):=yi (by simp[List.lookup_cons]);unfold fyi wd;generalize D.obj "Soft" [("zero",.int z),("one",.int o)]=X at h1 h2 ⊢;by_cases h:b=1
 .rw[if_pos h];subst h;walk_at "e"
 .rw[if_neg h];have h':(b==1)=false:=beq_eq_false_iff_ne.mpr h;walk_at "e"
def qpg(t:Told)(b:Int):sA [bG t,D.int b]=some (.int (gG t b),[some (bG t),some (.int b)]):=by
 have n1:¬(("Gap":Str)="Clear"):=by decide+kernel
 have n2:¬(("Soft":Str)="Clear"):=by decide+kernel
 have n3:¬(("Soft":Str)="Gap"):=by decide+kernel
 have m1:(("cost":Str)=="bit")=false:=by decide+kernel
 have m2:(("cost":Str)=="zero")=false:=by decide+kernel
 have m3:(("cost":Str)=="one")=false:=by decide+kernel
 cases t with
 | clear c=>
  have h1:jW "Clear" "cost" fyd (bG (.clear c)) [.int b]=some (.int (gG (.clear c) b)):=(yK (by rw[List.lookup_cons,m1];rfl)).trans (AC c b);generalize bG (.clear c)=X at h1 ⊢;generalize gG (.clear c) b=z at h1 ⊢;clear n1 n2 n3 m1 m2 m3;walk_at "e"
 | gap=>
  have h1:jW "Clear" "cost" fyd (bG .gap) [.int b]=none:=yZ n1;have h2:jW "Gap" "cost" fyf (bG .gap) [.int b]=some (.int (gG .gap b)):=(yK rfl).trans (AB b);generalize bG .gap=X at h1 h2 ⊢;generalize gG .gap b=z at h2 ⊢;clear n1 n2 n3 m1 m2 m3;walk_at "e"
 | soft z o=>
  have h1:jW "Clear" "cost" fyd (bG (.soft z o)) [.int b]=none:=yZ n2;have h2:jW "Gap" "cost" fyf (bG (.soft z o)) [.int b]=none:=yZ n3;have h3:jW "Soft" "cost" fyi (bG (.soft z o)) [.int b]=some (.int (gG (.soft z o) b)):=(yK (by rw[List.lookup_cons,m2,List.lookup_cons,m3];rfl)).trans (Az z o b);generalize bG (.soft z o)=X at h1 h2 h3 ⊢;generalize gG (.soft z o) b=y at h3 ⊢;clear n1 n2 n3 m1 m2 m3;walk_at "e"
def Gr(ok:q27 r U G e)(n:Nat)(h:e="ring"->r.toNat<=n):fy9 [au r U G e,.int n]=some (.int ((n+aB r e:Nat):Int)):=by
 have r0:=ok.r0;have hc:=qph ok n (λq=>by have:=h q;omega);have hz:=ql5 ok;have e1:((n+aB r e:Nat):Int)=(n:Int)+(aB r e:Nat):=by omega
 rw[e1];unfold fy9 n9;generalize au r U G e=S at hc hz ⊢;generalize (aB r e:Nat)=z at hz ⊢;clear ok h e1 r0;walk_at "e"
def qtk{S:D}{n' N nz:Int}{S2 F:List D}{v4:Option D}(z0:0<=sizeLine)(hst:fy3 [S,.int 0,.int 0]=some (.tup [.int nz,.tup S2]))(hs:fy9 [S,.int n']=some (.int N))(bg:eh N=true)
 (l1:dI (ai 4) Cb (cR 0 N.toNat) [S,D.int n',D.tup S2,D.lst [],none]=some (.nx [S,D.int n',D.tup S2,D.lst F,v4])):fya [S,.int n']=some (.lst F):=by
 unfold fya wa;walk_at "e"
def G8(ok:q27 r U G e)(n:Nat)(hn:n<=60)(h:e="ring"->r.toNat<=n):fya [au r U G e,.int n]=some (.lst ((bK U G (n+aB r e)).map D.int)):=by
 have z4:=jH ok;have hs:=Gr ok n h;have p16:=jZ ok.r0 ok.r4;have hst:=rH ok 0 0 (by omega) (by omega) (.inl rfl);have ht:=G9 ok;have sl:∀k,(fz (aE G k) (U.map (dG (2*0+0)))).length=(bF U G k).length:=λk=>by rw[qI,j7];rfl
 have s4:∀k,(bF U G k).length<=4:=λk=>by unfold bF;refine ju (List.length_filter_le _ _) ?_;rw[k7];have:=ok.t4;have:=kl U.length (aE G k).length;omega
 have st:=λk:Nat=>ht k (U.map (dG (2*0+0))) (by rw[j7];have:=ok.t4;omega);generalize hS2:(U.map (dG (2*0+0))).map D.int=S2 at hst st;let⟨M',l1,v4,hρ⟩:=gn (fg:=ai 4) (fb:=iN 3 (eE (aW (ak (aa 4) ag)) sy))
  (λk M=>∃v4,M=[some (au r U G e),some (.int (n:Int)),some (.tup S2),some (.lst ((bK U G k).map D.int)),v4]) (cR 0 (n+aB r e)) 0
  [some (au r U G e),some (.int (n:Int)),some (.tup S2),some (.lst []),none] ⟨none,rfl⟩ (λi x M hx ⟨v4,hρ⟩=>by
   subst hρ;obtain⟨hi,rfl⟩:=jL hx;rw[jv,Int.zero_add];have eP:bK U G (i+1)=bK U G i++List.replicate (bF U G i).length (i:Int):=jI _ _;rw[eP,x5,List.map_replicate];have hsa:=st i;have hln:(((fz (aE G i) (U.map (dG (2*0+0)))).map D.int).length:Int)=((bF U G i).length:Nat):=by rw[j7,sl]
   have hrp:gZ [D.int (i:Int)] (.int ((bF U G i).length:Nat))=some (List.replicate (bF U G i).length (.int (i:Int))):=by rw[yx (by omega) (by have:=s4 i;omega),jy]
   have ln:((bK U G i).map D.int).length+(List.replicate (bF U G i).length (D.int (i:Int))).length<=sizeLine:=by have q1:(bK U G i).length<=i*4:=uc _ 4 (λk=>by rw[jw];exact s4 k) i;have q2:=s4 i;rw[j7,jw];exact dg (by omega)
   generalize (fz (aE G i) (U.map (dG (2*0+0)))).map D.int=PK at hsa hln;rw[<-hln]at hrp;generalize List.replicate (bF U G i).length (D.int (i:Int))=RP at hrp ln ⊢;generalize (bK U G i).map D.int=F at ln ⊢;refine⟨_,[au r U G e,D.int (n:Int),D.tup S2,D.lst (F++RP),D.int (i:Int)],rfl,.inl ?_,some (.int (i:Int)),rfl⟩;have one:1<=sizeLine:=by decide
   generalize au r U G e=S at hsa ⊢;clear hln eP hst st sl s4 hs ok ht hi hx p16 hS2 h;have hrep:(eE (aW (ak (aa 4) ag)) sy) [S,D.int (n:Int),D.tup S2,D.lst F,D.int (i:Int)]=some (RP,[some S,some (.int (n:Int)),some (.tup S2),some (.lst F),some (.int (i:Int))]):=by
    refine wU (xs:=[.int (i:Int)]) (y:=.int (PK.length:Nat)) (M1:=[S,D.int (n:Int),D.tup S2,D.lst F,D.int (i:Int)]) ?_ ?_ hrp
    .clear hrp hsa ln;generalize (n:Int)=n';generalize (i:Int)=i';walk_at "e"
    .clear hrp ln;generalize (n:Int)=n';generalize (i:Int)=i' at hsa ⊢;walk_at "e"
   generalize (eE (aW (ak (aa 4) ag)) sy)=FR at hrep ⊢;clear hrp hsa;generalize (n:Int)=n' at hrep ⊢;generalize (i:Int)=i' at hrep ⊢;walk_at "e")
 subst hρ;rw[gq,jv]at l1;have bg:eh ((n+aB r e:Nat):Int)=true:=by unfold eh;simp;omega
 have z0:0<=sizeLine:=by decide
 have tn:((n+aB r e:Nat):Int).toNat=n+aB r e:=jy _;rw[<-tn]at l1;exact qtk z0 hst hs bg l1
def ql4(ok:q27 r U G e)(n:Nat)(hn:n<=60)(h:e="ring"->r.toNat<=n)(hs:List D)(hl:hs.length=(bK U G (n+aB r e)).length):fyk [au r U G e,.int n,.lst hs]=some .non:=by
 have hp:=G8 ok n hn h;have hl2:hs.length=((bK U G (n+aB r e)).map D.int).length:=by rw[j7,hl]
 unfold fyk wj;generalize (bK U G (n+aB r e)).map D.int=F at hp hl2;generalize au r U G e=S at hp ⊢;clear ok h hl hn;walk_at "e"
def qt9{M M1:aA}{fs:ba}{n:Int}(h:fs M=some ([.int n],M1))(bg:eh n=true):gh fs M=some (cR 0 n.toNat,M1):=by rw[Ge,h];show((if eh n=true then some (cR 0 n.toNat)else none).map λx=>(x,M1))=_;rw[if_pos bg];rfl
def aV{f g:aD}{M M1:aA}(h:f M=some (.nx M1)):am f g M=g M1:=by rw[yg,h];rfl
def tM{f g:aD}{M M1:aA}{d:D}(h:f M=some (.rt d M1)):am f g M=some (.rt d M1):=by rw[yg,h];rfl
def gP{b:aD}{n k:Nat}{ds:List D}{d:D}(hl:ds.length=n)(h:∃M,b (ds.map some++List.replicate (k-n) none)=some (.rt d M)):aH false n k b ds=some d:=by obtain⟨M,h⟩:=h;unfold aH;rw[if_pos hl,h]
def qou(t:Told)(b:Int)(hb:b=0∨b=1):fyL [bo t,.int b]=some (.int (gG t b)):=by
 have h1:=qW;have h2:=qV;have h3:=qT;have h4:=qX;have h5:=qU;cases t with
 | clear c=>
  show fyL [.tup [.str "clear",.int c],.int b]=some (.int (if b=c then 0 else 1));unfold fyL p9;by_cases h:b=c
  .rw[if_pos h];have h':(c==b)=true:=beq_iff_eq.mpr h.symm;clear h hb;walk_at "e"
  .rw[if_neg h];have h':(c==b)=false:=beq_eq_false_iff_ne.mpr λq=>h q.symm;have h'':¬c=b:=λq=>h q.symm;clear h hb;walk_at "e"
 | gap=>
  show fyL [.tup [.str "gap"],.int b]=some (.int 0);unfold fyL p9;clear hb;walk_at "e"
 | soft z o=>
  show fyL [.tup [.str "soft",.int z,.int o],.int b]=some (.int (if b=1 then o else z));unfold fyL p9;rcases hb with rfl|rfl
  .rw[if_neg (by decide)];walk_at "e"
  .rw[if_pos rfl];walk_at "e"
theorem zB(M:aA):∀(zs:List (Told×Int)),(∀q∈zs,q.2=0∨q.2=1)->cK 2 [] none (cY 2 (bE (ai 0) (bE (ai 1) c7))) (ae true) (aS fyL (ak (aa 0) (ak (aa 1) ag))) (zs.map λq=>D.tup [bo q.1,.int q.2]) M=some ((zs.map λq=>gG q.1 q.2).map D.int,M)
 |[],_=>rfl
 | q::zs,h=>by
  have ih:=zB M zs λp hp=>h p (jd _ hp);have hg:(cY 2 (bE (ai 0) (bE (ai 1) c7))) (D.tup [bo q.1,.int q.2]) (hW 2 [] M)=some [some (bo q.1),some (.int q.2)]:=rfl;have he:aS fyL (ak (aa 0) (ak (aa 1) ag)) [bo q.1,D.int q.2]=some (.int (gG q.1 q.2),[some (bo q.1),some (.int q.2)]):=by have:=qou q.1 q.2 (h q jf);generalize bo q.1=X at this ⊢;generalize gG q.1 q.2=z at this ⊢;generalize q.2=b at this ⊢;clear ih hg h;walk_at "e"
  rw[jz];unfold cK;rw[hg];dsimp only[ae];rw[he];dsimp only[gL];rw[ih];rfl
def ql1{ts:List Told}{bits:Zf}(hl:ts.length<=1000):fyl [.lst (ts.map bG),.tup (bits.map D.int)]=some (.int (gg ts bits)):=by
 have hz:cU (ts.map bG) (bits.map D.int)=(ts.zip bits).map λq=>D.tup [bG q.1,.int q.2]:=by rw[qE,qF,jj];rfl
 have cm:∀M:aA,cK 2 [] none (cY 2 (bE (ai 0) (bE (ai 1) c7))) (ae true) sA ((ts.zip bits).map λq=>D.tup [bG q.1,.int q.2]) M=some (((ts.zip bits).map λq=>gG q.1 q.2).map D.int,M):=λM=>by
  have:∀zs:List (Told×Int),cK 2 [] none (cY 2 (bE (ai 0) (bE (ai 1) c7))) (ae true) sA (zs.map λq=>D.tup [bG q.1,.int q.2]) M=some ((zs.map λq=>gG q.1 q.2).map D.int,M):=λzs=>by
   induction zs with
   |nil=>rfl
   | cons q zs ih=>
    have hg:(cY 2 (bE (ai 0) (bE (ai 1) c7))) (D.tup [bG q.1,.int q.2]) (hW 2 [] M)=some [some (bG q.1),some (.int q.2)]:=rfl;rw[jz];unfold cK;rw[hg];dsimp only[ae];rw[qpg q.1 q.2];dsimp only[gL];rw[ih];rfl
  exact this _
 have ll:((ts.zip bits).map λq=>D.tup [bG q.1,.int q.2]).length<=sizeLine:=by rw[j7,k7];exact dg (by have:=kl ts.length bits.length;omega)
 have hi:=gS ((ts.zip bits).map λq=>gG q.1 q.2);unfold fyl wk gg;generalize (ts.zip bits).map (λq=>D.tup [bG q.1,.int q.2])=Z at hz cm ll;generalize (ts.zip bits).map (λq=>gG q.1 q.2)=Y at cm hi ⊢;generalize ts.map bG=TS at hz ⊢;generalize bits.map D.int=B at hz ⊢;generalize Y.map D.int=YD at cm hi;clear hl;walk_at "e"
def qp4(S T:D)(n' N:Int)(hs:fy9 [S,.int n']=some (.int N))(bg:eh N=true):oO [S,D.int n',T,none,none,none]=some (cR 0 N.toNat,[some S,some (.int n'),some T,none,none,none]):=by unfold oO;walk_at "e"
def qt5(S:D)(n':Int)(T P Z:List D)(hp:fya [S,.int n']=some (.lst P))(hz:cU P T=Z):Ns (fD (ak u0 (ak (aa 2) ag))) [S,D.int n',D.lst T,none,none,none] Z:=by walk_at "e"
def qt6{S T u t o:D}{n':Int}(h:fyj [t]=some o):Ns (ak (aS fyj (ak (aa 5) ag)) ag) [S,D.int n',T,none,u,t] [o]:=by walk_at "e"
def qxi(ok:q27 r U G e)(n:Nat)(hn:n<=60)(h:e="ring"->r.toNat<=n)(ts:List Told)(hl:ts.length=(bK U G (n+aB r e)).length):
 fym [au r U G e,.int n,.lst (ts.map bo)]=some (.lst ((List.range (n+aB r e)).map λk=>D.lst ((aF U G ts k).map bG))):=by
 have z4:=jH ok;have hs:=Gr ok n h;have hp:=G8 ok n hn h;have s4:∀k,(bF U G k).length<=4:=λk=>by unfold bF;refine ju (List.length_filter_le _ _) ?_;rw[k7];have:=ok.t4;have:=kl U.length (aE G k).length;omega
 have q1:(bK U G (n+aB r e)).length<=(n+aB r e)*4:=uc _ 4 (λk=>by rw[jw];exact s4 k) _;have bg:eh ((n+aB r e:Nat):Int)=true:=by unfold eh;simp;omega
 have hi:=qp4 (au r U G e) (.lst (ts.map bo)) n _ hs bg;rw[jy]at hi;have hz:cU ((bK U G (n+aB r e)).map D.int) (ts.map bo)=((bK U G (n+aB r e)).zip ts).map λq=>D.tup [.int q.1,bo q.2]:=by rw[qE,qF,jj];rfl
 have hzz:=qt5 (au r U G e) n (ts.map bo) _ _ hp hz;let⟨u',v',hr⟩:=Hg (i:=3) (a:=4) (b:=5) (fe:=aa 4) (fs:=ak (aS fyj (ak (aa 5) ag)) ag) bo bG (λu v=>[some (au r U G e),some (.int n),some (.lst (ts.map bo)),none,u,v]) (λ_ _=>rfl) (λ_ _ _ _=>rfl) (λ_ _=>rfl) (λk t=>qt6 (ql2 t))
  ((bK U G (n+aB r e)).zip ts) (List.replicate (n+aB r e) []) none none (λq hq=>by
    have hm:=(List.of_mem_zip hq).1;unfold bK at hm;let⟨k,hk,hm⟩:=List.mem_flatMap.mp hm;rw[List.eq_of_mem_replicate hm,jw];exact⟨by omega,by rw[jy];exact List.mem_range.mp hk⟩) (λg hg=>by
    rw[List.eq_of_mem_replicate hg,k7];have:=kl (bK U G (n+aB r e)).length ts.length;exact jr (by simp;omega:_<1000) (by decide))
 rw[qhm (n+aB r e) (by omega),List.map_replicate,jj]at hr;show oM (qe _)=_;have hD:qe [au r U G e,.int n,.lst (ts.map bo)]=some ((List.range (n+aB r e)).map ((λg=>g.map bG)∘aF U G ts)):=by
  unfold qe mM;refine(if_pos rfl).trans ?_;show(match oO [au r U G e,D.int n,D.lst (ts.map bo),none,none,none]with
   | some (xs,M1)=>if 3<M1.length/\xs.length<=sizeLine then(match oK (M1.set 3 none) (List.replicate xs.length [])with
    |some p=>some p.2
    |none=>none)else none
   |none=>none)=_
  rw[hi];simp only;rw[if_pos ⟨by simp,by rw[gq];exact dg (by omega)⟩,gq];have hb:oK [au r U G e,D.int n,D.lst (ts.map bo),none,none,none] (List.replicate (n+aB r e) [])=some ([some (au r U G e),some (.int n),some (.lst (ts.map bo)),none,u',v'],(List.range (n+aB r e)).map ((λg=>g.map bG)∘aF U G ts)):=by unfold oK tE;rw[hzz];exact(if_pos rfl).trans hr
  have es:([some (au r U G e),some (.int n),some (.lst (ts.map bo)),none,none,none]:aA).set 3 none=[some (au r U G e),some (.int n),some (.lst (ts.map bo)),none,none,none]:=rfl;rw[es,hb]
 rw[hD];show some (D.lst _)=some (D.lst _);rw[jj];rfl
def qva{S:D}{k' z6 bit nx c:Int}{G S2 P:List D}(two:2<=sizeLine)(h1:fy3 [S,.int z6,.int bit]=some (.tup [.int nx,.tup S2]))(h2:fy4 [S,.int k',.tup S2]=some (.tup P))(h3:fyl [.lst G,.tup P]=some (.int c)):fyn [S,.int k',.lst G,.int z6,.int bit]=some (.tup [.int nx,.int c]):=by unfold fyn wl;walk_at "e"
def qxh(ok:q27 r U G e)(k:Nat)(ts:List Told)(hl:(aF U G ts k).length<=1000)(z6 bit:Int)(a0:0<=z6)(a1:z6<2^r.toNat)(hb:bit=0∨bit=1):fyn [au r U G e,.int k,.lst ((aF U G ts k).map bG),.int z6,.int bit]=some (lD (cZ r U G ts k z6 bit)):=
 qva (by decide) (rH ok z6 bit a0 a1 hb) (G9 ok k _ (by rw[j7];have:=ok.t4;omega)) (ql1 hl)
def qvd{S:D}{k' z6:Int}{G BS YS:List D}(ll:BS.length<=sizeLine)(cm:cK 1 [0,1,2,3] none (ai 0) (ae true) (aS fyn sv) BS [S,D.int k',D.lst G,D.int z6,D.tup BS]=some (YS,[some S,some (.int k'),some (.lst G),some (.int z6),some (.tup BS)])):fyo [S,.int k',.lst G,.int z6,.tup BS]=some (.lst YS):=by unfold fyo wm;walk_at "e"
def qve{S:D}{k' z6 b:Int}{G:List D}{y:D}(h:fyn [S,.int k',.lst G,.int z6,.int b]=some y):((aS fyn sv) [D.int b,S,D.int k',D.lst G,D.int z6]).map (·.1)=some y:=by walk_at "e"
def AA(ok:q27 r U G e)(k:Nat)(ts:List Told)(hl:(aF U G ts k).length<=1000)(z6:Int)(a0:0<=z6)(a1:z6<2^r.toNat)(n:Nat):fyo [au r U G e,.int k,.lst ((aF U G ts k).map bG),.int z6,.tup ((eX n k).map D.int)]=some (gW ((eX n k).map λb=>cZ r U G ts k z6 b)):=by
 have l2:(eX n k).length<=2:=by unfold eX;split<;>simp
 have hb:∀b∈eX n k,b=0∨b=1:=by unfold eX;split<;>simp
 have cm:=iy (n:=1) (js:=[0,1,2,3]) (fg:=ai 0) (fe:=aS fyn sv)
  (M:=[au r U G e,D.int k,D.lst ((aF U G ts k).map bG),D.int z6,D.tup ((eX n k).map D.int)]) (λd=>match d with|.int b=>lD (cZ r U G ts k z6 b)|d=>d) ((eX n k).map D.int) (λx hx=>by obtain⟨b,hm,rfl⟩:=List.mem_map.mp hx;exact⟨_,rfl,qve (qxh ok k ts hl z6 b a0 a1 (hb b hm))⟩)
 rw[jj]at cm;have:=qvd (dg (by rw[j7];omega)) cm;rw[this];unfold gW;rw[jj];rfl
def qla{S T:D}{n' k':Int}{F:List D}{g:D}{v6:Option D}(two:2<=sizeLine)(n k:Nat)(hn:n'=(n:Nat))(hk:k'=(k:Nat)):Da [S,D.int n',T,D.lst F,D.int k',g,v6]=some (.nx [S,D.int n',T,D.lst F,D.int k',g,D.tup ((eX n k).map D.int)]):=by
 have one:1<=sizeLine:=by decide
 unfold eX;by_cases h:k<n
 .have h':k'<n':=by omega
  rw[if_pos h];show _=some (Out.nx [_,_,_,_,_,_,some (.tup [.int 0,.int 1])]);clear hn hk h;walk_at "e"
 .have h':¬k'<n':=by omega
  rw[if_neg h];show _=some (Out.nx [_,_,_,_,_,_,some (.tup [.int 0])]);clear hn hk h;walk_at "e"
def qpx{S T:D}{n' k' ρ:Int}{F YS:List D}{g bs:D}{FE:aN}(hr:fy1 [S]=some (.int ρ))(bg:eh ρ=true)(l1:(cR 0 ρ.toNat).length<=sizeLine)(l2:F.length<sizeLine)
 (cm:cK 1 [0,4,5,6] none (ai 0) (ae true) FE (cR 0 ρ.toNat) [S,D.int n',T,D.lst F,D.int k',g,bs]=some (YS,[some S,some (.int n'),some T,some (.lst F),some (.int k'),some g,some bs])):
 (cW f9 3 (ak (br (cI 1 [0,4,5,6] none vt (ai 0) (ae true) FE)) ag)) [S,D.int n',T,D.lst F,D.int k',g,bs]=some (.nx [S,D.int n',T,D.lst (F++[.lst YS]),D.int k',g,bs]):=by
 walk_at "e"
abbrev Dv:=CN
def qpw{S:D}{k' z6:Int}{g bs y:D}(h:fyo [S,.int k',g,.int z6,bs]=some y):((aS fyo Dv) [D.int z6,S,D.int k',g,bs]).map (·.1)=some y:=by walk_at "e"
def qpv{S:D}{n':Int}{T G F:List D}{v4 v5 v6:Option D}{FB:aD}(z0:0<=sizeLine)(hc:fyk [S,.int n',.lst T]=some .non)(hg:fym [S,.int n',.lst T]=some (.lst G))
 (l1:dI (cY 2 (bE (ai 4) (bE (ai 5) c7))) FB (gM G) [S,D.int n',D.lst T,D.lst [],none,none,none]=some (.nx [S,D.int n',D.lst T,D.lst F,v4,v5,v6])):
 (aH false 3 7 (am (mN (aS fyk gJ)) (am (cg 3 (aW ag)) (am (bi (oS (aS fym gJ)) (cY 2 (bE (ai 4) (bE (ai 5) c7))) FB) (az (aa 3)))))) [S,.int n',.lst T]=some (.lst F):=by
 walk_at "e"
def Ej(ok:q27 r U G e)(n:Nat)(hn:n<=60)(h:e="ring"->r.toNat<=n)(ts:List Told)(hl:ts.length=(bK U G (n+aB r e)).length):
 fyp [au r U G e,.int n,.lst (ts.map bo)]=some (gc (bO r U G ts n 0 (n+aB r e))):=by
 have z4:=jH ok;have p16:=jZ ok.r0 ok.r4;have hc:=ql4 ok n hn h (ts.map bo) (by rw[j7];exact hl);have hg:=qxi ok n hn h ts hl;have hr:=lN ok;have pn:=f7 (r:=r);have s4:∀k,(bF U G k).length<=4:=λk=>by unfold bF;refine ju (List.length_filter_le _ _) ?_;rw[k7];have:=ok.t4;have:=kl U.length (aE G k).length;omega
 have c4:∀k,(aF U G ts k).length<=1000:=λk=>by unfold aF;rw[xi];have:=s4 k;omega
 have bg:eh ((2:Int)^r.toNat)=true:=by unfold eh;simp;omega
 have tn:((2:Int)^r.toNat).toNat=2^r.toNat:=by omega
 have lr:(cR 0 ((2:Int)^r.toNat).toNat).length<=sizeLine:=by rw[gq,tn];exact dg (by omega)
 let⟨M',l1,v4,v5,v6,hρ⟩:=gn (fg:=cY 2 (bE (ai 4) (bE (ai 5) c7))) (fb:=DE)
  (λk M=>∃v4 v5 v6,M=[some (au r U G e),some (.int (n:Int)),some (.lst (ts.map bo)),some (.lst ((bO r U G ts n 0 k).map fY)),v4,v5,v6]) (gM ((List.range (n+aB r e)).map λk=>D.lst ((aF U G ts k).map bG))) 0
  [some (au r U G e),some (.int (n:Int)),some (.lst (ts.map bo)),some (.lst []),none,none,none] ⟨none,none,none,rfl⟩ (λi x M hx ⟨v4,v5,v6,hρ⟩=>by
   subst hρ;rw[yT,je]at hx;have hi:i<n+aB r e:=by
    rcases Nat.lt_or_ge i (n+aB r e)with z|z
    .exact z
    .rw[x9 (by simp;omega)]at hx;cases hx
   rw[xr hi]at hx;have hx:x=D.tup [.int (i:Int),.lst ((aF U G ts i).map bG)]:=(jg hx).symm;subst hx;rw[jv];have cm:=iy (n:=1) (js:=[0,4,5,6]) (fg:=ai 0) (fe:=aS fyo Dv)
    (M:=[au r U G e,D.int (n:Int),D.lst (ts.map bo),D.lst ((bO r U G ts n 0 i).map fY),D.int (i:Int),D.lst ((aF U G ts i).map bG),D.tup ((eX n i).map D.int)])
    (λd=>match d with|.int z6=>gW ((eX n i).map λb=>cZ r U G ts i z6 b)|d=>d) (cR 0 ((2:Int)^r.toNat).toNat) (λx hx=>by let⟨k,hk⟩:=List.mem_iff_getElem?.mp hx;obtain⟨hk1,rfl⟩:=jL hk;rw[Int.zero_add];exact⟨_,rfl,qpw (AA ok i ts (c4 i) (k:Int) (by omega) (by omega) n)⟩)
   have ey:(cR 0 ((2:Int)^r.toNat).toNat).map (λd=>match d with|.int z6=>gW ((eX n i).map λb=>cZ r U G ts i z6 b)|d=>d)=(stepK r U G ts n i).map gW:=by unfold cR L2.stepK;rw[tn,jj,jj];refine List.map_congr_left λk _=>?_;simp
   rw[ey]at cm;have es:bO r U G ts n 0 (i+1)=bO r U G ts n 0 i++[stepK r U G ts n i]:=by unfold bO;rw[List.range'_concat,x5];simp
   have lf:((bO r U G ts n 0 i).map fY).length<sizeLine:=by unfold bO;rw[j7,j7,List.length_range'];exact jr (by omega:i<1000) (by decide)
   refine⟨_,[au r U G e,D.int (n:Int),D.lst (ts.map bo),D.lst ((bO r U G ts n 0 (i+1)).map fY),D.int (i:Int),D.lst ((aF U G ts i).map bG),D.tup ((eX n i).map D.int)],rfl,.inl ?_,_,_,_,rfl⟩;refine(aV (qla (by decide) n i rfl rfl)).trans ?_;rw[es,x5];exact qpx hr bg lr lf cm)
 subst hρ;have le:(gM ((List.range (n+aB r e)).map λk=>D.lst ((aF U G ts k).map bG))).length=n+aB r e:=by unfold gM;simp
 rw[le,jv]at l1;unfold fyp wo gc;exact qpv (by decide) hc hg l1
end
def qri{a c x:Int}{B:List D}(h:bB B a=some (.int x)):fyr [.tup [.int a,.int c],.lst B]=some (.int (c+x)):=by unfold fyr sU;walk_at "e"
def qrj{a c:Int}{B:List D}(h:bB B a=some .non):fyr [.tup [.int a,.int c],.lst B]=some .non:=by unfold fyr sU;walk_at "e"
def qm{t:Rw}{a:Int}(h0:0<=a)(h1:a.toNat<t.length):bB (t.map bZ) a=some (bZ (dy t a)):=by rw[i3 h0 (by rw[j7];omega),je];unfold dy;rw[jb h1];rfl
def ql3(q:Mv)(t:Rw)(h0:0<=q.1)(h1:q.1.toNat<t.length):fyr [lD q,dZ t]=some (bZ (du q t)):=by
 have h:=qm h0 h1;unfold du;cases e:dy t q.1 with
 | none=>
  rw[e]at h;exact qrj h
 | some x=>
  rw[e]at h;exact qri h
def qvk{q z9 y:D}(h:fyr [q,z9]=some y):((aS fyr (ak (aa 0) (ak (aa 1) ag))) [q,z9]).map (·.1)=some y:=by walk_at "e"
def qvj{CH YS ZS:List D}{z9 m:D}(l1:CH.length<=sizeLine)(l2:YS.length<=sizeLine)(cm:cK 1 [1] none (ai 0) (ae true) (aS fyr (ak (aa 0) (ak (aa 1) ag))) CH [D.lst CH,z9,none]=some (YS,[some (.lst CH),some z9,none]))
 (cf:cK 1 [] none (ai 0) (bh (af ix (aa 0) (ae .non))) (aa 0) YS [D.lst CH,z9,D.lst YS]=some (ZS,[some (.lst CH),some z9,some (.lst YS)])) (hm:oN (.lst ZS)=some m):fys [.lst CH,z9]=some m:=by
 unfold fys wt;generalize hd:oN=dm at hm ⊢;walk_at "e"
theorem yH:∀ys:List (Option Int),((ys.map bZ).filter λd=>match d with|.non=>false|_=>true)=(ys.filterMap id).map D.int
 |[]=>rfl
 | none::ys=>by rw[jz,List.filter_cons];exact yH ys
 | some x::ys=>by rw[jz,List.filter_cons];show D.int x::_=D.int x::_;rw[yH ys]
def HK(ch:List Mv)(t:Rw)(hl:ch.length<=1000)(h:∀q∈ch,0<=q.1/\q.1.toNat<t.length):fys [gW ch,dZ t]=some (bZ (fG ch t)):=by
 have cm:=iy (n:=1) (js:=[1]) (fg:=ai 0) (fe:=aS fyr (ak (aa 0) (ak (aa 1) ag))) (M:=[gW ch,dZ t,none])
  (λd=>match d with|.tup [.int a,.int c]=>bZ (du (a,c) t)|d=>d) (ch.map lD) (λx hx=>by obtain⟨q,hq,rfl⟩:=List.mem_map.mp hx;exact⟨_,rfl,qvk (ql3 q t (h q hq).1 (h q hq).2)⟩)
 have e1:(ch.map lD).map (λd=>match d with|.tup [.int a,.int c]=>bZ (du (a,c) t)|d=>d)=(ch.map λq=>du q t).map bZ:=by rw[jj,jj];rfl
 rw[e1]at cm;have cf:=m9 (n:=1) (js:=[]) (fg:=ai 0) (ft:=bh (af ix (aa 0) (ae .non))) (fe:=aa 0) (M:=[gW ch,dZ t,D.lst ((ch.map λq=>du q t).map bZ)])
  (λd=>match d with|.non=>false|_=>true) (λd=>d) ((ch.map λq=>du q t).map bZ) (λx hx=>by
    obtain⟨o,_,rfl⟩:=List.mem_map.mp hx;refine⟨[some (bZ o)],rfl,?_,λ_=>rfl⟩;cases o with
    |none=>rfl
    |some y=>rfl)
 have e2:∀zs:List D,zs.map (λd=>d)=zs:=λzs=>by simp
 rw[yH,e2]at cf;refine qvj (dg (by rw[j7];omega)) (dg (by rw[j7,j7];omega)) cm cf ?_;show(c6 _).map (λns=>bZ (cX ns))=_;rw[gS];rfl
def E6{ch:List Mv}{hh:Rw}{y:D}(h:fys [gW ch,dZ hh]=some y):(match gW ch with|.lst xs=>(match fys [.lst xs,dZ hh]with|some y=>y|none=>.non)|d=>d)=y:=by unfold gW at h ⊢;dsimp only;rw[h]
def qwx{ch z9 y:D}(h:fys [ch,z9]=some y):((aS fys (ak (aa 0) (ak (aa 1) ag))) [ch,z9]).map (·.1)=some y:=by walk_at "e"
def qs2{ST EN x:D}{TB:List D}{v4:Option D}{b:D}(h:bB TB (-1)=some b):Nx B8 [ST,EN,D.lst TB,x,v4] 4 b:=by walk_at "e"
def qwy{ST EN b:D}{TB CH YS:List D}{FE:aN}(l1:CH.length<=sizeLine)(l2:TB.length<sizeLine)(cm:Ns (cK 1 [4] none (ai 0) (ae true) FE CH) [ST,EN,D.lst TB,D.lst CH,b] YS):Nx (cW f9 2 (ak (br (cI 1 [4] none (bz (aa 3)) (ai 0) (ae true) FE)) ag)) [ST,EN,D.lst TB,D.lst CH,b] 2 (D.lst (TB++[.lst YS])):=by
 walk_at "e"
def qww(SS TB:List D)(EN:D)(v3 v4:Option D)(FB:aD)(one:1<=sizeLine)(l1:dI (ai 3) FB SS.reverse [D.lst SS,EN,D.lst [EN],none,none]=some (.nx [D.lst SS,EN,D.lst TB,v3,v4])):
 (aH false 2 5 (am (cg 2 (aW (ak (aa 1) ag))) (am (bi (gz (aa 0)) (ai 3) FB) (az (br (gz (aa 2))))))) [.lst SS,EN]=some (.lst TB.reverse):=by
 walk_at "e"
def GS{steps:List Sx}{ends:Rw}{ρ:Nat}(he:ends.length=ρ)(hs:∀st∈steps,st.length=ρ):((bT steps ends).headD []).length=ρ:=by
 cases steps with
 |nil=>exact he
 | cons st rest=>
  show(st.map _).length=ρ;rw[j7];exact hs st jf
def HJ(steps:List Sx)(ends:Rw)(ρ:Nat)(hM:ρ<=1000)(hN:steps.length<=1000)(he:ends.length=ρ)(hs:∀st∈steps,st.length=ρ/\∀ch∈st,ch.length<=2/\∀q∈ch,0<=q.1/\q.1.toNat<ρ):
 fyt [gc steps,dZ ends]=some (fX (bT steps ends)):=by
 let⟨M',l1,v3,v4,hρ⟩:=gn (fg:=ai 3) (fb:=Dq)
  (λk M=>∃v3 v4,M=[some (gc steps),some (dZ ends),some (.lst ((bT (steps.drop (steps.length-k)) ends).reverse.map dZ)),v3,v4]) (steps.map fY).reverse 0
  [some (gc steps),some (dZ ends),some (.lst [dZ ends]),none,none] ⟨none,none,by rw[Nat.sub_zero,List.drop_length];rfl⟩ (λi x M hx ⟨v3,v4,hρ⟩=>by
   subst hρ;rw[jv];have hi:i<steps.length:=by have:=(List.getElem?_eq_some_iff.mp hx).1;simpa using this
   have hlt:steps.length-1-i<steps.length:=by omega
   rw[List.getElem?_reverse (by rw[j7];exact hi),j7,je,jb hlt]at hx;have hx:x=fY steps[steps.length-1-i]:=(jg hx).symm;subst hx;have hst:=hs _ (xn hlt);have ed:steps.drop (steps.length-(i+1))=steps[steps.length-1-i]::steps.drop (steps.length-i):=by rw[show steps.length-(i+1)=steps.length-1-i from by omega,kc hlt];congr 2;omega
   generalize steps[steps.length-1-i]=st at hst ed ⊢;rw[ed];have hd:((bT (steps.drop (steps.length-i)) ends).headD []).length=ρ:=GS he λz hz=>(hs z (List.mem_of_mem_drop hz)).1;have hla:=zn (steps.drop (steps.length-i)) ends;have hlast:bB ((bT (steps.drop (steps.length-i)) ends).reverse.map dZ) (-1)=some (dZ ((bT (steps.drop (steps.length-i)) ends).headD [])):=by
    generalize bT (steps.drop (steps.length-i)) ends=tt at hla ⊢;cases tt with
    |nil=>simp at hla
    | cons a b=>
     rw[List.reverse_cons,x5];exact F5
   have eA:bT (st::steps.drop (steps.length-i)) ends=(st.map λch=>fG ch ((bT (steps.drop (steps.length-i)) ends).headD []))::bT (steps.drop (steps.length-i)) ends:=rfl;rw[eA];generalize (bT (steps.drop (steps.length-i)) ends).headD []=hh at hd hlast ⊢;generalize bT (steps.drop (steps.length-i)) ends=tt at hla hlast ⊢;have cm:=iy (n:=1) (js:=[4]) (fg:=ai 0) (fe:=aS fys (ak (aa 0) (ak (aa 1) ag))) (M:=[gc steps,dZ ends,D.lst (tt.reverse.map dZ),fY st,dZ hh])
    (λd=>match d with|.lst xs=>(match fys [.lst xs,dZ hh]with|some y=>y|none=>.non)|d=>d) (st.map gW) (λx hx=>by obtain⟨ch,hc,rfl⟩:=List.mem_map.mp hx;have hp:=HK ch hh (by have:=(hst.2 ch hc).1;omega) (λq hq=>by rw[hd];exact(hst.2 ch hc).2 q hq);refine⟨_,rfl,?_⟩;rw[E6 hp];exact qwx hp)
   have ey:(st.map gW).map (λd=>match d with|.lst xs=>(match fys [.lst xs,dZ hh]with|some y=>y|none=>.non)|d=>d)=(st.map λch=>fG ch hh).map bZ:=by rw[jj,jj];refine List.map_congr_left λch hc=>?_;exact E6 (HK ch hh (by have:=(hst.2 ch hc).1;omega) (λq hq=>by rw[hd];exact(hst.2 ch hc).2 q hq))
   rw[ey]at cm;have lt:(tt.reverse.map dZ).length<sizeLine:=by rw[j7,List.length_reverse,hla,xm];exact jr (by omega:_<2000) (by decide)
   refine⟨_,[gc steps,dZ ends,D.lst (((st.map λch=>fG ch hh)::tt).reverse.map dZ),fY st,dZ hh],rfl,.inl ?_,_,_,rfl⟩;refine(aV (qs2 hlast)).trans ?_;rw[List.reverse_cons,x5];exact qwy (dg (by rw[j7];omega)) lt cm)
 subst hρ;rw[List.length_reverse,j7,jv,Nat.sub_self,List.drop_zero]at l1;unfold fyt wu;refine(qww (steps.map fY) _ _ _ _ _ (by decide) l1).trans ?_;unfold fX;rw[<-List.map_reverse,List.reverse_reverse]
section
variable{r:Int}{U:Zf}{G:Z9}{e:Str}
def AG:bV (.str "open") (.str "open")=some true:=by rw[ig (by decide+kernel) (by decide+kernel)];decide+kernel
def AH:bV (.str "ended") (.str "open")=some false:=by rw[ig (by decide+kernel) (by decide+kernel)];decide+kernel
def AF:bV (.str "ring") (.str "open")=some false:=by rw[ig (by decide+kernel) (by decide+kernel)];decide+kernel
def qra(R TS RS:D)(s ρ:Int)(Y:List D)(h:bV (.str e) (.str "open")=some true)(hr:fy1 [.tup [R,TS,RS,.str e]]=some (.int ρ))(hy:gZ [.int 0] (.int ρ)=some Y)(one:1<=sizeLine):fyq [.tup [R,TS,RS,.str e],.int s]=some (.lst Y):=by
 unfold fyq wq;have hrep:(eE (aW (ak (ae (.int 0)) ag)) (aS fy1 (ak (aa 0) ag))) [D.tup [R,TS,RS,.str e],D.int s,none]=some (Y,[some (.tup [R,TS,RS,.str e]),some (.int s),none]):=by
  refine wU (xs:=[.int 0]) (y:=.int ρ) (M1:=[D.tup [R,TS,RS,.str e],D.int s,none]) ?_ ?_ hy
  .clear hy h hr;walk_at "e"
  .clear hy h;walk_at "e"
 generalize (eE (aW (ak (ae (.int 0)) ag)) (aS fy1 (ak (aa 0) ag)))=FR at hrep ⊢;clear hy hr;walk_at "e"
def qwm{z6 en:Int}:(sr [D.int z6,D.int en]).map (·.1)=some (bZ (if z6=en then some 0 else none)):=by
 by_cases h:z6=en
 .subst h;rw[if_pos rfl];walk_at "e"
 .have h':(z6==en)=false:=beq_eq_false_iff_ne.mpr h;rw[if_neg h];walk_at "e"
def BE{R TS RS:D}{s:Int}{FR:aD}(h:bV (.str e) (.str "open")=some false):Nz (bY CF FR aJ) [D.tup [R,TS,RS,.str e],D.int s,none]:=by walk_at "e"
def BD{S:D}{s en:Int}{b:Bool}(hb:fy5 [S]=some (.bl b))(hen:en=(if b=true then s else 0)):CK [S,D.int s,none]=some (.nx [S,D.int s,D.int en]):=by
 cases b with
 | true=>
  have hen:en=s:=hen;rw[hen];clear hen;walk_at "e"
 | false=>
  have hen:en=0:=hen;rw[hen];clear hen;walk_at "e"
def BC{S:D}{s ρ en:Int}{Y:List D}{FE:aN}(hr:fy1 [S]=some (.int ρ))(bg:eh ρ=true)(l1:(cR 0 ρ.toNat).length<=sizeLine)(cm:Ns (cK 1 [2] none (ai 0) (ae true) FE (cR 0 ρ.toNat)) [S,D.int s,D.int en] Y):Nr (az (br (cI 1 [2] none vt (ai 0) (ae true) FE))) [S,D.int s,D.int en] (D.lst Y):=by
 walk_at "e"
def qm8(R TS RS:D)(s ρ en:Int)(b:Bool)(Y:List D)(h:bV (.str e) (.str "open")=some false)(hb:fy5 [.tup [R,TS,RS,.str e]]=some (.bl b))(hen:en=(if b=true then s else 0))(hr:fy1 [.tup [R,TS,RS,.str e]]=some (.int ρ))(bg:eh ρ=true)(l1:(cR 0 ρ.toNat).length<=sizeLine)
 (cm:cK 1 [2] none (ai 0) (ae true) sr (cR 0 ρ.toNat) [D.tup [R,TS,RS,.str e],D.int s,D.int en]=some (Y,[some (.tup [R,TS,RS,.str e]),some (.int s),some (.int en)])):
 fyq [.tup [R,TS,RS,.str e],.int s]=some (.lst Y):=by
 refine gP rfl ⟨[D.tup [R,TS,RS,.str e],D.int s,D.int en],?_⟩;refine(aV (BE h)).trans ?_;exact(aV (BD hb hen)).trans (BC hr bg l1 cm)
def Fp(ok:q27 r U G e)(s:Int):fyq [au r U G e,.int s]=some (dZ (dH r e s)):=by
 have p16:=jZ ok.r0 ok.r4;have pn:=f7 (r:=r);have hr:=lN ok;have hb:=wQ ok;have tn:((2:Int)^r.toNat).toNat=2^r.toNat:=by omega
 unfold dZ dH;rw[jj];by_cases q:e="open"
 .subst q;have hy:gZ [D.int 0] (.int (2^r.toNat))=some (List.replicate (2^r.toNat) (.int 0)):=by rw[yx (by omega) (by omega),tn]
  have h1:fyq [au r U G "open",.int s]=some (.lst (List.replicate (2^r.toNat) (.int 0))):=qra (e:="open") (.int r) (.tup (U.map D.int)) (.tup (G.map c0)) s (2^r.toNat) _ AG hr hy (by decide);rw[h1];refine congrArg (λx=>some (D.lst x)) ?_;apply List.ext_getElem?;intro i;by_cases h:i<2^r.toNat
  .rw[je,xr h,k8,if_pos h];simp[bZ]
  .rw[x9 (by simp;omega),x9 (by simp;omega)]
 .have ho:bV (.str e) (.str "open")=some false:=by
   rcases ok.en with h|h|h
   .exact absurd h q
   .rw[h];exact AH
   .rw[h];exact AF
  have bg:eh ((2:Int)^r.toNat)=true:=by unfold eh;simp;omega
  have cm:=iy (n:=1) (js:=[2]) (fg:=ai 0) (fe:=sr) (M:=[au r U G e,D.int s,D.int (if bS e=true then s else 0)]) (λd=>match d with|.int z6=>bZ (if z6=(if bS e=true then s else 0)then some 0 else none)|d=>d) (cR 0 ((2:Int)^r.toNat).toNat) (λx hx=>by let⟨k,hk⟩:=List.mem_iff_getElem?.mp hx;obtain⟨hk1,rfl⟩:=jL hk;exact⟨_,rfl,qwm⟩)
  have h1:=qm8 (e:=e) (.int r) (.tup (U.map D.int)) (.tup (G.map c0)) s (2^r.toNat) _ (bS e) _ ho hb rfl hr bg (by rw[gq,tn];exact dg (by omega)) cm;refine(show fyq [au r U G e,.int s]=_ from h1).trans ?_;refine congrArg (λx=>some (D.lst x)) ?_;unfold cR;rw[tn,jj];refine List.map_congr_left λk _=>?_;refine congrArg bZ ?_;have e1:(if bS e=true then s else 0)=(if e="ring" then s else 0):=by
   unfold bS;by_cases z:e="ring"
   .simp[z]
   .simp[z]
  rw[e1,Int.zero_add];show(if((k:Nat):Int)=(if e="ring" then s else 0)then some 0 else none)=if e="open"∨((k:Nat):Int)=(if e="ring" then s else 0)then some 0 else none
  generalize (if e="ring" then s else 0)=E;by_cases z:((k:Nat):Int)=E
  .rw[if_pos z,if_pos (Or.inr z)]
  .rw[if_neg z,if_neg (λh=>Or.elim h (λh=>q h) λh=>z h)]
def qqi{S:D}{ρ:Int}{Y:List D}(hb:fy5 [S]=some (.bl true))(hr:fy1 [S]=some (.int ρ))(hy:e9 (.int ρ)=some Y):fy8 [S]=some (.lst Y):=by unfold fy8 lX;generalize hu:e9=uo at hy ⊢;clear hu;walk_at "e"
def qlu{S:D}(one:1<=sizeLine)(hb:fy5 [S]=some (.bl false)):fy8 [S]=some (.lst [.int 0]):=by unfold fy8 lX;walk_at "e"
def ql0(ok:q27 r U G e):fy8 [au r U G e]=some (.lst ((ck r e).map D.int)):=by
 have p16:=jZ ok.r0 ok.r4;have pn:=f7 (r:=r);have hr:=lN ok;have hb:=wQ ok;have tn:((2:Int)^r.toNat).toNat=2^r.toNat:=by omega
 unfold ck;by_cases q:e="ring"
 .rw[if_pos q];have h1:bS e=true:=by unfold bS;simp[q]
  rw[h1]at hb;refine qqi hb hr ?_;show(if(0:Int)<=2^r.toNat/\(2:Int)^r.toNat<=1000000 then some ((jA (2^r.toNat)).map D.int)else none)=_;rw[if_pos ⟨by omega,by omega⟩];unfold jA;rw[tn]
 .rw[if_neg q];have h1:bS e=false:=by unfold bS;simp[q]
  rw[h1]at hb;exact qlu (by decide) hb
def qox{S ST EN TB:D}{s:Int}{gs gs':List (bI×D)}(he:fyq [S,.int s]=some EN)(ha:fyt [ST,EN]=some TB)(hp:oQ gs s TB=some gs'):vw [S,ST,D.dct gs,D.int s]=some (.nx [S,ST,D.dct gs',D.int s]):=by
 refine qqv (M1:=[S,ST,D.dct gs,D.int s]) (M2:=[S,ST,D.dct gs,D.int s]) (d:=TB) ?_ ?_ rfl hp
 .clear hp;walk_at "e"
 .rfl
def qs9{S ST:D}{SS:List D}{gs:List (bI×D)}{v3:Option D}{FB:aD}(hs:fy8 [S]=some (.lst SS))(l1:dI (ai 3) FB SS [S,ST,D.dct [],none]=some (.nx [S,ST,D.dct gs,v3])):
 (aH false 2 4 (am (mO 2) (am (bi B4 (ai 3) FB) (az (aa 2))))) [S,ST]=some (.dct gs):=by
 have h1:mO 2 [S,ST,none,none]=some (.nx [S,ST,D.dct [],none]):=qqx (by simp);walk_at "e"
def qac:(ck r e).Nodup:=by
 unfold ck;by_cases q:e="ring"
 .rw[if_pos q];rw[List.Nodup,List.pairwise_map];exact List.nodup_range.imp λh z=>h (by omega)
 .rw[if_neg q];simp
def qkz(ok:q27 r U G e)(ts:List Told)(n:Nat)(hn:n<=60):fyv [au r U G e,gc (bO r U G ts n 0 (n+aB r e))]=some (.dct ((ck r e).map λs=>(Sum.inl s,fX (bU r U G e ts n s)))):=by
 have p16:=jZ ok.r0 ok.r4;have pn:=f7 (r:=r);have z4:=jH ok;have hs:=ql0 ok;have ls:(ck r e).length<=16:=by
  unfold ck;split
  .simp;omega
  .simp
 have hst:∀st∈bO r U G ts n 0 (n+aB r e),st.length=2^r.toNat/\∀ch∈st,ch.length<=2/\∀q∈ch,0<=q.1/\q.1.toNat<2^r.toNat:=λst h=>by
  have:∀(len k:Nat) (st:Sx),st∈bO r U G ts n k len->st.length=2^r.toNat/\∀ch∈st,ch.length<=2/\∀q∈ch,0<=q.1/\q.1.toNat<2^r.toNat:=by
   intro len;induction len with
   |zero=>intro k st h;cases h
   | succ len ih=>
    intro k st h;have ok1:=pq (r:=r) (U:=U) (G:=G) (ts:=ts) (n:=n) (len+1) k;rw[uy]at h ok1;rcases List.mem_cons.mp h with h|h
    .subst h;refine⟨ok1.1,λch hc=>⟨?_,(ok1.2.1 ch hc).2⟩⟩;rw[(ok1.2.1 ch hc).1];split<;>omega
    .exact ih _ _ h
  exact this _ _ _ h
 have lst':(bO r U G ts n 0 (n+aB r e)).length<=1000:=by unfold bO;rw[j7,List.length_range'];omega
 let⟨M',l1,v3,hρ⟩:=gn (fg:=ai 3) (fb:=vw)
  (λk M=>∃v3,M=[some (au r U G e),some (gc (bO r U G ts n 0 (n+aB r e))),some (.dct (((ck r e).take k).map λs=>(Sum.inl s,fX (bU r U G e ts n s)))),v3]) ((ck r e).map D.int) 0
  [some (au r U G e),some (gc (bO r U G ts n 0 (n+aB r e))),some (.dct []),none] ⟨none,rfl⟩ (λi x M hx ⟨v3,hρ⟩=>by
   subst hρ;rw[jv];rw[je]at hx;cases hs1:(ck r e)[i]? with
   |none=>rw[hs1]at hx;cases hx
   | some s=>
    rw[hs1]at hx;cases hx;have hb:=Fp ok s;have ha:=HJ (bO r U G ts n 0 (n+aB r e)) (dH r e s) (2^r.toNat) (by omega) lst' (by unfold dH;simp) hst;refine⟨_,[au r U G e,gc (bO r U G ts n 0 (n+aB r e)),D.dct (((ck r e).take (i+1)).map λs=>(Sum.inl s,fX (bU r U G e ts n s))),D.int s],rfl,.inl (qox hb ha ?_),_,rfl⟩;unfold oQ;rw[if_pos]
    .rw[cE hs1,x5];rfl
    .refine⟨?_,?_⟩
     .rw[j7,xi];exact jr (by omega:_<1000) (by decide)
     .rw[List.all_eq_true];intro g hg;obtain⟨t,ht,rfl⟩:=List.mem_map.mp hg;have:t≠s:=λz=>by
       subst z;let⟨j,hj⟩:=List.mem_iff_getElem?.mp ht;have hj1:j<i:=by have:=(List.getElem?_eq_some_iff.mp hj).1;rw[xi]at this;omega
       rw[List.getElem?_take_of_lt hj1]at hj;have hi:=(List.getElem?_eq_some_iff.mp hs1).1;have hjl:=(List.getElem?_eq_some_iff.mp hj).1;have e1:=(List.getElem?_eq_some_iff.mp hj).2;have e2:=(List.getElem?_eq_some_iff.mp hs1).2;exact List.pairwise_iff_getElem.mp qac j i hjl hi hj1 (e1.trans e2.symm)
      simp[this])
 subst hρ;rw[j7,jv,List.take_length]at l1;unfold fyv wv;exact qs9 hs l1
end
noncomputable def eV(s:Int):Int:=(s*1181783497276652981+12345678910987) % 2305843009213693951
def da(s m:Int):Int:=eV s / 65537 % m
def ml(s:Int){m:Int}(h:0<m):0<=da s m:=Int.emod_nonneg _ (by omega)
def mj(s:Int){m:Int}(h:0<m):da s m<m:=Int.emod_lt_of_pos _ h
def kX(s m:Int)(h:0<m):fyD [.int s] [.int m]=some (.int (da s m),[.int (eV s)]):=by unfold fyD sH;walk_at "e";simp[eV,da]
def GF(c k:Int)(one:1<=sizeLine):fyC [.int c,.int k]=some (.lst [.int ((c % 10^60*7368787+1000003*k+17) % 2305843009213693951)]):=by unfold fyC wx;walk_at "e"
def md{N:List D}{k x:Int}(h:k<(N.length:Nat))(h0:0<=k)(ha:bB N k=some (.int x)):fyB [.lst N,.int k]=some (.int (x % 10^60)):=by unfold fyB sW;walk_at "e"
def jR{N:List D}{k:Int}(h:¬k<(N.length:Nat)):fyB [.lst N,.int k]=some (.int 0):=by unfold fyB sW;walk_at "e"
def yQ(ns:Zf)(k:Int)(h0:0<=k):∃c:Int,fyB [.lst (ns.map D.int),.int k]=some (.int c):=by
 by_cases h:k<ns.length
 .refine⟨ns[k.toNat] % 10^60,md (by rw[j7];omega) h0 ?_⟩;rw[i3 (by omega) (by rw[j7];omega),je,jb (by omega)];rfl
 .exact⟨0,jR (by rw[j7];omega)⟩
def s0(s x m:Int)(E:D)(nine:9<=sizeLine)(hx:bB [D.int 0,D.int 1,D.int 2,D.int 2,D.int 3,D.int 1,D.int 2,D.int 3,D.int 4] (da s 9)=some (.int x))(hm:(if x<4 then x else 4)=m):
 (aw 3 (iH (λi j=>if j<i then j else i) DB)) [D.lst [.int s],D.int 4,E,none,none,none,none]=some (.nx [D.lst [.int (eV s)],D.int 4,E,D.int m,none,none,none]):=by
 have h:=kX s 9 (by decide);rw[<-hm];clear hm;walk_at "e"
def s1e{x s m:Int}{r:Int}(hm:bQ (.int 2) (.int r)=some (.int m))(h0:0<m):(f8 fyD 1 (ak (af bQ (ae (.int 2)) (aa 2)) ag)) [D.int x,D.lst [.int s],D.int r]=some (.int (da s m),[some (.int x),some (.lst [.int (eV s)]),some (.int r)]):=by have h:=kX s m h0;generalize bQ=SH at hm ⊢;walk_at "e"
def s1r{s:Int}{v1 v2 v3 v4 v5 v6:Option D}:vk [some (.lst [.int s]),v1,v2,v3,v4,v5,v6]=some ([.int (1+da s 4)],[some (.lst [.int (eV s)]),v1,v2,v3,v4,v5,v6]):=by have h:=kX s 4 (by decide);walk_at "e"
def s1x{s s1 s2 r:Int}{E:D}{X Y:List D}{FI:ba}{FE:aN}(lx:X.length<=sizeLine)
 (hI:FI [D.lst [.int s],D.int 4,E,D.int r,none,none,none]=some (X,[some (.lst [.int s1]),some (.int 4),some E,some (.int r),none,none,none]))
 (cm:cK 1 [0,3] (some (0,1)) (ai 0) (ae true) FE X [D.lst [.int s1],D.int 4,E,D.int r,none,none,none]=some (Y,[some (.lst [.int s2]),some (.int 4),some E,some (.int r),none,none,none])):
 (aw 4 (br (cI 1 [0,3] (some (0,1)) FI (ai 0) (ae true) FE))) [D.lst [.int s],D.int 4,E,D.int r,none,none,none]=some (.nx [D.lst [.int s2],D.int 4,E,D.int r,D.lst Y,none,none]):=by
 walk_at "e"
def mw{M M1:aA}{fs:ba}{n:Int}(h:fs M=some ([.int n],M1))(n0:0<=n)(n1:n<=1000):gh fs M=some (cR 0 n.toNat,M1):=by refine qt9 h ?_;unfold eh;simp;omega
def s1(s r:Int)(E:D)(r0:0<=r)(r4:r<=4):∃(ts:Zf) (s':Int),(aw 4 (br (cI 1 [0,3] (some (0,1)) (gh vk) (ai 0) (ae true) (f8 fyD 1 (ak (af bQ (ae (.int 2)) (aa 2)) ag))))) [D.lst [.int s],D.int 4,E,D.int r,none,none,none]=some (.nx [D.lst [.int s'],D.int 4,E,D.int r,D.lst (ts.map D.int),none,none])
 /\1<=ts.length/\ts.length<=4/\∀t∈ts,0<=t/\t<2*2^r.toNat:=by
 have d0:=ml s (m:=4) (by decide);have d3:=mj s (m:=4) (by decide);have zk:(0:Int)<2*2^r.toNat:=Int.mul_pos (by decide) (Int.pow_pos (by decide));have hsh:bQ (.int 2) (.int r)=some (.int (2*2^r.toNat)):=by
  have r6:r<=1000000:=by omega
  simp[bQ,kF,mh,r0,r6]
 let⟨ys,s2,c1,c2,c3⟩:=ua (n:=1) (p:=0) (q:=1) (js:=[0,3]) (fg:=ai 0) (fe:=f8 fyD 1 (ak (af bQ (ae (.int 2)) (aa 2)) ag))
  (λs:Int=>[some (.lst [.int s]),some (.int 4),some E,some (.int r),none,none,none]) (λy=>∃t:Int,y=.int t/\0<=t/\t<2*2^r.toNat) (cR 0 (1+da s 4).toNat) (λx hx s=>by let⟨k,hk⟩:=List.mem_iff_getElem?.mp hx;obtain⟨_,rfl⟩:=jL hk;exact⟨[D.int (0+(k:Int)),D.lst [.int s],D.int r],[some (.int (0+(k:Int))),some (.lst [.int (eV s)]),some (.int r)],.int (da s (2*2^r.toNat)),eV s,rfl,s1e hsh zk,rfl,_,rfl,ml s zk,mj s zk⟩) (eV s)
 obtain⟨ts,rfl,tb⟩:=tW c3;rw[j7,gq]at c2;exact⟨ts,s2,s1x (by rw[gq];exact dg (by omega)) (mw (s1r) (by omega) (by omega)) c1,by omega,by omega,tb⟩
abbrev Dx:=Cy
def s4e(x s:Int)(h:(0:Int)<4):(aK hV Dx) [D.int x,D.lst [.int s]]=some (.int (if da s 4>0 then 1 else 0),[some (.int x),some (.lst [.int (eV s)])]):=by have h4:=kX s 4 h;walk_at "e"
def s4r{s:Int}{v1 v2 v3 v4 v5 v6:Option D}:vm [some (.lst [.int s]),v1,v2,v3,v4,v5,v6]=some ([.int (1+da s 6)],[some (.lst [.int (eV s)]),v1,v2,v3,v4,v5,v6]):=by have h:=kX s 6 (by decide);walk_at "e"
def s4t{s s' r:Int}{E k:D}{TS RS RW:List D}{FE:aN}(l3:TS.length<=sizeLine)(l6:RS.length<sizeLine)
 (g1:cK 1 [0] (some (0,1)) (ai 0) (ae true) FE TS [D.lst [.int s],D.int 4,E,D.int r,D.lst TS,D.lst RS,k]=some (RW,[some (.lst [.int s']),some (.int 4),some E,some (.int r),some (.lst TS),some (.lst RS),some k])):
 (cW f9 5 (ak (aK mz (br (cI 1 [0] (some (0,1)) (bz (aa 4)) (ai 0) (ae true) FE))) ag)) [D.lst [.int s],D.int 4,E,D.int r,D.lst TS,D.lst RS,k]=some (.nx [D.lst [.int s'],D.int 4,E,D.int r,D.lst TS,D.lst (RS++[.tup RW]),k]):=by
 walk_at "e"
def s4f{s s1:Int}{s' r:Int}{E:D}{v:Option D}{X TS RS:List D}{FI:ba}{FB:aD}
 (hI:FI [D.lst [.int s],D.int 4,E,D.int r,D.lst TS,D.lst [],none]=some (X,[some (.lst [.int s1]),some (.int 4),some E,some (.int r),some (.lst TS),some (.lst []),none]))
 (f1:dI (ai 6) FB X [D.lst [.int s1],D.int 4,E,D.int r,D.lst TS,D.lst [],none]=some (.nx [some (.lst [.int s']),some (.int 4),some E,some (.int r),some (.lst TS),some (.lst RS),v])):
 (bi FI (ai 6) FB) [D.lst [.int s],D.int 4,E,D.int r,D.lst TS,D.lst [],none]=some (.nx [some (.lst [.int s']),some (.int 4),some E,some (.int r),some (.lst TS),some (.lst RS),v]):=by
 walk_at "e"
def s4(s r:Int)(E:D)(U:Zf)(h1:1<=U.length)(h4:U.length<=4):∃(G:Z9) (s':Int) (v:Option D),(bi (gh vm) (ai 6)
 vA) [D.lst [.int s],D.int 4,E,D.int r,D.lst (U.map D.int),D.lst [],none]=some (.nx [some (.lst [.int s']),some (.int 4),some E,some (.int r),some (.lst (U.map D.int)),some (.lst (G.map c0)),v])
 /\1<=G.length/\G.length<=6/\∀row∈G,row.length=U.length/\∀b∈row,b=0∨b=1:=by
 have d0:=ml s (m:=6) (by decide);have d6:=mj s (m:=6) (by decide);obtain⟨M',f1,G,s3,v,rfl,lr,hrow⟩:=gn (fg:=ai 6) (fb:=vA)
  (λi M=>∃(G:Z9) (s:Int) (v:Option D),M=[some (.lst [.int s]),some (.int 4),some E,some (.int r),some (.lst (U.map D.int)),some (.lst (G.map c0)),v]/\G.length=i/\∀row∈G,row.length=U.length/\∀b∈row,b=0∨b=1)
  (cR 0 (1+da s 6).toNat) 0 [D.lst [.int (eV s)],D.int 4,E,D.int r,D.lst (U.map D.int),D.lst [],none] ⟨[],_,none,rfl,rfl,λ_ h=>nomatch h⟩ (by
    rintro i x M hx ⟨G,s,v,rfl,lr,hrow⟩;obtain⟨hi,rfl⟩:=jL hx;let⟨bs,s4,g1,g2,g3⟩:=ua (n:=1) (p:=0) (q:=1) (js:=[0]) (fg:=ai 0) (fe:=aK hV Dx)
     (λs':Int=>[some (.lst [.int s']),some (.int 4),some E,some (.int r),some (.lst (U.map D.int)),some (.lst (G.map c0)),some (.int (0+(i:Int)))]) (λy=>∃t:Int,y=.int t/\(t=0∨t=1)) (U.map D.int) (λx hx s'=>by
       obtain⟨z,_,rfl⟩:=List.mem_map.mp hx;refine⟨[D.int z,D.lst [.int s']],[some (.int z),some (.lst [.int (eV s')])],_,eV s',rfl,s4e z s' (by decide),rfl,_,rfl,?_⟩;split
       .exact .inr rfl
       .exact .inl rfl) s
    obtain⟨row,rfl,hb⟩:=tW g3;rw[j7,j7]at g2;refine⟨_,[D.lst [.int s4],D.int 4,E,D.int r,D.lst (U.map D.int),D.lst ((G++[row]).map c0),D.int (0+(i:Int))],rfl,.inl ?_,G++[row],s4,_,rfl,by rw[jh,lr];simp,λz hz=>?_⟩
    .have e6:(G++[row]).map c0=G.map c0++[.tup (row.map D.int)]:=by rw[x5];rfl
     rw[e6];exact s4t (by rw[j7];exact dg (by omega)) (by rw[j7];exact jr (by omega:G.length<1000) (by decide)) g1
    .rcases List.mem_append.mp hz with hz|hz
     .exact hrow z hz
     .rw[List.mem_singleton.mp hz];exact⟨g2,hb⟩)
 rw[gq]at lr;exact⟨G,s3,v,s4f (mw (s4r) (by omega) (by omega)) f1,by omega,by omega,hrow⟩
def s3(s r:Int)(E T:D)(z0:0<=sizeLine):Nx (cg 5 (aW ag)) [D.lst [.int s],D.int 4,E,D.int r,T,none,none] 5 (D.lst []):=by walk_at "e"
def s5(s r:Int)(E TS RS:List D)(x:D)(v:Option D)(four:4<=sizeLine)(hE:((E.length:Nat):Int)=5)(hx:bB E (da s 5)=some x):
 Dm [some (.lst [.int s]),some (.int 4),some (.lst E),some (.int r),some (.lst TS),some (.lst RS),v]=some (.rt (.tup [.int r,.tup TS,.tup RS,x]) [some (.lst [.int (eV s)]),some (.int 4),some (.lst E),some (.int r),some (.lst TS),some (.lst RS),v]):=by
 have h:=kX s 5 (by decide);walk_at "e"
def qbm(s:Int):∃r U G e s',fyE [.int s] [.int 4,.lst [.str "open",.str "ended",.str "open",.str "ended",.str "ring"]]=some (au r U G e,[.int s'])/\q27 r U G e:=by
 obtain⟨x,hx,x0,x4⟩:∃x:Int,bB [D.int 0,D.int 1,D.int 2,D.int 2,D.int 3,D.int 1,D.int 2,D.int 3,D.int 4] (da s 9)=some (.int x)/\0<=x/\x<=4:=by have d0:=ml s (m:=9) (by decide);have d9:=mj s (m:=9) (by decide);rcases(by omega:da s 9=0∨da s 9=1∨da s 9=2∨da s 9=3∨da s 9=4∨da s 9=5∨da s 9=6∨da s 9=7∨da s 9=8)with q|q|q|q|q|q|q|q|q<;>(rw[q];exact⟨_,rfl,by decide,by decide⟩)
 obtain⟨r,hr⟩:∃r,(if x<4 then x else 4)=r:=⟨_,rfl⟩;have r0:0<=r/\r<=4:=by split at hr<;>omega
 have a0:=s0 s x r (.lst [.str "open",.str "ended",.str "open",.str "ended",.str "ring"]) (by decide) hx hr;let⟨U,s1',a1,b1,b4,tb⟩:=s1 (eV s) r (.lst [.str "open",.str "ended",.str "open",.str "ended",.str "ring"]) r0.1 r0.2;have a3:=s3 s1' r (.lst [.str "open",.str "ended",.str "open",.str "ended",.str "ring"]) (.lst (U.map D.int)) (by decide);let⟨G,s4',v,a4,m1,m6,hrow⟩:=s4 s1' r (.lst [.str "open",.str "ended",.str "open",.str "ended",.str "ring"]) U b1 b4;obtain⟨e,he,hen⟩:∃e:Str,bB [D.str "open",D.str "ended",D.str "open",D.str "ended",D.str "ring"] (da s4' 5)=some (.str e)/\(e="open"∨e="ended"∨e="ring"):=by
  have d0:=ml s4' (m:=5) (by decide);have d2:=mj s4' (m:=5) (by decide);rcases(by omega:da s4' 5=0∨da s4' 5=1∨da s4' 5=2∨da s4' 5=3∨da s4' 5=4)with q|q|q|q|q
  .rw[q];exact⟨_,rfl,.inl rfl⟩
  .rw[q];exact⟨_,rfl,.inr (.inl rfl)⟩
  .rw[q];exact⟨_,rfl,.inl rfl⟩
  .rw[q];exact⟨_,rfl,.inr (.inl rfl)⟩
  .rw[q];exact⟨_,rfl,.inr (.inr rfl)⟩
 have a5:=s5 s4' r [.str "open",.str "ended",.str "open",.str "ended",.str "ring"] (U.map D.int) (G.map c0) (.str e) v (by decide) rfl he;refine⟨r,U,G,e,eV s4',?_,⟨r0.1,r0.2,b1,b4,tb,m1,m6,hrow,hen⟩⟩;have body:=(aV a0).trans<|(aV a1).trans<|(aV a3).trans<|(aV a4).trans a5;unfold fyE gy;rw[if_pos (show [D.int 4,D.lst [.str "open",.str "ended",.str "open",.str "ended",.str "ring"]].length+1=3 from rfl)];show(match pK [D.lst [.int s],D.int 4,D.lst [.str "open",.str "ended",.str "open",.str "ended",.str "ring"],none,none,none,none]with
  | some (.rt d M)=>(match (M[0]? :Option (Option D))with
   |some (some (D.lst ys))=>some (d,ys)
   |_=>none)
  | some (.nx M)=>if false=true then none else(match (M[0]? :Option (Option D))with
   |some (some (D.lst ys))=>some (.non,ys)
   |_=>none)
  |_=>none)=_
 unfold pK;rw[body];rfl
def AD(l o:Int):Ns uP [D.int l,D.int o] (decide (0<l)):=by walk_at "e"
def AE(l o:Int):vz [D.int l,D.int o]=some (.nx [D.int (l / 2),D.int ((o+l % 2) % 2)]):=by walk_at "e"
theorem Go:∀(f zl:Nat) (l o:Int),0<=l->l.toNat<2^f->(o=0∨o=1)->f<zl->∃l':Int,ik uP
 vz zl [D.int l,D.int o]=some (.nx [D.int l',D.int ((o+(cn f l.toNat:Nat)) % 2)])
 |_,0,_,_,_,_,_,h=>absurd h (Nat.not_lt_zero _)
 | f,zl+1,l,o,l0,lf,ho,hf=>by
  have ht:=AD l o;by_cases hl:0<l
  .cases f with
   |zero=>exact absurd lf (by omega)
   | succ f=>
    have e2:(l / 2).toNat=l.toNat / 2:=by omega
    have lt2:(l / 2).toNat<2^f:=by rw[e2];rw[Nat.pow_succ]at lf;omega
    let⟨l',ih⟩:=Go f zl (l / 2) ((o+l % 2) % 2) (by omega) lt2 (by omega) (by omega);refine⟨l',?_⟩;rw[decide_eq_true hl]at ht;unfold ik;rw[ht];dsimp only;rw[AE];dsimp only;rw[ih,e2];have u:cn (f+1) l.toNat=(l.toNat % 2+cn f (l.toNat / 2)) % 2:=rfl;rw[u];have ev:((o+l % 2) % 2+(cn f (l.toNat / 2):Nat)) % 2=(o+(((l.toNat % 2+cn f (l.toNat / 2)) % 2:Nat):Int)) % 2:=by omega
    rw[ev]
  .rw[decide_eq_false hl]at ht;refine⟨l,?_⟩;unfold ik;rw[ht];dsimp only;have e0:l=0:=by omega
   subst e0;rw[show((0:Int)).toNat=0 from rfl,uk];have ev:(o+((0:Nat):Int)) % 2=o:=by omega
   rw[ev]
def qx4(n:Int)(h0:0<=n)(h:n<32):fyF [.int n]=some (.int (cn 5 n.toNat:Nat)):=by
 let⟨l',hw⟩:=Go 5 1000 n 0 h0 (by omega) (.inl rfl) (by decide);have e1:((0:Int)+(cn 5 n.toNat:Nat)) % 2=(cn 5 n.toNat:Nat):=by have:=yp 5 n.toNat;omega
 rw[e1]at hw;generalize cn 5 n.toNat=p at hw ⊢;unfold fyF wy;generalize (1000:Nat)=zl at hw ⊢;clear h0 h e1;walk_at "e"
def zY{S k:D}{z6 bit:Int}:Nx (aw 4 pF) [S,k,D.int z6,D.int bit,none,none,none] 4 (D.int (2*z6+bit)):=by walk_at "e"
def zV{t aO o:Int}(h:fyF [.int (Builtin.bitAnd aO t)]=some (.int o)):((aS fyF pC) [D.int t,D.int aO]).map (·.1)=some (.int o):=by walk_at "e"
def zX{R RS e k z6 bit aO:D}{TS Y:List D}{FE:aN}(lt:TS.length<=sizeLine)(cm:Ns (cK 1 [4] none (ai 0) (ae true) FE TS) [D.tup [R,.tup TS,RS,e],k,z6,bit,aO,none,none] Y):Nx (aw 5 (br (cI 1 [4] none uR (ai 0) (ae true) FE))) [D.tup [R,.tup TS,RS,e],k,z6,bit,aO,none,none] 5 (D.lst Y):=by
 walk_at "e"
def zW{R TS e z6 bit aO Y:D}{RS RW:List D}{k':Int}(zc:0<RS.length)(hr:bB RS (k' % (RS.length:Nat))=some (.tup RW)):Nx CP [D.tup [R,TS,.tup RS,e],D.int k',z6,bit,aO,Y,none] 6 (D.tup RW):=by
 walk_at "e"
def zU(S k z6 bit aO L:D)(Y:List D):Ns (ak (aK cr (aa 5)) ag) [S,k,z6,bit,aO,D.lst Y,L] [.int ((Y.length:Nat):Int)]:=by walk_at "e"
def zS{Y RW:List D}{i b:Int}(h:bB RW i=some (.int b)):Ns (bh u5) [D.int i,D.lst Y,D.tup RW] (b==1):=by walk_at "e"
def zR{Y RW:List D}{i:Int}{y:D}(h:bB Y i=some y):((af bd (aa 1) (aa 0)) [D.int i,D.lst Y,D.tup RW]).map (·.1)=some y:=by walk_at "e"
def zT{r aO m:Int}{TS RS e k z6 bit Y L:D}{X Z:List D}{FI:ba}{FT:dz}{FE:aN}(two:2<=sizeLine)(lx:X.length<=sizeLine)(hs:bQ (.int 1) (.int r)=some (.int m))(m0:0<m)
 (hI:FI [D.tup [.int r,TS,RS,e],k,z6,bit,D.int aO,Y,L]=some (X,[some (.tup [.int r,TS,RS,e]),some k,some z6,some bit,some (.int aO),some Y,some L]))
 (cm:cK 1 [5,6] none (ai 0) FT FE X [D.tup [.int r,TS,RS,e],k,z6,bit,D.int aO,Y,L]=some (Z,[some (.tup [.int r,TS,RS,e]),some k,some z6,some bit,some (.int aO),some Y,some L])):
 (az (ca (ak (af b7 (aa 4) (af bQ (ae (.int 1)) (af bd (aa 0) (ae (.int 0))))) (ak (br (cI 1 [5,6] none FI (ai 0) FT FE)) ag)))) [D.tup [.int r,TS,RS,e],k,z6,bit,D.int aO,Y,L]=some (.rt (.tup [.int (aO % m),.lst Z]) [D.tup [.int r,TS,RS,e],k,z6,bit,D.int aO,Y,L]):=by
 generalize bQ=SH at hs ⊢;walk_at "e"
section
variable{r:Int}{U:Zf}{G:Z9}{e:Str}
def vY(ok:q27 r U G e):bQ (.int 1) (.int r)=some (.int (2^r.toNat)):=by
 have r0:=ok.r0;have r4:=ok.r4;have r6:r<=1000000:=by omega
 simp[bQ,kF,mh,r0,r6]
def Fx(ok:q27 r U G e)(k:Nat):(aE G k).length=U.length/\∀b∈aE G k,b=0∨b=1:=by have m1:=ok.m1;have hk:k % G.length<G.length:=Nat.mod_lt _ (by omega);unfold aE;rw[jb hk];exact ok.rw _ (xn hk)
theorem HQ:∀(U row:Zf),row.length=U.length->(row.filter λb=>b==1).length=((U.zip row).filter λq=>q.2==1).length
 |[],[],_=>rfl
 |[],_::_,h=>by cases h
 |_::_,[],h=>by cases h
 | t::ts,b::bs,h=>by
  have ih:=HQ ts bs (by simpa using h);rw[List.zip_cons_cons];by_cases hb:(b==1)=true
  .rw[List.filter_cons_of_pos (p:=λb=>b==1) hb,List.filter_cons_of_pos (p:=λq:Int×Int=>q.2==1) (show((t,b).2==1)=true from hb),jt,jt,ih]
  .rw[List.filter_cons_of_neg (p:=λb=>b==1) hb,List.filter_cons_of_neg (p:=λq:Int×Int=>q.2==1) (show¬((t,b).2==1)=true from hb),ih]
def qep{row signs:Zf}(h:row.length=signs.length):(((List.range signs.length).filter λi=>row.getD i 0==1).map λi=>signs.getD i 0)=fz row signs:=by
 have e1:signs.zip row=(List.range signs.length).map λi=>(signs.getD i 0,row.getD i 0):=by
  apply List.ext_getElem
  .simp[h]
  .intro i h1 h2;simp at h1 h2;simp[h1,h2,h]
 unfold fz;rw[e1,List.filter_map,jj];rfl
def qks(ok:q27 r U G e)(k:Nat)(x:Int):(fz (aE G k) (U.map (dG x))).length=(bF U G k).length:=by rw[qI,j7];rfl
def nh(ok:q27 r U G e)(k:Nat)(z6 bit:Int)(a0:0<=z6)(hb:0<=bit):fyG [au r U G e,.int k,.int z6,.int bit]=some (.tup [.int ((2*z6+bit) % 2^r.toNat),.lst ((fz (aE G k) (U.map (dG (2*z6+bit)))).map D.int)]):=by
 have p16:=jZ ok.r0 ok.r4;have c1:=iy (n:=1) (js:=[4]) (fg:=ai 0) (fe:=aS fyF pC) (M:=[au r U G e,D.int (k:Int),D.int z6,D.int bit,D.int (2*z6+bit),none,none])
  (λd=>match d with|.int t=>.int (dG (2*z6+bit) t)|d=>d) (U.map D.int) (λx hx=>by obtain⟨t,ht,rfl⟩:=List.mem_map.mp hx;have tb:=ok.tb t ht;have ea:=FZ (x:=2*z6+bit) (y:=t) (by omega) tb.1;have le:(2*z6+bit).toNat &&& t.toNat<=t.toNat:=Nat.and_le_right;have ho:=qx4 (Builtin.bitAnd (2*z6+bit) t) (by omega) (by omega);rw[show(Builtin.bitAnd (2*z6+bit) t).toNat=(2*z6+bit).toNat &&& t.toNat from by omega]at ho;exact⟨[D.int t,D.int (2*z6+bit)],rfl,zV ho⟩)
 have es:(U.map D.int).map (λd=>match d with|.int t=>D.int (dG (2*z6+bit) t)|d=>d)=(U.map (dG (2*z6+bit))).map D.int:=by rw[jj,jj];rfl
 rw[es]at c1;have c2:(U.map (dG (2*z6+bit))).length=U.length:=j7 ..;generalize U.map (dG (2*z6+bit))=signs at c1 c2 ⊢;have hrow:=Fx ok k;have hat:∀i:Nat,i<signs.length->bB ((aE G k).map D.int) (i:Int)=some (.int ((aE G k).getD i 0))/\bB (signs.map D.int) (i:Int)=some (.int (signs.getD i 0)):=λi hi=>by
  refine⟨?_,?_⟩
  .rw[i3 (by omega) (by rw[j7];omega),jy,je,jb (by omega),ji,jb (by omega)];rfl
  .rw[i3 (by omega) (by rw[j7];omega),jy,je,jb hi,ji,jb hi];rfl
 have cf:=m9 (n:=1) (js:=[5,6]) (fg:=ai 0) (ft:=bh u5) (fe:=af bd (aa 1) (aa 0)) (M:=[au r U G e,D.int (k:Int),D.int z6,D.int bit,D.int (2*z6+bit),D.lst (signs.map D.int),D.tup ((aE G k).map D.int)])
  (λd=>match d with|.int i=>(aE G k).getD i.toNat 0==1|_=>false) (λd=>match d with|.int i=>.int (signs.getD i.toNat 0)|d=>d) (cR 0 signs.length) (λx hx=>by let⟨i,hx1⟩:=List.mem_iff_getElem?.mp hx;obtain⟨hi,rfl⟩:=jL hx1;rw[Int.zero_add];let⟨h1,h2⟩:=hat i hi;exact⟨_,rfl,zS h1,λ_=>zR h2⟩)
 have ey:((cR 0 signs.length).filter (λd=>match d with|.int i=>(aE G k).getD i.toNat 0==1|_=>false)).map (λd=>match d with|.int i=>D.int (signs.getD i.toNat 0)|d=>d)=(fz (aE G k) signs).map D.int:=by
  rw[<-qep (hrow.1.trans c2.symm)];unfold cR;rw[List.filter_map,jj,jj];have e3:((λd=>match d with|D.int i=>(aE G k).getD i.toNat 0==1|_=>false)∘λ(i:Nat)=>D.int (0+(i:Int)))=λi=>(aE G k).getD i 0==1:=by funext i;show((aE G k).getD ((0:Int)+(i:Int)).toNat 0==1)=_;rw[Int.zero_add,jy]
  rw[e3];refine List.map_congr_left λi _=>?_;show D.int (signs.getD ((0:Int)+(i:Int)).toNat 0)=_;rw[Int.zero_add,jy];rfl
 rw[ey]at cf;have hl:0<(G.map c0).length:=by have:=ok.m1;rw[j7];omega
 have ln:((signs.map D.int).length:Int)=(signs.length:Nat):=by rw[j7]
 have t4:=ok.t4;have hI:=mw (zU (au r U G e) (.int (k:Int)) (.int z6) (.int bit) (.int (2*z6+bit)) (.tup ((aE G k).map D.int)) (signs.map D.int)) (by omega) (by rw[ln];omega);rw[ln,jy]at hI;exact gP rfl ⟨_,(aV (zY)).trans<|(aV (zX (by rw[j7];exact dg (by omega)) c1)).trans<|
  (aV (zW hl (wV ok k))).trans<|zT (by decide) (by rw[gq];exact dg (by omega)) (vY ok) (by omega) hI cf⟩
end
def qki{R TS RS W:D}{e:Str}(h:bV (.str e) (.str "ring")=some false):fyH [.tup [R,TS,RS,.str e],W]=some (.int 0):=by unfold fyH sX;walk_at "e"
def Ah{S:D}{W:List D}(lw:W.length<=sizeLine):Nx (aw 2 (br (hZ dE (aa 1)))) [S,D.lst W,none,none,none,none,none] 2 (D.lst W):=by walk_at "e"
def Ac{R TS RS W B:D}{e:Str}{FX:aD}(h:bV (.str e) (.str "ended")=some false):Nz (bY pG FX aJ) [D.tup [R,TS,RS,.str e],W,B,none,none,none,none]:=by walk_at "e"
def zZ(TS RS W:D)(r:Int)(B Z:List D)(e:Str)(FR:ba)(h:bV (.str e) (.str "ended")=some true)(hr:Ns FR [D.tup [.int r,TS,RS,.str e],W,D.lst B,none,none,none,none] Z)(l:B.length+Z.length<=sizeLine):Nx (bY pG (aw 2 (af bN (aa 2) (br FR))) aJ) [D.tup [.int r,TS,RS,.str e],W,D.lst B,none,none,none,none] 2 (D.lst (B++Z)):=by
 walk_at "e"
def Ai{r:Int}{TS RS W B e:D}(one:1<=sizeLine):Ns (aW (ak (ae (.int 0)) ag)) [D.tup [.int r,TS,RS,e],W,B,none,none,none,none] [.int 0]:=by walk_at "e"
def Ae{r:Int}{TS RS W B e:D}:(af bd (aa 0) (ae (.int 0))) [D.tup [.int r,TS,RS,e],W,B,none,none,none,none]=some (.int r,[some (.tup [.int r,TS,RS,e]),some W,some B,none,none,none,none]):=by walk_at "e"
def Ag{S W B:D}{a:D}(h:fyH [S,W]=some a):Nx Cp [S,W,B,none,none,none,none] 3 a:=by walk_at "e"
def Af{S W B a:D}(z0:0<=sizeLine):Nx (cg 4 (aW ag)) [S,W,B,a,none,none,none] 4 (D.lst []):=by walk_at "e"
def Aa{S W:D}{z k' nz b:Int}{B F S2:List D}(v6:Option D)(hb:bB B k'=some (.int b))(st:fyG [S,.int k',.int z,.int b]=some (.tup [.int nz,.lst S2]))(ln:F.length+S2.length<=sizeLine):
 Ci [S,W,D.lst B,D.int z,D.lst F,D.int k',v6]=some (.nx [S,W,D.lst B,D.int nz,D.lst (F++S2),D.int k',D.lst S2]):=by
 walk_at "e"
def Ab(S W a F:D)(B:List D):Ns (ak (aK cr (aa 2)) ag) [S,W,D.lst B,a,F,none,none] [.int ((B.length:Nat):Int)]:=by walk_at "e"
def qsn{S W B a:D}{X F:List D}{v3 v5 v6:Option D}{FI:ba}{FB:aD}(hI:Ns FI [S,W,B,a,D.lst [],none,none] X)
 (l1:dI (ai 5) FB X [S,W,B,a,D.lst [],none,none]=some (.nx [S,W,B,v3,D.lst F,v5,v6])):
 (am (bi FI (ai 5) FB) (jE 4)) [S,W,B,a,D.lst [],none,none]=some (.rt (.lst F) [S,W,B,v3,none,v5,v6]):=by
 walk_at "e"
def t6{b:aD}{n k:Nat}{ds:List D}{F:List D}(hl:ds.length=n)(h:∃M,b (ds.map some++List.replicate (k-n) none)=some (.rt (.lst F) M)):aH true n k b ds=some (.lst F):=by obtain⟨M,h⟩:=h;unfold aH;rw[if_pos hl,h]
section
variable{r:Int}{U:Zf}{G:Z9}{e:Str}
def nr(ok:q27 r U G e)(k:Nat):(bF U G k).length<=4:=by unfold bF;refine ju (List.length_filter_le _ _) ?_;rw[k7];have:=ok.t4;have:=kl U.length (aE G k).length;omega
def qu(ok:q27 r U G e)(k:Nat):(bK U G k).length<=k*4:=uc _ 4 (λk=>by rw[jw];exact nr ok k) _
def qjf{n:Nat}{w:Zf}(hb:ay w)(hn:n<=w.length):bA (2^n) 0 w=aY (w.drop (w.length-n)):=by
 have m0:(0:Int)<2^n:=Int.pow_pos (by decide);have hl:(w.drop (w.length-n)).length=n:=by rw[xm];omega
 have ha:=kZ (w.drop (w.length-n)) λb h=>hb b (List.mem_of_mem_drop h);rw[hl]at ha;have h1:=qz (2^n) w 0;have hw:=qD (w.take (w.length-n)) (w.drop (w.length-n));rw[List.take_append_drop,hl]at hw;rw[lA,hw,Int.zero_mul,Int.zero_add,Int.add_comm,Int.add_mul_emod_self_right,Int.emod_eq_of_lt ha.1 ha.2]at h1;have h2:=kY m0 w 0 ⟨Int.le_refl _,m0⟩;rw[Int.emod_eq_of_lt h2.1 h2.2]at h1;exact h1
def Ar{TS RS E W:D}{r z6 b m:Int}(hs:bQ (.int 1) (.int r)=some (.int m))(h0:0<m):(aw 2 (af b7 pF (af bQ (ae (.int 1)) (af bd (aa 0) (ae (.int 0)))))) [D.tup [.int r,TS,RS,E],W,D.int z6,D.int b]=some (.nx [D.tup [.int r,TS,RS,E],W,D.int ((2*z6+b) % m),D.int b]):=by generalize bQ=SH at hs ⊢;walk_at "e"
def qt7{R TS RS:D}{W:List D}{e:Str}{z:Int}{v3:Option D}{FB:aD}(h:bV (.str e) (.str "ring")=some true)(hf:dI (ai 3) FB W [D.tup [R,TS,RS,.str e],D.lst W,D.int 0,none]=some (.nx [D.tup [R,TS,RS,.str e],D.lst W,D.int z,v3])):
 (aH false 2 4 (am (aw 2 (ae (.int 0))) (am (bY (bh oG)
 (bi (bz (aa 1)) (ai 3) FB)
 aJ) (az (aa 2))))) [.tup [R,TS,RS,.str e],.lst W]=some (.int z):=by
 walk_at "e"
def ip(ok:q27 r U G e)(w:Zf)(hb:ay w)(hw:e="ring"->r.toNat<=w.length):fyH [au r U G e,.lst (w.map D.int)]=some (.int (aZ r e w)):=by
 by_cases q:e="ring"
 .have m0:(0:Int)<2^r.toNat:=Int.pow_pos (by decide);let⟨M',l1,v3,hρ⟩:=gn (fg:=ai 3) (fb:=(aw 2 (af b7 pF (af bQ (ae (.int 1)) (af bd (aa 0) (ae (.int 0))))))) (λk M=>∃v3,M=[some (au r U G e),some (.lst (w.map D.int)),some (.int (bA (2^r.toNat) 0 (w.take k))),v3]) (w.map D.int) 0
   [some (au r U G e),some (.lst (w.map D.int)),some (.int 0),none] ⟨none,rfl⟩ (by rintro i x M hx ⟨v3,rfl⟩;rw[je]at hx;obtain⟨b,hb1,rfl⟩:=Option.map_eq_some_iff.mp hx;rw[jv];refine⟨_,_,rfl,.inl (Ar (vY ok) m0),some (.int b),?_⟩;rw[cE hb1,yS,show 2*bA (2^r.toNat) 0 (w.take i)+b=bA (2^r.toNat) 0 (w.take i)+bA (2^r.toNat) 0 (w.take i)+b from by omega];rfl)
  subst hρ;rw[jv,j7,List.take_length,qjf hb (hw q)]at l1;unfold aZ;rw[if_pos q];unfold fyH sX;exact qt7 (by rw[q];exact gY) l1
 .unfold aZ;rw[if_neg q];refine qki ?_;rcases ok.en with g|g|g
  .rw[g];exact iL
  .rw[g];exact iM
  .exact absurd g q
def kM(r:Int)(U:Zf)(G:Z9)(e:Str)(w:Zf):List Int:=mP (bS e) r.toNat U G w (w.length+aB r e)
def Hl(ok:q27 r U G e){w:Zf}(hb:ay w)(hw:e="ring"->r.toNat<=w.length):p6 r.toNat U G (aZ r e w) (sI r e w)=kM r U G e w:=by rw[yD,qqh,qkm (by have:=ok.r4;omega) hb (qhh hw) λt h=>(ok.tb t h).1];rfl
def FY(ok:q27 r U G e)(w:Zf)(hb:ay w)(hw:e="ring"->r.toNat<=w.length)(hl:w.length<=60):fyI [au r U G e,.lst (w.map D.int)]=some (.lst ((kM r U G e w).map D.int)):=by
 have z4:=jH ok;have r0:=ok.r0;have r4:=ok.r4;have ne:e≠"ended"->bV (.str e) (.str "ended")=some false:=λq=>by
  rcases ok.en with g|g|g
  .rw[g];exact nL
  .exact absurd g q
  .rw[g];exact nK
 have hB:C9 [au r U G e,D.lst (w.map D.int),D.lst (w.map D.int),none,none,none,none]=some (.nx [au r U G e,D.lst (w.map D.int),D.lst ((w++List.replicate (aB r e) 0).map D.int),none,none,none,none]):=by
  by_cases g:e="ended"
  .have ez:aB r e=r.toNat:=by rw[g];exact if_pos rfl
   have hrep:(eE (aW (ak (ae (.int 0)) ag)) (af bd (aa 0) (ae (.int 0)))) [au r U G e,D.lst (w.map D.int),D.lst (w.map D.int),none,none,none,none]=some (List.replicate r.toNat (D.int 0),[some (au r U G e),some (.lst (w.map D.int)),some (.lst (w.map D.int)),none,none,none,none]):=wU (Ai (by decide)) (Ae) (yx r0 (by omega));have:=zZ (.tup (U.map D.int)) (.tup (G.map c0)) (.lst (w.map D.int)) r (w.map D.int) _ e _ (by rw[g];exact nM) hrep (by rw[j7,jw];exact dg (by omega));rw[ez,x5,List.map_replicate];exact this
  .have ez:aB r e=0:=if_neg g;rw[ez,List.replicate_zero,List.append_nil];exact Ac (ne g)
 rw[<-Hl ok hb hw,yD];have hul:(w++List.replicate (aB r e) 0).length=w.length+aB r e:=by rw[jh,jw]
 have hbb:ay (w++List.replicate (aB r e) 0):=gQ hb (t9 _);have hst:=ip ok w hb hw;have ha:=yI (r:=r) (e:=e) kZ w hb hw;generalize aZ r e w=a at hst ha;generalize w++List.replicate (aB r e) 0=u at hB hul hbb;have m0:(0:Int)<2^r.toNat:=Int.pow_pos (by decide);let⟨M',l1,v5,v6,hρ⟩:=gn (fg:=ai 5) (fb:=am Dz
 (cg 4 (qb qa (aa 4) (aa 6))))
   (λk M=>∃(v5 v6:Option D),M=[some (au r U G e),some (.lst (w.map D.int)),some (.lst (u.map D.int)),some (.int (bA (2^r.toNat) a (u.take k))),some (.lst (((List.range k).flatMap (fZ r.toNat U G a u)).map D.int)),v5,v6]) (cR 0 u.length) 0
   [some (au r U G e),some (.lst (w.map D.int)),some (.lst (u.map D.int)),some (.int a),some (.lst []),none,none] ⟨none,none,rfl⟩ (by
    rintro i x M hx ⟨v5,v6,rfl⟩;obtain⟨hi,rfl⟩:=jL hx;rw[jv];rw[Int.zero_add];have hbi:=hbb _ (xn hi);have ek:u[i]? =some u[i]:=jb hi;have ga:bB (u.map D.int) (i:Int)=some (.int u[i]):=by rw[i3 (by omega) (by rw[j7];omega),jy,je,ek];rfl
    have hr:=kY m0 (u.take i) a ha;have st:=nh ok i (bA (2^r.toNat) a (u.take i)) u[i] hr.1 (by omega);have es:fz (aE G i) (U.map (dG (2*bA (2^r.toNat) a (u.take i)+u[i])))=fZ r.toNat U G a u i:=by unfold fZ;rw[ji,ek];rfl
    rw[es]at st;have p4:=yU (U:=U) (G:=G) (m:=r.toNat) (a:=a) (u:=u) i;have p5:=qu ok i;have q4:=nr ok i;have q5:=Im (U:=U) (G:=G) (m:=r.toNat) (a:=a) (u:=u) i;have hle:(((List.range i).flatMap (fZ r.toNat U G a u)).map D.int).length+((fZ r.toNat U G a u i).map D.int).length<=sizeLine:=by rw[j7,j7];exact dg (by omega)
    refine⟨_,_,rfl,.inl (Aa v6 ga st hle),some (.int (i:Int)),some (.lst ((fZ r.toNat U G a u i).map D.int)),?_⟩;rw[jI,x5,cE ek,yS,show 2*bA (2^r.toNat) a (u.take i)+u[i]=bA (2^r.toNat) a (u.take i)+bA (2^r.toNat) a (u.take i)+u[i]from by omega])
 subst hρ;rw[gq,jv]at l1;have ln:((u.map D.int).length:Int)=(u.length:Nat):=by rw[j7]
 have hI:=mw (Ab (au r U G e) (.lst (w.map D.int)) (.int a) (.lst []) (u.map D.int)) (by omega) (by rw[ln];omega);rw[ln,jy]at hI;exact t6 rfl ⟨_,(aV (Ah (by rw[j7];exact dg (by omega)))).trans<|(aV hB).trans<|(aV (Ag hst)).trans<|
  (aV (Af (by decide))).trans<|qsn hI l1⟩
end
noncomputable def eM(t:Int×Int×Int):D:=.tup [.int t.1,.int t.2.1,.int t.2.2]
def qrf{s z6 c k:Int}{TB:D}{T R:List D}(h1:fV TB (.int s)=some (.lst T))(h2:bB T k=some (.lst R))(h3:bB R z6=some .non):fyw [.tup [.int s,.int z6,.int c],TB,.int k]=some .non:=by unfold fyw sV;generalize hd:fV=dx at h1 ⊢;clear hd;walk_at "e"
def qre{s z6 c k x:Int}{TB:D}{T R:List D}(h1:fV TB (.int s)=some (.lst T))(h2:bB T k=some (.lst R))(h3:bB R z6=some (.int x)):fyw [.tup [.int s,.int z6,.int c],TB,.int k]=some (.int (c+x)):=by unfold fyw sV;generalize hd:fV=dx at h1 ⊢;clear hd;walk_at "e"
def BR{T TB:D}{B:List D}:Nx (aw 3 (aK cr (aa 0))) [D.lst B,T,TB,none,none] 3 (D.int ((B.length:Nat):Int)):=by walk_at "e"
def BQ{B TB k:D}{T A:List D}{FT:dz}(lt:T.length<=sizeLine)(cf:Ns (cK 1 [2,3] none (ai 0) FT (aa 0) T) [B,D.lst T,TB,k,none] A):Nx (aw 4 (br (cI 1 [2,3] none (bz (aa 1)) (ai 0) FT (aa 0)))) [B,D.lst T,TB,k,none] 4 (D.lst A):=by
 walk_at "e"
def BP{B T TB k m:D}{A Y:List D}{DM:D->Option D}{FE:aN}(lt:A.length<=sizeLine)(zw:3<=sizeLine)(cm:Ns (cK 1 [2,3] none (ai 0) (ae true) FE A) [B,T,TB,k,D.lst A] Y)(hm:DM (.lst Y)=some m):Nr (az (ca (ak (aK DM (br (cI 1 [2,3] none (bz (aa 4)) (ai 0) (ae true) FE))) (ak (aa 0) (ak (aa 4) ag))))) [B,T,TB,k,D.lst A] (D.tup [m,B,.lst A]):=by
 walk_at "e"
def Ga{t TB k y:D}(h:fyw [t,TB,k]=some y):Ns (aS fyw gJ) [t,TB,k] y:=by walk_at "e"
def qrd(o:Option Int)(FC:aN)(M:aA)(h:FC M=some (bZ o,M)):(bh (af ix FC (ae .non))) M=some (o.isSome,M):=by
 rw[yh,EY,h];cases o with
 |none=>rfl
 |some x=>rfl
noncomputable def sE(d:D):Option (Int×Int×Int):=match d with
 |.tup [.int s,.int r,.int c]=>some (s,r,c)
 |_=>none
theorem Hr(c:Int×Int×Int->Option Int):∀trs:List (Int×Int×Int),(trs.filter λt=>(c t).isSome).map (λt=>bZ (c t))=(trs.filterMap c).map D.int
 |[]=>rfl
 | t::trs=>by
  have ih:=Hr c trs;cases h:c t with
  |none=>rw[List.filter_cons_of_neg (by rw[h];decide),List.filterMap_cons_none h,ih]
  |some x=>rw[List.filter_cons_of_pos (by rw[h];rfl),List.filterMap_cons_some h,jz,jz,ih,h];rfl
def qxf(b:Zf)(trs:List (Int×Int×Int))(TB:D)(c:Int×Int×Int->Option Int)(m:Int)(hc:∀t∈trs,fyw [eM t,TB,.int (b.length:Nat)]=some (bZ (c t)))(hl:trs.length<=1000)(hm:cX (trs.filterMap c)=some m):
 fyx [.lst (b.map D.int),.lst (trs.map eM),TB]=some (.tup [.int m,.lst (b.map D.int),.lst ((trs.filter λt=>(c t).isSome).map eM)]):=by
 have cf:=m9 (n:=1) (js:=[2,3]) (fg:=ai 0) (ft:=bh (af ix (aS fyw gJ) (ae .non))) (fe:=aa 0) (M:=[D.lst (b.map D.int),D.lst (trs.map eM),TB,D.int ((b.map D.int).length:Nat),none])
  (λd=>((sE d).bind c).isSome) (λd=>d) (trs.map eM) (λx hx=>by obtain⟨t,ht,rfl⟩:=List.mem_map.mp hx;have h:=hc t ht;refine⟨[eM t,TB,D.int ((b.map D.int).length:Nat)],rfl,?_,λ_=>rfl⟩;rw[j7];exact qrd (c t) _ _ (Ga h))
 have e1:((trs.map eM).filter λd=>((sE d).bind c).isSome).map (λd=>d)=(trs.filter λt=>(c t).isSome).map eM:=by rw[List.map_id',List.filter_map];rfl
 rw[e1]at cf;have sub:∀t∈trs.filter (λt=>(c t).isSome),t∈trs:=λt ht=>(List.mem_filter.mp ht).1;have la:(trs.filter λt=>(c t).isSome).length<=1000:=ju (List.length_filter_le _ _) hl;have cm:=iy (n:=1) (js:=[2,3]) (fg:=ai 0) (fe:=aS fyw gJ) (M:=[D.lst (b.map D.int),D.lst (trs.map eM),TB,D.int ((b.map D.int).length:Nat),D.lst ((trs.filter λt=>(c t).isSome).map eM)])
  (λd=>bZ ((sE d).bind c)) ((trs.filter λt=>(c t).isSome).map eM) (λx hx=>by obtain⟨t,ht,rfl⟩:=List.mem_map.mp hx;have h:=hc t (sub t ht);refine⟨[eM t,TB,D.int ((b.map D.int).length:Nat)],rfl,?_⟩;rw[j7,Ga h];rfl)
 have e2:((trs.filter λt=>(c t).isSome).map eM).map (λd=>bZ ((sE d).bind c))=(trs.filterMap c).map D.int:=by rw[<-Hr,jj];rfl
 rw[e2]at cm;have hd:sJ (.lst ((trs.filterMap c).map D.int))=some (.int m):=by
  show(match c6 ((trs.filterMap c).map D.int)with
   |some ns=>if ns≠[]then some (D.int ((cX ns).getD 0))else none
   |none=>none)=_
  rw[gS];have hne:trs.filterMap c≠[]:=λz=>by rw[z]at hm;cases hm
  show(if trs.filterMap c≠[]then some (D.int ((cX (trs.filterMap c)).getD 0))else none)=_;rw[if_pos hne,hm];rfl
 exact gP rfl ⟨_,(aV (BR)).trans<|(aV (BQ (by rw[j7];exact dg (by omega)) cf)).trans<|BP (by rw[j7];exact dg (by omega)) (by decide) cm hd⟩
def FV{s z6 c x y z:Int}{CH R:List D}(h1:bB CH z6=some (.lst R))(h2:bB R x=some (.tup [.int y,.int z]))(zw:3<=sizeLine):fyy [.tup [.int s,.int z6,.int c],.int x,.lst CH]=some (.tup [.int s,.int y,.int (c+z)]):=by unfold fyy ww;walk_at "e"
def BN{t x CH y:D}(h:fyy [t,x,CH]=some y):((aS fyy gJ) [t,x,CH]).map (·.1)=some y:=by walk_at "e"
def BO{m B x CH TB:D}{T Y:List D}{FE:aN}(lt:T.length<=sizeLine)(cm:Ns (cK 1 [1,2] none (ai 0) (ae true) FE T) [D.tup [m,B,.lst T],x,CH,TB,none] Y):Nx (aw 4 (br (cI 1 [1,2] none B2 (ai 0) (ae true) FE))) [D.tup [m,B,.lst T],x,CH,TB,none] 4 (D.lst Y):=by
 walk_at "e"
def BM{m T x CH TB TR y:D}{B:List D}(one:1<=sizeLine)(lb:B.length+1<=sizeLine)(h:fyx [.lst (B++[x]),TR,TB]=some y):Nr Di [D.tup [m,.lst B,T],x,CH,TB,TR] y:=by
 walk_at "e"
theorem HD{α β:Type}{f:α->Option β}{q:α->Bool}:∀{xs:List α},(∀x∈xs,(f x).isSome=true->q x=true)->(xs.filter q).filterMap f=xs.filterMap f/\((xs.filter q).filter λx=>(f x).isSome)=xs.filter λx=>(f x).isSome
 |[],_=>⟨rfl,rfl⟩
 | x::xs,h=>by
  let⟨h1,h2⟩:=HD (f:=f) (q:=q) (xs:=xs) λy hy=>h y (jd _ hy);cases e:f x with
  | none=>
   have n1:¬(f x).isSome=true:=by rw[e];exact λz=>nomatch z
   rw[List.filterMap_cons_none e,List.filter_cons_of_neg (p:=λx=>(f x).isSome) n1];by_cases z:q x=true
   .rw[List.filter_cons_of_pos z,List.filterMap_cons_none e,List.filter_cons_of_neg (p:=λx=>(f x).isSome) n1];exact⟨h1,h2⟩
   .rw[List.filter_cons_of_neg z];exact⟨h1,h2⟩
  | some y=>
   have n1:(f x).isSome=true:=by rw[e];rfl
   have z:=h x jf n1;rw[List.filter_cons_of_pos z,List.filterMap_cons_some e,List.filterMap_cons_some e,List.filter_cons_of_pos (p:=λx=>(f x).isSome) n1,List.filter_cons_of_pos (p:=λx=>(f x).isSome) n1,h1,h2];exact⟨rfl,rfl⟩
section
variable(r:Int)(U:Zf)(G:Z9)(e:Str)(ts:List Told)(n:Nat)
def pb(b:Zf):List (Int×Int×Int):=((ck r e).filter λs=>(cG r U G e ts n s b).isSome).map λs=>(s,aP r U G e ts n s b)
def cQ(b:Zf):D:=.tup [.int (cJ r U G e ts n b),.lst (b.map D.int),.lst ((pb r U G e ts n b).map eM)]
def iu:D:=.dct ((ck r e).map λs=>(Sum.inl s,fX (bU r U G e ts n s)))
end
section
variable{r:Int}{U:Zf}{G:Z9}{e:Str}{ts:List Told}{n:Nat}
def qj7{ss:Zf}{f:Int->D}{s:Int}(h:s∈ss):mJ (ss.map λs=>(Sum.inl s,f s)) s=some (f s):=by
 induction ss with
 |nil=>cases h
 | cons a r ih=>
  unfold mJ;rw[jz];by_cases z:a=s
  .subst z;simp[List.find?_cons]
  .have h1:s∈r:=by
    rcases List.mem_cons.mp h with h|h
    .exact absurd h.symm z
    .exact h
   have:=ih h1;unfold mJ at this;rw[<-this];simp[List.find?_cons,z]
def Es(ts:List Told)(n:Nat):∀(len k:Nat) (st:Sx),st∈bO r U G ts n k len->st.length=2^r.toNat/\∀ch∈st,ch.length<=2/\∀q∈ch,0<=q.1/\q.1.toNat<2^r.toNat:=by
 intro len;induction len with
 |zero=>intro k st h;cases h
 | succ len ih=>
  intro k st h;have ok1:=pq (r:=r) (U:=U) (G:=G) (ts:=ts) (n:=n) (len+1) k;rw[uy]at h ok1;rcases List.mem_cons.mp h with h|h
  .subst h;refine⟨ok1.1,λch hc=>⟨?_,(ok1.2.1 ch hc).2⟩⟩;rw[(ok1.2.1 ch hc).1];split<;>omega
  .exact ih _ _ h
def yz(ts:List Told)(n:Nat)(s:Int):(bU r U G e ts n s).length=n+aB r e+1:=by unfold bU;rw[zn,jK]
def GC{s:Int}{k:Nat}{t:Rw}(h:(bU r U G e ts n s)[k]? =some t):t.length=2^r.toNat:=by
 have hk:k<=n+aB r e:=by have:=(List.getElem?_eq_some_iff.mp h).1;rw[yz]at this;omega
 unfold bU at h;rw[<-List.head?_drop,zG _ _ k (by rw[jK];exact hk)]at h;have e1:(bT ((bO r U G ts n 0 (n+aB r e)).drop k) (dH r e s)).headD []=t:=by rw[List.headD_eq_head?_getD,h];rfl
 rw[<-e1];exact GS (by unfold dH;simp) λz hz=>(Es ts n _ _ z (List.mem_of_mem_drop hz)).1
def qts{s:Int}{b:Zf}(hs:s∈ck r e)(hb:ay b)(hl:b.length<=n):fyw [eM (s,aP r U G e ts n s b),iu r U G e ts n,.int (b.length:Nat)]=some (bZ (cG r U G e ts n s b)):=by
 have hk:b.length<(bU r U G e ts n s).length:=by rw[yz];omega
 have h1:fV (iu r U G e ts n) (.int s)=some (.lst ((bU r U G e ts n s).map dZ)):=qj7 hs;have ek:(bU r U G e ts n s)[b.length]? =some (bU r U G e ts n s)[b.length]:=jb hk;have h2:bB ((bU r U G e ts n s).map dZ) (b.length:Int)=some (.lst ((bU r U G e ts n s)[b.length].map bZ)):=by rw[i3 (by omega) (by rw[j7];omega),jy,je,ek];rfl
 have hr:=pi (U:=U) (G:=G) (ts:=ts) hs hb hl;have h3:=qm (t:=(bU r U G e ts n s)[b.length]) hr.1 (by rw[GC ek];exact hr.2);have ec:cG r U G e ts n s b=(dy (bU r U G e ts n s)[b.length] (aP r U G e ts n s b).1).map λx=>(aP r U G e ts n s b).2+x:=by unfold cG;rw[ji,ek];rfl
 rw[ec];cases q:dy (bU r U G e ts n s)[b.length] (aP r U G e ts n s b).1 with
 | none=>
  rw[q]at h3;exact qrf h1 h2 h3
 | some x=>
  rw[q]at h3;exact qre h1 h2 h3
def zF(ok:q27 r U G e):(ck r e).length<=16:=by
 have p16:=jZ ok.r0 ok.r4;have pn:=f7 (r:=r);unfold ck;split
 .simp;omega
 .simp
section
variable(ok:q27 r U G e)(hr:e="ring"->r.toNat<=n)(ht:ts.length=(bK U G (n+aB r e)).length)
include ok hr ht
theorem Ei{b:Zf}(hb:ay b)(hl:b.length<=n)(q:Int->Bool)(hq:∀s∈ck r e,(cG r U G e ts n s b).isSome=true->q s=true):
 fyx [.lst (b.map D.int),.lst ((((ck r e).filter q).map λs=>(s,aP r U G e ts n s b)).map eM),iu r U G e ts n]=some (cQ r U G e ts n b):=by
 let⟨k1,k2⟩:=HD (f:=λs=>cG r U G e ts n s b) hq;have lm:=zF ok;have lf:((ck r e).filter q).length<=16:=ju (List.length_filter_le _ _) lm;have hm:=(qA hr ok.en ht hb hl).1;have h:=qxf b (((ck r e).filter q).map λs=>(s,aP r U G e ts n s b)) (iu r U G e ts n) (λt=>(dy ((bU r U G e ts n t.1).getD b.length []) t.2.1).map λx=>t.2.2+x) (cJ r U G e ts n b) (λt ht=>by
  obtain⟨s,hs,rfl⟩:=List.mem_map.mp ht;exact qts (List.mem_filter.mp hs).1 hb hl) (by rw[j7];omega) (by
  rw[List.filterMap_map];have e1:(((ck r e).filter q).filterMap ((λt:Int×Int×Int=>(dy ((bU r U G e ts n t.1).getD b.length []) t.2.1).map λx=>t.2.2+x)∘λs=>(s,aP r U G e ts n s b)))=((ck r e).filter q).filterMap λs=>cG r U G e ts n s b:=rfl;rw[e1,k1];exact hm)
 rw[h];unfold cQ pb;rw[List.filter_map,<-k2];rfl
theorem G7{b:Zf}{x:Int}(hb:ay b)(hx:x=0∨x=1)(hl:b.length<n)(hn:n<=60):
 fyz [cQ r U G e ts n b,.int x,fY (stepK r U G ts n b.length),iu r U G e ts n]=some (cQ r U G e ts n (b++[x])):=by
 have lm:=zF ok;have pn:=f7 (r:=r);have hbx:ay (b++[x]):=gQ hb λy hy=>by rw[List.mem_singleton.mp hy];exact hx
 have lf:((ck r e).filter λs=>(cG r U G e ts n s b).isSome).length<=16:=ju (List.length_filter_le _ _) lm;have cm:=iy (n:=1) (js:=[1,2]) (fg:=ai 0) (fe:=aS fyy gJ) (M:=[cQ r U G e ts n b,D.int x,fY (stepK r U G ts n b.length),iu r U G e ts n,none])
  (λd=>match d with|.tup (.int s::_)=>eM (s,aP r U G e ts n s (b++[x]))|d=>d) ((pb r U G e ts n b).map eM) (λy hy=>by
    obtain⟨t,ht1,rfl⟩:=List.mem_map.mp hy;obtain⟨s,hs,rfl⟩:=List.mem_map.mp ht1;have hs:=(List.mem_filter.mp hs).1;have hrm:=pi (U:=U) (G:=G) (ts:=ts) hs hb (Nat.le_of_lt hl);refine⟨[eM (s,aP r U G e ts n s b),D.int x,fY (stepK r U G ts n b.length)],rfl,BN ?_⟩;show _=some (eM (s,aP r U G e ts n s (b++[x])));rw[Ho x hl];generalize aP r U G e ts n s b=p at hrm;have hlt:p.1<2^r.toNat:=by omega
    have ech:=uh (U:=U) (G:=G) (ts:=ts) (n:=n) (k:=b.length) hrm.1 hlt;have lst':(stepK r U G ts n b.length).length=2^r.toNat:=by unfold L2.stepK;simp
    have a1:bB ((stepK r U G ts n b.length).map gW) p.1=some (.lst (((eX n b.length).map λy=>cZ r U G ts b.length p.1 y).map lD)):=by
     rw[i3 hrm.1 (by rw[j7,lst'];omega),je];have e2:(stepK r U G ts n b.length)[p.1.toNat]? =some ((eX n b.length).map λy=>cZ r U G ts b.length p.1 y):=by unfold cw at ech;rw[ji,jb (by rw[lst'];exact hrm.2)]at ech;rw[jb (by rw[lst'];exact hrm.2)];exact congrArg some ech
     rw[e2];rfl
    have eb:eX n b.length=[0,1]:=if_pos hl;rw[ech];rw[eb]at a1 ⊢;rcases hx with rfl|rfl
    .exact FV a1 (IN _ _) (by decide)
    .exact FV a1 (ng _ _ _) (by decide))
 have em:((pb r U G e ts n b).map eM).map (λd=>match d with|.tup (.int s::_)=>eM (s,aP r U G e ts n s (b++[x]))|d=>d)=(((ck r e).filter λs=>(cG r U G e ts n s b).isSome).map λs=>(s,aP r U G e ts n s (b++[x]))).map eM:=by unfold pb;rw[jj,jj,jj];rfl
 rw[em]at cm;have h:=Ei ok hr ht hbx (by simp;omega) (λs=>(cG r U G e ts n s b).isSome) (λs hs h=>by
  have h1:=qfj hr ok.en ht hs hbx hl (λz=>by rw[z]at h;cases h);cases q:cG r U G e ts n s b with
  |none=>exact absurd q h1
  |some _=>rfl)
 rw[x5]at h;have h:fyx [.lst (b.map D.int++[.int x]),_,_]=_:=h;refine gP rfl ⟨_,(aV (BO (by unfold pb;rw[j7,j7];exact dg (by omega)) cm)).trans<|BM (by decide) (by rw[j7];exact dg (by omega)) h⟩
end
theorem GY:∀E:List (List Int),mK (E.map (cQ r U G e ts n))=some (E.map (cq (cJ r U G e ts n)))
 |[]=>rfl
 | b::E=>by
  have h1:lU (cQ r U G e ts n b)=some (cq (cJ r U G e ts n) b):=by show(c6 (b.map D.int)).map (λns=>(cJ r U G e ts n b,ns))=_;rw[gS];rfl
  rw[jz,jz];unfold mK;rw[h1,GY E]
def Gq{E:Z9}{k most:Nat}(h64:E.length<64)(nd:E.Nodup)(hk:∀b∈E,b.length=k):fyA [.lst (E.map (cQ r U G e ts n)),.int (most:Nat)]=some (.lst ((eO (cJ r U G e ts n) most E).map (cQ r U G e ts n))):=by
 show mR _=_;unfold mR;simp only[GY];have ok:uz (E.map (cq (cJ r U G e ts n))):=by
  refine⟨by rw[j7];exact h64,?_,λq hq=>?_⟩
  .show List.Pairwise (λa b=>a≠b) _;rw[List.pairwise_map];exact List.Pairwise.imp (λ{a b} h z=>h (yJ z)) nd
  .obtain⟨b,hb,rfl⟩:=List.mem_map.mp hq;cases E with
   |nil=>cases hb
   |cons a E=>exact(hk b hb).trans (hk a jf).symm
 rw[if_pos ok,tS (by omega),jy];refine congrArg (λx=>some (D.lst x)) ?_;unfold eO fR;rw[List.map_take,jj];refine congrArg (List.take most) (List.map_congr_left λi hi=>?_);have li:i<E.length:=by simpa using List.mem_range.mp ((m8 _).subset hi)
 show(E.map (cQ r U G e ts n)).getD i .non=cQ r U G e ts n (E.getD i []);rw[ji,ji,je,jb li];rfl
end
def Aq(c k b m:Int)(hm:(c % 10^18+1+k*k*104729)*742938285 % 2147483647=m)(q1: -18446744073709551616<k)(q2:k<18446744073709551616):
 Dw [D.int c,D.int k,D.int b,none,none]=some (.nx [D.int c,D.int k,D.int b,D.int m,none]):=by
 rw[<-hm];clear hm;walk_at "e"
def Ap(c k b:D)(m:Int):Nx B9 [c,k,b,D.int m,none] 4 (D.int (m % 9)):=by walk_at "e"
def Ao{c k b m:D}{y:Int}(two:2<=sizeLine)(h:y<4):Nr C6 [c,k,b,m,D.int y] (D.tup [.str "clear",b]):=by walk_at "e"
def sT{c k b m:D}{y:Int}{FX:aD}(h:¬y<4):Nz (bY B1 FX
 aJ) [c,k,b,m,D.int y]:=by
 walk_at "e"
def oR{c k b m:D}{y :Int} (z :Int)(FX:aD)(h:(y==z)=false):Nz (bY (bh (af eK (aa 4) (ae (.int z)))) FX
 aJ) [c,k,b,m,D.int y]:=by
 walk_at "e"
def An{c k m:D}{b:Int}(two:2<=sizeLine):Nr Dk [c,k,D.int b,m,D.int 4] (D.tup [.str "clear",.int (1-b)]):=by walk_at "e"
def Am{c k b m:D}(one:1<=sizeLine):Nr C2 [c,k,b,m,D.int 5] (D.tup [.str "gap"]):=by walk_at "e"
def Aj{c k b:D}{m j:Int}(hj:1-2*(m / 27 % 2)=j):C5 [c,k,b,D.int m,D.int 6]=some (.int j,[some c,some k,some b,some (.int m),some (.int 6)]):=by rw[<-hj];clear hj;walk_at "e"
def Al{k b:D}{c m j:Int}{FB:aN}(zw:3<=sizeLine)(q1: -18446744073709551616<j)(q2:j<18446744073709551616)(h2:FB [D.int c,k,b,D.int m,D.int 6]=some (.int j,[some (.int c),some k,some b,some (.int m),some (.int 6)])):Nr (bY B0
 (az (ca (ak (ae (.str "soft")) (ak (af ie (af b7 (aa 0) sk) FB) C1))))
 aJ) [D.int c,k,b,D.int m,D.int 6] (D.tup [.str "soft",.int (c % 10^60*j),.int (m / 9 % 3-1)]):=by
 walk_at "e"
def Ak{c k b y:D}{m:Int}(zw:3<=sizeLine):Nr Dr [c,k,b,D.int m,y] (D.tup [.str "soft",.int (m / 9 % 4),.int (m / 36 % 4)]):=by walk_at "e"
def qs5(c b:Int)(k:Nat)(hk:k<=100000):∃t:Told,fyJ [.int c,.int k,.int b]=some (bo t):=by
 obtain⟨m,hm⟩:∃m,(c % 10^18+1+(k:Int)*k*104729)*742938285 % 2147483647=m:=⟨_,rfl⟩;have a3:=Aq c k b m hm (by omega) (by omega);have a4:=Ap (.int c) (.int k) (.int b) m;by_cases h1:m % 9<4
 .exact⟨.clear b,gP rfl ⟨_,(aV a3).trans<|(aV a4).trans<|tM (Ao (by decide) h1)⟩⟩
 .by_cases h2:m % 9=4
  .rw[h2]at a4;exact⟨.clear (1-b),gP rfl ⟨_,(aV a3).trans<|(aV a4).trans<|(aV (sT (by decide))).trans<|tM (An (by decide))⟩⟩
  .by_cases h3:m % 9=5
   .rw[h3]at a4;exact⟨.gap,gP rfl ⟨_,(aV a3).trans<|(aV a4).trans<|(aV (sT (by decide))).trans<|(aV (oR 4 _ rfl)).trans<|tM (Am (by decide))⟩⟩
   .by_cases h4:m % 9=6
    .rw[h4]at a4;exact⟨.soft (c % 10^60*(1-2*(m / 27 % 2))) (m / 9 % 3-1),gP rfl ⟨_,(aV a3).trans<|(aV a4).trans<|(aV (sT (by decide))).trans<|(aV (oR 4 _ rfl)).trans<|(aV (oR 5 _ rfl)).trans<|tM (Al (by decide) (by omega) (by omega) (Aj rfl))⟩⟩
    .exact⟨.soft (m / 9 % 4) (m / 36 % 4),gP rfl ⟨_,(aV a3).trans<|(aV a4).trans<|(aV (sT h1)).trans<|(aV (oR 4 _ (beq_eq_false_iff_ne.mpr h2))).trans<|(aV (oR 5 _ (beq_eq_false_iff_ne.mpr h3))).trans<|(aV (oR 6 _ (beq_eq_false_iff_ne.mpr h4))).trans<|Ak (by decide)⟩⟩
def Bh{N S W:D}(z0:0<=sizeLine):Nx (cg 3 (aW ag)) [N,S,W,none,none,none] 3 (D.lst []):=by walk_at "e"
def Bf{N:List D}{S W F k b:D}{mx:Int}(hm:(if((N.length:Nat):Int)-2>1 then((N.length:Nat):Int)-2 else 1)=mx):(iH (λi j=>if j>i then j else i) vn) [D.lst N,S,W,F,k,b]=some (.int mx,[some (.lst N),some S,some W,some F,some k,some b]):=by rw[<-hm];clear hm;walk_at "e"
def Bg{N S W F b:D}{k' j mx:Int}{FM:aN}(m0:0<mx)(hj:2+k' % mx=j)(h2:FM [N,S,W,F,D.int k',b]=some (.int mx,[some N,some S,some W,some F,some (.int k'),some b])):
 (af bN (ae (.int 2)) (af b7 (aa 4) FM)) [N,S,W,F,D.int k',b]=some (.int j,[some N,some S,some W,some F,some (.int k'),some b]):=by
 rw[<-hj];clear hj;walk_at "e"
def Be{N S W:D}{F:List D}{k' b j c T:D}{FI:aN}(hI:Ns FI [N,S,W,D.lst F,k',b] j)(hc:fyB [N,j]=some c)(hs:fyJ [c,k',b]=some T)(l:F.length<sizeLine):Nx (cW f9 3 (ak (aS fyJ (ak (aS fyB (ak (aa 0) (ak FI ag))) (ak (aa 4) (ak (aa 5) ag)))) ag)) [N,S,W,D.lst F,k',b] 3 (D.lst (F++[T])):=by
 walk_at "e"
def qw2{N S W:D}{SE T X:List D}{v4 v5:Option D}{FB:aD}(hs:fyI [S,W]=some (.lst SE))(hX:gM SE=X)(l1:dI (cY 2 (bE (ai 4) (bE (ai 5) c7))) FB X [N,S,W,D.lst [],none,none]=some (.nx [N,S,W,D.lst T,v4,v5])):
 (am (bi Cs (cY 2 (bE (ai 4) (bE (ai 5) c7))) FB) (jE 3)) [N,S,W,D.lst [],none,none]=some (.rt (.lst T) [N,S,W,none,v4,v5]):=by
 walk_at "e"
section
variable{r:Int}{U:Zf}{G:Z9}{e:Str}
def qov(ok:q27 r U G e)(ns w:Zf)(hb:ay w)(hw:e="ring"->r.toNat<=w.length)(hl:w.length<=60):∃ts:List Told,fyK [.lst (ns.map D.int),au r U G e,.lst (w.map D.int)]=some (.lst (ts.map bo))/\ts.length=(bK U G (w.length+aB r e)).length:=by
 have hs:=FY ok w hb hw hl;have ls:(kM r U G e w).length=(bK U G (w.length+aB r e)).length:=(IC w _).symm;generalize kM r U G e w=ss at hs ls;have z4:=jH ok;have p4:=qu ok (w.length+aB r e);obtain⟨mx,hmx⟩:∃mx,(if(((ns.map D.int).length:Nat):Int)-2>1 then(((ns.map D.int).length:Nat):Int)-2 else 1)=mx:=⟨_,rfl⟩;have m0:0<mx:=by split at hmx<;>omega
 let⟨M',l1,ts,v4,v5,hρ,hts⟩:=gn (fg:=cY 2 (bE (ai 4) (bE (ai 5) c7))) (fb:=(cW f9 3 (ak (aS fyJ (ak (aS fyB (ak (aa 0) (ak (af bN (ae (.int 2)) (af b7 (aa 4) (iH (λi j=>if j>i then j else i) vn))) ag))) (ak (aa 4) (ak (aa 5) ag)))) ag)))
  (λk M=>∃(ts:List Told) (v4 v5:Option D),M=[some (.lst (ns.map D.int)),some (au r U G e),some (.lst (w.map D.int)),some (.lst (ts.map bo)),v4,v5]/\ts.length=k) (gM (ss.map D.int)) 0
  [some (.lst (ns.map D.int)),some (au r U G e),some (.lst (w.map D.int)),some (.lst []),none,none] ⟨[],none,none,rfl,rfl⟩ (by
   rintro i x M hx ⟨ts,v4,v5,rfl,hts⟩;rw[yT,je]at hx;cases q:ss[i]? with
   |none=>rw[q]at hx;cases hx
   | some b=>
    rw[q]at hx;cases hx;have hi:i<ss.length:=(List.getElem?_eq_some_iff.mp q).1;rw[jv]at hts ⊢;have j0:0<=2+(i:Int) % mx:=by have:=Int.emod_nonneg (i:Int) (by omega:mx≠0);omega
    let⟨c,hc⟩:=yQ ns (2+(i:Int) % mx) j0;let⟨t,ht⟩:=qs5 c b i (by omega);refine⟨_,_,rfl,.inl (Be (Bg m0 rfl (Bf hmx)) hc ht (by rw[j7];exact jr (by omega:ts.length<2000) (by decide))),ts++[t],_,_,by rw[x5];rfl,by rw[jh,hts];rfl⟩)
 subst hρ;have el:(gM (ss.map D.int)).length=ss.length:=by unfold gM;simp
 rw[el,jv,ls]at hts;exact⟨ts,t6 rfl ⟨_,(aV (Bh (by decide))).trans (qw2 hs rfl l1)⟩,hts⟩
end
def qS(b:Int):fyN [.int b]=some (.bl true):=by unfold fyN wA;walk_at "e"
def Bd(b:Int)(h0:0<=b)(h1:b<=1):(vv [some (.int b)]).map (·.1)=some (.bl true):=by have h:=qS b;walk_at "e"
def qvu{W Y:List D}{n':Int}{FE:aN}{DA:D->Option D}(hn:((W.length:Nat):Int)=n')(lw:W.length<=sizeLine)(cm:Ns (cK 1 [] none (ai 0) (ae true) FE W) [D.lst W,D.int n'] Y)(ha:DA (.lst Y)=some (.bl true)):
 (aH false 2 2 (am Dj (az (aK DA (br (cI 1 [] none (bz (aa 0)) (ai 0) (ae true) FE)))))) [.lst W,.int n']=some (.bl true):=by
 subst hn;walk_at "e"
def qwu:∀k:Nat,lW (.lst (List.replicate k (.bl true)))=some (.bl true):=λk=>by have h:=Ib (List.replicate k true);rw[List.map_replicate]at h;show(jF (List.replicate k (.bl true))).map _=_;rw[h];simp
theorem iq{x:D}:∀xs:List D,xs.map (λ_=>x)=List.replicate xs.length x
 |[]=>rfl
 |_::xs=>by rw[jz,iq xs];rfl
def qkc(w:Zf)(hb:ay w)(n:Nat)(hl:w.length=n)(hn:n<=1000):fyO [.lst (w.map D.int),.int n]=some (.bl true):=by
 have cm:=iy (n:=1) (js:=[]) (fg:=ai 0) (fe:=vv) (M:=[D.lst (w.map D.int),D.int (n:Int)]) (λ_=>.bl true) (w.map D.int) (λx hx=>by obtain⟨b,hm,rfl⟩:=List.mem_map.mp hx;have:=hb b hm;exact⟨_,rfl,Bd b (by omega) (by omega)⟩)
 rw[iq]at cm;unfold fyO wB;exact qvu (by rw[j7,hl]) (dg (by rw[j7];omega)) cm (qwu _)
def qoy{S W:D}{T SE Z YD:List D}{Y:Zf}{c:Int}{FE:aN}(hs:fyI [S,W]=some (.lst SE))(hz:cU T SE=Z)(lz:Z.length<=sizeLine)(cm:cK 2 [] none (cY 2 (bE (ai 0) (bE (ai 1) c7))) (ae true) FE Z [S,W,D.lst T]=some (YD,[some S,some W,some (.lst T)]))(hi:c6 YD=some Y)(hc:Y.sum=c):
 (aH false 3 3 (az (aK hG (br (cI 2 [] none CQ (cY 2 (bE (ai 0) (bE (ai 1) c7))) (ae true) FE))))) [S,W,.lst T]=some (.int c):=by
 walk_at "e"
section
variable{r:Int}{U:Zf}{G:Z9}{e:Str}{n:Nat}
def qot(ok:q27 r U G e)(ts:List Told)(w:Zf)(hb:ay w)(hw:e="ring"->r.toNat<=w.length)(hl:w.length<=60):fyM [au r U G e,.lst (w.map D.int),.lst (ts.map bo)]=some (.int (fu r U G e ts w)):=by
 have z4:=jH ok;have hs:=FY ok w hb hw hl;have ls:(kM r U G e w).length<=1000:=by have h1:=qu ok (w.length+aB r e);have h2:(kM r U G e w).length=(bK U G (w.length+aB r e)).length:=(IC w _).symm;omega
 have bs:ay (kM r U G e w):=qee;have ec:fu r U G e ts w=gg ts (kM r U G e w):=by unfold fu;rw[Hl ok hb hw]
 rw[ec];generalize kM r U G e w=ss at hs ls bs;have hz:cU (ts.map bo) (ss.map D.int)=(ts.zip ss).map λq=>D.tup [bo q.1,.int q.2]:=by rw[qE,qF,jj];rfl
 have cm:=zB [au r U G e,D.lst (w.map D.int),D.lst (ts.map bo)] (ts.zip ss) (λq hq=>bs q.2 (List.of_mem_zip (show(q.1,q.2)∈ts.zip ss from hq)).2);unfold fyM wz;exact qoy hs hz (by rw[j7,k7];exact dg (by omega)) cm (gS _) rfl
end
def Ax{F:List D}{S n T:D}{FX:aD}:Nz (bY Dh FX aJ) [D.lst F,S,n,T,none]:=by walk_at "e"
def Aw{F S n T w:D}{c:Int}{FX:aD}(h:fyN [.int c]=some (.bl true)):Nz (bY Dd FX aJ) [F,S,n,T,D.tup [.int c,w]]:=by walk_at "e"
def Av{F S n T w:D}{c:Int}{FX:aD}(h:fyO [w,n]=some (.bl true))(ht:fyM [S,w,T]=some (.int c)):Nz (bY Dg FX aJ) [F,S,n,T,D.tup [.int c,w]]:=by walk_at "e"
def Au{F:List D}{S n T:D}{v4:Option D}{FB:aD}(l:dI (ai 4) FB F [D.lst F,S,n,T,none]=some (.nx [D.lst F,S,n,T,v4])):(am (bi (bz (aa 0)) (ai 4) FB) (az (ae (.bl true)))) [D.lst F,S,n,T,none]=some (.rt (.bl true) [D.lst F,S,n,T,v4]):=by walk_at "e"
section
variable{r:Int}{U:Zf}{G:Z9}{e:Str}{n:Nat}
def qs6(ok:q27 r U G e)(hr:e="ring"->r.toNat<=n)(hn:n<=60)(ts:List Told)(R:Z9)(hR:∀w∈R,ay w/\w.length=n):fyP [.lst (R.map λw=>D.tup [.int (fu r U G e ts w),.lst (w.map D.int)]),au r U G e,.int n,.lst (ts.map bo)]=some (.bl true):=by
 let⟨M',l1,v4,hρ⟩:=tT (fg:=ai 4) (fb:=DH)
  (λM=>∃v4,M=[some (.lst (R.map λw=>D.tup [.int (fu r U G e ts w),.lst (w.map D.int)])),some (au r U G e),some (.int n),some (.lst (ts.map bo)),v4]) (R.map λw=>D.tup [.int (fu r U G e ts w),.lst (w.map D.int)])
  [some (.lst (R.map λw=>D.tup [.int (fu r U G e ts w),.lst (w.map D.int)])),some (au r U G e),some (.int n),some (.lst (ts.map bo)),none] ⟨none,rfl⟩ (by rintro x M hx ⟨v4,rfl⟩;obtain⟨w,hw,rfl⟩:=List.mem_map.mp hx;let⟨w1,w2⟩:=hR w hw;exact⟨_,_,rfl,.inl ((aV (Aw (qS _))).trans (Av (qkc w w1 n w2 (by omega)) (qot ok ts w w1 (by rw[w2];exact hr) (by omega)))),_,rfl⟩)
 subst hρ;exact gP rfl ⟨_,(aV (Ax)).trans (Au l1)⟩
end
def yF{j:Nat}{P:Addr}{lp:Pos}{q:Str}{f:List D->Option D}{fs:ba}{M M1:aA}{ds:List D}{d:D}(h1:fs M=some (ds,M1))(h2:M1[j]? =some (some (.tab P lp q)))(h3:f ds=some d):kQ j P lp q f fs M=some (d,M1):=by unfold kQ;rw[h1];dsimp only;rw[h2];dsimp only;rw[if_pos ⟨rfl,rfl,rfl⟩,h3];rfl
def Hk{b:aD}{n N j:Nat}{ds:List D}{d t:D}(hl:ds.length=n)(hj:n<=j)(h:∃M,b ((ds.map some++List.replicate (N-n) none).set j (some t))=some (.rt d M)):mi false n N j t b ds=some d:=by obtain⟨M,h⟩:=h;unfold mi;rw[if_pos ⟨hl,hj⟩,h]
def Bv{S n T m ST t:D}(hm:fyp [S,n,T]=some ST):Nx (aw 4 (aS fyp gJ)) [S,n,T,m,none,none,none,none,none,none,t] 4 ST:=by walk_at "e"
def Bu{S n T m ST TB t:D}(ht:fyv [S,ST]=some TB):Nx Cq [S,n,T,m,ST,none,none,none,none,none,t] 5 TB:=by walk_at "e"
def Br{s:Int}(zw:3<=sizeLine):((ca (ak (aa 0) sn)) [some (.int s)]).map (·.1)=some (.tup [.int s,.int s,.int 0]):=by walk_at "e"
def Bt{S n T m ST y :D} (t :D)(gs:List (bI×D))(KS Y:List D)(FE:aN)(one:1<=sizeLine)(z0:0<=sizeLine)(hk:mf (.dct gs)=some KS)(l1:KS.length<=sizeLine)
 (cm:cK 1 [] none (ai 0) (ae true) FE KS [S,n,T,m,ST,D.dct gs,none,none,none,none,t]=some (Y,[some S,some n,some T,some m,some ST,some (.dct gs),none,none,none,none,some t])) (hb:fyx [.lst [],.lst Y,.dct gs]=some y):
 (aw 6 (br (aW (ak (aS fyx (ak (br (aW ag)) (ak (br (cI 1 [] none (mS (aa 5)) (ai 0) (ae true) FE)) (ak (aa 5) ag)))) ag)))) [S,n,T,m,ST,D.dct gs,none,none,none,none,t]=some (.nx [S,n,T,m,ST,D.dct gs,D.lst [y],none,none,none,t]):=by
 have h1:mS (aa 5) [S,n,T,m,ST,D.dct gs,none,none,none,none,t]=some (KS,[some S,some n,some T,some m,some ST,some (.dct gs),none,none,none,none,some t]):=by rw[GP];show((mf (.dct gs)).map λx=>(x,_))=_;rw[hk];rfl
 generalize mS (aa 5)=FK at h1 ⊢;clear hk;walk_at "e"
def Bs{S n T m ST TB FD CH t:D}{v8 v9:Option D}(z0:0<=sizeLine):Nx (cg 8 (aW ag)) [S,n,T,m,ST,TB,FD,CH,v8,v9,t] 8 (D.lst []):=by walk_at "e"
def rO{S n T m ST TB FD CH b y t:D}(x:Int)(Y:List D)(ly:Y.length<sizeLine)(h:fyz [b,.int x,CH,TB]=some y):Nx (cW f9 8 (ak (aS fyz (ak (aa 9) (ak (ae (.int x)) (ak (aa 7) (ak (aa 5) ag))))) ag)) [S,n,T,m,ST,TB,FD,CH,D.lst Y,b,t] 8 (D.lst (Y++[y])):=by walk_at "e"
def Bp{S n T m ST TB CH t:D}{FD Y:List D}{v9 w9:Option D}{FB:aD}(h:dI (ai 9) FB FD [S,n,T,m,ST,TB,D.lst FD,CH,D.lst [],v9,t]=some (.nx [S,n,T,m,ST,TB,D.lst FD,CH,D.lst Y,w9,t])):
 (bi (bz (aa 6)) (ai 9) FB) [S,n,T,m,ST,TB,D.lst FD,CH,D.lst [],v9,t]=some (.nx [S,n,T,m,ST,TB,D.lst FD,CH,D.lst Y,w9,t]):=by
 walk_at "e"
def Bm{S n T m ST TB FD CH Y:D}{v9:Option D}{t:D}:Ns (ak (aa 8) (ak (aa 3) ag)) [S,n,T,m,ST,TB,FD,CH,Y,v9,t] [Y,m]:=by walk_at "e"
def Bq{S n T m ST TB FD CH Y y t:D}{v9:Option D}{FC:aN}(h:Ns FC [S,n,T,m,ST,TB,FD,CH,Y,v9,t] y):Nx (aw 6 FC) [S,n,T,m,ST,TB,FD,CH,Y,v9,t] 6 y:=by walk_at "e"
def Bo{S T m TB FD FD' t:D}{n':Int}{ST X:List D}{v7 v8 v9:Option D}{FB:aD}(hc:gU (.lst ST) none (some n')=some (.lst X))(h:dI (ai 7) FB X [S,D.int n',T,m,D.lst ST,TB,FD,none,none,none,t]=some (.nx [S,D.int n',T,m,D.lst ST,TB,FD',v7,v8,v9,t])):
 (bi Cg (ai 7) FB) [S,D.int n',T,m,D.lst ST,TB,FD,none,none,none,t]=some (.nx [S,D.int n',T,m,D.lst ST,TB,FD',v7,v8,v9,t]):=by
 walk_at "e"
def Bl{S n T m ST TB FD:D}{v7 v8 v9:Option D}{t:D}:Ns (ak (aa 6) (ak (aa 3) ag)) [S,n,T,m,ST,TB,FD,v7,v8,v9,t] [FD,m]:=by walk_at "e"
def Bk{a b c:D}(two:2<=sizeLine):((ca vp) [some (.tup [a,b,c])]).map (·.1)=some (.tup [a,b]):=by walk_at "e"
def Bn{S n T m ST TB FD t:D}{X Y:List D}{v7 v8 v9:Option D}{FC FE:aN}(lx:X.length<=sizeLine)(h:FC [S,n,T,m,ST,TB,FD,v7,v8,v9,t]=some (.lst X,[some S,some n,some T,some m,some ST,some TB,some FD,v7,v8,v9,some t]))
 (cm:Ns (cK 1 [] none (ai 0) (ae true) FE X) [S,n,T,m,ST,TB,FD,v7,v8,v9,t] Y):Nr (az (br (cI 1 [] none (bz FC) (ai 0) (ae true) FE))) [S,n,T,m,ST,TB,FD,v7,v8,v9,t] (D.lst Y):=by
 walk_at "e"
def qjv(R:Z9)(b:Zf):aO (R++[b])=aO R++[b++[0]]++[b++[1]]:=by unfold aO;rw[List.flatMap_append];simp
def yE(R:Z9):(aO R).length=2*R.length:=by
 induction R with
 |nil=>rfl
 | cons b R ih=>
  have:aO (b::R)=(b++[0])::(b++[1])::aO R:=rfl;rw[this,jt,jt,jt,ih];omega
noncomputable def qL(L:List Int->Int)(b:Zf):D:=.tup [.int (L b),.lst (b.map D.int)]
section
variable{r:Int}{U:Zf}{G:Z9}{e:Str}{ts:List Told}{n:Nat}
def qxj(P0:Addr)(ok:q27 r U G e)(hr:e="ring"->r.toNat<=n)(ht:ts.length=(bK U G (n+aB r e)).length)(hn:n<=60)(most:Nat)(hm9:most<=30):
 f_few P0 [au r U G e,.int n,.lst (ts.map bo),.int most]=some (.lst ((eO (cJ r U G e ts n) most (db (cJ r U G e ts n) most n)).map (qL (cJ r U G e ts n)))):=by
 have z4:=jH ok;have lm:=zF ok;have hm:=Ej ok n hn hr ts ht;have htb:=qkz ok ts n hn;have top:=λk (hk:k<=n)=>yA (L:=cJ r U G e ts n) (most:=most) (n:=n) (λb hb hl=>Ij hr ok.en ht hb hl) k hk;have tl:∀k,(db (cJ r U G e ts n) most k).length<=30:=λk=>by
  cases k with
  |zero=>show([[]]:Z9).length<=30;decide
  |succ k=>exact ju (Hn k) hm9
 have hk:mf (iu r U G e ts n)=some ((ck r e).map D.int):=by show some _=some _;rw[jj];rfl
 have cm:=iy (n:=1) (js:=[]) (fg:=ai 0) (fe:=ca (ak (aa 0) sn)) (M:=[au r U G e,D.int n,D.lst (ts.map bo),D.int most,gc (bO r U G ts n 0 (n+aB r e)),iu r U G e ts n,none,none,none,none,D.tab P0 d7 d5])
  (λd=>match d with|.int s=>.tup [.int s,.int s,.int 0]|d=>d) ((ck r e).map D.int) (λx hx=>by obtain⟨s,_,rfl⟩:=List.mem_map.mp hx;exact⟨[some (.int s)],rfl,Br (by decide)⟩)
 have em:((ck r e).map D.int).map (λd=>match d with|.int s=>D.tup [.int s,.int s,.int 0]|d=>d)=(((ck r e).filter λ_=>true).map λs=>(s,aP r U G e ts n s [])).map eM:=by rw[List.filter_eq_self.mpr (λ_ _=>rfl),jj,jj];refine List.map_congr_left λs _=>?_;show _=eM (s,eY _ s 0 []);rw[uf];rfl
 rw[em]at cm;have hb0:=Ei ok hr ht (b:=[]) (λ_ h=>nomatch h) (Nat.zero_le _) (λ_=>true) (λ_ _ _=>rfl);have a6:=Bt (.tab P0 d7 d5) _ _ _ _ (by decide) (by decide) hk (by rw[j7];exact dg (by omega)) cm hb0
 -- the loop
 have hcut:gU (.lst ((bO r U G ts n 0 (n+aB r e)).map fY)) none (some (n:Int))=some (.lst ((List.range n).map λk=>fY (stepK r U G ts n k))):=by show some (D.lst (de _ _ _))=_;rw[tS (by omega),jy,<-List.map_take];unfold bO;rw[<-List.range_eq_range',<-List.map_take,List.take_range,Nat.min_eq_left (by omega),jj];rfl
 let⟨M',l1,v7,v8,v9,hρ⟩:=gn (fg:=ai 7) (fb:=(am (cg 8 (aW ag))
 (am (bi (bz (aa 6)) (ai 9)
   vB)
 (aw 6 (kQ 10 P0 d7 d5 fyA (ak (aa 8) (ak (aa 3) ag)))))))
   (λk M=>∃v7 v8 v9,M=[some (au r U G e),some (.int n),some (.lst (ts.map bo)),some (.int most),some (gc (bO r U G ts n 0 (n+aB r e))),some (iu r U G e ts n),some (.lst ((db (cJ r U G e ts n) most k).map (cQ r U G e ts n))),v7,v8,v9,some (.tab P0 d7 d5)])
   ((List.range n).map λk=>fY (stepK r U G ts n k)) 0
   [some (au r U G e),some (.int n),some (.lst (ts.map bo)),some (.int most),some (gc (bO r U G ts n 0 (n+aB r e))),some (iu r U G e ts n),some (.lst [cQ r U G e ts n []]),none,none,none,some (.tab P0 d7 d5)] ⟨none,none,none,rfl⟩ (by
    rintro k x M hx ⟨v7,v8,v9,rfl⟩;rw[jv];rw[je]at hx;obtain⟨k',hk1,rfl⟩:=Option.map_eq_some_iff.mp hx;have hkn:k<n:=by have:=(List.getElem?_eq_some_iff.mp hk1).1;simpa using this
    have ek:k'=k:=by rw[xr hkn]at hk1;exact(jg hk1).symm
    subst ek;have T:=top k' (Nat.le_of_lt hkn);have t2:=tl k';have et:db (cJ r U G e ts n) most (k'+1)=eO (cJ r U G e ts n) most (aO (db (cJ r U G e ts n) most k')):=rfl;rw[et];generalize db (cJ r U G e ts n) most k'=R at T t2;let⟨M1,m1,w9,hρ1⟩:=gn (fg:=ai 9) (fb:=vB)
     (λi M=>∃w9,M=[some (au r U G e),some (.int n),some (.lst (ts.map bo)),some (.int most),some (gc (bO r U G ts n 0 (n+aB r e))),some (iu r U G e ts n),some (.lst (R.map (cQ r U G e ts n))),some (fY (stepK r U G ts n k')),some (.lst ((aO (R.take i)).map (cQ r U G e ts n))),w9,some (.tab P0 d7 d5)])
     (R.map (cQ r U G e ts n)) 0
     [some (au r U G e),some (.int n),some (.lst (ts.map bo)),some (.int most),some (gc (bO r U G ts n 0 (n+aB r e))),some (iu r U G e ts n),some (.lst (R.map (cQ r U G e ts n))),some (fY (stepK r U G ts n k')),some (.lst []),v9,some (.tab P0 d7 d5)] ⟨v9,rfl⟩ (by
      rintro i x M hx ⟨w9,rfl⟩;rw[jv];rw[je]at hx;obtain⟨b,hb1,rfl⟩:=Option.map_eq_some_iff.mp hx;let⟨b1,b2⟩:=T.bits b (xk hb1);have o0:=G7 ok hr ht b1 (.inl rfl) (by omega) hn;have o1:=G7 ok hr ht b1 (.inr rfl) (by omega) hn;rw[b2]at o0 o1;have li:(aO (R.take i)).length<=60:=by rw[yE,xi];omega
      refine⟨_,_,rfl,.inl ((aV (rO 0 _ (by rw[j7];exact jr (by omega:_<1000) (by decide)) o0)).trans (rO 1 _ (by rw[jh,j7];exact jr (by simp;omega:_<1000) (by decide)) o1)),some (cQ r U G e ts n b),?_⟩;rw[cE hb1,qjv,x5,x5];rfl)
    subst hρ1;rw[jv,j7,List.take_length]at m1;have nd:=uu (pj T.up);have zc:∀b∈aO R,b.length=k'+1:=λx hx=>by let⟨b,hb,z⟩:=mem_both.mp hx;let⟨_,b2⟩:=T.bits b hb;rcases z with rfl|rfl<;>simp[b2]
    have hf:=Gq (r:=r) (U:=U) (G:=G) (e:=e) (ts:=ts) (n:=n) (E:=aO R) (most:=most) (by rw[yE];omega) nd zc;refine⟨_,_,rfl,.inl ((aV (Bs (by decide))).trans<|(aV (Bp m1)).trans<|Bq (yF (Bm) rfl hf)),_,_,_,rfl⟩)
 subst hρ;rw[jv,j7,List.length_range]at l1;have T:=top n (jc _);have t2:=tl n;have hf:=Gq (r:=r) (U:=U) (G:=G) (e:=e) (ts:=ts) (n:=n) (E:=db (cJ r U G e ts n) most n) (k:=n) (most:=most) (by omega) (pj T.up) (λb hb=>(T.bits b hb).2);have cx:=iy (n:=1) (js:=[]) (fg:=ai 0) (fe:=ca vp) (M:=[au r U G e,D.int n,D.lst (ts.map bo),D.int most,gc (bO r U G ts n 0 (n+aB r e)),iu r U G e ts n,D.lst ((db (cJ r U G e ts n) most n).map (cQ r U G e ts n)),v7,v8,v9,D.tab P0 d7 d5])
  (λd=>match d with|.tup [a,b,_]=>.tup [a,b]|d=>d) ((eO (cJ r U G e ts n) most (db (cJ r U G e ts n) most n)).map (cQ r U G e ts n)) (λx hx=>by obtain⟨b,_,rfl⟩:=List.mem_map.mp hx;exact⟨[some (cQ r U G e ts n b)],rfl,Bk (by decide)⟩)
 have ex:((eO (cJ r U G e ts n) most (db (cJ r U G e ts n) most n)).map (cQ r U G e ts n)).map (λd=>match d with|.tup [a,b,_]=>D.tup [a,b]|d=>d)=(eO (cJ r U G e ts n) most (db (cJ r U G e ts n) most n)).map (qL (cJ r U G e ts n)):=by rw[jj];rfl
 rw[ex]at cx;exact Hk rfl (by decide) ⟨_,(aV (Bv hm)).trans<|(aV (Bu htb)).trans<|(aV a6).trans<|(aV (Bo hcut l1)).trans<|Bn (by rw[j7];exact dg (ju (List.length_take_le _ _) (by omega))) (yF (Bl) rfl hf) cx⟩
end
def qji{xs:List D}{a b:Nat}(hb:b<=xs.length)(hab:a<=b):gU (.lst xs) (some (a:Int)) (some (b:Int))=some (.lst ((xs.drop a).take (b-a))):=by show some (D.lst (de _ _ _))=_;unfold de;rw[t7 (by omega),t7 (by omega),jy,jy,Nat.min_eq_left hb,Nat.min_eq_left (ju hab hb)]
def BL{S T N:D}(z0:0<=sizeLine):Nx (cg 3 (aW ag)) [S,T,N,none,none,none,none] 3 (D.lst []):=by walk_at "e"
def BK{S T N F:D}:Nx (aw 4 (ae (.int 0))) [S,T,N,F,none,none,none] 4 (D.int 0):=by walk_at "e"
def BJ{R TS E T N F p:D}{k' m:Int}{RS RW:List D}{v6:Option D}{DS:D->Option D}(hl:0<RS.length)(hr:bB RS (k' % (RS.length:Nat))=some (.tup RW))(hm:DS (.tup RW)=some (.int m)):Nx (aw 6 (aK DS (af bd (af bd (aa 0) (ae (.int 2))) (af b7 (aa 5) Dp)))) [D.tup [R,TS,.tup RS,E],T,N,F,p,D.int k',v6] 6 (D.int m):=by walk_at "e"
def BI{S N k:D}{p m:Int}{T C F:List D}(hc:gU (.lst T) (some p) (some (p+m))=some (.lst C))(lf:F.length<sizeLine):Nx CS [S,D.lst T,N,D.lst F,D.int p,k,D.int m] 3 (D.lst (F++[.lst C])):=by walk_at "e"
def BF{S T N F k:D}{p m:Int}:Nx (aw 4 (af bN (aa 4) (aa 6))) [S,T,N,F,D.int p,k,D.int m] 4 (D.int (p+m)):=by walk_at "e"
def BG(S T F p:D)(N:Int):Ns (ak (aa 2) ag) [S,T,D.int N,F,p,none,none] [.int N]:=by walk_at "e"
def BH{S T N p q:D}{X F:List D}{v5 v6:Option D}{FI:ba}{FB:aD}(hI:Ns FI [S,T,N,D.lst [],p,none,none] X)(l1:dI (ai 5) FB X [S,T,N,D.lst [],p,none,none]=some (.nx [S,T,N,D.lst F,q,v5,v6])):
 (am (bi FI (ai 5) FB) (az (aa 3))) [S,T,N,D.lst [],p,none,none]=some (.rt (.lst F) [S,T,N,D.lst F,q,v5,v6]):=by
 walk_at "e"
theorem G6:∀row:List Int,(∀b∈row,b=0∨b=1)->row.sum=((row.filter λb=>b==1).length:Nat)
 |[],_=>rfl
 | b::row,h=>by
  have ih:=G6 row λc hc=>h c (jd _ hc);rw[List.sum_cons,ih];rcases h b jf with q|q
  .subst q;rw[List.filter_cons_of_neg (by decide)];omega
  .subst q;rw[List.filter_cons_of_pos (by decide),jt];omega
section
variable{r:Int}{U:Zf}{G:Z9}{e:Str}{n:Nat}{ts:List Told}
def qbz:∀{i j:Nat},i<=j->(bK U G i).length<=(bK U G j).length:=λ{i j} h=>by
 induction j with
 |zero=>rw[Nat.le_zero.mp h];exact jc _
 | succ j ih=>
  by_cases z:i=j+1
  .rw[z];exact jc _
  .rw[pr];exact ju (ih (by omega)) (Nat.le_add_right _ _)
def qfq(ok:q27 r U G e)(N:Nat)(hN:N<=64)(hl:ts.length=(bK U G N).length):fyQ [au r U G e,.lst (ts.map bo),.int N]=some (.lst ((List.range N).map λk=>.lst ((aF U G ts k).map bo))):=by
 let⟨M',l1,v5,v6,hρ⟩:=gn (fg:=ai 5) (fb:=Dy)
  (λk M=>∃v5 v6,M=[some (au r U G e),some (.lst (ts.map bo)),some (.int N),some (.lst ((List.range k).map λk=>.lst ((aF U G ts k).map bo))),some (.int (bK U G k).length),v5,v6]) (cR 0 N) 0
  [some (au r U G e),some (.lst (ts.map bo)),some (.int N),some (.lst []),some (.int 0),none,none] ⟨none,none,rfl⟩ (by
   rintro i x M hx ⟨v5,v6,rfl⟩;obtain⟨hi,rfl⟩:=jL hx;rw[jv,Int.zero_add];have hrow:=Fx ok i;have hm:sY (.tup ((aE G i).map D.int))=some (.int (bF U G i).length):=by show(c6 _).map (λns=>D.int ns.sum)=_;rw[gS,Option.map_some,G6 _ hrow.2,HQ U _ hrow.1];rfl
   have le:=qbz (U:=U) (G:=G) (show i+1<=N from hi);have e1:=pr (U:=U) (G:=G) i;have hc:gU (.lst (ts.map bo)) (some ((bK U G i).length:Int)) (some (((bK U G i).length:Int)+(bF U G i).length))=some (.lst ((aF U G ts i).map bo)):=by rw[show((bK U G i).length:Int)+(bF U G i).length=(((bK U G i).length+(bF U G i).length:Nat):Int)from by omega,qji (by rw[j7];omega) (by omega),Nat.add_sub_cancel_left];unfold aF;rw[List.map_take,List.map_drop]
   have hl0:0<(G.map c0).length:=by have:=ok.m1;rw[j7];omega
   refine⟨_,_,rfl,.inl ((aV (BJ hl0 (wV ok i) hm)).trans<|(aV (BI hc (by rw[j7,List.length_range];exact jr (by omega:_<1000) (by decide)))).trans<|BF),some (.int (i:Int)),some (.int (bF U G i).length),?_⟩;rw[List.range_succ,x5,e1,show(((bK U G i).length+(bF U G i).length:Nat):Int)=((bK U G i).length:Int)+(bF U G i).length from by omega];rfl)
 subst hρ;rw[gq,jv]at l1;have hI:=mw (BG (au r U G e) (.lst (ts.map bo)) (.lst []) (.int 0) (N:Int)) (by omega) (by omega);rw[jy]at hI;exact gP rfl ⟨_,(aV (BL (by decide))).trans<|(aV (BK)).trans<|BH hI l1⟩
end
def Bj{S k T z6 bit x y:D}(h:fyG [S,k,z6,bit]=some (.tup [x,y])):C7 [S,k,T,z6,bit,none,none]=some (.nx [S,k,T,z6,bit,x,y]):=by walk_at "e"
def Bi{S k z6 bit x:D}{T SE Z YD:List D}{Y:Zf}{c:Int}{FE:aN}(two:2<=sizeLine)(hz:cU T SE=Z)(lz:Z.length<=sizeLine)(cm:cK 2 [] none (cY 2 (bE (ai 0) (bE (ai 1) c7))) (ae true) FE Z [S,k,D.lst T,z6,bit,x,D.lst SE]=some (YD,[some S,some k,some (.lst T),some z6,some bit,some x,some (.lst SE)]))(hi:c6 YD=some Y)(hc:Y.sum=c):
 (az (ca (ak (aa 5) (ak (aK hG (br (cI 2 [] none BZ (cY 2 (bE (ai 0) (bE (ai 1) c7))) (ae true) FE))) ag)))) [S,k,D.lst T,z6,bit,x,D.lst SE]=some (.rt (.tup [x,.int c]) [S,k,D.lst T,z6,bit,x,D.lst SE]):=by
 walk_at "e"
section
variable{r:Int}{U:Zf}{G:Z9}{e:Str}{n:Nat}{ts:List Told}
def FW(ok:q27 r U G e)(k:Nat)(z6 bit:Int)(a0:0<=z6)(hb:0<=bit):fyR [au r U G e,.int k,.lst ((aF U G ts k).map bo),.int z6,.int bit]=some (lD (cZ r U G ts k z6 bit)):=by
 have st:=nh ok k z6 bit a0 hb;have bs:∀b∈fz (aE G k) (U.map (dG (2*z6+bit))),b=0∨b=1:=λb hb=>by rw[qI]at hb;obtain⟨z,_,rfl⟩:=List.mem_map.mp hb;exact qp2
 have ls:(fz (aE G k) (U.map (dG (2*z6+bit)))).length<=1000:=by have h1:=qks ok k (2*z6+bit);have h2:=nr ok k;omega
 have em:lD (cZ r U G ts k z6 bit)=.tup [.int ((2*z6+bit) % 2^r.toNat),.int (gg (aF U G ts k) (fz (aE G k) (U.map (dG (2*z6+bit)))))]:=rfl;rw[em];generalize fz (aE G k) (U.map (dG (2*z6+bit)))=ss at st bs ls;generalize aF U G ts k=ch;have hz:cU (ch.map bo) (ss.map D.int)=(ch.zip ss).map λq=>D.tup [bo q.1,.int q.2]:=by rw[qE,qF,jj];rfl
 have cm:=zB [au r U G e,D.int (k:Int),D.lst (ch.map bo),D.int z6,D.int bit,D.int ((2*z6+bit) % 2^r.toNat),D.lst (ss.map D.int)] (ch.zip ss) (λq hq=>bs q.2 (List.of_mem_zip (show(q.1,q.2)∈ch.zip ss from hq)).2);exact gP rfl ⟨_,(aV (Bj st)).trans<|Bi (by decide) hz (by rw[j7,k7];exact dg (by omega)) cm (gS _) rfl⟩
end
def qvh{n:D}(one:1<=sizeLine)(z0:0<=sizeLine)(E:bV (.lst []) (.lst [])=some true)(FX:aD):Nr (am C0 FX) [D.lst [],n,none,none,none,none] (D.lst [.lst []]):=by walk_at "e"
def A6{W n:D}(z0:0<=sizeLine)(E:bV W (.lst [])=some false)(FX:aD):Nz (bY B5 FX aJ) [W,n,none,none,none,none]:=by walk_at "e"
def A5{W n:D}(z0:0<=sizeLine):Nx (cg 2 (aW ag)) [W,n,none,none,none,none] 2 (D.lst []):=by walk_at "e"
def A4(W n F:D)(k' b:Int)(V V':List D)(v5:Option D)(one:1<=sizeLine)(hc:gU (.lst V) none (some k')=some (.lst V'))(hb:bB V k'=some (.int b))(lz:V'.length+1<=sizeLine):Dc [W,n,F,D.lst V,D.int k',v5]=some (.nx [W,n,F,D.lst V,D.int k',D.lst (V'++[.int (1-b)])]):=by walk_at "e"
abbrev DG:=CW
def AZ(B:D)(V V':List D)(k':Int)(b:Bool)(hc:gU (.lst V) none (some (k'+1))=some (.lst V'))(he:bV (.lst V') B=some b):Ns DG [D.lst V,B,D.int k'] b:=by walk_at "e"
def A3(n F V k B:D)(W Y:List D)(b:Bool)(FT:dz)(lw:W.length<=sizeLine)(z0:0<=sizeLine)(cf:Ns (cK 1 [5,4] none (ai 0) FT (aa 0) W) [D.lst W,n,F,V,k,B] Y)(he:bV (.lst Y) (.lst [])=some b):Ns (bh (af eK (br (cI 1 [5,4] none (bz (aa 0)) (ai 0) FT (aa 0))) (br (aW ag)))) [D.lst W,n,F,V,k,B] b:=by
 walk_at "e"
def qy8{W n F V k B:D}{FT1 FT2:dz}{FX:aD}(h:Ns FT1 [W,n,F,V,k,B] false):Nz (bY (dh FT1 FT2) FX aJ) [W,n,F,V,k,B]:=by walk_at "e"
def AY(W n V k B:D)(F:List D)(b:Bool)(DN:D->D->Option D)(FT1:dz)(lf:F.length<sizeLine)(h:FT1 [W,n,D.lst F,V,k,B]=some (true,[some W,some n,some (.lst F),some V,some k,some B]))(hd:DN B (.lst F)=some (.bl b)):∃F',(F'=F∨F'=F++[B])/\
 (bY (dh FT1 (bh (af DN (aa 5) (aa 2)))) (cW f9 2 (ak (aa 5) ag)) aJ) [W,n,D.lst F,V,k,B]=some (.nx [W,n,D.lst F',V,k,B]):=by
 cases b with
 | false=>
  refine⟨F,.inl rfl,?_⟩;walk_at "e"
 | true=>
  refine⟨F++[B],.inr rfl,?_⟩;walk_at "e"
def A0(W F V:D)(n:Int)(v4 v5:Option D):Ns (ak (aa 1) ag) [W,D.int n,F,V,v4,v5] [.int n]:=by walk_at "e"
def A1{W n F F' V:D}{X:List D}{v4 v5 w4 w5:Option D}{FI:ba}{FB:aD}(hI:Ns FI [W,n,F,V,v4,v5] X)(l1:dI (ai 4) FB X [W,n,F,V,v4,v5]=some (.nx [W,n,F',V,w4,w5])):(bi FI (ai 4) FB) [W,n,F,V,v4,v5]=some (.nx [W,n,F',V,w4,w5]):=by walk_at "e"
def A2{n:D}{W F:List D}{v3 v4 v5:Option D}{FB:aD}(l1:dI (ai 3) FB W [D.lst W,n,D.lst [],none,none,none]=some (.nx [D.lst W,n,D.lst F,v3,v4,v5])):(am (bi (bz (aa 0)) (ai 3) FB) (jE 2)) [D.lst W,n,D.lst [],none,none,none]=some (.rt (.lst F) [D.lst W,n,none,v3,v4,v5]):=by walk_at "e"
noncomputable def bP(w:Zf):D:=.lst (w.map D.int)
theorem Gi:∀bs:List (List Int),mL (bs.map bP)=some bs
 |[]=>rfl
 | b::bs=>by rw[jz];unfold mL;have h:iS (bP b)=some b:=gS b;rw[h,Gi bs]
def qpr(b:Zf)(bs:Z9):pk (bP b) (.lst (bs.map bP))=some (.bl (!bs.contains b)):=by unfold pk;have h:iS (bP b)=some b:=gS b;simp only[h,Gi]
def Gd(bs:Z9):bV (.lst (bs.map bP)) (.lst [])=some (decide (bs=[])):=by
 cases bs with
 |nil=>exact(ub [] []).trans rfl
 | cons b bs=>
  refine(Iv (n:=1) (DOk.ints b) (DOks.all λd hd=>?_) (by decide)).trans (by simp);obtain⟨c,_,rfl⟩:=List.mem_map.mp hd;exact DOk.ints c
def qfp(R:Z9)(n:Nat)(hn:n<=60)(hR:R.length<=30)(hw:∀w∈R,ay w/\w.length=n):∃bs:List (List Int),fyT [.lst (R.map bP),.int n]=some (.lst (bs.map bP))/\∀b∈bs,ay b/\b.length<=n/\∀w∈R,¬b<+:w:=by
 by_cases z:R=[]
 .subst z;refine⟨[[]],t6 rfl ⟨_,qvh (by decide) (by decide) (ub [] []) _⟩,λb hb=>?_⟩;rw[List.mem_singleton.mp hb];exact⟨λ_ h=>(nomatch h),Nat.zero_le _,λw h=>(nomatch h)⟩
 .let⟨M',l1,bs,v3,v4,v5,hρ,lb,hbs⟩:=gn (fg:=ai 3) (fb:=Ch) (λj M=>∃(bs:Z9) (v3 v4 v5:Option D),M=[some (.lst (R.map bP)),some (.int n),some (.lst (bs.map bP)),v3,v4,v5]/\bs.length<=j*n/\∀b∈bs,ay b/\b.length<=n/\∀w∈R,¬b<+:w) (R.map bP) 0
   [some (.lst (R.map bP)),some (.int n),some (.lst []),none,none,none] ⟨[],none,none,none,rfl,by simp,λ_ h=>(nomatch h)⟩ (by
    rintro j x M hx ⟨bs,v3,v4,v5,rfl,lb,hbs⟩;rw[jv]at lb ⊢;have hj:j<30:=by have:=(List.getElem?_eq_some_iff.mp hx).1;rw[j7]at this;omega
    rw[je]at hx;obtain⟨w,hw1,rfl⟩:=Option.map_eq_some_iff.mp hx;let⟨w1,w2⟩:=hw w (xk hw1);have jn:j*n<=30*60:=Nat.mul_le_mul (by omega) hn;let⟨M1,m1,bs1,w4,w5,hρ1,lb1,hbs1⟩:=gn (fg:=ai 4) (fb:=DI)
     (λi M=>∃(bs:Z9) (w4 w5:Option D),M=[some (.lst (R.map bP)),some (.int n),some (.lst (bs.map bP)),some (bP w),w4,w5]/\bs.length<=j*n+i/\∀b∈bs,ay b/\b.length<=n/\∀w∈R,¬b<+:w) (cR 0 n) 0
     [some (.lst (R.map bP)),some (.int n),some (.lst (bs.map bP)),some (bP w),v4,v5] ⟨bs,v4,v5,rfl,by omega,hbs⟩ (by
      rintro i x M hx ⟨bs,w4,w5,rfl,lb,hbs⟩;obtain⟨hi,rfl⟩:=jL hx;rw[jv]at lb ⊢;rw[Int.zero_add];have ek:w[i]? =some w[i]:=jb (by omega);have hwi:=w1 _ (xn (show i<w.length by omega));have hb:bB (w.map D.int) (i:Int)=some (.int w[i]):=by rw[i3 (by omega) (by rw[j7];omega),jy,je,ek];rfl
      have hc:gU (.lst (w.map D.int)) none (some (i:Int))=some (.lst ((w.take i).map D.int)):=by show some (D.lst (de _ _ _))=_;rw[tS (by omega),jy,<-List.map_take]
      have lt':(w.take i).length=i:=by rw[xi];omega
      have bb:ay (w.take i++[1-w[i]]):=gQ (λy hy=>w1 y (List.mem_of_mem_take hy)) λy hy=>by rw[List.mem_singleton.mp hy];omega
      have lbb:(w.take i++[1-w[i]]).length=i+1:=by rw[jh,lt'];rfl
      have eB:(w.take i).map D.int++[D.int (1-w[i])]=(w.take i++[1-w[i]]).map D.int:=by rw[x5];rfl
      have h5:=A4 (.lst (R.map bP)) (.int n) (.lst (bs.map bP)) _ _ _ _ w5 (by decide) hc hb (by rw[j7,lt'];exact dg (by omega));rw[eB]at h5;obtain⟨b,hB⟩:∃b,w.take i++[1-w[i]]=b:=⟨_,rfl⟩;rw[hB]at h5 bb lbb;have cf:=m9 (n:=1) (js:=[5,4]) (fg:=ai 0) (ft:=DG) (fe:=aa 0) (M:=[D.lst (R.map bP),D.int n,D.lst (bs.map bP),bP w,D.int (i:Int),bP b])
       (λd=>match d with|.lst v=>decide (((c6 v).getD []).take (i+1)=b)|_=>false) (λd=>d) (R.map bP) (λx hx=>by
         obtain⟨v,hv,rfl⟩:=List.mem_map.mp hx;refine⟨[bP v,bP b,D.int (i:Int)],rfl,?_,λ_=>rfl⟩;have hcv:gU (.lst (v.map D.int)) none (some ((i:Int)+1))=some (.lst ((v.take (i+1)).map D.int)):=by show some (D.lst (de _ _ _))=_;rw[tS (by omega),show((i:Int)+1).toNat=i+1 from by omega,<-List.map_take]
         have:=AZ (bP b) _ _ _ _ hcv (ub _ _);refine this.trans ?_;show some (decide (v.take (i+1)=b),_)=some (decide (((c6 (v.map D.int)).getD []).take (i+1)=b),_);rw[gS];rfl)
      have ef:((R.map bP).filter (λd=>match d with|.lst v=>decide (((c6 v).getD []).take (i+1)=b)|_=>false)).map (λd=>d)=(R.filter λv=>decide (v.take (i+1)=b)).map bP:=by rw[List.map_id',List.filter_map];congr 1;refine List.filter_congr λv _=>?_;show decide (((c6 (v.map D.int)).getD []).take (i+1)=b)=_;rw[gS];rfl
      rw[ef]at cf;have ht:=A3 (.int n) (.lst (bs.map bP)) (bP w) (.int (i:Int)) (bP b) _ _ _ _ (by rw[j7];exact dg (by omega)) (by decide) cf (Gd _);by_cases q:(R.filter λv=>decide (v.take (i+1)=b))=[]
      .rw[decide_eq_true q]at ht;let⟨F',hF,hr⟩:=AY (.lst (R.map bP)) (.int n) (bP w) (.int (i:Int)) (bP b) (bs.map bP) _ pk _ (by rw[j7];exact jr (by omega:_<10000) (by decide)) ht (qpr b bs);have nb:∀v∈R,¬b<+:v:=λv hv hp=>by
        have:v∈R.filter λv=>decide (v.take (i+1)=b):=List.mem_filter.mpr ⟨hv,by rw[decide_eq_true_eq,<-lbb];exact(List.prefix_iff_eq_take.mp hp).symm⟩
        rw[q]at this;cases this
       rcases hF with rfl|rfl
       .exact⟨_,_,rfl,.inl ((aV h5).trans hr),bs,_,_,rfl,by omega,hbs⟩
       .refine⟨_,_,rfl,.inl ((aV h5).trans hr),bs++[b],some (.int (i:Int)),some (bP b),by rw[x5];rfl,by rw[jh];simp;omega,λc hc=>?_⟩;rcases List.mem_append.mp hc with hc|hc
        .exact hbs c hc
        .rw[List.mem_singleton.mp hc];exact⟨bb,by omega,nb⟩
      .rw[decide_eq_false q]at ht;exact⟨_,_,rfl,.inl ((aV h5).trans (qy8 ht)),bs,_,_,rfl,by omega,hbs⟩)
    subst hρ1;rw[gq,jv]at lb1;have hI:=mw (A0 (.lst (R.map bP)) (.lst (bs.map bP)) (bP w) (n:Int) v4 v5) (by omega) (by omega);rw[jy]at hI;refine⟨_,_,rfl,.inl (A1 hI m1),bs1,_,_,_,rfl,?_,hbs1⟩;rw[Nat.add_mul];omega)
  subst hρ;have e0:bV (.lst (R.map bP)) (.lst [])=some false:=by rw[Gd,decide_eq_false z]
  exact⟨bs,t6 rfl ⟨_,(aV (A6 (by decide) e0 _)).trans<|(aV (A5 (by decide))).trans<|A2 l1⟩,hbs⟩
def rS{S P TB s B n:D}:Nx (aw 6 (aa 3)) [S,P,TB,s,B,n,none,none,none,none,none,none,none] 6 s:=by walk_at "e"
def rR{S P TB s B n:D}:Nx (aw 7 (ae (.int 0))) [S,P,TB,s,B,n,s,none,none,none,none,none,none] 7 (D.int 0):=by walk_at "e"
def BA{S TB s n:D}{P B:List D}{k' b x y c:Int}{C z6:D}(v9:Option D)(hP:bB P k'=some C)(hB:bB B k'=some (.int b))(hg:fyR [S,.int k',C,z6,.int b]=some (.tup [.int x,.int y])):
 vD [S,D.lst P,TB,s,D.lst B,n,z6,D.int c,D.int k',v9,none,none,none]=some (.nx [S,D.lst P,TB,s,D.lst B,n,D.int x,D.int (c+y),D.int k',D.int y,none,none,none]):=by
 walk_at "e"
def BB(S P TB s n a c:D)(B:List D):Ns (ak (aK cr (aa 4)) ag) [S,P,TB,s,D.lst B,n,a,c,none,none,none,none,none] [.int ((B.length:Nat):Int)]:=by walk_at "e"
def rQ{S P TB s B n a c a' c':D}{X:List D}{v8 v9:Option D}{FI:ba}{FB:aD}(hI:Ns FI [S,P,TB,s,B,n,a,c,none,none,none,none,none] X)
 (l1:dI (ai 8) FB X [S,P,TB,s,B,n,a,c,none,none,none,none,none]=some (.nx [S,P,TB,s,B,n,a',c',v8,v9,none,none,none])):(bi FI (ai 8) FB) [S,P,TB,s,B,n,a,c,none,none,none,none,none]=some (.nx [S,P,TB,s,B,n,a',c',v8,v9,none,none,none]):=by
 walk_at "e"
def qql{S P s n c:D}{TB B R:List D}{z6 k':Int}{v8 v9:Option D}{FX:aD}(hk:((B.length:Nat):Int)=k')(h1:bB TB k'=some (.lst R))(h2:bB R z6=some .non):(am CA FX) [S,P,D.lst TB,s,D.lst B,n,D.int z6,c,v8,v9,none,none,none]=some (.rt .non [S,P,D.lst TB,s,D.lst B,n,D.int z6,c,v8,v9,none,none,none]):=by subst hk;walk_at "e"
def qyg{S P s n c:D}{TB B R:List D}{z6 k' x:Int}{v8 v9:Option D}{FX:aD}(hk:((B.length:Nat):Int)=k')(h1:bB TB k'=some (.lst R))(h2:bB R z6=some (.int x)):Nz (bY (bh (af gA su (ae .non))) FX aJ) [S,P,D.lst TB,s,D.lst B,n,D.int z6,c,v8,v9,none,none,none]:=by subst hk;walk_at "e"
def qyi{S P TB s n a c:D}{B:List D}{v8 v9:Option D}(lb:B.length<=sizeLine):Nx (cg 10 (hZ dE (aa 4))) [S,P,TB,s,D.lst B,n,a,c,v8,v9,none,none,none] 10 (D.lst B):=by walk_at "e"
def qyh{S P s n W:D}{TB B R:List D}{z6 k' x c:Int}{v8 v9:Option D}(hk:((B.length:Nat):Int)=k')(h1:bB TB k'=some (.lst R))(h2:bB R z6=some (.int x)):Nx (aw 7 (af bN (aa 7) su)) [S,P,D.lst TB,s,D.lst B,n,D.int z6,D.int c,v8,v9,W,none,none] 7 (D.int (c+x)):=by subst hk;walk_at "e"
def nW{S TB s B n c C z6 W:D}{P:List D}{k' x y:Int}(v9 v11 v12:Option D)(hP:bB P k'=some C)(hg:fyR [S,.int k',C,z6,.int 0]=some (.tup [.int x,.int y])):DD [S,D.lst P,TB,s,B,n,z6,c,D.int k',v9,W,v11,v12]=some (.nx [S,D.lst P,TB,s,B,n,z6,c,D.int k',D.int y,W,D.int x,v12]):=by walk_at "e"
def vL{S P TB s B n c z6 W k x y:D}(v12:Option D):Nx (aw 12 (ae (.int 0))) [S,P,TB,s,B,n,z6,c,k,y,W,x,v12] 12 (D.int 0):=by walk_at "e"
def By{S P s B n c W z:D}{TB R1:List D}{k' x z6:Int}{y:D}{nx:Int}(h1:bB TB (k'+1)=some (.lst R1))(h2:bB R1 x=some .non)(hs:fyG [S,.int k',.int z6,.int 1]=some (.tup [.int nx,z])):vG [S,P,D.lst TB,s,B,n,D.int z6,c,D.int k',y,W,D.int x,D.int 0]=some (.nx [S,P,D.lst TB,s,B,n,D.int z6,c,D.int k',y,W,D.int nx,D.int 1]):=by walk_at "e"
def Bw(S P s B n c W z:D)(TB R1 R0:List D)(k' x z6 y u nx:Int)(o:D)(b:Bool)(h1:bB TB (k'+1)=some (.lst R1))(h2:bB R1 x=some (.int u))(h3:bB TB k'=some (.lst R0))(h4:bB R0 z6=some o)(he:bV (.int (y+u)) o=some b)(hs:fyG [S,.int k',.int z6,.int 1]=some (.tup [.int nx,z])):vG [S,P,D.lst TB,s,B,n,D.int z6,c,D.int k',D.int y,W,D.int x,D.int 0]=some (.nx [S,P,D.lst TB,s,B,n,D.int z6,c,D.int k',D.int y,W,D.int (if b=true then x else nx),D.int (if b=true then 0 else 1)]):=by
 cases b with
 |true=>walk_at "e"
 |false=>walk_at "e"
def nV{S P TB s B n c z6 k y x:D}{W:List D}{b:D}(lw:W.length<sizeLine):Cu [S,P,TB,s,B,n,z6,c,k,y,D.lst W,x,b]=some (.nx [S,P,TB,s,B,n,x,c,k,y,D.lst (W++[b]),x,b]):=by walk_at "e"
def Bz{S P TB s B n a a' c:D}{X W W':List D}{v8 v9 w8 w9 w11 w12:Option D}(two:2<=sizeLine)(FI:ba)(FB:aD)(hI:Ns FI [S,P,TB,s,B,n,a,c,v8,v9,D.lst W,none,none] X)
 (l1:dI (ai 8) FB X [S,P,TB,s,B,n,a,c,v8,v9,D.lst W,none,none]=some (.nx [S,P,TB,s,B,n,a',c,w8,w9,D.lst W',w11,w12])):
 (am (bi FI (ai 8) FB) Ck) [S,P,TB,s,B,n,a,c,v8,v9,D.lst W,none,none]=some (.rt (.tup [c,.lst W']) [S,P,TB,s,B,n,a',c,w8,w9,D.lst W',w11,w12]):=by
 walk_at "e"
def Bx(S P TB s a c W:D)(B:List D)(n:Int)(v8 v9:Option D):Ns uV [S,P,TB,s,D.lst B,D.int n,a,c,v8,v9,W,none,none] [.int ((B.length:Nat):Int),.int n]:=by walk_at "e"
def qp7{M M1:aA}{fs:ba}{i j:Int}(h:fs M=some ([.int i,.int j],M1))(hb:(eh i&&eh j)=true):oP fs M=some (cR i (j-i).toNat,M1):=by have h1:nN [.int i,.int j]=some (cR i (j-i).toNat):=if_pos hb;rw[Gf,h,Option.bind_some,h1];rfl
def qwj(a:Int)(b:Option Int):bV (.int a) (bZ b)=some (decide (some a=b)):=by
 cases b with
 |none=>exact(IF a).trans (by simp)
 | some y=>
  refine(Gc a y).trans ?_;congr 1;by_cases h:a=y
  .simp[h]
  .simp[h]
section
variable{r:Int}{U:Zf}{G:Z9}{e:Str}{n:Nat}{ts:List Told}
def qsa{s x:Int}{b:Zf}(hs:s∈ck r e)(hb:ay b)(hx:x=0∨x=1)(hl:b.length<n):aP r U G e ts n s (b++[x])=
 ((cZ r U G ts b.length (aP r U G e ts n s b).1 x).1,(aP r U G e ts n s b).2+(cZ r U G ts b.length (aP r U G e ts n s b).1 x).2):=by
 have hrm:=pi (U:=U) (G:=G) (ts:=ts) hs hb (Nat.le_of_lt hl);have pn:=f7 (r:=r);rw[Ho x hl];have ech:=uh (U:=U) (G:=G) (ts:=ts) (n:=n) (k:=b.length) hrm.1 (show(aP r U G e ts n s b).1<2^r.toNat by omega);have eb:eX n b.length=[0,1]:=if_pos hl;have em:(cw (L2.stepK r U G ts n b.length) (aP r U G e ts n s b).1).getD x.toNat (0,0)=cZ r U G ts b.length (aP r U G e ts n s b).1 x:=by rw[ech,eb];rcases hx with rfl|rfl<;>rfl
 rw[em]
def qky{N k:Nat}(hk:k<N):bB ((List.range N).map λk=>D.lst ((aF U G ts k).map bo)) (k:Int)=some (.lst ((aF U G ts k).map bo)):=by rw[i3 (by omega) (by rw[j7,List.length_range];omega),jy,je,xr hk];rfl
def yb{s:Int}{k:Nat}(hk:k<=n):bB ((bU r U G e ts n s).map dZ) (k:Int)=some (.lst (((bU r U G e ts n s).getD k []).map bZ))/\((bU r U G e ts n s).getD k []).length=2^r.toNat:=by
 have lt:k<(bU r U G e ts n s).length:=by rw[yz];omega
 have ek:(bU r U G e ts n s)[k]? =some (bU r U G e ts n s)[k]:=jb lt;have eg:(bU r U G e ts n s).getD k []=(bU r U G e ts n s)[k]:=by rw[ji,ek];rfl
 refine⟨?_,by rw[eg];exact GC ek⟩;rw[i3 (by omega) (by rw[j7];omega),jy,je,ek,eg];rfl
def wF(r:Int)(U:Zf)(G:Z9)(e:Str)(ts:List Told)(n:Nat)(s:Int)(b:Zf):D:=match cG r U G e ts n s b with
 |none=>.non
 |some c=>aR (c,b++jD r U G e ts n s b)
def qow(ok:q27 r U G e)(hn:n<=60){s:Int}{b:Zf}(hs:s∈ck r e)(hb:ay b)(hl:b.length<=n):
 fyS [au r U G e,.lst ((List.range (n+aB r e)).map λk=>.lst ((aF U G ts k).map bo)),fX (bU r U G e ts n s),.int s,bP b,.int n]=some (wF r U G e ts n s b):=by
 have hr:=pi (U:=U) (G:=G) (ts:=ts) (n:=n) hs hb hl;have pn:=f7 (r:=r);have pp:(0:Int)<2^r.toNat:=Int.pow_pos (by decide);generalize hP:(List.range (n+aB r e)).map (λk=>D.lst ((aF U G ts k).map bo))=PA;have pat:∀k,k<n->bB PA (k:Int)=some (.lst ((aF U G ts k).map bo)):=λk hk=>by rw[<-hP];exact qky (by omega)
 obtain⟨M',l1,v8,v9,hρ⟩:=gn (fg:=ai 8) (fb:=vD)
  (λk M=>∃v8 v9,M=[some (au r U G e),some (.lst PA),some (fX (bU r U G e ts n s)),some (.int s),some (bP b),some (.int n),some (.int (aP r U G e ts n s (b.take k)).1),some (.int (aP r U G e ts n s (b.take k)).2),v8,v9,none,none,none]) (cR 0 b.length) 0
  [some (au r U G e),some (.lst PA),some (fX (bU r U G e ts n s)),some (.int s),some (bP b),some (.int n),some (.int s),some (.int 0),none,none,none,none,none] ⟨none,none,by
   show _=[_,_,_,_,_,_,some (D.int (eY _ s 0 []).1),some (D.int (eY _ s 0 []).2),_,_,_,_,_];rw[uf]⟩ (by
   rintro i x M hx ⟨v8,v9,rfl⟩;obtain⟨hi,rfl⟩:=jL hx;rw[jv,Int.zero_add];have ek:b[i]? =some b[i]:=jb hi;have hbi:=hb _ (xn hi);have ga:bB (b.map D.int) (i:Int)=some (.int b[i]):=by rw[i3 (by omega) (by rw[j7];omega),jy,je,ek];rfl
   have hbt:ay (b.take i):=λy hy=>hb y (List.mem_of_mem_take hy);have lt':(b.take i).length=i:=by rw[xi];omega
   have hri:=pi (U:=U) (G:=G) (ts:=ts) (n:=n) hs hbt (by omega);have eo:=qsa (U:=U) (G:=G) (ts:=ts) (n:=n) hs hbt hbi (by omega);rw[lt']at eo;have hg:=FW (ts:=ts) ok i (aP r U G e ts n s (b.take i)).1 b[i] hri.1 (by omega);refine⟨_,_,rfl,.inl (BA v9 (pat i (by omega)) ga hg),some (.int (i:Int)),some (.int (cZ r U G ts i (aP r U G e ts n s (b.take i)).1 b[i]).2),?_⟩;rw[cE ek,eo];rfl)
 subst hρ;rw[gq,jv,List.take_length]at l1;have lm:(((b.map D.int).length:Nat):Int)=(b.length:Int):=by rw[j7]
 have hI:=mw (BB (au r U G e) (.lst PA) (fX (bU r U G e ts n s)) (.int s) (.int n) (.int s) (.int 0) (b.map D.int)) (by omega) (by rw[lm];omega);rw[lm,jy]at hI;obtain⟨t1,t2⟩:=yb (U:=U) (G:=G) (ts:=ts) (s:=s) hl;have h3:=qm (t:=(bU r U G e ts n s).getD b.length []) hr.1 (by rw[t2];exact hr.2);have ec:cG r U G e ts n s b=(dy ((bU r U G e ts n s).getD b.length []) (aP r U G e ts n s b).1).map λx=>(aP r U G e ts n s b).2+x:=rfl;unfold wF;rw[ec];cases q:dy ((bU r U G e ts n s).getD b.length []) (aP r U G e ts n s b).1 with
 | none=>
  rw[q]at h3;exact gP rfl ⟨_,(aV (rS)).trans<|(aV (rR)).trans<|(aV (rQ hI l1)).trans<|qql lm t1 h3⟩
 | some m=>
  rw[q]at h3
  -- on by the table
  obtain⟨M2,l2,zj,z6,w8,w9,w11,w12,hρ2,lw,zi,_,hg⟩:=gn (fg:=ai 8) (fb:=C4) (λi M=>∃(zj:Zf) (z6:Int) (w8 w9 w11 w12:Option D),M=[some (au r U G e),some (.lst PA),some (fX (bU r U G e ts n s)),some (.int s),some (bP b),some (.int n),some (.int z6),some (.int ((aP r U G e ts n s b).2+m)),w8,w9,some (bP zj),w11,w12]/\zj.length=b.length+i/\(0<=z6/\z6.toNat<2^r.toNat)/\(∃m',dy ((bU r U G e ts n s).getD (b.length+i) []) z6=some m')/\
   zj++gk (n-(b.length+i)) ((bO r U G ts n 0 (n+aB r e)).drop (b.length+i)) (bT ((bO r U G ts n 0 (n+aB r e)).drop (b.length+i)) (dH r e s)) z6=b++jD r U G e ts n s b) (cR (b.length:Int) (n-b.length)) 0
   [some (au r U G e),some (.lst PA),some (fX (bU r U G e ts n s)),some (.int s),some (bP b),some (.int n),some (.int (aP r U G e ts n s b).1),some (.int ((aP r U G e ts n s b).2+m)),v8,v9,some (bP b),none,none] ⟨b,_,v8,v9,none,none,rfl,rfl,hr,⟨m,q⟩,rfl⟩ (by
    rintro i x M hx ⟨zj,z6,w8,w9,w11,w12,rfl,lw,zi,⟨m',hal⟩,hg⟩;rw[jv]at lw hg hal ⊢;obtain⟨hi,rfl⟩:=jL hx;have hk:b.length+i<n:=by omega
    rw[show(b.length:Int)+(i:Int)=((b.length+i:Nat):Int)from by omega,show b.length+(i+1)=b.length+i+1 from by omega]at*;generalize b.length+i=k at*;have hks:k<(bO r U G ts n 0 (n+aB r e)).length:=by rw[jK];omega
    have es:(bO r U G ts n 0 (n+aB r e))[k]=L2.stepK r U G ts n k:=by
     have h1:(bO r U G ts n 0 (n+aB r e))[k]? =some (L2.stepK r U G ts n k):=by unfold bO;rw[je,List.getElem?_range' (by omega)];simp
     rw[jb hks]at h1;exact jg h1
    have ed:(bO r U G ts n 0 (n+aB r e)).drop k=L2.stepK r U G ts n k::(bO r U G ts n 0 (n+aB r e)).drop (k+1):=by rw[kc hks,es]
    have ech:=uh (U:=U) (G:=G) (ts:=ts) (n:=n) (k:=k) zi.1 (show z6<2^r.toNat by omega);rw[show eX n k=[0,1]from if_pos hk]at ech;have ech:cw (L2.stepK r U G ts n k) z6=[cZ r U G ts k z6 0,cZ r U G ts k z6 1]:=ech;have et:(bU r U G e ts n s).getD k []=(bT ((bO r U G ts n 0 (n+aB r e)).drop k) (dH r e s)).headD []:=dY (Nat.le_of_lt hk);have et':(bU r U G e ts n s).getD (k+1) []=(bT ((bO r U G ts n 0 (n+aB r e)).drop (k+1)) (dH r e s)).headD []:=dY hk;have eah:bT (L2.stepK r U G ts n k::(bO r U G ts n 0 (n+aB r e)).drop (k+1)) (dH r e s)=((bU r U G e ts n s).getD k [])::bT ((bO r U G ts n 0 (n+aB r e)).drop (k+1)) (dH r e s):=by rw[et,ed];rfl
    rw[show n-k=(n-(k+1))+1 from by omega,ed,eah,zI,<-et',ech]at hg;have q0r:0<=(cZ r U G ts k z6 0).1/\(cZ r U G ts k z6 0).1.toNat<2^r.toNat:=by have h0:=Int.emod_nonneg (2*z6+0) (by omega:(2:Int)^r.toNat≠0);have h1:=Int.emod_lt_of_pos (2*z6+0) pp;exact⟨h0,by show((2*z6+0) % 2^r.toNat).toNat<_;omega⟩
    have q1r:0<=(cZ r U G ts k z6 1).1/\(cZ r U G ts k z6 1).1.toNat<2^r.toNat:=by have h0:=Int.emod_nonneg (2*z6+1) (by omega:(2:Int)^r.toNat≠0);have h1:=Int.emod_lt_of_pos (2*z6+1) pp;exact⟨h0,by show((2*z6+1) % 2^r.toNat).toNat<_;omega⟩
    have hgo:=FW (ts:=ts) ok k z6 0 zi.1 (by decide);have hst:=nh ok k z6 1 zi.1 (by decide);obtain⟨u1,u2⟩:=yb (U:=U) (G:=G) (ts:=ts) (s:=s) (Nat.le_of_lt hk);obtain⟨u1',u2'⟩:=yb (U:=U) (G:=G) (ts:=ts) (s:=s) (show k+1<=n from hk);rw[show((k+1:Nat):Int)=(k:Int)+1 from by omega]at u1';have u3:=qm (t:=(bU r U G e ts n s).getD k []) zi.1 (by rw[u2];exact zi.2);have u3':=qm (t:=(bU r U G e ts n s).getD (k+1) []) q0r.1 (by rw[u2'];exact q0r.2);have lwd:(zj.map D.int).length<sizeLine:=by rw[j7,lw];exact jr (by omega:k<1000) (by decide)
    have fin:∀(bit nx:Int),jB (L2.stepK r U G ts n k) ((bU r U G e ts n s).getD k []) ((bU r U G e ts n s).getD (k+1) []) z6=bit->([cZ r U G ts k z6 0,cZ r U G ts k z6 1].getD bit.toNat (0,0)).1=nx->
           (zj++[bit])++gk (n-(k+1)) ((bO r U G ts n 0 (n+aB r e)).drop (k+1)) (bT ((bO r U G ts n 0 (n+aB r e)).drop (k+1)) (dH r e s)) nx=b++jD r U G e ts n s b:=λbit nx e1 e2=>by
     rw[e1,e2]at hg;rw[List.append_assoc];exact hg
    have ebit:jB (L2.stepK r U G ts n k) ((bU r U G e ts n s).getD k []) ((bU r U G e ts n s).getD (k+1) []) z6=if du (cZ r U G ts k z6 0) ((bU r U G e ts n s).getD (k+1) [])=dy ((bU r U G e ts n s).getD k []) z6 then 0 else 1:=by unfold jB;rw[ech];rfl
    have hst2:dy ((bU r U G e ts n s).getD k []) z6=fG [cZ r U G ts k z6 0,cZ r U G ts k z6 1] ((bU r U G e ts n s).getD (k+1) []):=by
     have h1:(L2.stepK r U G ts n k)[z6.toNat]? =some [cZ r U G ts k z6 0,cZ r U G ts k z6 1]:=by rw[<-ech];exact F8 (i:=0) (q:=cZ r U G ts k z6 0) (by rw[ech];rfl)
     rw[et,ed,et'];exact tP h1
    rw[hal]at hst2;obtain⟨o1,_,_⟩:=Hq hst2.symm;have al0:∀q:Mv,du q ((bU r U G e ts n s).getD (k+1) [])=some m'->∃m2,dy ((bU r U G e ts n s).getD (k+1) []) q.1=some m2:=λq hq=>by unfold du at hq;obtain⟨x,hx,_⟩:=Option.map_eq_some_iff.mp hq;exact⟨x,hx⟩
    rw[hal]at ebit;cases q2:dy ((bU r U G e ts n s).getD (k+1) []) (cZ r U G ts k z6 0).1 with
    | none=>
     rw[q2]at u3';have ecn:du (cZ r U G ts k z6 0) ((bU r U G e ts n s).getD (k+1) [])=none:=by unfold du;rw[q2];rfl
     have z1:=o1.resolve_left (by rw[ecn];exact λz=>nomatch z);rw[ecn,if_neg (λz=>nomatch z)]at ebit;exact⟨_,_,rfl,.inl ((aV (nW w9 w11 w12 (pat k hk) hgo)).trans<|(aV (vL w12)).trans<|(aV (By u1' u3' hst)).trans<|nV lwd),zj++[1],_,_,_,_,_,by unfold bP;rw[x5];rfl,by rw[jh,lw];rfl,q1r,al0 _ z1,fin 1 _ ebit rfl⟩
    | some u=>
     rw[q2]at u3';have ecb:du (cZ r U G ts k z6 0) ((bU r U G e ts n s).getD (k+1) [])=some ((cZ r U G ts k z6 0).2+u):=by unfold du;rw[q2];rfl
     have he:=qwj ((cZ r U G ts k z6 0).2+u) (some m');rw[hal]at u3;have hstep:=Bw (au r U G e) (.lst PA) (.int s) (bP b) (.int n) (.int ((aP r U G e ts n s b).2+m)) (bP zj) _ _ _ _ _ _ _ _ _ _ _ _ u1' u3' u1 u3 he hst;rw[ecb]at ebit;by_cases z:some ((cZ r U G ts k z6 0).2+u)=some m'
     .rw[if_pos z]at ebit;rw[decide_eq_true z]at hstep;refine⟨_,_,rfl,.inl ((aV (nW w9 w11 w12 (pat k hk) hgo)).trans<|(aV (vL w12)).trans<|(aV hstep).trans<|nV lwd),zj++[0],_,_,_,_,_,by unfold bP;rw[x5];rfl,by rw[jh,lw];rfl,q0r,al0 _ (by rw[ecb];exact z),fin 0 _ ebit rfl⟩
     .rw[if_neg z]at ebit;rw[decide_eq_false z]at hstep;refine⟨_,_,rfl,.inl ((aV (nW w9 w11 w12 (pat k hk) hgo)).trans<|(aV (vL w12)).trans<|(aV hstep).trans<|nV lwd),zj++[1],_,_,_,_,_,by unfold bP;rw[x5];rfl,by rw[jh,lw];rfl,q1r,al0 _ (o1.resolve_left (by rw[ecb];exact z)),fin 1 _ ebit rfl⟩)
  subst hρ2;rw[gq,jv,show b.length+(n-b.length)=n from by omega,Nat.sub_self]at hg;have hg:zj++[]=b++jD r U G e ts n s b:=hg;rw[List.append_nil]at hg;rw[hg]at l2;have hI2:(oP uV) [au r U G e,D.lst PA,fX (bU r U G e ts n s),D.int s,bP b,D.int n,D.int (aP r U G e ts n s b).1,D.int ((aP r U G e ts n s b).2+m),v8,v9,bP b,none,none]=some (cR (b.length:Int) (n-b.length),[some (au r U G e),some (.lst PA),some (fX (bU r U G e ts n s)),some (.int s),some (bP b),some (.int n),some (.int (aP r U G e ts n s b).1),some (.int ((aP r U G e ts n s b).2+m)),v8,v9,some (bP b),none,none]):=by have h1:=Bx (au r U G e) (.lst PA) (fX (bU r U G e ts n s)) (.int s) (.int (aP r U G e ts n s b).1) (.int ((aP r U G e ts n s b).2+m)) (bP b) (b.map D.int) (n:Int) v8 v9;rw[lm]at h1;have h2:=qp7 h1 (by unfold eh;simp;omega);rw[show((n:Int)-(b.length:Int)).toNat=n-b.length from by omega]at h2;exact h2
  exact gP rfl ⟨_,(aV (rS)).trans<|(aV (rR)).trans<|(aV (rQ hI l1)).trans<|(aV (qyg lm t1 h3)).trans<|(aV (qyi (by rw[j7];exact dg (by omega)))).trans<|(aV (qyh lm t1 h3)).trans<|Bz (by decide) _ _ hI2 l2⟩
end
def qwv{S n T s ST EN TB:D}(hm:fyp [S,n,T]=some ST)(he:fyq [S,s]=some EN)(ha:fyt [ST,EN]=some TB):fyu [S,n,T,s]=some TB:=by unfold fyu sG;walk_at "e"
def AT{S n T F:D}(one:1<=sizeLine):Nx Cj [S,n,T,F,none,none,none,none,none,none,none,none] 4 (D.lst [.int 0]):=by walk_at "e"
def AS{S n T F X:D}:Nx (aw 5 (aa 1)) [S,n,T,F,X,none,none,none,none,none,none,none] 5 n:=by walk_at "e"
def rK{R TS RS n T F X N:D}{e z:Str}{FX:aD}(h:bV (.str e) (.str z)=some false):Nz (bY (bh (af eK (af bd (aa 0) (ae (.int 3))) (ae (.str z)))) FX aJ) [D.tup [R,TS,RS,.str e],n,T,F,X,N,none,none,none,none,none,none]:=by walk_at "e"
def AI{TS RS n T F X N:D}{r ρ:Int}{Y:List D}{e:Str}(h:bV (.str e) (.str "ring")=some true)(hs:bQ (.int 1) (.int r)=some (.int ρ))(hy:e9 (.int ρ)=some Y):(bY (bh oG)
 (aw 4 (br (hZ e9 (af bQ (ae (.int 1)) (af bd (aa 0) (ae (.int 0)))))))
 aJ) [D.tup [.int r,TS,RS,.str e],n,T,F,X,N,none,none,none,none,none,none]=some (.nx [D.tup [.int r,TS,RS,.str e],n,T,F,D.lst Y,N,none,none,none,none,none,none]):=by
 generalize hu:e9=uo at hy ⊢;generalize bQ=SH at hs ⊢;clear hu;walk_at "e"
def AN{TS RS T F X N:D}{r n:Int}{e:Str}(h:bV (.str e) (.str "ended")=some true):Nx vg [D.tup [.int r,TS,RS,.str e],D.int n,T,F,X,N,none,none,none,none,none,none] 5 (D.int (n+r)):=by walk_at "e"
def AR{S n T F X N P:D}(h:fyQ [S,T,N]=some P):Nx CC [S,n,T,F,X,N,none,none,none,none,none,none] 6 P:=by walk_at "e"
def AQ{S n F X N P s TB:D}{T:List D}{v8 v9 v10 v11:Option D}(lt:T.length<=sizeLine)(h:fyu [S,n,.lst T,s]=some TB):Nx Ds [S,n,D.lst T,F,X,N,P,s,v8,v9,v10,v11] 8 TB:=by walk_at "e"
def AK{c w s R TS RS:D}{e:Str}(h:bV (.str e) (.str "ring")=some false)(FT:dz):Ns (iG CI FT) [c,w,s,D.tup [R,TS,RS,.str e]] true:=by walk_at "e"
def AJ(c w R TS RS:D)(s z:Int)(e:Str)(h:bV (.str e) (.str "ring")=some true)(hs:fyH [.tup [R,TS,RS,.str e],w]=some (.int z)):Ns vC [c,w,D.int s,D.tup [R,TS,RS,.str e]] (z==s):=by walk_at "e"
def AO{S n T X N P s TB:D}{F Y:List D}{v9 v10 v11:Option D}{FT:dz}(lf:F.length<=sizeLine)(cf:Ns (cK 2 [7,0] none (cY 2 (bE (ai 0) (bE (ai 1) c7))) FT (aa 1) F) [S,n,T,D.lst F,X,N,P,s,TB,v9,v10,v11] Y):Nx (aw 9 (br (cI 2 [7,0] none (bz (aa 3)) (cY 2 (bE (ai 0) (bE (ai 1) c7))) FT (aa 1)))) [S,n,T,D.lst F,X,N,P,s,TB,v9,v10,v11] 9 (D.lst Y):=by
 walk_at "e"
def AM{S n T F X N P s TB W:D}{LV:List D}{v10 v11 w10 w11:Option D}{FB:aD}(h:fyT [W,n]=some (.lst LV))(l1:dI (ai 10) FB LV [S,n,T,F,X,N,P,s,TB,W,v10,v11]=some (.nx [S,n,T,F,X,N,P,s,TB,W,w10,w11])):
 (bi Ct (ai 10) FB) [S,n,T,F,X,N,P,s,TB,W,v10,v11]=some (.nx [S,n,T,F,X,N,P,s,TB,W,w10,w11]):=by
 walk_at "e"
def vR{G:List D->Option D}{S n T F X N P s TB W B y:D}{v11:Option D}(h:G [S,P,TB,s,B,n]=some y):Nx (aw 11 (aS G CV)) [S,n,T,F,X,N,P,s,TB,W,B,v11] 11 y:=by walk_at "e"
def qps{S n T F X N P s TB W B:D}{FT:dz}{FX:aD}:(bY (dh (bh (af ix (aa 11) (ae .non))) FT) FX aJ) [S,n,T,F,X,N,P,s,TB,W,B,D.non]=some (.nx [S,n,T,F,X,N,P,s,TB,W,B,D.non]):=by walk_at "e"
abbrev Dt:=B6
def qv4{S n T X N P s TB W B a b:D}(z0:0<=sizeLine)(E:bV (.lst []) (.lst [])=some true)(FT:dz)(FX:aD):Nz (bY (dh (bh (af ix (aa 11) (ae .non))) (dh Dt FT)) FX aJ) [S,n,T,D.lst [],X,N,P,s,TB,W,B,D.tup [a,b]]:=by walk_at "e"
def qxp{S n T X N P s TB W B a b l:D}{F:List D}{DL:D->D->Option D}(z0:0<=sizeLine)(E:bV (.lst F) (.lst [])=some false)(hl:bB F (-1)=some l)(h:DL l (.tup [a,b])=some (.bl true))(FX:aD):Nz (bY (dh (bh (af ix (aa 11) (ae .non))) (dh Dt (dW (bh (af DL Cd (aa 11)))))) FX aJ) [S,n,T,D.lst F,X,N,P,s,TB,W,B,D.tup [a,b]]:=by walk_at "e"
def AL{S n T F N P:D}{X:List D}{v7 v8 v9 v10 v11:Option D}{FB:aD}(l1:dI (ai 7) FB X [S,n,T,F,D.lst X,N,P,none,none,none,none,none]=some (.nx [S,n,T,F,D.lst X,N,P,v7,v8,v9,v10,v11])):
 (am (bi (bz (aa 4)) (ai 7) FB) (az (ae (.bl true)))) [S,n,T,F,D.lst X,N,P,none,none,none,none,none]=some (.rt (.bl true) [S,n,T,F,D.lst X,N,P,v7,v8,v9,v10,v11]):=by
 walk_at "e"
def qm6{q:Int×List Int}{qs:List (Int×List Int)}:bV (.lst ((q::qs).map aR)) (.lst [])=some false:=by
 have h:∀p:Int×List Int,DOk 2 (aR p):=λp=>DOks.tup (DOks.cons (DOk.int 1 p.1) (DOks.cons (DOk.ints p.2) (DOks.nil 1)));exact Iv (n:=2) (h q) (DOks.all λd hd=>by obtain⟨p,_,rfl⟩:=List.mem_map.mp hd;exact h p) (by decide)
section
variable{r:Int}{U:Zf}{G:Z9}{e:Str}{n:Nat}{ts:List Told}
def qxg(ok:q27 r U G e)(hn:n<=60)(h:e="ring"->r.toNat<=n)(ts:List Told)(hl:ts.length=(bK U G (n+aB r e)).length)(s:Int):
 fyu [au r U G e,.int n,.lst (ts.map bo),.int s]=some (fX (bU r U G e ts n s)):=by
 have p16:=jZ ok.r0 ok.r4;have pn:=f7 (r:=r);have z4:=jH ok;exact qwv (Ej ok n hn h ts hl) (Fp ok s) (HJ _ _ (2^r.toNat) (by omega) (by rw[jK];omega) (by unfold dH;simp) (λst hst=>Es ts n _ _ st hst))
def c8(r:Int)(U:Zf)(G:Z9)(e:Str)(ts:List Told)(w:Zf):Int×List Int:=(fu r U G e ts w,w)
def qbl(ok:q27 r U G e)(hn:n<=60)(hr:e="ring"->r.toNat<=n)(hl:ts.length=(bK U G (n+aB r e)).length){R:Z9}(hR:R.length<=30)(hw:∀w∈R,ay w/\w.length=n)
 (out:∀x,ay x->x.length=n->x∉R->∀a∈R,cB (c8 r U G e ts a) (c8 r U G e ts x)=true):
 fyU [au r U G e,.int n,.lst (ts.map bo),.lst ((R.map (c8 r U G e ts)).map aR)]=some (.bl true):=by
 have z4:=jH ok;have p16:=jZ ok.r0 ok.r4;have pn:=f7 (r:=r);have r0:=ok.r0;have tn:((2:Int)^r.toNat).toNat=2^r.toNat:=by omega
 have lp:=qu ok (n+aB r e);have hby:=qfq (ts:=ts) ok (n+aB r e) (by omega) hl;generalize hP:(List.range (n+aB r e)).map (λk=>D.lst ((aF U G ts k).map bo))=PA at hby;have turn:∀(s:Int) (TB W:D) (b:Zf) (v11:Option D),s∈ck r e->TB=fX (bU r U G e ts n s)->ay b->b.length<=n->(∀w∈R,aZ r e w=s->¬b<+:w)->∃w11,vF [au r U G e,D.int n,D.lst (ts.map bo),D.lst ((R.map (c8 r U G e ts)).map aR),D.lst ((ck r e).map D.int),D.int (n+aB r e:Nat),D.lst PA,D.int s,TB,W,bP b,v11]=some (.nx [au r U G e,D.int n,D.lst (ts.map bo),D.lst ((R.map (c8 r U G e ts)).map aR),D.lst ((ck r e).map D.int),D.int (n+aB r e:Nat),D.lst PA,D.int s,TB,W,bP b,w11]):=λs TB W b v11 hs eT bb lb nb=>by
  have hf:=qow (ts:=ts) ok hn hs bb lb;rw[hP,<-eT]at hf;unfold wF at hf;cases q:cG r U G e ts n s b with
  | none=>
   rw[q]at hf;exact⟨_,(aV (vR hf)).trans (qps)⟩
  | some c=>
   rw[q]at hf;let⟨x1,x2,x3,x4⟩:=GM hs bb lb hr ok.en hl q;have nx:b++jD r U G e ts n s b∉R:=λh=>nb _ h x3 (List.prefix_append _ _);have hlt:=out _ x1 x2 nx;generalize b++jD r U G e ts n s b=x at hf x1 x2 x4 hlt;rcases List.eq_nil_or_concat R with z|⟨R0,a,z⟩
   .subst z;exact⟨_,(aV (vR hf)).trans (qv4 (by decide) (ub [] []) _ _)⟩
   .have ha:a∈R:=by rw[z];simp
    have hal:bB ((R.map (c8 r U G e ts)).map aR) (-1)=some (aR (c8 r U G e ts a)):=by rw[z,List.concat_eq_append,x5,x5];exact F5
    have E:bV (.lst ((R.map (c8 r U G e ts)).map aR)) (.lst [])=some false:=by
     cases hRR:R with
     |nil=>rw[hRR]at ha;cases ha
     |cons w R'=>exact qm6
    have hd:=EX (x:=c8 r U G e ts a) (y:=(c,x)) ((hw a ha).2.trans x2.symm);have ex:c8 r U G e ts x=(c,x):=by unfold c8;rw[x4]
    rw[<-ex,hlt a ha,ex]at hd;exact⟨_,(aV (vR hf)).trans (qxp (by decide) E hal hd _)⟩
 let⟨M',l1,v7,v8,v9,v10,v11,hρ⟩:=tT (fg:=ai 7) (fb:=De)
  (λM=>∃v7 v8 v9 v10 v11,M=[some (au r U G e),some (.int n),some (.lst (ts.map bo)),some (.lst ((R.map (c8 r U G e ts)).map aR)),some (.lst ((ck r e).map D.int)),some (.int (n+aB r e:Nat)),some (.lst PA),v7,v8,v9,v10,v11]) ((ck r e).map D.int)
  [some (au r U G e),some (.int n),some (.lst (ts.map bo)),some (.lst ((R.map (c8 r U G e ts)).map aR)),some (.lst ((ck r e).map D.int)),some (.int (n+aB r e:Nat)),some (.lst PA),none,none,none,none,none] ⟨none,none,none,none,none,rfl⟩ (by
   rintro x M hx ⟨v7,v8,v9,v10,v11,rfl⟩;obtain⟨s,hs,rfl⟩:=List.mem_map.mp hx;have ha:=qxg ok hn hr ts hl s;generalize eT:fX (bU r U G e ts n s)=TB at ha;have cf:=m9 (n:=2) (js:=[7,0]) (fg:=cY 2 (bE (ai 0) (bE (ai 1) c7))) (ft:=vC) (fe:=aa 1)
    (M:=[au r U G e,D.int n,D.lst (ts.map bo),D.lst ((R.map (c8 r U G e ts)).map aR),D.lst ((ck r e).map D.int),D.int (n+aB r e:Nat),D.lst PA,D.int s,TB,v9,v10,v11])
    (λd=>match d with|.tup [_,.lst v]=>decide (e≠"ring"∨aZ r e ((c6 v).getD [])=s)|_=>false) (λd=>match d with|.tup [_,w]=>w|d=>d) ((R.map (c8 r U G e ts)).map aR) (λx hx=>by
      rw[jj]at hx;obtain⟨w,hw1,rfl⟩:=List.mem_map.mp hx;let⟨w1,w2⟩:=hw w hw1;refine⟨[D.int (fu r U G e ts w),bP w,D.int s,au r U G e],rfl,?_,λ_=>rfl⟩;have ep:(match aR (c8 r U G e ts w)with|.tup [_,.lst v]=>decide (e≠"ring"∨aZ r e ((c6 v).getD [])=s)|_=>false)=decide (e≠"ring"∨aZ r e w=s):=by show decide (e≠"ring"∨aZ r e ((c6 (w.map D.int)).getD [])=s)=_;rw[gS];rfl
      refine Eq.trans ?_ (congrArg (λz=>some (z,_)) ep.symm);by_cases q:e="ring"
      .have h1:=AJ (.int (fu r U G e ts w)) (bP w) (.int r) (.tup (U.map D.int)) (.tup (G.map c0)) s _ e (by rw[q];exact gY) (ip ok w w1 (by rw[w2];exact hr));refine h1.trans (congrArg (λz=>some (z,_)) ?_);by_cases z:aZ r e w=s
       .rw[decide_eq_true (Or.inr z)];exact beq_iff_eq.mpr z
       .rw[decide_eq_false λh=>h.elim (λh=>h q) z];exact beq_eq_false_iff_ne.mpr z
      .have h0:bV (.str e) (.str "ring")=some false:=by
        rcases ok.en with g|g|g
        .rw[g];exact iL
        .rw[g];exact iM
        .exact absurd g q
       refine(AK h0 _).trans (congrArg (λz=>some (z,_)) ?_);simp[q])
   have ef:(((R.map (c8 r U G e ts)).map aR).filter (λd=>match d with|.tup [_,.lst v]=>decide (e≠"ring"∨aZ r e ((c6 v).getD [])=s)|_=>false)).map (λd=>match d with|.tup [_,w]=>w|d=>d)=(R.filter λw=>decide (e≠"ring"∨aZ r e w=s)).map bP:=by
    rw[jj,List.filter_map,jj];have e1:((λd=>match d with|D.tup [_,.lst v]=>decide (e≠"ring"∨aZ r e ((c6 v).getD [])=s)|_=>false)∘(aR∘c8 r U G e ts))=λw=>decide (e≠"ring"∨aZ r e w=s):=by funext w;show decide (e≠"ring"∨aZ r e ((c6 (w.map D.int)).getD [])=s)=_;rw[gS];rfl
    rw[e1];rfl
   rw[ef]at cf;let⟨bs,hv,hbs⟩:=qfp (R.filter λw=>decide (e≠"ring"∨aZ r e w=s)) n hn (ju (List.length_filter_le _ _) hR) (λw h=>hw w (List.mem_filter.mp h).1);let⟨M1,m1,w10,w11,hρ1⟩:=tT (fg:=ai 10) (fb:=vF)
    (λM=>∃w10 w11,M=[some (au r U G e),some (.int n),some (.lst (ts.map bo)),some (.lst ((R.map (c8 r U G e ts)).map aR)),some (.lst ((ck r e).map D.int)),some (.int (n+aB r e:Nat)),some (.lst PA),some (.int s),some TB,some (.lst ((R.filter λw=>decide (e≠"ring"∨aZ r e w=s)).map bP)),w10,w11]) (bs.map bP)
    [some (au r U G e),some (.int n),some (.lst (ts.map bo)),some (.lst ((R.map (c8 r U G e ts)).map aR)),some (.lst ((ck r e).map D.int)),some (.int (n+aB r e:Nat)),some (.lst PA),some (.int s),some TB,some (.lst ((R.filter λw=>decide (e≠"ring"∨aZ r e w=s)).map bP)),v10,v11] ⟨v10,v11,rfl⟩ (by rintro x M hx ⟨w10,w11,rfl⟩;obtain⟨b,hb,rfl⟩:=List.mem_map.mp hx;let⟨b1,b2,b3⟩:=hbs b hb;let⟨w11',h⟩:=turn s TB (.lst ((R.filter λw=>decide (e≠"ring"∨aZ r e w=s)).map bP)) b w11 hs eT.symm b1 b2 (λw hw hf=>b3 w (List.mem_filter.mpr ⟨hw,decide_eq_true (.inr hf)⟩));exact⟨_,_,rfl,.inl h,_,_,rfl⟩)
   subst hρ1;exact⟨_,_,rfl,.inl ((aV (AQ (by rw[j7];exact dg (by omega)) ha)).trans<|(aV (AO (by rw[j7,j7];exact dg (by omega)) cf)).trans<|AM hv m1),_,_,_,_,_,rfl⟩)
 subst hρ;have za:e≠"ring"->bV (.str e) (.str "ring")=some false:=λq=>by
  rcases ok.en with g|g|g
  .rw[g];exact iL
  .rw[g];exact iM
  .exact absurd g q
 have endd:e≠"ended"->bV (.str e) (.str "ended")=some false:=λq=>by
  rcases ok.en with g|g|g
  .rw[g];exact nL
  .exact absurd g q
  .rw[g];exact nK
 have h4:(bY (bh oG)
  (aw 4 (br (hZ e9 (af bQ (ae (.int 1)) (af bd (aa 0) (ae (.int 0)))))))
  aJ) [au r U G e,D.int n,D.lst (ts.map bo),D.lst ((R.map (c8 r U G e ts)).map aR),D.lst [.int 0],D.int n,none,none,none,none,none,none]=some (.nx [au r U G e,D.int n,D.lst (ts.map bo),D.lst ((R.map (c8 r U G e ts)).map aR),D.lst ((ck r e).map D.int),D.int n,none,none,none,none,none,none]):=by
  by_cases q:e="ring"
  .refine AI (by rw[q];exact gY) (vY ok) ?_;show(if(0:Int)<=2^r.toNat/\(2:Int)^r.toNat<=1000000 then some ((jA (2^r.toNat)).map D.int)else none)=_;rw[if_pos ⟨by omega,by omega⟩];unfold jA ck;rw[tn,if_pos q]
  .have e5:(ck r e).map D.int=[.int 0]:=by unfold ck;rw[if_neg q];rfl
   rw[e5];exact rK (za q)
 have h5:vg [au r U G e,D.int n,D.lst (ts.map bo),D.lst ((R.map (c8 r U G e ts)).map aR),D.lst ((ck r e).map D.int),D.int n,none,none,none,none,none,none]=some (.nx [au r U G e,D.int n,D.lst (ts.map bo),D.lst ((R.map (c8 r U G e ts)).map aR),D.lst ((ck r e).map D.int),D.int (n+aB r e:Nat),none,none,none,none,none,none]):=by
  by_cases q:e="ended"
  .have ez:aB r e=r.toNat:=by rw[q];exact if_pos rfl
   rw[ez,show((n+r.toNat:Nat):Int)=(n:Int)+r from by omega];exact AN (by rw[q];exact nM)
  .have ez:aB r e=0:=if_neg q;rw[ez];exact rK (endd q)
 exact gP rfl ⟨_,(aV (AT (by decide))).trans<|(aV (AS)).trans<|(aV h4).trans<|(aV h5).trans<|(aV (AR hby)).trans<|AL l1⟩
end
noncomputable def iX:Nat->List (List Int)
 |0=>[[]]
 |k+1=>aO (iX k)
theorem yC:∀k,(iX k).length=2^k
 |0=>rfl
 | k+1=>by show(aO (iX k)).length=_;rw[yE,yC k,Nat.pow_succ];omega
theorem Ia:∀k,(iX k).Nodup
 |0=>by show([[]]:Z9).Nodup;simp
 |k+1=>uu (Ia k)
theorem allB_mem:∀{k:Nat} {b:Zf},b∈iX k↔ay b/\b.length=k
 | 0,b=>by
  constructor
  .intro h;rw[List.mem_singleton.mp h];exact⟨λ_ h=>(nomatch h),rfl⟩
  .intro h;exact List.mem_singleton.mpr (List.eq_nil_of_length_eq_zero h.2)
 | k+1,b=>by
  show b∈aO (iX k)↔_;rw[mem_both];constructor
  .rintro⟨c,hc,z⟩;let⟨c1,c2⟩:=allB_mem.mp hc;rcases z with rfl|rfl
   .exact⟨gQ c1 λy hy=>.inl (List.mem_singleton.mp hy),by simp[c2]⟩
   .exact⟨gQ c1 λy hy=>.inr (List.mem_singleton.mp hy),by simp[c2]⟩
  .rintro⟨h1,h2⟩;have nz:b≠[]:=λz=>by rw[z]at h2;simp at h2
   have ex:=(List.dropLast_concat_getLast nz).symm;generalize b.dropLast=c at ex;generalize b.getLast nz=y at ex;subst ex;refine⟨c,allB_mem.mpr ⟨λz hz=>h1 z (List.mem_append_left _ hz),by simpa using h2⟩,?_⟩;rcases h1 y (by simp)with rfl|rfl
   .exact .inl rfl
   .exact .inr rfl
def qfx{L:List Int->Int}{most n:Nat}{R:Z9}(T:Top L most n R)(hm:R.length<=most):R.length=if 2^n<most then 2^n else most:=by
 have h1:R.length<=2^n:=by rw[<-yC n];exact qH (pj T.up) λx hx=>allB_mem.mpr (T.bits x hx)
 by_cases q:R.length=most
 .split<;>omega
 .have h2:2^n<=R.length:=by
   rw[<-yC n];refine qH (Ia n) λx hx=>?_;let⟨x1,x2⟩:=allB_mem.mp hx;by_cases z:x∈R
   .exact z
   .exact absurd (T.out x x1 x2 z).1 q
  split<;>omega
def qfw{L:List Int->Int}{most n:Nat}(T:Top L most n (db L most n)):Top L most n (eO L most (db L most n))/\(eO L most (db L most n)).length<=most:=by
 refine⟨?_,List.length_take_le _ _⟩;cases n with
 | zero=>
  show Top L most 0 (eO L most [[]]);have e:eO L most [[]]=([[]]:Z9).take most:=by unfold eO;rw[Gz (List.pairwise_singleton _ _)]
  rw[e];cases most with
  |zero=>exact⟨λb h=>(nomatch h),.nil,λb _ _ _=>⟨rfl,λa h=>(nomatch h)⟩⟩
  | succ m=>
   rw[show([[]]:Z9).take (m+1)=[[]]from by simp];exact GD
 |succ n=>rw[qj8 T.up (Hn n)];exact T
def l1(N c s t:D)(hc:fyB [N,.int 0]=some c)(hs:fyC [c,.int 0]=some (.lst [s])):Nx CB [N,none,none,none,none,none,none,none,none,none,t] 1 (D.lst [s]):=by walk_at "e"
def l2(N s s' S t:D)(five:5<=sizeLine)(h:fyE [s] [.int 4,.lst [.str "open",.str "ended",.str "open",.str "ended",.str "ring"]]=some (S,[s'])):Du [N,D.lst [s],none,none,none,none,none,none,none,none,t]=some (.nx [N,D.lst [s'],S,none,none,none,none,none,none,none,t]):=by walk_at "e"
def qyb{N A R TS RS t:D}{e:Str}{FT:dz}{FX:aD}(h:bV (.str e) (.str "ring")=some false):Nz (bY (dh oH FT) FX aJ) [N,A,D.tup [R,TS,RS,.str e],none,none,none,none,none,none,none,t]:=by walk_at "e"
def Ba{N A TS RS t:D}{r:Int}{e:Str}{FX:aD}(h:bV (.str e) (.str "ring")=some true)(hr:¬2<r):Nz (bY (dh oH Cz) FX aJ) [N,A,D.tup [.int r,TS,RS,.str e],none,none,none,none,none,none,none,t]:=by walk_at "e"
def A9{N A TS RS t:D}{r:Int}{e:Str}(four:4<=sizeLine)(h:bV (.str e) (.str "ring")=some true)(hr:2<r):Nx vE [N,A,D.tup [.int r,TS,RS,.str e],none,none,none,none,none,none,none,t] 2 (D.tup [.int r,TS,RS,.str "ended"]):=by walk_at "e"
def l4{N A S c s t:D}(hc:fyB [N,.int 1]=some c)(hs:fyC [c,.int 1]=some (.lst [s])):Nx C3 [N,A,S,none,none,none,none,none,none,none,t] 3 (D.lst [s]):=by walk_at "e"
def l5{N A S s s' x t:D}(h:fyD [s] [.int 13]=some (x,[s'])):Cn [N,A,S,D.lst [s],none,none,none,none,none,none,t]=some (.nx [N,A,S,D.lst [s'],x,none,none,none,none,none,t]):=by walk_at "e"
def qya{N A R TS RS B x t:D}{e:Str}{FX:aD}(h:bV (.str e) (.str "ring")=some false):Nz (bY oH FX aJ) [N,A,D.tup [R,TS,RS,.str e],B,x,none,none,none,none,none,t]:=by walk_at "e"
def A8{N A TS RS B t:D}{r x m:Int}{e:Str}(h:bV (.str e) (.str "ring")=some true)(hm:(if r>x then r else x)=m):Nx (bY oH
 (aw 4 (iH (λi j=>if j>i then j else i) u7))
 aJ) [N,A,D.tup [.int r,TS,RS,.str e],B,D.int x,none,none,none,none,none,t] 4 (D.int m):=by
 subst hm;walk_at "e"
def l7e{x:D}{s:Int}:(f8 fyD 1 (ak (ae (.int 2)) ag)) [x,D.lst [.int s]]=some (.int (da s 2),[some x,some (.lst [.int (eV s)])]):=by have h:=kX s 2 (by decide);walk_at "e"
def l7r(N A S B t:D)(n:Int):Ns (ak (aa 4) ag) [N,A,S,B,D.int n,none,none,none,none,none,t] [.int n]:=by walk_at "e"
def l7{N A S B B' n t:D}{X W T:List D}{FI:ba}{FE:aN}(lx:X.length<=sizeLine)(hI:Ns FI [N,A,S,B,n,none,none,none,none,none,t] X)
 (cm:cK 1 [3] (some (3,1)) (ai 0) (ae true) FE X [N,A,S,B,n,none,none,none,none,none,t]=some (W,[some N,some A,some S,some B',some n,none,none,none,none,none,some t])) (hh:fyK [N,S,.lst W]=some (.lst T)):
 (aw 5 (br (i7 fyK (ak (aa 0) (ak (aa 2) (ak (br (cI 1 [3] (some (3,1)) FI (ai 0) (ae true) FE)) ag)))))) [N,A,S,B,n,none,none,none,none,none,t]=some (.nx [N,A,S,B',n,D.lst T,none,none,none,none,t]):=by
 walk_at "e"
def l8{N A S n T s s' x t:D}(h:fyD [s] [.int 10]=some (x,[s'])):Co [N,A,S,D.lst [s],n,T,none,none,none,none,t]=some (.nx [N,A,S,D.lst [s'],n,T,x,none,none,none,t]):=by walk_at "e"
def A7{N A S B n m t:D}{T:List D}(lt:T.length<=sizeLine):Ns vo [N,A,S,B,n,D.lst T,m,none,none,none,t] [S,n,.lst T,m]:=by walk_at "e"
def l9{N A S B n T m y t:D}{FC:aN}(h:Ns FC [N,A,S,B,n,T,m,none,none,none,t] y):Nx (aw 7 FC) [N,A,S,B,n,T,m,none,none,none,t] 7 y:=by walk_at "e"
def l10{G:List D->Option D}{N A S B T t:D}{n m ρ c:Int}{F:List D}{FX:aD}(h:G [.lst F,S,.int n,T]=some (.bl true))(hs:bQ (.int 1) (.int n)=some (.int ρ))(hm:(if ρ<m then ρ else m)=c)(hc:((F.length:Nat):Int)=c):(bY (iG (dW (bh (aS G ve))) (bh (af im (aK cr (aa 7)) (iH (λi j=>if j<i then j else i) (ak (aa 6) (ak (af bQ (ae (.int 1)) (aa 4)) ag)))))) FX aJ) [N,A,S,B,D.int n,T,D.int m,D.lst F,none,none,t]=some (.nx [N,A,S,B,D.int n,T,D.int m,D.lst F,none,none,t]):=by generalize bQ=SH at hs ⊢;subst hm;walk_at "e"
def qyc{N A S B n T m t:D}{F F1 F2 Z:List D}(h1:gU (.lst F) none (some (-1))=some (.lst F1))(h2:gU (.lst F) (some 1) none=some (.lst F2))(hz:cU F1 F2=Z):Ns C8 [N,A,S,B,n,T,m,D.lst F,none,none,t] Z:=by walk_at "e"
def qyd{N A S B n T m F a b t:D}{DL:D->D->Option D}{FX:aD}(h:DL a b=some (.bl true)):Nz (bY (dW (bh (af DL (aa 8) (aa 9)))) FX aJ) [N,A,S,B,n,T,m,F,a,b,t]:=by walk_at "e"
def l11{N A S B n T m F t:D}{X:List D}{v8 v9:Option D}{FG:eL}{FI:ba}{FB:aD}(hI:Ns FI [N,A,S,B,n,T,m,F,none,none,t] X)(l:dI FG FB X [N,A,S,B,n,T,m,F,none,none,t]=some (.nx [N,A,S,B,n,T,m,F,v8,v9,t])):
 (bi FI FG FB) [N,A,S,B,n,T,m,F,none,none,t]=some (.nx [N,A,S,B,n,T,m,F,v8,v9,t]):=by
 walk_at "e"
def l12{G:List D->Option D}{N A S B n T m F y t:D}{v8 v9:Option D}(h:G [S,n,T,F]=some y):Nr (az (aS G Cw)) [N,A,S,B,n,T,m,F,v8,v9,t] y:=by walk_at "e"
def qmb(xs:List D):gU (.lst xs) none (some (-1))=some (.lst (xs.take (xs.length-1))):=by
 show some (D.lst (de _ _ _))=_;unfold de;have h:HT.sIx xs.length xs.length (some (-1))=xs.length-1:=by show(if(-1:Int)<0 then((-1:Int)+(xs.length:Int)).toNat else min (-1:Int).toNat xs.length)=_;rw[if_pos (by decide)];omega
 rw[h];show some (D.lst ((xs.drop 0).take (xs.length-1-0)))=_;rw[List.drop_zero,Nat.sub_zero]
def qrc(xs:List D):gU (.lst xs) (some 1) none=some (.lst (xs.drop 1)):=by show some (D.lst (de _ _ _))=_;rw[qjj (by decide)];rfl
section
variable{r:Int}{U:Zf}{G:Z9}{e:Str}{n:Nat}{ts:List Told}
def qvm(P0:Addr)(ok:q27 r U G e)(hn:n<=60)(hr:e="ring"->r.toNat<=n)(hl:ts.length=(bK U G (n+aB r e)).length)(most:Nat)(hm:most<=30)(N A B:D):∃M,
 (am (aw 7 (kQ 10 P0 d7 d5 (f_few P0) vo)) (am (bY (iG (dW (bh (aS fyP ve))) (bh (af im (aK cr (aa 7)) (iH (λi j=>if j<i then j else i) (ak (aa 6) (ak (af bQ (ae (.int 1)) (aa 4)) ag))))))
 (az (ae (.bl false)))
 aJ) DF)) [N,A,au r U G e,B,D.int n,D.lst (ts.map bo),D.int most,none,none,none,D.tab P0 d7 d5]=some (.rt (.bl true) M):=by
 have z4:=jH ok;have lp:=qu ok (n+aB r e);have hf:=qxj P0 ok hr hl hn most hm;let⟨T,lm⟩:=qfw (yA (L:=cJ r U G e ts n) (most:=most) (n:=n) (λb hb hl'=>Ij hr ok.en hl hb hl') n (jc _));generalize eO (cJ r U G e ts n) most (db (cJ r U G e ts n) most n)=R at hf T lm;have eR:R.map (qL (cJ r U G e ts n))=(R.map (c8 r U G e ts)).map aR:=by rw[jj];refine List.map_congr_left λw hw=>?_;let⟨w1,w2⟩:=T.bits w hw;show qL _ w=aR (c8 r U G e ts w);unfold qL c8;rw[zC hr ok.en hl w1 w2];rfl
 rw[eR]at hf;have eR2:R.map (λw=>D.tup [.int (fu r U G e ts w),.lst (w.map D.int)])=(R.map (c8 r U G e ts)).map aR:=by rw[jj];rfl
 have kq:∀w∈R,cq (cJ r U G e ts n) w=c8 r U G e ts w:=λw hw=>by let⟨w1,w2⟩:=T.bits w hw;unfold cq c8;rw[zC hr ok.en hl w1 w2]
 have hrw:=qs6 ok hr hn ts R T.bits;rw[eR2]at hrw;have hna:=qbl ok hn hr hl (R:=R) (by omega) T.bits (λx x1 x2 nx a ha=>by
  have h:=(T.out x x1 x2 nx).2 a ha;unfold i9 at h;rw[kq a ha]at h;have kx:cq (cJ r U G e ts n) x=c8 r U G e ts x:=by unfold cq c8;rw[zC hr ok.en hl x1 x2]
  rw[kx]at h;exact h)
 have hsh:bQ (.int 1) (.int n)=some (.int ((2^n:Nat):Int)):=by
  have r6:(n:Int)<=1000000:=by omega
  have r0:(0:Int)<=n:=by omega
  simp[bQ,kF,mh,r0,r6]
 have hcount:(((((R.map (c8 r U G e ts)).map aR).length:Nat)):Int)=if((2^n:Nat):Int)<(most:Int)then((2^n:Nat):Int)else(most:Int):=by
  rw[j7,j7,qfx T lm];by_cases q:2^n<most
  .rw[if_pos q,if_pos (by omega)]
  .rw[if_neg q,if_neg (by omega)]
 have hup:∀i a b,R[i]? =some a->R[i+1]? =some b->hJ (aR (c8 r U G e ts a)) (aR (c8 r U G e ts b))=some (.bl true):=λi a b h1 h2=>by have ha:=xk h1;have hb:=xk h2;let⟨l1,e1⟩:=List.getElem?_eq_some_iff.mp h1;let⟨l2,e2⟩:=List.getElem?_eq_some_iff.mp h2;have h:=List.pairwise_iff_getElem.mp T.up i (i+1) l1 l2 (by omega);rw[e1,e2]at h;unfold i9 at h;rw[kq a ha,kq b hb]at h;rw[EX ((T.bits a ha).2.trans (T.bits b hb).2.symm),h]
 generalize hF:(R.map (c8 r U G e ts)).map aR=F at hf hrw hna hcount;have Fat:∀i d,F[i]? =some d->∃a,R[i]? =some a/\d=aR (c8 r U G e ts a):=λi d h=>by
  rw[<-hF,je,je]at h;cases q:R[i]? with
  |none=>rw[q]at h;cases h
  | some a=>
   rw[q]at h;cases h;exact⟨a,q,rfl⟩
 let⟨M',f1,v8,v9,hρ⟩:=tT (fg:=cY 2 (bE (ai 8) (bE (ai 9) c7))) (fb:=CO)
  (λM=>∃v8 v9,M=[some N,some A,some (au r U G e),some B,some (.int n),some (.lst (ts.map bo)),some (.int most),some (.lst F),v8,v9,some (.tab P0 d7 d5)]) (cU (F.take (F.length-1)) (F.drop 1))
  [some N,some A,some (au r U G e),some B,some (.int n),some (.lst (ts.map bo)),some (.int most),some (.lst F),none,none,some (.tab P0 d7 d5)] ⟨none,none,rfl⟩ (by
   rintro x M hx ⟨v8,v9,rfl⟩;rw[qE]at hx;obtain⟨q,hq,rfl⟩:=List.mem_map.mp hx;let⟨i,hi⟩:=List.mem_iff_getElem?.mp hq;rw[List.getElem?_zip_eq_some]at hi;obtain⟨h1,h2⟩:=hi;have h1':F[i]? =some q.1:=by
    rw[List.getElem?_take]at h1;split at h1
    .exact h1
    .cases h1
   rw[List.getElem?_drop,Nat.add_comm]at h2;let⟨a,ga,ea⟩:=Fat i _ h1';let⟨b,gb,eb⟩:=Fat (i+1) _ h2;have hd:=hup i a b ga gb;rw[<-ea,<-eb]at hd;exact⟨_,_,rfl,.inl (qyd hd),_,_,rfl⟩)
 subst hρ;exact⟨_,(aV (l9 (yF (A7 (by rw[j7];exact dg (by omega))) rfl hf))).trans<|(aV (l10 hrw hsh rfl hcount)).trans<|
  (aV (l11 (qyc (qmb F) (qrc F) rfl) f1)).trans<|l12 hna⟩
end
def jQ{P0:Addr}(ns:Zf)(h:ns.length<=63):f_law P0 [.lst (ns.map D.int)]=some (.bl true):=by
 let⟨c,hc⟩:=yQ ns 0 (by decide);have hs:=GF c 0 (by decide);generalize (c % 10^60*7368787+1000003*0+17) % 2305843009213693951=s at hs;let⟨r,U,G,e,s',hsch,ok⟩:=qbm s;let⟨c1,hc1⟩:=yQ ns 1 (by decide);have hs1:=GF c1 1 (by decide);generalize (c1 % 10^60*7368787+1000003*1+17) % 2305843009213693951=s1 at hs1;have d0:=ml s1 (m:=13) (by decide);have d13:=mj s1 (m:=13) (by decide);have hn13:=kX s1 13 (by decide);obtain⟨e',ok',h3⟩:∃e',q27 r U G e'/\vE [D.lst (ns.map D.int),D.lst [.int s'],au r U G e,none,none,none,none,none,none,none,D.tab P0 d7 d5]=some (.nx [D.lst (ns.map D.int),D.lst [.int s'],au r U G e',none,none,none,none,none,none,none,D.tab P0 d7 d5]):=by
  by_cases q:e="ring"
  .by_cases z:2<r
   .exact⟨"ended",{ok with en:=.inr (.inl rfl)},A9 (by decide) (by rw[q];exact gY) z⟩
   .exact⟨e,ok,Ba (by rw[q];exact gY) z⟩
  .refine⟨e,ok,qyb ?_⟩;rcases ok.en with g|g|g
   .rw[g];exact iL
   .rw[g];exact iM
   .exact absurd g q
 obtain⟨n,n60,hr,h6⟩:∃n:Nat,n<=60/\(e'="ring"->r.toNat<=n)/\(bY oH
  (aw 4 (iH (λi j=>if j>i then j else i) u7))
  aJ) [D.lst (ns.map D.int),D.lst [.int s'],au r U G e',D.lst [.int (eV s1)],D.int (da s1 13),none,none,none,none,none,D.tab P0 d7 d5]=some (.nx [D.lst (ns.map D.int),D.lst [.int s'],au r U G e',D.lst [.int (eV s1)],D.int n,none,none,none,none,none,D.tab P0 d7 d5]):=by
  have r0:=ok'.r0;have r4:=ok'.r4;by_cases q:e'="ring"
  .obtain⟨m,hm⟩:∃m,(if r>da s1 13 then r else da s1 13)=m:=⟨_,rfl⟩;have hm':0<=m/\m<=60/\r<=m:=by split at hm<;>omega
   refine⟨m.toNat,by omega,λ_=>by omega,?_⟩;rw[Int.toNat_of_nonneg (by omega)];exact A8 (by rw[q];exact gY) hm
  .refine⟨(da s1 13).toNat,by omega,λz=>absurd z q,?_⟩;rw[Int.toNat_of_nonneg (by omega)];refine qya ?_;rcases ok'.en with g|g|g
   .rw[g];exact iL
   .rw[g];exact iM
   .exact absurd g q
 let⟨ys,s2,cm,c2,c3⟩:=ua (n:=1) (p:=3) (q:=1) (js:=[3]) (fg:=ai 0) (fe:=f8 fyD 1 (ak (ae (.int 2)) ag))
  (λs:Int=>[some (.lst (ns.map D.int)),some (.lst [.int s']),some (au r U G e'),some (.lst [.int s]),some (.int n),none,none,none,none,none,some (.tab P0 d7 d5)]) (λy=>∃t:Int,y=.int t/\(t=0∨t=1)) (cR 0 n) (λx _ s=>by have d0:=ml s (m:=2) (by decide);have d2:=mj s (m:=2) (by decide);exact⟨[x,D.lst [.int s]],[some x,some (.lst [.int (eV s)])],.int (da s 2),eV s,rfl,l7e,rfl,_,rfl,by omega⟩) (eV s1)
 obtain⟨w,rfl,hw⟩:=tW c3;rw[j7,gq]at c2;let⟨ts,hh,lts⟩:=qov ok' ns w hw (by rw[c2];exact hr) (by omega);rw[c2]at lts;have m0:=ml s2 (m:=10) (by decide);have m10:=mj s2 (m:=10) (by decide);have hn10:=kX s2 10 (by decide);obtain⟨most,em⟩:∃most:Nat,da s2 10=(most:Int):=⟨(da s2 10).toNat,by omega⟩;rw[em]at hn10;have hI:=mw (l7r (.lst (ns.map D.int)) (.lst [.int s']) (au r U G e') (.lst [.int (eV s1)]) (.tab P0 d7 d5) (n:Int)) (by omega) (by omega);rw[jy]at hI;let⟨M,hb⟩:=qvm P0 ok' n60 hr lts most (by omega) (.lst (ns.map D.int)) (.lst [.int s']) (.lst [.int (eV s2)]);exact Hk rfl (by decide) ⟨M,(aV (l1 _ _ _ _ hc hs)).trans<|(aV (l2 _ _ _ _ _ (by decide) hsch)).trans<|(aV h3).trans<|(aV (l4 hc1 hs1)).trans<|(aV (l5 hn13)).trans<|(aV h6).trans<|
  (aV (l7 (by rw[gq];exact dg (by omega)) hI cm hh)).trans<|(aV (l8 hn10)).trans hb⟩
def qvl{P:Program}{w:World}{K mg a base}(T:Txt K mg a):FnOk P w K mg base bJ 9 a.f_law a.fd_law ["_law_script"] (tN K a.tyA d7 d5 63):=qq8 (quy T) jQ
local macro_rules|`(tactic|walk_at "k")=>`(tactic|as_aux_lemma=>kernel_rfl)
local macro_rules|`(tactic|walk_at "f")=>`(tactic|exact qw3 (oc:=.type "function") (od:=none) (osl:=#[]) (by walk_at "k") (by walk_at "k") (by walk_at "k"))
local macro_rules|`(tactic|walk_at "g")=>`(tactic|exact qqg (oc:=.type "function") (od:=none) (osl:=#[]) (by walk_at "k") (by walk_at "k") (by walk_at "k"))
local macro_rules|`(tactic|walk_at "b")=>`(tactic|first|exact(.all λus hl=>match us,hl with|[_],_=>rfl)|exact(.all λus hl=>match us,hl with|[_,_],_=>rfl)|exact(.all λus hl=>match us,hl with|[_,_,_],_=>rfl)|exact(.all λus hl=>match us,hl with|[_,_,_,_],_=>rfl)|exact(.all λus hl=>match us,hl with|[_,_,_,_,_],_=>rfl)|exact(.all λus hl=>match us,hl with|[_,_,_,_,_,_],_=>rfl))
local macro_rules|`(tactic|walk_at "kb")=>`(tactic|first|exact q74|exact q2i (by decide+kernel) (by walk_at "k") (by decide+kernel))
abbrev nf(x:Str)(s:Stmt)(pm:Value)(c:Addr):FuncData:=W.fnOf x x (il s) (fH s) (aU s) .none (.none) (.none) pm none (.ref c) (.none)
noncomputable def ad:Ad:=⟨169,195,228,58,65,72,77,82,89,96,103,110,117,124,152,166,192,211,225,237,244,249,254,261,266,271,276,283,288,293,301,308,315,320,327,332,339,345,352,359,366,371,378,383,390,397,404,411,418,423,430,435,442,449,454,461,466,471,476,334,338,nf "rooms_at" nJ H22.zm1 57,nf "rooms" nI H22.zm1 64,nf "parity" nH H22.zm1 71,nf "step" nG H22.zm1 76,nf "sent_at" lM H22.zm1 81,nf "is_ring" nC H22.zm2 88,nf "check_size" nB H22.zm2 95,nf "bits_behind" nA H22.zm2 102,nf "first_rooms" ny H22.zm2 109,nf "steps_of" nu H22.zm2 116,nf "places_of" wX H22.zm2 123,(W.fnOf "__init__" "Clear.__init__" (il pV) (fH pV) (aU pV) .none (.none) (.none) H22.zm3 none (.ref 151) (.none)),(W.fnOf "cost" "Clear.cost" (il pW) (fH pW) (aU pW) .none (.none) (.none) H22.zm3 none (.ref 165) (.none)),(W.fnOf "cost" "Gap.cost" (il pX) (fH pX) (aU pX) .none (.none) (.none) H22.zm3 none (.ref 191) (.none)),(W.fnOf "__init__" "Soft.__init__" (il pY) (fH pY) (aU pY) .none (.none) (.none) H22.zm3 none (.ref 210) (.none)),(W.fnOf "cost" "Soft.cost" (il pZ) (fH pZ) (aU pZ) .none (.none) (.none) H22.zm3 none (.ref 224) (.none)),nf "sign_of" wY H22.zm3 236,nf "check_heard" wZ H22.zm4 243,nf "signs_cost" sZ H22.zm4 248,nf "signs_by_step" w6 H22.zm4 253,nf "move" xz H22.zm4 260,nf "moves_from" xA H22.zm4 265,nf "moves" xB H22.zm4 270,nf "end_costs" xC H22.zm4 275,nf "cost_by" xD H22.zm4 282,nf "least_by" s9 H22.zm4 287,nf "ahead_by" xE H22.zm4 292,(W.fnOf "ahead" "ahead" (il p0) (fH p0) (aU p0) (.ref 294) (.none) (.none) H22.zm4 none (.ref 300) (.none)),nf "ahead_by_start" xF H22.zm4 307,nf "cost_of_track" xG H22.zm5 314,nf "beginning" tj H22.zm5 319,nf "track_on" xH H22.zm5 326,nf "beginning_on" xI H22.zm5 331,nf "first_ones" xJ H22.zm5 338,(W.fnOf "few" "few" (il pU) (fH pU) (aU pU) (.ref 340) (.none) (.none) H22.zm5 none (.ref 344) (.none)),nf "_law_cell_at" xK H22.zm0 351,nf "_law_state" xM H22.zm0 358,nf "_law_next" xN H22.zm0 365,nf "_law_scheme" xO H22.zm0 370,nf "_law_odd" xP H22.zm0 377,nf "_law_step" tm H22.zm0 382,nf "_law_start" xQ H22.zm0 389,nf "_law_sent" xR H22.zm0 396,nf "_law_sign" xS H22.zm0 403,nf "_law_heard" xT H22.zm0 410,nf "_law_price" xU H22.zm0 417,nf "_law_total" tu H22.zm0 422,nf "_law_whole" xV H22.zm0 429,nf "_law_is_word" xW H22.zm0 434,nf "_law_rows" xX H22.zm0 441,nf "_law_by_steps" xY H22.zm0 448,nf "_law_gone" tw H22.zm0 453,nf "_law_first" xZ H22.zm0 460,nf "_law_leaving" tx H22.zm0 465,nf "_law_none_ahead" tz H22.zm0 470,nf "law" wW H22.zm0 475⟩
def txt{P:Params}{h:Heap}{mg:Za}{fa:Addr}(X:(H22.KH P).In h)(G:h.Ns mainGlobals mg)(hfa:mg "law"=some (.ref fa)):∃a:Ad,Txt (H22.KH P) mg a/\a.f_law=fa/\a.tyA=334/\∀(s:Shared) (v:Value),BindsTo s a.fd_law ⟨[v],[]⟩ [("_law_script",v)]:=by have e0:476=fa:=Value.ref.inj (jg ((W.mg_of X G (show W.nsIn (H22.KH P) mainGlobals "law"=some (some (.ref 476))from by walk_at "k")).symm.trans hfa));subst e0;have g {x:Str} {v:Value} (h:W.nsIn (H22.KH P) mainGlobals x=some (some v)):mg x=some v:=W.mg_of X G h;refine⟨ad,?_,rfl,rfl,λs v=>.of_eq rfl⟩;constructor<;>first|exact⟨by walk_at "f",by walk_at "b",g (by walk_at "k")⟩|exact W.mg_none_of X G (by walk_at "k")|exact g (by walk_at "k")|walk_at "f"|walk_at "g"|walk_at "b"|exact(ET (ps:=oF) rfl (show(H22.KH P).lookup 294=some ⟨(.type "tuple"),none,.seq #[.int 0 543] 0,#[]⟩from by walk_at "k") λus hl=>match us,hl with|[_,_,_,_],_=>⟨_,rfl,rfl⟩)|exact(ET (ps:=sh) rfl (show(H22.KH P).lookup 340=some ⟨(.type "tuple"),none,.seq #[.int 2 606] 0,#[]⟩from by walk_at "k") λus hl=>match us,hl with|[_,_,_,_],_=>⟨_,rfl,rfl⟩)|exact show W.findIn (H22.KH P) (.ref 169) "bit"=some none from by walk_at "k"|exact show W.findIn (H22.KH P) (.ref 228) "one"=some none from by walk_at "k"|exact show W.findIn (H22.KH P) (.ref 228) "zero"=some none from by walk_at "k"|rfl|exact(show∀h:Heap,(H22.KH P).In h->W.CodeHd h 338 334 from HA (o:=H22.cO "first_ones" 598 "first_ones" 599 600 146 2 3 333 181 334 335 336 337 603 146 604) (by walk_at "k") rfl rfl rfl rfl rfl rfl rfl rfl (by decide))|exact(show∀h:Heap,(H22.KH P).In h->h.BuiltinsAt mg 334 from q9y (bm:=4) (g (by walk_at "k")) (by walk_at "k") (by decide) (by decide) (by decide))|exact q9j (by walk_at "kb") (by walk_at "kb") (by walk_at "kb") (by walk_at "kb") (by walk_at "kb") (by walk_at "kb") (by walk_at "kb")|(refine⟨?_,?_,?_⟩<;>walk_at "k")|(refine⟨?_,?_,?_,?_⟩<;>walk_at "k")|walk_at "k"
def two_of{P:Params}{h:Heap}(Y:(H22.KHP P).In h):(H22.KH P).In h/\h.get? 334=some {cls:=.none,data:=.fields #[]}:=⟨λa o e=>Y a o (by show(H22.KH P++_).lookup a=_;rw[List.lookup_append,e];rfl),Y _ _ (show(H22.KHP P).lookup 334=some ⟨.none,none,.fields #[],#[]⟩from by walk_at "k")⟩
def no_table:∀P,(H22.KH P).lookup 334=none:=λP=>by walk_at "k"
def head_at:∀P (h:Heap),(H22.KH P).In h->W.CodeHd h 338 334:=λP=>HA (o:=H22.cO "first_ones" 598 "first_ones" 599 600 146 2 3 333 181 334 335 336 337 603 146 604) (by walk_at "k") rfl rfl rfl rfl rfl rfl rfl rfl (by decide)
def walk{l:W.OpenLaw}{q:Program}{loose:Zj}{XP:(Str->Option Value)->Heap->Prop}{YP:World->Heap->Prop}{d:DefRec}{K:Params->W.Frag}{P0 c:Addr}(hn:l.most=some 63)(hdf:d.params.defaults=[])(hd:d.name="law")
 (hY:∀(w:World) (h:Heap),YP w h->(K w.params).In h/\h.get? P0=some {cls:=.none,data:=.fields #[]}) (hKP:∀P,(K P).lookup P0=none) (hcd:∀P (h:Heap),(K P).In h->W.CodeHd h c P0)
 (F:∀(w:World) (mg:Za) (fa:Addr) (h:Heap),(K w.params).In h->h.Ns mainGlobals mg->mg "law"=some (.ref fa)->∃a:Ad,Txt (K w.params) mg a/\a.f_law=fa/\a.tyA=P0/\∀(s:Shared) (v:Value),BindsTo s a.fd_law ⟨[v],[]⟩ [("_law_script",v)]):
 W.WalkO q loose XP YP l.row.toRowW d [] (λf vs=>PySem.call f vs):=
 L2.walk_ofL (n:=63) (k:=9) (x:="_law_script") (lp:=d7) (qn:=d5) hn (by decide) hdf ⟨rfl,by decide,by decide⟩ hY hKP hcd
  (λw mg fa h KX G hm=>by rw[hd]at hm;let⟨a,T,e,e2,b⟩:=F w mg fa h KX G hm;subst e e2;exact⟨a.fd_law,b,λbase _ _=>qvl T⟩)
end K22
open PySem PySem.W PyProof.Rows
set_option maxRecDepth 100000 in
set_option maxHeartbeats 0 in
theorem PySem.Challenge.cw_trellisway_k22_whole_few_leave_none_holds : PySem.Challenge.rw_trellisway_k22_whole_few_leave_none.Holds := by
 w_on;o_law
 refine holds_open (r:=PySem.Challenge.rw_trellisway_k22_whole_few_leave_none.row) (q:=H22.V) (loose:=["ahead","few"]) (Xt:=(λs=>xlAt H22.V [] s&&recOk (RowW.records (OpenRow.toRowW PySem.Challenge.rw_trellisway_k22_whole_few_leave_none.row)) s)) (XP:=XL H22.V []) (Yf:=Hook.obs (kHook H22.KHP H22.KA H22.ka_eq)) (Ya:=Hook.val (kHook H22.KHP H22.KA H22.ka_eq)) (YP:=Hook.says (kHook H22.KHP H22.KA H22.ka_eq)) (N:=6640) H22.leftR (Hook.of (kHook H22.KHP H22.KA H22.ka_eq)) (Hook.keeps (kHook H22.KHP H22.KA H22.ka_eq)) (λs e=>xl_of s (Bool.and_eq_true_iff.mp e).1) XL.keeps (by rfl) (by rfl) (by rfl) (λs e=>recFacts_of (Bool.and_eq_true_iff.mp e).2) (by rfl) (by first|assumption|decide+kernel) (by decide+kernel) ⟨rfl,rfl,rfl,rfl,rfl,by decide+kernel⟩ ?hw ?hc
 case hw=>w_witness2
 case hc=>exact K22.walk (l:=PySem.Challenge.rw_trellisway_k22_whole_few_leave_none) rfl rfl rfl (λw h Y=>K22.two_of (PySem.W.kIn_of Y)) K22.no_table K22.head_at λw mg fa h KX G hmg=>K22.txt KX G hmg
