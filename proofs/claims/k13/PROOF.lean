import PyProof.Rows.All
import Wide.All
import OpenK.AllK
import Wide.FinOn
import Lean
import KE.KTryMore
import KE.KRevIter
import KE.KMinKey
import KE.KIntText
import PyProof.EqAt
import PyProof.EqKinds
import PyProof.TupleCall
import PySem.Challenge.RW_trellisway_k13_whole_nearest_walked
set_option Elab.async false
set_option linter.all false
set_option maxRecDepth 100000
set_option maxHeartbeats 4000000
abbrev FrG:=PySem.W.Frag
abbrev zlw:PySem.Str:="law_trellisway_k13_whole_nearest_walked"
namespace H13
open PySem PySem.W
def q76(tb:String->Option Builtin)(p:Program)(w:World)(n₀:Nat)(ann:Option Value):Nat->SharedT->Thread->Option SharedT
 |0,_,_=>none
 | n+1,s,t=>match through t with
  |true=>some s
  | false=>match stepOk n₀ ann t with
   |false=>none
   | true=>match stepT (denote tb) p w s t with
    |some (s',t')=>q76 tb p w n₀ ann n s' t'
    |none=>none
theorem q88{tb:String->Option Builtin}{p:Program}{w:World}{n₀:Nat}{ann:Option Value}:∀{n:Nat} {s s':SharedT} {t:Thread},q76 tb p w n₀ ann n s t=some s'->topRun tb p w n₀ ann n s.abs t=some s'.abs
 |0,_,_,_,h=>by cases h
 | n+1,s,s',t,h=>by
  unfold q76 at h;unfold topRun;split at h
  ·rename_i q;rw[q];cases h;rfl
  ·rename_i q;rw[q];split at h
   ·cases h
   ·rename_i q2;dsimp only;rw[q2];split at h
    ·rename_i s1 t1 q3;dsimp only;rw[stepT_spec q3];exact q88 h
    ·cases h
def qly:List Obj->Nat->BT->BT
 |[],_,t=>t
 |o::r,n,t=>qly r (n+1) (t.ins n o)
noncomputable def qoi(P:Params)(os:OsState):SharedT:=⟨qly (boot_heap P).objs.toList 0 .nil,(boot_heap P).objs.size,(boot_heap P).life,Array.mk [],boot_drawn,boot_toks,os⟩
theorem qhl(P:Params)(os:OsState):(qoi P os).abs=⟨boot_heap P,Array.mk [],boot_drawn,boot_toks,os⟩:=by kernel_rfl
theorem qgp{p q:Program}{loose:List Str}{Xt:Shared->Bool}{α:Type}{Yf:Shared->α}{Ya:World->α}{N m₀:Nat}{ann:Option Value}(e:opening p=plainProg p.main.scope.names)(hN:Nat.ble 600 N=true)(f:∀s,fenceModules? p s=some s)
 (size:∀P:Params,((boot_heap P).isNs mainGlobals,(boot_heap P).objs.size,(boot_heap P).nsMap mainGlobals "__annotations__")=(true,m₀,ann))
 (run:∀(w:World) (os:OsState),(q76 treeTable p w m₀ ann N (qoi w.params os) (topStub p)).map (λs=>(staticsOk (importedModules p.main.body) (boot_heap w.params) s.abs.heap&&namesBound p s.abs.heap&&gensDone s.abs&&laidKept (boot_heap w.params) s.abs.heap,
   openSeen q loose (importedModules p.main.body) Xt true s.abs,Yf s.abs))=some (true,openGood q loose,Ya w)):LeftO p q loose Xt Yf Ya N:=λw=>by
 obtain⟨⟨h,gs,d,k,os⟩,e,e'⟩:=Option.map_eq_some_iff.mp (boot_open e hN f w);obtain⟨rfl,rfl,rfl,rfl⟩:h=boot_heap w.params/\gs=Array.mk []/\d=boot_drawn/\k=boot_toks:=by simpa using e'
 obtain⟨z1,z2,z3⟩:_/\_/\_:=by simpa only[Prod.mk.injEq]using size w.params
 obtain⟨s,r,l⟩:=Option.map_eq_some_iff.mp (run w os);obtain⟨l1,l2,l3⟩:_/\_/\_:=by simpa only[Prod.mk.injEq]using l
 have r:=q88 r;rw[qhl]at r;have t:topFrom treeTable p w N ⟨boot_heap w.params,Array.mk [],boot_drawn,boot_toks,os⟩=some s.abs:=by unfold topFrom;dsimp only;rw[z1,z2,z3,r];show(match staticsOk (importedModules p.main.body) (boot_heap w.params) s.abs.heap&&namesBound p s.abs.heap&&gensDone s.abs&&laidKept (boot_heap w.params) s.abs.heap with|true=>_|false=>_)=_;rw[l1]
 unfold openEnds;rw[e];show(topFrom treeTable p w N _).map _=_;rw[t];exact congrArg some (Prod.ext l2 l3)
def tp(i:Nat):Stmt:=PySem.Challenge.pw_trellisway_k13_whole_nearest_walked.main.body.getD i (.Pass ⟨0,0,0,0⟩)
def ic(s:Stmt)(j:Nat):Stmt:=match s with
 |.ClassDef _ _ _ b _ _ _ _ _ _ _=>b.getD j (.Pass ⟨0,0,0,0⟩)
 |_=>.Pass ⟨0,0,0,0⟩
def dA(s:Stmt):Arguments:=match s with
 |.FunctionDef _ a _ _ _ _ _ _ _ _=>a
 |_=>{posonlyargs:=[],args:=[],vararg:=none,kwonlyargs:=[],kw_defaults:=[],kwarg:=none,defaults:=[]}
def dB(s:Stmt):List Stmt:=match s with
 |.FunctionDef _ _ b _ _ _ _ _ _ _=>b
 |_=>[]
def dS(s:Stmt):Scope:=match s with
 |.FunctionDef _ _ _ _ _ _ sc _ _ _=>sc
 |_=>{kind:=.function,names:=[],isGenerator:=false,isCoroutine:=false}
def V:Program:={PySem.Challenge.pw_trellisway_k13_whole_nearest_walked with main:={PySem.Challenge.pw_trellisway_k13_whole_nearest_walked.main with body:=[tp 1,tp 2,tp 3,tp 5,tp 6,tp 7,tp 8,tp 9,tp 11,tp 12,tp 13,tp 14,tp 15,tp 16,tp 18,tp 19,tp 20,tp 21,tp 22,tp 24,tp 25,tp 26,tp 27,tp 28,tp 29,tp 30,tp 31,tp 32,tp 33,tp 35,tp 37,tp 38,tp 40,tp 41,tp 42,tp 43,tp 44,tp 45,tp 46,tp 47,tp 48,tp 49,tp 50,tp 51,tp 52,tp 53,tp 54,tp 55,tp 56,tp 57,tp 58,tp 59,tp 60,tp 61]}}
def eS(P:Params)(x:Str)(t:Nat)(v:Value):DictEntry:=⟨PyData.keyHash P x,.str x t,v⟩
def fO(x:Str)(s:Stmt)(pm:Value)(cd:Nat):Obj:=⟨.type "function",none,.func (W.fnOf x x (dA s) (dB s) (dS s) .none .none .none pm none (.ref cd) .none),#[]⟩
def cO(x:Str)(t:Nat)(y:Str)(u a2 a3 a4 a7 a8 a10 a11 a13 a14 a15 a16 a17 a18:Nat):Obj:=⟨.type "code",none,.fields #[.str x t,.str y u,.str "/claim/cut.py" a2,.int a3 0,.int a4 0,.int 0 0,.int 0 0,.int a7 0,.ref a8,.bool true,.int a10 0,.ref a11,.none,.ref a13,.ref a14,.ref a15,.int a16 0,.int a17 0,.str "/claim/cut.py" a18],#[]⟩
def KH(P:Params):W.Frag:=[(3,⟨.type "dict",none,.dict #[eS P "__name__" 165 (.str zlw 587),eS P "__doc__" 166 (.none),eS P "__package__" 167 (.none),eS P "__loader__" 168 (.builtin "__main__.__loader__#opaque"),eS P "__spec__" 169 (.none),eS P "__annotations__" 170 (.ref 6),eS P "__builtins__" 171 (.ref 4),eS P "__file__" 173 (.str "/claim/cut.py" 172),eS P "__cached__" 174 (.none),eS P "WayError" 206 (.ref 24),eS P "NoWord" 222 (.ref 37),eS P "NoSigns" 238 (.ref 49),eS P "rooms_at" 247 (.ref 58),eS P "rooms" 254 (.ref 65),eS P "parity" 263 (.ref 72),eS P "step" 269 (.ref 77),eS P "sent_at" 275 (.ref 82),eS P "is_ring" 284 (.ref 89),eS P "check_size" 292 (.ref 96),eS P "bits_behind" 299 (.ref 103),eS P "first_rooms" 306 (.ref 110),eS P "steps_of" 314 (.ref 117),eS P "places_of" 325 (.ref 124),eS P "Sign" 347 (.ref 134),eS P "Clear" 387 (.ref 169),eS P "Gap" 418 (.ref 195),eS P "Soft" 460 (.ref 228),eS P "sign_of" 467 (.ref 237),eS P "check_heard" 479 (.ref 244),eS P "signs_cost" 485 (.ref 249),eS P "signs_by_step" 491 (.ref 254),eS P "move" 503 (.ref 261),eS P "moves_from" 509 (.ref 266),eS P "moves" 515 (.ref 271),eS P "end_costs" 521 (.ref 276),eS P "cost_by" 530 (.ref 283),eS P "least_by" 536 (.ref 288),eS P "ahead_by" 542 (.ref 293),eS P "ahead" 553 (.ref 301),eS P "ahead_by_start" 563 (.ref 308),eS P "nearest_from" 580 (.ref 315),eS P "nearest" 586 (.ref 320),eS P "_law_cell_at" 596 (.ref 327),eS P "_law_mixed" 607 (.ref 334),eS P "_law_scheme" 613 (.ref 339),eS P "_law_step" 619 (.ref 344),eS P "_law_sent_at" 625 (.ref 349),eS P "_law_steps" 633 (.ref 356),eS P "_law_places" 639 (.ref 361),eS P "_law_start" 649 (.ref 368),eS P "_law_sent" 661 (.ref 375),eS P "_law_price" 669 (.ref 382),eS P "_law_sign" 679 (.ref 389),eS P "_law_heard" 685 (.ref 394),eS P "_law_at_steps" 691 (.ref 399),eS P "_law_way" 697 (.ref 404),eS P "_law_last" 708 (.ref 411),eS P "_law_of_form" 719 (.ref 418),eS P "_law_walked" 725 (.ref 423),eS P "_law_first" 741 (.ref 430),eS P "_law_starts" 748 (.ref 437),eS P "_law_is_word" 754 (.ref 442),eS P "_law_near" 760 (.ref 447),eS P "law" 766 (.ref 452)] 64,#[]⟩),
 (23,⟨.type "dict",none,.dict #[eS P "__module__" 196 (.str "trellisway.errors" 187),eS P "__firstlineno__" 200 (.int 2 199),eS P "__static_attributes__" 201 (.ref 22),eS P "__weakref__" 203 (.ref 25),eS P "__doc__" 204 (.none)] 3,#[]⟩),
 (24,⟨.type "type",none,.cls ⟨"WayError",[.type "ValueError"],[.ref 24,.type "ValueError",.type "Exception",.type "BaseException",.type "object"],23,"WayError",true,[],[.ref 37,.ref 49],false,none,false⟩,#[some (.ref 15),none,some (.str "WayError" 189),some (.str "WayError" 197),some (.builtin "ValueError.__new__"),some (.bool true)]⟩),
 (36,⟨.type "dict",none,.dict #[eS P "__module__" 214 (.str "trellisway.errors" 187),eS P "__firstlineno__" 218 (.int 4 217),eS P "__static_attributes__" 219 (.ref 35),eS P "__doc__" 220 (.none)] 2,#[]⟩),
 (37,⟨.type "type",none,.cls ⟨"NoWord",[.ref 24],[.ref 37,.ref 24,.type "ValueError",.type "Exception",.type "BaseException",.type "object"],36,"NoWord",true,[],[],false,none,false⟩,#[some (.ref 28),none,some (.str "NoWord" 207),some (.str "NoWord" 215),some (.builtin "ValueError.__new__"),some (.bool true)]⟩),
 (48,⟨.type "dict",none,.dict #[eS P "__module__" 230 (.str "trellisway.errors" 187),eS P "__firstlineno__" 234 (.int 6 233),eS P "__static_attributes__" 235 (.ref 47),eS P "__doc__" 236 (.none)] 2,#[]⟩),
 (49,⟨.type "type",none,.cls ⟨"NoSigns",[.ref 24],[.ref 49,.ref 24,.type "ValueError",.type "Exception",.type "BaseException",.type "object"],48,"NoSigns",true,[],[],false,none,false⟩,#[some (.ref 40),none,some (.str "NoSigns" 223),some (.str "NoSigns" 231),some (.builtin "ValueError.__new__"),some (.bool true)]⟩),
 (57,cO "rooms_at" 241 "rooms_at" 242 243 9 1 3 52 181 53 54 55 56 245 9 246),
 (58,fO "rooms_at" (tp 5) (.str "trellisway.schemes" 239) 57),
 (64,cO "rooms" 248 "rooms" 249 250 11 1 3 59 181 60 61 62 63 252 11 253),
 (65,fO "rooms" (tp 6) (.str "trellisway.schemes" 239) 64),
 (71,cO "parity" 255 "parity" 256 257 13 1 3 66 181 67 68 69 70 261 13 262),
 (72,fO "parity" (tp 7) (.str "trellisway.schemes" 239) 71),
 (76,⟨.type "code",none,.fields #[.str "step" 264,.str "step" 265,.str "/claim/cut.py" 266,.int 20 0,.int 3 0,.int 0 0,.int 0 0,.int 3 0,.ref 73,.bool true,.int 181 0,.ref 74,.none,.none,.none,.ref 75,.int 267 0,.int 20 0,.str "/claim/cut.py" 268],#[]⟩),
 (77,fO "step" (tp 8) (.str "trellisway.schemes" 239) 76),
 (81,⟨.type "code",none,.fields #[.str "sent_at" 270,.str "sent_at" 271,.str "/claim/cut.py" 272,.int 24 0,.int 3 0,.int 0 0,.int 0 0,.int 3 0,.ref 78,.bool true,.int 181 0,.ref 79,.none,.none,.none,.ref 80,.int 273 0,.int 24 0,.str "/claim/cut.py" 274],#[]⟩),
 (82,fO "sent_at" (tp 9) (.str "trellisway.schemes" 239) 81),
 (88,cO "is_ring" 278 "is_ring" 279 280 29 1 3 83 181 84 85 86 87 282 29 283),
 (89,fO "is_ring" (tp 11) (.str "trellisway.sending" 276) 88),
 (95,cO "check_size" 285 "check_size" 286 287 31 2 3 90 181 91 92 93 94 290 31 291),
 (96,fO "check_size" (tp 12) (.str "trellisway.sending" 276) 95),
 (102,cO "bits_behind" 293 "bits_behind" 294 295 34 1 3 97 181 98 99 100 101 297 34 298),
 (103,fO "bits_behind" (tp 13) (.str "trellisway.sending" 276) 102),
 (109,cO "first_rooms" 300 "first_rooms" 301 302 36 1 3 104 181 105 106 107 108 304 36 305),
 (110,fO "first_rooms" (tp 14) (.str "trellisway.sending" 276) 109),
 (116,cO "steps_of" 307 "steps_of" 308 309 38 2 3 111 181 112 113 114 115 312 38 313),
 (117,fO "steps_of" (tp 15) (.str "trellisway.sending" 276) 116),
 (123,cO "places_of" 315 "places_of" 316 317 41 2 3 118 181 119 120 121 122 323 41 324),
 (124,fO "places_of" (tp 16) (.str "trellisway.sending" 276) 123),
 (133,⟨.type "dict",none,.dict #[eS P "__module__" 335 (.str "trellisway.signs" 326),eS P "__firstlineno__" 339 (.int 48 338),eS P "__static_attributes__" 340 (.ref 132),eS P "__dict__" 342 (.ref 135),eS P "__weakref__" 344 (.ref 136),eS P "__doc__" 345 (.none)] 4,#[]⟩),
 (134,⟨.type "type",none,.cls ⟨"Sign",[.type "object"],[.ref 134,.type "object"],133,"Sign",true,[],[.ref 169,.ref 195,.ref 228],false,none,false⟩,#[none,none,some (.str "Sign" 328),some (.str "Sign" 336),some (.builtin "object.__new__"),some (.bool true)]⟩),
 (151,cO "__init__" 360 "Clear.__init__" 361 362 52 2 3 146 181 147 148 149 150 365 52 366),
 (152,⟨.type "function",none,.func (W.fnOf "__init__" "Clear.__init__" (dA (ic (tp 19) 0)) (dB (ic (tp 19) 0)) (dS (ic (tp 19) 0)) (.none) (.none) (.none) (.str "trellisway.signs" 326) none (.ref 151) (.none)),#[]⟩),
 (158,cO "told" 368 "Clear.told" 369 370 55 1 3 153 181 154 155 156 157 372 55 373),
 (159,⟨.type "function",none,.func (W.fnOf "told" "Clear.told" (dA (ic (tp 19) 1)) (dB (ic (tp 19) 1)) (dS (ic (tp 19) 1)) (.none) (.none) (.none) (.str "trellisway.signs" 326) none (.ref 158) (.none)),#[]⟩),
 (165,cO "cost" 375 "Clear.cost" 376 377 58 2 3 160 181 161 162 163 164 380 58 381),
 (166,⟨.type "function",none,.func (W.fnOf "cost" "Clear.cost" (dA (ic (tp 19) 2)) (dB (ic (tp 19) 2)) (dS (ic (tp 19) 2)) (.none) (.none) (.none) (.str "trellisway.signs" 326) none (.ref 165) (.none)),#[]⟩),
 (168,⟨.type "dict",none,.dict #[eS P "__module__" 355 (.str "trellisway.signs" 326),eS P "__firstlineno__" 359 (.int 50 358),eS P "__init__" 367 (.ref 152),eS P "told" 374 (.ref 159),eS P "cost" 382 (.ref 166),eS P "__static_attributes__" 384 (.ref 167),eS P "__doc__" 385 (.none)] 2,#[]⟩),
 (169,⟨.type "type",none,.cls ⟨"Clear",[.ref 134],[.ref 169,.ref 134,.type "object"],168,"Clear",true,[],[],false,none,false⟩,#[some (.ref 139),none,some (.str "Clear" 348),some (.str "Clear" 356),some (.builtin "object.__new__"),some (.bool true)]⟩),
 (184,cO "told" 400 "Gap.told" 401 402 62 1 3 179 181 180 181 182 183 404 62 405),
 (185,⟨.type "function",none,.func (W.fnOf "told" "Gap.told" (dA (ic (tp 20) 0)) (dB (ic (tp 20) 0)) (dS (ic (tp 20) 0)) (.none) (.none) (.none) (.str "trellisway.signs" 326) none (.ref 184) (.none)),#[]⟩),
 (191,cO "cost" 407 "Gap.cost" 408 409 65 2 3 186 181 187 188 189 190 412 65 413),
 (192,⟨.type "function",none,.func (W.fnOf "cost" "Gap.cost" (dA (ic (tp 20) 1)) (dB (ic (tp 20) 1)) (dS (ic (tp 20) 1)) (.none) (.none) (.none) (.str "trellisway.signs" 326) none (.ref 191) (.none)),#[]⟩),
 (194,⟨.type "dict",none,.dict #[eS P "__module__" 395 (.str "trellisway.signs" 326),eS P "__firstlineno__" 399 (.int 60 398),eS P "told" 406 (.ref 185),eS P "cost" 414 (.ref 192),eS P "__static_attributes__" 415 (.ref 193),eS P "__doc__" 416 (.none)] 2,#[]⟩),
 (195,⟨.type "type",none,.cls ⟨"Gap",[.ref 134],[.ref 195,.ref 134,.type "object"],194,"Gap",true,[],[],false,none,false⟩,#[some (.ref 172),none,some (.str "Gap" 388),some (.str "Gap" 396),some (.builtin "object.__new__"),some (.bool true)]⟩),
 (210,cO "__init__" 431 "Soft.__init__" 432 433 69 3 3 205 181 206 207 208 209 437 69 438),
 (211,⟨.type "function",none,.func (W.fnOf "__init__" "Soft.__init__" (dA (ic (tp 21) 0)) (dB (ic (tp 21) 0)) (dS (ic (tp 21) 0)) (.none) (.none) (.none) (.str "trellisway.signs" 326) none (.ref 210) (.none)),#[]⟩),
 (217,cO "told" 440 "Soft.told" 441 442 73 1 3 212 181 213 214 215 216 444 73 445),
 (218,⟨.type "function",none,.func (W.fnOf "told" "Soft.told" (dA (ic (tp 21) 1)) (dB (ic (tp 21) 1)) (dS (ic (tp 21) 1)) (.none) (.none) (.none) (.str "trellisway.signs" 326) none (.ref 217) (.none)),#[]⟩),
 (224,cO "cost" 447 "Soft.cost" 448 449 76 2 3 219 181 220 221 222 223 452 76 453),
 (225,⟨.type "function",none,.func (W.fnOf "cost" "Soft.cost" (dA (ic (tp 21) 2)) (dB (ic (tp 21) 2)) (dS (ic (tp 21) 2)) (.none) (.none) (.none) (.str "trellisway.signs" 326) none (.ref 224) (.none)),#[]⟩),
 (227,⟨.type "dict",none,.dict #[eS P "__module__" 426 (.str "trellisway.signs" 326),eS P "__firstlineno__" 430 (.int 67 429),eS P "__init__" 439 (.ref 211),eS P "told" 446 (.ref 218),eS P "cost" 454 (.ref 225),eS P "__static_attributes__" 457 (.ref 226),eS P "__doc__" 458 (.none)] 2,#[]⟩),
 (228,⟨.type "type",none,.cls ⟨"Soft",[.ref 134],[.ref 228,.ref 134,.type "object"],227,"Soft",true,[],[],false,none,false⟩,#[some (.ref 198),none,some (.str "Soft" 419),some (.str "Soft" 427),some (.builtin "object.__new__"),some (.bool true)]⟩),
 (236,cO "sign_of" 461 "sign_of" 462 463 78 1 3 231 181 232 233 234 235 465 78 466),
 (237,fO "sign_of" (tp 22) (.str "trellisway.signs" 326) 236),
 (243,cO "check_heard" 470 "check_heard" 471 472 85 3 3 238 181 239 240 241 242 477 85 478),
 (244,fO "check_heard" (tp 24) (.str "trellisway.costs" 468) 243),
 (248,⟨.type "code",none,.fields #[.str "signs_cost" 480,.str "signs_cost" 481,.str "/claim/cut.py" 482,.int 89 0,.int 2 0,.int 0 0,.int 0 0,.int 3 0,.ref 245,.bool true,.int 181 0,.ref 246,.none,.none,.none,.ref 247,.int 483 0,.int 89 0,.str "/claim/cut.py" 484],#[]⟩),
 (249,fO "signs_cost" (tp 25) (.str "trellisway.costs" 468) 248),
 (253,⟨.type "code",none,.fields #[.str "signs_by_step" 486,.str "signs_by_step" 487,.str "/claim/cut.py" 488,.int 91 0,.int 3 0,.int 0 0,.int 0 0,.int 3 0,.ref 250,.bool true,.int 181 0,.ref 251,.none,.none,.none,.ref 252,.int 489 0,.int 91 0,.str "/claim/cut.py" 490],#[]⟩),
 (254,fO "signs_by_step" (tp 26) (.str "trellisway.costs" 468) 253),
 (260,cO "move" 492 "move" 493 494 96 5 3 255 181 256 257 258 259 501 96 502),
 (261,fO "move" (tp 27) (.str "trellisway.costs" 468) 260),
 (265,⟨.type "code",none,.fields #[.str "moves_from" 504,.str "moves_from" 505,.str "/claim/cut.py" 506,.int 99 0,.int 5 0,.int 0 0,.int 0 0,.int 3 0,.ref 262,.bool true,.int 181 0,.ref 263,.none,.none,.none,.ref 264,.int 507 0,.int 99 0,.str "/claim/cut.py" 508],#[]⟩),
 (266,fO "moves_from" (tp 28) (.str "trellisway.costs" 468) 265),
 (270,⟨.type "code",none,.fields #[.str "moves" 510,.str "moves" 511,.str "/claim/cut.py" 512,.int 101 0,.int 3 0,.int 0 0,.int 0 0,.int 3 0,.ref 267,.bool true,.int 181 0,.ref 268,.none,.none,.none,.ref 269,.int 513 0,.int 101 0,.str "/claim/cut.py" 514],#[]⟩),
 (271,fO "moves" (tp 29) (.str "trellisway.costs" 468) 270),
 (275,⟨.type "code",none,.fields #[.str "end_costs" 516,.str "end_costs" 517,.str "/claim/cut.py" 518,.int 108 0,.int 2 0,.int 0 0,.int 0 0,.int 3 0,.ref 272,.bool true,.int 181 0,.ref 273,.none,.none,.none,.ref 274,.int 519 0,.int 108 0,.str "/claim/cut.py" 520],#[]⟩),
 (276,fO "end_costs" (tp 30) (.str "trellisway.costs" 468) 275),
 (282,cO "cost_by" 522 "cost_by" 523 524 113 2 3 277 181 278 279 280 281 528 113 529),
 (283,fO "cost_by" (tp 31) (.str "trellisway.costs" 468) 282),
 (287,⟨.type "code",none,.fields #[.str "least_by" 531,.str "least_by" 532,.str "/claim/cut.py" 533,.int 116 0,.int 2 0,.int 0 0,.int 0 0,.int 3 0,.ref 284,.bool true,.int 181 0,.ref 285,.none,.none,.none,.ref 286,.int 534 0,.int 116 0,.str "/claim/cut.py" 535],#[]⟩),
 (288,fO "least_by" (tp 32) (.str "trellisway.costs" 468) 287),
 (292,⟨.type "code",none,.fields #[.str "ahead_by" 537,.str "ahead_by" 538,.str "/claim/cut.py" 539,.int 119 0,.int 2 0,.int 0 0,.int 0 0,.int 3 0,.ref 289,.bool true,.int 181 0,.ref 290,.none,.none,.none,.ref 291,.int 540 0,.int 119 0,.str "/claim/cut.py" 541],#[]⟩),
 (293,fO "ahead_by" (tp 33) (.str "trellisway.costs" 468) 292),
 (294,⟨.type "tuple",none,.seq #[.int 0 543] 0,#[]⟩),
 (300,cO "ahead" 544 "ahead" 545 546 125 4 3 295 181 296 297 298 299 551 125 552),
 (301,⟨.type "function",none,.func (W.fnOf "ahead" "ahead" (dA (tp 34)) (dB (tp 34)) (dS (tp 34)) (.ref 294) (.none) (.none) (.str "trellisway.costs" 468) none (.ref 300) (.none)),#[]⟩),
 (307,cO "ahead_by_start" 554 "ahead_by_start" 555 556 127 2 3 302 181 303 304 305 306 561 127 562),
 (308,fO "ahead_by_start" (tp 35) (.str "trellisway.costs" 468) 307),
 (314,cO "nearest_from" 566 "nearest_from" 567 568 133 4 3 309 181 310 311 312 313 578 133 579),
 (315,fO "nearest_from" (tp 37) (.str "trellisway.nearest" 564) 314),
 (319,⟨.type "code",none,.fields #[.str "nearest" 581,.str "nearest" 582,.str "/claim/cut.py" 583,.int 142 0,.int 3 0,.int 0 0,.int 0 0,.int 3 0,.ref 316,.bool true,.int 181 0,.ref 317,.none,.none,.none,.ref 318,.int 584 0,.int 142 0,.str "/claim/cut.py" 585],#[]⟩),
 (320,fO "nearest" (tp 38) (.str "trellisway.nearest" 564) 319),
 (326,cO "_law_cell_at" 589 "_law_cell_at" 590 591 147 2 3 321 181 322 323 324 325 594 147 595),
 (327,fO "_law_cell_at" (tp 40) (.str zlw 587) 326),
 (333,cO "_law_mixed" 597 "_law_mixed" 598 599 151 2 3 328 181 329 330 331 332 605 151 606),
 (334,fO "_law_mixed" (tp 41) (.str zlw 587) 333),
 (338,⟨.type "code",none,.fields #[.str "_law_scheme" 608,.str "_law_scheme" 609,.str "/claim/cut.py" 610,.int 158 0,.int 2 0,.int 0 0,.int 0 0,.int 3 0,.ref 335,.bool true,.int 181 0,.ref 336,.none,.none,.none,.ref 337,.int 611 0,.int 158 0,.str "/claim/cut.py" 612],#[]⟩),
 (339,fO "_law_scheme" (tp 42) (.str zlw 587) 338),
 (343,⟨.type "code",none,.fields #[.str "_law_step" 614,.str "_law_step" 615,.str "/claim/cut.py" 616,.int 167 0,.int 3 0,.int 0 0,.int 0 0,.int 3 0,.ref 340,.bool true,.int 181 0,.ref 341,.none,.none,.none,.ref 342,.int 617 0,.int 167 0,.str "/claim/cut.py" 618],#[]⟩),
 (344,fO "_law_step" (tp 43) (.str zlw 587) 343),
 (348,⟨.type "code",none,.fields #[.str "_law_sent_at" 620,.str "_law_sent_at" 621,.str "/claim/cut.py" 622,.int 171 0,.int 3 0,.int 0 0,.int 0 0,.int 3 0,.ref 345,.bool true,.int 181 0,.ref 346,.none,.none,.none,.ref 347,.int 623 0,.int 171 0,.str "/claim/cut.py" 624],#[]⟩),
 (349,fO "_law_sent_at" (tp 44) (.str zlw 587) 348),
 (355,cO "_law_steps" 626 "_law_steps" 627 628 174 2 3 350 181 351 352 353 354 631 174 632),
 (356,fO "_law_steps" (tp 45) (.str zlw 587) 355),
 (360,⟨.type "code",none,.fields #[.str "_law_places" 634,.str "_law_places" 635,.str "/claim/cut.py" 636,.int 178 0,.int 2 0,.int 0 0,.int 0 0,.int 3 0,.ref 357,.bool true,.int 181 0,.ref 358,.none,.none,.none,.ref 359,.int 637 0,.int 178 0,.str "/claim/cut.py" 638],#[]⟩),
 (361,fO "_law_places" (tp 46) (.str zlw 587) 360),
 (367,cO "_law_start" 640 "_law_start" 641 642 183 2 3 362 181 363 364 365 366 647 183 648),
 (368,fO "_law_start" (tp 47) (.str zlw 587) 367),
 (374,cO "_law_sent" 650 "_law_sent" 651 652 189 2 3 369 181 370 371 372 373 659 189 660),
 (375,fO "_law_sent" (tp 48) (.str zlw 587) 374),
 (381,cO "_law_price" 662 "_law_price" 663 664 196 2 3 376 181 377 378 379 380 667 196 668),
 (382,fO "_law_price" (tp 49) (.str zlw 587) 381),
 (388,cO "_law_sign" 670 "_law_sign" 671 672 202 1 3 383 181 384 385 386 387 677 202 678),
 (389,fO "_law_sign" (tp 50) (.str zlw 587) 388),
 (393,⟨.type "code",none,.fields #[.str "_law_heard" 680,.str "_law_heard" 681,.str "/claim/cut.py" 682,.int 213 0,.int 3 0,.int 0 0,.int 0 0,.int 3 0,.ref 390,.bool true,.int 181 0,.ref 391,.none,.none,.none,.ref 392,.int 683 0,.int 213 0,.str "/claim/cut.py" 684],#[]⟩),
 (394,fO "_law_heard" (tp 51) (.str zlw 587) 393),
 (398,⟨.type "code",none,.fields #[.str "_law_at_steps" 686,.str "_law_at_steps" 687,.str "/claim/cut.py" 688,.int 216 0,.int 3 0,.int 0 0,.int 0 0,.int 3 0,.ref 395,.bool true,.int 181 0,.ref 396,.none,.none,.none,.ref 397,.int 689 0,.int 216 0,.str "/claim/cut.py" 690],#[]⟩),
 (399,fO "_law_at_steps" (tp 52) (.str zlw 587) 398),
 (403,⟨.type "code",none,.fields #[.str "_law_way" 692,.str "_law_way" 693,.str "/claim/cut.py" 694,.int 221 0,.int 6 0,.int 0 0,.int 0 0,.int 3 0,.ref 400,.bool true,.int 181 0,.ref 401,.none,.none,.none,.ref 402,.int 695 0,.int 221 0,.str "/claim/cut.py" 696],#[]⟩),
 (404,fO "_law_way" (tp 53) (.str zlw 587) 403),
 (410,cO "_law_last" 698 "_law_last" 699 700 226 3 3 405 181 406 407 408 409 706 226 707),
 (411,fO "_law_last" (tp 54) (.str zlw 587) 410),
 (417,cO "_law_of_form" 709 "_law_of_form" 710 711 234 3 3 412 181 413 414 415 416 717 234 718),
 (418,fO "_law_of_form" (tp 55) (.str zlw 587) 417),
 (422,⟨.type "code",none,.fields #[.str "_law_walked" 720,.str "_law_walked" 721,.str "/claim/cut.py" 722,.int 244 0,.int 5 0,.int 0 0,.int 0 0,.int 3 0,.ref 419,.bool true,.int 181 0,.ref 420,.none,.none,.none,.ref 421,.int 723 0,.int 244 0,.str "/claim/cut.py" 724],#[]⟩),
 (423,fO "_law_walked" (tp 56) (.str zlw 587) 422),
 (429,cO "_law_first" 726 "_law_first" 727 728 255 5 3 424 181 425 426 427 428 739 255 740),
 (430,fO "_law_first" (tp 57) (.str zlw 587) 429),
 (436,cO "_law_starts" 742 "_law_starts" 743 744 266 1 3 431 181 432 433 434 435 746 266 747),
 (437,fO "_law_starts" (tp 58) (.str zlw 587) 436),
 (441,⟨.type "code",none,.fields #[.str "_law_is_word" 749,.str "_law_is_word" 750,.str "/claim/cut.py" 751,.int 270 0,.int 2 0,.int 0 0,.int 0 0,.int 3 0,.ref 438,.bool true,.int 181 0,.ref 439,.none,.none,.none,.ref 440,.int 752 0,.int 270 0,.str "/claim/cut.py" 753],#[]⟩),
 (442,fO "_law_is_word" (tp 59) (.str zlw 587) 441),
 (446,⟨.type "code",none,.fields #[.str "_law_near" 755,.str "_law_near" 756,.str "/claim/cut.py" 757,.int 274 0,.int 3 0,.int 0 0,.int 0 0,.int 3 0,.ref 443,.bool true,.int 181 0,.ref 444,.none,.none,.none,.ref 445,.int 758 0,.int 274 0,.str "/claim/cut.py" 759],#[]⟩),
 (447,fO "_law_near" (tp 60) (.str zlw 587) 446),
 (451,⟨.type "code",none,.fields #[.str "law" 761,.str "law" 762,.str "/claim/cut.py" 763,.int 280 0,.int 1 0,.int 0 0,.int 0 0,.int 3 0,.ref 448,.bool true,.int 181 0,.ref 449,.none,.none,.none,.ref 450,.int 764 0,.int 280 0,.str "/claim/cut.py" 765],#[]⟩),
 (452,fO "law" (tp 61) (.str zlw 587) 451)]
def KA:List Addr:=[3,23,24,36,37,48,49,57,58,64,65,71,72,76,77,81,82,88,89,95,96,102,103,109,110,116,117,123,124,133,134,151,152,158,159,165,166,168,169,184,185,191,192,194,195,210,211,217,218,224,225,227,228,236,237,243,244,248,249,253,254,260,261,265,266,270,271,275,276,282,283,287,288,292,293,294,300,301,307,308,314,315,319,320,326,327,333,334,338,339,343,344,348,349,355,356,360,361,367,368,374,375,381,382,388,389,393,394,398,399,403,404,410,411,417,418,422,423,429,430,436,437,441,442,446,447,451,452]
theorem ka_eq:∀P,KA=(KH P).map (·.1):=λ_=>rfl
theorem run(w:World)(os:OsState):(q76 treeTable PySem.Challenge.pw_trellisway_k13_whole_nearest_walked w 11 (some (.ref 6)) 6438 (qoi w.params os) (topStub PySem.Challenge.pw_trellisway_k13_whole_nearest_walked)).map (λs=>(staticsOk (importedModules PySem.Challenge.pw_trellisway_k13_whole_nearest_walked.main.body) (boot_heap w.params) s.abs.heap&&namesBound PySem.Challenge.pw_trellisway_k13_whole_nearest_walked s.abs.heap&&gensDone s.abs&&laidKept (boot_heap w.params) s.abs.heap,
 openSeen V ["ahead"] (importedModules PySem.Challenge.pw_trellisway_k13_whole_nearest_walked.main.body) (λs=>xlAt V [] s&&recOk (RowW.records (OpenRow.toRowW PySem.Challenge.rw_trellisway_k13_whole_nearest_walked.row)) s) true s.abs,Hook.obs (kHook KH KA ka_eq) s.abs))=some (true,openGood V ["ahead"],Hook.val (kHook KH KA ka_eq) w):=by kernel_rfl
theorem left:LeftO PySem.Challenge.pw_trellisway_k13_whole_nearest_walked V ["ahead"] (λs=>xlAt V [] s&&recOk (RowW.records (OpenRow.toRowW PySem.Challenge.rw_trellisway_k13_whole_nearest_walked.row)) s) (Hook.obs (kHook KH KA ka_eq)) (Hook.val (kHook KH KA ka_eq)) 6438:=qgp (by kernel_rfl) (by kernel_rfl) (λs=>by kernel_rfl) (λP=>by kernel_rfl) run
theorem qmk:(OpenRow.toRowW PySem.Challenge.rw_trellisway_k13_whole_nearest_walked.row).prog=PySem.Challenge.pw_trellisway_k13_whole_nearest_walked:=by kernel_rfl
theorem leftR:LeftO (OpenRow.toRowW PySem.Challenge.rw_trellisway_k13_whole_nearest_walked.row).prog V ["ahead"] (λs=>xlAt V [] s&&recOk (RowW.records (OpenRow.toRowW PySem.Challenge.rw_trellisway_k13_whole_nearest_walked.row)) s) (Hook.obs (kHook KH KA ka_eq)) (Hook.val (kHook KH KA ka_eq)) 6438:=by rw[qmk];exact left
end H13
abbrev j6:=@PySem.wpAny_bind
abbrev j7:=@List.length_map
abbrev j8:=@PySem.wpAny_pure
abbrev j9:=@PySem.Heap.lt_size
abbrev ja:=@Nat.le_refl
abbrev jb:=@PySem.Heap.get?_push_of_some
abbrev jc:=@List.getElem?_map
abbrev jd:=@List.getElem?_eq_getElem
abbrev je:=@Option.some.inj
abbrev jf:=@Nat.ne_of_lt
abbrev jg:=@List.mem_cons_self
abbrev jh:=@List.length_append
abbrev ji:=@List.length_replicate
abbrev jj:=@List.mem_cons_of_mem
abbrev jk:=@List.map_map
abbrev jl:=@List.getElem?_set_ne
abbrev jm:=@PySem.Heap.get?_push_size
abbrev jn:=@Nat.lt_of_lt_of_le
abbrev jo:=@Int.toNat_natCast
abbrev jq:=@List.length_cons
abbrev jr:=@Nat.le_trans
abbrev jt:=@List.mem_append_right
abbrev ju:=@List.map_cons
abbrev jv:=@List.getD_eq_getElem?_getD
abbrev jw:=@List.size_toArray
abbrev jx:=@PySem.PassesOwn.never
abbrev jy:=@Nat.lt_irrefl
abbrev jz:=@Nat.zero_add
abbrev x8:=@List.map_append
abbrev x9:=@List.length_set
abbrev xc:=@List.getElem_mem
abbrev xf:=@List.getElem?_set_self
abbrev xg:=@PySem.Heap.size_push
abbrev xh:=@List.length_take
abbrev xi:=@Nat.min_le_left
abbrev xj:=@PySem.wpAny_mono
abbrev xk:=@PySem.wpAny_field
abbrev xl:=@List.drop_eq_getElem_cons
abbrev xm:=@List.length_zip
abbrev xn:=@List.getElem?_eq_none
abbrev xo:=@List.getElem?_append_right
abbrev xp:=@List.length_drop
abbrev xq:=@List.getElem?_range
abbrev xr:=@PySem.wpAny_Call_Name_kw
abbrev xu:=@PySem.wpAny_seqItems
abbrev xv:=@List.mem_of_getElem?
abbrev xx:=@PySem.wpAny_newObj_type
abbrev xy:=@PySem.wpAny_holding
abbrev k6:=@List.getElem?_replicate
abbrev k7:=@List.getElem?_append_left
abbrev k8:=@PySem.wpAny_call_entry
abbrev k9:=@PySem.wpAny_callSpecial?_slot
abbrev ka:=@PySem.Heap.get?_update_other
abbrev kc:=@PySem.wpAny_truthy_bool
abbrev ke:=@PySem.wpAny_passesOwn
abbrev kf:=@PySem.Heap.get?_update_self
abbrev kg:=@PySem.plainId_quiet
abbrev kh:=@PySem.F.plain_min_loop
abbrev ki:=@PySem.wpAny_setField_rec
abbrev kj:=@PySem.wpAny_loadPart'
abbrev kl:=@PySem.Heap.SameBut.update
abbrev km:=@PySem.Around.under_plainId
abbrev kn:=@PySem.F.slot_tuple_iterator_next
abbrev kr:=@PySem.F.slot_dict_keyiterator_next
abbrev ku:=@PySem.wpAny_typeNameOfWhole_keyiter
namespace L2
open PySem PySem.Spec PyProof.Rows
abbrev Key:=Sum Int Str
def qjd:Key->Value->Bool
 |.inl k,v=>Value.isInt k v
 |.inr x,v=>Value.isStrOf x v
def keyH(w:World):Key->Int
 |.inl k=>hashInt k
 |.inr x=>hashStr w x
theorem q2b:∀{k:Key} {v:Value},qjd k v=true->(∃i t,k=Sum.inl i/\v=Value.int i t)∨(∃x t,k=Sum.inr x/\v=Value.str x t)
 | .inl i,v,h=>by obtain⟨t,e⟩:=Value.isInt_shape (k:=i) (v:=v) h;exact .inl ⟨i,t,rfl,e⟩
 | .inr x,v,h=>by obtain⟨t,e⟩:=Value.isStrOf_shape (x:=x) (v:=v) h;exact .inr ⟨x,t,rfl,e⟩
theorem qgr(i:Int)(t:Tok):qjd (.inl i) (.int i t)=true:=by simp[qjd,Value.isInt]
theorem qsv(a b:Int):decide ((Sum.inl a:Key)=Sum.inl b)=(a==b):=by
 by_cases e:a=b
 ·subst e;simp
 ·have h:¬(Sum.inl a:Key)=Sum.inl b:=λq=>e (Sum.inl.inj q);rw[decide_eq_false h];exact(beq_eq_false_iff_ne.mpr e).symm
theorem qss(a b:Str):decide ((Sum.inr a:Key)=Sum.inr b)=decide (a=b):=by
 by_cases e:a=b
 ·subst e;simp
 ·have h:¬(Sum.inr a:Key)=Sum.inr b:=λq=>e (Sum.inr.inj q);rw[decide_eq_false h,decide_eq_false e]
theorem qsu(a:Int)(b:Str):decide ((Sum.inl a:Key)=Sum.inr b)=false:=decide_eq_false (λq=>nomatch q)
theorem qst(a:Str)(b:Int):decide ((Sum.inr a:Key)=Sum.inl b)=false:=decide_eq_false (λq=>nomatch q)
def q7k(prog:Program)(w:World):PySem.KeyKind prog w Key where
 is:=qjd
 hash:=keyH w
 inj:=λv a b ha hb=>by
  rcases q2b ha with⟨i,t,rfl,rfl⟩|⟨x,t,rfl,rfl⟩
  ·rcases q2b hb with⟨j,u,rfl,e⟩|⟨y,u,rfl,e⟩
   ·injection e with e1 _;rw[e1]
   ·exact nomatch e
  ·rcases q2b hb with⟨j,u,rfl,e⟩|⟨y,u,rfl,e⟩
   ·exact nomatch e
   ·injection e with e1 _;rw[e1]
 byValue:=λk v h=>by rcases q2b h with⟨i,t,rfl,rfl⟩|⟨x,t,rfl,rfl⟩<;>rfl
 pyHash:=λhv h=>by
  rcases q2b hv with⟨i,t,rfl,rfl⟩|⟨x,t,rfl,rfl⟩
  ·exact wpAny_pyHash_int h
  ·exact wpAny_pyHash_str h
 eqBool:=λhu hv h=>by
  rcases q2b hu with⟨i,t,rfl,rfl⟩|⟨x,t,rfl,rfl⟩
  ·rcases q2b hv with⟨j,u,rfl,rfl⟩|⟨y,u,rfl,rfl⟩
   ·rw[qsv]at h;exact wpAny_eqBool_int h
   ·rw[qsu]at h;exact SeqAt.EqAt.int_str i t y u _ _ _ _ h
  ·rcases q2b hv with⟨j,u,rfl,rfl⟩|⟨y,u,rfl,rfl⟩
   ·rw[qst]at h;exact SeqAt.EqAt.str_int x t j u _ _ _ _ h
   ·rw[qss]at h;exact wpAny_eqBool_str h
 «strs»:=λk x t v h=>by
  rcases q2b h with⟨i,u,rfl,e⟩|⟨y,u,rfl,e⟩
  ·exact nomatch e
  ·injection e with e1 _;subst e1;cases v<;>rfl
theorem q7j(prog:Program)(w:World)(i:Int)(t:Tok):(q7k prog w).is (.inl i) (.int i t)=true:=qgr i t
inductive V where
 |non|bl (b:Bool)|int (i:Int)|str (x:Str)|byt (b:Array UInt8)|flt (b:UInt64)|ref (a:Addr)|ty (n:String)
 deriving DecidableEq
def RelV:V->Value->Prop
 |.non,u=>u=Value.none
 |.bl b,u=>u=Value.bool b
 |.int i,u=>∃t,u=Value.int i t
 |.str x,u=>∃t,u=Value.str x t
 |.byt b,u=>∃t,u=Value.bytes b t
 |.flt b,u=>∃t,u=Value.float b t
 |.ref a,u=>u=Value.ref a
 |.ty n,u=>u=Value.type n
abbrev Vals:List V->List Value->Prop:=Paired RelV
theorem Vals.length{xs:List V}{us:List Value}(r:Vals xs us):xs.length=us.length:=Paired.length r
theorem Vals.get:∀{xs:List V} {us:List Value} {i:Nat} {x:V},Vals xs us->xs[i]? =some x->∃u,us[i]? =some u/\RelV x u
 |_,_,_,_,.nil,e=>by simp at e
 |_,_,0,_,.cons r _,e=>by simp at e;subst e;exact⟨_,rfl,r⟩
 | _,_,i+1,x,.cons _ t,e=>by obtain⟨u,h1,h2⟩:=Vals.get (i:=i) (x:=x) t (by simpa using e);exact⟨u,by simpa using h1,h2⟩
theorem Vals.set{x:V}{u:Value}(r:RelV x u):∀{xs:List V} {us:List Value} (i:Nat),Vals xs us->Vals (xs.set i x) (us.set i u)
 |_,_,_,.nil=>.nil
 |_,_,0,.cons _ t=>.cons r t
 |_,_,i+1,.cons q t=>.cons q (Vals.set r i t)
theorem Vals.append:∀{xs ys:List V} {us ws:List Value},Vals xs us->Vals ys ws->Vals (xs++ys) (us++ws)
 |_,_,_,_,.nil,s=>s
 |_,_,_,_,.cons r t,s=>.cons r (Vals.append t s)
theorem Vals.take:∀{xs:List V} {us:List Value} (n:Nat),Vals xs us->Vals (xs.take n) (us.take n)
 |_,_,0,_=>.nil
 |_,_,_+1,.nil=>.nil
 |_,_,n+1,.cons r t=>.cons r (Vals.take n t)
theorem Vals.drop:∀{xs:List V} {us:List Value} (n:Nat),Vals xs us->Vals (xs.drop n) (us.drop n)
 |_,_,0,r=>r
 |_,_,_+1,.nil=>.nil
 |_,_,n+1,.cons _ t=>Vals.drop n t
def RelO:Option V->Option Value->Prop
 |some v,some u=>RelV v u
 |none,none=>True
 |_,_=>False
def KV{κ:Type}:List (κ×V)->List (κ×Value)->Prop:=Paired λ(p:κ×V) (q:κ×Value)=>p.1=q.1/\RelV p.2 q.2
def kV:Key->V
 |.inl i=>.int i
 |.inr x=>.str x
inductive HO where
 |lst (xs:List V)
 |tup (xs:List V)
 |dK (kvs:List (Key×V))|dT (kvs:List (List Key×V))
 |set (S:Int->Bool) (n:Nat)
 |ins (C dx:Addr) (fs:List (Str×V))
 |own (x:Addr)
 |xd (fs:List (Str×V))
 |met (f x:Addr)
 |rng (lo hi:Int)
 |frz (o:Obj) (u:HO)
 |tbl (ps:Array Value)
 |ext (φ:Heap->Prop)
abbrev Hp:=Addr->Option HO
def upd(H:Hp)(a:Addr)(o:HO):Hp:=λb=>if b=a then some o else H b
theorem q0y{H:Hp}{a:Addr}{o:HO}:upd H a o a=some o:=by unfold upd;rw[if_pos rfl]
theorem q0v{H:Hp}{a b:Addr}{o:HO}(h:b≠a):upd H a o b=H b:=by unfold upd;rw[if_neg h]
theorem qef{H:Hp}{a:Addr}{o u:HO}:upd (upd H a o) a u=upd H a u:=by funext b;unfold upd;split<;>rfl
theorem q1l{H:Hp}{a b:Addr}{o:HO}(h:H a=some o)(h':H b=none):a≠b:=by intro e;subst e;rw[h]at h';cases h'
def TupN(h:Heap)(a:Addr)(items:Array Value):Prop:=∃o,h.get? a=some o/\(o.cls=.type "tuple"/\∃n,o.data=.seq items n)/\o.dict=none
theorem TupN.tup{h:Heap}{a:Addr}{items:Array Value}(x:TupN h a items):IsTup h a items:=let ⟨o,e,c,_⟩:=x;⟨o,e,c⟩
theorem TupN.lt{h:Heap}{a:Addr}{items:Array Value}(x:TupN h a items):a<h.objs.size:=let ⟨_,e,_⟩:=x;j9 e
theorem TupN.new(h:Heap)(items:Array Value):TupN (h.push {cls:=.type "tuple",data:=.seq items}) h.objs.size items:=⟨_,jm _ rfl,⟨rfl,_,rfl⟩,rfl⟩
def DictN{P:Program}{w:World}{κ:Type}[DecidableEq κ](knd:KeyKind P w κ)(h:Heap)(a:Addr)(kvs:List (κ×Value))(n:Nat):Prop:=∃o es,h.get? a=some o/\o.ExactDict/\o.data=.dict es n/\KeysOf knd es/\Pairs knd es.toList kvs/\(kvs.map (·.1)).Nodup
theorem DictN.of{P:Program}{w:World}{κ:Type}[DecidableEq κ]{knd:KeyKind P w κ}{h:Heap}{a:Addr}{kvs:List (κ×Value)}{n:Nat}(x:DictN knd h a kvs n):h.DictOf knd a kvs:=let ⟨o,es,r⟩:=x;⟨o,es,n,r⟩
section
variable(P:Program)(w:World)
def ObjOk(H:Hp)(h:Heap)(a:Addr):HO->Prop
 |.lst xs=>xs.length<=sizeLine/\∃(its:List Value) (n:Nat),Vals xs its/\h.get? a=some {cls:=.type "list",data:=.seq its.toArray n}
 |.tup xs=>xs.length<=sizeLine/\∃its:List Value,Vals xs its/\TupN h a its.toArray
 |.dK kvs=>kvs.length<=sizeLine/\(a==sysModules)=false/\∃vs,KV kvs vs/\DictN (q7k P w) h a vs kvs.length
 |.dT kvs=>kvs.length<=sizeLine/\(a==sysModules)=false/\∃xs:List (List Key×Addr×Value),
  Paired (λ(p:List Key×V) (q:List Key×Addr×Value)=>p.1=q.1/\H q.2.1=some (.tup (p.1.map kV))/\RelV p.2 q.2.2) kvs xs/\
  ∃o es ep,h.get? a=some o/\o.ExactDict/\o.data=.dict es ep/\es.toList=xs.map (entryOfKey (tupleKind (q7k P w)))/\(xs.map (·.1)).Nodup/\ep=kvs.length
 |.set S n=>h.SetOf (intKind P w) a S n
 |.ins C dx fs=>H dx=some (.own a)/\fs.length<=1000/\dx≠a/\h.get? a=some (PySem.W.instObj C dx)/\
  ∃mA,h.Ns1 dx mA/\(∀f,RelO (fs.lookup f) (mA f))/\PySem.Within mA (fs.map (·.1))
 |.own _=>∃o,h.get? a=some o
 |.xd fs=>∃mA,h.Ns1 a mA/\∀f,RelO (fs.lookup f) (mA f)
 |.rng lo hi=>∃t u v,h.get? a=some {cls:=.type "range",data:=.fields #[.int lo t,.int hi u,.int 1 v]}
 |.frz o u=>h.get? a=some o/\ObjOk H h a u
 |.tbl ps=>h.get? a=some {cls:=.none,data:=.fields ps}
 |.met f x=>h.get? a=some (PySem.W.methodObj (.ref f) (.ref x))
 |.ext φ=>φ h/\(∃o,h.get? a=some o)/\∀h1 h2:Heap,φ h1->(∀o,h1.get? a=some o->h2.get? a=some o)->φ h2
def HOk(H:Hp)(h:Heap):Prop:=∀a o,H a=some o->ObjOk P w H h a o
end
section
variable{P:Program}{w:World}{H H':Hp}{h h':Heap}{a:Addr}{o:HO}
theorem ObjOk.lt(x:ObjOk P w H h a o):a<h.objs.size:=by
 cases o with
 |lst xs=>obtain⟨_,_,_,_,e⟩:=x;exact j9 e
 |tup xs=>obtain⟨_,_,_,p⟩:=x;exact p.lt
 |dK kvs=>obtain⟨_,_,_,_,o,_,e,_⟩:=x;exact j9 e
 |dT kvs=>obtain⟨_,_,_,_,o,_,_,e,_⟩:=x;exact j9 e
 |set S n=>obtain⟨o,_,_,_,e,_⟩:=x;exact j9 e
 |ins C dx fs=>obtain⟨_,_,_,e,_⟩:=x;exact j9 e
 |own y=>obtain⟨_,e⟩:=x;exact j9 e
 |xd fs=>obtain⟨_,⟨_,_,_,e,_⟩,_⟩:=x;exact j9 e
 |rng lo hi=>obtain⟨_,_,_,e⟩:=x;exact j9 e
 |frz ob u=>obtain⟨e,_⟩:=x;exact j9 e
 |tbl ps=>exact j9 (show h.get? a=some _ from x)
 |met f y=>exact j9 (show h.get? a=some _ from x)
 |ext φ=>obtain⟨_,⟨_,e⟩,_⟩:=x;exact j9 e
theorem Paired.mapP{α β:Type}{F G:α->β->Prop}:∀{l₁:List α} {l₂:List β},Paired F l₁ l₂->(∀a b,F a b->G a b)->Paired G l₁ l₂
 |_,_,.nil,_=>.nil
 |_,_,.cons r t,f=>.cons (f _ _ r) (Paired.mapP t f)
theorem ObjOk.stay(x:ObjOk P w H h a o)(k:∀b u,(b=a∨H b=some (.own a))->h.get? b=some u->h'.get? b=some u)
 (ho:∀b,H b=some (.own a)->H' b=some (.own a)) (ht:∀b xs,H b=some (.tup xs)->H' b=some (.tup xs)):ObjOk P w H' h' a o:=by
 induction o with
 |lst xs=>obtain⟨z,its,n,r,e⟩:=x;exact⟨z,its,n,r,k _ _ (.inl rfl) e⟩
 |tup xs=>obtain⟨z,its,r,ob,e,c⟩:=x;exact⟨z,its,r,ob,k _ _ (.inl rfl) e,c⟩
 |dK kvs=>obtain⟨z,y,vs,r,ob,es,e,c⟩:=x;exact⟨z,y,vs,r,ob,es,k _ _ (.inl rfl) e,c⟩
 | dT kvs=>
  obtain⟨z,y,xs,r,ob,es,ep,e,c⟩:=x;exact⟨z,y,xs,Paired.mapP r λp q z=>⟨z.1,ht _ _ z.2.1,z.2.2⟩,ob,es,ep,k _ _ (.inl rfl) e,c⟩
 |set S n=>obtain⟨ob,es,ep,t,e,c⟩:=x;exact⟨ob,es,ep,t,k _ _ (.inl rfl) e,c⟩
 | ins C dx fs=>
  obtain⟨d,z,ne,e,mA,⟨od,es,ep,e2,c⟩,r⟩:=x;exact⟨ho _ d,z,ne,k _ _ (.inl rfl) e,mA,⟨od,es,ep,k _ _ (.inr d) e2,c⟩,r⟩
 |own y=>obtain⟨ob,e⟩:=x;exact⟨ob,k _ _ (.inl rfl) e⟩
 |xd fs=>obtain⟨mA,⟨od,es,ep,e,c⟩,r⟩:=x;exact⟨mA,⟨od,es,ep,k _ _ (.inl rfl) e,c⟩,r⟩
 |rng lo hi=>obtain⟨t,u,v,e⟩:=x;exact⟨t,u,v,k _ _ (.inl rfl) e⟩
 |frz ob u ih=>obtain⟨e,q⟩:=x;exact⟨k _ _ (.inl rfl) e,ih q⟩
 | tbl ps=>
  have e:h.get? a=some {cls:=.none,data:=.fields ps}:=x;show h'.get? a=some {cls:=.none,data:=.fields ps};exact k a _ (.inl rfl) e
 | met f y=>
  have e:h.get? a=some (PySem.W.methodObj (.ref f) (.ref y)):=x;show h'.get? a=some (PySem.W.methodObj (.ref f) (.ref y));exact k a _ (.inl rfl) e
 |ext φ=>obtain⟨p,⟨o,e⟩,st⟩:=x;exact⟨st _ _ p λo q=>k _ _ (.inl rfl) q,⟨o,k _ _ (.inl rfl) e⟩,st⟩
theorem HOk.lt(x:HOk P w H h)(e:H a=some o):a<h.objs.size:=(x a o e).lt
theorem HOk.fresh(x:HOk P w H h)(e:h.objs.size<=a):H a=none:=by
 cases q:H a with
 |none=>rfl
 |some u=>exact absurd (jn (x.lt q) e) (jy _)
theorem HOk.kept(x:HOk P w H h)(k:∀b u,h.get? b=some u->h'.get? b=some u):HOk P w H h':=λa o e=>
 (x a o e).stay (λb u _ q=>k b u q) (λ_ q=>q) λ_ _ q=>q
theorem HOk.laid(x:HOk P w H h)(k:∀b u,h.get? b=some u->h'.get? b=some u)(hp:h.objs.size<=a)(new:ObjOk P w (upd H a o) h' a o):HOk P w (upd H a o) h':=λb u e=>by
 have hn:=x.fresh hp;by_cases hb:b=a
 ·subst hb;rw[q0y]at e;cases e;exact new
 ·rw[q0v hb]at e;exact(x b u e).stay (λc v _ q=>k c v q) (λc q=>by rw[q0v (q1l q hn)];exact q) λc xs q=>by rw[q0v (q1l q hn)];exact q
end
def Rd(H:Hp)(a:Addr)(u:HO):Prop:=H a=some u∨∃o,H a=some (.frz o u)
theorem Rd.ok{P:Program}{w:World}{H:Hp}{h:Heap}{a:Addr}{u:HO}(r:Rd H a u)(x:HOk P w H h):ObjOk P w H h a u:=by
 rcases r with r|⟨o,r⟩
 ·exact x a u r
 ·obtain⟨_,q⟩:=x a _ r;exact q
def Mut:Option HO->Prop
 |some (.lst _)=>True
 |some (.dK _)=>True
 |some (.dT _)=>True
 |some (.set _ _)=>True
 |some (.ins _ _ _)=>True
 |some (.ext _)=>True
 |_=>False
section
variable{P:Program}{w:World}{H:Hp}{h h':Heap}{x e:Addr}{o':HO}
theorem HOk.write(ok:HOk P w H h)(mu:Mut (H x))(he:e=x∨H e=some (.own x))(k:∀b u,b≠e->h.get? b=some u->h'.get? b=some u)(heo:∃u,h'.get? e=some u)
 (new:ObjOk P w (upd H x o') h' x o'):HOk P w (upd H x o') h':=λb u q=>by
 have nown:∀c y,H c=some (.own y)->c≠x:=λc y r z=>by subst z;rw[r]at mu;exact mu
 have ntup:∀c xs,H c=some (.tup xs)->c≠x:=λc xs r z=>by subst z;rw[r]at mu;exact mu
 by_cases hb:b=x
 ·subst hb;rw[q0y]at q;cases q;exact new
 ·rw[q0v hb]at q;by_cases hbe:b=e
  ·have q':H b=some (.own x):=by
    rcases he with z|z
    ·exact absurd (hbe.trans z) hb
    ·rw[hbe];exact z
   rw[q]at q';cases q';obtain⟨v,hv⟩:=heo;exact⟨v,by rw[hbe];exact hv⟩
  ·refine(ok b u q).stay (λc v hc r=>k c v ?_ r) (λc r=>by rw[q0v (nown c b r)];exact r) λc xs r=>by rw[q0v (ntup c xs r)];exact r
   rcases hc with rfl|hc
   ·exact hbe
   ·rintro rfl;rcases he with z|z
    ·exact nown c b hc z
    ·rw[hc]at z;cases z;exact hb rfl
end
structure Un(fs ex:List Addr)(H H':Hp)(h h':Heap):Prop where
 keep:∀b o,h.get? b=some o->H b=none->b∉fs->b∉ex->h'.get? b=some o
 slot:∀b o,h.get? b=some o->H b=none->b∈fs->b∉ex->∃sl,h'.get? b=some {o with slots:=sl}
 free:∀b o,h.get? b=some o->H b=none->b∉ex->H' b=none
 there:∀b o,h.get? b=some o->b∉ex->∃o',h'.get? b=some o'
 tups:∀b xs,H b=some (.tup xs)->H' b=some (.tup xs)
 frzs:∀b o u,H b=some (.frz o u)->H' b=some (.frz o u)
 tbls:∀b ps,H b=some (.tbl ps)->∃more,H' b=some (.tbl (ps++more))
section
variable{fs fs' ex ex':List Addr}{H H1 H2:Hp}{h h1 h2 h':Heap}{a x e:Addr}{o:HO}
theorem Un.any(u:Un fs ex H H1 h h1){b:Addr}{ob:Obj}(q:h.get? b=some ob)(n:H b=none)(hx:b∉ex):∃sl,h1.get? b=some {ob with slots:=sl}:=by
 by_cases hb:b∈fs
 ·exact u.slot b ob q n hb hx
 ·exact⟨ob.slots,u.keep b ob q n hb hx⟩
theorem Un.trans(a:Un fs ex H H1 h h1)(b:Un fs ex H1 H2 h1 h2):Un fs ex H H2 h h2 where
 keep:=λc ob q n hc hx=>b.keep c ob (a.keep c ob q n hc hx) (a.free c ob q n hx) hc hx
 slot:=λc ob q n hc hx=>by obtain⟨sl,e1⟩:=a.slot c ob q n hc hx;obtain⟨sl',e2⟩:=b.slot c _ e1 (a.free c ob q n hx) hc hx;exact⟨sl',e2⟩
 free:=λc ob q n hx=>by obtain⟨o',e1⟩:=a.there c ob q hx;exact b.free c o' e1 (a.free c ob q n hx) hx
 there:=λc ob q hx=>by obtain⟨o',e1⟩:=a.there c ob q hx;exact b.there c o' e1 hx
 tups:=λc xs q=>b.tups c xs (a.tups c xs q)
 frzs:=λc ob xs q=>b.frzs c ob xs (a.frzs c ob xs q)
 tbls:=λc ps q=>by obtain⟨m1,e1⟩:=a.tbls c ps q;obtain⟨m2,e2⟩:=b.tbls c _ e1;exact⟨m1++m2,by rw[e2,Array.append_assoc]⟩
theorem Un.kept(k:∀b u,h.get? b=some u->h'.get? b=some u):Un fs ex H H h h':=
 ⟨λb ob q _ _ _=>k b ob q,λb ob q _ _ _=>⟨ob.slots,k b ob q⟩,λ_ _ _ n _=>n,λb ob q _=>⟨ob,k b ob q⟩,λ_ _ q=>q,λ_ _ _ q=>q,λ_ ps q=>⟨#[],by rw[q];simp⟩⟩
theorem Un.refl:Un fs ex H H h h:=Un.kept λ_ _ q=>q
theorem Un.laid(k:∀b u,h.get? b=some u->h'.get? b=some u)(hp:h.objs.size<=a)(hn:H a=none):Un fs ex H (upd H a o) h h' where
 keep:=λb u q _ _ _=>k b u q
 slot:=λb u q _ _ _=>⟨u.slots,k b u q⟩
 free:=λb u q n _=>by rw[q0v (jf (jn (j9 q) hp))];exact n
 there:=λb u q _=>⟨u,k b u q⟩
 tups:=λb xs q=>by rw[q0v (q1l q hn)];exact q
 frzs:=λb u xs q=>by rw[q0v (q1l q hn)];exact q
 tbls:=λb ps q=>⟨#[],by rw[q0v (q1l q hn),q];simp⟩
theorem Un.write(mu:Mut (H x))(he:e=x∨H e=some (.own x))(k:∀b u,b≠e->h.get? b=some u->h'.get? b=some u)(heo:∃u,h'.get? e=some u):Un fs ex H (upd H x o) h h':=by
 have hx:∀b,H b=none->b≠x:=λb n z=>by subst z;rw[n]at mu;exact mu
 have hb:∀b,H b=none->b≠e:=λb n z=>by
  subst z;rcases he with r|r
  ·exact hx b n r
  ·rw[n]at r;cases r
 have hm:∀b u,H b=some u->¬Mut (some u)->b≠x:=λb u q nm z=>by subst z;rw[q]at mu;exact nm mu
 refine⟨λb u q n _ _=>k b u (hb b n) q,λb u q n _ _=>⟨u.slots,k b u (hb b n) q⟩,λb u q n _=>by rw[q0v (hx b n)];exact n,λb u q _=>?_,
  λb xs q=>by rw[q0v (hm b _ q λz=>z)];exact q,λb u xs q=>by rw[q0v (hm b _ q λz=>z)];exact q,λb ps q=>⟨#[],by rw[q0v (hm b _ q λz=>z),q];simp⟩⟩
 by_cases hbe:b=e
 ·subst hbe;exact heo
 ·exact⟨u,k b u hbe q⟩
theorem Un.mono(u:Un fs ex H H1 h h1)(hs:∀b∈fs,b∈fs')(hx:∀b∈ex,b∈ex'):Un fs' ex' H H1 h h1:=
 ⟨λb ob q n hb he=>u.keep b ob q n (λz=>hb (hs b z)) λz=>he (hx b z),λ_ _ q n _ he=>u.any q n λz=>he (hx _ z),λb ob q n he=>u.free b ob q n λz=>he (hx b z),λb ob q he=>u.there b ob q λz=>he (hx b z),u.tups,u.frzs,u.tbls⟩
end
def trk(h:Heap)(H:Hp):List Addr:=(List.range h.objs.size).filter λa=>(H a).isSome
def hidT(h:Heap)(H:Hp):Heap:=PySem.W.hideAll h (trk h H)
theorem qgx(h:Heap)(H:Hp):(hidT h H).objs.size=h.objs.size:=PySem.W.hideAll_size _ _
theorem qji{h:Heap}{H:Hp}{b:Addr}{o:Obj}(e:h.get? b=some o)(n:H b=none):(hidT h H).get? b=some o:=
 PySem.W.hideAll_get _ e λhm=>by have q:(H b).isSome=true:=(List.mem_filter.mp hm).2;rw[n]at q;simp at q
theorem qn1{h:Heap}{H:Hp}{b:Addr}{o:Obj}(e:(hidT h H).get? b=some o):h.get? b=some o/\H b=none:=by
 have e':h.get? b=some o:=PySem.W.of_hideAll (trk h H) e;refine⟨e',?_⟩;cases q:H b with
 |none=>rfl
 | some x=>
  have hm:b∈trk h H:=List.mem_filter.mpr ⟨List.mem_range.mpr (j9 e'),by simp[q]⟩;have z:(hidT h H).get? b=none:=PySem.W.hideAll_none (trk h H) hm;rw[z]at e;cases e
def qou(g h:Heap)(L:Addr):List (Addr×Obj):=(List.range h.objs.size).filterMap λa=>if a=L∨(g.get? a).isSome=true then none else(h.get? a).map λo=>(a,o)
def rest(g h:Heap)(L d:Addr):List (Addr×Obj):=(qou g h L).filter λp=>decide (p.1≠d)
structure Mod(K:FrG)(mg:Str->Option Value)(base:Heap):Prop where
 kin:K.In base
 glob:base.Ns mainGlobals mg
 blt:∃mb,base.Ns builtinsNs mb/\∀x:Str,x≠"__name__"->mb x=bootBuiltins x
 nolimit:base.NoLimit
structure Cx where
 prog:Program
 w:World
 K:PySem.W.Frag
 mg:Str->Option Value
 base:Heap
 A:Around
 N:List Str
 s₀:Shared
 H₀:Hp
 env:Env
 outer:List Env
 stack:List Env
 ex:List Addr
 fn:Str->Bool
 calm:Bool
 pn:List (Addr×Obj)
 xe:Value->Shared->Prop
def frs(l:List Env):List Addr:=l.filterMap (·.frame)
abbrev Cx.fs(X:Cx):List Addr:=frs X.outer
def Vis(sc:Scope)(x:Str):Prop:=sc.names.lookup x=some .local∨sc.names.lookup x=some .cell∨sc.names.lookup x=some .free
def Loc(sc:Scope)(x:Str):Prop:=sc.names.lookup x=some .local∨sc.names.lookup x=some .cell
def Look(env:Env)(h:Heap)(m:Str->Option Value)(x:Str)(u:Value):Prop:=
 (env.kindOf x=some .local/\m x=some u)∨((env.kindOf x=some .cell∨env.kindOf x=some .free)/\∃c,env.cells.lookup x=some c/\h.IsCell c (some u))
structure Cx.Ok(X:Cx):Prop where
 mod:Mod X.K X.mg X.base
 kind:X.env.scope.kind=.function
 glob:X.env.globals=mainGlobals
 blt:X.env.builtins=builtinsNs
 above:X.s₀.heap.objs.size<=X.env.locals
 inj:∀x y c,X.env.cells.lookup x=some c->X.env.cells.lookup y=some c->x=y
 has:∀x,(X.env.kindOf x=some .cell∨X.env.kindOf x=some .free)->∃c,X.env.cells.lookup x=some c
 cab:∀x c,X.fn x=true->X.env.cells.lookup x=some c->X.s₀.heap.objs.size<=c
 hd:X.calm=true->X.A.handled=none
 frames:X.A.frames=some X.stack
 stk:X.stack=X.outer∨(X.stack=X.env::X.outer/\X.env.frame=some X.env.locals)
 exf:∀b∈X.ex,b≠X.env.locals/\∀x c,X.env.cells.lookup x=some c->c≠b
 bs:∀b o,X.base.get? b=some o->X.s₀.heap.get? b=some o/\X.H₀ b=none
 bsz:X.base.objs.size<=X.s₀.heap.objs.size
 noex:∀b o,X.base.get? b=some o->b∉X.ex
 exfs:∀b∈X.ex,b∉X.fs
 funs:X.s₀.heap.FunFrames X.base X.outer
 frf:∀b∈X.fs,X.H₀ b=none
structure Inv(X:Cx)(z5:List (Addr×Obj))(σ:List (Option V))(H:Hp)(s:Shared):Prop where
 ok:X.Ok
 os:s.os=X.s₀.os
 bare:AllBare s.gens
 base:Un X.fs X.ex X.H₀ H X.s₀.heap s.heap
 loc:∃m,s.heap.Ns X.env.locals m/\∀(i:Nat) (x:Str) (v:V),X.N[i]? =some x->σ[i]? =some (some v)->Vis X.env.scope x->∃u,RelV v u/\Look X.env s.heap m x u
 cell:∀x c,X.env.cells.lookup x=some c->∃v,s.heap.IsCell c v
 free:H X.env.locals=none
 freeC:∀x c,X.env.cells.lookup x=some c->H c=none
 pin:∀p∈X.pn++z5,s.heap.get? p.1=some p.2/\H p.1=none/\p.1≠X.env.locals/\p.1∉X.fs/\∀v,p.2.data≠.cell v
 hok:HOk X.prog X.w H s.heap
 len:σ.length=X.N.length
section
variable{X:Cx}{z5:List (Addr×Obj)}{σ:List (Option V)}{H H':Hp}{s:Shared}{h':Heap}
theorem Cx.Ok.nofr(ok:X.Ok){b:Addr}{o:Obj}(e:X.base.get? b=some o):b∉X.fs:=λhb=>by have:=(ok.funs.mem hb).1;rw[e]at this;cases this
theorem Inv.bs(I:Inv X z5 σ H s):∀b o,X.base.get? b=some o->s.heap.get? b=some o/\H b=none:=λb o e=>
 ⟨I.base.keep b o (I.ok.bs b o e).1 (I.ok.bs b o e).2 (I.ok.nofr e) (I.ok.noex b o e),I.base.free b o (I.ok.bs b o e).1 (I.ok.bs b o e).2 (I.ok.noex b o e)⟩
theorem Inv.bk(I:Inv X z5 σ H s):∀b o,X.base.get? b=some o->s.heap.get? b=some o:=λb o e=>(I.bs b o e).1
theorem Inv.mod(I:Inv X z5 σ H s):Mod X.K X.mg X.base:=I.ok.mod
theorem Inv.kIn(I:Inv X z5 σ H s):X.K.In s.heap:=I.ok.mod.kin.keeps I.bk
theorem Inv.fr(I:Inv X z5 σ H s):∃m,Fr X.base X.env.locals s.heap m:=
 let ⟨m,hn,_⟩:=I.loc
 ⟨m,hn,I.bk,jr I.ok.bsz I.ok.above⟩
theorem Inv.lt(I:Inv X z5 σ H s):X.env.locals<s.heap.objs.size:=let ⟨_,hn,_⟩:=I.loc;hn.lt
theorem Inv.sz(I:Inv X z5 σ H s):X.s₀.heap.objs.size<=s.heap.objs.size:=jr I.ok.above (Nat.le_of_lt I.lt)
theorem Inv.nofs(I:Inv X z5 σ H s){a:Addr}(h:s.heap.objs.size<=a):a∉X.fs:=λhb=>by obtain⟨_,o,ho,_⟩:=I.ok.funs.mem hb;exact absurd (jn (j9 ho) (jr I.sz h)) (jy _)
theorem Inv.cne(I:Inv X z5 σ H s):∀x c,X.env.cells.lookup x=some c->c≠X.env.locals:=λx c e z=>by obtain⟨v,o,ho,hd⟩:=I.cell x c e;obtain⟨m,⟨o',es,ep,ho',hd',_⟩,_⟩:=I.loc;rw[z,ho']at ho;cases ho;rw[hd']at hd;cases hd
theorem Inv.funs(I:Inv X z5 σ H s):s.heap.FunFrames X.base X.outer:=by
 have all:∀(l:List Env),(∀b∈frs l,b∈X.fs)->X.s₀.heap.FunFrames X.base l->s.heap.FunFrames X.base l:=by
  intro l;induction l with
  |nil=>intro _ _;trivial
  | cons env r ih=>
   intro hs hl;obtain⟨hk,⟨L,o,hf,hn,ho,hd⟩,hr⟩:=hl;have hL:L∈X.fs:=hs L (by unfold frs;rw[List.filterMap_cons,hf];exact jg);obtain⟨sl,e⟩:=I.base.slot L o ho (I.ok.frf L hL) hL λz=>I.ok.exfs L z hL;exact⟨hk,⟨L,_,hf,hn,e,hd⟩,ih (λb hb=>hs b (by unfold frs;rw[List.filterMap_cons,hf];exact jj _ hb)) hr⟩
 exact all X.outer (λ_ hb=>hb) I.ok.funs
theorem Inv.stack(I:Inv X z5 σ H s):s.heap.FunFrames X.base X.stack:=by
 rcases I.ok.stk with e|⟨e,hf⟩
 ·rw[e];exact I.funs
 ·rw[e];obtain⟨m,hn,_⟩:=I.loc;refine .cons (by rw[I.ok.kind];decide) hf hn ?_ I.funs;exact Heap.get?_none_of_le (jr I.ok.bsz I.ok.above)
theorem Inv.stkSub(I:Inv X z5 σ H s):∀b∈frs X.stack,b∈X.env.locals::X.fs:=λb hb=>by
 rcases I.ok.stk with e|⟨e,hf⟩
 ·rw[e]at hb;exact jj _ hb
 ·rw[e]at hb;unfold frs at hb;rw[List.filterMap_cons,hf]at hb;exact hb
theorem Inv.stkFree(I:Inv X z5 σ H s):∀b∈frs X.stack,H b=none:=λb hb=>by
 rcases List.mem_cons.mp (I.stkSub b hb)with e|hb
 ·rw[e];exact I.free
 ·obtain⟨_,o,ho,_⟩:=I.ok.funs.mem hb;exact I.base.free b o ho (I.ok.frf b hb) λz=>I.ok.exfs b z hb
theorem Inv.step{g':Array GenState}{t':Nat}{d':Drawn}{ch:List Addr}(I:Inv X z5 σ H s)
 (hch:∀b∈ch,(b∈X.ex∨X.s₀.heap.objs.size<=b)/\b≠X.env.locals/\(∀x c,X.env.cells.lookup x=some c->c≠b)/\∀p∈X.pn++z5,p.1≠b)
 (keep:∀b o,b≠X.env.locals->b∉X.fs->b∉ch->s.heap.get? b=some o->H b=none->h'.get? b=some o)
 (slot:∀b o,b≠X.env.locals->b∈X.fs->b∉ch->s.heap.get? b=some o->H b=none->∃sl,h'.get? b=some {o with slots:=sl}) (free:∀b o,b∉ch->s.heap.get? b=some o->H b=none->H' b=none)
 (there:∀b o,b∉ch->s.heap.get? b=some o->∃o',h'.get? b=some o')
 (tups:∀b xs,H b=some (.tup xs)->H' b=some (.tup xs)) (frzs:∀b o u,H b=some (.frz o u)->H' b=some (.frz o u)) (tbls:∀b ps,H b=some (.tbl ps)->∃more,H' b=some (.tbl (ps++more)))
 (ns:∀m,s.heap.Ns X.env.locals m->h'.Ns X.env.locals m) (hok:HOk X.prog X.w H' h') (hg:AllBare g'):
 Inv X z5 σ H' {s with heap:=h',gens:=g',drawn:=d',toks:=t'}:=by
 have neL:∀b o,X.s₀.heap.get? b=some o->b≠X.env.locals:=λb o e=>jf (jn (j9 e) I.ok.above);have neC:∀b o,X.s₀.heap.get? b=some o->b∉X.ex->b∉ch:=λb o e hx hb=>by
  rcases(hch b hb).1 with z|z
  ·exact hx z
  ·exact absurd (jn (j9 e) z) (jy _)
 have cellK:∀x c,X.env.cells.lookup x=some c->∀v,s.heap.IsCell c v->h'.IsCell c v:=λx c e v ⟨o,ho,hd⟩=>by
  have nch:c∉ch:=λz=>(hch c z).2.2.1 x c e rfl;by_cases hc:c∈X.fs
  ·obtain⟨sl,q⟩:=slot c o (I.cne x c e) hc nch ho (I.freeC x c e);exact⟨_,q,hd⟩
  ·exact⟨o,keep c o (I.cne x c e) hc nch ho (I.freeC x c e),hd⟩
 refine⟨I.ok,I.os,hg,⟨λb o e n hb hx=>?_,λb o e n hb hx=>?_,λb o e n hx=>?_,λb o e hx=>?_,λb xs e=>tups b xs (I.base.tups b xs e),λb o xs e=>frzs b o xs (I.base.frzs b o xs e),λb ps e=>?_⟩,?_,λx c e=>?_,?_,λx c e=>?_,λp hp=>?_,hok,I.len⟩
 ·exact keep b o (neL b o e) hb (neC b o e hx) (I.base.keep b o e n hb hx) (I.base.free b o e n hx)
 ·obtain⟨sl,e1⟩:=I.base.slot b o e n hb hx;obtain⟨sl',e2⟩:=slot b _ (neL b o e) hb (neC b o e hx) e1 (I.base.free b o e n hx);exact⟨sl',e2⟩
 ·obtain⟨o',e1⟩:=I.base.there b o e hx;exact free b o' (neC b o e hx) e1 (I.base.free b o e n hx)
 ·obtain⟨o',e1⟩:=I.base.there b o e hx;exact there b o' (neC b o e hx) e1
 ·obtain⟨m1,e1⟩:=I.base.tbls b ps e;obtain⟨m2,e2⟩:=tbls b _ e1;exact⟨m1++m2,by rw[e2,Array.append_assoc]⟩
 ·obtain⟨m,hn,hl⟩:=I.loc;refine⟨m,ns m hn,λi x v e1 e2 e3=>?_⟩;obtain⟨u,r,l⟩:=hl i x v e1 e2 e3;refine⟨u,r,?_⟩;rcases l with l|⟨k,c,e,z⟩
  ·exact .inl l
  ·exact .inr ⟨k,c,e,cellK x c e _ z⟩
 ·obtain⟨v,z⟩:=I.cell x c e;exact⟨v,cellK x c e v z⟩
 ·obtain⟨m,⟨o,_,_,ho,_⟩,_⟩:=I.loc;exact free _ o (λz=>(hch _ z).2.1 rfl) ho I.free
 ·obtain⟨v,o,ho,hd⟩:=I.cell x c e;exact free c o (λz=>(hch c z).2.2.1 x c e rfl) ho (I.freeC x c e)
 ·obtain⟨e,n,ne,nf,d⟩:=I.pin p hp;have nch:p.1∉ch:=λz=>(hch p.1 z).2.2.2 p hp rfl;exact⟨keep p.1 p.2 ne nf nch e n,free p.1 p.2 nch e n,ne,nf,d⟩
theorem Inv.un{t':Nat}(I:Inv X z5 σ H s)(u:Un X.fs [] H H' s.heap h')(hok:HOk X.prog X.w H' h'):Inv X z5 σ H' {s with heap:=h',toks:=t'}:=by
 obtain⟨m,⟨o,es,ep,ho,r⟩,_⟩:=id I.loc;obtain⟨sl,hL⟩:=u.any ho I.free (by simp);exact I.step (g':=s.gens) (d':=s.drawn) (ch:=[]) (λ_ z=>nomatch z) (λb o _ hb _ e n=>u.keep b o e n hb (by simp)) (λb o _ hb _ e n=>u.slot b o e n hb (by simp)) (λb o _ e n=>u.free b o e n (by simp)) (λb o _ e=>u.there b o e (by simp)) u.tups u.frzs u.tbls (λm' hm=>by obtain⟨o',es',ep',ho',r'⟩:=hm;rw[ho]at ho';cases ho';exact⟨_,es',ep',hL,r'⟩) hok I.bare
theorem Inv.call{g':Array GenState}{t':Nat}{d':Drawn}{ch:List Addr}(I:Inv X z5 σ H s)(u:Un (frs X.stack) ch H H' s.heap h')(hok:HOk X.prog X.w H' h')(hg:AllBare g')
 (hch:∀b∈ch,(b∈X.ex∨X.s₀.heap.objs.size<=b)/\b≠X.env.locals/\(∀x c,X.env.cells.lookup x=some c->c≠b)/\∀p∈X.pn++z5,p.1≠b):
 Inv X z5 σ H' {s with heap:=h',gens:=g',drawn:=d',toks:=t'}:=by
 obtain⟨m,⟨o,es,ep,ho,r⟩,_⟩:=id I.loc;obtain⟨sl,hL⟩:=u.any ho I.free λz=>(hch _ z).2.1 rfl;exact I.step (ch:=ch) hch (λb o hL hb hc e n=>u.keep b o e n (λz=>(List.mem_cons.mp (I.stkSub b z)).elim hL hb) hc) (λb o _ _ hc e n=>u.any e n hc) (λb o hc e n=>u.free b o e n hc) (λb o hc e=>u.there b o e hc) u.tups u.frzs u.tbls (λm' hm=>by obtain⟨o',es',ep',ho',r'⟩:=hm;rw[ho]at ho';cases ho';exact⟨_,es',ep',hL,r'⟩) hok hg
theorem Inv.turned{t':Nat}{it:Addr}(I:Inv X z5 σ H s)(k:∀b o,b≠it->s.heap.get? b=some o->h'.get? b=some o)(hn:H it=none)(hL:it≠X.env.locals)
 (h1:it∈X.ex∨X.s₀.heap.objs.size<=it) (h2:∀x c,X.env.cells.lookup x=some c->c≠it) (h3:∀p∈X.pn++z5,p.1≠it):Inv X z5 σ H {s with heap:=h',toks:=t'}:=by
 have nit:∀b u,H b=some u->b≠it:=λb u e z=>by rw[z,hn]at e;cases e
 refine I.step (g':=s.gens) (d':=s.drawn) (ch:=[it]) (λb hb=>?_) (λb o _ _ hc e _=>k b o (λz=>hc (by simp[z])) e) (λb o _ _ hc e _=>⟨o.slots,k b o (λz=>hc (by simp[z])) e⟩) (λ_ _ _ _ n=>n)
  (λb o hc e=>⟨o,k b o (λz=>hc (by simp[z])) e⟩) (λ_ _ e=>e) (λ_ _ _ e=>e) (λb ps e=>⟨#[],by rw[e];simp⟩) (λm hm=>?_) (λb u e=>?_) I.bare
 ·have e:b=it:=by simpa using hb
  subst e;exact⟨h1,hL,h2,h3⟩
 ·obtain⟨o,es,ep,ho,r⟩:=hm;exact⟨o,es,ep,k _ o (Ne.symm hL) ho,r⟩
 ·refine(I.hok b u e).stay (λc v hc q=>k c v ?_ q) (λ_ q=>q) λ_ _ q=>q;rcases hc with z|z
  ·rw[z];exact nit b u e
  ·exact nit c _ z
theorem Inv.tok(I:Inv X z5 σ H s)(t:Nat):Inv X z5 σ H {s with toks:=t}:=I.un (h':=s.heap) (t':=t) Un.refl I.hok
theorem Inv.kept{t':Nat}(I:Inv X z5 σ H s)(k:∀b u,s.heap.get? b=some u->h'.get? b=some u):Inv X z5 σ H {s with heap:=h',toks:=t'}:=I.un (Un.kept k) (I.hok.kept k)
theorem Inv.laid{a:Addr}{o:HO}{t':Nat}(I:Inv X z5 σ H s)(k:∀b u,s.heap.get? b=some u->h'.get? b=some u)(hp:s.heap.objs.size<=a)(new:ObjOk X.prog X.w (upd H a o) h' a o):
 Inv X z5 σ (upd H a o) {s with heap:=h',toks:=t'}:=I.un (Un.laid k hp (I.hok.fresh hp)) (I.hok.laid k hp new)
theorem Inv.write{x e:Addr}{o:HO}{t':Nat}(I:Inv X z5 σ H s)(mu:Mut (H x))(he:e=x∨H e=some (.own x))(k:∀b u,b≠e->s.heap.get? b=some u->h'.get? b=some u)(heo:∃u,h'.get? e=some u)
 (new:ObjOk X.prog X.w (upd H x o) h' x o):Inv X z5 σ (upd H x o) {s with heap:=h',toks:=t'}:=I.un (Un.write mu he k heo) (I.hok.write mu he k heo new)
theorem Inv.weak{σ':List (Option V)}(I:Inv X z5 σ H s)(hl:σ'.length=σ.length)(w:∀(i:Nat) v,σ'[i]? =some (some v)->σ[i]? =some (some v)):Inv X z5 σ' H s:=
 ⟨I.ok,I.os,I.bare,I.base,let ⟨m,hn,hl'⟩:=I.loc;⟨m,hn,λi x v e1 e2 e3=>hl' i x v e1 (w i v e2) e3⟩,I.cell,I.free,I.freeC,I.pin,I.hok,hl.trans I.len⟩
theorem Inv.pins_of{pins':List (Addr×Obj)}(I:Inv X z5 σ H s)(h:∀p∈pins',s.heap.get? p.1=some p.2/\H p.1=none/\p.1≠X.env.locals/\p.1∉X.fs/\∀v,p.2.data≠.cell v):Inv X pins' σ H s:=
 ⟨I.ok,I.os,I.bare,I.base,I.loc,I.cell,I.free,I.freeC,λp hp=>(List.mem_append.mp hp).elim (λz=>I.pin p (List.mem_append_left _ z)) (h p),I.hok,I.len⟩
theorem qce{N:List Str}(hN:N.Nodup){i j:Nat}{x:Str}(a:N[i]? =some x)(b:N[j]? =some x):i=j:=by obtain⟨h1,e1⟩:=List.getElem?_eq_some_iff.mp a;obtain⟨h2,e2⟩:=List.getElem?_eq_some_iff.mp b;exact(List.getElem_inj hN).mp (e1.trans e2.symm)
theorem qek{M:Model}{A:Around}{E:Value->Shared->Prop}{i:Nat}{x:Str}{v:V}{u:Value}{Q:Unit->Shared->Prop}(I:Inv X z5 σ H s)(hN:X.N.Nodup)(hi:X.N[i]? =some x)(hx:Loc X.env.scope x)(r:RelV v u)
 (h:∀s',Inv X z5 (σ.set i (some v)) H s'->(∃a,Heap.SameBut a s.heap s'.heap/\(a=X.env.locals∨X.env.cells.lookup x=some a))->Q () s') (hf:X.fn x=true∨X.env.scope.names.lookup x=some .local:=by first|exact .inl rfl|exact .inr rfl|assumption):wpAny M A (storeName X.env x u) Q E s:=by
 obtain⟨m,hn,hl⟩:=id I.loc;have hcls:(X.env.scope.kind==.class||(X.env.scope.kind==.module&&X.env.locals !=X.env.globals))=false:=by rw[I.ok.kind];rfl
 have hiσ:i<σ.length:=by rw[I.len];exact(List.getElem?_eq_some_iff.mp hi).1
 have cne:=I.cne;have tracked:∀{a:Addr} {h':Heap},(∃o,s.heap.get? a=some o/\H a=none)->Heap.SameBut a s.heap h'->HOk X.prog X.w H h':=λ{a h'} ha hs b ob e=>by
  obtain⟨_,_,hfree⟩:=ha;refine(I.hok b ob e).stay (λc w' hc q=>(hs.2 c ?_).trans q) (λ_ q=>q) λ_ _ q=>q;rintro rfl;rcases hc with rfl|hc
  ·rw[hfree]at e;cases e
  ·rw[hfree]at hc;cases hc
 rcases hx with hk|hk
 ·refine wpAny_storeName_local hk hn (λh' hn' hs=>?_) hcls;obtain⟨oL,_,_,hoL,_⟩:=id hn;refine h _ ⟨I.ok,I.os,I.bare,⟨λb o e n hb hx=>?_,λb o e n hb hx=>?_,I.base.free,λb o e hx=>?_,I.base.tups,I.base.frzs,I.base.tbls⟩,⟨_,hn',λj y v' e1 e2 e3=>?_⟩,λy c e=>?_,I.free,I.freeC,λp hp=>?_,tracked ⟨oL,hoL,I.free⟩ hs,by simpa using I.len⟩ ⟨_,hs,.inl rfl⟩
  ·exact(hs.2 b (jf (jn (j9 e) I.ok.above))).trans (I.base.keep b o e n hb hx)
  ·obtain⟨sl,e1⟩:=I.base.slot b o e n hb hx;exact⟨sl,(hs.2 b (jf (jn (j9 e) I.ok.above))).trans e1⟩
  ·obtain⟨o',e1⟩:=I.base.there b o e hx;exact⟨o',(hs.2 b (jf (jn (j9 e) I.ok.above))).trans e1⟩
  ·by_cases hj:j=i
   ·subst hj;rw[hi]at e1;cases e1;rw[xf hiσ]at e2;cases e2;exact⟨u,r,.inl ⟨hk,by simp⟩⟩
   ·rw[jl (Ne.symm hj)]at e2;obtain⟨u',r',q⟩:=hl j y v' e1 e2 e3;refine⟨u',r',?_⟩;rcases q with⟨k,e⟩|⟨k,c,e,z⟩
    ·refine .inl ⟨k,?_⟩;have:y≠x:=λe=>hj (qce hN e1 (e▸hi));simp[this,e]
    ·exact .inr ⟨k,c,e,z.sameBut hs (cne y c e)⟩
  ·obtain⟨w',z⟩:=I.cell y c e;exact⟨w',z.sameBut hs (cne y c e)⟩
  ·obtain⟨e,n,ne,nf,d⟩:=I.pin p hp;exact⟨(hs.2 p.1 ne).trans e,n,ne,nf,d⟩
 ·have hfn:X.fn x=true:=by
   rcases hf with z|z
   ·exact z
   ·rw[z]at hk;cases hk
  obtain⟨c,hc⟩:=I.ok.has x (.inl hk);obtain⟨w',z⟩:=I.cell x c hc;refine wpAny_storeName_cell I.ok.kind hk hc z (λh' hc' hs=>?_);obtain⟨oc,hoc,hocd⟩:=id z;refine h {s with heap:=h'} ⟨I.ok,I.os,I.bare,⟨λb o e n hb hx=>?_,λb o e n hb hx=>?_,I.base.free,λb o e hx=>?_,I.base.tups,I.base.frzs,I.base.tbls⟩,⟨m,hn.sameBut hs (Ne.symm (cne x c hc)),λj y v' e1 e2 e3=>?_⟩,λy c' e=>?_,I.free,I.freeC,λp hp=>?_,tracked ⟨oc,hoc,I.freeC x c hc⟩ hs,by simpa using I.len⟩ ⟨c,hs,.inr hc⟩
  ·exact(hs.2 b (jf (jn (j9 e) (I.ok.cab x c hfn hc)))).trans (I.base.keep b o e n hb hx)
  ·obtain⟨sl,e1⟩:=I.base.slot b o e n hb hx;exact⟨sl,(hs.2 b (jf (jn (j9 e) (I.ok.cab x c hfn hc)))).trans e1⟩
  ·obtain⟨o',e1⟩:=I.base.there b o e hx;exact⟨o',(hs.2 b (jf (jn (j9 e) (I.ok.cab x c hfn hc)))).trans e1⟩
  ·by_cases hj:j=i
   ·subst hj;rw[hi]at e1;cases e1;rw[xf hiσ]at e2;cases e2;exact⟨u,r,.inr ⟨.inl hk,c,hc,hc'⟩⟩
   ·rw[jl (Ne.symm hj)]at e2;obtain⟨u',r',q⟩:=hl j y v' e1 e2 e3;refine⟨u',r',?_⟩;rcases q with q|⟨k,c',e,z'⟩
    ·exact .inl q
    ·refine .inr ⟨k,c',e,z'.sameBut hs ?_⟩;rintro rfl;exact hj (qce hN e1 (I.ok.inj _ _ _ e hc▸hi))
  ·by_cases hcc:c'=c
   ·subst hcc;exact⟨_,hc'⟩
   ·obtain⟨w2,z2⟩:=I.cell y c' e;exact⟨w2,z2.sameBut hs hcc⟩
  ·obtain⟨e,n,ne,nf,d⟩:=I.pin p hp;refine⟨(hs.2 p.1 ?_).trans e,n,ne,nf,d⟩;intro q;rw[q,hoc]at e;have q':oc=p.2:=je e;exact d w' (by rw[<-q'];exact hocd)
theorem q6u{M:Model}{A:Around}{E:Value->Shared->Prop}{i:Nat}{x:Str}{v:V}{u:Value}{Q:Unit->Shared->Prop}(I:Inv X z5 σ H s)(hN:X.N.Nodup)(hi:X.N[i]? =some x)(hx:Loc X.env.scope x)(r:RelV v u)
 (h:∀s',Inv X z5 (σ.set i (some v)) H s'->Q () s') (hf:X.fn x=true∨X.env.scope.names.lookup x=some .local:=by first|exact .inl rfl|exact .inr rfl|assumption):wpAny M A (storeName X.env x u) Q E s:=
 qek I hN hi hx r (λs' I' _=>h s' I') hf
theorem Inv.call'{s':Shared}{ch:List Addr}(I:Inv X z5 σ H s)(ho:s'.os=s.os)(u:Un (frs X.stack) ch H H' s.heap s'.heap)(hok:HOk X.prog X.w H' s'.heap)(hg:AllBare s'.gens)
 (hch:∀b∈ch,(b∈X.ex∨X.s₀.heap.objs.size<=b)/\b≠X.env.locals/\(∀x c,X.env.cells.lookup x=some c->c≠b)/\∀p∈X.pn++z5,p.1≠b):Inv X z5 σ H' s':=by
 obtain⟨h',g',d',t',o'⟩:=s';have e:o'=s.os:=ho;subst e;exact I.call (g':=g') (t':=t') (d':=d') u hok hg hch
end
abbrev XK:=Value->Option Addr->Hp->Prop
abbrev St:=List (Option V)
abbrev VK:=V->Hp->Prop
abbrev TE:=St->Hp->VK->Prop
abbrev TT:=St->Hp->(Bool->Hp->Prop)->Prop
abbrev TA:=St->Hp->(List V->Hp->Prop)->Prop
structure Ends where
 nx:St->Hp->Prop
 rt:VK
 bk:St->Hp->Prop:=λ_ _=>False
 ct:St->Hp->Prop:=λ_ _=>False
abbrev TS:=Ends->St->Hp->Prop
def EP(X:Cx)(z5:List (Addr×Obj))(σ:St)(Q:VK)(u:Value)(s':Shared):Prop:=∃v H',Inv X z5 σ H' s'/\RelV v u/\Q v H'
def TP(X:Cx)(z5:List (Addr×Obj))(σ:St)(Q:Bool->Hp->Prop)(b:Bool)(s':Shared):Prop:=∃H',Inv X z5 σ H' s'/\Q b H'
def AP(X:Cx)(z5:List (Addr×Obj))(σ:St)(Q:List V->Hp->Prop)(us:List Value)(s':Shared):Prop:=∃vs H',Inv X z5 σ H' s'/\Vals vs us/\Q vs H'
def SP(X:Cx)(z5:List (Addr×Obj))(D:Ends)(f:Flow)(s':Shared):Prop:=
 match f with
 |.next=>∃σ' H',Inv X z5 σ' H' s'/\D.nx σ' H'
 |.brk=>∃σ' H',Inv X z5 σ' H' s'/\D.bk σ' H'
 |.cont=>∃σ' H',Inv X z5 σ' H' s'/\D.ct σ' H'
 |.ret u=>∃v σ' H',Inv X z5 σ' H' s'/\RelV v u/\D.rt v H'
def PE(X:Cx)(e:Expr)(t:TE):Prop:=
 ∀(z5:List (Addr×Obj)) (s:Shared) (σ:St) (H:Hp) (Q:VK),Inv X z5 σ H s->t σ H Q->wpAny (model X.prog X.w) X.A (eval e X.env) (EP X z5 σ Q) X.xe s
def PT(X:Cx)(e:Expr)(t:TT):Prop:=
 ∀(z5:List (Addr×Obj)) (s:Shared) (σ:St) (H:Hp) (Q:Bool->Hp->Prop),Inv X z5 σ H s->t σ H Q->wpAny (model X.prog X.w) X.A (isTrue e X.env (eval e X.env)) (TP X z5 σ Q) X.xe s
def PW(X:Cx)(e:Expr)(t:TT):Prop:=
 ∀(zv:Sem Value) (z5:List (Addr×Obj)) (s:Shared) (σ:St) (H:Hp) (Q:Bool->Hp->Prop),Inv X z5 σ H s->t σ H Q->wpAny (model X.prog X.w) X.A (isTrue e X.env zv) (TP X z5 σ Q) X.xe s
theorem PW.pt{X:Cx}{e:Expr}{t:TT}(h:PW X e t):PT X e t:=h _
def PA(X:Cx)(es:List Expr)(t:TA):Prop:=
 ∀(pos:Pos) (z5:List (Addr×Obj)) (s:Shared) (σ:St) (H:Hp) (Q:List V->Hp->Prop),Inv X z5 σ H s->t σ H Q->wpAny (model X.prog X.w) X.A (spliced (backTo pos (starEach es X.env))) (AP X z5 σ Q) X.xe s
def PS(X:Cx)(st:Stmt)(t:TS):Prop:=
 ∀(z5:List (Addr×Obj)) (s:Shared) (σ:St) (H:Hp) (D:Ends),Inv X z5 σ H s->t D σ H->wpAny (model X.prog X.w) X.A (exec st X.env) (SP X z5 D) X.xe s
def PSs(X:Cx)(st:List Stmt)(t:TS):Prop:=
 ∀(z5:List (Addr×Obj)) (s:Shared) (σ:St) (H:Hp) (D:Ends),Inv X z5 σ H s->t D σ H->wpAny (model X.prog X.w) X.A (execs st X.env) (SP X z5 D) X.xe s
theorem thn{α:Type}{t:Sem α}{Q Q':α->Shared->Prop}{M:Model}{A:Around}{E:Value->Shared->Prop}{s:Shared}(h:wpAny M A t Q E s)(hQ:∀a s,Q a s->Q' a s):wpAny M A t Q' E s:=xj h hQ λ_ _ x=>x
section
variable{X:Cx}
def tVar(i:Nat):TE:=λσ H Q=>∃v,σ[i]? =some (some v)/\Q v H
def tC(v:V):TE:=λ_ H Q=>Q v H
theorem qqk{i:Nat}{x:Str}{pos:Pos}(hN:X.N[i]? =some x)(hv:Vis X.env.scope x)(hd:(x==("__debug__":Str))=false:=by decide)(hcd:(x==("__classdict__":Str))=false:=by decide):PE X (.Name x pos) (tVar i):=by
 intro z5 s σ H Q I h;obtain⟨v,e,h⟩:=h;obtain⟨m,hn,hl⟩:=I.loc;obtain⟨u,r,l⟩:=hl i x v hN e hv;have fin:EP X z5 σ Q u s:=⟨v,H,I,r,h⟩;rcases l with⟨hk,hm⟩|⟨hk,c,hc,hcell⟩
 ·exact wpAny_Name (wpAny_loadName_local I.ok.kind hk hn hm fin) hd
 ·rcases hk with hk|hk
  ·exact wpAny_Name (wpAny_loadName_cell I.ok.kind hk hc hcell fin) hd
  ·exact wpAny_Name (wpAny_loadName_free I.ok.kind hk hc hcell fin hcd) hd
theorem q06{i j pos}:PE X (.Constant (.int i) j pos) (tC (.int i)):=λ_ _ _ H _ I h=>wpAny_Constant_int ⟨.int i,H,I.tok _,⟨_,rfl⟩,h⟩
theorem q54{b j pos}:PE X (.Constant (.bool b) j pos) (tC (.bl b)):=λ_ _ _ H _ I h=>Constant_bool ⟨.bl b,H,I,rfl,h⟩
theorem q4j{j pos}:PE X (.Constant .none j pos) (tC .non):=λ_ _ _ H _ I h=>Constant_none ⟨.non,H,I,rfl,h⟩
theorem q2s{x j pos}:PE X (.Constant (.str x) j pos) (tC (.str x)):=λ_ _ _ H _ I h=>Calls.Constant_str ⟨.str x,H,I.tok _,⟨_,rfl⟩,h⟩
def Gl(X:Cx)(x:Str):Prop:=X.env.kindOf x=some .globalImplicit
theorem qbb{E:Value->Shared->Prop}{z5:List (Addr×Obj)}{s:Shared}{σ:St}{H:Hp}{x:Str}{u:Value}{pos:Pos}{Q:Value->Shared->Prop}(I:Inv X z5 σ H s)(hg:Gl X x)(hm:X.mg x=some u)(h:Q u s)
 (hd:(x==("__debug__":Str))=false:=by decide):wpAny (model X.prog X.w) X.A (eval (.Name x pos) X.env) Q E s:=
 Calls.Name_function_global I.ok.kind hg (Calls.loadGlobal_global (by rw[I.ok.glob];exact I.mod.glob.keeps I.bk) hm h) hd
theorem q4k{E:Value->Shared->Prop}{z5:List (Addr×Obj)}{s:Shared}{σ:St}{H:Hp}{x:Str}{u:Value}{pos:Pos}{Q:Value->Shared->Prop}(I:Inv X z5 σ H s)(hg:Gl X x)(hm:X.mg x=none)(hv:bootBuiltins x=some u)(h:Q u s)
 (hn:x≠"__name__":=by decide) (hd:(x==("__debug__":Str))=false:=by decide):wpAny (model X.prog X.w) X.A (eval (.Name x pos) X.env) Q E s:=by
 obtain⟨mb,h1,h2⟩:=I.mod.blt;exact Calls.Name_function_global I.ok.kind hg (Calls.loadGlobal_builtin (by rw[I.ok.glob];exact I.mod.glob.keeps I.bk) hm (by rw[I.ok.blt];exact h1.keeps I.bk) ((h2 x hn).trans hv) h) hd
theorem q46{x:Str}{v:V}{u:Value}{pos:Pos}(hg:Gl X x)(hm:X.mg x=none)(hv:bootBuiltins x=some u)(r:RelV v u)(hn:x≠"__name__":=by decide)(hd:(x==("__debug__":Str))=false:=by decide):PE X (.Name x pos) (tC v):=
 λ_ _ _ H _ I h=>q4k I hg hm hv ⟨v,H,I,r,h⟩ hn hd
variable{a b:Expr}{ta tb:TE}{pos:Pos}
def tB(t:TE):TT:=λσ H Q=>t σ H λx H1=>∃c,x=.bl c/\Q c H1
theorem q3l{e:Expr}{t:TE}(h:PE X e t)(he:∀zv,isTrue e X.env zv=(do let v <-zv;standAt e.pos;holding [v] (truthy v)):=by intro _;rfl):PT X e (tB t):=by intro z5 s σ H Q I hw;refine isTrue_plain (thn (h z5 s σ H _ I hw) λv s1 ⟨x,H1,I1,r1,q1⟩=>?_) (he _);obtain⟨d,rfl,q⟩:=q1;cases r1;exact kc ⟨H1,I1,q⟩
variable{tA tB':TT}{rest:List Expr}
def tAnd(t u:TT):TT:=λσ H Q=>t σ H λc H1=>if c=true then u σ H1 Q else Q false H1
def tOr(t u:TT):TT:=λσ H Q=>t σ H λc H1=>if c=true then Q true H1 else u σ H1 Q
def tNot(t:TT):TT:=λσ H Q=>t σ H λc H1=>Q (!c) H1
theorem pw_and1(ha:PT X a tA):PW X (.BoolOp .And [a] pos) tA:=by
 intro wh z5 s σ H Q I h;refine isTrue_and (thn (ha z5 s σ H Q I h) λc s1 e=>?_);cases c with
 |true=>exact isTrue_and_nil e
 |false=>exact e
theorem pw_or1(ha:PT X a tA):PW X (.BoolOp .Or [a] pos) tA:=by
 intro wh z5 s σ H Q I h;refine isTrue_or (thn (ha z5 s σ H Q I h) λc s1 e=>?_);cases c with
 |false=>exact isTrue_or_nil e
 |true=>exact e
theorem pw_and(ha:PT X a tA)(hb:PW X (.BoolOp .And (b::rest) pos) tB'):PW X (.BoolOp .And (a::b::rest) pos) (tAnd tA tB'):=by
 intro wh z5 s σ H Q I h;refine isTrue_and (thn (ha z5 s σ H _ I h) λc s1 ⟨H1,I1,q1⟩=>?_);cases c with
 |true=>exact hb wh z5 s1 σ H1 Q I1 q1
 |false=>exact⟨H1,I1,q1⟩
theorem pw_or(ha:PT X a tA)(hb:PW X (.BoolOp .Or (b::rest) pos) tB'):PW X (.BoolOp .Or (a::b::rest) pos) (tOr tA tB'):=by
 intro wh z5 s σ H Q I h;refine isTrue_or (thn (ha z5 s σ H _ I h) λc s1 ⟨H1,I1,q1⟩=>?_);cases c with
 |true=>exact⟨H1,I1,q1⟩
 |false=>exact hb wh z5 s1 σ H1 Q I1 q1
theorem q59(ha:PT X a tA):PT X (.UnaryOp .Not a pos) (tNot tA):=by intro z5 s σ H Q I h;exact isTrue_not (ha z5 s σ H (λc H1=>Q (!c) H1) I h)
def qpg(ta tb:TE):TE:=λσ H Q=>ta σ H λx H1=>∃c,x=.bl c/\if c=true then tb σ H1 Q else Q (.bl false) H1
def qp8(ta:TE):TE:=λσ H Q=>ta σ H λx H1=>∃c,x=.bl c/\Q (.bl (!c)) H1
theorem qqm{op}{t:TE}(h:PE X a t):PE X (.BoolOp op [a] pos) t:=λz5 s σ H Q I hw=>BoolOp_one (h z5 s σ H Q I hw)
theorem ql6(ha:PE X a ta)(hb:PE X (.BoolOp .And (b::rest) pos) tb):PE X (.BoolOp .And (a::b::rest) pos) (qpg ta tb):=by
 intro z5 s σ H Q I h;refine BoolOp_and (thn (ha z5 s σ H _ I h) λv s1 ⟨x,H1,I1,r1,q1⟩=>?_);obtain⟨c,rfl,q1⟩:=q1;cases r1;refine kc ?_;cases c with
 |true=>exact hb z5 s1 σ H1 Q I1 q1
 |false=>exact⟨.bl false,H1,I1,rfl,q1⟩
theorem qqn(ha:PE X a ta):PE X (.UnaryOp .Not a pos) (qp8 ta):=by intro z5 s σ H Q I h;refine UnaryOp_ (thn (ha z5 s σ H _ I h) λv s1 ⟨x,H1,I1,r1,q1⟩=>?_);obtain⟨c,rfl,q1⟩:=q1;cases r1;exact not_of (kc ⟨.bl (!c),H1,I1,rfl,q1⟩)
def tIf(t:TT)(ta tb:TE):TE:=λσ H Q=>t σ H λc H1=>if c=true then ta σ H1 Q else tb σ H1 Q
theorem q3j{c:Expr}(hc:PT X c tA)(ha:PE X a ta)(hb:PE X b tb):PE X (.IfExp c a b pos) (tIf tA ta tb):=by
 intro z5 s σ H Q I h;refine wpAny_IfExp (thn (hc z5 s σ H _ I h) λd s1 ⟨H1,I1,q1⟩=>?_);cases d with
 |true=>exact ha z5 s1 σ H1 Q I1 q1
 |false=>exact hb z5 s1 σ H1 Q I1 q1
end
def SqL(K:FrG)(H:Hp)(a:Addr)(xs:List V):Prop:=
 Rd H a (.lst xs)∨
  ∃(o:Obj) (its:Array Value) (n:Nat),K.lookup a=some o/\o.cls=.type "list"/\o.dict=none/\o.data=.seq its n/\its.size<=sizeLine/\Vals xs its.toList
def SqT(K:FrG)(H:Hp)(a:Addr)(xs:List V):Prop:=
 Rd H a (.tup xs)∨
  ∃(o:Obj) (its:Array Value) (n:Nat),K.lookup a=some o/\o.cls=.type "tuple"/\o.dict=none/\o.data=.seq its n/\its.size<=sizeLine/\Vals xs its.toList
def absV:Value->Option V
 |.none=>some .non
 |.bool b=>some (.bl b)
 |.int i _=>some (.int i)
 |.str x _=>some (.str x)
 |.bytes b _=>some (.byt b)
 |.float b _=>some (.flt b)
 |.ref a=>some (.ref a)
 |.type n=>some (.ty n)
 |_=>none
theorem RelV.abs{x:V}{u:Value}(r:RelV x u):absV u=some x:=by
 cases x with
 |non=>cases r;rfl
 |bl _=>cases r;rfl
 |int _=>obtain⟨t,rfl⟩:=r;rfl
 |str _=>obtain⟨t,rfl⟩:=r;rfl
 |byt _=>obtain⟨t,rfl⟩:=r;rfl
 |flt _=>obtain⟨t,rfl⟩:=r;rfl
 |ref _=>cases r;rfl
 |ty _=>cases r;rfl
theorem RelV.inj{x y:V}{u:Value}(r:RelV x u)(q:RelV y u):x=y:=je (r.abs.symm.trans q.abs)
theorem Vals.inj:∀{xs ys:List V} {us:List Value},Vals xs us->Vals ys us->xs=ys
 |_,_,_,.nil,.nil=>rfl
 |_,_,_,.cons r t,.cons r' t'=>by rw[r.inj r',Vals.inj t t']
section
variable{X:Cx}{z5:List (Addr×Obj)}{σ:St}{H:Hp}{s:Shared}{a:Addr}{xs ys:List V}
theorem SqL.of{K:FrG}(h:H a=some (.lst xs)):SqL K H a xs:=.inl (.inl h)
theorem SqT.of{K:FrG}(h:H a=some (.tup xs)):SqT K H a xs:=.inl (.inl h)
theorem Inv.list(I:Inv X z5 σ H s)(h:SqL X.K H a xs):∃its:List Value,Vals xs its/\PlainL s.heap a its.toArray/\xs.length<=sizeLine:=by
 rcases h with h|⟨o,its,n,hk,hc,hd,hs,hz,r⟩
 ·obtain⟨z,its,n,r,e⟩:=h.ok I.hok;exact⟨its,r,⟨_,n,e,rfl,rfl,rfl⟩,z⟩
 ·refine⟨its.toList,r,⟨o,n,I.kIn a o hk,hc,hd,by simpa using hs⟩,?_⟩;have e:=r.length;simp only[Array.length_toList]at e;omega
theorem Inv.tupN(I:Inv X z5 σ H s)(h:SqT X.K H a xs):∃its:List Value,Vals xs its/\TupN s.heap a its.toArray/\xs.length<=sizeLine:=by
 rcases h with h|⟨o,its,n,hk,hc,hd,hs,hz,r⟩
 ·obtain⟨z,its,r,p⟩:=h.ok I.hok;exact⟨its,r,p,z⟩
 ·refine⟨its.toList,r,⟨o,I.kIn a o hk,⟨hc,n,by simpa using hs⟩,hd⟩,?_⟩;have e:=r.length;simp only[Array.length_toList]at e;omega
theorem Inv.tuple(I:Inv X z5 σ H s)(h:SqT X.K H a xs):∃its:List Value,Vals xs its/\IsTup s.heap a its.toArray/\xs.length<=sizeLine:=let ⟨its,r,p,z⟩:=I.tupN h;⟨its,r,p.tup,z⟩
theorem Inv.list_inj(I:Inv X z5 σ H s)(h:SqL X.K H a xs)(h':SqL X.K H a ys):xs=ys:=by
 obtain⟨its,r,⟨o,n,e,_,_,d⟩,_⟩:=I.list h;obtain⟨its',r',⟨o',n',e',_,_,d'⟩,_⟩:=I.list h';rw[e]at e';cases e';rw[d]at d';injection d' with d1 _;have:its=its':=by simpa using congrArg Array.toList d1
 subst this;exact r.inj r'
theorem Inv.tuple_inj(I:Inv X z5 σ H s)(h:SqT X.K H a xs)(h':SqT X.K H a ys):xs=ys:=by
 obtain⟨its,r,⟨o,e,_,n,d⟩,_⟩:=I.tuple h;obtain⟨its',r',⟨o',e',_,n',d'⟩,_⟩:=I.tuple h';rw[e]at e';cases e';rw[d]at d';injection d' with d1 _;have:its=its':=by simpa using congrArg Array.toList d1
 subst this;exact r.inj r'
end
abbrev Cx.wish(X:Cx)(E:Value->Shared->Prop):Cx:={X with xe:=E}
abbrev Cx.nox(X:Cx):Cx:=X.wish λ_ _=>False
theorem Cx.Ok.wish{X:Cx}(ok:X.Ok)(E:Value->Shared->Prop):(X.wish E).Ok:=
 ⟨ok.mod,ok.kind,ok.glob,ok.blt,ok.above,ok.inj,ok.has,ok.cab,ok.hd,ok.frames,ok.stk,ok.exf,ok.bs,ok.bsz,ok.noex,ok.exfs,ok.funs,ok.frf⟩
theorem Cx.Ok.unwish{X:Cx}{E:Value->Shared->Prop}(ok:(X.wish E).Ok):X.Ok:=
 ⟨ok.mod,ok.kind,ok.glob,ok.blt,ok.above,ok.inj,ok.has,ok.cab,ok.hd,ok.frames,ok.stk,ok.exf,ok.bs,ok.bsz,ok.noex,ok.exfs,ok.funs,ok.frf⟩
section
variable{X:Cx}{z5:List (Addr×Obj)}{σ:St}{H:Hp}{s:Shared}{E:Value->Shared->Prop}
theorem Inv.wish(I:Inv X z5 σ H s)(E:Value->Shared->Prop):Inv (X.wish E) z5 σ H s:=⟨I.ok.wish E,I.os,I.bare,I.base,I.loc,I.cell,I.free,I.freeC,I.pin,I.hok,I.len⟩
theorem Inv.unwish(I:Inv (X.wish E) z5 σ H s):Inv X z5 σ H s:=⟨I.ok.unwish,I.os,I.bare,I.base,I.loc,I.cell,I.free,I.freeC,I.pin,I.hok,I.len⟩
theorem SP.unwish{D:Ends}{f:Flow}{s':Shared}(h:SP (X.wish E) z5 D f s'):SP X z5 D f s':=by
 cases f with
 |next=>obtain⟨σ',H',I,q⟩:=h;exact⟨σ',H',I.unwish,q⟩
 |brk=>obtain⟨σ',H',I,q⟩:=h;exact⟨σ',H',I.unwish,q⟩
 |cont=>obtain⟨σ',H',I,q⟩:=h;exact⟨σ',H',I.unwish,q⟩
 |ret u=>obtain⟨v,σ',H',I,r,q⟩:=h;exact⟨v,σ',H',I.unwish,r,q⟩
theorem PSs.nox{st:List Stmt}{t:TS}(h:PSs X.nox st t):PSs X st t:=λz5 s σ H D I hw=>
 xj (h z5 s σ H D (I.wish _) hw) (λ_ _ q=>q.unwish) λ_ _ z=>False.elim z
end
section
variable{X:Cx}{st:Stmt}{rest:List Stmt}{t u:TS}{e:Expr}{te:TE}{pos:Pos}
def qp9:TS:=λD σ H=>D.nx σ H
def tSeq(t u:TS):TS:=λD σ H=>t {D with nx:=u D} σ H
theorem q1j:PSs X [] qp9:=λ_ _ σ H _ I h=>wpAny_execs_nil ⟨σ,H,I,h⟩
theorem q07(h1:PS X st t)(h2:PSs X rest u):PSs X (st::rest) (tSeq t u):=by
 intro z5 s σ H D I h;refine wpAny_execs_cons (thn (h1 z5 s σ H {D with nx:=u D} I h) λf s1 q=>?_);cases f with
 | next=>
  obtain⟨σ',H',I',q⟩:=q;exact h2 z5 s1 σ' H' D I' q
 |ret v=>exact q
 |brk=>exact q
 |cont=>exact q
theorem q0b(h1:PS X st t):PSs X [st] t:=by
 intro z5 s σ H D I h;refine wpAny_execs_cons (thn (h1 z5 s σ H D I h) λf s1 q=>?_);cases f with
 |next=>exact wpAny_execs_nil q
 |ret v=>exact q
 |brk=>exact q
 |cont=>exact q
theorem Inv.quiet{z5:List (Addr×Obj)}{σ:St}{H:Hp}{s:Shared}(I:Inv X z5 σ H s):interactive X.env=false:=by simp[interactive,I.ok.kind]
def qej(te:TE):TS:=λD σ H=>te σ H λ_ H1=>D.nx σ H1
theorem q3b(he:PE X e te)(hs:swapsWith e none pos.line X.env=pure false:=by rfl):PS X (.Expr e pos) (qej te):=by intro z5 s σ H D I h;exact wpAny_Expr_any (thn (he z5 s σ H _ I h) λv s1 ⟨x,H1,I1,r1,q1⟩=>⟨σ,H1,I1,q1⟩) I.quiet hs
def tRet(te:TE):TS:=λD σ H=>te σ H D.rt
theorem q0t(he:PE X e te):PS X (.Return (some e) pos) (tRet te):=by intro z5 s σ H D I h;exact wpAny_Return_some (thn (he z5 s σ H _ I h) λv s1 ⟨x,H1,I1,r1,q1⟩=>⟨x,σ,H1,I1,r1,q1⟩)
def tIfS(c:TT)(t u:TS):TS:=λD σ H=>c σ H λb H1=>if b=true then t D σ H1 else u D σ H1
theorem q2w{c:Expr}{a b:List Stmt}{tc:TT}(hc:PT X c tc)(ha:PSs X a t)(hb:PSs X b u):PS X (.If c a b pos) (tIfS tc t u):=by
 intro z5 s σ H D I h;refine wpAny_If (thn (hc z5 s σ H _ I h) λd s1 ⟨H1,I1,q1⟩=>?_);cases d with
 |true=>exact ha z5 s1 σ H1 D I1 q1
 |false=>exact hb z5 s1 σ H1 D I1 q1
def qkz:TS:=λ_ _ _=>False
theorem qc1:PS X st qkz:=λ_ _ _ _ _ _ h=>h.elim
end
abbrev TG:=V->St->Hp->(St->Hp->Prop)->Prop
abbrev TGs:=List V->St->Hp->(St->Hp->Prop)->Prop
def PG(X:Cx)(zj:Expr)(t:TG):Prop:=
 ∀(z5:List (Addr×Obj)) (s:Shared) (σ:St) (H:Hp) (v:V) (u:Value) (Q:St->Hp->Prop),Inv X z5 σ H s->RelV v u->t v σ H Q->
   wpAny (model X.prog X.w) X.A (assign zj X.env u) (λ_ s'=>∃σ' H',Inv X z5 σ' H' s'/\Q σ' H') X.xe s
def PGs(X:Cx)(ts:List Expr)(t:TGs):Prop:=
 ∀(z5:List (Addr×Obj)) (s:Shared) (σ:St) (H:Hp) (vs:List V) (us:List Value) (Q:St->Hp->Prop),Inv X z5 σ H s->Vals vs us->t vs σ H Q->
   wpAny (model X.prog X.w) X.A (assignInOrder ((assignEach ts X.env).map (·.2)) us) (λ_ s'=>∃σ' H',Inv X z5 σ' H' s'/\Q σ' H') X.xe s
abbrev TSet:=V->V->V->Hp->(Hp->Prop)->Prop
def PSet(X:Cx)(t:TSet):Prop:=
 ∀(z5:List (Addr×Obj)) (s:Shared) (σ:St) (H:Hp) (o i v:V) (ov iv u:Value) (Q:Hp->Prop),Inv X z5 σ H s->RelV o ov->RelV i iv->RelV v u->t o i v H Q->
   wpAny (model X.prog X.w) X.A (setItem ov iv u) (λ_ s'=>∃H',Inv X z5 σ H' s'/\Q H') X.xe s
section
variable{X:Cx}{pos:Pos}
def q6f(i:Nat):TG:=λv σ H Q=>Q (σ.set i (some v)) H
theorem q0o{i:Nat}{x:Str}(hN:X.N.Nodup)(hi:X.N[i]? =some x)(hx:Loc X.env.scope x)(hf:X.fn x=true∨X.env.scope.names.lookup x=some .local:=by first|exact .inl rfl|exact .inr rfl|assumption):PG X (.Name x pos) (q6f i):=by intro z5 s σ H v u Q I r h;exact wpAny_assign_Name (q6u I hN hi hx r (λs' I'=>⟨_,H,I',h⟩) hf)
theorem zgA(i:Nat){x:Str}(hN:X.N.Nodup)(hi:X.N[i]? =some x:=by rfl)(hx:Loc X.env.scope x:=by first|exact .inl rfl|exact .inr rfl)(hf:X.fn x=true∨X.env.scope.names.lookup x=some .local:=by first|exact .inl rfl|exact .inr rfl|assumption):PG X (.Name x pos) (q6f i):=q0o hN hi hx hf
def gNil:TGs:=λvs σ H Q=>vs=[]/\Q σ H
def qjl(t:TG)(u:TGs):TGs:=λvs σ H Q=>∃v r,vs=v::r/\t v σ H λσ' H'=>u r σ' H' Q
theorem q3m:PGs X [] gNil:=by intro z5 s σ H vs us Q I r h;obtain⟨e,h⟩:=h;subst e;cases r;exact assignInOrder_nil ⟨σ,H,I,h⟩
theorem q1n{e:Expr}{es:List Expr}{t:TG}{u:TGs}(h1:PG X e t)(h2:PGs X es u)
 (hs:(assignEach (e::es) X.env).map (·.2)=assign e X.env::(assignEach es X.env).map (·.2):=by rfl):PGs X (e::es) (qjl t u):=by
 intro z5 s σ H vs us Q I r h;obtain⟨v,vr,e1,h⟩:=h;subst e1;cases r with
 | cons r rr=>
  rw[hs];refine assignInOrder_cons (thn (h1 z5 s σ H _ _ _ I r h) λ_ s1 ⟨σ1,H1,I1,q1⟩=>?_);exact h2 z5 s1 σ1 H1 _ _ Q I1 rr q1
def gTup(K:FrG)(n:Nat)(t:TGs):TG:=λv σ H Q=>∃a xs,v=.ref a/\SqT K H a xs/\xs.length=n/\t xs σ H Q
theorem qqj{es:List Expr}{k:Nat}{t:TGs}{n:Nat}(hc:X.calm=true)(h:PGs X es t)
 (hn:(assignEach es X.env).length=n:=by rfl) (hst:(assignEach es X.env).findIdx? (·.1)=none:=by rfl):PG X (.Tuple es k pos) (gTup X.K n t):=by
 intro z5 s σ H v u Q I r hw;obtain⟨a,xs,e1,hq,hl,hw⟩:=hw;subst e1;cases r;obtain⟨its,rv,ht,hz⟩:=I.tuple hq;refine assign_Tuple_tuple (I.ok.hd hc) ht (by simp[hn,<-hl,rv.length]) hst λh' hx=>?_;have I1:Inv X z5 σ H {s with heap:=h'}:=I.kept (t':=s.toks) λb o e=>hx b o (jf (j9 e)) e;exact h z5 _ σ H xs _ Q I1 (by simpa using rv) hw
def gSub(to ti:TE)(t:TSet):TG:=λv σ H Q=>to σ H λo H1=>ti σ H1 λi H2=>t o i v H2 λH3=>Q σ H3
theorem ql5{o i:Expr}{to ti:TE}{t:TSet}(ho:PE X o to)(hi:PE X i ti)(hs:PSet X t)
 (ha:∀v,assign (.Subscript o i pos) X.env v=(do
   let ov <-holding [v] (eval o X.env)
   let iv <-holding [v,ov] (eval i X.env)
   standAt pos
   holding [v,ov,iv] (setItem ov iv v)
   release [v,ov,iv] []):=by intro _;rfl):PG X (.Subscript o i pos) (gSub to ti t):=by
 intro z5 s σ H v u Q I r h;rw[ha];refine j6 (xy (thn (ho z5 s σ H _ I h) λov s1 ⟨x,H1,I1,r1,q1⟩=>?_));refine j6 (xy (thn (hi z5 s1 σ H1 _ I1 q1) λiv s2 ⟨y,H2,I2,r2,q2⟩=>?_));refine j6 (wpAny_standAt (j6 (xy (thn (hs z5 s2 σ H2 x y v ov iv u _ I2 r1 r2 r q2) λ_ s3 ⟨H3,I3,q3⟩=>?_))));exact wpAny_release ⟨σ,H3,I3,q3⟩
def tAsg(te:TE)(g:TG):TS:=λD σ H=>te σ H λx H1=>g x σ H1 D.nx
theorem qc2{tg e:Expr}{te:TE}{g:TG}(he:PE X e te)(hg:PG X tg g)(hs:swapsWithSole [tg] e pos.line X.env=pure false:=by rfl)(hw:swappedStores [tg] e X.env=pure none:=by rfl)
 (h1:(assignEach [tg] X.env).map (·.2)=[assign tg X.env]:=by rfl):PS X (.Assign [tg] e pos) (tAsg te g):=by
 intro z5 s σ H D I h;refine wpAny_Assign_stores (thn (he z5 s σ H _ I h) λv s1 ⟨x,H1,I1,r1,q1⟩=>?_) hs hw;rw[h1];exact thn (hg z5 s1 σ H1 x v _ I1 r1 q1) λ_ s2 q=>q
theorem q10{i:Nat}{x:Str}{e:Expr}{te:TE}{zy:Pos}(hN:X.N.Nodup)(hi:X.N[i]? =some x)(hx:Loc X.env.scope x)(he:PE X e te)(hs:swapsWith e (some (.Name x zy)) pos.line X.env=pure false:=by rfl)(hf:X.fn x=true∨X.env.scope.names.lookup x=some .local:=by first|exact .inl rfl|exact .inr rfl|assumption):
 PS X (.Assign [.Name x zy] e pos) (tAsg te (q6f i)):=by
 intro z5 s σ H D I h;refine wpAny_Assign_Name (thn (he z5 s σ H _ I h) λv s1 ⟨y,H1,I1,r1,q1⟩=>?_) hs;exact q6u I1 hN hi hx r1 (λs2 I2=>⟨_,H1,I2,q1⟩) hf
theorem zsA(i:Nat){x:Str}{e:Expr}{te:TE}{zy:Pos}(hN:X.N.Nodup)(he:PE X e te)(hi:X.N[i]? =some x:=by rfl)(hx:Loc X.env.scope x:=by first|exact .inl rfl|exact .inr rfl)(hs:swapsWith e (some (.Name x zy)) pos.line X.env=pure false:=by rfl)(hf:X.fn x=true∨X.env.scope.names.lookup x=some .local:=by first|exact .inl rfl|exact .inr rfl|assumption): PS X (.Assign [.Name x zy] e pos) (tAsg te (q6f i)):=q10 hN hi hx he hs hf
end
section
variable{X:Cx}{pos:Pos}
def qky(c:TT)(tb:TS):TS:=λD σ H=>∃W:Nat->St->Hp->Prop,(∃m,W m σ H)/\∀m σ H,W m σ H->
 c σ H λb H1=>if b=true then∃N:St->Hp->Prop,(∀σ' H',N σ' H'->∃m',m'<m/\W m' σ' H')/\tb {D with nx:=N,ct:=N,bk:=D.nx} σ H1 else D.nx σ H1
theorem qio{c:Expr}{body:List Stmt}{tc:TT}{tb:TS}(hp:PassesOwn (model X.prog X.w) X.A X.env X.xe)(hc:PT X c tc)(hb:PSs X body tb):PS X (.While c body [] pos) (qky tc tb):=by
 intro z5 s σ H D I h;obtain⟨W,⟨m0,w0⟩,turn⟩:=h;refine wpAny_While (codeAny_whileLoop (λn s'=>∃σ' H',Inv X z5 σ' H' s'/\W n σ' H') ?_ m0 ⟨σ,H,I,w0⟩);rintro n s1 ⟨σ1,H1,I1,w1⟩;refine ke hp (thn (hc z5 s1 σ1 H1 _ I1 (turn n σ1 H1 w1)) λb s2 ⟨H2,I2,q2⟩=>?_);cases b with
 | true=>
  obtain⟨N,hN,q2⟩:=q2;rw[if_pos rfl];refine ke hp (thn (hb z5 s2 σ1 H2 _ I2 q2) λf s3 q3=>?_);cases f with
  | next=>
   obtain⟨σ3,H3,I3,n3⟩:=q3;obtain⟨m',hm,w3⟩:=hN σ3 H3 n3;exact⟨m',hm,σ3,H3,I3,w3⟩
  | cont=>
   obtain⟨σ3,H3,I3,n3⟩:=q3;obtain⟨m',hm,w3⟩:=hN σ3 H3 n3;exact⟨m',hm,σ3,H3,I3,w3⟩
  |brk=>exact q3
  |ret v=>exact q3
 | false=>
  rw[if_neg Bool.false_ne_true];exact wpAny_execs_nil ⟨σ1,H2,I2,q2⟩
end
structure It where
 go:Nat->Hp->Prop
 yld:Nat->Hp->V->Hp->Prop
 stop:Nat->Hp->Prop
def FpOk(X:Cx)(z5:List (Addr×Obj))(H:Hp)(b:Addr):Prop:=
 H b=none/\b≠X.env.locals/\b∉X.fs/\(b∈X.ex∨X.s₀.heap.objs.size<=b)/\(∀x c,X.env.cells.lookup x=some c->c≠b)/\∀p∈X.pn++z5,p.1≠b
theorem Inv.fpOk{X:Cx}{z5:List (Addr×Obj)}{σ:St}{H H':Hp}{s:Shared}{b:Addr}(I:Inv X z5 σ H s)(hb:s.heap.objs.size<=b)(hn:H' b=none):FpOk X z5 H' b:=by
 refine⟨hn,Nat.ne_of_gt (jn I.lt hb),I.nofs hb,.inr (jr I.sz hb),λx c e z=>?_,λp hp z=>?_⟩
 ·obtain⟨v,q⟩:=I.cell x c e;exact absurd (jn q.lt (by rw[z];exact hb)) (jy _)
 ·exact absurd (jn (j9 (I.pin p hp).1) (by rw[z];exact hb)) (jy _)
structure Turn(P:Program)(w:World)(K:FrG)(tg:Expr)(J:It)(fp:List Addr)(it:Addr)(tn:Nat->Heap->Prop):Prop where
 mem:it∈fp
 obj:∀i h,tn i h->∀b∈fp,∃o,h.get? b=some o/\∀v,o.data≠.cell v
 keep:∀i h h',tn i h->(∀b∈fp,∀o,h.get? b=some o->h'.get? b=some o)->tn i h'
 item:∀(X:Cx),X.prog=P->X.w=w->X.K=K->X.calm=true->∀(i:Nat) (z5:List (Addr×Obj)) (s:Shared) (σ:St) (H:Hp) (E:Value->Shared->Prop),Inv X z5 σ H s->(∀b∈fp,FpOk X z5 H b)->tn i s.heap->J.go i H->
  wpAny (model P w) X.A (pyNext (.ref it)) (λr s1=>∃u,r=some u/\
   wpAny (model P w) X.A (letOwnedTupleGo tg (.ref it) u) (λ_ s2=>∃x H',Inv X z5 σ H' s2/\RelV x u/\J.yld i H x H'/\tn (i+1) s2.heap/\∀b∈fp,H' b=none) E s1) E s
 done:∀(X:Cx),X.prog=P->X.w=w->X.K=K->X.calm=true->∀(i:Nat) (z5:List (Addr×Obj)) (s:Shared) (σ:St) (H:Hp) (E:Value->Shared->Prop),Inv X z5 σ H s->(∀b∈fp,FpOk X z5 H b)->tn i s.heap->J.stop i H->
  wpAny (model P w) X.A (pyNext (.ref it)) (λr s1=>r=none/\Inv X z5 σ H s1) E s
 self:∀(A:Around) (i:Nat) (s:Shared) (Q:Value->Shared->Prop) (E:Value->Shared->Prop),tn i s.heap->Q (.ref it) s->wpAny (model P w) A (pyIter (.ref it)) Q E s
abbrev TI:=St->Hp->(It->Hp->Prop)->Prop
def PIE(X:Cx)(z5:List (Addr×Obj))(σ:St)(tg:Expr)(R:It->Hp->Prop)(itv:Value)(s2:Shared):Prop:=
 ∃(it:Addr) (fp:List Addr) (tn:Nat->Heap->Prop) (J:It) (H':Hp),itv=.ref it/\Inv X z5 σ H' s2/\Turn X.prog X.w X.K tg J fp it tn/\tn 0 s2.heap/\(∀b∈fp,FpOk X z5 H' b)/\R J H'
def PI(X:Cx)(tg ze:Expr)(wi:TI):Prop:=
 ∀(z5:List (Addr×Obj)) (s:Shared) (σ:St) (H:Hp) (R:It->Hp->Prop),Inv X z5 σ H s->wi σ H R->
   wpAny (model X.prog X.w) X.A (eval ze X.env) (λv s1=>wpAny (model X.prog X.w) X.A (pyIter v) (PIE X z5 σ tg R) X.xe s1) X.xe s
theorem qgz{M:Model}{A:Around}{E:Value->Shared->Prop}{s:Shared}{tg:Expr}{it:Addr}{u:Value}{o:Obj}{n:String}{vs:Array Value}{Q:Unit->Shared->Prop}(ho:s.heap.get? it=some o)(hc:o.cls=.type n)(hd:o.data=.fields vs)
 (hn:["enumerate","zip","dict_itemiterator","dict_reverseitemiterator","odict_iterator","itertools.zip_longest","itertools.pairwise"].contains n=false) (hQ:Q () s):wpAny M A (letOwnedTupleGo tg (.ref it) u) Q E s:=by
 unfold letOwnedTupleGo;cases tg<;>first
  |exact j8 hQ
  |(cases u<;>first
     |exact j8 hQ
     | (refine j6 (wpAny_load ho ?_)
        rw[hc,hd];show wpAny M A (if(["enumerate","zip","dict_itemiterator","dict_reverseitemiterator","odict_iterator","itertools.zip_longest","itertools.pairwise"].contains n&&vs[0]? ==some (rawInt _))=true then _ else _) Q E s;rw[if_neg (by intro h;rw[hn,Bool.false_and]at h;cases h)];exact j8 hQ))
def Itl(K:FrG)(a:Addr):It:=
 ⟨λi H=>∃xs x,SqL K H a xs/\xs[i]? =some x,λi H x H'=>H'=H/\∀xs,SqL K H a xs->xs[i]? =some x,λi H=>∃xs,SqL K H a xs/\xs.length<=i⟩
def Itt(K:FrG)(a:Addr):It:=
 ⟨λi H=>∃xs x,SqT K H a xs/\xs[i]? =some x,λi H x H'=>H'=H/\∀xs,SqT K H a xs->xs[i]? =some x,λi H=>∃xs,SqT K H a xs/\xs.length<=i⟩
def Itr(lo:Int)(n:Nat):It:=⟨λi _=>i<n,λi H x H'=>H'=H/\x=.int (lo+i),λi _=>n<=i⟩
theorem qeg{P:Program}{w:World}{K:FrG}{tg:Expr}(a it:Addr):Turn P w K tg (Itl K a) [it] it (λi h=>h.IsListIter it a i) where
 mem:=by simp
 obj:=λi h st b hb=>by
  have e:b=it:=by simpa using hb
  subst e;obtain⟨o,e,c,d⟩:=st;exact⟨o,e,λv z=>by rw[d]at z;cases z⟩
 keep:=λi h h' st k=>st.at λo e=>k it (by simp) o e
 item:=by intro X hP hw hK hc i z5 s σ H E I hf st hg;subst hP hw hK;obtain⟨xs,x,hq,hx⟩:=hg;obtain⟨its,rv,p,hz⟩:=I.list hq;obtain⟨u,hu,ru⟩:=rv.get hx;obtain⟨f0,f1,f2,f3,f4,f5⟩:=hf it (by simp);refine wpAny_pyNext_list_item st p.isList (x:=u) (by simpa using hu) λh' st' sb=>?_;have I1:Inv X z5 σ H {s with heap:=h'}:=I.turned (t':=s.toks) (λb o hb e=>(sb.2 b hb).trans e) f0 f1 f3 f4 f5;obtain⟨o,e,c,d⟩:=id st';exact⟨u,rfl,qgz (s:={s with heap:=h'}) e c d (by decide) ⟨x,H,I1,ru,⟨rfl,λys hy=>by rw[I.list_inj hy hq];exact hx⟩,st',λb hb=>(hf b hb).1⟩⟩
 done:=by intro X hP hw hK hc i z5 s σ H E I hf st hg;subst hP hw hK;obtain⟨xs,hq,hx⟩:=hg;obtain⟨its,rv,p,hz⟩:=I.list hq;obtain⟨f0,f1,f2,f3,f4,f5⟩:=hf it (by simp);have hl:=rv.length;exact wpAny_pyNext_list_end (I.ok.hd hc) st p.isList (by simp;omega) λh' eb=>⟨rfl,I.turned (t':=s.toks) (λb o hb e=>eb b o hb e) f0 f1 f3 f4 f5⟩
 self:=λ_ _ _ _ _ st h=>wpAny_pyIter_listiter st h
theorem qcx{P:Program}{w:World}{K:FrG}{tg:Expr}(a it:Addr):Turn P w K tg (Itt K a) [it] it (λi h=>h.IsTupleIter it a i) where
 mem:=by simp
 obj:=λi h st b hb=>by
  have e:b=it:=by simpa using hb
  subst e;obtain⟨o,e,c,d⟩:=st;exact⟨o,e,λv z=>by rw[d]at z;cases z⟩
 keep:=λi h h' st k=>st.at λo e=>k it (by simp) o e
 item:=by intro X hP hw hK hc i z5 s σ H E I hf st hg;subst hP hw hK;obtain⟨xs,x,hq,hx⟩:=hg;obtain⟨its,rv,p,hz⟩:=I.tuple hq;obtain⟨u,hu,ru⟩:=rv.get hx;obtain⟨f0,f1,f2,f3,f4,f5⟩:=hf it (by simp);refine wpAny_pyNext_tuple_item st (show s.heap.IsTuple a its.toArray from p) (x:=u) (by simpa using hu) λh' st' sb=>?_;have I1:Inv X z5 σ H {s with heap:=h'}:=I.turned (t':=s.toks) (λb o hb e=>(sb.2 b hb).trans e) f0 f1 f3 f4 f5;obtain⟨o,e,c,d⟩:=id st';exact⟨u,rfl,qgz (s:={s with heap:=h'}) e c d (by decide) ⟨x,H,I1,ru,⟨rfl,λys hy=>by rw[I.tuple_inj hy hq];exact hx⟩,st',λb hb=>(hf b hb).1⟩⟩
 done:=by intro X hP hw hK hc i z5 s σ H E I hf st hg;subst hP hw hK;obtain⟨xs,hq,hx⟩:=hg;obtain⟨its,rv,p,hz⟩:=I.tuple hq;obtain⟨f0,f1,f2,f3,f4,f5⟩:=hf it (by simp);have hl:=rv.length;exact wpAny_pyNext_tuple_end (I.ok.hd hc) st (show s.heap.IsTuple a its.toArray from p) (by simp;omega) λh' eb=>⟨rfl,I.turned (t':=s.toks) (λb o hb e=>eb b o hb e) f0 f1 f3 f4 f5⟩
 self:=λ_ _ _ _ _ st h=>wpAny_pyIter_tupleiter st h
theorem qcy{P:Program}{w:World}{K:FrG}{tg:Expr}(it:Addr)(lo:Int)(n:Nat):Turn P w K tg (Itr lo n) [it] it (λi h=>IsRangeIter h it (lo+(i:Nat)*1) ((n:Int)-(i:Nat)) 1) where
 mem:=by simp
 obj:=λi h st b hb=>by
  have e:b=it:=by simpa using hb
  subst e;exact⟨_,st,λv z=>by have z':Data.fields _=Data.cell v:=z;cases z'⟩
 keep:=λi h h' st k=>k it (by simp) _ st
 item:=by intro X hP hw hK hc i z5 s σ H E I hf st hg;subst hP hw hK;obtain⟨f0,f1,f2,f3,f4,f5⟩:=hf it (by simp);have W:=Walks.range (prog:=X.prog) (w:=X.w) (I.ok.hd hc) it lo 1 n;refine W.item i s _ _ hg st λv h' tk hv st' kk=>?_;obtain⟨t,rfl⟩:=hv;have I1:Inv X z5 σ H {s with heap:=h',toks:=tk}:=I.turned (λb o hb e=>kk b o (by simpa using hb) e) f0 f1 f3 f4 f5;refine⟨_,rfl,qgz (s:={s with heap:=h',toks:=tk}) (n:="range_iterator") st' rfl rfl (by decide) ⟨.int (lo+i),H,I1,⟨t,?_⟩,⟨rfl,rfl⟩,st',λb hb=>(hf b hb).1⟩⟩;rw[Int.mul_one]
 done:=by intro X hP hw hK hc i z5 s σ H E I hf st hg;subst hP hw hK;obtain⟨f0,f1,f2,f3,f4,f5⟩:=hf it (by simp);exact wpAny_pyNext_range_end (I.ok.hd hc) st (by have:n<=i:=hg;omega) λh' eb=>⟨rfl,I.turned (t':=s.toks) (λb o hb e=>eb b o hb e) f0 f1 f3 f4 f5⟩
 self:=λ_ _ _ _ _ st h=>wpAny_pyIter_rangeiter st h
section
variable{X:Cx}{tg:Expr}
def qnk(K:FrG)(tl:TE):TI:=λσ H R=>tl σ H λx H1=>∃a,x=.ref a/\(∃xs,SqL K H1 a xs)/\R (Itl K a) H1
def iTup(K:FrG)(tl:TE):TI:=λσ H R=>tl σ H λx H1=>∃a,x=.ref a/\(∃xs,SqT K H1 a xs)/\R (Itt K a) H1
theorem qmm{l:Expr}{tl:TE}(hl:PE X l tl):PI X tg l (qnk X.K tl):=by
 intro z5 s σ H R I h;refine thn (hl z5 s σ H _ I h) λv s1 ⟨x,H1,I1,r1,q1⟩=>?_;obtain⟨a,e,⟨xs,hq⟩,q⟩:=q1;subst e;cases r1;obtain⟨its,rv,p,hz⟩:=I1.list hq;refine wpAny_pyIter_list p.isList ?_;refine⟨s1.heap.objs.size,[s1.heap.objs.size],_,_,H1,rfl,I1.kept (t':=s1.toks) λb o e=>jb _ e,qeg a _,⟨_,jm _ rfl,rfl,rfl⟩,λb hb=>?_,q⟩;have e:b=s1.heap.objs.size:=by simpa using hb
 subst e;exact I1.fpOk (ja _) (I1.hok.fresh (ja _))
theorem qqh{l:Expr}{tl:TE}(hl:PE X l tl):PI X tg l (iTup X.K tl):=by
 intro z5 s σ H R I h;refine thn (hl z5 s σ H _ I h) λv s1 ⟨x,H1,I1,r1,q1⟩=>?_;obtain⟨a,e,⟨xs,hq⟩,q⟩:=q1;subst e;cases r1;obtain⟨its,rv,p,hz⟩:=I1.tuple hq;refine wpAny_pyIter_tuple (show s1.heap.IsTuple a its.toArray from p) ?_;refine⟨s1.heap.objs.size,[s1.heap.objs.size],_,_,H1,rfl,I1.kept (t':=s1.toks) λb o e=>jb _ e,qcx a _,⟨_,jm _ rfl,rfl,rfl⟩,λb hb=>?_,q⟩;have e:b=s1.heap.objs.size:=by simpa using hb
 subst e;exact I1.fpOk (ja _) (I1.hok.fresh (ja _))
theorem qim{z5:List (Addr×Obj)}{σ:St}{H:Hp}{s:Shared}{R:It->Hp->Prop}{E:Value->Shared->Prop}{lo hi:Int}{t u v:Tok}{tk:Nat}(I:Inv X z5 σ H s)(h1: -(2^62)<=lo)(h2:lo<2^62)(h3: -(2^62)<=hi)(h4:hi<2^62)
 (q:R (Itr lo (hi-lo).toNat) H):wpAny (model X.prog X.w) X.A (pyIter (.ref s.heap.objs.size)) (PIE X z5 σ tg R) E {s with heap:=s.heap.push {cls:=.type "range",data:=.fields #[.int lo t,.int hi u,.int 1 v]},toks:=tk}:=by
 refine wpAny_pyIter_range (IsRange.new ..) (small_one h1 h2 h3 h4) ?_;have I1:Inv X z5 σ H {s with heap:=s.heap.push {cls:=.type "range",data:=.fields #[.int lo t,.int hi u,.int 1 v]},toks:=tk}:=I.kept λb o e=>jb _ e;refine⟨(s.heap.push {cls:=.type "range",data:=.fields #[.int lo t,.int hi u,.int 1 v]}).objs.size,[(s.heap.push {cls:=.type "range",data:=.fields #[.int lo t,.int hi u,.int 1 v]}).objs.size],_,_,H,rfl,
  I1.kept (t':=tk) λb o e=>jb _ e,qcy _ lo (hi-lo).toNat,?_,λb hb=>?_,q⟩
 ·have e1:lo+((0:Nat):Int)*1=lo:=by simp
  have e2:(((hi-lo).toNat:Nat):Int)-((0:Nat):Int)=Builtin.Range.rangeSize lo hi 1:=by rw[rangeSize_one];split<;>omega
  show IsRangeIter _ _ (lo+((0:Nat):Int)*1) ((((hi-lo).toNat:Nat):Int)-((0:Nat):Int)) 1;rw[e1,e2];exact jm _ rfl
 ·have e:b=(s.heap.push {cls:=.type "range",data:=.fields #[.int lo t,.int hi u,.int 1 v]}).objs.size:=by simpa using hb
  subst e;exact I1.fpOk (ja _) (I1.hok.fresh (ja _))
def qt3(ta:TA):TI:=λσ H R=>ta σ H λvs H1=>∃j:Int,vs=[.int j]/\ -(2^62)<=j/\j<2^62/\R (Itr 0 j.toNat) H1
theorem q20{a:Expr}{ta:TA}{p pos:Pos}(hg:Gl X "range")(hm:X.mg "range"=none)(ha:PA X [a] ta)(hs:starEach [a] X.env=[(false,eval a X.env)]:=by rfl):PI X tg (.Call (.Name "range" p) [a] [] pos) (qt3 ta):=by
 intro z5 s σ H R I h;refine Call_ (q4k I hg hm boot_range (PyProof.Rows.callWith_type1 (thn (ha pos z5 s σ H _ I h) λus s1 ⟨vs,H1,I1,r1,q1⟩=>?_) hs rfl));obtain⟨j,e,q1,q2,q⟩:=q1;subst e;cases r1 with
 | cons r rr=>
  cases rr;obtain⟨t,rfl⟩:=r;exact call_range_1 (qim I1 (by omega) (by omega) q1 q2 (by simpa using q))
def tFor(wi:TI)(g:TG)(tb:TS):TS:=λD σ H=>wi σ H λJ H1=>∃W:Nat->Nat->St->Hp->Prop,(∃m,W 0 m σ H1)/\∀i m σ H,W i m σ H->
 (J.stop i H/\D.nx σ H)∨(J.go i H/\∃N:St->Hp->Prop,(∀σ' H',N σ' H'->∃m',m'<m/\W (i+1) m' σ' H')/\∀x H',J.yld i H x H'->g x σ H' λσ2 H2=>tb {D with nx:=N,ct:=N,bk:=D.nx} σ2 H2)
def q8b(fp:List Addr)(h:Heap):List (Addr×Obj):=fp.filterMap λb=>(h.get? b).map λo=>(b,o)
theorem q3k{fp:List Addr}{h:Heap}{b:Addr}{o:Obj}(hb:b∈fp)(e:h.get? b=some o):(b,o)∈q8b fp h:=List.mem_filterMap.mpr ⟨b,hb,by rw[e];rfl⟩
theorem qg6{fp:List Addr}{h:Heap}{p:Addr×Obj}(hp:p∈q8b fp h):p.1∈fp/\h.get? p.1=some p.2:=by
 obtain⟨b,hb,e⟩:=List.mem_filterMap.mp hp;cases q:h.get? b with
 |none=>rw[q]at e;cases e
 | some o=>
  rw[q]at e;have e':(b,o)=p:=je e;subst e';exact⟨hb,q⟩
theorem Inv.pinned{z5:List (Addr×Obj)}{σ:St}{H:Hp}{s:Shared}{fp:List Addr}(I:Inv X z5 σ H s)(hf:∀b∈fp,FpOk X z5 H b)(ho:∀b∈fp,∃o,s.heap.get? b=some o/\∀v,o.data≠.cell v):Inv X (z5++q8b fp s.heap) σ H s:=
 I.pins_of λp hp=>(List.mem_append.mp hp).elim (λz=>I.pin p (jt _ z)) λz=>by obtain⟨hb,e⟩:=qg6 z;obtain⟨f0,f1,f2,_⟩:=hf p.1 hb;obtain⟨o,e',d⟩:=ho p.1 hb;rw[e]at e';cases e';exact⟨e,f0,f1,f2,d⟩
theorem Inv.unpinned{z5 pl:List (Addr×Obj)}{σ:St}{H:Hp}{s:Shared}(I:Inv X (z5++pl) σ H s):Inv X z5 σ H s:=I.pins_of λp hp=>I.pin p (jt _ (List.mem_append_left _ hp))
theorem q31{ze:Expr}{body:List Stmt}{wi:TI}{g:TG}{tb:TS}{pos:Pos}(hp:PassesOwn (model X.prog X.w) X.A X.env X.xe)(hc:X.calm=true)(hi:PI X tg ze wi)(hg:PG X tg g)(hb:PSs X body tb)
 (hs:∀x,foldedSetIterable ze X.env x=pure x:=by intro _;rfl):PS X (.For tg ze body [] pos) (tFor wi g tb):=by
 intro z5 s σ H D I h;refine wpAny_For (thn (hi z5 s σ H _ I h) λv s1 h1=>thn h1 λitv s2 h2=>?_) hs;obtain⟨it,fp,tn,J,H2,e,I2,T,st2,f2,W,⟨m0,w0⟩,turn⟩:=h2;subst e
 -- what stays true of the iterator's objects through the loop
 have stat:∀{H':Hp},(∀b∈fp,H' b=none)->∀b∈fp,FpOk X z5 H' b:=λhn b hb=>⟨hn b hb,(f2 b hb).2⟩;refine codeAny_forLoop_any (λn s'=>∃i σ' H',Inv X z5 σ' H' s'/\tn i s'.heap/\(∀b∈fp,H' b=none)/\W i n σ' H') ?_ m0 ⟨0,σ,H2,I2,st2,λb hb=>(f2 b hb).1,w0⟩;rintro n s3 ⟨i,σ3,H3,I3,st3,fr3,w3⟩;rcases turn i n σ3 H3 w3 with⟨stop,qn⟩|⟨go,N,hN,step⟩
 ·refine ke hp (thn (T.done X rfl rfl rfl hc i z5 s3 σ3 H3 X.xe I3 (stat fr3) st3 stop) λr s4 ⟨hr,I4⟩=>?_);subst hr;exact wpAny_execs_nil ⟨σ3,H3,I4,qn⟩
 ·refine ke hp (thn (T.item X rfl rfl rfl hc i z5 s3 σ3 H3 X.xe I3 (stat fr3) st3 go) λr s4 ⟨u,hr,h4⟩=>?_);subst hr;refine ke hp (thn h4 λ_ s5 ⟨x,H5,I5,r5,y5,st5,fr5⟩=>?_);have I5':=I5.pinned (stat fr5) (T.obj _ _ st5);refine ke hp (thn (hg _ s5 σ3 H5 x u _ I5' r5 (step x H5 y5)) λ_ s6 ⟨σ6,H6,I6,q6⟩=>?_);refine ke hp (thn (hb _ s6 σ6 H6 _ I6 q6) λf s7 q7=>?_);have again:∀{σ7:St} {H7:Hp},Inv X (z5++q8b fp s5.heap) σ7 H7 s7->N σ7 H7->∃m,m<n/\∃i σ' H',Inv X z5 σ' H' s7/\tn i s7.heap/\(∀b∈fp,H' b=none)/\W i m σ' H':=λ{σ7 H7} I7 n7=>by
   obtain⟨m',hm,w7⟩:=hN σ7 H7 n7;refine⟨m',hm,i+1,σ7,H7,I7.unpinned,T.keep _ _ _ st5 λb hb o e=>(I7.pin (b,o) (jt _ (jt _ (q3k hb e)))).1,λb hb=>?_,w7⟩;obtain⟨o,e,d⟩:=T.obj _ _ st5 b hb;exact(I7.pin (b,o) (jt _ (jt _ (q3k hb e)))).2.1
  cases f with
  |next=>obtain⟨σ7,H7,I7,n7⟩:=q7;exact again I7 n7
  |cont=>obtain⟨σ7,H7,I7,n7⟩:=q7;exact again I7 n7
  |brk=>obtain⟨σ7,H7,I7,q7⟩:=q7;exact⟨σ7,H7,I7.unpinned,q7⟩
  |ret v=>obtain⟨x7,σ7,H7,I7,r7,q7⟩:=q7;exact⟨x7,σ7,H7,I7.unpinned,r7,q7⟩
end
abbrev R2:=V->V->Hp->VK->Prop
def OpR(X:Cx)(f:Value->Value->Sem Value)(r:R2):Prop:=
 ∀(z5:List (Addr×Obj)) (s:Shared) (σ:St) (H:Hp) (x y:V) (v u:Value) (Q:VK),Inv X z5 σ H s->RelV x v->RelV y u->r x y H Q->
   wpAny (model X.prog X.w) X.A (f v u) (EP X z5 σ Q) X.xe s
def UnR(X:Cx)(f:Value->Sem Value)(r:V->Hp->VK->Prop):Prop:=
 ∀(z5:List (Addr×Obj)) (s:Shared) (σ:St) (H:Hp) (x:V) (v:Value) (Q:VK),Inv X z5 σ H s->RelV x v->r x H Q->
   wpAny (model X.prog X.w) X.A (f v) (EP X z5 σ Q) X.xe s
def q57(X:Cx)(f:Value)(r:List V->Hp->VK->Prop):Prop:=
 ∀(z5:List (Addr×Obj)) (s:Shared) (σ:St) (H:Hp) (xs:List V) (us:List Value) (Q:VK),Inv X z5 σ H s->Vals xs us->r xs H Q->
   wpAny (model X.prog X.w) X.A (call f us) (EP X z5 σ Q) X.xe s
def tOp(r:R2)(ta tb:TE):TE:=λσ H Q=>ta σ H λx H1=>tb σ H1 λy H2=>r x y H2 Q
def tUn(r:V->Hp->VK->Prop)(ta:TE):TE:=λσ H Q=>ta σ H λx H1=>r x H1 Q
def rI(C:Int->Int->Prop)(g:Int->Int->V):R2:=λx y H Q=>∃i j,x=.int i/\y=.int j/\C i j/\Q (g i j) H
def rI0(g:Int->Int->V):R2:=λx y H Q=>∃i j,x=.int i/\y=.int j/\Q (g i j) H
def rU(g:Int->V):V->Hp->VK->Prop:=λx H Q=>∃i,x=.int i/\Q (g i) H
section
variable{X:Cx}{a b c:Expr}{ta tb tc:TE}{pos:Pos}
theorem binT(ha:PE X a ta)(hb:PE X b tb){z5:List (Addr×Obj)}{s:Shared}{σ:St}{H:Hp}{R:V->V->Hp->Prop}(I:Inv X z5 σ H s)
 (h:ta σ H λx H1=>tb σ H1 λy H2=>R x y H2) {Q:Value->Shared->Prop} {f:Value->Value->Sem Value}
 (hf:∀v u s2 x y H2,Inv X z5 σ H2 s2->RelV x v->RelV y u->R x y H2->wpAny (model X.prog X.w) X.A (f v u) Q X.xe s2):
 wpAny (model X.prog X.w) X.A (eval a X.env) (λv s₁=>wpAny (model X.prog X.w) X.A (eval b X.env) (λu s₂=>wpAny (model X.prog X.w) X.A (f v u) Q X.xe s₂) X.xe s₁) X.xe s:=by
 refine thn (ha z5 s σ H _ I h) λv s1 ⟨x,H1,I1,r1,q1⟩=>?_;refine thn (hb z5 s1 σ H1 _ I1 q1) λu s2 ⟨y,H2,I2,r2,q2⟩=>?_;exact hf v u s2 x y H2 I2 r1 r2 q2
theorem q13{op:Operator}{r:R2}(ho:OpR X (binaryOp op) r)(ha:PE X a ta)(hb:PE X b tb):PE X (.BinOp a op b pos) (tOp r ta tb):=by intro z5 s σ H Q I h;exact wpAny_BinOp (binT ha hb I h λv u s2 x y H2 I2 rx ry q=>ho z5 s2 σ H2 x y v u Q I2 rx ry q)
theorem qql{op:UnaryOp}{r:V->Hp->VK->Prop}(ho:UnR X (unaryOp op) r)(ha:PE X a ta):PE X (.UnaryOp op a pos) (tUn r ta):=by intro z5 s σ H Q I h;exact UnaryOp_ (thn (ha z5 s σ H _ I h) λv s1 ⟨x,H1,I1,r1,q1⟩=>ho z5 s1 σ H1 x v Q I1 r1 q1)
theorem opI{f:Value->Value->Sem Value}{C:Int->Int->Prop}{g:Int->Int->Int}
 (rule:∀(i j:Int) (t u:Tok) (s:Shared) (Q:Value->Shared->Prop) (E:Value->Shared->Prop),C i j->Q (.int (g i j) s.toks) {s with toks:=s.toks+1}->wpAny (model X.prog X.w) X.A (f (.int i t) (.int j u)) Q E s):
 OpR X f (rI C λi j=>.int (g i j)):=by
 intro z5 s σ H x y v u Q I rx ry h;obtain⟨i,j,rfl,rfl,hc,q⟩:=h;obtain⟨t,rfl⟩:=rx;obtain⟨t',rfl⟩:=ry;exact rule i j t t' s _ _ hc ⟨.int (g i j),H,I.tok _,⟨_,rfl⟩,q⟩
theorem opI0{f:Value->Value->Sem Value}{g:Int->Int->Int}
 (rule:∀(i j:Int) (t u:Tok) (s:Shared) (Q:Value->Shared->Prop) (E:Value->Shared->Prop),Q (.int (g i j) s.toks) {s with toks:=s.toks+1}->wpAny (model X.prog X.w) X.A (f (.int i t) (.int j u)) Q E s):
 OpR X f (rI0 λi j=>.int (g i j)):=by
 intro z5 s σ H x y v u Q I rx ry h;obtain⟨i,j,rfl,rfl,q⟩:=h;obtain⟨t,rfl⟩:=rx;obtain⟨t',rfl⟩:=ry;exact rule i j t t' s _ _ ⟨.int (g i j),H,I.tok _,⟨_,rfl⟩,q⟩
theorem opB0{f:Value->Value->Sem Value}{g:Int->Int->Bool}
 (rule:∀(i j:Int) (t u:Tok) (s:Shared) (Q:Value->Shared->Prop) (E:Value->Shared->Prop),Q (.bool (g i j)) s->wpAny (model X.prog X.w) X.A (f (.int i t) (.int j u)) Q E s):
 OpR X f (rI0 λi j=>.bl (g i j)):=by
 intro z5 s σ H x y v u Q I rx ry h;obtain⟨i,j,rfl,rfl,q⟩:=h;obtain⟨t,rfl⟩:=rx;obtain⟨t',rfl⟩:=ry;exact rule i j t t' s _ _ ⟨.bl (g i j),H,I,rfl,q⟩
def CDiv(i j:Int):Prop:=0<j/\j<1073741824
def CPow(i j:Int):Prop:=0<=j/\j<=1000000/\i.natAbs<2^64
def CMul(i j:Int):Prop:=(-(2^64)<i/\i<2^64)∨(-(2^64)<j/\j<2^64)
theorem CMul.ok{i j:Int}(h:CMul i j):IntMulOk i j:=by
 rcases h with⟨h1,h2⟩|⟨h1,h2⟩
 ·exact .of_left (intBits_le_64 h1 h2)
 ·exact .of_right (intBits_le_64 h1 h2)
theorem qcw(k:Nat):(0:Int)<=2^k:=by rw[two_pow_cast];exact Int.natCast_nonneg _
theorem op_add:OpR X (binaryOp .Add) (rI0 λi j=>.int (i+j)):=opI0 λ_ _ _ _ _ _ _ q=>add_int q
theorem q5a:OpR X (binaryOp .Sub) (rI0 λi j=>.int (i-j)):=opI0 λ_ _ _ _ _ _ _ q=>sub_int q
theorem qb7:OpR X (binaryOp .FloorDiv) (rI CDiv λi j=>.int (i / j)):=opI λi j _ _ _ _ _ hc q=>by have h1:(0:Int)<j:=hc.1;have h2:j<1073741824:=hc.2;exact floordiv_int (by omega) (by rw[Int.fdiv_eq_ediv_of_nonneg i (by omega)];exact q) (.inl (PyProof.noPylong_small (by omega)))
theorem q2k:OpR X (binaryOp .Mod) (rI (λ_ j=>0<j) λi j=>.int (i % j)):=opI λi j _ _ _ _ _ hc q=>by have h1:(0:Int)<j:=hc;exact mod_int' (by omega) (by rw[Int.fmod_eq_emod_of_nonneg i (by omega)];exact q)
theorem qla:OpR X (binaryOp .Pow) (rI CPow λi j=>.int (i^j.toNat)):=opI λ_ _ _ _ _ _ _ hc q=>pow_int_small hc.1 hc.2.1 hc.2.2 q
theorem q7c:OpR X (binaryOp .LShift) (rI CPow λi j=>.int (i*2^j.toNat)):=opI λ_ _ _ _ _ _ _ hc q=>lshift_int_small hc.1 hc.2.1 hc.2.2 q
theorem ql9:OpR X (binaryOp .RShift) (rI (λ_ j=>0<=j) λi j=>.int (i / 2^j.toNat)):=opI λi j _ _ _ _ _ hc q=>
 rshift_int hc (by rw[Int.fdiv_eq_ediv_of_nonneg i (qcw _)];exact q)
theorem qa0:OpR X (binaryOp .BitAnd) (rI0 λi j=>.int (Builtin.bitAnd i j)):=opI0 λ_ _ _ _ _ _ _ q=>and_int q
theorem qqr:OpR X (binaryOp .BitXor) (rI0 λi j=>.int (Builtin.bitXor i j)):=opI0 λ_ _ _ _ _ _ _ q=>xor_int q
theorem unI{f:Value->Sem Value}{g:Int->Int}
 (rule:∀(i:Int) (t:Tok) (s:Shared) (Q:Value->Shared->Prop) (E:Value->Shared->Prop),Q (.int (g i) s.toks) {s with toks:=s.toks+1}->wpAny (model X.prog X.w) X.A (f (.int i t)) Q E s):
 UnR X f (rU λi=>.int (g i)):=by
 intro z5 s σ H x v Q I rx h;obtain⟨i,rfl,q⟩:=h;obtain⟨t,rfl⟩:=rx;exact rule i t s _ _ ⟨.int (g i),H,I.tok _,⟨_,rfl⟩,q⟩
theorem qkw:UnR X (unaryOp .USub) (rU λi=>.int (-i)):=unI λ_ _ _ _ _ q=>neg_int q
end
section
variable{X:Cx}{a b c:Expr}{ta tb tc:TE}{pos:Pos}
theorem qm0{z5:List (Addr×Obj)}{σ:St}{H:Hp}{s:Shared}{Q:VK}{k k':Bool}(I:Inv X z5 σ H s)(q:Q (.bl k) H)(e:k=k'):EP X z5 σ Q (.bool k') s:=by subst e;exact⟨.bl k,H,I,rfl,q⟩
theorem qdq:OpR X (compareOp .Lt) (rI0 λi j=>.bl (decide (i<j))):=opB0 λ_ _ _ _ _ _ _ q=>lt_int q
theorem qqt:OpR X (compareOp .LtE) (rI0 λi j=>.bl (decide (i<=j))):=opB0 λ_ _ _ _ _ _ _ q=>le_int q
theorem qur:OpR X (compareOp .Gt) (rI0 λi j=>.bl (decide (j<i))):=opB0 λ_ _ _ _ _ _ _ q=>gt_int q
theorem qg1:OpR X (compareOp .Is) (λx y H Q=>y=.non/\Q (.bl (decide (x=.non))) H):=by
 intro z5 s σ H x y v u Q I rx ry h;obtain⟨rfl,q⟩:=h;cases ry;refine is_none_gen (qm0 I q ?_);cases x<;>first
  |(cases rx;rfl)
  |(obtain⟨t,rfl⟩:=rx;rfl)
theorem qb6:OpR X (compareOp .IsNot) (λx y H Q=>y=.non/\Q (.bl (!decide (x=.non))) H):=by
 intro z5 s σ H x y v u Q I rx ry h;obtain⟨rfl,q⟩:=h;cases ry;refine isnot_none_gen (qm0 I q ?_);cases x<;>first
  |(cases rx;rfl)
  |(obtain⟨t,rfl⟩:=rx;rfl)
theorem OpR.or{f:Value->Value->Sem Value}{r r':R2}(h:OpR X f r)(h':OpR X f r'):OpR X f (λx y H Q=>r x y H Q∨r' x y H Q):=by
 intro z5 s σ H x y v u Q I rx ry q;rcases q with q|q
 ·exact h z5 s σ H x y v u Q I rx ry q
 ·exact h' z5 s σ H x y v u Q I rx ry q
theorem q1b(b:Expr){op:CmpOp}(h:op≠.In:=by decide)(h2:op≠.NotIn:=by decide):behindInMarks op b=false:=by
 have e1:(op==CmpOp.In)=false:=by cases op<;>first|rfl|exact absurd rfl h
 have e2:(op==CmpOp.NotIn)=false:=by cases op<;>first|rfl|exact absurd rfl h2
 cases b<;>simp[behindInMarks,e1,e2]
theorem q79{op:CmpOp}{r:R2}(ho:OpR X (compareOp op) r)(ha:PE X a ta)(hb:PE X b tb)(hm:behindInMarks op b=false):PE X (.Compare a [op] [b] pos) (tOp r ta tb):=by intro z5 s σ H Q I h;exact wpAny_Compare1 (binT ha hb I h λv u s2 x y H2 I2 rx ry q=>ho z5 s2 σ H2 x y v u Q I2 rx ry q) hm
def qp6(t:TE):TT:=λσ H Q=>t σ H λx H'=>∃k,x=.bl k/\Q k H'
theorem q12{op:CmpOp}{r:R2}(ho:OpR X (compareOp op) r)(ha:PE X a ta)(hb:PE X b tb)(hm:behindInMarks op b=false):PT X (.Compare a [op] [b] pos) (qp6 (tOp r ta tb)):=by
 intro z5 s σ H Q I h;refine wpAny_isTrue_Compare1 (thn (ha z5 s σ H _ I h) λv s1 ⟨x,H1,I1,r1,q1⟩=>thn (hb z5 s1 σ H1 _ I1 q1) λu s2 ⟨y,H2,I2,r2,q2⟩=>
  thn (ho z5 s2 σ H2 x y v u _ I2 r1 r2 q2) λc s3 ⟨z,H3,I3,r3,k,e,q3⟩=>?_) hm
 subst e;cases r3;exact kc ⟨H3,I3,q3⟩
def ql2(r r':R2)(ta tb tc:TE):TE:=λσ H Q=>ta σ H λx H1=>tb σ H1 λy H2=>r x y H2 λz H3=>∃k,z=.bl k/\
 (if k=true then tc σ H3 λw' H4=>r' y w' H4 Q else Q (.bl false) H3)
theorem qiu{op op':CmpOp}{r r':R2}(ho:OpR X (compareOp op) r)(ho':OpR X (compareOp op') r')(ha:PE X a ta)(hb:PE X b tb)(hc:PE X c tc)
 (hm:lastMarks [op,op'] [b,c]=false:=by with_unfolding_all rfl):PE X (.Compare a [op,op'] [b,c] pos) (ql2 r r' ta tb tc):=by
 intro z5 s σ H Q I h;refine Compare_chain (thn (ha z5 s σ H _ I h) λv s1 ⟨x,H1,I1,r1,q1⟩=>chain_link (thn (hb z5 s1 σ H1 _ I1 q1) λu s2 ⟨y,H2,I2,r2,q2⟩=>
  thn (ho z5 s2 σ H2 x y v u _ I2 r1 r2 q2) λd s3 ⟨z,H3,I3,r3,k,e,q3⟩=>?_)) hm
 subst e;cases r3;refine kc ?_;cases k with
 |false=>exact ite_ff ⟨.bl false,H3,I3,rfl,q3⟩
 |true=>exact ite_tt (chain_last (thn (hc z5 s3 σ H3 _ I3 q3) λw' s4 ⟨z',H4,I4,r4,q4⟩=>ho' z5 s4 σ H4 y z' u w' Q I4 r2 r4 q4))
theorem qa6:(sizeLine:Nat)<2^63:=by rw[sizeLine_eq];decide
theorem qdr:OpR X (binaryOp .Add) (λx y H Q=>∃i j,x=.str i/\y=.str j/\i.length+j.length<=sizeLine/\Q (.str (i++j)) H):=by intro z5 s σ H x y v u Q I rx ry h;obtain⟨i,j,rfl,rfl,hz,q⟩:=h;obtain⟨t,rfl⟩:=rx;obtain⟨t',rfl⟩:=ry;exact add_str (λt' tk=>⟨.str (i++j),H,I.tok _,⟨_,rfl⟩,q⟩) hz
theorem vals1{x:V}{us:List Value}(r:Vals [x] us):∃u,us=[u]/\RelV x u:=by
 cases r with
 |cons r1 r2=>cases r2;exact⟨_,rfl,r1⟩
theorem vals2{x y:V}{us:List Value}(r:Vals [x,y] us):∃u w',us=[u,w']/\RelV x u/\RelV y w':=by
 cases r with
 | cons r1 r2=>
  cases r2 with
  |cons r3 r4=>cases r4;exact⟨_,_,rfl,r1,r3⟩
theorem qhk(hc:X.calm=true):q57 X (.builtin "max") (λxs H Q=>∃i j,xs=[.int i,.int j]/\Q (.int (if j>i then j else i)) H):=by
 intro z5 s σ H xs us Q I r h;obtain⟨i,j,rfl,q⟩:=h;obtain⟨u,w',rfl,⟨t,rfl⟩,⟨t',rfl⟩⟩:=vals2 r;refine max_two_ints (I.ok.hd hc) λh' tk k=>⟨_,H,I.kept k,?_,q⟩;by_cases hj:j>i
 ·rw[if_pos hj,if_pos hj];exact⟨_,rfl⟩
 ·rw[if_neg hj,if_neg hj];exact⟨_,rfl⟩
theorem qhj(hc:X.calm=true):q57 X (.builtin "min") (λxs H Q=>∃i j,xs=[.int i,.int j]/\Q (.int (if j<i then j else i)) H):=by
 intro z5 s σ H xs us Q I r h;obtain⟨i,j,rfl,q⟩:=h;obtain⟨u,w',rfl,⟨t,rfl⟩,⟨t',rfl⟩⟩:=vals2 r;refine min_two_ints (I.ok.hd hc) λh' tk k=>⟨_,H,I.kept k,?_,q⟩;by_cases hj:j<i
 ·rw[if_pos hj,if_pos hj];exact⟨_,rfl⟩
 ·rw[if_neg hj,if_neg hj];exact⟨_,rfl⟩
theorem q65:q57 X (.type "int") (λxs H Q=>(∃i,xs=[.int i]/\Q (.int i) H)∨∃k,xs=[.bl k]/\Q (.int (if k then 1 else 0)) H):=by
 intro z5 s σ H xs us Q I r h;rcases h with⟨i,rfl,q⟩|⟨k,rfl,q⟩
 ·obtain⟨u,rfl,t,rfl⟩:=vals1 r;exact call_int_int ⟨.int i,H,I,⟨_,rfl⟩,q⟩
 ·obtain⟨u,rfl,r1⟩:=vals1 r;cases r1;exact call_int_bool ⟨.int (if k then 1 else 0),H,I.tok _,⟨_,rfl⟩,q⟩
end
structure ObjM(h:Heap)(x dx C:Addr)(mA:Str->Option Value):Prop where
 obj:h.get? x=some (PySem.W.instObj C dx)
 ns:h.Ns1 dx mA
 ne:dx≠x
theorem qgo{h:Heap}{dx:Addr}{mA:Str->Option Value}(n:h.Ns1 dx mA):∃od,h.get? dx=some od/\∀name,PySem.W.lookIn name od=some (mA name):=by
 obtain⟨o,es,ep,ho,hd,hk,_,hm⟩:=n;refine⟨o,ho,λname=>?_⟩;have e:=hm name;unfold nsFind findBy at e;rw[<-Array.find?_toList]at e;unfold PySem.W.lookIn;rw[hd];dsimp only;split
 ·rename_i y q;rw[q]at e;exact congrArg some e
 ·rename_i q;rw[q]at e;have a:es.toList.any (·.refKey)=false:=by
   rw[List.any_eq_false];intro y hy;obtain⟨z,t,hkey⟩:=hk y (Array.mem_toList_iff.mp hy);simp[DictEntry.refKey,hkey]
  have a':¬es.toList.any (·.refKey)=true:=by rw[a];exact Bool.false_ne_true
  rw[if_neg a'];exact congrArg some e
theorem ObjM.look{h:Heap}{x dx C:Addr}{mA:Str->Option Value}(I:ObjM h x dx C mA):∃od,PySem.W.InstAt h x (PySem.W.instObj C dx) C (some od)/\∀name,PySem.W.lookIn name od=some (mA name):=
 let ⟨od,ho,hl⟩:=qgo I.ns
 ⟨od,⟨I.obj,rfl,rfl,ho⟩,hl⟩
section
variable{prog:Program}{w:World}{A:Around}{E:Value->Shared->Prop}{s:Shared}{K:FrG}{x dx C f:Addr}{mA:Str->Option Value}{name:Str}{v:Value}
theorem get_map{expr:Bool}{Q:Value->Shared->Prop}(X:K.In s.heap)(I:ObjM s.heap x dx C mA)(hg:PySem.W.plainGet K C name=true)(hh:PySem.W.hasDictIn K C=true)
 (ha:PySem.W.findIn K (.ref C) name=some none) (hv:mA name=some v) (hv':PySem.W.handedIn v=true) (h:Q v {s with toks:=s.toks+1}):
 wpAny (model prog w) A (getAttr (.ref x) name expr) Q E s:=by
 obtain⟨od,J,hl⟩:=I.look;exact PySem.W.get_value X J (PySem.W.plainGet_of hg).1 (PySem.W.findObj_own hh ha rfl (by rw[hl,hv])) hv' h
theorem qjj{pl:Sem Bool}{Q:Value×List Value->Shared->Prop}(X:K.In s.heap)(I:ObjM s.heap x dx C mA)(hg:PySem.W.plainGet K C name=true)
 (hf:PySem.W.findIn K (.ref C) name=some (some (.ref f))) (ht:PySem.W.isFn K (.ref f)=true) (hv:mA name=none) (h:Q (.ref f,[.ref x]) s):
 wpAny (model prog w) A (getMethod (.ref x) name pl) Q E s:=by
 obtain⟨od,J,hl⟩:=I.look;exact PySem.W.method_fn X J (PySem.W.plainGet_of hg).1 (PySem.W.plainGet_of hg).2 hf (beq_iff_eq.mp ht) (by show(PySem.W.lookIn name od).map (·.isSome)=some false;rw[hl,hv];rfl) h
theorem qmg{ns:List Str}{Q:Unit->Shared->Prop}(X:K.In s.heap)(I:ObjM s.heap x dx C mA)
 (hs:PySem.W.findIn K (.ref C) "__setattr__"=some (some (.builtin "object.__setattr__"))) (hp:PySem.W.plainOver K C=true) (ht:PySem.W.takerIn K C name=some none) (hh:PySem.W.hasDictIn K C=true)
 (hw:PySem.Within mA ns) (hsz:ns.length<=sizeLine)
 (h:∀h',ObjM h' x dx C (λy=>if y=name then some v else mA y)->Heap.SameBut dx s.heap h'->Q () {s with heap:=h',toks:=s.toks+2}):
 wpAny (model prog w) A (setAttr (.ref x) name v) Q E s:=by
 obtain⟨od,J,hl⟩:=I.look;refine PySem.W.set_plain X J hs (PySem.W.osa_open (s:={s with toks:=s.toks+1}) (r:=none) X J hp ht λb=>?_);obtain⟨cd,hc,hd'⟩:=PySem.W.any_some hh;have hx:s.heap.get? x=some ⟨.ref C,some dx,.plain,#[]⟩:=I.obj;refine j6 (j8 (j6 (j6 (wpAny_loadPart hx (j6 (PySem.W.Looks.here (s:={s with toks:=s.toks+1}) (PySem.W.looks_clsIn X hc) ?_))))));rw[hd'];refine j8 (a:=some dx) (j6 (j8 (j6 ?_)));refine wpAny_nsSet1 (s:={s with toks:=s.toks+1}) I.ns λh' hn2 hs2=>?_;obtain⟨oD,esD,epD,hoD,hdD,hcD⟩:=hn2.count (PySem.Within.cons name v hw);refine j6 (wpAny_lookBehind hoD (by rw[hdD];exact pastItsLine_dict (jr hcD (by rw[jq];omega))) ?_);exact j8 (h _ ⟨(hs2.2 _ (Ne.symm I.ne)).trans I.obj,hn2,I.ne⟩ hs2)
theorem qj8{R:Result->Shared->Prop}{vs:List Value}{kw:List (Str×Value)}(X:K.In s.heap)(hm:PySem.W.makesIn K C=true)
 (hi:PySem.W.findIn K (.ref C) "__init__"=some (some (.ref f))) (hf:PySem.W.typeIn K (.ref f)=some (.type "function"))
 (h:codeAny (model prog w) (A.under (.builtin "type.__call__" ⟨.ref C::vs,kw⟩)) (.call (.ref f) ⟨.ref (s.heap.objs.size+1)::vs,kw⟩) (PySem.W.InitBack (s.heap.objs.size+1) R)
   {s with heap:=(s.heap.push PySem.W.emptyDict).push (PySem.W.instObj C s.heap.objs.size)}):
 codeAny (model prog w) A (.call (.ref C) ⟨vs,kw⟩) R s:=by
 obtain⟨hh,g,d,t,os⟩:=s;exact PySem.W.make_core (PySem.W.makes_of X hm) (PySem.W.looks_findIn X hi) (λself=>PySem.W.bind_fn X self hf) (.inl rfl) h
theorem qgk{R:Result->Shared->Prop}(X:K.In s.heap)(hm:PySem.W.makesIn K C=true)
 (hi:PySem.W.findIn K (.ref C) "__init__"=some (some (.builtin "object.__init__")))
 (hb:∀self,PySem.W.Looks (model prog w) s.heap (bindSpecial (.builtin "object.__init__") self) (.builtin "object.__init__",[self]))
 (h:codeAny (model prog w) (A.under (.builtin "type.__call__" ⟨[.ref C],[]⟩)) (.call (.builtin "object.__init__") ⟨[.ref (s.heap.objs.size+1)],[]⟩) (PySem.W.InitBack (s.heap.objs.size+1) R)
   {s with heap:=(s.heap.push PySem.W.emptyDict).push (PySem.W.instObj C s.heap.objs.size)}):
 codeAny (model prog w) A (.call (.ref C) ⟨[],[]⟩) R s:=by
 obtain⟨hh,g,d,t,os⟩:=s;exact PySem.W.make_core (PySem.W.makes_of X hm) (PySem.W.looks_findIn X hi) hb (.inr ⟨rfl,rfl⟩) h
end
def putF(f:Str)(v:V):List (Str×V)->List (Str×V)
 |[]=>[(f,v)]
 |(g,x)::r=>if g=f then(g,v)::r else(g,x)::putF f v r
theorem q7q(f g:Str)(v:V):∀fs:List (Str×V),(putF f v fs).lookup g=if g=f then some v else fs.lookup g
 | []=>by
  show List.lookup g [(f,v)]=_;by_cases h:g=f
  ·have hb:(g==f)=true:=beq_iff_eq.mpr h;simp only[List.lookup,hb,if_pos h]
  ·have hb:(g==f)=false:=beq_eq_false_iff_ne.mpr h;simp only[List.lookup,hb,if_neg h]
 | (k,x)::r=>by
  have ih:=q7q f g v r;rw[show putF f v ((k,x)::r)=(if k=f then(k,v)::r else(k,x)::putF f v r)from rfl];by_cases hk:k=f
  ·rw[if_pos hk];by_cases h:g=k
   ·have hb:(g==k)=true:=beq_iff_eq.mpr h;simp only[List.lookup,hb,if_pos (h.trans hk)]
   ·have hb:(g==k)=false:=beq_eq_false_iff_ne.mpr h;simp only[List.lookup,hb,if_neg (λe:g=f=>h (e.trans hk.symm))]
  ·rw[if_neg hk];by_cases h:g=k
   ·have hb:(g==k)=true:=beq_iff_eq.mpr h;simp only[List.lookup,hb,if_neg (λe:g=f=>hk (h.symm.trans e))]
   ·have hb:(g==k)=false:=beq_eq_false_iff_ne.mpr h;simp only[List.lookup,hb];exact ih
theorem q7t(f:Str)(v:V):∀fs:List (Str×V),f∈(putF f v fs).map (·.1)/\∀g,g∈fs.map (·.1)->g∈(putF f v fs).map (·.1)
 |[]=>⟨by simp[putF],λg h=>by simp at h⟩
 | (k,x)::r=>by
  obtain⟨i1,i2⟩:=q7t f v r;rw[show putF f v ((k,x)::r)=(if k=f then(k,v)::r else(k,x)::putF f v r)from rfl];by_cases hk:k=f
  ·rw[if_pos hk];subst hk;exact⟨by simp,λg h=>by simpa using h⟩
  ·rw[if_neg hk];refine⟨?_,λg h=>?_⟩
   ·rw[ju];exact jj _ i1
   ·rw[ju]at h ⊢;rcases List.mem_cons.mp h with e|e
    ·exact List.mem_cons.mpr (.inl e)
    ·exact jj _ (i2 g e)
theorem q7r(f:Str)(v:V):∀fs:List (Str×V),(putF f v fs).length<=fs.length+1
 |[]=>by simp[putF]
 | (k,x)::r=>by
  have ih:=q7r f v r;rw[show putF f v ((k,x)::r)=(if k=f then(k,v)::r else(k,x)::putF f v r)from rfl];by_cases hk:k=f
  ·rw[if_pos hk,jq,jq];omega
  ·rw[if_neg hk,jq,jq];omega
theorem RelO.some_of{v:V}{o:Option Value}(r:RelO (some v) o):∃u,o=some u/\RelV v u:=by
 cases o with
 |none=>exact(show False from r).elim
 |some u=>exact⟨u,rfl,r⟩
theorem RelO.none_of{o:Option Value}(r:RelO none o):o=none:=by
 cases o with
 |none=>rfl
 |some u=>exact(show False from r).elim
theorem qgy{v:V}{u:Value}(r:RelV v u):PySem.W.handedIn u=true:=by
 cases v with
 |non=>cases(show u=Value.none from r);rfl
 |bl b=>cases(show u=Value.bool b from r);rfl
 |int i=>obtain⟨t,e⟩:=(show∃t,u=Value.int i t from r);cases e;rfl
 |str x=>obtain⟨t,e⟩:=(show∃t,u=Value.str x t from r);cases e;rfl
 |byt b=>obtain⟨t,e⟩:=(show∃t,u=Value.bytes b t from r);cases e;rfl
 |flt b=>obtain⟨t,e⟩:=(show∃t,u=Value.float b t from r);cases e;rfl
 |ref a=>cases(show u=Value.ref a from r);rfl
 |ty n=>cases(show u=Value.type n from r);rfl
section
variable{P:Program}{w:World}{H H':Hp}{h h':Heap}{a C dx:Addr}{fs fs':List (Str×V)}
theorem q95(hok:HOk P w H h)(e:H a=some (.ins C dx fs)):∃mA,ObjM h a dx C mA/\(∀f,RelO (fs.lookup f) (mA f))/\PySem.Within mA (fs.map (·.1))/\fs.length<=1000/\H dx=some (.own a):=by obtain⟨d,z,ne,ob,mA,n,r,q⟩:=(show ObjOk P w H h a (.ins C dx fs)from hok a _ e);exact⟨mA,⟨ob,n,ne⟩,r,q,z,d⟩
end
structure Cls(K:FrG)(C:Addr):Prop where
 pg:PySem.W.plainGet K C Str.empty=true
 hd:PySem.W.hasDictIn K C=true
 po:PySem.W.plainOver K C=true
 sa:PySem.W.findIn K (.ref C) "__setattr__"=some (some (.builtin "object.__setattr__"))
theorem Cls.get{K:FrG}{C:Addr}(c:Cls K C)(f:Str):PySem.W.plainGet K C f=true:=c.pg
def NoAttr(K:FrG)(C:Addr)(f:Str):Prop:=PySem.W.findIn K (.ref C) f=some none
theorem NoAttr.taker{K:FrG}{C:Addr}{f:Str}(n:NoAttr K C f):PySem.W.takerIn K C f=some none:=by unfold PySem.W.takerIn;rw[show PySem.W.findIn K (.ref C) f=some none from n];rfl
structure Con(K:FrG)(C:Addr)(f:Str)(v:V)(u:Value):Prop where
 at_:PySem.W.findIn K (.ref C) f=some (some u)
 rel:RelV v u
 get:PySem.W.specialIn K u "__get__"=some none
 cp:PySem.W.copiedNames.contains f=false
structure Meth(K:FrG)(C:Addr)(m:Str)(f:Addr):Prop where
 at_:PySem.W.findIn K (.ref C) m=some (some (.ref f))
 fn:PySem.W.isFn K (.ref f)=true
 kp:PySem.W.keepIn K (.ref f)=true
section
variable{X:Cx}{z5:List (Addr×Obj)}{σ:St}{H:Hp}{s:Shared}{a C dx:Addr}{fs:List (Str×V)}{f:Str}{v:V}{A:Around}{E:Value->Shared->Prop}
theorem qe2{b:Bool}{Q:Value->Shared->Prop}(I:Inv X z5 σ H s)(e:H a=some (.ins C dx fs))(c:Cls X.K C)(n:NoAttr X.K C f)(l:fs.lookup f=some v)
 (h:∀u s',Inv X z5 σ H s'->RelV v u->Q u s'):wpAny (model X.prog X.w) A (getAttr (.ref a) f b) Q E s:=by
 obtain⟨mA,O,r,_,_,_⟩:=q95 I.hok e;obtain⟨u,hu,ru⟩:=RelO.some_of (v:=v) (o:=mA f) (by rw[<-l];exact r f);exact get_map I.kIn O (c.get f) c.hd n hu (qgy ru) (h u _ (I.tok _) ru)
theorem qe1{m:Str}{g:Addr}{pl:Sem Bool}{Q:Value×List Value->Shared->Prop}(I:Inv X z5 σ H s)(e:H a=some (.ins C dx fs))(c:Cls X.K C)(k:Meth X.K C m g)(l:fs.lookup m=none)
 (h:Q (.ref g,[.ref a]) s):wpAny (model X.prog X.w) A (getMethod (.ref a) m pl) Q E s:=by
 obtain⟨mA,O,r,_,_,_⟩:=q95 I.hok e;have hn:mA m=none:=RelO.none_of (by rw[<-l];exact r m);exact qjj I.kIn O (c.get m) k.at_ k.fn hn h
theorem qd4{y:V}{u:Value}{Q:Unit->Shared->Prop}(I:Inv X z5 σ H s)(e:H a=some (.ins C dx fs))(c:Cls X.K C)(n:NoAttr X.K C f)(hl:fs.length<1000)(ry:RelV y u)
 (h:∀s',Inv X z5 σ (upd H a (.ins C dx (putF f y fs))) s'->Q () s'):wpAny (model X.prog X.w) A (setAttr (.ref a) f u) Q E s:=by
 obtain⟨mA,O,r,wi,_,ho⟩:=q95 I.hok e;have hz:(fs.map (·.1)).length<=sizeLine:=by rw[j7,sizeLine_eq];omega
 refine qmg I.kIn O c.sa c.po n.taker c.hd wi hz λh' O' sb=>h _ ?_;have hd:∃o,h'.get? dx=some o:=let ⟨o,_,_,e',_⟩:=O'.ns;⟨o,e'⟩
 refine I.write (x:=a) (e:=dx) (by rw[e];exact True.intro) (.inr ho) (λb q hb z=>(sb.2 b hb).trans z) hd ?_;refine⟨by rw[q0v O.ne];exact ho,?_,O.ne,O'.obj,_,O'.ns,λg=>?_,λg hg=>?_⟩
 ·have:=q7r f y fs;omega
 ·show RelO ((putF f y fs).lookup g) (if g=f then some u else mA g);rw[q7q];by_cases q:g=f
  ·rw[if_pos q,if_pos q];exact ry
  ·rw[if_neg q,if_neg q];exact r g
 ·by_cases q:g=f
  ·rw[q];exact(q7t f y fs).1
  ·refine(q7t f y fs).2 g (wi g λz=>hg ?_);show(if g=f then some u else mA g)=none;rw[if_neg q];exact z
theorem Inv.made(I:Inv X z5 σ H s):Inv X z5 σ (upd (upd H s.heap.objs.size (.own (s.heap.objs.size+1))) (s.heap.objs.size+1) (.ins C s.heap.objs.size []))
 {s with heap:=(s.heap.push PySem.W.emptyDict).push (PySem.W.instObj C s.heap.objs.size)}:=by
 have e1:(s.heap.push PySem.W.emptyDict).get? s.heap.objs.size=some PySem.W.emptyDict:=jm s.heap rfl;have e2:((s.heap.push PySem.W.emptyDict).push (PySem.W.instObj C s.heap.objs.size)).get? (s.heap.objs.size+1)=some (PySem.W.instObj C s.heap.objs.size):=by
  have:=jm (s.heap.push PySem.W.emptyDict) (o:=PySem.W.instObj C s.heap.objs.size) rfl
  rwa [xg]at this
 have e3:(s.heap.push PySem.W.emptyDict).Ns s.heap.objs.size (λ_=>none):=⟨PySem.W.emptyDict,#[],_,e1,rfl,(λe he=>absurd he (by simp)),λ_=>rfl⟩;have I1:=I.laid (a:=s.heap.objs.size) (o:=.own (s.heap.objs.size+1)) (h':=s.heap.push PySem.W.emptyDict) (t':=s.toks) (λb u q=>jb _ q) (ja _) ⟨_,e1⟩;refine I1.laid (a:=s.heap.objs.size+1) (o:=.ins C s.heap.objs.size []) (t':=s.toks) (λb u q=>jb _ q) (Nat.le_of_eq (xg _ _)) ?_;have ne:s.heap.objs.size≠s.heap.objs.size+1:=jf (Nat.lt_succ_self _);refine⟨by rw[q0v ne,q0y],Nat.zero_le _,ne,e2,λ_=>none,(Heap.Ns1.of_empty e3).at λo q=>jb _ q,λ_=>True.intro,λy hy=>absurd rfl hy⟩
theorem qoq{prog:Program}{w:World}{env:Env}{e:Expr}{f:Str}{pos:Pos}{s:Shared}{Q:Value->Shared->Prop}(hb:attributeBase e f env (eval e env)=eval e env)
 (h:wpAny (model prog w) A (eval e env) (λo s₁=>wpAny (model prog w) A (getAttr o f true) Q E s₁) E s):wpAny (model prog w) A (eval (.Attribute e f pos) env) Q E s:=
 Attribute_any_ h (by rw[arm_eval_Attribute,hb])
end
def tFld(K:FrG)(ta:TE)(f:Str):TE:=λσ H Q=>ta σ H λx H1=>∃a C dx fs v,x=.ref a/\H1 a=some (.ins C dx fs)/\Cls K C/\NoAttr K C f/\fs.lookup f=some v/\Q v H1
def sFld(K:FrG)(ta tv:TE)(f:Str):TS:=λD σ H=>tv σ H λy H1=>ta σ H1 λx H2=>∃a C dx fs,x=.ref a/\H2 a=some (.ins C dx fs)/\Cls K C/\NoAttr K C f/\fs.length<1000/\
 D.nx σ (upd H2 a (.ins C dx (putF f y fs)))
section
variable{X:Cx}{o e value:Expr}{f:Str}{pos zy tpos:Pos}{ta tv:TE}
theorem qqo(he:PE X e ta)(hb:attributeBase e f X.env (eval e X.env)=eval e X.env):PE X (.Attribute e f pos) (tFld X.K ta f):=by intro z5 s σ H Q I h;refine qoq hb (thn (he z5 s σ H _ I h) λu s1 ⟨x,H1,I1,rx,a,C,dx,fs,v,ex,ea,c,n,l,q⟩=>?_);subst ex;obtain rfl:u=Value.ref a:=rx;exact qe2 I1 ea c n l λu' s2 I2 ru=>⟨v,H1,I2,ru,q⟩
theorem qfn(ha:PE X o ta)(hv:PE X value tv)(hs:swapsWith value (some (.Attribute o f zy)) pos.line X.env=pure false):PS X (.Assign [.Attribute o f zy] value pos) (sFld X.K ta tv f):=by intro z5 s σ H D I h;refine plainObj_wpAny_Assign_Attribute (thn (hv z5 s σ H _ I h) λu s1 ⟨y,H1,I1,ry,q⟩=>thn (ha z5 s1 σ H1 _ I1 q) λov s2 ⟨x,H2,I2,rx,a,C,dx,fs,ex,ea,c,n,l,q2⟩=>?_) hs;subst ex;obtain rfl:ov=Value.ref a:=rx;exact qd4 I2 ea c n l ry λs3 I3=>⟨σ,_,I3,q2⟩
end
section
variable{X:Cx}{z5:List (Addr×Obj)}{σ:St}{H:Hp}{s:Shared}{A:Around}{E:Value->Shared->Prop}{Q:Value->Shared->Prop}{c:Value}{b:Bool}
inductive TyOf(K:FrG)(H:Hp):V->Value->Prop where
 |non:TyOf K H .non (.type "NoneType")
 |bl (x:Bool):TyOf K H (.bl x) (.type "bool")
 |int (i:Int):TyOf K H (.int i) (.type "int")
 |str (x:Str):TyOf K H (.str x) (.type "str")
 |flt (x:UInt64):TyOf K H (.flt x) (.type "float")
 |lst {a:Addr} {xs:List V} (e:H a=some (.lst xs)):TyOf K H (.ref a) (.type "list")
 |frz {a:Addr} {o:Obj} {xs:List V} (e:H a=some (.frz o (.lst xs))):TyOf K H (.ref a) (.type "list")
 |tup {a:Addr} {xs:List V} (e:H a=some (.tup xs)):TyOf K H (.ref a) (.type "tuple")
 |dK {a:Addr} {kvs:List (Key×V)} (e:H a=some (.dK kvs)):TyOf K H (.ref a) (.type "dict")
 |dT {a:Addr} {kvs:List (List Key×V)} (e:H a=some (.dT kvs)):TyOf K H (.ref a) (.type "dict")
 |ins {a C dx:Addr} {fs:List (Str×V)} (e:H a=some (.ins C dx fs)) (cl:Cls K C) (ha:PySem.W.findIn K (.ref C) "__class__"=some (some (.builtin "object.__class__")))
  (hn:PySem.W.specialIn K (.builtin "object.__class__") "__get__"=some (some (.builtin "getset_descriptor.__get__"))) (htk:PySem.W.takesIn K (.builtin "object.__class__")=some true)
  (hm:PySem.W.mroIn K C (.type "object")=some true):TyOf K H (.ref a) (.ref C)
theorem qgt{x:V}{u t:Value}(I:Inv X z5 σ H s)(rx:RelV x u)(ty:TyOf X.K H x t)(e:PySem.W.kitOne X.K t c=some b)(h:∀tk,Q (.bool b) {s with toks:=tk}):
 wpAny (model X.prog X.w) A (call (.builtin "isinstance") [u,c]) Q E s:=by
 cases ty with
 |non=>cases(show u=Value.none from rx);exact PySem.W.kia_one PySem.W.kitx_none I.kIn True.intro e (λz=>nomatch z) h
 |bl y=>cases(show u=Value.bool y from rx);exact PySem.W.kia_one PySem.W.kitx_bool I.kIn True.intro e (λz=>nomatch z) h
 |int i=>obtain⟨t,q⟩:=(show∃t,u=Value.int i t from rx);cases q;exact PySem.W.kia_one PySem.W.kitx_int I.kIn True.intro e (λz=>nomatch z) h
 |str y=>obtain⟨t,q⟩:=(show∃t,u=Value.str y t from rx);cases q;exact PySem.W.kia_one PySem.W.kitx_str I.kIn True.intro e (λz=>nomatch z) h
 |flt y=>obtain⟨t,q⟩:=(show∃t,u=Value.float y t from rx);cases q;exact PySem.W.kia_one PySem.W.kitx_float I.kIn True.intro e (λz=>nomatch z) h
 | @lst a xs ea=>
  cases(show u=Value.ref a from rx);obtain⟨_,_,n,_,h1⟩:=(show ObjOk X.prog X.w H s.heap a (.lst xs)from I.hok a _ ea);exact PySem.W.kia_one PySem.W.kitx_list I.kIn ⟨_,h1,rfl⟩ e (λz=>nomatch z) h
 | @frz a ob xs ea=>
  cases(show u=Value.ref a from rx);obtain⟨_,_,_,n,_,h1⟩:=(show ObjOk X.prog X.w H s.heap a (.frz ob (.lst xs))from I.hok a _ ea);exact PySem.W.kia_one PySem.W.kitx_list I.kIn ⟨_,h1,rfl⟩ e (λz=>nomatch z) h
 | @tup a xs ea=>
  cases(show u=Value.ref a from rx);obtain⟨_,_,_,p⟩:=(show ObjOk X.prog X.w H s.heap a (.tup xs)from I.hok a _ ea);obtain⟨o,h1,⟨h2,_⟩,_⟩:=p;exact PySem.W.kia_one PySem.W.kitx_tuple I.kIn ⟨o,h1,h2⟩ e (λz=>nomatch z) h
 | @dK a kvs ea=>
  cases(show u=Value.ref a from rx);obtain⟨_,_,vs,_,p⟩:=(show ObjOk X.prog X.w H s.heap a (.dK kvs)from I.hok a _ ea);obtain⟨o,es,h1,h2,_⟩:=p;exact PySem.W.kia_one PySem.W.kitx_dict I.kIn ⟨o,h1,h2.1⟩ e (λz=>nomatch z) h
 | @dT a kvs ea=>
  cases(show u=Value.ref a from rx);obtain⟨_,_,xs,_,o,es,ep,h1,h2,_⟩:=(show ObjOk X.prog X.w H s.heap a (.dT kvs)from I.hok a _ ea);exact PySem.W.kia_one PySem.W.kitx_dict I.kIn ⟨o,h1,h2.1⟩ e (λz=>nomatch z) h
 | @ins a C dx fs ea cl ha hn htk hm=>
  cases(show u=Value.ref a from rx);obtain⟨mA,O,_⟩:=q95 I.hok ea;obtain⟨od,J,_⟩:=O.look;exact PySem.W.kia_one (PySem.W.kitx_own (cl.get _) cl.hd ha hn htk hm) I.kIn J e (λz=>nomatch z) h
end
structure Room(k:Nat)(A:Around):Prop where
 hd:A.handled=none
 dp:A.depth+3*k+5<recursionLimit
 un:A.units+16*k+200<cLine
theorem Room.mono{j k:Nat}{A:Around}(r:Room k A)(h:j<=k):Room j A:=⟨r.hd,by have:=r.dp;omega,by have:=r.un;omega⟩
theorem Room.m{j k:Nat}{A:Around}(r:Room k A)(h:j<=k:=by decide):Room j A:=r.mono h
theorem Room.deeper{k:Nat}{A:Around}(r:Room (k+1) A)(env:Env):Room k (A.deeper env):=
 ⟨r.hd,by have:=r.dp;show A.depth+1+3*k+5<_;omega,by have:=r.un;show A.units+3+16*k+200<_;omega⟩
theorem Room.in1{k:Nat}{A:Around}(r:Room (k+1) A):Room k A.in1:=
 ⟨r.hd,by have:=r.dp;show A.depth+3*k+5<_;omega,by have:=r.un;show A.units+1+16*k+200<_;omega⟩
theorem qdw{A:Around}{C:Addr}{us:List Value}{kw:List (Str×Value)}:(A.under (.builtin "type.__call__" ⟨.ref C::us,kw⟩)).depth=A.depth+1:=by first|rfl|simp[Around.under,Code.weight,Code.isCreation,Code.isGuard,Code.isCaller,Code.frames,Code.isFrame,guardIds]
theorem qdv{A:Around}{C:Addr}{us:List Value}{kw:List (Str×Value)}:(A.under (.builtin "type.__call__" ⟨.ref C::us,kw⟩)).units=A.units+1:=by first|rfl|simp[Around.under,Code.cUnits,Code.frames,Code.isFrame]
theorem Room.make{k:Nat}{A:Around}(r:Room (k+1) A)(C:Addr)(us:List Value)(kw:List (Str×Value)):Room k (A.under (.builtin "type.__call__" ⟨.ref C::us,kw⟩)):=
 ⟨r.hd,by have:=r.dp;rw[qdw];omega,by have:=r.un;rw[qdv];omega⟩
theorem Room.depth{k:Nat}{A:Around}(r:Room k A):A.depth<recursionLimit:=by have:=r.dp;omega
theorem Room.units{k:Nat}{A:Around}(r:Room k A):A.units+64<cLine:=by have:=r.un;omega
def tNil:TA:=λ_ H Q=>Q [] H
def q9i(ta:TE)(tr:TA):TA:=λσ H Q=>ta σ H λx H1=>tr σ H1 λxs H2=>Q (x::xs) H2
section
variable{X:Cx}{e:Expr}{es:List Expr}{te:TE}{t:TA}{pos:Pos}
theorem q05:PA X [] tNil:=λ_ _ _ _ H Q I h=>Calls.spliced_nil ⟨[],H,I,.nil,h⟩
theorem q00(ha:PE X e te)(hr:PA X es t)(hs:starEach (e::es) X.env=(false,eval e X.env)::starEach es X.env:=by rfl):PA X (e::es) (q9i te t):=by intro pos z5 s σ H Q I h;rw[hs];show wpAny _ _ (spliced ((false,eval e X.env)::backTo pos (starEach es X.env))) _ _ s;refine Calls.spliced_cons (thn (ha z5 s σ H _ I h) λu s1 ⟨x,H1,I1,r1,q1⟩=>?_);exact thn (hr pos z5 s1 σ H1 _ I1 q1) λus s2 ⟨xs,H2,I2,r2,q2⟩=>⟨x::xs,H2,I2,.cons r1 r2,q2⟩
def tTup(t:TA):TE:=λσ H Q=>t σ H λxs H1=>xs.length<=sizeLine/\∀p,H1 p=none->Q (.ref p) (upd H1 p (.tup xs))
def tLst(t:TA):TE:=λσ H Q=>t σ H λxs H1=>xs.length<=sizeLine/\∀p,H1 p=none->Q (.ref p) (upd H1 p (.lst xs))
theorem q49{x1}(h:PA X es t):PE X (.Tuple es x1 pos) (tTup t):=by intro z5 s σ H Q I hq;refine wpAny_Tuple_spliced (thn (h pos z5 s σ H _ I hq) λus s1 ⟨xs,H1,I1,r,z,q⟩=>⟨by rw[<-r.length];exact z,?_⟩);have hf:H1 s1.heap.objs.size=none:=I1.hok.fresh (ja _);refine⟨.ref s1.heap.objs.size,upd H1 s1.heap.objs.size (.tup xs),I1.laid (t':=s1.toks) (λb u e=>jb _ e) (ja _) ?_,rfl,q _ hf⟩;exact⟨z,us,r,⟨_,jm _ rfl,⟨rfl,_,rfl⟩,rfl⟩⟩
theorem q2p(h:PA X es t):PE X (.List es pos) (tLst t):=by intro z5 s σ H Q I hq;refine wpAny_List_spliced (thn (h pos z5 s σ H _ I hq) λus s1 ⟨xs,H1,I1,r,z,q⟩=>⟨by rw[<-r.length];exact z,?_⟩);have hf:H1 s1.heap.objs.size=none:=I1.hok.fresh (ja _);refine⟨.ref s1.heap.objs.size,upd H1 s1.heap.objs.size (.lst xs),I1.laid (t':=s1.toks) (λb u e=>jb _ e) (ja _) ?_,rfl,q _ hf⟩;exact⟨z,us,0,r,jm _ rfl⟩
end
abbrev Sp:=List V->Hp->VK->XK->Prop
abbrev CXT:=List Env->Hp->Shared->XK->Value->Shared->Prop
structure Env0(P:Program)(w:World)(K:FrG)(mg:Str->Option Value)(base:Heap)(A:Around)(outer:List Env)(s:Shared)(H:Hp):Prop where
 frames:A.frames=some outer
 mod:Mod K mg base
 bs:∀b o,base.get? b=some o->s.heap.get? b=some o/\H b=none
 bsz:base.objs.size<=s.heap.objs.size
 funs:s.heap.FunFrames base outer
 frf:∀b∈frs outer,H b=none
 hok:HOk P w H s.heap
 bare:AllBare s.gens
def CE(outer:List Env)(P:Program)(w:World)(H:Hp)(s:Shared)(Q:VK)(u:Value)(s':Shared):Prop:=
 ∃v H',s'.os=s.os/\AllBare s'.gens/\Un (frs outer) [] H H' s.heap s'.heap/\HOk P w H' s'.heap/\RelV v u/\Q v H'
def CR(CX:CXT)(outer:List Env)(P:Program)(w:World)(H:Hp)(s:Shared)(Q:VK)(E:XK)(r:Result)(s':Shared):Prop:=
 match r with
 |.ok (.ret u)=>CE outer P w H s Q u s'
 |.ok _=>False
 |.error e=>CX outer H s E e s'
structure FnOk(P:Program)(w:World)(K:FrG)(mg:Str->Option Value)(base:Heap)(CX:CXT)(k:Nat)(f:Addr)(fd:FuncData)(ps:List Str)(sp:Sp):Prop where
 len:∀vs H Q E,sp vs H Q E->vs.length=ps.length
 run:∀(A:Around) (outer:List Env) (s:Shared) (H:Hp) (args:Args) (us:List Value) (vs:List V) (Q:VK) (E:XK),Room k A->Env0 P w K mg base A outer s H->BindsTo s fd args (ps.zip us)->Vals vs us->sp vs H Q E->
  codeAny (model P w) A (.call (.ref f) args) (CR CX outer P w H s Q E) s
theorem FnOk.mono{P:Program}{w:World}{K:FrG}{mg:Str->Option Value}{base:Heap}{CX:CXT}{j k:Nat}{f:Addr}{fd:FuncData}{ps:List Str}{sp:Sp}(F:FnOk P w K mg base CX j f fd ps sp)(h:j<=k):
 FnOk P w K mg base CX k f fd ps sp:=⟨F.len,λA outer s H args us vs Q E hr=>F.run A outer s H args us vs Q E (hr.mono h)⟩
theorem FnOk.imp{P:Program}{w:World}{K:FrG}{mg:Str->Option Value}{base:Heap}{CX:CXT}{k:Nat}{f:Addr}{fd:FuncData}{ps:List Str}{sp sp':Sp}(F:FnOk P w K mg base CX k f fd ps sp)
 (h:∀vs H Q E,sp' vs H Q E->sp vs H Q E):FnOk P w K mg base CX k f fd ps sp':=
 ⟨λvs H Q E q=>F.len vs H Q E (h _ _ _ _ q),λA outer s H args us vs Q E hr he hb hv hs=>F.run A outer s H args us vs Q E hr he hb hv (h _ _ _ _ hs)⟩
theorem Env0.make{P:Program}{w:World}{K:FrG}{mg:Str->Option Value}{base:Heap}{A:Around}{outer:List Env}{s:Shared}{H:Hp}(e:Env0 P w K mg base A outer s H)(C:Addr)(us:List Value)(kw:List (Str×Value)):
 Env0 P w K mg base (A.under (.builtin "type.__call__" ⟨.ref C::us,kw⟩)) outer s H:=⟨by first|exact e.frames|(simpa[Around.under,Code.envs,Code.isFrame,pushEnvs]using e.frames),e.mod,e.bs,e.bsz,e.funs,e.frf,e.hok,e.bare⟩
theorem Env0.in1{P:Program}{w:World}{K:FrG}{mg:Str->Option Value}{base:Heap}{A:Around}{outer:List Env}{s:Shared}{H:Hp}(e:Env0 P w K mg base A outer s H):
 Env0 P w K mg base A.in1 outer s H:=⟨e.frames,e.mod,e.bs,e.bsz,e.funs,e.frf,e.hok,e.bare⟩
section
variable{X:Cx}{z5:List (Addr×Obj)}{σ:St}{H:Hp}{s s':Shared}
theorem Inv.env0(I:Inv X z5 σ H s):Env0 X.prog X.w X.K X.mg X.base X.A X.stack s H:=
 ⟨I.ok.frames,I.ok.mod,I.bs,jr I.ok.bsz I.sz,I.stack,I.stkFree,I.hok,I.bare⟩
theorem Inv.after{Q:VK}{u:Value}(I:Inv X z5 σ H s)(h:CE X.stack X.prog X.w H s Q u s'):EP X z5 σ Q u s':=by obtain⟨v,H',os,bare,un,hok,r,q⟩:=h;obtain⟨hh,g,d,t,os'⟩:=s';obtain rfl:os'=s.os:=os;exact⟨v,H',I.call (h':=hh) (g':=g) (d':=d) (t':=t) (ch:=[]) un hok bare (λb z=>absurd z (by simp)),r,q⟩
end
def qmc(sp:Sp)(dvs:List V)(E:XK)(t:TA):TE:=λσ H Q=>t σ H λvs H1=>sp (vs++dvs) H1 Q E
def qpc(C:Addr)(m:Str)(sp:Sp)(dvs:List V)(E:XK)(ta:TE)(t:TA):TE:=λσ H Q=>ta σ H λx H1=>∃a dx fs,x=.ref a/\H1 a=some (.ins C dx fs)/\fs.lookup m=none/\
 t σ H1 λvs H2=>sp (x::(vs++dvs)) H2 Q E
def qpd(C:Addr)(sp:Sp)(dvs:List V)(E:XK)(t:TA):TE:=λσ H Q=>t σ H λvs H1=>∀x dx,H1 x=none->H1 dx=none->dx≠x->
 sp (.ref x::(vs++dvs)) (upd (upd H1 dx (.own x)) x (.ins C dx [])) (λv H2=>v=.non/\Q (.ref x) H2) E
def Binds(K:FrG)(fd:FuncData)(ps:List Str)(ds:List Value):Prop:=
 ∀(s:Shared) (us:List Value),K.In s.heap->(us++ds).length=ps.length->BindsTo s fd ⟨us,[]⟩ (ps.zip (us++ds))
theorem Binds.all{K:FrG}{fd:FuncData}{ps:List Str}(h:∀us:List Value,us.length=ps.length->bindArgs fd ⟨us,[]⟩=pure (ps.zip us)):Binds K fd ps []:=λs us _ hl=>by rw[List.append_nil]at hl ⊢;exact .of_eq (h us hl)
def q8p(CX:CXT)(X:Cx)(E:XK):Prop:=∀(z5:List (Addr×Obj)) (σ:St) (H:Hp) (s:Shared) (e:Value) (s':Shared),Inv X z5 σ H s->CX X.stack H s E e s'->X.xe e s'
section
variable{X:Cx}{CX:CXT}{k:Nat}{f C:Addr}{fd:FuncData}{ps:List Str}{sp:Sp}{dvs:List V}{ds:List Value}{E:XK}{x m:Str}{p pos zu:Pos}{e o:Expr}{es:List Expr}{ta:TE}{t:TA}
theorem ql3{z5:List (Addr×Obj)}{σ:St}{H:Hp}{s:Shared}{Q:VK}{us:List Value}{vs:List V}(F:FnOk X.prog X.w X.K X.mg X.base CX k f fd ps sp)(hr:Room k X.A)(hb:Binds X.K fd ps ds)(hd:Vals dvs ds)(hx:q8p CX X E)
 (I:Inv X z5 σ H s) (r:Vals vs us) (h:sp (vs++dvs) H Q E):wpAny (model X.prog X.w) X.A (call (.ref f) us) (EP X z5 σ Q) X.xe s:=by
 have r2:Vals (vs++dvs) (us++ds):=r.append hd;have hl:(us++ds).length=ps.length:=by rw[<-r2.length];exact F.len _ _ _ _ h
 refine wpAny_call (codeAny_mono (F.run X.A X.stack s H ⟨us,[]⟩ (us++ds) (vs++dvs) Q E hr I.env0 (hb s us I.kIn hl) r2 h) λr s' hq=>?_);cases r with
 |error e=>exact hx z5 σ H s e s' I hq
 | ok fl=>
  cases fl with
  |ret u=>exact I.after hq
  |next=>exact False.elim hq
  |brk=>exact False.elim hq
  |cont=>exact False.elim hq
theorem q0h(F:FnOk X.prog X.w X.K X.mg X.base CX k f fd ps sp)(hr:Room k X.A)(hg:Gl X x)(hm:X.mg x=some (.ref f))(hk:PySem.W.keepIn X.K (.ref f)=true)(hb:Binds X.K fd ps ds)(hd:Vals dvs ds)(hx:q8p CX X E)
 (ha:PA X (e::es) t) (hdb:(x==("__debug__":Str))=false:=by decide) (he:starEach (e::es) X.env=(false,eval e X.env)::starEach es X.env:=by rfl) (hpl:(backTo pos (starEach es X.env)).any (·.1)=false:=by rfl):
 PE X (.Call (.Name x p) (e::es) [] pos) (qmc sp dvs E t):=by
 intro z5 s σ H Q I h;refine xr (qbb I hg hm ?_ hdb);refine PySem.W.callWith_K (h₀:=X.base) I.ok.mod.kin hk (thn (ha pos z5 s σ H _ I h) λus s1 ⟨vs,H1,I1,r,q⟩=>⟨I1.kIn,?_⟩) he hpl;exact ql3 F hr hb hd hx I1 r q
theorem qb2{pl:Sem Bool}(he:PE X o ta)(c:Cls X.K C)(hm:Meth X.K C m f)(F:FnOk X.prog X.w X.K X.mg X.base CX k f fd ps sp)(hr:Room k X.A)(hb:Binds X.K fd ps ds)(hd:Vals dvs ds)(hx:q8p CX X E)(ha:PA X (e::es) t)
 (hst:starEach (e::es) X.env=(false,eval e X.env)::starEach es X.env:=by rfl) (hpl:(backTo pos (starEach es X.env)).any (·.1)=false:=by rfl)
 (ht:eval (.Call (.Attribute o m zu) (e::es) [] pos) X.env=(do
   let ov <-eval o X.env
   standAt zu.atName
   let (f,first) <-holding [ov] (getMethod ov m pl)
   callWith pos f first (backTo pos (starEach (e::es) X.env)) (backToKw pos (keywordEach [] X.env))):=by rfl):
 PE X (.Call (.Attribute o m zu) (e::es) [] pos) (qpc C m sp dvs E ta t):=by
 intro z5 s σ H Q I h;refine PySem.W.methodCall_KW (pl:=pl) (thn (he z5 s σ H _ I h) λu s1 ⟨x,H1,I1,rx,a,dx,fs,ex,ea,l,q⟩=>?_) ht;subst ex;obtain rfl:u=Value.ref a:=rx;refine qe1 I1 ea c hm l ?_;refine PySem.W.callWith_K (first:=[.ref a]) (h₀:=X.base) I.ok.mod.kin hm.kp (thn (ha pos z5 s1 σ H1 _ I1 q) λus s2 ⟨vs,H2,I2,r,q2⟩=>⟨I2.kIn,?_⟩) hst hpl;exact ql3 (us:=.ref a::us) (vs:=.ref a::vs) F hr hb hd hx I2 (.cons rfl r) q2
structure Mk(K:FrG)(C f:Addr):Prop where
 makes:PySem.W.makesIn K C=true
 init:PySem.W.findIn K (.ref C) "__init__"=some (some (.ref f))
 fn:PySem.W.isFn K (.ref f)=true
 kp:PySem.W.keepIn K (.ref C)=true
theorem qii{z5:List (Addr×Obj)}{σ:St}{H:Hp}{s:Shared}{Q:VK}{us:List Value}{vs:List V}(M:Mk X.K C f)(F:FnOk X.prog X.w X.K X.mg X.base CX k f fd ps sp)(hr:Room (k+1) X.A)(hb:Binds X.K fd ps ds)(hd:Vals dvs ds)
 (hx:q8p CX X E) (I:Inv X z5 σ H s) (r:Vals vs us)
 (h:∀x dx,H x=none->H dx=none->dx≠x->sp (.ref x::(vs++dvs)) (upd (upd H dx (.own x)) x (.ins C dx [])) (λv H2=>v=.non/\Q (.ref x) H2) E):
 wpAny (model X.prog X.w) X.A (call (.ref C) us) (EP X z5 σ Q) X.xe s:=by
 have hq:=h (s.heap.objs.size+1) s.heap.objs.size (I.hok.fresh (Nat.le_succ _)) (I.hok.fresh (ja _)) (jf (Nat.lt_succ_self _));have I2:=Inv.made (C:=C) I;have r2:Vals (V.ref (s.heap.objs.size+1)::(vs++dvs)) (Value.ref (s.heap.objs.size+1)::(us++ds)):=.cons rfl (r.append hd);have hl:(Value.ref (s.heap.objs.size+1)::us++ds).length=ps.length:=by have e:=r2.length;rw[F.len _ _ _ _ hq]at e;exact e.symm
 refine wpAny_call (qj8 (f:=f) I.kIn M.makes M.init (beq_iff_eq.mp M.fn) (codeAny_mono (F.run _ X.stack _ _ ⟨Value.ref (s.heap.objs.size+1)::us,[]⟩ (Value.ref (s.heap.objs.size+1)::(us++ds)) _ _ E (hr.make C us [])
  (I2.env0.make C us []) (hb _ (Value.ref (s.heap.objs.size+1)::us) I2.kIn hl) r2 hq) λr s' hq'=>?_))
 cases r with
 |error e=>exact hx z5 σ _ _ e s' I2 hq'
 | ok fl=>
  cases fl with
  | ret u=>
   obtain⟨v,H',I3,rv,ev,q3⟩:=I2.after hq';subst ev;exact⟨rv,⟨V.ref (s.heap.objs.size+1),H',I3,rfl,q3⟩⟩
  |next=>exact False.elim hq'
  |brk=>exact False.elim hq'
  |cont=>exact False.elim hq'
theorem qfr(M:Mk X.K C f)(F:FnOk X.prog X.w X.K X.mg X.base CX k f fd ps sp)(hr:Room (k+1) X.A)(hg:Gl X x)(hm:X.mg x=some (.ref C))(hb:Binds X.K fd ps ds)(hd:Vals dvs ds)(hx:q8p CX X E)
 (ha:PA X (e::es) t) (hdb:(x==("__debug__":Str))=false:=by decide) (he:starEach (e::es) X.env=(false,eval e X.env)::starEach es X.env:=by rfl) (hpl:(backTo pos (starEach es X.env)).any (·.1)=false:=by rfl):
 PE X (.Call (.Name x p) (e::es) [] pos) (qpd C sp dvs E t):=by
 intro z5 s σ H Q I h;refine xr (qbb I hg hm ?_ hdb);refine PySem.W.callWith_K (h₀:=X.base) I.ok.mod.kin M.kp (thn (ha pos z5 s σ H _ I h) λus s1 ⟨vs,H1,I1,r,q⟩=>⟨I1.kIn,?_⟩) he hpl;exact qii M F hr hb hd hx I1 r q
end
section
variable{X:Cx}{CX:CXT}{k:Nat}{f C:Addr}{fd:FuncData}{ps ks:List Str}{sp:Sp}{E:XK}{x m:Str}{p pos zu kpos:Pos}{e o:Expr}{es:List Expr}{kws:List Keyword}{te ta:TE}{t tk:TA}{nm:Option Str}
structure qw2(K:FrG)(fd:FuncData)(ps ks:List Str)(g:List Value->List Value->List Value)(gV:List V->List V->List V):Prop where
 to:∀(s:Shared) (us ws:List Value),K.In s.heap->(g us ws).length=ps.length->BindsTo s fd ⟨us,ks.zip ws⟩ (ps.zip (g us ws))
 rel:∀{vs:List V} {us:List Value} {zs:List V} {ws:List Value},Vals vs us->Vals zs ws->Vals (gV vs zs) (g us ws)
variable{g:List Value->List Value->List Value}{gV:List V->List V->List V}
end
structure q0r(N P:List Str)(sc:Scope):Prop where
 kind:sc.kind=.function
 co:sc.isCoroutine=false
 gen:sc.isGenerator=false
 nd:N.Nodup
 pre:N.take P.length=P
 par:∀x∈P,sc.names.lookup x=some .local∨sc.names.lookup x=some .cell
 nofree:∀y∈sc.names,y.2≠.free
theorem qaj{kindOf:Str->Option NameKind}{x:Str}:∀{zt:List (Str×Value)} {m:Str->Option Value},(∀v,(x,v)∉zt)->bindL kindOf zt m x=m x
 |[],_,_=>rfl
 | (n,v)::r,m,h=>by
  unfold bindL;rw[qaj λw hw=>h w (jj _ hw)];split
  ·have:x≠n:=by rintro rfl;exact h v jg
   simp[this]
  ·rfl
theorem qal{kindOf:Str->Option NameKind}{x:Str}:∀{zt:List (Str×Value)} {m:Str->Option Value},(∀v,(x,v)∉zt)->bindC kindOf zt m x=m x
 |[],_,_=>rfl
 | (n,v)::r,m,h=>by
  unfold bindC;rw[qal λw hw=>h w (jj _ hw)];split
  ·rfl
  ·have:x≠n:=by rintro rfl;exact h v jg
   simp[this]
theorem qak{kindOf:Str->Option NameKind}{x:Str}{v:Value}:∀{P:List Str} {vs:List Value} {i:Nat} {m:Str->Option Value},P.Nodup->P[i]? =some x->vs[i]? =some v->kindOf x=some .local->
 bindL kindOf (P.zip vs) m x=some v
 |[],_,_,_,_,h,_,_=>by simp at h
 |_::_,[],_,_,_,_,h,_=>by simp at h
 | p::P,w::vs,0,m,nd,h1,h2,hk=>by simp at h1 h2;subst h1;subst h2;show bindL kindOf ((p,w)::P.zip vs) m p=_;unfold bindL;rw[qaj λv hv=>(List.nodup_cons.mp nd).1 (List.of_mem_zip hv).1,if_pos hk];simp
 | p::P,w::vs,i+1,m,nd,h1,h2,hk=>by show bindL kindOf ((p,w)::P.zip vs) m x=_;unfold bindL;exact qak (i:=i) (List.nodup_cons.mp nd).2 (by simpa using h1) (by simpa using h2) hk
theorem qam{kindOf:Str->Option NameKind}{x:Str}{v:Value}:∀{P:List Str} {vs:List Value} {i:Nat} {m:Str->Option Value},P.Nodup->P[i]? =some x->vs[i]? =some v->kindOf x≠some .local->
 bindC kindOf (P.zip vs) m x=some v
 |[],_,_,_,_,h,_,_=>by simp at h
 |_::_,[],_,_,_,_,h,_=>by simp at h
 | p::P,w::vs,0,m,nd,h1,h2,hk=>by simp at h1 h2;subst h1;subst h2;show bindC kindOf ((p,w)::P.zip vs) m p=_;unfold bindC;rw[qal λv hv=>(List.nodup_cons.mp nd).1 (List.of_mem_zip hv).1,if_neg hk];simp
 | p::P,w::vs,i+1,m,nd,h1,h2,hk=>by show bindC kindOf ((p,w)::P.zip vs) m x=_;unfold bindC;exact qam (i:=i) (List.nodup_cons.mp nd).2 (by simpa using h1) (by simpa using h2) hk
def start(N:List Str)(vs:List V):St:=vs.map some++List.replicate (N.length-vs.length) none
def cxOf(CX:CXT)(P:Program)(w:World)(K:FrG)(mg:Str->Option Value)(base:Heap)(N:List Str)(qual:Str)(scope:Scope)(f:Addr)(cd:Value)(A:Around)(outer:List Env)(s:Shared)(H:Hp)(E:XK):Cx where
 prog:=P
 w:=w
 K:=K
 mg:=mg
 base:=base
 A:=A.deeper (envOfC qual scope s.heap.objs.size f cd)
 N:=N
 s₀:=s
 H₀:=H
 env:=envOfC qual scope s.heap.objs.size f cd
 outer:=outer
 stack:=envOfC qual scope s.heap.objs.size f cd::outer
 ex:=[]
 calm:=true
 fn:=λ_=>true
 pn:=[]
 xe:=λe s'=>wpAny (model P w) (A.deeper (envOfC qual scope s.heap.objs.size f cd)) (leaving (envOfC qual scope s.heap.objs.size f cd) e) (λ_ s''=>CX outer H s E e s'') (λe' s''=>CX outer H s E e' s'') s'
theorem qcu{sc:Scope}{n:Nat}{x:Str}(h:sc.names.lookup x=some .cell):∃c,(cellsFrom n sc.names []).lookup x=some c:=by have q:=PySem.W.cellsFrom_some sc.names n [] (.inl h);exact Option.isSome_iff_exists.mp q
theorem qgv{CX:CXT}{P:Program}{w:World}{K:FrG}{mg:Str->Option Value}{base:Heap}{N ps:List Str}{qual:Str}{scope:Scope}{f:Addr}{cd:Value}{A:Around}{outer:List Env}{s s1:Shared}{H:Hp}{E:XK}{us:List Value}{vs:List V}
 (S:q0r N ps scope) (hd:A.handled=none) (e0:Env0 P w K mg base A outer s H) (hl:vs.length=ps.length) (r:Vals vs us)
 (x:InCallC s s.heap.objs.size (bindL (envOfC qual scope s.heap.objs.size f cd).kindOf (ps.zip us) λ_=>none) (cellsFrom (s.heap.objs.size+1) scope.names []) (bindC (envOfC qual scope s.heap.objs.size f cd).kindOf (ps.zip us) λ_=>none) s1):
 Inv (cxOf CX P w K mg base N qual scope f cd A outer s H E) [] (start N vs) H s1:=by
 have hpl:ps.length<=N.length:=by have:=congrArg List.length S.pre;rw[xh]at this;omega
 obtain⟨h1,tk,rfl,hk⟩:=x.done;have noA:∀b:Addr,b∉(cxOf CX P w K mg base N qual scope f cd A outer s H E).ex:=λb z=>absurd (show b∈([]:List Addr)from z) (by simp);refine⟨⟨e0.mod,S.kind,rfl,rfl,ja _,λy z c h1 h2=>?_,λy hy=>?_,λy c _ h=>?_,λ_=>hd,Around.frames_deeper e0.frames,.inr ⟨rfl,rfl⟩,λb z=>absurd z (noA b),e0.bs,e0.bsz,λb _ _=>noA b,λb z=>absurd z (noA b),e0.funs,e0.frf⟩,
  rfl,e0.bare,Un.kept hk,⟨_,x.toInCall.ns,λi y v h1 h2 h3=>?_⟩,λy c h=>⟨_,x.cell y c h⟩,e0.hok.fresh (ja _),λy c h=>?_,λp hp=>absurd (show p∈([]:List (Addr×Obj))from hp) (by simp),e0.hok.kept hk,?_⟩
 ·exact name_of_addr x.apart (PySem.mem_of_lookup h1) (PySem.mem_of_lookup h2)
 ·have hy:scope.names.lookup y=some .cell∨scope.names.lookup y=some .free:=hy;rcases hy with hy|hy
  ·exact qcu hy
  ·exact absurd rfl (S.nofree _ (PySem.mem_of_lookup hy))
 ·exact Nat.le_of_lt (x.above y c (PySem.mem_of_lookup h))
 ·have hi:i<vs.length:=by
   unfold start at h2;by_cases hi:i<vs.length
   ·exact hi
   ·rw[xo (by simpa using hi)]at h2;rw[k6]at h2;split at h2<;>cases h2
  have ha:vs[i]? =some v:=by
   unfold start at h2;rw[k7 (by simpa using hi),jc]at h2;cases e:vs[i]? with
   |none=>rw[e]at h2;cases h2
   |some a=>rw[e]at h2;cases h2;rfl
  obtain⟨u,hu,rv⟩:=r.get ha;have hp:ps[i]? =some y:=by rw[<-S.pre,List.getElem?_take_of_lt (by omega)];exact h1
  have ndP:ps.Nodup:=by rw[<-S.pre];exact S.nd.sublist (List.take_sublist _ _)
  refine⟨u,rv,?_⟩;rcases S.par y (xv hp)with k|k
  ·exact .inl ⟨k,qak ndP hp hu k⟩
  ·obtain⟨c,e⟩:=qcu (n:=s.heap.objs.size+1) k;refine .inr ⟨.inl k,c,e,?_⟩;have q:=x.cell y c e;rw[qam ndP hp hu (by show scope.names.lookup y≠_;rw[k];decide)]at q;exact q
 ·exact e0.hok.fresh (Nat.le_of_lt (x.above y c (PySem.mem_of_lookup h)))
 ·unfold start;show _=N.length;rw[jh,j7,ji];omega
theorem qt6{CX:CXT}{P:Program}{w:World}{K:FrG}{mg:Str->Option Value}{base:Heap}{k:Nat}{f:Addr}{name qual:Str}{params:Arguments}{body:List Stmt}{scope:Scope}{dV kV doc pm cdv ct oc:Value}{an od:Option Addr}
 {osl:Array (Option Value)} {N ps:List Str} {sp:Sp} (lk:K.lookup f=some ⟨oc,od,.func (PySem.W.fnOf name qual params body scope dV kV doc pm an cdv ct),osl⟩) (hcd:PySem.W.codeIn K cdv qual=true) (S:q0r N ps scope)
 (len:∀vs H Q E,sp vs H Q E->vs.length=ps.length)
 (zr:∀(A:Around) (outer:List Env) (s:Shared) (H:Hp) (vs:List V) (Q:VK) (E:XK),Room k (A.deeper (envOfC qual scope s.heap.objs.size f cdv))->sp vs H Q E->
   ∃t,PSs (cxOf CX P w K mg base N qual scope f cdv A outer s H E) body t/\t {nx:=λ_ H'=>Q .non H',rt:=Q} (start N vs) H):
 FnOk P w K mg base CX (k+1) f (PySem.W.fnOf name qual params body scope dV kV doc pm an cdv ct) ps sp:=by
 refine⟨len,λA outer s H args us vs Q E hr e0 hb r hsp=>?_⟩;have hl:=len _ _ _ _ hsp;have KX:K.In s.heap:=e0.mod.kin.keeps λb o e=>(e0.bs b o e).1;have lim:s.heap.NoLimit:=e0.mod.nolimit.keeps λb o e=>(e0.bs b o e).1;have hkind:∀y∈ps.zip us,scope.names.lookup y.1=some .local∨(scope.names.lookup y.1=some .cell/\((cellsFrom (s.heap.objs.size+1) scope.names []).lookup y.1).isSome=true):=λ⟨n,v⟩ hy=>by
  rcases S.par n (List.of_mem_zip hy).1 with q|q
  ·exact .inl q
  ·exact .inr ⟨q,PySem.W.cellsFrom_some _ _ _ (.inl q)⟩
 refine codeAny_call_function hr.depth (KX _ _ lk) rfl S.co S.gen rfl (PySem.W.codeRec_of KX hcd) (hb _ _ _ _ ?_);refine wpAny_newFunctionEnv_cells S.kind hkind λenv he s1 x=>?_;subst he;refine⟨lim.keeps x.toInCall.keep,codeAny_func ?_⟩;obtain⟨t,ht,hq⟩:=zr A outer s H vs Q E (hr.deeper _) hsp;have I:Inv (cxOf CX P w K mg base N qual scope f cdv A outer s H E) [] (start N vs) H s1:=qgv S hr.hd e0 hl r x;refine xj (ht [] s1 (start N vs) H _ I hq) (λfl s' hs=>?_) λe s' hs=>hs;have fin:∀{σ':St} {H':Hp} {v:V} {u:Value},Inv (cxOf CX P w K mg base N qual scope f cdv A outer s H E) [] σ' H' s'->RelV v u->Q v H'->CE outer P w H s Q u s':=
  λ{σ' H' v u} J rv q=>⟨v,H',J.os,J.bare,J.base,J.hok,rv,q⟩
 cases fl with
 | ret u=>
  obtain⟨v,σ',H',J,rv,q⟩:=hs;exact fin J rv q
 | next=>
  obtain⟨σ',H',J,q⟩:=hs;exact fin (v:=V.non) (u:=Value.none) J rfl q
 | brk=>
  obtain⟨_,_,_,q⟩:=hs;exact False.elim q
 | cont=>
  obtain⟨_,_,_,q⟩:=hs;exact False.elim q
section
variable{X:Cx}{x:Str}{p pos:Pos}{e:Expr}{es:List Expr}{t:TA}{id T:String}{r:List V->Hp->VK->Prop}
def tCB(r:List V->Hp->VK->Prop)(t:TA):TE:=λσ H Q=>t σ H λvs H1=>r vs H1 Q
theorem q11(hc:q57 X (.builtin id) r)(hg:Gl X x)(hm:X.mg x=none)(hv:bootBuiltins x=some (.builtin id))(ha:PA X (e::es) t)(hn:x≠"__name__":=by decide)(hdb:(x==("__debug__":Str))=false:=by decide)
 (he:starEach (e::es) X.env=(false,eval e X.env)::starEach es X.env:=by rfl) (hpl:(backTo pos (starEach es X.env)).any (·.1)=false:=by rfl):PE X (.Call (.Name x p) (e::es) [] pos) (tCB r t):=by
 intro z5 s σ H Q I h;refine xr (q4k I hg hm hv ?_ hn hdb);exact PyProof.Rows.callWith_builtin1 (thn (ha pos z5 s σ H _ I h) λus s1 ⟨vs,H1,I1,r1,q1⟩=>hc z5 s1 σ H1 vs us Q I1 r1 q1) he hpl
theorem q2q(hc:q57 X (.type T) r)(hg:Gl X x)(hm:X.mg x=none)(hv:bootBuiltins x=some (.type T))(ha:PA X (e::es) t)(hn:x≠"__name__":=by decide)(hdb:(x==("__debug__":Str))=false:=by decide)
 (he:starEach (e::es) X.env=(false,eval e X.env)::starEach es X.env:=by rfl) (hpl:(backTo pos (starEach es X.env)).any (·.1)=false:=by rfl):PE X (.Call (.Name x p) (e::es) [] pos) (tCB r t):=by
 intro z5 s σ H Q I h;refine xr (q4k I hg hm hv ?_ hn hdb);exact PyProof.Rows.callWith_type1 (thn (ha pos z5 s σ H _ I h) λus s1 ⟨vs,H1,I1,r1,q1⟩=>hc z5 s1 σ H1 vs us Q I1 r1 q1) he hpl
end
end L2
namespace HT
open PySem PyProof.Rows
def lexLt:List Int->List Int->Bool
 |[],[]=>false
 |[],_::_=>true
 |_::_,[]=>false
 |x::xs,y::ys=>if x=y then lexLt xs ys else decide (x<y)
theorem lexLt_cons(x y:Int)(xs ys:List Int):lexLt (x::xs) (y::ys)=if x=y then lexLt xs ys else decide (x<y):=rfl
theorem eqAt_int(A:Around)(s:Shared)(a:Int)(t:Tok)(c:Int)(u:Tok):∃e,SeqAt.EqAt A s (.int a t) (.int c u) e/\(e=true↔a=c):=
 ⟨(a==c),SeqAt.EqAt.int_int a t c u,by simp⟩
theorem rcLt_int(A:Around)(s:Shared)(a:Int)(t:Tok)(c:Int)(u:Tok)(prog:Program)(w:World)(E:Value->Shared->Prop)(Q:Value->Shared->Prop)(h:Q (.bool (decide (a<c))) s):
 wpAny (model prog w) A (richCompare .Lt (.int a t) (.int c u)) Q E s:=
 (PyProof.Rows.lt_int h:wpAny (model prog w) A (compareOp .Lt (.int a t) (.int c u)) Q E s)
section
open PySem.SeqAt
open PySem.AutoSeq1 (wpAny_loadPart')
open PySem.MeetsSeq PySem.MeetsSeq2 PySem.MeetsSeq3
end
section
variable{prog:Program}{w:World}{A:Around}{E:Value->Shared->Prop}{s:Shared}
def sIx(n d:Nat):Option Int->Nat
 |none=>d
 |some v=>if v<0 then(v+(n:Int)).toNat else min v.toNat n
theorem sIx_none(n d:Nat):sIx n d none=d:=rfl
theorem qq7(n d:Nat)(hd:d<=n)(o:Option Int):sIx n d o<=n:=by
 cases o with
 |none=>exact hd
 | some v=>
  show(if v<0 then(v+(n:Int)).toNat else min v.toNat n)<=n;by_cases hv:v<0
  ·rw[if_pos hv];omega
  ·rw[if_neg hv];exact Nat.min_le_right _ _
theorem qhd(v:Int)(n d:Nat):(if v<0 then max (v+(n:Int)) 0 else min v (n:Int))=((sIx n d (some v):Nat):Int):=by
 show(if v<0 then max (v+(n:Int)) 0 else min v (n:Int))=(((if v<0 then(v+(n:Int)).toNat else min v.toNat n):Nat):Int);by_cases hv:v<0
 ·simp only[if_pos hv];omega
 ·simp only[if_neg hv];omega
theorem qee(lo hi:Option Int)(n:Nat):Builtin.Slice.sliceAdjust lo hi 1 (n:Int)=(((sIx n 0 lo:Nat):Int),((sIx n n hi:Nat):Int)):=by
 have h1:¬((1:Int)<0):=by omega
 unfold Builtin.Slice.sliceAdjust;simp only[h1,if_false];refine Prod.ext ?_ ?_
 ·cases lo with
  |none=>rfl
  |some v=>exact qhd v n 0
 ·cases hi with
  |none=>rfl
  |some v=>exact qhd v n n
theorem qdn(i j:Nat):Builtin.Slice.slicePlaces (i:Int) (j:Int) 1=j-i:=by
 unfold Builtin.Slice.slicePlaces;have h1:(1:Int)>0:=by omega
 simp only[h1,if_true,Int.ediv_one];split<;>omega
theorem q89{v:Value}{o:Option Int}{Q:Option Int->Shared->Prop}(p:IsPart v o)(h:Q o s):wpAny (model prog w) A (Builtin.Slice.slicePartIndex v) Q E s:=by
 cases p with
 |none=>exact slicePart_none h
 |int i t=>exact slicePart_int h
theorem q6p{sl:Addr}{vl vu:Value}{lo hi:Option Int}{n:Nat}{Q:Int×Int×Nat->Shared->Prop}(hs:s.heap.IsSliceOf sl vl vu .none)(pl:IsPart vl lo)(pu:IsPart vu hi)
 (h:Q (((sIx n 0 lo:Nat):Int),1,sIx n n hi-sIx n 0 lo) s):wpAny (model prog w) A (Builtin.Slice.sliceApplied (.ref sl) (pure (n:Int))) Q E s:=by
 obtain⟨os,hos,hcs,hds⟩:=id hs;unfold Builtin.Slice.sliceApplied Builtin.Slice.sliceFields;refine j6 (j6 (xk hos hds (x:=vl) rfl (j6 (xk hos hds (x:=vu) rfl (j6 (xk hos hds (x:=.none) rfl (j8 ?_)))))));refine j6 (slicePart_none ?_);show wpAny _ _ (if((1:Int)==0)=true then _ else _) _ _ s;rw[if_neg (by decide)];refine j6 (q89 pl (j6 (q89 pu (j6 (j8 ?_)))));show wpAny _ _ (match Builtin.Slice.sliceAdjust lo hi 1 (n:Int)with|(lo,hi)=>pure (lo,(1:Int),Builtin.Slice.slicePlaces lo hi 1)) _ _ s;rw[qee lo hi n];show wpAny _ _ (pure (((sIx n 0 lo:Nat):Int),(1:Int),Builtin.Slice.slicePlaces ((sIx n 0 lo:Nat):Int) ((sIx n n hi:Nat):Int) 1)) _ _ s;rw[qdn];exact j8 h
theorem qiq(xs:Array Value)(i k:Nat):((List.range k).filterMap λ(m:Nat)=>xs[((i:Int)+(m:Int)*1).toNat]?).toArray=((xs.toList.drop i).take k).toArray:=by
 have e:(λ(m:Nat)=>xs[((i:Int)+(m:Int)*1).toNat]?)=λm=>xs[i+m]? :=by
  funext m;have:((i:Int)+(m:Int)*1).toNat=i+m:=by omega
  rw[this]
 rw[e];have:=pick_run xs i k;rw[List.filterMap_map]at this;have e2:((λx=>xs[x]?)∘λx=>i+x)=λm=>xs[i+m]? :=rfl;rw[e2]at this;rw[this]
theorem getItem_tuple_cut{t sl:Addr}{items:Array Value}{vl vu:Value}{lo hi:Option Int}{Q:Value->Shared->Prop}(ht:IsTup s.heap t items)(hs:s.heap.IsSliceOf sl vl vu .none)(pl:IsPart vl lo)(pu:IsPart vu hi)
 (hw:¬(sIx items.size 0 lo=0/\sIx items.size items.size hi=items.size))
 (h:Q (.ref s.heap.objs.size) {s with heap:=s.heap.push {cls:=.type "tuple",data:=.seq ((items.toList.drop (sIx items.size 0 lo)).take (sIx items.size items.size hi-sIx items.size 0 lo)).toArray}})
 (hsz:items.size<=sizeLine):wpAny (model prog w) A (getItem (.ref t) (.ref sl)) Q E s:=by
 have htake:sizeOk (.seq ((items.toList.drop (sIx items.size 0 lo)).take (sIx items.size items.size hi-sIx items.size 0 lo)).toArray):=by show((items.toList.drop (sIx items.size 0 lo)).take (sIx items.size items.size hi-sIx items.size 0 lo)).toArray.size<=sizeLine;rw[jw,xh,xp,Array.length_toList];omega
 have hj:sIx items.size items.size hi<=items.size:=qq7 _ _ (ja _) hi;obtain⟨os,hos,hcs,hds⟩:=id hs;have hTs:s.TypeIs (.ref sl) "slice":=⟨os,hos,hcs⟩;unfold getItem
 try with_reducible refine xy ?_
 first|refine j6 (j8 ?_)|skip
 refine j6 (wpAny_sequenceKey ht.typeIs (by decide) ?_);refine j6 (k9 (name:=Str.ofString "__getitem__") ht.typeIs PyProof.Rows.slot_tuple_getitem
  (k8 PyProof.Rows.slot_tuple_getitem ht.typeIs entry_tuple_getitem ?_ (args_tuple_getitem _ _)))
 show wpAny _ _ (Builtin.Tuple.tupleItemsOf (.ref t) >>= _) _ _ s;refine j6 (tupleItemsOf_ ht ?_);refine j6 (wpAny_typeOf hTs ?_);rw[if_pos (by decide)];refine j6 (q6p hs pl pu ?_);have hno:¬((((sIx items.size 0 lo:Nat):Int)==0&&(1:Int)==1&&(sIx items.size items.size hi-sIx items.size 0 lo)==items.size)=true):=by intro q;rw[Bool.and_eq_true,Bool.and_eq_true]at q;have q1:((sIx items.size 0 lo:Nat):Int)=0:=eq_of_beq q.1.1;have q2:sIx items.size items.size hi-sIx items.size 0 lo=items.size:=eq_of_beq q.2;exact hw ⟨by omega,by omega⟩
 show wpAny _ _ (if(((sIx items.size 0 lo:Nat):Int)==0&&(1:Int)==1&&(sIx items.size items.size hi-sIx items.size 0 lo)==items.size)=true then _ else _) _ _ s;rw[if_neg hno,qiq]
 first
  |exact j6 (m:=Builtin.Tuple.tupleExact _) (xx (j8 ⟨_,rfl,j8 h⟩) htake)
  |exact j6 (m:=Builtin.Tuple.tupleExact _) (xx (j6 (j8 (j8 ⟨_,rfl,j8 h⟩))) htake)
  |exact j6 (j6 (m:=Builtin.Tuple.tupleExact _) (xx (j8 (j8 ⟨_,rfl,j8 h⟩)) htake))
  |exact j6 (j6 (m:=Builtin.Tuple.tupleExact _) (xx (j8 ⟨_,rfl,j8 h⟩) htake))
end
end HT
namespace L2
open PySem PySem.Spec PyProof.Rows
abbrev TO:=St->Hp->(Option Int->Hp->Prop)->Prop
def PO(X:Cx)(e:Option Expr)(t:TO):Prop:=
 ∀(z5:List (Addr×Obj)) (s:Shared) (σ:St) (H:Hp) (Q:Option Int->Hp->Prop),Inv X z5 σ H s->t σ H Q->
   wpAny (model X.prog X.w) X.A (evalPart e X.env) (λu s'=>∃o H',Inv X z5 σ H' s'/\IsPart u o/\Q o H') X.xe s
def qei:TO:=λ_ H Q=>Q none H
def qp7(t:TE):TO:=λσ H Q=>t σ H λx H1=>∃i,x=.int i/\Q (some i) H1
theorem intsAre_of{ns:List Int}:∀{us:List Value},Vals (ns.map V.int) us->IntsAre us ns:=by
 induction ns with
 |nil=>intro us r;rw[List.map_nil]at r;cases r;exact .nil
 | cons n ns ih=>
  intro us r;rw[ju]at r;cases r with
  | cons r1 r2=>
   obtain⟨t,e⟩:=r1;subst e;exact .cons n t (ih r2)
section
variable{X:Cx}{e:Expr}{te:TE}{lo hi:Option Expr}{tl th:TO}{pos p2:Pos}
theorem q69:PO X none qei:=by intro z5 s σ H Q I h;rw[evalPart_none];exact j8 ⟨none,H,I,.none,h⟩
theorem q45(h:PE X e te):PO X (some e) (qp7 te):=by intro z5 s σ H Q I hw;rw[evalPart_some];refine thn (h z5 s σ H _ I hw) λu s1 ⟨x,H1,I1,r1,q1⟩=>?_;obtain⟨i,rfl,q⟩:=q1;obtain⟨t,rfl⟩:=r1;exact⟨some i,H1,I1,.int i t,q⟩
def SlR(X:Cx)(r:V->Option Int->Option Int->Hp->VK->Prop):Prop:=
 ∀(z5:List (Addr×Obj)) (s:Shared) (σ:St) (H:Hp) (x:V) (v vl vu:Value) (lo hi:Option Int) (sl:Addr) (Q:VK),Inv X z5 σ H s->RelV x v->s.heap.IsSliceOf sl vl vu .none->IsPart vl lo->IsPart vu hi->r x lo hi H Q->
   ∃T id,typeLookup (.type T) "__getitem__"=pure (some (.builtin id))/\s.TypeIs v T/\wpAny (model X.prog X.w) X.A (getItem v (.ref sl)) (EP X z5 σ Q) X.xe s
theorem SlR.or{r r':V->Option Int->Option Int->Hp->VK->Prop}(h:SlR X r)(h':SlR X r'):SlR X (λx lo hi H Q=>r x lo hi H Q∨r' x lo hi H Q):=by
 intro z5 s σ H x v vl vu lo hi sl Q I rx hs pl pu q;rcases q with q|q
 ·exact h z5 s σ H x v vl vu lo hi sl Q I rx hs pl pu q
 ·exact h' z5 s σ H x v vl vu lo hi sl Q I rx hs pl pu q
def tSl(r:V->Option Int->Option Int->Hp->VK->Prop)(te:TE)(tl th:TO):TE:=λσ H Q=>te σ H λx H1=>tl σ H1 λl H2=>th σ H2 λu H3=>r x l u H3 Q
theorem q3y{r:V->Option Int->Option Int->Hp->VK->Prop}(hr:SlR X r)(he:PE X e te)(hl:PO X lo tl)(hu:PO X hi th):PE X (.Subscript e (.Slice lo hi none p2) pos) (tSl r te tl th):=by intro z5 s σ H Q I h;refine Subscript_ (thn (he z5 s σ H _ I h) λv s1 ⟨x,H1,I1,r1,q1⟩=>?_);refine wpAny_Slice (thn (hl z5 s1 σ H1 _ I1 q1) λvl s2 ⟨l,H2,I2,pl,q2⟩=>thn (hu z5 s2 σ H2 _ I2 q2) λvu s3 ⟨u,H3,I3,pu,q3⟩=>?_);rw[evalPart_none];refine j8 ?_;have I4:Inv X z5 σ H3 {s3 with heap:=s3.heap.push {cls:=.type "slice",data:=.fields #[vl,vu,.none]}}:=I3.kept (t':=s3.toks) λb ob q=>jb _ q;obtain⟨T,id,hT,ht,hg⟩:=hr z5 {s3 with heap:=s3.heap.push {cls:=.type "slice",data:=.fields #[vl,vu,.none]}} σ H3 x v vl vu l u s3.heap.objs.size Q I4 r1 (Heap.IsSliceOf.new ..) pl pu q3;show wpAny (model X.prog X.w) X.A (subscriptTail e (.Slice lo hi none p2) v (.ref s3.heap.objs.size)) (EP X z5 σ Q) X.xe {s3 with heap:=s3.heap.push {cls:=.type "slice",data:=.fields #[vl,vu,.none]}};exact tail_any (ops:=[.ref s3.heap.objs.size,v]) ht hT hg (by with_unfolding_all rfl)
def cutV(xs:List V)(lo hi:Option Int):List V:=(xs.drop (HT.sIx xs.length 0 lo)).take (HT.sIx xs.length xs.length hi-HT.sIx xs.length 0 lo)
theorem q7z(xs:List V)(lo hi:Option Int):(cutV xs lo hi).length<=xs.length:=by unfold cutV;rw[xh,xp];omega
def rSlT(K:FrG):V->Option Int->Option Int->Hp->VK->Prop:=λx lo hi H Q=>∃a xs,x=.ref a/\SqT K H a xs/\
 ¬(HT.sIx xs.length 0 lo=0/\HT.sIx xs.length xs.length hi=xs.length)/\∀p,H p=none->Q (.ref p) (upd H p (.tup (cutV xs lo hi)))
theorem qpl:SlR X (rSlT X.K):=by
 intro z5 s σ H x v vl vu lo hi sl Q I rx hs pl pu h;obtain⟨a,xs,rfl,hx,hw,q⟩:=h;cases rx;obtain⟨its,r,ht,hz⟩:=I.tuple hx;have zc:its.toArray.size=xs.length:=by rw[jw];exact r.length.symm
 refine⟨"tuple",_,PyProof.Rows.slot_tuple_getitem.lookup,ht.typeIs,?_⟩;refine HT.getItem_tuple_cut ht hs pl pu (by rw[zc];exact hw) ?_ (by rw[zc];exact hz);rw[zc];refine⟨.ref s.heap.objs.size,_,I.laid (t':=s.toks) (o:=.tup (cutV xs lo hi)) (λb ob q=>jb _ q) (ja _) ?_,rfl,q _ (I.hok.fresh (ja _))⟩;exact⟨jr (q7z xs lo hi) hz,_,(r.drop (HT.sIx xs.length 0 lo)).take (HT.sIx xs.length xs.length hi-HT.sIx xs.length 0 lo),TupN.new _ _⟩
theorem Vals.nil_iff{xs:List V}{us:List Value}(r:Vals xs us):us=[]↔xs=[]:=by
 cases r with
 |nil=>simp
 |cons _ _=>simp
end
def ixN(n:Nat)(i:Int):Option Nat:=if 0<=i then(if i<n then some i.toNat else none)else if -(n:Int)<=i then some (i+n).toNat else none
def atI{α:Type}(xs:List α)(i:Int):Option α:=(ixN xs.length i).bind λj=>xs[j]?
theorem qgs{n:Nat}{i:Int}{j:Nat}(h:ixN n i=some j):seqIndex? i n=some j/\j<n/\ -(n:Int)<=i/\i<n:=by
 unfold ixN at h;by_cases h0:0<=i
 ·rw[if_pos h0]at h;by_cases h1:i<n
  ·rw[if_pos h1]at h;have e:i.toNat=j:=je h;exact⟨by rw[seqIndex_of h0 h1,e],by omega,by omega,h1⟩
  ·rw[if_neg h1]at h;cases h
 ·rw[if_neg h0]at h;by_cases h1: -(n:Int)<=i
  ·rw[if_pos h1]at h;have e:(i+n).toNat=j:=je h;exact⟨by rw[seqIndex_neg (by omega) h1,e],by omega,h1,by omega⟩
  ·rw[if_neg h1]at h;cases h
theorem qbo{α:Type}{xs:List α}{i:Int}{v:α}(h:atI xs i=some v):∃j,seqIndex? i xs.length=some j/\xs[j]? =some v/\j<xs.length/\ -(xs.length:Int)<=i/\i<xs.length:=by
 unfold atI at h;cases e:ixN xs.length i with
 |none=>rw[e]at h;cases h
 | some j=>
  rw[e]at h;obtain⟨h1,h2,h3,h4⟩:=qgs e;exact⟨j,h1,h,h2,h3,h4⟩
theorem qbn{α:Type}{xs:List α}{j:Nat}{v:α}(h:xs[j]? =some v):atI xs (j:Int)=some v:=by
 have hj:j<xs.length:=(List.getElem?_eq_some_iff.mp h).1;have e:ixN xs.length (j:Int)=some j:=by unfold ixN;rw[if_pos (by omega),if_pos (by omega)];simp
 unfold atI;rw[e];exact h
def qow(b:Expr):Prop:=∀o i,subscripted b false o i=operate [o,i] (getItem o i)
def IxR(X:Cx)(r:R2):Prop:=
 ∀(value zg:Expr) (z5:List (Addr×Obj)) (s:Shared) (σ:St) (H:Hp) (x y:V) (v u:Value) (Q:VK),Inv X z5 σ H s->RelV x v->RelV y u->r x y H Q->
   subscripted zg false v u=operate [v,u] (getItem v u)->wpAny (model X.prog X.w) X.A (subscriptTail value zg v u) (EP X z5 σ Q) X.xe s
def MtR(X:Cx)(id:String)(r:V->List V->Hp->VK->Prop):Prop:=
 ∀(z5:List (Addr×Obj)) (s:Shared) (σ:St) (H:Hp) (x:V) (xs:List V) (v:Value) (us:List Value) (Q:VK),Inv X z5 σ H s->RelV x v->Vals xs us->r x xs H Q->
   wpAny (model X.prog X.w) X.A (call (.builtin id) (v::us)) (EP X z5 σ Q) X.xe s
section
variable{X:Cx}{a b:Expr}{ta tb:TE}{pos:Pos}
theorem IxR.or{r r':R2}(h:IxR X r)(h':IxR X r'):IxR X (λx y H Q=>r x y H Q∨r' x y H Q):=by
 intro value zg z5 s σ H x y v u Q I rx ry q hs;rcases q with q|q
 ·exact h value zg z5 s σ H x y v u Q I rx ry q hs
 ·exact h' value zg z5 s σ H x y v u Q I rx ry q hs
theorem q0u{r:R2}(hr:IxR X r)(ha:PE X a ta)(hb:PE X b tb)(hs:qow b:=by exact λ_ _=>rfl):PE X (.Subscript a b pos) (tOp r ta tb):=by intro z5 s σ H Q I h;exact Subscript_ (binT ha hb I h λv u s2 x y H2 I2 rx ry q=>hr a b z5 s2 σ H2 x y v u Q I2 rx ry q (hs _ _))
def rIxL(K:FrG):R2:=λx y H Q=>∃p xs i v,x=.ref p/\y=.int i/\SqL K H p xs/\atI xs i=some v/\Q v H
def rIxT(K:FrG):R2:=λx y H Q=>∃p xs i v,x=.ref p/\y=.int i/\SqT K H p xs/\atI xs i=some v/\Q v H
def rIxS:R2:=λx y H Q=>∃z i c,x=.str z/\y=.int i/\z.length<=sizeLine/\atI z.cps.toList i=some c/\Q (.str ⟨#[c]⟩) H
theorem ix_list:IxR X (rIxL X.K):=by
 intro value zg z5 s σ H x y v u Q I rx ry h hs;obtain⟨p,xs,i,z,rfl,rfl,hq,he,q⟩:=h;cases rx;obtain⟨t,rfl⟩:=ry;obtain⟨its,r,pl,hz⟩:=I.list hq;obtain⟨j,h1,h2,h3,h4,h5⟩:=qbo he;obtain⟨w,ew,rw'⟩:=r.get h2;have hl:=r.length;have hn:=qa6;have fin:EP X z5 σ Q w s:=⟨z,H,I,rw',q⟩;by_cases h0:0<=i
 ·have hj:i.toNat=j:=by
   rw[seqIndex_of h0 h5]at h1;exact je h1
  exact item_listR pl.isList h0 (by omega) (by rw[hj];simpa using ew) fin hs
 ·have hj:(i+(its.toArray.size:Int)).toNat=j:=by
   rw[seqIndex_neg (by omega) h4]at h1;rw[jw,<-hl];exact je h1
  exact subscriptTail_builtinR (x:=w) pl.isList.typeIs slot_list_getitem.lookup
   (wpAny_getItem_list_neg (Q:=λr s'=>r=w/\EP X z5 σ Q r s') pl.isList (by omega) (by rw[jw]<;>omega) (by omega) (by rw[hj];simpa using ew) ⟨rfl,fin⟩) hs
theorem ix_tup:IxR X (rIxT X.K):=by
 intro value zg z5 s σ H x y v u Q I rx ry h hs;obtain⟨p,xs,i,z,rfl,rfl,hq,he,q⟩:=h;cases rx;obtain⟨t,rfl⟩:=ry;obtain⟨its,r,pl,hz⟩:=I.tuple hq;obtain⟨j,h1,h2,h3,h4,h5⟩:=qbo he;obtain⟨w,ew,rw'⟩:=r.get h2;have hl:=r.length;have hn:=qa6;have fin:EP X z5 σ Q w s:=⟨z,H,I,rw',q⟩;exact subscriptTail_builtinR (x:=w) pl.typeIs slot_tuple_getitem.lookup
  (getItem_tuple (j:=j) (Q:=λr s'=>r=w/\EP X z5 σ Q r s') pl (by omega) (by omega) (by rw[jw,<-hl];exact h1) (by simpa using ew) ⟨rfl,fin⟩) hs
theorem qsw:IxR X rIxS:=by
 intro value zg z5 s σ H x y v u Q I rx ry h hs;obtain⟨z,i,c,rfl,rfl,hz,he,q⟩:=h;obtain⟨t,rfl⟩:=rx;obtain⟨t',rfl⟩:=ry;obtain⟨j,h1,h2,h3,h4,h5⟩:=qbo he;have hl:z.cps.toList.length=z.length:=by simp[Str.length]
 rw[hl]at h1 h4 h5;have hn:=qa6;exact tail_any (typeIs_str s z t) slot_str_getitem.lookup (getItem_str (c:=c) (by have e1:decide (i< -(2^63:Int))=false:=decide_eq_false (by omega);have e2:decide (i≥2^63)=false:=decide_eq_false (by omega);rw[e1,e2,Bool.or_false]) (by rw[h1];simpa using h2) ⟨.str ⟨#[c]⟩,H,I.tok _,⟨_,rfl⟩,q⟩) hs
def rIx(K:FrG):R2:=λx y H Q=>rIxL K x y H Q∨rIxT K x y H Q∨rIxS x y H Q
theorem qsx:IxR X (rIx X.K):=ix_list.or (ix_tup.or qsw)
theorem qdu(its:List Value)(n j:Nat)(u:Value):Obj.mapSeq (·.setIfInBounds j u) {cls:=.type "list",data:=.seq its.toArray n}={cls:=.type "list",data:=.seq (its.set j u).toArray n}:=by simp[Obj.mapSeq]
theorem Inv.lst{z5:List (Addr×Obj)}{σ:St}{H:Hp}{s:Shared}{p:Addr}{xs:List V}(I:Inv X z5 σ H s)(h:H p=some (.lst xs)):
 ∃(its:List Value) (n:Nat),Vals xs its/\s.heap.get? p=some {cls:=.type "list",data:=.seq its.toArray n}/\xs.length<=sizeLine:=by
 obtain⟨z,its,n,r,e⟩:=I.hok p _ h;exact⟨its,n,r,e,z⟩
theorem Inv.lstUpd{z5:List (Addr×Obj)}{σ:St}{H:Hp}{s:Shared}{p:Addr}{xs ys:List V}{its its':List Value}{n n':Nat}{f:Obj->Obj}(I:Inv X z5 σ H s)(h:H p=some (.lst xs))
 (ho:s.heap.get? p=some {cls:=.type "list",data:=.seq its.toArray n}) (hf:f {cls:=.type "list",data:=.seq its.toArray n}={cls:=.type "list",data:=.seq its'.toArray n'}) (r:Vals ys its') (hz:ys.length<=sizeLine) (t:Nat):
 Inv X z5 σ (upd H p (.lst ys)) {s with heap:=s.heap.update p f,toks:=t}:=by
 have e:(s.heap.update p f).get? p=some {cls:=.type "list",data:=.seq its'.toArray n'}:=by rw[kf f ho (by rw[hf]<;>rfl),hf]
 refine I.write (x:=p) (e:=p) (by rw[h];trivial) (.inl rfl) (λb u hb q=>(ka _ _ (Ne.symm hb)).trans q) ⟨_,e⟩ ?_;exact⟨hz,its',n',r,e⟩
def qq8:V->V->V->Hp->(Hp->Prop)->Prop:=λo i v H Q=>∃p xs k j,o=.ref p/\i=.int k/\H p=some (.lst xs)/\ixN xs.length k=some j/\Q (upd H p (.lst (xs.set j v)))
theorem set_list:PSet X qq8:=by
 intro z5 s σ H o i v ov iv u Q I ro ri rv h;obtain⟨p,xs,k,j,rfl,rfl,hp,hj,q⟩:=h;cases ro;obtain⟨t,rfl⟩:=ri;obtain⟨its,n,r,ho,hz⟩:=I.lst hp;obtain⟨h1,h2,h3,h4⟩:=qgs hj;have hl:=r.length;have hn:=qa6;have I':Inv X z5 σ (upd H p (.lst (xs.set j v))) {s with heap:=s.heap.update p (Obj.mapSeq (·.setIfInBounds j u))}:=
  I.lstUpd hp ho (qdu its n j u) (r.set rv j) (by rw[x9];exact hz) s.toks
 by_cases h0:0<=k
 ·have hk:k.toNat=j:=by
   rw[seqIndex_of h0 h4]at h1;exact je h1
  exact PySem.W.ki_setAt ho h0 (by omega) (by rw[jw,<-hl];exact h4) (by rw[hk];exact⟨_,I',q⟩)
 ·have hk:(k+(its.toArray.size:Int)).toNat=j:=by
   rw[seqIndex_neg (by omega) h3]at h1;rw[jw,<-hl];exact je h1
  exact PySem.W.ki_setBack ho (by omega) (by rw[jw,<-hl];exact h3) (by omega) (by rw[hk];exact⟨_,I',q⟩)
theorem q9n(lo hi:Option Int)(n:Nat):(sliceBounds lo hi none n).1=((HT.sIx n 0 lo:Nat):Int)/\(sliceBounds lo hi none n).2.1=((HT.sIx n n hi:Nat):Int)/\(sliceBounds lo hi none n).2.2=1:=by
 refine⟨?_,?_,rfl⟩
 ·cases lo with
  |none=>simp[sliceBounds,HT.sIx]
  | some i=>
   simp only[sliceBounds,HT.sIx,Option.getD_none,show(1:Int)>0 by decide,if_true];by_cases h:i<0
   ·simp only[h,if_true]<;>omega
   ·simp only[h,if_false]<;>omega
 ·cases hi with
  |none=>simp[sliceBounds,HT.sIx]
  | some i=>
   simp only[sliceBounds,HT.sIx,Option.getD_none,show(1:Int)>0 by decide,if_true];by_cases h:i<0
   ·simp only[h,if_true]<;>omega
   ·simp only[h,if_false]<;>omega
theorem q8s(its:List Value)(lo hi:Option Int):slicePick its.toArray lo hi none=((its.drop (HT.sIx its.length 0 lo)).take (HT.sIx its.length its.length hi-HT.sIx its.length 0 lo)).toArray:=by obtain⟨h1,h2,h3⟩:=q9n lo hi its.toArray.size;unfold slicePick;rw[h1,h2,h3];simp only[sliceRange_one,pick_run,List.size_toArray]<;>rfl
def rSlL(K:FrG):V->Option Int->Option Int->Hp->VK->Prop:=λx lo hi H Q=>∃a xs,x=.ref a/\SqL K H a xs/\∀p,H p=none->Q (.ref p) (upd H p (.lst (cutV xs lo hi)))
theorem sl_list:SlR X (rSlL X.K):=by intro z5 s σ H x v vl vu lo hi sl Q I rx hs pl pu h;obtain⟨a,xs,rfl,hx,q⟩:=h;cases rx;obtain⟨its,r,ht,hz⟩:=I.list hx;have zc:=r.length;refine⟨"list",_,slot_list_getitem.lookup,ht.isList.typeIs,?_⟩;refine wpAny_getItem_list_slice ht.isList hs pl pu .none (by simp) ?_ (by rw[List.size_toArray]<;>omega);rw[q8s,<-zc];refine⟨.ref s.heap.objs.size,_,I.laid (t':=s.toks) (o:=.lst (cutV xs lo hi)) (λb ob q=>jb _ q) (ja _) ?_,rfl,q _ (I.hok.fresh (ja _))⟩;exact⟨jr (q7z xs lo hi) hz,_,0,(r.drop (HT.sIx xs.length 0 lo)).take (HT.sIx xs.length xs.length hi-HT.sIx xs.length 0 lo),jm _ rfl⟩
theorem qai:q57 X (.builtin "len") (λxs H Q=>∃p ys,xs=[.ref p]/\(SqL X.K H p ys∨SqT X.K H p ys)/\Q (.int ys.length) H):=by
 intro z5 s σ H xs us Q I r h;obtain⟨p,ys,rfl,hq,q⟩:=h;obtain⟨u,rfl,rx⟩:=vals1 r;cases rx;have hn:=qa6;rcases hq with hq|hq
 ·obtain⟨its,r',pl,hz⟩:=I.list hq;have zc:=r'.length;exact Calls.call_len_list pl.isList (by simp only[List.size_toArray]<;>omega) ⟨.int ys.length,H,I.tok _,⟨s.toks+1,by rw[jw,zc]⟩,q⟩
 ·obtain⟨its,r',pl,hz⟩:=I.tuple hq;have zc:=r'.length;exact len_tuple pl (by simp only[List.size_toArray]<;>omega) ⟨.int ys.length,H,I.tok _,⟨s.toks+1,by rw[jw,zc]⟩,q⟩
theorem qah:q57 X (.type "list") (λxs H Q=>∃p ys,xs=[.ref p]/\(SqL X.K H p ys∨SqT X.K H p ys)/\∀l,H l=none->Q (.ref l) (upd H l (.lst ys))):=by
 intro z5 s σ H xs us Q I r h;obtain⟨p,ys,rfl,hq,q⟩:=h;obtain⟨u,rfl,rx⟩:=vals1 r;cases rx;have fin:∀(its:List Value),Vals ys its->ys.length<=sizeLine->∀(h':Heap) (c':Nat),(∀b o',s.heap.get? b=some o'->h'.get? b=some o')->
  h'.get? s.heap.objs.size=some {cls:=.type "list",dict:=none,data:=.seq its.toArray c',slots:=#[]}->EP X z5 σ Q (.ref s.heap.objs.size) {s with heap:=h'}:=λits r' hz h' c' kp e=>
  ⟨.ref s.heap.objs.size,_,I.laid (t':=s.toks) kp (ja _) (show ObjOk X.prog X.w _ h' _ (.lst ys)from⟨hz,its,c',r',e⟩),rfl,q _ (I.hok.fresh (ja _))⟩
 rcases hq with hq|hq
 ·obtain⟨its,r',pl,hz⟩:=I.list hq;have zc:=r'.length;obtain⟨o,ho,hc,n,hd⟩:=pl.isList;exact call_list_seq p (.inl rfl) ho hc hd (λh' c' kp e=>fin its r' hz h' c' kp e) (by simp only[List.size_toArray]<;>omega)
 ·obtain⟨its,r',pl,hz⟩:=I.tuple hq;have zc:=r'.length;obtain⟨o,ho,hc,n,hd⟩:=pl;exact call_list_seq p (.inr rfl) ho hc hd (λh' c' kp e=>fin its r' hz h' c' kp e) (by simp only[List.size_toArray]<;>omega)
theorem q9a:q57 X (.type "tuple") (λxs H Q=>∃p ys,xs=[.ref p]/\((SqL X.K H p ys/\∀l,H l=none->Q (.ref l) (upd H l (.tup ys)))∨(SqT X.K H p ys/\Q (.ref p) H))):=by
 intro z5 s σ H xs us Q I r h;obtain⟨p,ys,rfl,h⟩:=h;obtain⟨u,rfl,rx⟩:=vals1 r;cases rx;rcases h with⟨hq,q⟩|⟨hq,q⟩
 ·obtain⟨its,r',pl,hz⟩:=I.list hq;have zc:=r'.length;refine call_tuple_list pl.isList (λh' kp=>?_) (by simp only[List.size_toArray]<;>omega);have I1:Inv X z5 σ H {s with heap:=h'}:=I.kept (t':=s.toks) kp;have I2:Inv X z5 σ (upd H h'.objs.size (.tup ys)) {s with heap:=h'.push {cls:=.type "tuple",data:=.seq its.toArray}}:=
   I1.laid (t':=s.toks) (λb o e=>jb _ e) (ja _) (show ObjOk X.prog X.w _ _ _ (.tup ys)from⟨hz,its,r',TupN.new _ _⟩)
  exact⟨.ref h'.objs.size,_,I2,rfl,q _ (I1.hok.fresh (ja _))⟩
 ·obtain⟨its,r',pl,hz⟩:=I.tuple hq;exact call_tuple_same pl ⟨.ref p,H,I,rfl,q⟩
def tyV(K:FrG)(T:String)(x:V)(H:Hp):Prop:=match x with
 |.str _=>T="str"
 |.int _=>T="int"
 |.ref p=>(T="list"/\∃xs,SqL K H p xs)∨(T="tuple"/\∃o,K.lookup p=some o/\o.cls=.type "tuple"/\o.dict=none)∨
  (T="dict"/\((∃kvs,H p=some (.dK kvs))∨∃kvs,H p=some (.dT kvs)))∨(T="set"/\∃S n,H p=some (.set S n))
 |_=>False
theorem qp2{z5:List (Addr×Obj)}{σ:St}{H:Hp}{s:Shared}{T:String}{x:V}{v:Value}(I:Inv X z5 σ H s)(r:RelV x v)(ty:tyV X.K T x H):
 s.TypeIs v T/\∀a,v=.ref a->∃ob,s.heap.get? a=some ob/\ob.dict=none:=by
 cases x with
 | str z=>
  obtain⟨t,rfl⟩:=r;cases(show T="str" from ty);exact⟨typeIs_str s z t,λ_ e=>nomatch e⟩
 | int i=>
  obtain⟨t,rfl⟩:=r;cases(show T="int" from ty);exact⟨typeIs_int s i t,λ_ e=>nomatch e⟩
 | ref p=>
  cases r;rcases ty with⟨rfl,xs,hq⟩|⟨rfl,o,hk,hc,hd⟩|⟨rfl,hk⟩|⟨rfl,S,n,hk⟩
  ·obtain⟨its,_,pl,_⟩:=I.list hq;refine⟨pl.isList.typeIs,λa e=>?_⟩;cases e;obtain⟨o,n,e,c,hd,_⟩:=pl;exact⟨o,e,hd⟩
  ·refine⟨⟨o,I.kIn p o hk,hc⟩,λa e=>?_⟩;cases e;exact⟨o,I.kIn _ o hk,hd⟩
  ·have z:∃o,s.heap.get? p=some o/\o.ExactDict:=by
    rcases hk with⟨kvs,hk⟩|⟨kvs,hk⟩
    ·obtain⟨_,_,_,_,o,_,e,ex,_⟩:=I.hok p _ hk;exact⟨o,e,ex⟩
    ·obtain⟨_,_,_,_,o,_,_,e,ex,_⟩:=I.hok p _ hk;exact⟨o,e,ex⟩
   obtain⟨o,e,ex⟩:=z;refine⟨⟨o,e,ex.1⟩,λa e2=>?_⟩;cases e2;exact⟨o,e,ex.2.1⟩
  ·obtain⟨o,_,_,_,e,ex,_⟩:=I.hok p _ hk;refine⟨⟨o,e,ex.1⟩,λa e2=>?_⟩;cases e2;exact⟨o,e,ex.2.1⟩
 |_=>exact False.elim ty
def tBM(K:FrG)(T:String)(r:V->List V->Hp->VK->Prop)(to:TE)(t:TA):TE:=λσ H Q=>to σ H λx H1=>tyV K T x H1/\t σ H1 λxs H2=>r x xs H2 Q
variable{o e:Expr}{es:List Expr}{to:TE}{t:TA}{name:Str}{zu zm:Pos}{T id:String}{r:V->List V->Hp->VK->Prop}
theorem q7a(pa:PlainAttrs T)(slot:Slot T name id)(hty:typeOf (.builtin id)=pure (.type "method_descriptor"))(hm:MtR X id r)(ho:PE X o to)(ha:PA X (e::es) t)
 (hbase:attributeBase o name X.env (eval o X.env)=eval o X.env:=by rfl)
 (hfew:((backTo zm (starEach (e::es) X.env)).all (λx=>!x.1)&&(backToKw zm (keywordEach [] X.env)).all (λx=>x.1.isSome)
   &&decide ((e::es).length+([]:List Keyword).length+(if([]:List Keyword).isEmpty then 0 else 1)<30))=true:=by rfl)
 (hline:(zu.endLine==zm.line)=true:=by rfl) (hs:starEach (e::es) X.env=(false,eval e X.env)::starEach es X.env:=by rfl) (hplain:(backTo zm (starEach es X.env)).any (·.1)=false:=by rfl):
 PE X (.Call (.Attribute o name zu) (e::es) [] zm) (tBM X.K T r to t):=by
 intro z5 s σ H Q I h;refine wpAny_Call_method_late hbase hfew hline rfl (thn (ho z5 s σ H _ I h) λv s1 ⟨x,H1,I1,r1,ty,q1⟩=>?_);obtain⟨h1,h2⟩:=qp2 I1 r1 ty;refine⟨T,id,pa,slot,hty,h1,h2,?_⟩;have hA:=ha zm z5 s1 σ H1 _ I1 q1;rw[hs]at hA ⊢;refine Calls.callWith_builtin (by show(false||(backTo zm (starEach es X.env)).any (·.1))=false;rw[hplain]<;>rfl) (Calls.evalArgs_plain ?_);exact thn hA λus s2 ⟨vs,H2,I2,r2,q2⟩=>hm z5 s2 σ H2 x vs v us Q I2 r1 r2 q2
end
def MtM(X:Cx)(id:String)(r:V->List V->Hp->VK->Prop):Prop:=
 ∀(z5:List (Addr×Obj)) (s:Shared) (σ:St) (H:Hp) (x:V) (xs:List V) (v:Value) (us:List Value) (Q:VK),Inv X z5 σ H s->RelV x v->Vals xs us->r x xs H Q->
   wpAny (model X.prog X.w) X.A (call (.builtin id) (v::us)) (EP X z5 σ Q) X.xe s
theorem Vals.one:∀{x:V} {us:List Value},Vals [x] us->∃u,us=[u]/\RelV x u
 |_,_,.cons r .nil=>⟨_,rfl,r⟩
theorem Vals.reverse{xs:List V}{us:List Value}(h:Vals xs us):Vals xs.reverse us.reverse:=by
 induction h with
 |nil=>exact .nil
 |cons r t ih=>rw[List.reverse_cons,List.reverse_cons];exact Vals.append ih (.cons r .nil)
theorem Vals.rep{xs:List V}{us:List Value}(h:Vals xs us):∀k:Nat,Vals (List.replicate k xs).flatten (List.replicate k us).flatten
 |0=>.nil
 | k+1=>by rw[List.replicate_succ,List.replicate_succ,List.flatten_cons,List.flatten_cons];exact Vals.append h (Vals.rep h k)
theorem foldl_rep(its:List Value):∀(k:Nat) (acc:List Value),
 List.foldl (λx1 x2=>x1++x2) acc.toArray (List.replicate k its.toArray)=(acc++(List.replicate k its).flatten).toArray
 |0,acc=>by simp
 | k+1,acc=>by
  have e:acc.toArray++its.toArray=(acc++its).toArray:=by simp
  have e2:(acc++its)++(List.replicate k its).flatten=acc++(List.replicate (k+1) its).flatten:=by rw[List.replicate_succ,List.flatten_cons,List.append_assoc]
  rw[<-e2,<-foldl_rep its k (acc++its),<-e,List.replicate_succ,List.foldl_cons]
section
variable{X:Cx}{z5:List (Addr×Obj)}{σ:St}{H:Hp}{s:Shared}{l b:Addr}{xs ys zs:List V}
theorem Inv.lset{its its':List Value}{n:Nat}{f:Array Value->Array Value}{t':Nat}(I:Inv X z5 σ H s)(hH:H l=some (.lst xs))
 (e:s.heap.get? l=some {cls:=.type "list",data:=.seq its.toArray n}) (hf:f its.toArray=its'.toArray) (hv:Vals ys its') (hz:ys.length<=sizeLine):
 Inv X z5 σ (upd H l (.lst ys)) {s with heap:=s.heap.update l (Obj.mapSeq f),toks:=t'}:=by
 have q:=PySem.IsL.update e f;rw[hf]at q;refine I.write (x:=l) (e:=l) (by rw[hH];exact trivial) (.inl rfl) (λb' u hb hu=>(ka s.heap (Obj.mapSeq f) (Ne.symm hb)).trans hu) ⟨_,q⟩ ?_;exact⟨hz,its',_,hv,q⟩
theorem Inv.lnew{its:List Value}{t':Nat}(I:Inv X z5 σ H s)(hv:Vals ys its)(hz:ys.length<=sizeLine):
 Inv X z5 σ (upd H s.heap.objs.size (.lst ys)) {s with heap:=s.heap.push {cls:=.type "list",data:=.seq its.toArray},toks:=t'}:=
 I.laid (λ_ _ q=>jb _ q) (ja _) ⟨hz,its,0,hv,jm _ rfl⟩
theorem Inv.fresh(I:Inv X z5 σ H s):H s.heap.objs.size=none:=I.hok.fresh (ja _)
theorem Inv.lstM(I:Inv X z5 σ H s)(hH:H l=some (.lst xs)):xs.length<=sizeLine/\∃(its:List Value) (n:Nat),Vals xs its/\xs.length=its.length/\s.heap.get? l=some {cls:=.type "list",data:=.seq its.toArray n}:=by obtain⟨z,its,n,r,e⟩:=I.hok l _ hH;exact⟨z,its,n,r,r.length,e⟩
theorem qcd{n:Nat}(h:n<=sizeLine):Builtin.List.listTooLong n=false:=by unfold Builtin.List.listTooLong;exact decide_eq_false (by omega)
end
section
variable{X:Cx}
def qaz:V->List V->Hp->VK->Prop:=λx vs H Q=>∃l xs y,x=.ref l/\vs=[y]/\H l=some (.lst xs)/\xs.length<sizeLine/\Q .non (upd H l (.lst (xs++[y])))
theorem q3h:MtM X "list.append" qaz:=by intro z5 s σ H x vs v us Q I rx rv h;obtain⟨l,xs,y,rfl,rfl,hH,hz,q⟩:=h;cases rx;obtain⟨u,rfl,ru⟩:=rv.one;obtain⟨z,its,n,r,hl,e⟩:=I.lstM hH;refine call_meets F.slot_list_append ⟨_,e,rfl⟩ F.entry_list_append (F.args_list_append_2 _ _) (PySem.list_append l its.toArray n u (by rw[jw];omega)) ⟨e,?_⟩;refine⟨.non,_,I.lset (its':=its++[u]) hH e (by simp) (r.append (.cons ru .nil)) ?_,rfl,q⟩;rw[jh,List.length_singleton];omega
def qfk:V->List V->Hp->VK->Prop:=λx vs H Q=>∃l b xs zs,x=.ref l/\vs=[.ref b]/\H l=some (.lst xs)/\H b=some (.lst zs)/\xs.length+zs.length<=sizeLine/\Q .non (upd H l (.lst (xs++zs)))
theorem q7f:MtM X "list.extend" qfk:=by
 intro z5 s σ H x vs v us Q I rx rv h;obtain⟨l,b,xs,zs,rfl,rfl,hH,hB,hz,q⟩:=h;cases rx;obtain⟨u,rfl,ru⟩:=rv.one;cases ru;obtain⟨z,its,n,r,hl,e⟩:=I.lstM hH;obtain⟨z2,its2,n2,r2,hl2,e2⟩:=I.lstM hB;have hsz:its.toArray.size+its2.toArray.size<=sizeLine:=by rw[jw,jw];omega
 have hlong:¬(!its.toArray.isEmpty&&Builtin.List.listTooLong (its.toArray.size+its2.toArray.size))=true:=by rw[qcd hsz,Bool.and_false];exact Bool.false_ne_true
 refine call_meets F.slot_list_extend ⟨_,e,rfl⟩ F.entry_list_extend (F.args_list_extend_2 _ _)
  (AutoSeq1.list_extend_list_list_0 l its.toArray n b its2.toArray n2 hlong (by rw[jw];omega) (by omega)) ⟨e,e2,?_⟩
 refine⟨.non,_,I.lset (its':=its++its2) hH e (by simp) (r.append r2) ?_,rfl,q⟩;rw[jh];omega
def rRep:R2:=λx y H Q=>∃l k xs,x=.ref l/\y=.int k/\H l=some (.lst xs)/\ -(2^63)<=k/\k<2^63/\xs.length*k.toNat<=sizeLine/\
 ∀p,H p=none->Q (.ref p) (upd H p (.lst (List.replicate k.toNat xs).flatten))
theorem len_rep{α:Type}(xs:List α)(k:Nat):(List.replicate k xs).flatten.length=k*xs.length:=by
 induction k with
 |zero=>simp
 |succ k ih=>rw[List.replicate_succ,List.flatten_cons,jh,ih,Nat.succ_mul,Nat.add_comm]
theorem qg0:OpR X (binaryOp .Mult) rRep:=by
 intro z5 s σ H x y v u Q I rx ry h;obtain⟨l,k,xs,rfl,rfl,hH,h1,h2,hz,q⟩:=h;cases rx;obtain⟨t,rfl⟩:=ry;obtain⟨z,its,n,r,hl,e⟩:=I.lstM hH;have zc:its.toArray.size*k.toNat<=sizeLine:=by rw[jw,<-hl];exact hz
 have hcap:¬its.toArray.size*k.toNat>(2^63-1) / 8:=by
  have:(sizeLine:Nat)<=(2^63-1) / 8:=by decide
  omega
 have hfit:¬(!Builtin.List.listFitsIndex k)=true:=by rw[fitsIndex_both h1 h2];exact Bool.false_ne_true
 have hlong:¬Builtin.List.listTooLong (its.toArray.size*k.toNat)=true:=by rw[qcd zc];exact Bool.false_ne_true
 have hnew:List.foldl (λx1 x2=>x1++x2) #[] (List.replicate (if its.toArray.isEmpty=true then 0 else k.toNat) its.toArray)=(List.replicate k.toNat its).flatten.toArray:=by
  have f0:∀m:Nat,List.foldl (λx1 x2=>x1++x2) #[] (List.replicate m its.toArray)=(List.replicate m its).flatten.toArray:=λm=>by have:=foldl_rep its m [];rw[List.nil_append]at this;exact this
  rw[f0];cases its with
  |nil=>simp
  |cons a r'=>rw[if_neg (by simp)]
 refine wpAny_binaryOp_repeat_ref (T:="list") (U:="int") (by decide) ⟨_,e,rfl⟩ (λs'=>typeIs_int s' k t) noFill_list_mul F.fills_int_mul F.slot_int_rmul repeat_list F.slot_int_index.lookup
  (call_meets F.slot_int_rmul (typeIs_int s k t) F.entry_int_rmul (F.args_int_rmul_2 _ _) (int___rmul___int_list k t l its.toArray n)
    ⟨e,rfl,⟨_,e,rfl⟩,call_meets F.slot_list_mul ⟨_,e,rfl⟩ F.entry_list_mul (F.args_list_mul_2 _ _) (AutoListH.list___mul___list_int_3 l its.toArray n k t hfit hcap hlong) ⟨e,?_⟩⟩)
 rw[hnew];exact⟨.ref _,_,I.lnew (t':=s.toks) (r.rep k.toNat) (by rw[len_rep,Nat.mul_comm];exact hz),rfl,q _ I.fresh⟩
end
section
variable{prog:Program}{w:World}{A:Around}{E:Value->Shared->Prop}{s:Shared}
end
section
variable{X:Cx}
end
end L2
namespace Att
open PySem PySem.W PySem.Calls PyProof.Rows
theorem q7u{P:Params}{h:Heap}:∀(ns:List Int) (vs:List Value),WellAll P h vs (ns.map WData.int)->IntsAre vs ns:=by
 intro ns;induction ns with
 | nil=>
  intro vs w;rw[List.map_nil]at w;cases w;exact .nil
 | cons n ns ih=>
  intro vs w;rw[ju]at w;cases w with
  | cons a b=>
   cases a;exact .cons _ _ (ih _ b)
theorem qeo{l:OpenLaw}{n:Nat}(hn:l.most=some n){P:Params}{h:Heap}{args:List WData}{vals:List Value}
 (hpre:l.row.toRowW.claim.pre args=true) (hwl:WellAll P h vals args):
 ∃a vs ns,vals=[Value.ref a]/\args=[WData.list (ns.map WData.int)]/\h.get? a=some {cls:=.type "list",data:=.seq vs.toArray}/\IntsAre vs ns/\ns.length<=n:=by
 have hsh:WShape.hasAll [] args [.list .int]=true:=(pre_splitW hpre).1;have hc:l.pre.holds [] {args:=args}=true:=(pre_splitW hpre).2;obtain⟨d,r,rfl,h1,h2⟩:=hasAllW_cons hsh;obtain rfl:=hasAllW_nil h2;obtain⟨xs,rfl,h3⟩:=hasW_list h1;obtain⟨ns,rfl⟩:=items_int h3;have zc:ns.length<=n:=by
  unfold OpenLaw.pre at hc;have h4:(WTm.not (.lt (.lit (.int (n:Int))) (.len (.arg 0)))).holds [] {args:=[.list (ns.map .int)]}=true:=by have h4:=(holds_andW hc).1;rw[hn]at h4;exact h4
  have h5:=condW_of h4 (w_not (w_lt w_lit (w_len_list (w_arg rfl))));rw[j7]at h5;refine Nat.le_of_not_lt λq=>?_;have q':(n:Int)<((ns.length:Nat):Int):=by omega
  first
   |(rw[decide_eq_true q']at h5;exact absurd h5 (by decide))
   |(simp at h5;omega)
 cases hwl with
 | cons w1 w2=>
  cases w2;cases w1 with
  |list ho hall=>exact⟨_,_,ns,rfl,rfl,ho,q7u ns _ hall,zc⟩
theorem qfo(l:OpenLaw)(args:List WData):l.row.toRowW.claim.post args (.bool true) args=true:=
 postW_of (r:=l.row.toRowW) (X:=(true==true))
  (show WShape.has [] (.bool true) .bool=true by first|rfl|decide|simp[WShape.has,WShape.arms,WShape.armsAll])
  (show(WTm.eq .res (.lit (.bool true))).value [] {args:=args,res:=some (.bool true),after:=args}=some (.bool (true==true))from w_eq_bool (w_res rfl) w_lit) rfl
theorem attach_call{l:OpenLaw}{n:Nat}{q:Program}{loose:List Str}{XP:(Str->Option Value)->Heap->Prop}{YP:World->Heap->Prop}{d:DefRec}
 (hn:l.most=some n) (hdf:d.params.defaults=[])
 (call:∀(w:World) (s₀ s₁:Shared) (mg mb:Str->Option Value) (fa:Addr) (o:Obj) (pm cd doc:Value) (a:Addr) (vs:List Value) (ns:List Int),
   Ground q loose [] XP w s₀ mg mb s₁.heap->YP w s₁.heap->
   s₁.heap.get? fa=some o->o.data=.func (docDef d.name d.params d.body d.scope pm cd doc)->s₁.heap.CodeRec cd d.name->mg d.name=some (.ref fa)->
   s₁.heap.get? a=some {cls:=.type "list",data:=.seq vs.toArray}->IntsAre vs ns->ns.length<=n->s₁.gens=#[]->
   codeAny (model l.prog w) callerA (.call (.ref fa) ⟨[.ref a],[]⟩) (λr s'=>r=.ok (.ret (.bool true))/\OldK s₁.heap s'.heap/\s'.os=s₁.os/\AllBare s'.gens) s₁):
 WalkO q loose XP YP l.row.toRowW d [] (λf vs=>PySem.call f vs):=by
 intro w s₀ s₁ mg mb G Y fa o pm cd doc dV kV ho hd hcd hD hmg hg args vals as hpre hlay hrd hwl hlo;obtain rfl:dV=.none:=Dflts.none hD hdf;obtain rfl:kV=.none:=Dflts.noKw hD;obtain⟨a,vs,ns,rfl,rfl,hobj,zz,zc⟩:=qeo hn hpre hwl;refine enter_call (codeAny_mono (call w s₀ s₁ mg mb fa o pm cd doc a vs ns G Y ho (fd_plain hd) hcd hmg hobj zz zc hg) λr s' hq=>?_);obtain⟨rfl,h2,h3,h4⟩:=hq;exact⟨.inl ⟨.bool true,.bool true,[],rfl,λ_=>rfl,.bool true,qfo l _,λ_=>⟨List.Pairwise.nil,λ_ hm=>(nomatch hm)⟩⟩,h2,h3,h4⟩
section
variable{prog:Program}{w:World}{A:Around}{E:Value->Shared->Prop}{s:Shared}{K:Frag}
end
end Att
namespace L2
open PySem PySem.Spec PyProof.Rows
theorem q9f:∀{vs:List Value} {ns:List Int},IntsAre vs ns->Vals (ns.map V.int) vs
 |_,_,.nil=>.nil
 |_,_,.cons n t h=>.cons ⟨t,rfl⟩ (q9f h)
def Only(H:Hp):Prop:=∀b,H b=none∨∃o xs,H b=some (.frz o (.lst xs))
theorem qja{P:Program}{w:World}{K:FrG}{mg mb:Str->Option Value}{CX:CXT}{k:Nat}{fa a:Addr}{fd:FuncData}{x:Str}{sp:Sp}{s₁:Shared}{vs:List Value}{ns:List Int}
 (KX:K.In s₁.heap) (hns:s₁.heap.Ns mainGlobals mg) (hb:s₁.heap.Ns builtinsNs mb) (hbb:∀x:Str,x≠"__name__"->mb x=bootBuiltins x) (hlim:s₁.heap.NoLimit) (hg:s₁.gens=#[])
 (ha:s₁.heap.get? a=some {cls:=.type "list",data:=.seq vs.toArray}) (hi:IntsAre vs ns) (hl:ns.length<=sizeLine) (hr:Room k callerA)
 (F:∀base:Heap,K.In base->base.Ns mainGlobals mg->FnOk P w K mg base CX k fa fd [x] sp) (hbind:∀(s:Shared) (u:Value),BindsTo s fd ⟨[u],[]⟩ [(x,u)])
 (hsp:∀H:Hp,Only H->SqL K H a (ns.map V.int)->sp [.ref a] H (λv _=>v=.bl true) λ_ _ _=>False)
 (hCX:∀H e s',CX [] H s₁ (λ_ _ _=>False) e s'->False):
 codeAny (model P w) callerA (.call (.ref fa) ⟨[.ref a],[]⟩) (λr s'=>r=.ok (.ret (.bool true))/\OldK s₁.heap s'.heap/\s'.os=s₁.os/\AllBare s'.gens) s₁:=by
 have rv:=q9f hi;have lenV:=hi.length
 -- from an abstract heap in which nothing but the script may be tracked
 have core:∀H:Hp,Only H->SqL K H a (ns.map V.int)->HOk P w H s₁.heap->(∀b,H b≠none->b=a)->(H a≠none->K.lookup a=none)->
  codeAny (model P w) callerA (.call (.ref fa) ⟨[.ref a],[]⟩) (λr s'=>r=.ok (.ret (.bool true))/\OldK s₁.heap s'.heap/\s'.os=s₁.os/\AllBare s'.gens) s₁:=by
  intro H hO hS hok hA hK;have base_of:∀{b:Addr} {o:Obj},s₁.heap.get? b=some o->H b=none->(hidT s₁.heap H).get? b=some o:=λe n=>qji e n;have noA:∀{b:Addr} {o:Obj} {es:Array DictEntry} {ep:Nat},s₁.heap.get? b=some o->o.data=.dict es ep->H b=none:=λ{b o es ep} e d=>by
   cases q:H b with
   |none=>rfl
   | some u=>
    have e':b=a:=hA b (by rw[q];simp);subst e';rw[ha]at e;cases e;have d':Data.seq vs.toArray _=Data.dict es ep:=d;cases d'
  have nsK:∀{b:Addr} {m:Str->Option Value},s₁.heap.Ns b m->(hidT s₁.heap H).Ns b m:=λ{b m} ⟨o,es,ep,e,d,r⟩=>⟨o,es,ep,base_of e (noA e d),d,r⟩;have hKb:K.In (hidT s₁.heap H):=λb o e=>base_of (KX b o e) (by
   cases q:H b with
   |none=>rfl
   | some u=>
    have e':b=a:=hA b (by rw[q];simp);subst e';rw[hK (by rw[q];simp)]at e;cases e)
  have hM:Mod K mg (hidT s₁.heap H):=⟨hKb,nsK hns,⟨mb,nsK hb,hbb⟩,let ⟨mc,h1,h2⟩:=hlim;⟨mc,nsK h1,h2⟩⟩;have e0:Env0 P w K mg (hidT s₁.heap H) callerA [] s₁ H:=⟨rfl,hM,λb o e=>qn1 e,Nat.le_of_eq (qgx _ _),trivial,λb hb=>absurd (show b∈([]:List Addr)from hb) (by simp),hok,.of_eq hg⟩;refine codeAny_mono ((F _ hKb (nsK hns)).run callerA [] s₁ H ⟨[.ref a],[]⟩ [.ref a] [.ref a] _ _ hr e0 (hbind s₁ (.ref a)) (.cons rfl .nil) (hsp H hO hS)) λr s' h=>?_;cases r with
  |error e=>exact(hCX H e s' h).elim
  | ok fl=>
   cases fl with
   |next=>exact False.elim h
   |brk=>exact False.elim h
   |cont=>exact False.elim h
   | ret u=>
    obtain⟨v,H',os,bare,un,hok',r',q⟩:=h;have q':v=.bl true:=q;subst q';obtain rfl:u=Value.bool true:=r';refine⟨rfl,OldK.of_keep λb o e=>?_,os,bare⟩;cases q:H b with
    |none=>exact un.keep b o e q (by intro z;exact absurd (show b∈([]:List Addr)from z) (by simp)) (by simp)
    | some u=>
     rcases hO b with z|⟨ob,xs,z⟩
     ·rw[q]at z;cases z
     ·have z2:=un.frzs b ob _ z;obtain⟨e1,_⟩:=hok b _ z;obtain⟨e2,_⟩:=hok' b _ z2;rw[e]at e1;cases e1;exact e2
 cases hk:K.lookup a with
 | some o=>
  -- the script is one of the module's own objects
  have e:=KX a o hk;rw[ha]at e;cases e;refine core (λ_=>none) (λ_=>.inl rfl) (.inr ⟨_,vs.toArray,_,hk,rfl,rfl,rfl,by rw[jw,lenV];exact hl,by simpa using rv⟩) (λb u z=>by have z':(none:Option HO)=some u:=z;cases z') (λb z=>absurd rfl z) λz=>absurd rfl z
 | none=>
  refine core (λb=>if b=a then some (.frz {cls:=.type "list",data:=.seq vs.toArray} (.lst (ns.map V.int)))else none) (λb=>?_) (.inl (.inr ⟨{cls:=.type "list",data:=.seq vs.toArray},if_pos rfl⟩)) (λb u z=>?_) (λb z=>?_) λ_=>hk
  ·by_cases hb:b=a
   ·exact .inr ⟨_,_,if_pos hb⟩
   ·exact .inl (if_neg hb)
  ·by_cases hb:b=a
   ·have z':=(if_pos hb).symm.trans z;cases z';subst hb;exact⟨ha,by rw[j7];exact hl,vs,_,rv,ha⟩
   ·have z':=(if_neg hb).symm.trans z;cases z'
  ·by_cases hb:b=a
   ·exact hb
   ·exact absurd (if_neg hb) z
theorem walk_of{l:PySem.W.OpenLaw}{n k:Nat}{q:Program}{loose:List Str}{XP:(Str->Option Value)->Heap->Prop}{YP:World->Heap->Prop}{d:DefRec}{K:Params->PySem.W.Frag}{CX:World->CXT}{sp:World->Sp}{x:Str}
 (hn:l.most=some n) (hn2:n<=sizeLine) (hdf:d.params.defaults=[]) (hr:Room k callerA)
 (hY:∀(w:World) (h:Heap),YP w h->(K w.params).In h)
 (F:∀(w:World) (mg:Str->Option Value) (fa:Addr) (h:Heap),(K w.params).In h->h.Ns mainGlobals mg->mg d.name=some (.ref fa)->
   ∃fd:FuncData,(∀(s:Shared) (u:Value),BindsTo s fd ⟨[u],[]⟩ [(x,u)])/\
    ∀base:Heap,(K w.params).In base->base.Ns mainGlobals mg->FnOk l.prog w (K w.params) mg base (CX w) k fa fd [x] (sp w))
 (hsp:∀(w:World) (H:Hp) (a:Addr) (ns:List Int),ns.length<=n->Only H->SqL (K w.params) H a (ns.map V.int)->sp w [.ref a] H (λv _=>v=.bl true) λ_ _ _=>False)
 (hCX:∀(w:World) (H:Hp) (s:Shared) (e:Value) (s':Shared),CX w [] H s (λ_ _ _=>False) e s'->False):
 PySem.W.WalkO q loose XP YP l.row.toRowW d [] (λf vs=>PySem.call f vs):=by
 refine Att.attach_call hn hdf λw s₀ s₁ mg mb fa o pm cd doc a vs ns G Y ho hd hcd hmg hobj zz zc hg=>?_;have KX:=hY w _ Y;obtain⟨fd,hb,hF⟩:=F w mg fa _ KX G.T.g hmg;exact qja KX G.T.g G.T.b G.T.builtins G.T.nolimit hg hobj zz (jr zc hn2) hr hF hb (λH hO hS=>hsp w H a ns zc hO hS) λH e s'=>hCX w H s₁ e s'
def inClass(s:Stmt)(j:Nat):Stmt:=match s with
 |.ClassDef _ _ _ body _ _ _ _ _ _ _=>body.getD j (.Pass ⟨0,0,0,0⟩)
 |_=>.Pass ⟨0,0,0,0⟩
def q0p(s:Stmt):Arguments:=match s with
 |.FunctionDef _ a _ _ _ _ _ _ _ _=>a
 |_=>{posonlyargs:=[],args:=[],vararg:=none,kwonlyargs:=[],kw_defaults:=[],kwarg:=none,defaults:=[]}
def q0n(s:Stmt):List Stmt:=match s with
 |.FunctionDef _ _ b _ _ _ _ _ _ _=>b
 |_=>[]
def q04(s:Stmt):Scope:=match s with
 |.FunctionDef _ _ _ _ _ _ sc _ _ _=>sc
 |_=>{kind:=.function,names:=[],isGenerator:=false,isCoroutine:=false}
abbrev CX0:CXT:=λ_ _ _ _ _ _=>False
abbrev E0:XK:=λ_ _ _=>False
theorem q19{X:Cx}:q8p CX0 X E0:=λ_ _ _ _ _ _ _ h=>h.elim
structure Fun(K:FrG)(x qual:Str)(st:Stmt)(f:Addr)(fd:FuncData):Prop where
 ex:∃(oc:Value) (od:Option Addr) (kV doc pm:Value) (an:Option Addr) (cdv ct:Value) (osl:Array (Option Value)),
  fd=PySem.W.fnOf x qual (q0p st) (q0n st) (q04 st) .none kV doc pm an cdv ct/\K.lookup f=some ⟨oc,od,.func fd,osl⟩/\PySem.W.codeIn K cdv qual=true
 kp:PySem.W.keepIn K (.ref f)=true
section
variable{P:Program}{w:World}{K:FrG}{mg:Str->Option Value}{base:Heap}
theorem Fun.ok{x qual:Str}{st:Stmt}{f:Addr}{fd:FuncData}{N ps:List Str}{k:Nat}{sp:Sp}(F:Fun K x qual st f fd)(S:q0r N ps (q04 st))(len:∀vs H Q E,sp vs H Q E->vs.length=ps.length)
 (zr:∀(cdv:Value) (A:Around) (outer:List Env) (s:Shared) (H:Hp) (vs:List V) (Q:VK) (E:XK),Room k (A.deeper (envOfC qual (q04 st) s.heap.objs.size f cdv))->sp vs H Q E->
   ∃t,PSs (cxOf CX0 P w K mg base N qual (q04 st) f cdv A outer s H E).nox (q0n st) t/\t {nx:=λ_ H'=>Q .non H',rt:=Q} (start N vs) H):FnOk P w K mg base CX0 (k+1) f fd ps sp:=by
 obtain⟨oc,od,kV,doc,pm,an,cdv,ct,osl,rfl,lk,hcd⟩:=F.ex;refine qt6 lk hcd S len λA outer s H vs Q E hr hsp=>?_;obtain⟨t,h,q⟩:=zr cdv A outer s H vs Q E hr hsp;exact⟨t,h.nox,q⟩
theorem qt5{x qual:Str}{st:Stmt}{f:Addr}{oc:Value}{od an:Option Addr}{osl:Array (Option Value)}{kV doc pm cdv ct:Value}(l:K.lookup f=some ⟨oc,od,.func (PySem.W.fnOf x qual (q0p st) (q0n st) (q04 st) .none kV doc pm an cdv ct),osl⟩)
 (c:PySem.W.codeIn K cdv qual=true) (k:PySem.W.keepIn K (.ref f)=true):Fun K x qual st f (PySem.W.fnOf x qual (q0p st) (q0n st) (q04 st) .none kV doc pm an cdv ct):=⟨⟨oc,od,kV,doc,pm,an,cdv,ct,osl,rfl,l,c⟩,k⟩
end
section
variable{X:Cx}
theorem pv(i:Nat){x:Str}{pos:Pos}(hN:X.N[i]? =some x:=by rfl)(hv:Vis X.env.scope x:=by first|exact Or.inl rfl|exact Or.inr (Or.inl rfl)|exact Or.inr (Or.inr rfl))(hd:(x==("__debug__":Str))=false:=by decide)
 (hcd:(x==("__classdict__":Str))=false:=by decide):PE X (.Name x pos) (tVar i):=qqk hN hv hd hcd
end
theorem iteF{A B:Prop}(h:B):if false=true then A else B:=by rw[if_neg Bool.false_ne_true];exact h
theorem iteT{A B:Prop}(h:A):if true=true then A else B:=by rw[if_pos rfl];exact h
def Same(H H':Hp):Prop:=∀b o,H b=some o->H' b=some o
theorem Same.refl(H:Hp):Same H H:=λ_ _ h=>h
theorem Same.trans{H H1 H2:Hp}(a:Same H H1)(b:Same H1 H2):Same H H2:=λc o h=>b c o (a c o h)
theorem Same.free{H H':Hp}(e:Same H H'){l:Addr}(h:H' l=Option.none):H l=Option.none:=by
 cases q:H l with
 |none=>rfl
 | some o=>
  rw[e l o q]at h;cases h
section
variable{X:Cx}{z5:List (Addr×Obj)}{σ:St}{H:Hp}{s:Shared}
theorem Inv.track{d:Addr}{o:HO}(I:Inv X z5 σ H s)(hn:H d=none)(hy:X.s₀.heap.objs.size<=d)(hL:d≠X.env.locals)(hc:∀x c,X.env.cells.lookup x=some c->c≠d)
 (hp:∀p∈X.pn++z5,p.1≠d) (new:ObjOk X.prog X.w (upd H d o) s.heap d o):Inv X z5 σ (upd H d o) s:=by
 have old:∀b ob,X.s₀.heap.get? b=some ob->b≠d:=λb ob e=>jf (jn (j9 e) hy);have was:∀b u,H b=some u->b≠d:=λb u e=>q1l e hn;refine⟨I.ok,I.os,I.bare,⟨I.base.keep,I.base.slot,λb ob e n hx=>?_,I.base.there,λb xs e=>?_,λb ob u e=>?_,λb ps e=>?_⟩,I.loc,I.cell,?_,λx c e=>?_,λp z=>?_,λb u e=>?_,I.len⟩
 ·rw[q0v (old b ob e)];exact I.base.free b ob e n hx
 ·have q:=I.base.tups b xs e;rw[q0v (was b _ q)];exact q
 ·have q:=I.base.frzs b ob u e;rw[q0v (was b _ q)];exact q
 ·obtain⟨m,q⟩:=I.base.tbls b ps e;exact⟨m,by rw[q0v (was b _ q)];exact q⟩
 ·rw[q0v (Ne.symm hL)];exact I.free
 ·rw[q0v (hc x c e)];exact I.freeC x c e
 ·obtain⟨e,n,r⟩:=I.pin p z;exact⟨e,by rw[q0v (hp p z)];exact n,r⟩
 ·by_cases hb:b=d
  ·subst hb;rw[q0y]at e;cases e;exact new
  ·rw[q0v hb]at e;refine(I.hok b u e).stay (λc v _ q=>q) (λc q=>?_) λc xs q=>?_
   ·rw[q0v (was c _ q)];exact q
   ·rw[q0v (was c _ q)];exact q
end
theorem q6i{env:Env}:∀(names:List (Str×NameKind)) (acc:List (Str×Addr)),(∀y∈names,y.2=.free->∃c,env.cells.lookup y.1=some c)->
 ∃cl,(forIn names acc λ(p:Str×NameKind) (cs:List (Str×Addr))=>(if(p.2==NameKind.free)=true then do let c <-cellOf env p.1;pure (ForInStep.yield ((p.1,c)::cs))else pure (ForInStep.yield cs):Sem (ForInStep (List (Str×Addr)))))=pure cl/\
  (∀x c,cl.lookup x=some c->acc.lookup x=some c∨env.cells.lookup x=some c)/\(∀x c,acc.lookup x=some c->∃c',cl.lookup x=some c')/\∀y∈names,y.2=.free->∃c,cl.lookup y.1=some c
 |[],acc,_=>⟨acc,rfl,λ_ _ h=>.inl h,λ_ c h=>⟨c,h⟩,λ_ h=>nomatch h⟩
 | (n,k)::r,acc,hh=>by
  by_cases hk:k=.free
  ·subst hk;obtain⟨c,hc⟩:=hh (n,.free) jg rfl;obtain⟨cl,e,h1,h2,h3⟩:=q6i (env:=env) r ((n,c)::acc) λy hy=>hh y (jj _ hy);have ec:cellOf env n=pure c:=by
    unfold cellOf;rw[hc]
   have here:∃c',cl.lookup n=some c':=h2 n c (by simp[List.lookup_cons]);refine⟨cl,?_,λx d q=>?_,λx d q=>?_,λy hy hf=>?_⟩
   ·rw[List.forIn_cons];simp only[beq_self_eq_true,if_true,ec,pure_bind];exact e
   ·rcases h1 x d q with z|z
    ·rw[List.lookup_cons]at z;by_cases hx:x=n
     ·subst hx;simp only[beq_self_eq_true]at z;cases z;exact .inr hc
     ·rw[beq_eq_false_iff_ne.mpr hx]at z;exact .inl z
    ·exact .inr z
   ·by_cases hx:x=n
    ·subst hx;exact here
    ·exact h2 x d (by rw[List.lookup_cons,beq_eq_false_iff_ne.mpr hx];exact q)
   ·rcases List.mem_cons.mp hy with rfl|hy
    ·exact here
    ·exact h3 y hy hf
  ·obtain⟨cl,e,h1,h2,h3⟩:=q6i (env:=env) r acc λy hy=>hh y (jj _ hy);refine⟨cl,?_,h1,h2,λy hy hf=>?_⟩
   ·rw[List.forIn_cons];have hb:(k==NameKind.free)=false:=by simpa using hk
    simp only[hb,Bool.false_eq_true,if_false,pure_bind];exact e
   ·rcases List.mem_cons.mp hy with rfl|hy
    ·exact absurd hf hk
    ·exact h3 y hy hf
theorem q4v{env:Env}{scope:Scope}(hh:∀y∈scope.names,y.2=.free->∃c,env.cells.lookup y.1=some c):
 ∃cl,closureFor scope env=pure cl/\(∀x c,cl.lookup x=some c->env.cells.lookup x=some c)/\∀y∈scope.names,y.2=.free->∃c,cl.lookup y.1=some c:=by
 obtain⟨cl,e,h1,_,h3⟩:=q6i (env:=env) scope.names [] hh;refine⟨cl,?_,λx c q=>(h1 x c q).elim (λz=>by simp at z) id,h3⟩;unfold closureFor;simp only[bind_pure];exact e
def cxB(X:Cx)(N:List Str)(scope:Scope)(s:Shared)(H:Hp)(C:Addr)(cl:List (Str×Addr))(fp:List Addr):Cx where
 prog:=X.prog
 w:=X.w
 K:=X.K
 mg:=X.mg
 base:=X.base
 A:=X.A
 N:=N
 s₀:=s
 H₀:=H
 env:=compEnvC scope cl C X.env
 outer:=X.stack
 stack:=X.stack
 ex:=fp
 fn:=λ_=>false
 calm:=X.calm
 pn:=[]
 xe:=λ_ _=>False
def caps(n:Nat)(js:List Nat)(σ:St):St:=List.replicate n none++js.map λj=>(σ[j]?).join
def Own(n:Nat)(g:TG):Prop:=∀v σ H Q,g v σ H Q->g v σ H λσ2 H2=>Q σ2 H2/\σ2.length=σ.length/\∀i,n<=i->σ2[i]? =σ[i]?
theorem q1o{n i:Nat}(h:i<n):Own n (q6f i):=λv σ H Q q=>⟨q,by simp,λj hj=>by rw[List.getElem?_set_ne (by omega)]⟩
theorem q5y{K:FrG}{n i j:Nat}(hi:i<n)(hj:j<n):Own n (gTup K 2 (qjl (q6f i) (qjl (q6f j) gNil))):=λv σ H Q q=>by obtain⟨a,xs,e,h,hl,x,r,e1,y,r2,e2,e3,q⟩:=q;exact⟨a,xs,e,h,hl,x,r,e1,y,r2,e2,e3,q,by simp,λk hk=>by rw[List.getElem?_set_ne (by omega),List.getElem?_set_ne (by omega)]⟩
def PIf(X:Cx)(ifs:List Expr)(t:TT):Prop:=
 ∀(z5:List (Addr×Obj)) (s:Shared) (σ:St) (H:Hp) (Q:Bool->Hp->Prop),Inv X z5 σ H s->t σ H Q->
   wpAny (model X.prog X.w) X.A (forIn ifs true λc r=>if r=true then do let ok <-isTrue c X.env (eval c X.env);pure (ForInStep.yield ok)else pure (ForInStep.yield r)) (TP X z5 σ Q) X.xe s
def tYes:TT:=λ_ H Q=>Q true H
theorem q27{X:Cx}:PIf X [] tYes:=λ_ _ _ H _ I h=>wpAny_tests_nil ⟨H,I,h⟩
theorem q78{X:Cx}{c:Expr}{t:TT}(hc:PT X c t):PIf X [c] t:=λz5 s σ H Q I h=>wpAny_tests_one (hc z5 s σ H Q I h)
def cGo(g:TG)(tt:TT)(te:TE)(σ0:St)(Fin:List V->Hp->Prop)(J:It)(H1:Hp):Prop:=
 ∃W:Nat->Nat->List V->Hp->Prop,(∃m,W 0 m [] H1)/\∀i m ys H2,W i m ys H2->
  (J.stop i H2/\ys.length<=sizeLine/\Fin ys H2)∨
  (J.go i H2/\ys.length<sizeLine/\∃N:List V->Hp->Prop,(∀ys' H',N ys' H'->∃m',m'<m/\W (i+1) m' ys' H')/\∀x H3,J.yld i H2 x H3->g x σ0 H3 λσ4 H4=>tt σ4 H4 λb H5=>
    if b=true then te σ4 H5 λy H6=>N (ys++[y]) H6 else N ys H5)
def qd1(n:Nat)(js:List Nat)(wi:TI)(g:TG)(tt:TT)(te:TE):TE:=λσ H Q=>
 wi σ H (cGo g tt te (caps n js σ) λys H2=>∀D,H2 D=none->Q (.ref D) (upd H2 D (.lst ys)))
def qfd(k n:Nat)(js:List Nat)(wi:TI)(g:TG)(tt:TT)(te:TE):TS:=λE σ H=>
 wi σ H (cGo g tt te (caps n js σ) λys H2=>∀D,H2 D=none->E.nx (σ.set k (some (.ref D))) (upd H2 D (.lst ys)))
theorem qag{prog:Program}{w:World}{A:Around}{R:Result->Shared->Prop}{s:Shared}{elt zj ze:Expr}{ifs:List Expr}{scope:Scope}{pos:Pos}{it acc:Value}{env:Env}(I:Nat->Shared->Prop)
 (turn:∀n s,I n s->wpAny (model prog w) A (pyNext it) (λr s₁=>(r=none/\R (.ok .next) s₁)∨∃v,r=some v/\wpAny (model prog w) A (letOwnedTupleGo zj it v) (λ_ s₀=>
   wpAny (model prog w) A (assign zj env v) (λ_ s₂=>
    wpAny (model prog w) A (forIn ifs true λc r=>if r=true then do let ok <-isTrue c env (eval c env);pure (ForInStep.yield ok)else pure (ForInStep.yield r)) (λok s₃=>
     if ok=true then wpAny (model prog w) A (eval elt env) (λx s₄=>wpAny (model prog w) A (call (.builtin "list.append") [acc,x]) (λ_ s₅=>∃m,m<n/\I m s₅) (λ_ _=>False) s₄) (λ_ _=>False) s₃
     else∃m,m<n/\I m s₃) (λ_ _=>False) s₂) (λ_ _=>False) s₀) (λ_ _=>False) s₁) (λ_ _=>False) s)
 (n:Nat) (h:I n s):codeAny (model prog w) A (.compLoop (.ListComp elt [⟨zj,ze,ifs,0⟩] scope pos) 0 it acc env) R s:=by
 have no:∀{E:Value->Shared->Prop} (x:Value) (z:Shared),False->E x z:=λ_ _ f=>f.elim;refine codeAny_loop rfl I (λn s hI=>?_) n h;show wpAny _ A ((compTurn (.ListComp elt [⟨zj,ze,ifs,0⟩] scope pos) 0 it acc env).onRaise (λx=>do noteFrame x env;theTreesLotGoes x)) _ _ s;refine wpAny_noted ?_;rw[compTurn_list];refine j6 (wpAny_standAt (j6 (xj (turn n s hI) (λr s₁ h₁=>?_) no)));rcases h₁ with⟨e,h₁⟩|⟨v,e,h₁⟩
 ·subst e;exact j8 h₁
 ·subst e;refine j6 (xj h₁ (λ_ s₀ h₀=>j6 (xj h₀ (λ_ s₂ h₂=>j6 (xj h₂ (λok s₃ h₃=>?_) no)) no)) no);cases ok with
  |false=>exact j8 ⟨rfl,h₃⟩
  | true=>
   have q:wpAny (model prog w) A (eval elt env) _ _ s₃:=h₃;exact j6 (j6 (xj q (λx s₄ h₄=>j6 (xj h₄ (λ_ s₅ h₅=>j8 (j8 ⟨rfl,h₅⟩)) no)) no))
def q1v(sc:Scope)(N0 N:List Str)(n:Nat)(js:List Nat)(scope:Scope):Bool:=
 decide (scope.kind=.function)&&scope.names.all (λy=>decide (y.2≠.cell))&&scope.names.all (λy=>decide (y.2≠.free)||decide (sc.names.lookup y.1=some .cell)||decide (sc.names.lookup y.1=some .free))&&
 scope.names.all (λy=>decide (y.2≠.local)||decide (scope.names.lookup y.1=some .local))&&decide (js.map (λj=>N0[j]?)=(N.drop n).map some)&&
 (N.drop n).all (λx=>decide (sc.names.lookup x=some .cell)||decide (sc.names.lookup x=some .free))&&(N.drop n).all (λx=>decide (scope.names.lookup x=some .free))&&decide (n+js.length=N.length)
theorem q6k{env:Env}:∀{names:List (Str×NameKind)} {x:Str},(names.map λ(n,k)=>if(k==NameKind.free&&env.scope.kind==.function&&env.kindOf n==some .cell)then(n,NameKind.cell)else(n,k)).lookup x=some .cell∨
 (names.map λ(n,k)=>if(k==NameKind.free&&env.scope.kind==.function&&env.kindOf n==some .cell)then(n,NameKind.cell)else(n,k)).lookup x=some .free->(∀y∈names,y.2≠.cell)->∃y∈names,y.1=x/\y.2=.free
 |[],_,h,_=>by rcases h with h|h<;>simp at h
 | (n,k)::r,x,h,hc=>by
  have ih:=@q6k env r x;by_cases hx:x=n
  ·subst hx;refine⟨(x,k),jg,rfl,?_⟩;have hk:k≠.cell:=hc (x,k) jg;by_cases hf:k=.free
   ·exact hf
   ·exfalso;have hb:(k==NameKind.free)=false:=by simpa using hf
    simp only[List.map_cons,hb,Bool.false_and,Bool.false_eq_true,if_false,List.lookup_cons,beq_self_eq_true]at h;rcases h with h|h
    ·exact hk (je h)
    ·exact hf (je h)
  ·have hb:(x==n)=false:=beq_eq_false_iff_ne.mpr hx;have step:∀(q:Str×NameKind) (l:List (Str×NameKind)),q.1=n->List.lookup x (q::l)=List.lookup x l:=λq l e=>by
    obtain⟨a,b⟩:=q;have e':a=n:=e;subst e';rw[List.lookup_cons,hb]
   have nm:(if(k==NameKind.free&&env.scope.kind==.function&&env.kindOf n==some .cell)then(n,NameKind.cell)else(n,k)).1=n:=by split<;>rfl
   rw[ju,step _ _ nm]at h;obtain⟨y,hy,r1,r2⟩:=ih h λy hy=>hc y (jj _ hy);exact⟨y,jj _ hy,r1,r2⟩
theorem mem_of_lookup{x:Str}{k:NameKind}:∀{l:List (Str×NameKind)},l.lookup x=some k->(x,k)∈l
 |[],h=>by simp at h
 | (a,b)::r,h=>by
  rw[List.lookup_cons]at h;by_cases hx:x=a
  ·subst hx;simp only[beq_self_eq_true]at h;cases h;exact jg
  ·rw[beq_eq_false_iff_ne.mpr hx]at h;exact jj _ (mem_of_lookup h)
theorem q3i{env:Env}{x:Str}:∀(l:List (Str×NameKind)),l.lookup x=some .free->(l.map λ(n,k)=>if(k==NameKind.free&&env.scope.kind==.function&&env.kindOf n==some .cell)then(n,NameKind.cell)else(n,k)).lookup x≠some .local
 |[],q=>by simp at q
 | (a,b)::r,q=>λz=>by
  rw[List.lookup_cons]at q;by_cases hx:x=a
  ·subst hx;simp only[beq_self_eq_true]at q;cases q;rw[ju]at z;dsimp only at z;split at z
   ·simp[List.lookup_cons]at z
   ·simp[List.lookup_cons]at z
  ·rw[beq_eq_false_iff_ne.mpr hx]at q;refine q3i (env:=env) r q ?_;by_cases hc:(b==NameKind.free&&env.scope.kind==.function&&env.kindOf a==some .cell)=true
   ·simp only[List.map_cons,if_pos hc,List.lookup_cons,beq_eq_false_iff_ne.mpr hx]at z;exact z
   ·simp only[List.map_cons,if_neg hc,List.lookup_cons,beq_eq_false_iff_ne.mpr hx]at z;exact z
theorem q98(n:Nat)(js:List Nat)(σ:St):(caps n js σ).length=n+js.length:=by simp[caps]
theorem q6z{n:Nat}{js:List Nat}{σ:St}{i:Nat}(h:i<n):(caps n js σ)[i]? =some none:=by unfold caps;rw[k7 (by simpa using h),k6,if_pos h]
theorem qcv{n:Nat}{js:List Nat}{σ:St}{i:Nat}{v:V}(h:n<=i)(e:(caps n js σ)[i]? =some (some v)):∃j,js[i-n]? =some j/\σ[j]? =some (some v):=by
 unfold caps at e;rw[xo (by simpa using h),ji,jc]at e;cases q:js[i-n]? with
 |none=>rw[q]at e;cases e
 | some j=>
  rw[q]at e;refine⟨j,rfl,?_⟩;have e':(σ[j]?).join=some v:=je e;cases z:σ[j]? with
  |none=>rw[z]at e';cases e'
  |some o=>rw[z]at e';exact congrArg some e'
section
variable{X:Cx}{tg elt ze:Expr}{ifs:List Expr}{scope:Scope}{pos:Pos}{N N0:List Str}{n:Nat}{js:List Nat}{sc:Scope}{g:TG}{tt:TT}{te:TE}
theorem q8k{z5:List (Addr×Obj)}{σ:St}{H:Hp}{s:Shared}{it:Addr}{fp:List Addr}{tn:Nat->Heap->Prop}{J:It}{cl:List (Str×Addr)}{Fin:List V->Hp->Prop}{RR:Value->Addr->Result->Shared->Prop}{E:Value->Shared->Prop}
 (hc:X.calm=true) (hsc:X.env.scope=sc) (hN0:X.N=N0) (ok:q1v sc N0 N n js scope=true)
 (hg:∀s H C cl fp,PG (cxB X N scope s H C cl fp) tg g) (hgo:Own n g) (ht:∀s H C cl fp,PIf (cxB X N scope s H C cl fp) ifs tt) (he:∀s H C cl fp,PE (cxB X N scope s H C cl fp) elt te)
 (I:Inv X z5 σ H s) (T:Turn X.prog X.w X.K tg J fp it tn) (st:tn 0 s.heap) (fo:∀b∈fp,FpOk X z5 H b)
 (hcl:∀x c,cl.lookup x=some c->X.env.cells.lookup x=some c) (j0:∀y∈scope.names,y.2=.free->∃c,cl.lookup y.1=some c)
 (G:cGo g tt te (caps n js σ) Fin J H)
 (k:∀(D C:Addr) (oC:Obj) (m:Str->Option Value) (ys:List V) (H':Hp) (s':Shared),Inv X (z5++[(C,oC)]) σ (upd H' D (.lst ys)) s'->H' D=none->s'.heap.Ns C m->X.s₀.heap.objs.size<=C->C≠X.env.locals->(∀x c,X.env.cells.lookup x=some c->c≠C)->
   (∀p∈X.pn++z5,p.1≠C)->upd H' D (.lst ys) C=none->Fin ys H'->RR (.ref D) C (.ok .next) s'):
 wpAny (model X.prog X.w) X.A (newList []) (λacc s₃=>wpAny (model X.prog X.w) X.A (newFunctionEnv scope X.env.globals cl [] X.env.qual none .none (some X.env)) (λj4 s₄=>
  codeAny (model X.prog X.w) X.A (.compStart (.ListComp elt [⟨tg,ze,ifs,0⟩] scope pos) 0 (.ref it) acc {j4 with scope:=relabel scope X.env}) (RR acc j4.locals) s₄) E s₃) E s:=by
 simp only[q1v,Bool.and_eq_true,decide_eq_true_eq,List.all_eq_true,Bool.or_eq_true]at ok;obtain⟨⟨⟨⟨⟨⟨⟨kind,cell⟩,free⟩,nms⟩,cap⟩,lc⟩,lf⟩,len⟩:=ok;subst hN0 hsc;refine xx (wpAny_newFunctionEnv cell (by intro y hy;simp at hy) (λh1 ns1 sb1=>?_) kind);dsimp only at ns1 sb1 ⊢;generalize eG:s.heap.push {cls:=.type "list",dict:=none,data:=.seq ([]:List Value).toArray}=G2 at ns1 sb1 ⊢;have eC:G2.objs.size=s.heap.objs.size+1:=by rw[<-eG,xg]
 generalize eCC:G2.objs.size=C at ns1 sb1 eC ⊢;generalize eD:s.heap.objs.size=D at eC ⊢;have ltD:∀b o,s.heap.get? b=some o->b<D:=λb o e=>eD▸j9 e;have DC:D≠C:=by rw[eC];exact jf (Nat.lt_succ_self _)
 have bC:∀b:Nat,b<D->b≠C:=λb hb z=>by rw[z,eC]at hb;exact absurd hb (Nat.not_lt.mpr (Nat.le_succ _))
 have old:∀b o,s.heap.get? b=some o->h1.get? b=some o:=λb o e=>by have hb:=ltD b o e;refine sb1.extBut b o (bC b hb) (jb _ ?_);rw[<-eG];exact jb _ e
 have accD:h1.get? D=some {cls:=.type "list",data:=.seq ([]:List Value).toArray 0}:=by refine sb1.extBut _ _ DC (jb _ ?_);rw[<-eG,<-eD];exact jm _ rfl
 have freeD:H D=none:=I.hok.fresh (by rw[eD];exact ja _);have freeC:H C=none:=I.hok.fresh (by rw[eD,eC];exact Nat.le_succ _);have fpD:∀b∈fp,b<D:=λb hb=>let ⟨o,e,_⟩:=T.obj 0 _ st b hb;ltD b o e
 have cellD:∀x c,X.env.cells.lookup x=some c->c<D:=λx c e=>let ⟨v,o,ho,_⟩:=I.cell x c e;ltD c o ho
 have pinD:∀p∈X.pn++z5,p.1<D:=λp hp=>ltD _ _ (I.pin p hp).1;have stkD:∀b∈frs X.stack,b<D:=λb hb=>by
  rcases List.mem_cons.mp (I.stkSub b hb)with e|z
  ·subst e;rw[<-eD];exact I.lt
  ·obtain⟨_,o,ho,_⟩:=I.ok.funs.mem z;rw[<-eD];exact jn (j9 ho) I.sz
 have fpS:∀b∈fp,b∉frs X.stack:=λb hb z=>by
  obtain⟨_,f1,f2,_⟩:=fo b hb;rcases List.mem_cons.mp (I.stkSub b z)with e|q
  ·exact f1 e
  ·exact f2 q
 have kindB:(compEnvC scope cl C X.env).scope.kind=.function:=kind;have okB:(cxB X N scope s H C cl fp).Ok:={
  mod:=I.ok.mod
  kind:=kind
  glob:=I.ok.glob
  blt:=I.ok.blt
  above:=by show s.heap.objs.size<=C;rw[eD,eC];exact Nat.le_succ _
  inj:=λx y c e1 e2=>I.ok.inj x y c (hcl x c e1) (hcl y c e2)
  has:=λx hx=>by obtain⟨y,hy,e,f⟩:=q6k (env:=X.env) (names:=scope.names) (x:=x) hx cell;subst e;exact j0 y hy f
  cab:=λx c z=>by cases z
  hd:=I.ok.hd
  frames:=I.ok.frames
  stk:=.inl rfl
  exf:=λb hb=>⟨bC b (fpD b hb),λx c e=>(fo b hb).2.2.2.2.1 x c (hcl x c e)⟩
  bs:=λb o e=>I.bs b o e
  bsz:=jr I.ok.bsz I.sz
  noex:=λb o e hb=>by
   rcases(fo b hb).2.2.2.1 with z|z
   ·exact I.ok.noex b o e z
   ·exact absurd (jn (j9 e) (jr I.ok.bsz z)) (jy _)
  exfs:=fpS
  funs:=I.stack
  frf:=I.stkFree}
 have upH:∀b o,s.heap.get? b=some o->h1.get? b=some o:=old;have IB:Inv (cxB X N scope s H C cl fp) [(D,{cls:=.type "list",data:=.seq ([]:List Value).toArray 0})] (caps n js σ) H {s with heap:=h1,toks:=s.toks+([]:List (Str×Value)).length}:=by
  refine⟨okB,rfl,I.bare,Un.kept old,⟨_,ns1,λi x v e1 e2 e3=>?_⟩,λx c e=>?_,freeC,λx c e=>I.freeC x c (hcl x c e),λp hp=>?_,I.hok.kept old,?_⟩
  ·have hi:n<=i:=by
    by_cases hlt:i<n
    ·rw[q6z hlt]at e2;cases e2
    ·omega
   obtain⟨j,ej,ev⟩:=qcv hi e2;have hxN:(N.drop n)[i-n]? =some x:=by rw[List.getElem?_drop,show n+(i-n)=i by omega];exact e1
   have hxm:x∈N.drop n:=xv hxN;have eN:X.N[j]? =some x:=by
    have q:(js.map λj=>X.N[j]?)[i-n]? =some (X.N[j]?):=by rw[jc,ej];rfl
    rw[cap,jc,hxN]at q;exact(je q).symm
   obtain⟨m0,_,hl⟩:=I.loc;have kx:=lc x hxm;have vis:Vis X.env.scope x:=by
    rcases kx with z|z
    ·exact .inr (.inl z)
    ·exact .inr (.inr z)
   obtain⟨u,r,lk⟩:=hl j x v eN ev vis;refine⟨u,r,?_⟩;rcases lk with⟨q,_⟩|⟨_,c,ec,o,ho,hd⟩
   ·exfalso;have q':X.env.scope.names.lookup x=some .local:=q;rcases kx with z|z
    ·rw[z]at q';cases q'
    ·rw[z]at q';cases q'
   ·have fx:scope.names.lookup x=some .free:=lf x hxm;obtain⟨c',ec'⟩:∃c',cl.lookup x=some c':=by
     have hm:(x,NameKind.free)∈scope.names:=mem_of_lookup fx;exact j0 _ hm rfl
    have ecc:c'=c:=by have z:=hcl x c' ec';rw[ec]at z;exact(je z).symm
    subst ecc;refine .inr ⟨?_,c',ec',o,old _ _ ho,hd⟩;rcases e3 with z|z|z
    ·exfalso;have z':(relabel scope X.env).names.lookup x=some .local:=z;exact q3i _ fx z'
    ·exact .inl z
    ·exact .inr z
  ·obtain⟨v,o,ho,hd⟩:=I.cell x c (hcl x c e);exact⟨v,o,old _ _ ho,hd⟩
  ·have e:p=(D,{cls:=.type "list",data:=.seq ([]:List Value).toArray 0}):=by simpa[cxB]using hp
   subst e;exact⟨accD,freeD,DC,λz=>absurd (stkD D z) (jy _),λv=>by intro z;cases z⟩
  ·show(caps n js σ).length=N.length;rw[q98];exact len
 -- what stays true of the iterator's records
 have stat:∀{H':Hp} {oD:Obj},(∀b∈fp,H' b=none)->∀b∈fp,FpOk (cxB X N scope s H C cl fp) [(D,oD)] H' b:=λ{H' oD} hn b hb=>
  ⟨hn b hb,bC b (fpD b hb),fpS b hb,.inl hb,λx c e=>(fo b hb).2.2.2.2.1 x c (hcl x c e),λp hp=>by
    have e:p=(D,oD):=by simpa[cxB]using hp
    subst e;exact Nat.ne_of_gt (fpD b hb)⟩
 obtain⟨W,⟨m0,w0⟩,turn⟩:=G;have loop:codeAny (model X.prog X.w) X.A (.compLoop (.ListComp elt [⟨tg,ze,ifs,0⟩] scope pos) 0 (.ref it) (.ref D) (compEnvC scope cl C X.env)) (RR (.ref D) C) {s with heap:=h1,toks:=s.toks+([]:List (Str×Value)).length}:=by
  refine qag (λm s'=>∃(i:Nat) (ys:List V) (its:List Value) (kk:Nat) (σ':St) (H':Hp),Inv (cxB X N scope s H C cl fp) [(D,{cls:=.type "list",data:=.seq its.toArray kk})] σ' H' s'/\Vals ys its/\(σ'.length=(caps n js σ).length/\∀i,n<=i->σ'[i]? =(caps n js σ)[i]?)/\
   tn i s'.heap/\(∀b∈fp,H' b=none)/\W i m ys H') ?_ m0 ⟨0,[],[],0,_,H,IB,.nil,⟨rfl,λ_ _=>rfl⟩,T.keep _ _ _ st λb hb o e=>old b o e,λb hb=>(fo b hb).1,w0⟩
  rintro m s3 ⟨i,ys,its,kk,σ3,H3,I3,r3,⟨l3,a3⟩,st3,fr3,w3⟩;have I3':Inv (cxB X N scope s H C cl fp) [(D,{cls:=.type "list",data:=.seq its.toArray kk})] (caps n js σ) H3 s3:=I3.weak l3.symm λj v e=>by
   by_cases hj:j<n
   ·rw[q6z hj]at e;cases e
   ·rw[a3 j (by omega)];exact e
  rcases turn i m ys H3 w3 with⟨stop,hz,fin⟩|⟨go,hz,Nn,hNn,step⟩
  ·refine xj (T.done (cxB X N scope s H C cl fp) rfl rfl rfl hc i _ s3 _ H3 (λ_ _=>False) I3' (stat fr3) st3 stop) (λr s4 h4=>?_) λ_ _ z=>z;obtain⟨hr,I4⟩:=h4;refine .inl ⟨hr,?_⟩;have pD:=I4.pin (D,{cls:=.type "list",data:=.seq its.toArray kk}) (by simp[cxB]);obtain⟨mC,nsC,_⟩:=I4.loc;obtain⟨oC,es,ep,hoC,dC,rC⟩:=id nsC;have J4:Inv X z5 σ H3 s4:=I.call' (s':=s4) I4.os (ch:=fp) I4.base I4.hok I4.bare λb hb=>by
    obtain⟨_,f1,f2,f3,f4,f5⟩:=fo b hb;exact⟨f3,f1,f4,f5⟩
   have fC:H3 C=none:=I4.free;have ltL:X.env.locals<D:=eD▸I.lt;have cL:C≠X.env.locals:=(bC _ ltL).symm;have cC:∀x c,X.env.cells.lookup x=some c->c≠C:=λx c e=>bC c (cellD x c e);have cP:∀p∈X.pn++z5,p.1≠C:=λp hp=>bC p.1 (pinD p hp);have cS:X.s₀.heap.objs.size<=C:=jr I.sz (by rw[eD,eC];exact Nat.le_succ _);have dS:X.s₀.heap.objs.size<=D:=by have:=I.sz;rw[eD]at this;exact this
   have cF:C∉X.fs:=λz=>by obtain⟨_,o,ho,_⟩:=I.ok.funs.mem z;exact jy _ (jn (j9 ho) cS)
   have J5:Inv X (z5++[(C,oC)]) σ H3 s4:=J4.pins_of λp hp=>(List.mem_append.mp hp).elim (λz=>J4.pin p (jt _ z)) λz=>by
    have e:p=(C,oC):=by simpa using z
    subst e;exact⟨hoC,fC,cL,cF,λv z=>by have z':oC.data=.cell v:=z;rw[dC]at z';cases z'⟩
   refine k D C oC mC ys H3 s4 (J5.track pD.2.1 dS (Nat.ne_of_gt ltL) (λx c e=>jf (cellD x c e)) (λp hp=>?_) ?_) pD.2.1 nsC cS cL cC cP ?_ fin
   ·rcases List.mem_append.mp hp with z|z
    ·exact jf (pinD p (List.mem_append_left _ z))
    ·rcases List.mem_append.mp z with z|z
     ·exact jf (pinD p (jt _ z))
     ·have e:p=(C,oC):=by simpa using z
      subst e;exact Ne.symm DC
   ·exact⟨hz,its,kk,r3,pD.1⟩
   ·rw[q0v (Ne.symm DC)];exact fC
  ·refine xj (T.item (cxB X N scope s H C cl fp) rfl rfl rfl hc i _ s3 _ H3 (λ_ _=>False) I3' (stat fr3) st3 go) (λr s4 h4=>?_) λ_ _ z=>z;obtain⟨u,hr,h4⟩:=h4;refine .inr ⟨u,hr,?_⟩;refine thn h4 λ_ s5 h5=>?_;obtain⟨x,H5,I5,r5,y5,st5,fr5⟩:=h5;have I5':=I5.pinned (stat fr5) (T.obj _ _ st5);refine thn (hg s H C cl fp _ s5 _ H5 x u _ I5' r5 (hgo _ _ _ _ (step x H5 y5))) λ_ s6 h6=>?_;obtain⟨σ6,H6,I6,q6,l6,a6⟩:=h6;refine thn (ht s H C cl fp _ s6 σ6 H6 _ I6 q6) λok s7 h7=>?_;obtain⟨H7,I7,q7⟩:=h7;have stays:∀{H8:Hp} {s8:Shared},Inv (cxB X N scope s H C cl fp) ([(D,{cls:=.type "list",data:=.seq its.toArray kk})]++q8b fp s5.heap) σ6 H8 s8->(∀b∈fp,∀o,s5.heap.get? b=some o->s8.heap.get? b=some o)/\∀b∈fp,H8 b=none:=λ{H8 s8} I8=>
    ⟨λb hb o e=>(I8.pin (b,o) (jt _ (jt _ (q3k hb e)))).1,λb hb=>by obtain⟨o,e,d⟩:=T.obj _ _ st5 b hb;exact(I8.pin (b,o) (jt _ (jt _ (q3k hb e)))).2.1⟩
   cases ok with
   | false=>
    obtain⟨m',hm,w7⟩:=hNn ys H7 (show Nn ys H7 from q7);obtain⟨z1,z2⟩:=stays I7;exact⟨m',hm,i+1,ys,its,kk,σ6,H7,I7.unpinned,r3,⟨l6,a6⟩,T.keep _ _ _ st5 z1,z2,w7⟩
   | true=>
    show wpAny _ _ (eval elt _) _ _ s7;refine thn (he s H C cl fp _ s7 σ6 H7 _ I7 q7) λy s8 h8=>?_;obtain⟨vy,H8,I8,ry,n8⟩:=h8;obtain⟨m',hm,w8⟩:=hNn _ _ n8;obtain⟨z1,z2⟩:=stays I8;have pD:=I8.pin (D,{cls:=.type "list",data:=.seq its.toArray kk}) (by simp[cxB]);have lenits:its.length<sizeLine:=by rw[<-r3.length];exact hz
    refine append_at pD.1 (λh9 hs9 hD9=>?_) (by simpa using Nat.le_of_lt lenits);have keep9:∀b o,b≠D->s8.heap.get? b=some o->h9.get? b=some o:=λb o hb e=>hs9.extBut b o hb e;have I9:Inv (cxB X N scope s H C cl fp) [] σ6 H8 {s8 with heap:=h9}:=(I8.pins_of (pins':=[]) λp hp=>nomatch hp).turned (it:=D) keep9 pD.2.1 DC (.inr (by show s.heap.objs.size<=D;rw[eD];exact ja _))
     (λx c e=>jf (cellD x c (hcl x c e))) λp hp=>by simp[cxB]at hp
    refine⟨m',hm,i+1,ys++[vy],its++[y],kk+1,σ6,H8,I9.pins_of λp hp=>?_,r3.append (.cons ry .nil),⟨l6,a6⟩,T.keep _ _ _ st5 λb hb o e=>keep9 b o (jf (fpD b hb)) (z1 b hb o e),z2,w8⟩;have e:p=(D,{cls:=.type "list",data:=.seq (its++[y]).toArray (kk+1)}):=by simpa using hp
    subst e;refine⟨?_,pD.2.1,DC,λz=>absurd (stkD D z) (jy _),λv z=>by cases z⟩;show h9.get? D=_;rw[hD9,List.push_toArray]
 exact codeAny_compStart_list loop (T.self _ 0 _ _ _ (T.keep _ _ _ st λb hb o e=>old b o e) loop)
end
section
variable{X:Cx}{tg elt ze:Expr}{ifs:List Expr}{scope:Scope}{pos:Pos}{N N0:List Str}{n:Nat}{js:List Nat}{sc:Scope}{wi:TI}{g:TG}{tt:TT}{te:TE}
theorem qct{z5:List (Addr×Obj)}{σ:St}{H:Hp}{s:Shared}(I:Inv X z5 σ H s)(hsc:X.env.scope=sc)(ok:q1v sc N0 N n js scope=true):∀y∈scope.names,y.2=.free->∃c,X.env.cells.lookup y.1=some c:=by
 simp only[q1v,Bool.and_eq_true,decide_eq_true_eq,List.all_eq_true,Bool.or_eq_true]at ok;obtain⟨⟨⟨⟨⟨⟨⟨kind,cell⟩,free⟩,nms⟩,cap⟩,lc⟩,lf⟩,len⟩:=ok;subst hsc;intro y hy hf;rcases free y hy with(z|z)|z
 ·exact absurd hf z
 ·exact I.ok.has y.1 (.inl z)
 ·exact I.ok.has y.1 (.inr z)
theorem q8j(ok:q1v sc N0 N n js scope=true):scope.kind=.function/\∀x∈scope.names,x.2=.local->scope.names.lookup x.1=some .local:=by
 simp only[q1v,Bool.and_eq_true,decide_eq_true_eq,List.all_eq_true,Bool.or_eq_true]at ok;obtain⟨⟨⟨⟨⟨⟨⟨kind,cell⟩,free⟩,nms⟩,cap⟩,lc⟩,lf⟩,len⟩:=ok;refine⟨kind,λx hx hl=>?_⟩;rcases nms x hx with z|z
 ·exact absurd hl z
 ·exact z
theorem Inv.butC{z5:List (Addr×Obj)}{σ:St}{H:Hp}{s:Shared}{C:Addr}{oC:Obj}{h':Heap}(I:Inv X (z5++[(C,oC)]) σ H s)(hs:Heap.SameBut C s.heap h')(h1:X.s₀.heap.objs.size<=C)(h2:C≠X.env.locals)
 (h3:∀x c,X.env.cells.lookup x=some c->c≠C) (h4:∀p∈X.pn++z5,p.1≠C) (h5:H C=none):Inv X z5 σ H {s with heap:=h'}:=
 I.unpinned.turned (it:=C) (t':=s.toks) (λb o hb e=>hs.extBut b o hb e) h5 h2 (.inr h1) h3 h4
theorem q2g(hc:X.calm=true)(hsc:X.env.scope=sc)(hN0:X.N=N0)(ok:q1v sc N0 N n js scope=true)(hi:PI X tg ze wi)
 (hg:∀s H C cl fp,PG (cxB X N scope s H C cl fp) tg g) (hgo:Own n g) (ht:∀s H C cl fp,PIf (cxB X N scope s H C cl fp) ifs tt) (he:∀s H C cl fp,PE (cxB X N scope s H C cl fp) elt te)
 (hs:∀x,foldedSetIterable ze X.env x=pure x:=by intro _;rfl):PE X (.ListComp elt [⟨tg,ze,ifs,0⟩] scope pos) (qd1 n js wi g tt te):=by
 intro z5 s σ H Q I h;obtain⟨cl,hclos,c1,c2⟩:=q4v (qct I hsc ok);obtain⟨kd,nm⟩:=q8j ok;rw[eval_ListComp];refine wpAny_comprehension_free (use:=none) rfl hs hclos kd nm ?_;refine thn (hi z5 s σ H _ I h) λv s1 h1=>thn h1 λitv s2 h2=>?_;obtain⟨it,fp,tn,J,H2,e,I2,T,st2,f2,G⟩:=h2;subst e;refine q8k (RR:=λacc C=>compPost (model X.prog X.w) X.A X.xe none (EP X z5 σ Q) acc C) hc hsc hN0 ok hg hgo ht he I2 T st2 f2 c1 c2 G ?_;intro D C oC m ys H' s' I' hD ns k1 k2 k3 k4 k5 fin;exact⟨m,ns,λh' hs'=>⟨.ref D,_,I'.butC hs' k1 k2 k3 k4 k5,rfl,fin D hD⟩⟩
theorem q5k{k:Nat}{y:Str}{py zx:Pos}(hc:X.calm=true)(hsc:X.env.scope=sc)(hN0:X.N=N0)(ok:q1v sc N0 N n js scope=true)(hN:X.N.Nodup)(hk:X.N[k]? =some y)(hy:Loc X.env.scope y)
 (hi:PI X tg ze wi) (hg:∀s H C cl fp,PG (cxB X N scope s H C cl fp) tg g) (hgo:Own n g) (ht:∀s H C cl fp,PIf (cxB X N scope s H C cl fp) ifs tt) (he:∀s H C cl fp,PE (cxB X N scope s H C cl fp) elt te)
 (hsw:swapsWith (.ListComp elt [⟨tg,ze,ifs,0⟩] scope pos) (some (.Name y py)) zx.line X.env=pure true:=by rfl) (hs:∀x,foldedSetIterable ze X.env x=pure x:=by intro _;rfl)
 (hf:X.fn y=true∨X.env.scope.names.lookup y=some .local:=by first|exact .inl rfl|exact .inr rfl):PS X (.Assign [.Name y py] (.ListComp elt [⟨tg,ze,ifs,0⟩] scope pos) zx) (qfd k n js wi g tt te):=by
 intro z5 s σ H D0 I h;obtain⟨cl,hclos,c1,c2⟩:=q4v (qct I hsc ok);obtain⟨kd,nm⟩:=q8j ok;rw[exec_Assign_Name_used _ _ _ _ hsw];refine j6 (wpAny_standAt (j6 ?_));show wpAny _ X.A (comprehension (.ListComp elt [⟨tg,ze,ifs,0⟩] scope pos) scope X.env _ (newList []) false (eval ze X.env) (some (assign (.Name y py) X.env)) >>= λ_=>pure ()) _ _ s;refine j6 (xj (wpAny_comprehension_free (use:=some (assign (.Name y py) X.env)) (Q:=λ_ s'=>SP X z5 D0 .next s') rfl hs hclos kd nm ?_) (λ_ s' q=>j8 (j8 q)) λ_ _ z=>z);refine thn (hi z5 s σ H _ I h) λv s1 h1=>thn h1 λitv s2 h2=>?_;obtain⟨it,fp,tn,J,H2,e,I2,T,st2,f2,G⟩:=h2;subst e;refine q8k (RR:=λacc C=>compPost (model X.prog X.w) X.A X.xe (some (assign (.Name y py) X.env)) (λ_ s'=>SP X z5 D0 .next s') acc C) hc hsc hN0 ok hg hgo ht he I2 T st2 f2 c1 c2 G ?_;intro D C oC m ys H' s' I' hD ns k1 k2 k3 k4 k5 fin;show wpAny _ X.A (assign (.Name y py) X.env (.ref D)) _ _ s';refine wpAny_assign_Name (q6u I' hN hk hy (v:=.ref D) rfl (λs'' I''=>?_) hf);have pc:=I''.pin (C,oC) (jt _ (jt _ jg));obtain⟨o,es,ep,ho,r⟩:=ns;have pc':=I'.pin (C,oC) (jt _ (jt _ jg));have eo:o=oC:=by have z:=pc'.1;rw[ho]at z;exact je z
 subst eo;exact⟨m,⟨o,es,ep,pc.1,r⟩,λh' hs'=>⟨_,_,I''.butC hs' k1 k2 k3 k4 k5,fin D hD⟩⟩
end
theorem Same.new{H:Hp}{l:Addr}{o:HO}(h:H l=none):Same H (upd H l o):=λb u e=>by rw[q0v (q1l e h)];exact e
theorem Same.tup{K:FrG}{H H':Hp}{a:Addr}{xs:List V}(e:Same H H')(h:SqT K H a xs):SqT K H' a xs:=by
 rcases h with(h|⟨o,h⟩)|h
 ·exact .inl (.inl (e _ _ h))
 ·exact .inl (.inr ⟨o,e _ _ h⟩)
 ·exact .inr h
section
variable{X:Cx}{K:FrG}
theorem q0a(h:X.K=K):IxR X (rIx K):=h▸qsx
theorem q1q(h:X.K=K):q57 X (.builtin "len") (λxs H Q=>∃p ys,xs=[.ref p]/\(SqL K H p ys∨SqT K H p ys)/\Q (.int ys.length) H):=by subst h;exact qai
theorem q8l(h:X.K=K):q57 X (.type "list") (λxs H Q=>∃p ys,xs=[.ref p]/\(SqL K H p ys∨SqT K H p ys)/\∀l,H l=none->Q (.ref l) (upd H l (.lst ys))):=by subst h;exact qah
theorem q3v(h:X.K=K):q57 X (.type "tuple") (λxs H Q=>∃p ys,xs=[.ref p]/\((SqL K H p ys/\∀l,H l=none->Q (.ref l) (upd H l (.tup ys)))∨(SqT K H p ys/\Q (.ref p) H))):=by subst h;exact q9a
theorem qir{tg l:Expr}{tl:TE}(h:X.K=K)(hl:PE X l tl):PI X tg l (qnk K tl):=h▸qmm hl
theorem qml{tg l:Expr}{tl:TE}(h:X.K=K)(hl:PE X l tl):PI X tg l (iTup K tl):=h▸qqh hl
theorem q3n{es:List Expr}{k:Nat}{t:TGs}{n:Nat}{pos:Pos}(hK:X.K=K)(hc:X.calm=true)(h:PGs X es t)(hn:(assignEach es X.env).length=n:=by rfl)(hst:(assignEach es X.env).findIdx? (·.1)=none:=by rfl):PG X (.Tuple es k pos) (gTup K n t):=hK▸qqj hc h hn hst
theorem qb3{e:Expr}{f:Str}{pos:Pos}{ta:TE}(hK:X.K=K)(he:PE X e ta)(hb:attributeBase e f X.env (eval e X.env)=eval e X.env):PE X (.Attribute e f pos) (tFld K ta f):=hK▸qqo he hb
end
theorem PE.or{X:Cx}{e:Expr}{t u:TE}(h:PE X e t)(k:PE X e u):PE X e λσ H Q=>t σ H Q∨u σ H Q:=λz5 s σ H Q I q=>by
 rcases q with q|q
 ·exact h z5 s σ H Q I q
 ·exact k z5 s σ H Q I q
def clsV:V->Option Value
 |.ref a=>some (.ref a)
 |.ty n=>some (.type n)
 |_=>none
def rIsi(K:FrG):List V->Hp->VK->Prop:=λxs H Q=>∃x y t c b,xs=[x,y]/\clsV y=some c/\TyOf K H x t/\PySem.W.kitOne K t c=some b/\Q (.bl b) H
section
variable{X:Cx}
theorem qk2{K:FrG}(hK:X.K=K):q57 X (.builtin "isinstance") (rIsi K):=by
 subst hK;intro z5 s σ H xs us Q I r h;obtain⟨x,y,t,c,b,rfl,hc,ty,e,q⟩:=h;obtain⟨u,w,rfl,ru,rw'⟩:=vals2 r;have ew:w=c:=by
  cases y with
  | ref a=>
   have z:w=Value.ref a:=rw';rw[z];exact je hc
  | ty n=>
   have z:w=Value.type n:=rw';rw[z];exact je hc
  |_=>cases hc
 subst ew;exact qgt I ru ty e λtk=>⟨.bl b,H,I.tok tk,rfl,q⟩
theorem q6v{K:FrG}{v:Value}:PySem.W.kitOne K v v=some true:=by unfold PySem.W.kitOne;rw[if_pos (beq_self_eq_true v)]
theorem q2m{K:FrG}{T U:String}{b:Bool}(hm:PySem.W.kitMeta U=true)(h3:PySem.W.subIn K (.type T) (.type U)=some b)(hn:Value.type T≠.type U):PySem.W.kitOne K (.type T) (.type U)=some b:=by unfold PySem.W.kitOne;rw[if_neg (λz=>hn (eq_of_beq z))];unfold PySem.W.kitCls;dsimp only;rw[if_pos hm];exact h3
theorem q87:∀{bs:List Bool} {us:List Value},Vals (bs.map V.bl) us->us=bs.map Value.bool
 |[],us,r=>by cases r;rfl
 | b::bs,us,r=>by
  cases r with
  | cons h t=>
   have e:_=Value.bool b:=h;rw[e,q87 t];rfl
theorem range_all{α:Type}(l:List α)(f:α->Bool)(tr:Nat->Bool)(h:∀i x,l[i]? =some x->tr i=f x):(List.range l.length).all tr=l.all f:=by
 induction l generalizing tr with
 |nil=>rfl
 | cons a l ih=>
  rw[jq,List.range_succ_eq_map,List.all_cons,List.all_map,List.all_cons,h 0 a rfl];congr 1;exact ih (λi=>tr (i+1)) λi x e=>h (i+1) x (by simpa using e)
theorem qk3{K:FrG}(hK:X.K=K)(hc:X.calm=true):q57 X (.builtin "all") (λxs H Q=>∃(p:Addr) (bs:List Bool),xs=[.ref p]/\SqL K H p (bs.map V.bl)/\Q (.bl (bs.all id)) H):=by
 subst hK;intro z5 s σ H xs us Q I r h;obtain⟨p,bs,rfl,hq,q⟩:=h;obtain⟨u,rfl,ru⟩:=vals1 r;cases ru;obtain⟨its,rv,pl,hz⟩:=I.list hq;have hh:X.A.in1.handled=none:=I.ok.hd hc;have eits:=q87 rv;have hl:=pl.isList;have hlt:p<s.heap.objs.size:=by obtain⟨_,e,_⟩:=hl;exact j9 e
 refine call_all_walk (wpAny_pyIter_list hl ?_);refine⟨_,_,_,_,_,_,λi=>bs.getD i false,rfl,Walks.list hh s.heap.objs.size p (jf hlt) its.toArray,⟨⟨_,jm _ rfl,rfl,rfl⟩,hl.push _⟩,λi v s' Q' E' hP hQ=>?_,λh' tk hk=>?_⟩
 ·have e:(bs.map Value.bool)[i]? =some v:=by rw[<-eits];simpa using hP
  rw[jc]at e;cases z:bs[i]? with
  |none=>rw[z]at e;cases e
  | some b=>
   rw[z]at e;have e':v=Value.bool b:=(je e).symm;subst e';refine kc ?_;have:bs.getD i false=b:=by rw[jv,z];rfl
   dsimp only at hQ;rw[this]at hQ;exact hQ
 ·have len:its.toArray.size=bs.length:=by rw[eits];simp
  refine⟨.bl (bs.all id),H,I.kept (t':=tk) λb o e=>hk b o (λz=>?_) (jb _ e),?_,q⟩
  ·have:=j9 e;rw[List.mem_singleton.mp z]at this;exact jy _ this
  ·show Value.bool _=Value.bool _;rw[len,range_all bs id];intro i x e;rw[jv,e];rfl
mutual
inductive DV(K:FrG)(H:Hp):V->PyData->Prop
 |non:DV K H .non .none
 |bl (b:Bool):DV K H (.bl b) (.bool b)
 |int (i:Int):DV K H (.int i) (.int i)
 |str (x:Str):DV K H (.str x) (.str x)
 |lst {a:Addr} {xs:List V} {ds:List PyData}:SqL K H a xs->DVs K H xs ds->DV K H (.ref a) (.list ds)
 |tup {a:Addr} {xs:List V} {ds:List PyData}:SqT K H a xs->DVs K H xs ds->DV K H (.ref a) (.tuple ds)
inductive DVs(K:FrG)(H:Hp):List V->List PyData->Prop
 |nil:DVs K H [] []
 |cons {x:V} {xs:List V} {d:PyData} {ds:List PyData}:DV K H x d->DVs K H xs ds->DVs K H (x::xs) (d::ds)
end
mutual
theorem q62{z5:List (Addr×Obj)}{σ:St}{H:Hp}{s:Shared}(I:Inv X z5 σ H s):∀{x:V} {d:PyData} {u:Value},DV X.K H x d->RelV x u->∃as,Reads s.heap u d as
 |_,_,u,.non,r=>by cases(show u=Value.none from r);exact⟨_,.none⟩
 |_,_,u,.bl b,r=>by cases(show u=Value.bool b from r);exact⟨_,.bool b⟩
 |_,_,u,.int i,r=>by obtain⟨t,e⟩:=(show∃t,u=Value.int i t from r);cases e;exact⟨_,.int i t⟩
 |_,_,u,.str x,r=>by obtain⟨t,e⟩:=(show∃t,u=Value.str x t from r);cases e;exact⟨_,.str x t⟩
 | _,_,u,.lst (a:=a) hq hs,r=>by cases(show u=Value.ref a from r);obtain⟨its,rv,pl,_⟩:=I.list hq;obtain⟨o,e,c,n,dd⟩:=pl.isList;obtain⟨as,q⟩:=q5o I hs rv;exact⟨_,reads_list_at e c dd (by simpa using q)⟩
 | _,_,u,.tup (a:=a) hq hs,r=>by cases(show u=Value.ref a from r);obtain⟨its,rv,pl,_⟩:=I.tuple hq;obtain⟨o,e,c,n,dd⟩:=pl;obtain⟨as,q⟩:=q5o I hs rv;exact⟨_,reads_tuple_at e c dd (by simpa using q)⟩
theorem q5o{z5:List (Addr×Obj)}{σ:St}{H:Hp}{s:Shared}(I:Inv X z5 σ H s):∀{xs:List V} {ds:List PyData} {us:List Value},DVs X.K H xs ds->Vals xs us->∃as,ReadsAll s.heap us ds as
 |_,_,_,.nil,.nil=>⟨_,.nil⟩
 | _,_,_,.cons h t,.cons r rs=>by obtain⟨as,q⟩:=q62 I h r;obtain⟨bs,p⟩:=q5o I t rs;exact⟨_,.cons q p⟩
end
def rEqD(K:FrG):R2:=λx y H Q=>∃d e,DV K H x d/\DV K H y e/\SeqAt.shaped d=true/\SeqAt.shaped e=true/\Q (.bl (PyData.eqv d e)) H
def rNeD(K:FrG):R2:=λx y H Q=>∃d e,DV K H x d/\DV K H y e/\SeqAt.shaped d=true/\SeqAt.shaped e=true/\Q (.bl (!PyData.eqv d e)) H
theorem q2f{K:FrG}(hK:X.K=K)(hu:X.A.units+64<cLine):OpR X (compareOp .Eq) (rEqD K):=by subst hK;intro z5 s σ H x y v u Q I rx ry h;obtain⟨d,e,hd,he,sd,se,q⟩:=h;obtain⟨as,ra⟩:=q62 I hd rx;obtain⟨bs,rb⟩:=q62 I he ry;exact eq_dataH ra rb sd se hu ⟨.bl _,H,I,rfl,q⟩
theorem q5b{K:FrG}(hK:X.K=K)(hu:X.A.units+64<cLine):OpR X (compareOp .NotEq) (rNeD K):=by subst hK;intro z5 s σ H x y v u Q I rx ry h;obtain⟨d,e,hd,he,sd,se,q⟩:=h;obtain⟨as,ra⟩:=q62 I hd rx;obtain⟨bs,rb⟩:=q62 I he ry;exact ne_dataH ra rb sd se hu ⟨.bl _,H,I,rfl,q⟩
structure MkN(K:FrG)(C:Addr):Prop where
 makes:PySem.W.makesIn K C=true
 init:PySem.W.findIn K (.ref C) "__init__"=some (some (.builtin "object.__init__"))
 kp:PySem.W.keepIn K (.ref C)=true
def ql0(C:Addr):TE:=λ_ H Q=>∀x dx,H x=none->H dx=none->dx≠x->Q (.ref x) (upd (upd H dx (.own x)) x (.ins C dx []))
theorem qfe{C:Addr}{z5:List (Addr×Obj)}{σ:St}{H:Hp}{s:Shared}{Q:VK}(M:MkN X.K C)(I:Inv X z5 σ H s)
 (h:∀x dx,H x=none->H dx=none->dx≠x->Q (.ref x) (upd (upd H dx (.own x)) x (.ins C dx []))):wpAny (model X.prog X.w) X.A (call (.ref C) []) (EP X z5 σ Q) X.xe s:=by
 have hq:=h (s.heap.objs.size+1) s.heap.objs.size (I.hok.fresh (Nat.le_succ _)) (I.hok.fresh (ja _)) (jf (Nat.lt_succ_self _));have I2:=Inv.made (C:=C) I;refine wpAny_call (qgk I.kIn M.makes M.init (λself=>PySem.W.Looks.of_pure (PySem.W.oi_bind self)) ?_);have Y:=PySem.W.makes_of (M:=model X.prog X.w) I.kIn M.makes;have g1:((s.heap.push PySem.W.emptyDict).push (PySem.W.instObj C s.heap.objs.size)).get? (s.heap.objs.size+1)=some (PySem.W.instObj C s.heap.objs.size):=by
  have z:=jm (o:=PySem.W.instObj C s.heap.objs.size) (s.heap.push PySem.W.emptyDict) rfl
  rwa [xg]at z
 have t1:PySem.W.Looks (model X.prog X.w) ((s.heap.push PySem.W.emptyDict).push (PySem.W.instObj C s.heap.objs.size)) (typeOf (.ref (s.heap.objs.size+1))) (.ref C):=(PySem.W.Looks.ld g1).andThen .now;have t2:PySem.W.Looks (model X.prog X.w) ((s.heap.push PySem.W.emptyDict).push (PySem.W.instObj C s.heap.objs.size)) (isInstance (.ref (s.heap.objs.size+1)) (.type "object")) true:=
  t1.andThen (Y.top.keeps λb o e=>jb _ (jb _ e))
 refine codeAny_call_builtin PySem.W.oi_plain PySem.W.entry_oi (PySem.W.check_slot PySem.W.oi_kind PySem.W.oi_split t2 (PySem.W.oi_args _) ?_);rw[PySem.W.oi_run];exact j8 ⟨rfl,⟨.ref (s.heap.objs.size+1),_,I2,rfl,hq⟩⟩
theorem qit{C:Addr}{x:Str}{p pos:Pos}(M:MkN X.K C)(hg:Gl X x)(hm:X.mg x=some (.ref C))(hdb:(x==("__debug__":Str))=false:=by decide):PE X (.Call (.Name x p) [] [] pos) (ql0 C):=by intro z5 s σ H Q I h;refine xr (qbb I hg hm ?_ hdb);exact PySem.W.callWith_K0 I.kIn M.kp (qfe M I h)
end
def seqIs(b:Bool)(h:Heap)(l:Addr)(xs:Array Value):Prop:=match b with
 |true=>h.IsList l xs
 |false=>h.IsTuple l xs
def iterIs(b:Bool)(h:Heap)(i l:Addr)(k:Nat):Prop:=match b with
 |true=>h.IsListIter i l k
 |false=>h.IsTupleIter i l k
def q5n(b:Bool)(l:Addr):Obj:={cls:=.type (if b then "list_iterator" else "tuple_iterator"),data:=.fields #[.ref l,.int 0 0]}
theorem seqIs.at_{b:Bool}{h h':Heap}{l:Addr}{xs:Array Value}(q:seqIs b h l xs)(e:∀o,h.get? l=some o->h'.get? l=some o):seqIs b h' l xs:=by
 cases b
 ·obtain⟨o,z,r⟩:=(show h.IsTuple l xs from q);exact(show h'.IsTuple l xs from⟨o,e o z,r⟩)
 ·obtain⟨o,z,r⟩:=(show h.IsList l xs from q);exact(show h'.IsList l xs from⟨o,e o z,r⟩)
theorem iterIs.at_{b:Bool}{h h':Heap}{i l:Addr}{k:Nat}(q:iterIs b h i l k)(e:∀o,h.get? i=some o->h'.get? i=some o):iterIs b h' i l k:=by
 cases b
 ·obtain⟨o,z,r⟩:=(show h.IsTupleIter i l k from q);exact(show h'.IsTupleIter i l k from⟨o,e o z,r⟩)
 ·obtain⟨o,z,r⟩:=(show h.IsListIter i l k from q);exact(show h'.IsListIter i l k from⟨o,e o z,r⟩)
theorem iterIs.obj{b:Bool}{h:Heap}{i l:Addr}{k:Nat}(q:iterIs b h i l k):∃o,h.get? i=some o/\∀v,o.data≠.cell v:=by
 cases b
 ·obtain⟨o,z,_,d⟩:=(show h.IsTupleIter i l k from q);exact⟨o,z,λv e=>by rw[d]at e;cases e⟩
 ·obtain⟨o,z,_,d⟩:=(show h.IsListIter i l k from q);exact⟨o,z,λv e=>by rw[d]at e;cases e⟩
theorem iterIs.mk_{b:Bool}{h:Heap}{i l:Addr}(q:h.get? i=some (q5n b l)):iterIs b h i l 0:=by
 cases b
 ·exact(show h.IsTupleIter i l 0 from⟨_,q,rfl,rfl⟩)
 ·exact(show h.IsListIter i l 0 from⟨_,q,rfl,rfl⟩)
section
variable{prog:Program}{w:World}{A:Around}{E:Value->Shared->Prop}{s:Shared}
theorem q8a{b:Bool}{l:Addr}{xs:Array Value}{Q:Value->Shared->Prop}(q:seqIs b s.heap l xs)(h:Q (.ref s.heap.objs.size) {s with heap:=s.heap.push (q5n b l)}):wpAny (model prog w) A (pyIter (.ref l)) Q E s:=by
 cases b
 ·exact wpAny_pyIter_tuple (show s.heap.IsTuple l xs from q) h
 ·exact wpAny_pyIter_list (show s.heap.IsList l xs from q) h
theorem qa2{i l:Addr}{k:Nat}{xs:Array Value}{x:Value}{Q:Value->Shared->Prop}(st:s.heap.IsTupleIter i l k)(tp:s.heap.IsTuple l xs)(e:xs[k]? =some x)
 (h:∀h',h'.IsTupleIter i l (k+1)->Heap.SameBut i s.heap h'->Q x {s with heap:=h'}):wpAny (model prog w) A (Builtin.SmallTypes.nextOf (.ref i)) Q E s:=by
 obtain⟨oi,gi,ci,di⟩:=id st;obtain⟨ot,gt,_,nt,dt⟩:=tp;unfold Builtin.SmallTypes.nextOf;refine j6 (k9 (name:=Str.ofString "__next__") st.typeIs kn (k8 kn st.typeIs F.entry_tuple_iterator_next ?_ (F.args_tuple_iterator_next_1 _)));show wpAny _ _ (field (.ref i) 0 >>= _) _ _ s;refine j6 (xk gi di (x:=.ref l) rfl ?_);show wpAny _ _ (if(Value.ref l==Value.none)=true then _ else _) _ _ s;rw[if_neg (by exact Bool.false_ne_true:¬((Value.ref l==Value.none)=true))];show wpAny _ _ (field (.ref i) 1 >>= _) _ _ s;refine j6 (xk gi di (x:=.int k 0) rfl ?_);show wpAny _ _ (seqItems? (.ref l) >>= _) _ _ s;refine j6 (xu gt dt ?_);simp only[Int.toNat_natCast,e];refine j6 (wpAny_setField gi di (by simp) (j8 ⟨x,rfl,j8 (h _ ?_ (kl ..))⟩));refine⟨_,kf _ gi (Obj.isFreed_of_fields (Obj.data_mapFields di _)),(Obj.cls_mapFields ..).trans ci,?_⟩;rw[Obj.data_mapFields di];simp[rawInt]
theorem q6r{i l:Addr}{k:Nat}{xs:Array Value}{Q:Value->Shared->Prop}(hh:A.handled=none)(st:s.heap.IsTupleIter i l k)(tp:s.heap.IsTuple l xs)(e:xs[k]? =none)
 (h:∀h' x,Heap.ExtBut i s.heap h'->(∃o,h'.get? x=some o/\o.cls=.type "StopIteration")->E (.ref x) {s with heap:=h'}):wpAny (model prog w) A (Builtin.SmallTypes.nextOf (.ref i)) Q E s:=by
 obtain⟨oi,gi,ci,di⟩:=id st;obtain⟨ot,gt,_,nt,dt⟩:=tp;unfold Builtin.SmallTypes.nextOf;refine j6 (k9 (name:=Str.ofString "__next__") st.typeIs kn (k8 kn st.typeIs F.entry_tuple_iterator_next ?_ (F.args_tuple_iterator_next_1 _)));show wpAny _ _ (field (.ref i) 0 >>= _) _ _ s;refine j6 (xk gi di (x:=.ref l) rfl ?_);show wpAny _ _ (if(Value.ref l==Value.none)=true then _ else _) _ _ s;rw[if_neg (by exact Bool.false_ne_true:¬((Value.ref l==Value.none)=true))];show wpAny _ _ (field (.ref i) 1 >>= _) _ _ s;refine j6 (xk gi di (x:=.int k 0) rfl ?_);show wpAny _ _ (seqItems? (.ref l) >>= _) _ _ s;refine j6 (xu gt dt ?_);simp only[Int.toNat_natCast,e];refine j6 (wpAny_rule (j6 (wpAny_setField gi di (by simp) ?_)));show wpAny _ _ (newExc (.type "StopIteration") [] >>= _) _ _ _;refine j6 ?_;simp only[newExc,newTuple];refine j6 (xx ?_ (by size_fits));refine j6 (m:=firstArgMember _ _) (wpAny_of_eq (a:=Value.none) (by first|rfl|(simp only[firstArgMember]<;>rfl)) ?_);refine xx ?_ (by size_fits);simp only[raiseNew];refine j6 (wpAny_handled ?_)
 first|rw[(hh:A.in1.handled=none)]|rw[hh]
 refine j6 (j8 (wpAny_throw ?_));exact h _ _ (((kl ..).extBut.push _).push _) ⟨_,jm _ rfl,rfl⟩
theorem q6a{b:Bool}{i l:Addr}{k:Nat}{xs:Array Value}{x:Value}{Q:Value->Shared->Prop}(st:iterIs b s.heap i l k)(tp:seqIs b s.heap l xs)(e:xs[k]? =some x)
 (h:∀h',iterIs b h' i l (k+1)->Heap.SameBut i s.heap h'->Q x {s with heap:=h'}):wpAny (model prog w) A (Builtin.SmallTypes.nextOf (.ref i)) Q E s:=by
 cases b
 ·exact qa2 st tp e h
 ·exact wpAny_nextOf_list_item st tp e h
theorem q5d{b:Bool}{i l:Addr}{k:Nat}{xs:Array Value}{Q:Value->Shared->Prop}(hh:A.handled=none)(st:iterIs b s.heap i l k)(tp:seqIs b s.heap l xs)(e:xs[k]? =none)
 (h:∀h' x,Heap.ExtBut i s.heap h'->(∃o,h'.get? x=some o/\o.cls=.type "StopIteration")->E (.ref x) {s with heap:=h'}):wpAny (model prog w) A (Builtin.SmallTypes.nextOf (.ref i)) Q E s:=by
 cases b
 ·exact q6r hh st tp e h
 ·exact wpAny_nextOf_list_end hh st tp e h
theorem qhw{z TI TO i1 i2 l1 l2:Addr}{b1 b2:Bool}{k1 k2:Nat}{xs ys:Array Value}{x y a b:Value}{Q:Option Value->Shared->Prop}(D:ZipApart z TI TO i1 i2 l1 l2)
 (hz:IsZip s.heap z TI TO .none) (hTI:IsPair s.heap TI (.ref i1) (.ref i2)) (hTO:IsPair s.heap TO a b) (h1:iterIs b1 s.heap i1 l1 k1) (h2:iterIs b2 s.heap i2 l2 k2) (q1:seqIs b1 s.heap l1 xs) (q2:seqIs b2 s.heap l2 ys) (hx:xs[k1]? =some x) (hy:ys[k2]? =some y)
 (hQ:∀h',IsZip h' z TI TO (rawInt s.heap.objs.size)->IsPair h' TO x y->iterIs b1 h' i1 l1 (k1+1)->iterIs b2 h' i2 l2 (k2+1)->IsPair h' s.heap.objs.size x y->
   (∀c o,c≠z->c≠TO->c≠i1->c≠i2->s.heap.get? c=some o->h'.get? c=some o)->Q (some (.ref s.heap.objs.size)) {s with heap:=h'}):wpAny (model prog w) A (pyNext (.ref z)) Q E s:=by
 have ty:s.TypeIs (.ref z) "zip":=⟨_,hz,rfl⟩;unfold pyNext;refine j6 (wpAny_attempt (k9 (name:=Str.ofString "__next__") ty F.slot_zip_next (k8 F.slot_zip_next ty F.entry_zip_next ?_ (F.args_zip_next_1 _))));show wpAny _ _ (field (.ref z) 2 >>= _) _ _ _;refine j6 (xk hz rfl (x:=.bool false) rfl ?_);show wpAny _ _ (field (.ref z) 3 >>= _) _ _ _;refine j6 (xk hz rfl (x:=.ref TI) rfl (j6 (xu hTI rfl ?_)));show wpAny _ _ (Builtin.SmallTypes.ownedTupleIsFree (.ref z) >>= _) _ _ _;refine j6 ?_;unfold Builtin.SmallTypes.ownedTupleIsFree;refine j6 (xk hz rfl (x:=.none) rfl (j8 ?_));simp only[if_true];refine j6 (wpAny_rule (j6 (xk hz rfl (x:=.ref TO) rfl (j6 (ki hz (by simp) λg1 z1 s1=>?_)))));have Z1:IsZip g1 z TI TO .ellipsis:=z1;refine j6 ?_;simp only[List.zipIdx_cons,List.zipIdx_nil,List.forIn_cons,List.forIn_nil];refine j6 (j6 (wpAny_onRaise ?_));show wpAny _ _ (Builtin.SmallTypes.nextOf (.ref i1) >>= _) _ _ _;refine j6 (q6a (h1.at_ λo e=>s1.extBut _ o D.i1z e) (q1.at_ λo e=>s1.extBut _ o D.l1z e) hx λg2 n2 s2=>j8 ?_);have P2:IsPair g2 TO a b:=s2.extBut _ _ D.TOi1 (s1.extBut _ _ D.TOz hTO);refine j6 (xu P2 rfl (j6 (wpAny_updateSeq_pair P2 λg3 p3 s3=>j6 (wpAny_letGo (j8 ?_)))));have P3:IsPair g3 TO x b:=p3;refine j6 (j6 (wpAny_onRaise ?_));show wpAny _ _ (Builtin.SmallTypes.nextOf (.ref i2) >>= _) _ _ _;refine j6 (q6a (h2.at_ λo e=>s3.extBut _ o D.TOi2.symm (s2.extBut _ o D.i12.symm (s1.extBut _ o D.i2z e))) (q2.at_ λo e=>s3.extBut _ o D.l2TO (s2.extBut _ o D.l2i1 (s1.extBut _ o D.l2z e))) hy λg4 n4 s4=>j8 ?_);have P4:IsPair g4 TO x b:=s4.extBut _ _ D.TOi2 P3;refine j6 (xu P4 rfl (j6 (wpAny_updateSeq_pair P4 λg5 p5 s5=>j6 (wpAny_letGo (j8 (j8 ?_))))));have P5:IsPair g5 TO x y:=p5;refine j6 (xu P5 rfl (j6 (wpAny_newTuple ?_)));have sz:g5.objs.size=s.heap.objs.size:=by rw[s5.1,s4.1,s3.1,s2.1,s1.1]
 have Z5:IsZip g5 z TI TO .ellipsis:=s5.extBut _ _ D.TOz.symm (s4.extBut _ _ D.i2z.symm (s3.extBut _ _ D.TOz.symm (s2.extBut _ _ D.i1z.symm Z1)));have K5:∀c o,c≠z->c≠TO->c≠i1->c≠i2->s.heap.get? c=some o->g5.get? c=some o:=λc o c1 c2 c3 c4 e=>s5.extBut _ _ c2 (s4.extBut _ _ c4 (s3.extBut _ _ c2 (s2.extBut _ _ c3 (s1.extBut _ _ c1 e))));have N1:iterIs b1 g5 i1 l1 (k1+1):=n2.at_ λo e=>s5.extBut _ o D.TOi1.symm (s4.extBut _ o D.i12 (s3.extBut _ o D.TOi1.symm e));have N2:iterIs b2 g5 i2 l2 (k2+1):=n4.at_ λo e=>s5.extBut _ o D.TOi2.symm e;have zlt:z<g5.objs.size:=j9 Z5;show wpAny _ _ (Builtin.SmallTypes.ownedTupleHandOut (.ref z) (.ref g5.objs.size) >>= _) _ _ _;refine j6 ?_;unfold Builtin.SmallTypes.ownedTupleHandOut;have Z6:IsZip (g5.push {cls:=.type "tuple",data:=.seq #[x,y]}) z TI TO .ellipsis:=jb _ Z5;refine j6 (ki Z6 (by simp) λg7 z7 s7=>?_);have Z7:IsZip g7 z TI TO (rawInt g5.objs.size):=z7;refine ki Z7 (by simp) λg8 z8 s8=>?_;have Z8:IsZip g8 z TI TO (rawInt g5.objs.size):=z8;have up:∀c o,c≠z->g5.get? c=some o->g8.get? c=some o:=λc o c1 e=>s8.extBut _ _ c1 (s7.extBut _ _ c1 (jb _ e));have T8:IsPair g8 g5.objs.size x y:=s8.extBut _ _ (Nat.ne_of_gt zlt) (s7.extBut _ _ (Nat.ne_of_gt zlt) (jm _ rfl));rw[sz]at Z8 T8;refine j8 ⟨_,rfl,j8 ?_⟩;show Q (some (.ref g5.objs.size)) _;rw[sz];exact hQ g8 Z8 (up _ _ D.TOz P5) (N1.at_ λo e=>up _ o D.i1z e) (N2.at_ λo e=>up _ o D.i2z e) T8 λc o c1 c2 c3 c4 e=>up c o c1 (K5 c o c1 c2 c3 c4 e)
theorem qm4{z TI TO i1 i2 l1 l2:Addr}{b1 b2:Bool}{k1 k2:Nat}{xs ys:Array Value}{a b:Value}{Q:Option Value->Shared->Prop}(hh:A.handled=none)(D:ZipApart z TI TO i1 i2 l1 l2)
 (hz:IsZip s.heap z TI TO .none) (hTI:IsPair s.heap TI (.ref i1) (.ref i2)) (hTO:IsPair s.heap TO a b) (h1:iterIs b1 s.heap i1 l1 k1) (h2:iterIs b2 s.heap i2 l2 k2) (q1:seqIs b1 s.heap l1 xs) (q2:seqIs b2 s.heap l2 ys) (hend:xs[k1]? =none∨ys[k2]? =none)
 (hQ:∀h',(∀c o,c≠z->c≠TO->c≠i1->c≠i2->s.heap.get? c=some o->h'.get? c=some o)->Q none {s with heap:=h'}):wpAny (model prog w) A (pyNext (.ref z)) Q E s:=by
 have ty:s.TypeIs (.ref z) "zip":=⟨_,hz,rfl⟩;have fin:∀(h':Heap) (e:Addr),(∀c o,c≠z->c≠TO->c≠i1->c≠i2->s.heap.get? c=some o->h'.get? c=some o)->(∃o,h'.get? e=some o/\o.cls=.type "StopIteration")->
  wpAny (model prog w) A (isInstance (.ref e) (.type "StopIteration") >>= λr=>if r=true then pure none else throw (.ref e)) Q E {s with heap:=h'}:=λh' e hk ⟨o,ho,hc⟩=>
  j6 (wpAny_isInstance (T:="StopIteration") (b:=true) ⟨o,ho,hc⟩ isSubtype_stop (j8 (hQ _ hk)))
 unfold pyNext;refine j6 (wpAny_attempt (k9 (name:=Str.ofString "__next__") ty F.slot_zip_next (k8 F.slot_zip_next ty F.entry_zip_next ?_ (F.args_zip_next_1 _))));show wpAny _ _ (field (.ref z) 2 >>= _) _ _ _;refine j6 (xk hz rfl (x:=.bool false) rfl ?_);show wpAny _ _ (field (.ref z) 3 >>= _) _ _ _;refine j6 (xk hz rfl (x:=.ref TI) rfl (j6 (xu hTI rfl ?_)));show wpAny _ _ (Builtin.SmallTypes.ownedTupleIsFree (.ref z) >>= _) _ _ _;refine j6 ?_;unfold Builtin.SmallTypes.ownedTupleIsFree;refine j6 (xk hz rfl (x:=.none) rfl (j8 ?_));simp only[if_true];refine j6 (wpAny_rule (j6 (xk hz rfl (x:=.ref TO) rfl (j6 (ki hz (by simp) λg1 z1 s1=>?_)))));have Z1:IsZip g1 z TI TO .ellipsis:=z1;refine j6 ?_;simp only[List.zipIdx_cons,List.zipIdx_nil,List.forIn_cons,List.forIn_nil];refine j6 (j6 (wpAny_onRaise ?_));show wpAny _ _ (Builtin.SmallTypes.nextOf (.ref i1) >>= _) _ _ _;have I1:iterIs b1 g1 i1 l1 k1:=h1.at_ λo e=>s1.extBut _ o D.i1z e;have L1:seqIs b1 g1 l1 xs:=q1.at_ λo e=>s1.extBut _ o D.l1z e;cases ex:xs[k1]? with
 | none=>
  refine j6 (q5d hh I1 L1 ex λg2 e s2 he=>?_);obtain⟨oe,he,ce⟩:=he;have Z2:IsZip g2 z TI TO .ellipsis:=s2 _ _ D.i1z.symm Z1;have nez:e≠z:=λq=>by subst q;rw[Z2]at he;cases he;simp at ce
  exact ki Z2 (by simp) λg3 _ s3=>fin g3 e (λc o c1 _ c3 _ q=>s3.extBut _ _ c1 (s2 _ _ c3 (s1.extBut _ _ c1 q))) ⟨oe,s3.extBut _ _ nez he,ce⟩
 | some x=>
  have ey:ys[k2]? =none:=by
   rcases hend with q|q
   ·rw[ex]at q;cases q
   ·exact q
  refine j6 (q6a I1 L1 ex λg2 n2 s2=>j8 ?_);have P2:IsPair g2 TO a b:=s2.extBut _ _ D.TOi1 (s1.extBut _ _ D.TOz hTO);refine j6 (xu P2 rfl (j6 (wpAny_updateSeq_pair P2 λg3 p3 s3=>j6 (wpAny_letGo (j8 ?_)))));refine j6 (j6 (wpAny_onRaise ?_));show wpAny _ _ (Builtin.SmallTypes.nextOf (.ref i2) >>= _) _ _ _;refine j6 (q5d hh (h2.at_ λo e=>s3.extBut _ o D.TOi2.symm (s2.extBut _ o D.i12.symm (s1.extBut _ o D.i2z e))) (q2.at_ λo e=>s3.extBut _ o D.l2TO (s2.extBut _ o D.l2i1 (s1.extBut _ o D.l2z e))) ey λg4 e s4 he=>?_);obtain⟨oe,he,ce⟩:=he;have Z4:IsZip g4 z TI TO .ellipsis:=s4 _ _ D.i2z.symm (s3.extBut _ _ D.TOz.symm (s2.extBut _ _ D.i1z.symm Z1));have nez:e≠z:=λq=>by subst q;rw[Z4]at he;cases he;simp at ce
  exact ki Z4 (by simp) λg5 _ s5=>fin g5 e (λc o c1 c2 c3 c4 q=>s5.extBut _ _ c1 (s4 _ _ c4 (s3.extBut _ _ c2 (s2.extBut _ _ c3 (s1.extBut _ _ c1 q))))) ⟨oe,s5.extBut _ _ nez he,ce⟩
abbrev zo1(b1:Bool)(h:Heap)(l1:Addr):Heap:=h.push (q5n b1 l1)
abbrev zo2(b1 b2:Bool)(h:Heap)(l1 l2:Addr):Heap:=(zo1 b1 h l1).push (q5n b2 l2)
abbrev zo3(b1 b2:Bool)(h:Heap)(l1 l2:Addr):Heap:=(zo2 b1 b2 h l1 l2).push {cls:=.type "tuple",data:=.seq #[.ref h.objs.size,.ref (zo1 b1 h l1).objs.size]}
abbrev zo4(b1 b2:Bool)(h:Heap)(l1 l2:Addr):Heap:=(zo3 b1 b2 h l1 l2).push {cls:=.type "tuple",data:=.seq #[.none,.none]}
abbrev zo5(b1 b2:Bool)(h:Heap)(l1 l2:Addr):Heap:=(zo4 b1 b2 h l1 l2).push {cls:=.type "zip",data:=.fields #[.none,.bool false,.bool false,.ref (zo2 b1 b2 h l1 l2).objs.size,.ref (zo3 b1 b2 h l1 l2).objs.size]}
theorem qm3(b1 b2:Bool)(l1 l2:Addr)(xs ys:Array Value):Meets (Builtin.«zip.__new__» ⟨[.type "zip",.ref l1,.ref l2],[]⟩) (λ_ R s=>seqIs b1 s.heap l1 xs/\seqIs b2 s.heap l2 ys/\
 R (.ok (.ret (.ref (zo4 b1 b2 s.heap l1 l2).objs.size))) {s with heap:=zo5 b1 b2 s.heap l1 l2}):=by
 refine .of_wp λprog w A R s q=>?_;obtain⟨hp,g,d,tk,os⟩:=s;obtain⟨q1,q2,q⟩:=q;have sub:=sub_zip;have L1:seqIs b1 (Shared.heap ⟨hp,g,d,tk,os⟩) l1 xs:=q1;have L2':seqIs b2 (Shared.heap ⟨hp.push (q5n b1 l1),g,d,tk,os⟩) l2 ys:=q2.at_ λo z=>jb _ z
 wp_walk using q8a L1,q8a L2'
 exact⟨_,rfl,q⟩
theorem qk1{b1 b2:Bool}{l1 l2:Addr}{xs ys:Array Value}{Q:Value->Shared->Prop}(q1:seqIs b1 s.heap l1 xs)(q2:seqIs b2 s.heap l2 ys)
 (h:∀h',IsZip h' (s.heap.objs.size+4) (s.heap.objs.size+2) (s.heap.objs.size+3) .none->IsPair h' (s.heap.objs.size+2) (.ref s.heap.objs.size) (.ref (s.heap.objs.size+1))->IsPair h' (s.heap.objs.size+3) .none .none->
   iterIs b1 h' s.heap.objs.size l1 0->iterIs b2 h' (s.heap.objs.size+1) l2 0->(∀c o,s.heap.get? c=some o->h'.get? c=some o)->Q (.ref (s.heap.objs.size+4)) {s with heap:=h'}):
 wpAny (model prog w) A (call (.type "zip") [.ref l1,.ref l2]) Q E s:=by
 refine callType_new F.called_zip (by decide) (F.typeCall_zip_2 _ _) (F.newCall_zip_2 _ _) (λobj=>F.args_object_init_3 obj _ _) F.entry_zip_new (qm3 b1 b2 l1 l2 xs ys) ⟨q1,q2,?_⟩;have y1:(zo1 b1 s.heap l1).objs.size=s.heap.objs.size+1:=xg ..;have y2:(zo2 b1 b2 s.heap l1 l2).objs.size=s.heap.objs.size+2:=by rw[xg,y1]
 have y3:(zo3 b1 b2 s.heap l1 l2).objs.size=s.heap.objs.size+3:=by rw[xg,y2]
 have y4:(zo4 b1 b2 s.heap l1 l2).objs.size=s.heap.objs.size+4:=by rw[xg,y3]
 have k5:(zo5 b1 b2 s.heap l1 l2).get? (zo4 b1 b2 s.heap l1 l2).objs.size=some _:=jm _ rfl;have k4:(zo5 b1 b2 s.heap l1 l2).get? (zo3 b1 b2 s.heap l1 l2).objs.size=some _:=jb _ (jm _ rfl);have k3:(zo5 b1 b2 s.heap l1 l2).get? (zo2 b1 b2 s.heap l1 l2).objs.size=some _:=jb _ (jb _ (jm _ rfl));have k2:(zo5 b1 b2 s.heap l1 l2).get? (zo1 b1 s.heap l1).objs.size=some (q5n b2 l2):=jb _ (jb _ (jb _ (jm _ (by cases b2<;>rfl))));have k1:(zo5 b1 b2 s.heap l1 l2).get? s.heap.objs.size=some (q5n b1 l1):=jb _ (jb _ (jb _ (jb _ (jm _ (by cases b1<;>rfl)))));show _/\_;rw[y2,y3,y4]at k5;rw[y1,y2]at k3;rw[y3]at k4;rw[y1]at k2;rw[y4];exact⟨⟨_,k5,rfl⟩,h _ k5 k3 k4 (iterIs.mk_ k1) (iterIs.mk_ k2) λc o x=>jb _ (jb _ (jb _ (jb _ (jb _ x))))⟩
end
def SqB(K:FrG)(b:Bool)(H:Hp)(p:Addr)(xs:List V):Prop:=match b with
 |true=>SqL K H p xs
 |false=>SqT K H p xs
section
variable{X:Cx}{z5:List (Addr×Obj)}{σ:St}{H:Hp}{s:Shared}{b b1 b2:Bool}{p p1 p2:Addr}{xs ys:List V}
theorem Inv.seqB(I:Inv X z5 σ H s)(h:SqB X.K b H p xs):∃its:List Value,Vals xs its/\seqIs b s.heap p its.toArray/\xs.length<=sizeLine:=by
 cases b
 ·obtain⟨its,r,q,hz⟩:=I.tuple (show SqT X.K H p xs from h);exact⟨its,r,(show s.heap.IsTuple p its.toArray from q),hz⟩
 ·obtain⟨its,r,q,hz⟩:=I.list (show SqL X.K H p xs from h);exact⟨its,r,(show s.heap.IsList p its.toArray from q.isList),hz⟩
theorem Inv.seqB_inj(I:Inv X z5 σ H s)(h:SqB X.K b H p xs)(h':SqB X.K b H p ys):xs=ys:=by
 cases b
 ·exact I.tuple_inj h h'
 ·exact I.list_inj h h'
end
def Itz(K:FrG)(b1 b2:Bool)(p1 p2:Addr):It:=
 ⟨λi H=>∃xs ys x y,SqB K b1 H p1 xs/\SqB K b2 H p2 ys/\xs[i]? =some x/\ys[i]? =some y,
  λi H v H'=>∃T x y,v=.ref T/\H T=none/\H'=upd H T (.tup [x,y])/\(∀xs,SqB K b1 H p1 xs->xs[i]? =some x)/\∀ys,SqB K b2 H p2 ys->ys[i]? =some y,
  λi H=>∃xs ys,SqB K b1 H p1 xs/\SqB K b2 H p2 ys/\(xs.length<=i∨ys.length<=i)⟩
def qu8(b1 b2:Bool)(p1 p2 z TI TO i1 i2:Addr)(i:Nat)(h:Heap):Prop:=IsZip h z TI TO .none/\IsPair h TI (.ref i1) (.ref i2)/\(∃a b,IsPair h TO a b)/\iterIs b1 h i1 p1 i/\iterIs b2 h i2 p2 i
theorem qi6{P:Program}{w:World}{K:FrG}{zk:List Expr}{x1:Nat}{pos:Pos}(b1 b2:Bool){p1 p2 z TI TO i1 i2:Addr}(D:ZipApart z TI TO i1 i2 p1 p2):
 Turn P w K (.Tuple zk x1 pos) (Itz K b1 b2 p1 p2) [z,TI,TO,i1,i2] z (qu8 b1 b2 p1 p2 z TI TO i1 i2) where
 mem:=by simp
 obj:=λi h st c hc=>by
  obtain⟨hz,hI,⟨a,b,hO⟩,j1,j2⟩:=st;simp only[List.mem_cons,List.not_mem_nil,or_false]at hc;rcases hc with rfl|rfl|rfl|rfl|rfl
  ·exact⟨_,hz,λv e=>by cases e⟩
  ·exact⟨_,hI,λv e=>by cases e⟩
  ·exact⟨_,hO,λv e=>by cases e⟩
  ·exact j1.obj
  ·exact j2.obj
 keep:=λi h h' st k=>by obtain⟨hz,hI,⟨a,b,hO⟩,j1,j2⟩:=st;exact⟨k z (by simp) _ hz,k TI (by simp) _ hI,⟨a,b,k TO (by simp) _ hO⟩,j1.at_ λo e=>k i1 (by simp) o e,j2.at_ λo e=>k i2 (by simp) o e⟩
 item:=by
  intro X hP hw hK hc i z5 s σ H E I hf st hg;subst hP hw hK;obtain⟨xs,ys,x,y,q1,q2,ex,ey⟩:=hg;obtain⟨it1,r1,t1,_⟩:=I.seqB q1;obtain⟨it2,r2,t2,_⟩:=I.seqB q2;obtain⟨u,eu,ru⟩:=r1.get ex;obtain⟨v,ev,rv⟩:=r2.get ey;obtain⟨hz,hI,⟨a,b,hO⟩,j1,j2⟩:=st;refine qhw D hz hI hO j1 j2 t1 t2 (x:=u) (y:=v) (by simpa using eu) (by simpa using ev) λh' z' o' n1 n2 tp kk=>?_;refine⟨_,rfl,?_⟩;refine wpAny_letOwnedTupleGo_zip z' λh'' z'' s''=>?_;have fresh:H s.heap.objs.size=none:=I.hok.fresh (ja _);have zne:s.heap.objs.size≠z:=λe=>by have:=j9 hz;rw[<-e]at this;exact jy _ this
  have keep:∀c o,c∉[z,TI,TO,i1,i2]->s.heap.get? c=some o->h''.get? c=some o:=λc o hc e=>by simp only[List.mem_cons,List.not_mem_nil,or_false,not_or]at hc;exact s''.extBut c o hc.1 (kk c o hc.1 hc.2.2.1 hc.2.2.2.1 hc.2.2.2.2 e)
  have tp':h''.get? s.heap.objs.size=some {cls:=.type "tuple",data:=.seq #[u,v]}:=s''.extBut _ _ zne tp;have I':Inv X z5 σ (upd H s.heap.objs.size (.tup [x,y])) {s with heap:=h'',toks:=s.toks}:=by
   refine I.step (g':=s.gens) (d':=s.drawn) (ch:=[z,TI,TO,i1,i2]) (λc hc=>?_) (λc o _ _ hc e _=>keep c o hc e) (λc o _ _ hc e _=>⟨o.slots,keep c o hc e⟩) (λc o _ e n=>?_) (λc o hc e=>⟨o,keep c o hc e⟩)
    (λc zs e=>?_) (λc o w' e=>?_) (λc ps e=>⟨#[],?_⟩) (λm hm=>?_) (λc o e=>?_) I.bare
   ·obtain⟨_,f1,f2,f3,f4,f5⟩:=hf c hc;exact⟨f3,f1,f4,f5⟩
   ·rw[q0v (jf (j9 e))];exact n
   ·rw[q0v (q1l e fresh)];exact e
   ·rw[q0v (q1l e fresh)];exact e
   ·rw[q0v (q1l e fresh),e];simp
   ·obtain⟨o,es,ep,ho,r⟩:=hm;exact⟨o,es,ep,keep _ o (λq=>(hf _ q).2.1 rfl) ho,r⟩
   ·by_cases hb:c=s.heap.objs.size
    ·subst hb;rw[q0y]at e;cases e;exact⟨by show 2<=sizeLine;decide,[u,v],.cons ru (.cons rv .nil),⟨_,tp',⟨rfl,_,rfl⟩,rfl⟩⟩
    ·rw[q0v hb]at e;refine(I.hok c o e).stay (λd w' hd q=>keep d w' (λm=>?_) q) (λd q=>?_) λd zs q=>?_
     ·have n:=(hf d m).1;rcases hd with rfl|hd
      ·rw[n]at e;cases e
      ·rw[n]at hd;cases hd
     ·rw[q0v (q1l q fresh)];exact q
     ·rw[q0v (q1l q fresh)];exact q
  refine⟨.ref s.heap.objs.size,_,I',rfl,⟨_,x,y,rfl,fresh,rfl,λzs q=>by rw[I.seqB_inj q q1];exact ex,λzs q=>by rw[I.seqB_inj q q2];exact ey⟩,?_,λc hc=>?_⟩
  ·refine⟨z'',s''.extBut _ _ D.TIz (kk _ _ D.TIz D.TITO D.TIi1 D.TIi2 hI),⟨u,v,s''.extBut _ _ D.TOz o'⟩,n1.at_ λo e=>s''.extBut _ o D.i1z e,n2.at_ λo e=>s''.extBut _ o D.i2z e⟩
  ·have lt:c<s.heap.objs.size:=by
    simp only[List.mem_cons,List.not_mem_nil,or_false]at hc;rcases hc with rfl|rfl|rfl|rfl|rfl
    ·exact j9 hz
    ·exact j9 hI
    ·exact j9 hO
    ·obtain⟨o,e,_⟩:=j1.obj;exact j9 e
    ·obtain⟨o,e,_⟩:=j2.obj;exact j9 e
   rw[q0v (jf lt)];exact(hf c hc).1
 done:=by
  intro X hP hw hK hc i z5 s σ H E I hf st hg;subst hP hw hK;obtain⟨xs,ys,q1,q2,hl⟩:=hg;obtain⟨it1,r1,t1,_⟩:=I.seqB q1;obtain⟨it2,r2,t2,_⟩:=I.seqB q2;obtain⟨hz,hI,⟨a,b,hO⟩,j1,j2⟩:=st;have l1:=r1.length;have l2:=r2.length;refine qm4 (I.ok.hd hc) D hz hI hO j1 j2 t1 t2 (by rcases hl with h|h;exact .inl (by simp;omega);exact .inr (by simp;omega)) λh' kk=>⟨rfl,?_⟩;have keep:∀c o,c∉[z,TI,TO,i1,i2]->s.heap.get? c=some o->h'.get? c=some o:=λc o hc e=>by simp only[List.mem_cons,List.not_mem_nil,or_false,not_or]at hc;exact kk c o hc.1 hc.2.2.1 hc.2.2.2.1 hc.2.2.2.2 e
  show Inv X z5 σ H {s with heap:=h',toks:=s.toks};refine I.step (g':=s.gens) (d':=s.drawn) (ch:=[z,TI,TO,i1,i2]) (λc hc=>?_) (λc o _ _ hc e _=>keep c o hc e) (λc o _ _ hc e _=>⟨o.slots,keep c o hc e⟩) (λc o _ e n=>n) (λc o hc e=>⟨o,keep c o hc e⟩)
   (λc zs e=>e) (λc o w' e=>e) (λc ps e=>⟨#[],by rw[e];simp⟩) (λm hm=>?_) (λc o e=>?_) I.bare
  ·obtain⟨_,f1,f2,f3,f4,f5⟩:=hf c hc;exact⟨f3,f1,f4,f5⟩
  ·obtain⟨o,es,ep,ho,r⟩:=hm;exact⟨o,es,ep,keep _ o (λq=>(hf _ q).2.1 rfl) ho,r⟩
  ·refine(I.hok c o e).stay (λd w' hd q=>keep d w' (λm=>?_) q) (λd q=>q) λd zs q=>q;have n:=(hf d m).1;rcases hd with rfl|hd
   ·rw[n]at e;cases e
   ·rw[n]at hd;cases hd
 self:=λ_ _ _ _ _ st h=>wpAny_pyIter_zip st.1 h
section
variable{X:Cx}{a b:Expr}{ta:TA}{p pos:Pos}{zk:List Expr}{x1:Nat}{tp:Pos}
def iZip(K:FrG)(b1 b2:Bool)(ta:TA):TI:=λσ H R=>ta σ H λvs H1=>∃p1 p2,vs=[.ref p1,.ref p2]/\(∃xs,SqB K b1 H1 p1 xs)/\(∃ys,SqB K b2 H1 p2 ys)/\R (Itz K b1 b2 p1 p2) H1
theorem qc5{K:FrG}(b1 b2:Bool)(hK:X.K=K)(hg:Gl X "zip")(hm:X.mg "zip"=none)(ha:PA X [a,b] ta)(he:starEach [a,b] X.env=(false,eval a X.env)::starEach [b] X.env:=by rfl)(hpl:(backTo pos (starEach [b] X.env)).any (·.1)=false:=by rfl):
 PI X (.Tuple zk x1 tp) (.Call (.Name "zip" p) [a,b] [] pos) (iZip K b1 b2 ta):=by
 subst hK;intro z5 s σ H R I h;refine xr (q4k I hg hm (u:=.type "zip") (by rfl) ?_);refine PyProof.Rows.callWith_type1 (thn (ha pos z5 s σ H _ I h) λus s1 h1=>?_) he hpl;obtain⟨vs,H1,I1,r1,p1,p2,rfl,⟨xs,q1⟩,⟨ys,q2⟩,k⟩:=h1;obtain⟨u,w',rfl,ru,rw'⟩:=vals2 r1;cases(show u=Value.ref p1 from ru);cases(show w'=Value.ref p2 from rw');obtain⟨it1,r1,t1,_⟩:=I1.seqB q1;obtain⟨it2,r2,t2,_⟩:=I1.seqB q2;have lt:∀{c:Addr} {b:Bool} {zs:Array Value},seqIs b s1.heap c zs->c<s1.heap.objs.size:=λ{c b zs} q=>by
  cases b
  ·obtain⟨o,e,_⟩:=(show s1.heap.IsTuple c zs from q);exact j9 e
  ·obtain⟨o,e,_⟩:=(show s1.heap.IsList c zs from q);exact j9 e
 refine qk1 t1 t2 λh' hz hI hO j1 j2 kk=>wpAny_pyIter_zip hz ?_;have D:=zipApart_new (lt t1) (lt t2);have I2:Inv X z5 σ H1 {s1 with heap:=h',toks:=s1.toks}:=I1.kept kk;refine⟨_,_,_,_,H1,rfl,I2,qi6 b1 b2 D,⟨hz,hI,⟨_,_,hO⟩,j1,j2⟩,λc hc=>?_,k⟩;have le:s1.heap.objs.size<=c:=by simp only[List.mem_cons,List.not_mem_nil,or_false]at hc;rcases hc with rfl|rfl|rfl|rfl|rfl<;>first|exact ja _|exact Nat.le_add_right _ _
 exact I1.fpOk le (I1.hok.fresh le)
end
section
variable{X:Cx}
theorem q77:∀(ns:List Int) (k:Nat),k<=ns.length->preSum (λi=>ns.getD i 0) k=(ns.take k).sum
 |ns,0,_=>by simp[preSum]
 | ns,k+1,h=>by
  have hk:k<ns.length:=h;rw[preSum,q77 ns k (Nat.le_of_lt hk),List.take_add_one,jd hk,List.sum_append];have e:ns.getD k 0=ns[k]:=by rw[jv,jd hk];rfl
  rw[e];simp
theorem q34:∀{ns:List Int} {us:List Value} {i:Nat} {v:Value},Vals (ns.map V.int) us->us[i]? =some v->∃t,v=.int (ns.getD i 0) t
 |[],us,i,v,r,e=>by cases r;simp at e
 | n::ns,us,0,v,r,e=>by
  cases r with
  | cons h t=>
   obtain⟨tk,q⟩:=h;simp at e;exact⟨tk,by rw[<-e,q];rfl⟩
 | n::ns,us,i+1,v,r,e=>by
  cases r with
  | cons h t=>
   obtain⟨tk,q⟩:=q34 (i:=i) t (by simpa using e);exact⟨tk,by rw[q];rfl⟩
theorem q70{K:FrG}(hK:X.K=K)(hc:X.calm=true):q57 X (.builtin "sum") (λxs H Q=>∃(p:Addr) (ns:List Int),xs=[.ref p]/\SqL K H p (ns.map V.int)/\Q (.int ns.sum) H):=by
 subst hK;intro z5 s σ H xs us Q I r h;obtain⟨p,ns,rfl,hq,q⟩:=h;obtain⟨u,rfl,ru⟩:=vals1 r;cases ru;obtain⟨its,rv,pl,hz⟩:=I.list hq;have hh:X.A.in1.handled=none:=I.ok.hd hc;have hl:=pl.isList;have hlt:p<s.heap.objs.size:=by obtain⟨_,e,_⟩:=hl;exact j9 e
 refine call_sum_walkG (wpAny_pyIter_list hl ?_);refine⟨_,_,_,_,_,_,λi=>ns.getD i 0,rfl,Walks.list hh s.heap.objs.size p (jf hlt) its.toArray,⟨⟨_,jm _ rfl,rfl,rfl⟩,hl.push _⟩,λb hb=>?_,λi v hP=>q34 rv (by simpa using hP),λh' tk t' hk=>?_⟩
 ·show b<(s.heap.push _).objs.size;rw[xg];rcases List.mem_cons.mp hb with rfl|hb
  ·exact Nat.lt_succ_self _
  ·rw[List.mem_singleton.mp hb];exact Nat.lt_succ_of_lt hlt
 ·have len:its.toArray.size=ns.length:=by have:=rv.length;simp at this;simp;omega
  refine⟨.int ns.sum,H,I.kept (t':=tk) λb o e=>hk b o (λz=>?_) (jb _ e),⟨t',?_⟩,q⟩
  ·have:=j9 e;rw[List.mem_singleton.mp z]at this;exact jy _ this
  ·rw[len,q77 ns _ (ja _),List.take_length]
end
def Exc(B:Heap)(e:Addr)(cls fl:Value)(h:Heap):Prop:=
 ∃oe vs T oT ts,h.get? e=some oe/\oe.cls=cls/\oe.dict=none/\oe.data=.fields vs/\vs[1]? =some (.ref T)/\B.get? T=none/\T≠e/\h.get? T=some oT/\oT.data=.fields ts/\ts[3]? =some fl
structure FlyD(B:Heap)(l:List Env)(e:Addr)(cls fl:Value)(h:Heap):Prop where
 st:B.StaysIn h
 new:B.get? e=none
 fr:h.FunFrames B l
 ex:Exc B e cls fl h
section
variable{M:Model}{A:Around}{E:Value->Shared->Prop}{s:Shared}{B:Heap}{env:Env}{outer l:List Env}{L e:Addr}{cls fl:Value}{Q:Unit->Shared->Prop}
theorem qvu{h:Heap}(hl:h.FunFrames B l){b:Addr}{o:Obj}{vs:Array Value}(ho:h.get? b=some o)(hd:o.data=.fields vs):b∉l.filterMap (·.frame):=λhb=>by obtain⟨_,o1,e1,d1⟩:=hl.mem hb;rw[ho]at e1;cases e1;exact d1 vs hd
end
structure Flies(P:Program)(w:World)(l:List Env)(H:Hp)(s:Shared)(cls:Value)(e:Addr)(H':Hp)(s':Shared):Prop where
 os:s'.os=s.os
 bare:AllBare s'.gens
 un:Un (frs l) [] H H' s.heap s'.heap
 hok:HOk P w H' s'.heap
 fly:∃B,FlyD B l e cls .none s'.heap/\∀b o,s'.heap.get? b=some o->b∉frs l->(H' b≠none∨∃o',s.heap.get? b=some o')->B.get? b=some o
theorem ObjOk.there{P:Program}{w:World}{H:Hp}{h:Heap}{a:Addr}{o:HO}(x:ObjOk P w H h a o):∃u,h.get? a=some u:=by
 cases o with
 |lst xs=>obtain⟨_,_,_,_,e⟩:=x;exact⟨_,e⟩
 |tup xs=>obtain⟨_,_,_,ob,e,_⟩:=x;exact⟨_,e⟩
 |dK kvs=>obtain⟨_,_,_,_,o,_,e,_⟩:=x;exact⟨_,e⟩
 |dT kvs=>obtain⟨_,_,_,_,o,_,_,e,_⟩:=x;exact⟨_,e⟩
 |set S n=>obtain⟨o,_,_,_,e,_⟩:=x;exact⟨_,e⟩
 |ins C dx fs=>obtain⟨_,_,_,e,_⟩:=x;exact⟨_,e⟩
 |own y=>exact x
 |xd fs=>obtain⟨_,⟨_,_,_,e,_⟩,_⟩:=x;exact⟨_,e⟩
 |rng lo hi=>obtain⟨_,_,_,e⟩:=x;exact⟨_,e⟩
 |frz ob u=>obtain⟨e,_⟩:=x;exact⟨_,e⟩
 |tbl ps=>exact⟨_,(show h.get? a=some _ from x)⟩
 |met f y=>exact⟨_,(show h.get? a=some _ from x)⟩
 |ext φ=>obtain⟨_,⟨_,e⟩,_⟩:=x;exact⟨_,e⟩
section
variable{X:Cx}{z5:List (Addr×Obj)}{σ:St}{H H':Hp}{s:Shared}
end
section
variable{P:Program}{w:World}{K:FrG}{mg:Str->Option Value}{base:Heap}{N:List Str}{qual:Str}{scope:Scope}{f:Addr}{cd:Value}{A:Around}{outer:List Env}{s₀:Shared}{H₀:Hp}{E:XK}
end
section
variable{X:Cx}{x:Str}{C:Addr}{bmB:List Value}{B newId initId:String}{np zm pos:Pos}{e:Expr}{es:List Expr}{t:TA}{E:XK}
end
def excO(e:Addr)(cls:Value):HO:=.ext λh=>∃oe vs,h.get? e=some oe/\oe.cls=cls/\oe.dict=none/\oe.data=.fields vs
section
variable{X:Cx}{z5:List (Addr×Obj)}{σ:St}{H H':Hp}{s s1:Shared}{e:Addr}{cls fl:Value}
theorem Flies.fresh{l:List Env}{P:Program}{w:World}(F:Flies P w l H s cls e H' s1):s.heap.get? e=none/\H' e=none:=by
 obtain⟨B,fl,cond⟩:=F.fly;obtain⟨oe,vs,T,oT,ts,he,hc,hdn,hd,_⟩:=fl.ex;have nf:=qvu fl.fr he hd;have no:¬(H' e≠none∨∃o',s.heap.get? e=some o'):=λz=>by have q:=cond e oe he nf z;rw[fl.new]at q;cases q
 constructor
 ·cases q:s.heap.get? e with
  |none=>rfl
  |some o=>exact absurd (.inr ⟨o,q⟩) no
 ·cases q:H' e with
  |none=>rfl
  |some o=>exact absurd (.inl (by rw[q];exact λz=>nomatch z)) no
end
section
variable{X:Cx}{z5:List (Addr×Obj)}{σ:St}{H H':Hp}{s s1:Shared}{e:Addr}{cls c:Value}{i:Nat}{x n:Str}{np pos hpos:Pos}{b₀:Stmt}{suite:List Stmt}{ts:TS}{D:Ends}
end
section
variable{X:Cx}{z5:List (Addr×Obj)}{σ:St}{CX:CXT}{k:Nat}{f:Addr}{fd:FuncData}{ps:List Str}{sp:Sp}{dvs:List V}{ds:List Value}{E:XK}{x:Str}{p pos zm:Pos}{e c:Expr}{es:List Expr}{t:TA}{te:TE}{tc:TT}{st:Stmt}{a b:List Stmt}{ta tb u:TS}
end
section
variable{X:Cx}{c:Value}{i:Nat}{x n:Str}{np pos hpos:Pos}{body:List Stmt}{b₀:Stmt}{suite:List Stmt}{ts:TS}{tb:XK->TS}
end
section
variable{P:Program}{w:World}{K:FrG}{mg:Str->Option Value}{base:Heap}
end
section
variable{prog:Program}{w:World}{A:Around}{E:Value->Shared->Prop}{s:Shared}{K:FrG}{e C:Addr}{oe:Obj}
end
structure ExcK(K:FrG)(C:Addr):Prop where
 cls:PySem.W.isClsIn K C=true
 ty:PySem.W.typeIn K (.ref C)=some (.type "type")
 sf:PySem.W.subIn K (.ref C) (.ref C)=some true
 ga:PySem.W.findIn K (.ref C) "__getattribute__"=some (some (.builtin "BaseException.__getattribute__"))
 gt:PySem.W.findIn K (.ref C) "__getattr__"=some none
 bs:PySem.W.subIn K (.ref C) (.type "BaseException")=some true
 ha:PySem.W.findIn K (.ref C) "__class__"=some (some (.builtin "object.__class__"))
 hn:PySem.W.specialIn K (.builtin "object.__class__") "__get__"=some (some (.builtin "getset_descriptor.__get__"))
 tk:PySem.W.takesIn K (.builtin "object.__class__")=some true
 hm:PySem.W.mroIn K C (.type "object")=some true
section
variable{X:Cx}{z5:List (Addr×Obj)}{σ:St}{H:Hp}{s:Shared}{A:Around}{E:Value->Shared->Prop}{Q:Value->Shared->Prop}{c:Value}{b:Bool}{a C:Addr}
end
inductive D where
 |non
 |bl (b:Bool)
 |int (i:Int)
 |str (x:Str)
 |lst (xs:List D)
 |tup (xs:List D)
 |obj (x:Str) (fs:List (Str×D))
 |dct (kvs:List (Key×D))
 |dit (kvs:List (List Key×D))
 |exc (x:Str)
 |fn (x:Str)
mutual
inductive Rp(K:FrG)(R:Hp):V->D->Prop
 |non:Rp K R .non .non
 |bl (b:Bool):Rp K R (.bl b) (.bl b)
 |int (i:Int):Rp K R (.int i) (.int i)
 |str (x:Str):Rp K R (.str x) (.str x)
 |lst {a:Addr} {xs:List V} {ds:List D}:SqL K R a xs->Rps K R xs ds->Rp K R (.ref a) (.lst ds)
 |tup {a:Addr} {xs:List V} {ds:List D}:R a=some (.tup xs)->Rps K R xs ds->Rp K R (.ref a) (.tup ds)
 |obj {a C dx:Addr} {x:Str} {fs:List (Str×V)} {gs:List (Str×D)}:PySem.W.nsIn K mainGlobals x=some (some (.ref C))->R a=some (.ins C dx fs)->Rfs K R fs gs->Rp K R (.ref a) (.obj x gs)
 |dct {a:Addr} {kvs:List (Key×V)} {gs:List (Key×D)}:R a=some (.dK kvs)->Rkk K R kvs gs->Rp K R (.ref a) (.dct gs)
 |dit {a:Addr} {kvs:List (List Key×V)} {gs:List (List Key×D)}:R a=some (.dT kvs)->Rkt K R kvs gs->Rp K R (.ref a) (.dit gs)
 |exc {a C:Addr} {x:Str}:PySem.W.nsIn K mainGlobals x=some (some (.ref C))->ExcK K C->R a=some (excO a (.ref C))->Rp K R (.ref a) (.exc x)
 |fn {l:Addr} {x:Str}:PySem.W.nsIn K mainGlobals x=some (some (.ref l))->Rp K R (.ref l) (.fn x)
inductive Rps(K:FrG)(R:Hp):List V->List D->Prop
 |nil:Rps K R [] []
 |cons {x:V} {xs:List V} {d:D} {ds:List D}:Rp K R x d->Rps K R xs ds->Rps K R (x::xs) (d::ds)
inductive Rfs(K:FrG)(R:Hp):List (Str×V)->List (Str×D)->Prop
 |nil:Rfs K R [] []
 |cons {f:Str} {x:V} {xs:List (Str×V)} {d:D} {ds:List (Str×D)}:Rp K R x d->Rfs K R xs ds->Rfs K R ((f,x)::xs) ((f,d)::ds)
inductive Rkk(K:FrG)(R:Hp):List (Key×V)->List (Key×D)->Prop
 |nil:Rkk K R [] []
 |cons {f:Key} {x:V} {xs:List (Key×V)} {d:D} {ds:List (Key×D)}:Rp K R x d->Rkk K R xs ds->Rkk K R ((f,x)::xs) ((f,d)::ds)
inductive Rkt(K:FrG)(R:Hp):List (List Key×V)->List (List Key×D)->Prop
 |nil:Rkt K R [] []
 |cons {f:List Key} {x:V} {xs:List (List Key×V)} {d:D} {ds:List (List Key×D)}:Rp K R x d->Rkt K R xs ds->Rkt K R ((f,x)::xs) ((f,d)::ds)
end
section
variable{K:FrG}{R:Hp}
theorem Rp.isI{x:V}{i:Int}(h:Rp K R x (.int i)):x=.int i:=by cases h;rfl
theorem Rp.isS{x:V}{i:Str}(h:Rp K R x (.str i)):x=.str i:=by cases h;rfl
theorem Rp.isB{x:V}{i:Bool}(h:Rp K R x (.bl i)):x=.bl i:=by cases h;rfl
theorem Rp.isN{x:V}(h:Rp K R x .non):x=.non:=by cases h;rfl
def qw1:D->Option V
 |.int i=>some (.int i)
 |.str i=>some (.str i)
 |.bl i=>some (.bl i)
 |.non=>some .non
 |_=>none
theorem Rp.isA{x v:V}:{d:D}->Rp K R x d->qw1 d=some v->x=v
 |.int _,h,e=>h.isI.trans (je e)
 |.str _,h,e=>h.isS.trans (je e)
 |.bl _,h,e=>h.isB.trans (je e)
 |.non,h,e=>h.isN.trans (je e)
theorem Rp.isL{x:V}{ds:List D}(h:Rp K R x (.lst ds)):∃a xs,x=.ref a/\SqL K R a xs/\Rps K R xs ds:=by
 cases h with
 |@lst a xs ds h r=>exact⟨a,xs,rfl,h,r⟩
theorem Rp.isT{x:V}{ds:List D}(h:Rp K R x (.tup ds)):∃a xs,x=.ref a/\R a=some (.tup xs)/\Rps K R xs ds:=by
 cases h with
 |@tup a xs ds h r=>exact⟨a,xs,rfl,h,r⟩
theorem Rps.isC{xs:List V}{d:D}{ds:List D}(h:Rps K R xs (d::ds)):∃x ys,xs=x::ys/\Rp K R x d/\Rps K R ys ds:=by
 cases h with
 |@cons x ys d ds h r=>exact⟨x,ys,rfl,h,r⟩
end
abbrev Rho:=List (Option D)
abbrev RhL:=Rho->Option (List D×Rho)
abbrev RhD:=Rho->Option (D×Rho)
abbrev RhB:=Rho->Option (Bool×Rho)
abbrev RhG:=D->Rho->Option Rho
theorem Same.sqL{K:FrG}{H H':Hp}{a:Addr}{xs:List V}(e:Same H H')(h:SqL K H a xs):SqL K H' a xs:=by
 rcases h with(h|⟨o,h⟩)|h
 ·exact .inl (.inl (e _ _ h))
 ·exact .inl (.inr ⟨o,e _ _ h⟩)
 ·exact .inr h
section
variable{K:FrG}{R R':Hp}
theorem Rp.mono(s:Same R R'){v:V}{d:D}(h:Rp K R v d):Rp K R' v d:=
 Rp.rec (motive_1:=λv d _=>Rp K R' v d) (motive_2:=λxs ds _=>Rps K R' xs ds) (motive_3:=λxs ds _=>Rfs K R' xs ds) (motive_4:=λxs ds _=>Rkk K R' xs ds) (motive_5:=λxs ds _=>Rkt K R' xs ds)
  .non .bl .int .str (λh _ r=>.lst (s.sqL h) r) (λh _ r=>.tup (s _ _ h) r) (λn h _ r=>.obj n (s _ _ h) r) (λh _ r=>.dct (s _ _ h) r) (λh _ r=>.dit (s _ _ h) r) (λn k h=>.exc n k (s _ _ h)) (λn=>.fn n)
  .nil (λ_ _ h r=>.cons h r) .nil (λ_ _ h r=>.cons h r) .nil (λ_ _ h r=>.cons h r) .nil (λ_ _ h r=>.cons h r) h
theorem Rps.mono(s:Same R R'){xs:List V}{ds:List D}(h:Rps K R xs ds):Rps K R' xs ds:=
 Rps.rec (motive_1:=λv d _=>Rp K R' v d) (motive_2:=λxs ds _=>Rps K R' xs ds) (motive_3:=λxs ds _=>Rfs K R' xs ds) (motive_4:=λxs ds _=>Rkk K R' xs ds) (motive_5:=λxs ds _=>Rkt K R' xs ds)
  .non .bl .int .str (λh _ r=>.lst (s.sqL h) r) (λh _ r=>.tup (s _ _ h) r) (λn h _ r=>.obj n (s _ _ h) r) (λh _ r=>.dct (s _ _ h) r) (λh _ r=>.dit (s _ _ h) r) (λn k h=>.exc n k (s _ _ h)) (λn=>.fn n)
  .nil (λ_ _ h r=>.cons h r) .nil (λ_ _ h r=>.cons h r) .nil (λ_ _ h r=>.cons h r) .nil (λ_ _ h r=>.cons h r) h
theorem Rfs.mono(s:Same R R'){xs:List (Str×V)}{ds:List (Str×D)}(h:Rfs K R xs ds):Rfs K R' xs ds:=
 Rfs.rec (motive_1:=λv d _=>Rp K R' v d) (motive_2:=λxs ds _=>Rps K R' xs ds) (motive_3:=λxs ds _=>Rfs K R' xs ds) (motive_4:=λxs ds _=>Rkk K R' xs ds) (motive_5:=λxs ds _=>Rkt K R' xs ds)
  .non .bl .int .str (λh _ r=>.lst (s.sqL h) r) (λh _ r=>.tup (s _ _ h) r) (λn h _ r=>.obj n (s _ _ h) r) (λh _ r=>.dct (s _ _ h) r) (λh _ r=>.dit (s _ _ h) r) (λn k h=>.exc n k (s _ _ h)) (λn=>.fn n)
  .nil (λ_ _ h r=>.cons h r) .nil (λ_ _ h r=>.cons h r) .nil (λ_ _ h r=>.cons h r) .nil (λ_ _ h r=>.cons h r) h
theorem Rkk.mono(s:Same R R'){xs:List (Key×V)}{ds:List (Key×D)}(h:Rkk K R xs ds):Rkk K R' xs ds:=
 Rkk.rec (motive_1:=λv d _=>Rp K R' v d) (motive_2:=λxs ds _=>Rps K R' xs ds) (motive_3:=λxs ds _=>Rfs K R' xs ds) (motive_4:=λxs ds _=>Rkk K R' xs ds) (motive_5:=λxs ds _=>Rkt K R' xs ds)
  .non .bl .int .str (λh _ r=>.lst (s.sqL h) r) (λh _ r=>.tup (s _ _ h) r) (λn h _ r=>.obj n (s _ _ h) r) (λh _ r=>.dct (s _ _ h) r) (λh _ r=>.dit (s _ _ h) r) (λn k h=>.exc n k (s _ _ h)) (λn=>.fn n)
  .nil (λ_ _ h r=>.cons h r) .nil (λ_ _ h r=>.cons h r) .nil (λ_ _ h r=>.cons h r) .nil (λ_ _ h r=>.cons h r) h
theorem Rkt.mono(s:Same R R'){xs:List (List Key×V)}{ds:List (List Key×D)}(h:Rkt K R xs ds):Rkt K R' xs ds:=
 Rkt.rec (motive_1:=λv d _=>Rp K R' v d) (motive_2:=λxs ds _=>Rps K R' xs ds) (motive_3:=λxs ds _=>Rfs K R' xs ds) (motive_4:=λxs ds _=>Rkk K R' xs ds) (motive_5:=λxs ds _=>Rkt K R' xs ds)
  .non .bl .int .str (λh _ r=>.lst (s.sqL h) r) (λh _ r=>.tup (s _ _ h) r) (λn h _ r=>.obj n (s _ _ h) r) (λh _ r=>.dct (s _ _ h) r) (λh _ r=>.dit (s _ _ h) r) (λn k h=>.exc n k (s _ _ h)) (λn=>.fn n)
  .nil (λ_ _ h r=>.cons h r) .nil (λ_ _ h r=>.cons h r) .nil (λ_ _ h r=>.cons h r) .nil (λ_ _ h r=>.cons h r) h
theorem Rps.length:∀{xs:List V} {ds:List D},Rps K R xs ds->xs.length=ds.length
 |_,_,.nil=>rfl
 |_,_,.cons _ r=>by rw[jq,jq,Rps.length r]
theorem Rps.get:∀{xs:List V} {ds:List D} {i:Nat} {d:D},Rps K R xs ds->ds[i]? =some d->∃v,xs[i]? =some v/\Rp K R v d
 |_,_,_,_,.nil,e=>by simp at e
 |_,_,0,_,.cons h _,e=>by simp at e;subst e;exact⟨_,rfl,h⟩
 | _,_,i+1,d,.cons _ r,e=>by obtain⟨v,h1,h2⟩:=Rps.get (i:=i) (d:=d) r (by simpa using e);exact⟨v,by simpa using h1,h2⟩
theorem Rps.get':∀{xs:List V} {ds:List D} {i:Nat} {v:V},Rps K R xs ds->xs[i]? =some v->∃d,ds[i]? =some d/\Rp K R v d
 |_,_,_,_,.nil,e=>by simp at e
 |_,_,0,_,.cons h _,e=>by simp at e;subst e;exact⟨_,rfl,h⟩
 | _,_,i+1,v,.cons _ r,e=>by obtain⟨d,h1,h2⟩:=Rps.get' (i:=i) (v:=v) r (by simpa using e);exact⟨d,by simpa using h1,h2⟩
theorem Rps.append:∀{xs ys:List V} {ds es:List D},Rps K R xs ds->Rps K R ys es->Rps K R (xs++ys) (ds++es)
 |_,_,_,_,.nil,s=>s
 |_,_,_,_,.cons r t,s=>.cons r (Rps.append t s)
theorem Rps.take:∀{xs:List V} {ds:List D} (n:Nat),Rps K R xs ds->Rps K R (xs.take n) (ds.take n)
 |_,_,0,_=>.nil
 |_,_,_+1,.nil=>.nil
 |_,_,n+1,.cons r t=>.cons r (Rps.take n t)
theorem Rps.drop:∀{xs:List V} {ds:List D} (n:Nat),Rps K R xs ds->Rps K R (xs.drop n) (ds.drop n)
 |_,_,0,r=>r
 |_,_,_+1,.nil=>.nil
 |_,_,n+1,.cons _ t=>Rps.drop n t
theorem Rps.set{x:V}{d:D}(r:Rp K R x d):∀{xs:List V} {ds:List D} (i:Nat),Rps K R xs ds->Rps K R (xs.set i x) (ds.set i d)
 |_,_,_,.nil=>.nil
 |_,_,0,.cons _ t=>.cons r t
 |_,_,i+1,.cons q t=>.cons q (Rps.set r i t)
theorem Rps.one{x:V}{d:D}(r:Rp K R x d):Rps K R [x] [d]:=.cons r .nil
theorem Rps.ints:∀ns:List Int,Rps K R (ns.map V.int) (ns.map D.int)
 |[]=>.nil
 |n::ns=>.cons (.int n) (Rps.ints ns)
theorem Rps.snoc{xs:List V}{ds:List D}{x:V}{d:D}(h:Rps K R xs ds)(r:Rp K R x d):Rps K R (xs++[x]) (ds++[d]):=h.append (.one r)
end
inductive Sc:V->D->Prop
 |non:Sc .non .non
 |bl (b:Bool):Sc (.bl b) (.bl b)
 |int (i:Int):Sc (.int i) (.int i)
 |str (x:Str):Sc (.str x) (.str x)
theorem Sc.rp{K:FrG}{R:Hp}{v:V}{d:D}(h:Sc v d):Rp K R v d:=by
 cases h with
 |non=>exact .non
 |bl b=>exact .bl b
 |int i=>exact .int i
 |str x=>exact .str x
def Frh(H:Hp)(a:Addr):Prop:=H a=none∨∃xs,H a=some (.tup xs)
def Liv(H H':Hp)(a:Addr):Prop:=H' a≠none/\∀xs,H' a=some (.tup xs)->H a=some (.tup xs)
theorem Liv.refl{H:Hp}{a:Addr}(h:H a≠none):Liv H H a:=⟨h,λ_ e=>e⟩
theorem Liv.trans{H H1 H2:Hp}{a:Addr}(x:Liv H H1 a)(y:Liv H1 H2 a):Liv H H2 a:=⟨y.1,λxs e=>x.2 xs (y.2 xs e)⟩
theorem Frh.back{H H1:Hp}{a:Addr}(h:H a≠none->Liv H H1 a)(z:Frh H1 a):Frh H a:=by
 cases q:H a with
 |none=>exact .inl q
 | some o=>
  have v:=h (by rw[q];exact λz=>nomatch z);rcases z with z|⟨xs,z⟩
  ·exact absurd z v.1
  ·exact .inr ⟨xs,v.2 xs z⟩
structure Ext(H R H' R':Hp):Prop where
 h:Same H H'
 r:Same R R'
 s:∀a o,R' a=some o->H' a=some o
 n:∀a,R' a≠none->R a≠none∨Frh H a
theorem Ext.refl{H R:Hp}(s:∀a o,R a=some o->H a=some o):Ext H R H R:=⟨Same.refl _,Same.refl _,s,λ_ h=>.inl h⟩
theorem Same.some{H H':Hp}(s:Same H H'){a:Addr}(h:H a≠none):H' a≠none:=by
 cases q:H a with
 |none=>exact absurd q h
 |some o=>rw[s a o q];exact λz=>nomatch z
theorem Same.liv{H H':Hp}(s:Same H H'){a:Addr}(h:H a≠none):Liv H H' a:=⟨s.some h,λxs e=>by
 cases q:H a with
 |none=>exact absurd q h
 |some o=>rw[s a o q]at e;exact e⟩
theorem Ext.trans{H R H1 R1 H2 R2:Hp}(x:Ext H R H1 R1)(y:Ext H1 R1 H2 R2):Ext H R H2 R2:=by
 refine⟨x.h.trans y.h,x.r.trans y.r,y.s,λa h=>?_⟩;rcases y.n a h with z|z
 ·exact x.n a z
 ·exact .inr (z.back x.h.liv)
theorem Ext.new{H R:Hp}{a:Addr}{o:HO}(s:∀a o,R a=some o->H a=some o)(h:H a=none):Ext H R (upd H a o) (upd R a o):=by
 have hr:R a=none:=by
  cases q:R a with
  |none=>rfl
  |some u=>rw[s a u q]at h;cases h
 refine⟨Same.new h,Same.new hr,λb u e=>?_,λb e=>?_⟩
 ·by_cases hb:b=a
  ·subst hb;rw[q0y]at e ⊢;exact e
  ·rw[q0v hb]at e ⊢;exact s b u e
 ·by_cases hb:b=a
  ·subst hb;exact .inr (.inl h)
  ·rw[q0v hb]at e;exact .inl e
theorem Ext.hid{H R:Hp}{a:Addr}{o:HO}(s:∀a o,R a=some o->H a=some o)(h:H a=none):Ext H R (upd H a o) R:=
 ⟨Same.new h,Same.refl _,λb u e=>Same.new h _ _ (s b u e),λ_ e=>.inl e⟩
structure Anc where
 H0:Hp
 R0:Hp
 L:Addr->Prop
 P:List Nat
inductive Ob(K:FrG)(R:Hp):HO->D->Prop
 |lst {vs:List V} {ds:List D}:Rps K R vs ds->Ob K R (.lst vs) (.lst ds)
 |dct {kvs:List (Key×V)} {gs:List (Key×D)}:Rkk K R kvs gs->Ob K R (.dK kvs) (.dct gs)
 |dit {kvs:List (List Key×V)} {gs:List (List Key×D)}:Rkt K R kvs gs->Ob K R (.dT kvs) (.dit gs)
theorem Ob.isL{K:FrG}{R:Hp}{o:HO}{ds:List D}(h:Ob K R o (.lst ds)):∃vs,o=.lst vs/\Rps K R vs ds:=by
 cases h with
 |lst r=>exact⟨_,rfl,r⟩
theorem Ob.mono{K:FrG}{R R':Hp}{o:HO}{d:D}(s:Same R R')(h:Ob K R o d):Ob K R' o d:=by
 cases h with
 |lst r=>exact .lst (r.mono s)
 |dct r=>exact .dct (r.mono s)
 |dit r=>exact .dit (r.mono s)
theorem Ob.noF{K:FrG}{H R:Hp}{o:HO}{d:D}{l:Addr}(h:Ob K R o d)(e:H l=some o)(z:Frh H l):False:=by
 rcases z with z|⟨xs,z⟩
 ·rw[e]at z;cases z
 ·rw[e]at z;cases z;cases h
theorem Ob.rp{K:FrG}{R:Hp}{o:HO}{d:D}{l:Addr}(h:Ob K R o d)(e:R l=some o):Rp K R (.ref l) d:=by
 cases h with
 |lst r=>exact .lst (SqL.of e) r
 |dct r=>exact .dct e r
 |dit r=>exact .dit e r
structure StR(K:FrG)(Z:Anc)(O:List Nat)(σ:St)(H R:Hp)(ρ:Rho):Prop where
 sub:∀a o,R a=some o->H a=some o
 len:σ.length=ρ.length
 env:∀i d,i∉O->ρ[i]? =some (some d)->∃v,σ[i]? =some (some v)/\Rp K R v d
 own:∀i,i∈O->∃l vs ds,ρ[i]? =some (some ds)/\σ[i]? =some (some (.ref l))/\H l=some vs/\R l=none/\Ob K R vs ds
 dis:∀i j,i∈O->j∈O->i≠j->∀l,σ[i]? =some (some (.ref l))->σ[j]? ≠some (some (.ref l))
 ah:∀a o,Z.H0 a=some o->¬Z.L a->H a=some o
 ar:Same Z.R0 R
 an:∀a,R a≠none->Z.R0 a≠none∨Frh Z.H0 a
 ad:∀a,Z.H0 a≠none->Liv Z.H0 H a
 ao:∀i,i∈O->i∉Z.P->∀l,σ[i]? =some (some (.ref l))->Z.H0 l=none
 ap:∀i,i∈O->i∈Z.P->∀l,σ[i]? =some (some (.ref l))->Z.L l
structure Stp(O:List Nat)(σ:St)(H R H' R':Hp):Prop where
 r:Same R R'
 h:∀a o,H a=some o->(∀i,i∈O->σ[i]? ≠some (some (.ref a)))->H' a=some o
 n:∀a,R' a≠none->R a≠none∨Frh H a
 d:∀a,H a≠none->Liv H H' a
theorem Stp.refl(O:List Nat)(σ:St)(H R:Hp):Stp O σ H R H R:=⟨Same.refl _,λ_ _ e _=>e,λ_ h=>.inl h,λ_ h=>.refl h⟩
theorem Stp.trans{O:List Nat}{σ:St}{H R H1 R1 H2 R2:Hp}(x:Stp O σ H R H1 R1)(y:Stp O σ H1 R1 H2 R2):Stp O σ H R H2 R2:=by
 refine⟨x.r.trans y.r,λa o e n=>y.h a o (x.h a o e n) n,λa h=>?_,λa h=>(x.d a h).trans (y.d a (x.d a h).1)⟩;rcases y.n a h with z|z
 ·exact x.n a z
 ·exact .inr (z.back (x.d a))
theorem Ext.stp{O:List Nat}{σ:St}{H R H' R':Hp}(x:Ext H R H' R'):Stp O σ H R H' R':=⟨x.r,λa o e _=>x.h a o e,x.n,λ_ h=>x.h.liv h⟩
section
variable{K:FrG}{Z:Anc}{O O':List Nat}{σ σ':St}{H R H' R':Hp}{ρ ρ':Rho}
theorem StR.ext(S:StR K Z O σ H R ρ)(x:Ext H R H' R'):StR K Z O σ H' R' ρ:=by
 refine⟨x.s,S.len,λi d hi e=>?_,λi hi=>?_,S.dis,λa o e n=>x.h a o (S.ah a o e n),S.ar.trans x.r,λa h=>?_,λa h=>(S.ad a h).trans (x.h.liv (S.ad a h).1),S.ao,S.ap⟩
 ·obtain⟨v,h1,h2⟩:=S.env i d hi e;exact⟨v,h1,h2.mono x.r⟩
 ·obtain⟨l,vs,ds,h1,h2,h3,h4,h5⟩:=S.own i hi;refine⟨l,vs,ds,h1,h2,x.h _ _ h3,?_,h5.mono x.r⟩;cases q:R' l with
  |none=>rfl
  | some o=>
   rcases x.n l (by rw[q];exact λz=>nomatch z)with z|z
   ·exact absurd h4 z
   ·exact(h5.noF h3 z).elim
 ·rcases x.n a h with z|z
  ·exact S.an a z
  ·exact .inr (z.back (S.ad a))
noncomputable def frzR(O O':List Nat)(σ:St)(H R:Hp):Hp:=λa=>open Classical in if∃i,i∈O/\i∉O'/\σ[i]? =some (some (.ref a))then H a else R a
theorem StR.freeze(S:StR K Z O σ H R ρ)(hs:∀i,i∈O'->i∈O)(hp:∀i,i∈Z.P->i∈O->i∈O'):StR K Z O' σ H (frzR O O' σ H R) ρ/\Same R (frzR O O' σ H R):=by
 have same:Same R (frzR O O' σ H R):=λa o e=>by
  unfold frzR;split
  ·exact S.sub a o e
  ·exact e
 refine⟨⟨λa o e=>?_,S.len,λi d hi e=>?_,λi hi=>?_,λi j hi hj=>S.dis i j (hs i hi) (hs j hj),S.ah,S.ar.trans same,λa h=>?_,S.ad,λi hi=>S.ao i (hs i hi),λi hi=>S.ap i (hs i hi)⟩,same⟩
 ·unfold frzR at e;split at e
  ·exact e
  ·exact S.sub a o e
 ·by_cases hO:i∈O
  ·obtain⟨l,vs,ds,h1,h2,h3,h4,h5⟩:=S.own i hO;rw[e]at h1;have ed:d=ds:=je (je h1);subst ed;refine⟨.ref l,h2,(h5.mono same).rp ?_⟩;unfold frzR;rw[if_pos ⟨i,hO,hi,h2⟩];exact h3
  ·obtain⟨v,h1,h2⟩:=S.env i d hO e;exact⟨v,h1,h2.mono same⟩
 ·obtain⟨l,vs,ds,h1,h2,h3,h4,h5⟩:=S.own i (hs i hi);refine⟨l,vs,ds,h1,h2,h3,?_,h5.mono same⟩;unfold frzR;rw[if_neg ?_]
  ·exact h4
  ·rintro⟨j,hj,hj',e⟩;exact S.dis j i hj (hs i hi) (λz=>hj' (z▸hi)) l e h2
 ·unfold frzR at h;split at h
  ·rename_i z;obtain⟨j,hj,hj',e⟩:=z;exact .inr (.inl (S.ao j hj (λz=>hj' (hp j z hj)) a e))
  ·exact S.an a h
theorem StR.set(S:StR K Z O σ H R ρ){i:Nat}{v:V}{d:D}(hi:i∉O)(r:Rp K R v d):StR K Z O (σ.set i (some v)) H R (ρ.set i (some d)):=by
 have ne:∀j,j∈O->i≠j:=λj hj z=>hi (z▸hj);refine⟨S.sub,by rw[x9,x9];exact S.len,λj e hj q=>?_,λj hj=>?_,λj k hj hk n l e=>?_,S.ah,S.ar,S.an,S.ad,λj hj hp l e=>?_,λj hj hp l e=>?_⟩
 ·by_cases hij:i=j
  ·subst hij;have hl:i<ρ.length:=by
    have:=(List.getElem?_eq_some_iff.mp q).1
    rwa [x9]at this
   rw[xf hl]at q;have e':d=e:=je (je q);subst e';exact⟨v,by rw[xf (by rw[S.len];exact hl)],r⟩
  ·rw[jl hij]at q;obtain⟨w,h1,h2⟩:=S.env j e hj q;exact⟨w,by rw[jl hij];exact h1,h2⟩
 ·obtain⟨l,vs,ds,h1,h2,h3,h4,h5⟩:=S.own j hj;exact⟨l,vs,ds,by rw[jl (ne j hj)];exact h1,by rw[jl (ne j hj)];exact h2,h3,h4,h5⟩
 ·rw[jl (ne j hj)]at e;rw[jl (ne k hk)];exact S.dis j k hj hk n l e
 ·rw[jl (ne j hj)]at e;exact S.ao j hj hp l e
 ·rw[jl (ne j hj)]at e;exact S.ap j hj hp l e
theorem StR.write(S:StR K Z O σ H R ρ){i:Nat}{l:Addr}{vs:HO}{ds:D}(hi:i∈O)(hl:σ[i]? =some (some (.ref l)))(r:Ob K R vs ds):StR K Z O σ (upd H l vs) R (ρ.set i (some ds)):=by
 obtain⟨l0,vs0,ds0,h1,h2,h3,h4,h5⟩:=S.own i hi;rw[hl]at h2;cases h2;have other:∀j,j∈O->i≠j->∀k,σ[j]? =some (some (.ref k))->k≠l:=λj hj n k e z=>by subst z;exact S.dis i j hi hj n k hl e
 refine⟨λa o e=>?_,by rw[x9];exact S.len,λj d hj q=>?_,λj hj=>?_,S.dis,λa o e n=>?_,S.ar,S.an,λa h=>?_,S.ao,S.ap⟩
 ·have ne:a≠l:=λz=>by subst z;rw[h4]at e;cases e
  rw[q0v ne];exact S.sub a o e
 ·have n:i≠j:=λz=>hj (z▸hi);rw[jl n]at q;exact S.env j d hj q
 ·by_cases n:i=j
  ·subst n;have zc:i<ρ.length:=(List.getElem?_eq_some_iff.mp h1).1;exact⟨l,vs,ds,by rw[xf zc],hl,q0y,h4,r⟩
  ·obtain⟨k,vs',ds',g1,g2,g3,g4,g5⟩:=S.own j hj;exact⟨k,vs',ds',by rw[jl n];exact g1,g2,by rw[q0v (other j hj n k g2)];exact g3,g4,g5⟩
 ·have ne:a≠l:=λz=>by
   subst z;by_cases hp:i∈Z.P
   ·exact n (S.ap i hi hp a hl)
   ·rw[S.ao i hi hp a hl]at e;cases e
  rw[q0v ne];exact S.ah a o e n
 ·by_cases ha:a=l
  ·subst ha;exact⟨by rw[q0y];exact(λz=>(nomatch z)),λxs e=>by rw[q0y]at e;cases e;cases r⟩
  ·exact⟨by rw[q0v ha];exact(S.ad a h).1,λxs e=>by rw[q0v ha]at e;exact(S.ad a h).2 xs e⟩
theorem StR.take(S:StR K Z O σ H R ρ){i:Nat}{l:Addr}{vs:HO}{ds:D}(hi:i∉O)(hin:i∈O')(hO:∀j,j∈O'->j=i∨j∈O)(hp:i∉Z.P)(zc:i<ρ.length)(h0:Z.H0 l=none)(hH:H l=some vs)(hR:R l=none)(hn:∀j,j∈O->σ[j]? ≠some (some (.ref l)))(hs:∀j,j∈O->j∈O')(r:Ob K R vs ds):
 StR K Z O' (σ.set i (some (.ref l))) H R (ρ.set i (some ds)):=by
 have ne:∀j,j∈O->i≠j:=λj hj z=>hi (z▸hj);have hl:i<σ.length:=by rw[S.len];exact zc
 refine⟨S.sub,by rw[x9,x9];exact S.len,λj e hj q=>?_,λj hj=>?_,λj k hj hk n m e=>?_,S.ah,S.ar,S.an,S.ad,λj hj hp l e=>?_,λj hj hp' l e=>?_⟩
 ·by_cases hij:i=j
  ·subst hij;rw[xf zc]at q;have e':ds=e:=je (je q);subst e';exact absurd hin hj
  ·rw[jl hij]at q;obtain⟨w,h1,h2⟩:=S.env j e (λz=>hj (hs j z)) q;exact⟨w,by rw[jl hij];exact h1,h2⟩
 ·rcases hO j hj with rfl|hj'
  ·exact⟨l,vs,ds,by rw[xf zc],by rw[xf hl],hH,hR,r⟩
  ·obtain⟨k,vs',ds',g1,g2,g3,g4,g5⟩:=S.own j hj';exact⟨k,vs',ds',by rw[jl (ne j hj')];exact g1,by rw[jl (ne j hj')];exact g2,g3,g4,g5⟩
 ·rcases hO j hj with rfl|hj'
  ·rw[xf hl]at e;cases e;rcases hO k hk with rfl|hk'
   ·exact absurd rfl n
   ·rw[jl (ne k hk')];exact hn k hk'
  ·rw[jl (ne j hj')]at e;rcases hO k hk with rfl|hk'
   ·rw[xf hl];intro z;cases z;exact hn j hj' e
   ·rw[jl (ne k hk')];exact S.dis j k hj' hk' n m e
 ·rcases hO j hj with rfl|hj'
  ·rw[xf hl]at e;cases e;exact h0
  ·rw[jl (ne j hj')]at e;exact S.ao j hj' hp l e
 ·rcases hO j hj with rfl|hj'
  ·exact absurd hp' hp
  ·rw[jl (ne j hj')]at e;exact S.ap j hj' hp' l e
end
def q1u{α β:Type}(a:Rho->Option (α×Rho))(k:α->Rho->Option (β×Rho)):Rho->Option (β×Rho):=λρ=>match a ρ with
 |none=>none
 |some (x,ρ1)=>k x ρ1
def mRet{α:Type}(x:α):Rho->Option (α×Rho):=λρ=>some (x,ρ)
def q2v{α:Type}(o:Option α):Rho->Option (α×Rho):=λρ=>match o with
 |none=>none
 |some x=>some (x,ρ)
theorem q0c{α β:Type}{a:Rho->Option (α×Rho)}{k:α->Rho->Option (β×Rho)}{ρ:Rho}{r:β×Rho}(h:q1u a k ρ=some r):∃x ρ1,a ρ=some (x,ρ1)/\k x ρ1=some r:=by
 unfold q1u at h;cases e:a ρ with
 |none=>rw[e]at h;cases h
 |some p=>rw[e]at h;exact⟨p.1,p.2,rfl,h⟩
theorem q0l{α:Type}{o:Option α}{ρ:Rho}{x:α}{ρ':Rho}(h:q2v o ρ=some (x,ρ')):o=some x/\ρ'=ρ:=by
 unfold q2v at h;cases o with
 |none=>cases h
 |some y=>cases h;exact⟨rfl,rfl⟩
def mVar(i:Nat):RhD:=λρ=>match ρ[i]? with
 |some (some d)=>some (d,ρ)
 |_=>none
theorem q7o{i:Nat}{ρ ρ':Rho}{d:D}(h:mVar i ρ=some (d,ρ')):ρ[i]? =some (some d)/\ρ'=ρ:=by
 unfold mVar at h;cases e:ρ[i]? with
 |none=>rw[e]at h;cases h
 | some o=>
  rw[e]at h;cases o with
  |none=>cases h
  |some y=>cases h;exact⟨rfl,rfl⟩
section
variable(K:FrG)(O:List Nat)
def ME(t:TE)(f:RhD):Prop:=∀(Z:Anc) (σ:St) (H R:Hp) (ρ:Rho) (d:D) (ρ':Rho) (Q:VK),StR K Z O σ H R ρ->f ρ=some (d,ρ')->(∀v H' R',StR K Z O σ H' R' ρ'->Stp O σ H R H' R'->Rp K R' v d->Q v H')->t σ H Q
def MB(t:TE)(f:RhD):Prop:=∀(Z:Anc) (σ:St) (H R:Hp) (ρ:Rho) (d:D) (ρ':Rho) (Q:VK),StR K Z O σ H R ρ->f ρ=some (d,ρ')->(∀v H' R',StR K Z O σ H' R' ρ'->Stp O σ H R H' R'->Rp K H' v d->Q v H')->t σ H Q
def MT(t:TT)(f:RhB):Prop:=∀(Z:Anc) (σ:St) (H R:Hp) (ρ:Rho) (b:Bool) (ρ':Rho) (Q:Bool->Hp->Prop),StR K Z O σ H R ρ->f ρ=some (b,ρ')->(∀H' R',StR K Z O σ H' R' ρ'->Stp O σ H R H' R'->Q b H')->t σ H Q
def MA(t:TA)(f:RhL):Prop:=∀(Z:Anc) (σ:St) (H R:Hp) (ρ:Rho) (ds:List D) (ρ':Rho) (Q:List V->Hp->Prop),StR K Z O σ H R ρ->f ρ=some (ds,ρ')->(∀vs H' R',StR K Z O σ H' R' ρ'->Stp O σ H R H' R'->Rps K R' vs ds->Q vs H')->t σ H Q
def MN(t:TE)(f:RhL):Prop:=∀(Z:Anc) (σ:St) (H R:Hp) (ρ:Rho) (ds:List D) (ρ':Rho) (Q:VK),StR K Z O σ H R ρ->f ρ=some (ds,ρ')->(∀l vs H' R',StR K Z O σ H' R' ρ'->Stp O σ H R H' R'->H l=none->H' l=some (.lst vs)->R' l=none->Rps K R' vs ds->Q (.ref l) H')->t σ H Q
end
section
variable{K:FrG}{Z:Anc}{O:List Nat}{t ta tb tc:TE}{tA tB':TT}{tr:TA}
theorem StR.same{σ:St}{H R:Hp}{ρ:Rho}(S:StR K Z O σ H R ρ):Same R H:=S.sub
theorem ME.mb{f:RhD}(h:ME K O t f):MB K O t f:=λZ σ H R ρ d ρ' Q S e k=>h Z σ H R ρ d ρ' Q S e λv H' R' S' st r=>k v H' R' S' st (r.mono S'.same)
theorem StR.notnew{σ:St}{H R:Hp}{ρ:Rho}(S:StR K Z O σ H R ρ){l:Addr}(h:H l=none):∀j,j∈O->σ[j]? ≠some (some (.ref l)):=λj hj e=>by
 obtain⟨k,vs,ds,_,h2,h3,_⟩:=S.own j hj;rw[e]at h2
 (first|obtain rfl:=h2.isA rfl|cases h2)
 rw[h]at h3
 (first|obtain rfl:=h3.isA rfl|cases h3)
theorem StR.know{σ:St}{H R:Hp}{ρ:Rho}{l:Addr}{vs:HO}(S:StR K Z O σ H R ρ)(h0:Z.H0 l=none)(hH:H l=some vs)(hR:R l=none)(hn:∀j,j∈O->σ[j]? ≠some (some (.ref l))):StR K Z O σ H (upd R l vs) ρ:=by
 have same:Same R (upd R l vs):=Same.new hR;refine⟨λa o e=>?_,S.len,λi d hi e=>?_,λi hi=>?_,S.dis,S.ah,S.ar.trans same,λa h=>?_,S.ad,S.ao,S.ap⟩
 ·by_cases ha:a=l
  ·subst ha;rw[q0y]at e;rw[hH,e]
  ·rw[q0v ha]at e;exact S.sub a o e
 ·obtain⟨v,h1,h2⟩:=S.env i d hi e;exact⟨v,h1,h2.mono same⟩
 ·obtain⟨k,ws,ds,h1,h2,h3,h4,h5⟩:=S.own i hi;refine⟨k,ws,ds,h1,h2,h3,?_,h5.mono same⟩;rw[q0v (λz=>hn i hi (by rw[<-z];exact h2))];exact h4
 ·by_cases ha:a=l
  ·subst ha;exact .inr (.inl h0)
  ·rw[q0v ha]at h;exact S.an a h
theorem StR.new0{σ:St}{H R:Hp}{ρ:Rho}{l:Addr}(S:StR K Z O σ H R ρ)(h:H l=none):Z.H0 l=none:=by
 cases q:Z.H0 l with
 |none=>rfl
 |some o=>exact absurd h (S.ad l (by rw[q];exact λz=>nomatch z)).1
theorem Stp.know{σ:St}{H R H' R':Hp}{l:Addr}{o:HO}(x:Stp O σ H R H' R')(h:H l=none)(hr:R' l=none):Stp O σ H R H' (upd R' l o):=by
 refine⟨x.r.trans (Same.new hr),x.h,λb e=>?_,x.d⟩;by_cases hb:b=l
 ·subst hb;exact .inr (.inl h)
 ·rw[q0v hb]at e;exact x.n b e
theorem MN.me{f:RhL}(h:MN K O t f):ME K O t (q1u f λds=>mRet (.lst ds)):=λZ σ H R ρ d ρ' Q S e k=>by obtain⟨ds,ρ1,e1,e2⟩:=q0c e;cases e2;refine h Z σ H R ρ ds _ Q S e1 λl vs H' R' S' st h0 hH hR r=>?_;refine k _ H' (upd R' l (.lst vs)) (S'.know (S.new0 h0) hH hR ?_) (st.know h0 hR) (.lst (SqL.of q0y) (r.mono (Same.new hR)));exact S.notnew h0
theorem q02{i:Nat}(hi:i∉O:=by decide):ME K O (tVar i) (mVar i):=λZ σ H R ρ d ρ' Q S e k=>by obtain⟨e1,rfl⟩:=q7o e;obtain⟨v,h1,h2⟩:=S.env i d hi e1;exact⟨v,h1,k v H R S (Stp.refl _ _ _ _) h2⟩
theorem q26{i:Nat}:MB K O (tVar i) (mVar i):=λZ σ H R ρ d ρ' Q S e k=>by
 obtain⟨e1,rfl⟩:=q7o e;by_cases hi:i∈O
 ·obtain⟨l,vs,ds,h1,h2,h3,h4,h5⟩:=S.own i hi;rw[e1]at h1
  (first|obtain rfl:=h1.isA rfl|cases h1)
  exact⟨.ref l,h2,k _ H R S (Stp.refl _ _ _ _) ((h5.mono S.same).rp h3)⟩
 ·obtain⟨v,h1,h2⟩:=S.env i d hi e1;exact⟨v,h1,k v H R S (Stp.refl _ _ _ _) (h2.mono S.same)⟩
theorem me_c{v:V}{d:D}(h:Sc v d):ME K O (tC v) (mRet d):=λZ σ H R ρ e ρ' Q S q k=>by
 (first|obtain rfl:=q.isA rfl|cases q)
 exact k v H R S (Stp.refl _ _ _ _) h.rp
theorem me_int{i:Int}:ME K O (tC (.int i)) (mRet (.int i)):=me_c (.int i)
theorem me_str{x:Str}:ME K O (tC (.str x)) (mRet (.str x)):=me_c (.str x)
theorem q55{b:Bool}:ME K O (tC (.bl b)) (mRet (.bl b)):=me_c (.bl b)
theorem me_non:ME K O (tC .non) (mRet .non):=me_c .non
def mOp2(g:D->D->Option D)(fa fb:RhD):RhD:=q1u fa λx=>q1u fb λy=>q2v (g x y)
def OpS(K:FrG)(r:R2)(g:D->D->Option D):Prop:=∀(H:Hp) (x y:V) (d e u:D) (Q:VK),Rp K H x d->Rp K H y e->g d e=some u->(∀v,Sc v u->Q v H)->r x y H Q
def OpG(K:FrG)(r:R2)(g:D->D->Option D):Prop:=∀(H R:Hp) (x y:V) (d e u:D) (Q:VK),(∀a o,R a=some o->H a=some o)->Rp K R x d->Rp K R y e->g d e=some u->(∀v H' R',Ext H R H' R'->Rp K R' v u->Q v H')->r x y H Q
theorem OpS.g{r:R2}{g:D->D->Option D}(h:OpS K r g):OpG K r g:=λH R x y d e u Q s rx ry q k=>
 h H x y d e u Q (rx.mono s) (ry.mono s) q λv z=>k v H R (Ext.refl s) z.rp
theorem q0d{r:R2}{g:D->D->Option D}{fa fb:RhD}(h:OpG K r g)(ha:ME K O ta fa)(hb:ME K O tb fb):ME K O (tOp r ta tb) (mOp2 g fa fb):=λZ σ H R ρ d ρ' Q S e k=>by obtain⟨x,ρ1,e1,e⟩:=q0c e;obtain⟨y,ρ2,e2,e⟩:=q0c e;obtain⟨e3,rfl⟩:=q0l e;refine ha Z σ H R ρ x ρ1 _ S e1 λv H1 R1 S1 st1 r1=>hb Z σ H1 R1 ρ1 y _ _ S1 e2 λw H2 R2 S2 st2 r2=>?_;exact h H2 R2 v w x y d Q S2.sub (r1.mono st2.r) r2 e3 λz H3 R3 x3 r3=>k z H3 R3 (S2.ext x3) ((st1.trans st2).trans x3.stp) r3
theorem q1c{r:R2}{g:D->D->Option D}{fa fb:RhD}(h:OpS K r g)(ha:ME K O ta fa)(hb:MB K O tb fb):ME K O (tOp r ta tb) (mOp2 g fa fb):=λZ σ H R ρ d ρ' Q S e k=>by obtain⟨x,ρ1,e1,e⟩:=q0c e;obtain⟨y,ρ2,e2,e⟩:=q0c e;obtain⟨e3,rfl⟩:=q0l e;refine ha Z σ H R ρ x ρ1 _ S e1 λv H1 R1 S1 st1 r1=>hb Z σ H1 R1 ρ1 y _ _ S1 e2 λw H2 R2 S2 st2 r2=>?_;exact h H2 v w x y d Q ((r1.mono st2.r).mono S2.same) r2 e3 λz q=>k z H2 R2 S2 (st1.trans st2) q.rp
def mIxO(i:Nat)(fb:RhD):RhD:=q1u fb λy=>q1u (mVar i) λx=>q2v (match x,y with
 |.lst xs,.int j=>atI xs j
 |_,_=>none)
theorem qbm{R:Hp}{xs:List V}{ds:List D}{i:Int}{d:D}(r:Rps K R xs ds)(h:atI ds i=some d):∃v,atI xs i=some v/\Rp K R v d:=by
 unfold atI at h ⊢;rw[r.length];cases e:ixN ds.length i with
 |none=>rw[e]at h;cases h
 | some j=>
  rw[e]at h;exact r.get h
theorem qsj{i:Nat}{fb:RhD}(hi:i∈O)(hb:ME K O tb fb):ME K O (tOp (rIx K) (tVar i) tb) (mIxO i fb):=λZ σ H R ρ d ρ' Q S e k=>by
 obtain⟨y,ρ1,e1,e⟩:=q0c e;obtain⟨x,ρ2,e2,e⟩:=q0c e;obtain⟨e3,rfl⟩:=q0l e;obtain⟨e4,rfl⟩:=q7o e2;obtain⟨l,vs,ds,h1,h2,h3,_⟩:=S.own i hi;refine⟨.ref l,h2,hb Z σ H R ρ y _ _ S e1 λw H1 R1 S1 st1 r1=>?_⟩;obtain⟨l',vs',ds',g1,g2,g3,g4,g5⟩:=S1.own i hi;rw[h2]at g2;cases g2;rw[e4]at g1;cases g1;split at e3
 ·obtain rfl:=r1.isA rfl;obtain⟨us,rfl,q5⟩:=g5.isL;obtain⟨v,q1,q2⟩:=qbm q5 e3;exact .inl ⟨l,_,_,v,rfl,rfl,SqL.of g3,q1,k v H1 R1 S1 st1 q2⟩
 ·cases e3
def dIx:D->D->Option D
 |.lst xs,.int i=>atI xs i
 |.tup xs,.int i=>atI xs i
 |.str z,.int i=>if z.length<=sizeLine then(atI z.cps.toList i).map λc=>.str ⟨#[c]⟩else none
 |_,_=>none
theorem q0x:OpG K (rIx K) dIx:=λH R x y d e u Q s rx ry q k=>by
 unfold dIx at q;split at q
 ·rename_i xs i
  (first|obtain rfl:=ry.isA rfl|cases ry)
  obtain⟨_,_,rfl,h,r⟩:=rx.isL;obtain⟨v,q1,q2⟩:=qbm r q;exact .inl ⟨_,_,i,v,rfl,rfl,Same.sqL s h,q1,k v H R (Ext.refl s) q2⟩
 ·rename_i xs i
  (first|obtain rfl:=ry.isA rfl|cases ry)
  obtain⟨_,_,rfl,h,r⟩:=rx.isT;obtain⟨v,q1,q2⟩:=qbm r q;exact .inr (.inl ⟨_,_,i,v,rfl,rfl,SqT.of (s _ _ h),q1,k v H R (Ext.refl s) q2⟩)
 ·rename_i z i
  (first|obtain rfl:=ry.isA rfl|cases ry)
  (first|obtain rfl:=rx.isA rfl|cases rx)
  split at q
  ·rename_i hz;cases e':atI z.cps.toList i with
   |none=>rw[e']at q;cases q
   | some c=>
    rw[e']at q
    (first|obtain rfl:=q.isA rfl|cases q)
    exact .inr (.inr ⟨z,i,c,rfl,rfl,hz,e',k _ H R (Ext.refl s) (.str _)⟩)
  ·(first|obtain rfl:=q.isA rfl|cases q)
 ·(first|obtain rfl:=q.isA rfl|cases q)
def dI2(C:Int->Int->Bool)(g:Int->Int->Int):D->D->Option D
 |.int i,.int j=>if C i j=true then some (.int (g i j))else none
 |_,_=>none
theorem op_i{C:Int->Int->Bool}{P:Int->Int->Prop}{g:Int->Int->Int}(hc:∀i j,C i j=true->P i j):OpG K (rI P λi j=>.int (g i j)) (dI2 C g):=λH R x y d e u Q s rx ry q k=>by
 unfold dI2 at q;split at q
 ·rename_i i j;split at q
  ·rename_i h
   (first|obtain rfl:=q.isA rfl|cases q)
   (first|obtain rfl:=rx.isA rfl|cases rx)
   (first|obtain rfl:=ry.isA rfl|cases ry)
   exact⟨i,j,rfl,rfl,hc i j h,k _ H R (Ext.refl s) (.int _)⟩
  ·(first|obtain rfl:=q.isA rfl|cases q)
 ·(first|obtain rfl:=q.isA rfl|cases q)
def dI0(g:Int->Int->Int):D->D->Option D
 |.int i,.int j=>some (.int (g i j))
 |_,_=>none
theorem qmt{g:Int->Int->Int}:OpG K (rI0 λi j=>.int (g i j)) (dI0 g):=λH R x y d e u Q s rx ry q k=>by
 unfold dI0 at q;split at q
 ·rename_i i j
  (first|obtain rfl:=q.isA rfl|cases q)
  (first|obtain rfl:=rx.isA rfl|cases rx)
  (first|obtain rfl:=ry.isA rfl|cases ry)
  exact⟨i,j,rfl,rfl,k _ H R (Ext.refl s) (.int _)⟩
 ·(first|obtain rfl:=q.isA rfl|cases q)
def dB0(g:Int->Int->Bool):D->D->Option D
 |.int i,.int j=>some (.bl (g i j))
 |_,_=>none
end
section
variable{K:FrG}{Z:Anc}{O:List Nat}{t ta tb tc:TE}{tA tB':TT}{tr:TA}{fa fb fc:RhD}{ga gb:RhB}{fs:RhL}
def q0g(f:RhD):RhB:=q1u f λd=>q2v (match d with
 |.bl b=>some b
 |_=>none)
theorem q14(h:ME K O t fa):MT K O (qp6 t) (q0g fa):=λZ σ H R ρ b ρ' Q S e k=>by
 obtain⟨d,ρ1,e1,e⟩:=q0c e;obtain⟨e2,rfl⟩:=q0l e;refine h Z σ H R ρ d _ _ S e1 λv H' R' S' st r=>?_
 (first|split at e2)
 ·obtain rfl:=r.isA rfl;cases e2;exact⟨_,rfl,k H' R' S' st⟩
 ·cases e2
theorem q3r(h:ME K O t fa):MT K O (tB t) (q0g fa):=λZ σ H R ρ b ρ' Q S e k=>by
 obtain⟨d,ρ1,e1,e⟩:=q0c e;obtain⟨e2,rfl⟩:=q0l e;refine h Z σ H R ρ d _ _ S e1 λv H' R' S' st r=>?_
 (first|split at e2)
 ·obtain rfl:=r.isA rfl;cases e2;exact⟨_,rfl,k H' R' S' st⟩
 ·cases e2
def mNot(f:RhB):RhB:=q1u f λb=>mRet (!b)
theorem q5e(h:MT K O tA ga):MT K O (tNot tA) (mNot ga):=λZ σ H R ρ b ρ' Q S e k=>by obtain⟨c,ρ1,e1,e⟩:=q0c e;cases e;exact h Z σ H R ρ c _ _ S e1 λH' R' S' st=>k H' R' S' st
def mAnd(f g:RhB):RhB:=q1u f λb=>if b=true then g else mRet false
def mOr(f g:RhB):RhB:=q1u f λb=>if b=true then mRet true else g
theorem qlq(h:MT K O tA ga)(h2:MT K O tB' gb):MT K O (tAnd tA tB') (mAnd ga gb):=λZ σ H R ρ b ρ' Q S e k=>by
 obtain⟨c,ρ1,e1,e⟩:=q0c e;refine h Z σ H R ρ c _ _ S e1 λH' R' S' st=>?_;cases c with
 |true=>exact iteT (h2 Z σ H' R' ρ1 b ρ' Q S' e λH2 R2 S2 st2=>k H2 R2 S2 (st.trans st2))
 |false=>cases e;exact iteF (k H' R' S' st)
theorem q7e(h:MT K O tA ga)(h2:MT K O tB' gb):MT K O (tOr tA tB') (mOr ga gb):=λZ σ H R ρ b ρ' Q S e k=>by
 obtain⟨c,ρ1,e1,e⟩:=q0c e;refine h Z σ H R ρ c _ _ S e1 λH' R' S' st=>?_;cases c with
 |true=>cases e;exact iteT (k H' R' S' st)
 |false=>exact iteF (h2 Z σ H' R' ρ1 b ρ' Q S' e λH2 R2 S2 st2=>k H2 R2 S2 (st.trans st2))
def q91(f g:RhD):RhD:=q1u (q0g f) λb=>if b=true then g else mRet (.bl false)
def qdx(f:RhD):RhD:=q1u (q0g f) λb=>mRet (.bl (!b))
theorem qlv(h:ME K O ta fa)(h2:ME K O tb fb):ME K O (qpg ta tb) (q91 fa fb):=λZ σ H R ρ d ρ' Q S e k=>by
 obtain⟨c,ρ1,e1,e⟩:=q0c e;obtain⟨x,ρ2,e1,e2⟩:=q0c e1;obtain⟨e2,rfl⟩:=q0l e2;refine h Z σ H R ρ x _ _ S e1 λv H' R' S' st r=>?_
 (first|split at e2)
 ·obtain rfl:=r.isA rfl;cases e2;refine⟨_,rfl,?_⟩;cases c with
  |true=>exact iteT (h2 Z σ H' R' _ d ρ' Q S' e λv H2 R2 S2 st2 r2=>k v H2 R2 S2 (st.trans st2) r2)
  |false=>cases e;exact iteF (k _ H' R' S' st (.bl false))
 ·cases e2
theorem qsh(h:ME K O ta fa):ME K O (qp8 ta) (qdx fa):=λZ σ H R ρ d ρ' Q S e k=>by
 obtain⟨c,ρ1,e1,e⟩:=q0c e;obtain⟨x,ρ2,e1,e2⟩:=q0c e1;obtain⟨e2,rfl⟩:=q0l e2;refine h Z σ H R ρ x _ _ S e1 λv H' R' S' st r=>?_
 (first|split at e2)
 ·obtain rfl:=r.isA rfl;cases e2;cases e;exact⟨_,rfl,k _ H' R' S' st (.bl _)⟩
 ·cases e2
def mIf(f:RhB)(g h:RhD):RhD:=q1u f λb=>if b=true then g else h
theorem qa4(h:MT K O tA ga)(h1:ME K O ta fa)(h2:ME K O tb fb):ME K O (tIf tA ta tb) (mIf ga fa fb):=λZ σ H R ρ d ρ' Q S e k=>by
 obtain⟨c,ρ1,e1,e⟩:=q0c e;refine h Z σ H R ρ c _ _ S e1 λH' R' S' st=>?_;cases c with
 |true=>exact iteT (h1 Z σ H' R' ρ1 d ρ' Q S' e λv H2 R2 S2 st2 r2=>k v H2 R2 S2 (st.trans st2) r2)
 |false=>exact iteF (h2 Z σ H' R' ρ1 d ρ' Q S' e λv H2 R2 S2 st2 r2=>k v H2 R2 S2 (st.trans st2) r2)
def mNil:RhL:=mRet []
def q01(f:RhD)(g:RhL):RhL:=q1u f λx=>q1u g λxs=>mRet (x::xs)
theorem q09:MA K O tNil mNil:=λZ σ H R ρ ds ρ' Q S e k=>by cases e;exact k [] H R S (Stp.refl _ _ _ _) .nil
theorem q03(h:ME K O t fa)(h2:MA K O tr fs):MA K O (q9i t tr) (q01 fa fs):=λZ σ H R ρ ds ρ' Q S e k=>by obtain⟨x,ρ1,e1,e⟩:=q0c e;obtain⟨xs,ρ2,e2,e⟩:=q0c e;cases e;refine h Z σ H R ρ x _ _ S e1 λv H1 R1 S1 st1 r1=>h2 Z σ H1 R1 ρ1 xs _ _ S1 e2 λvs H2 R2 S2 st2 r2=>?_;exact k (v::vs) H2 R2 S2 (st1.trans st2) (.cons (r1.mono st2.r) r2)
def mTup(f:RhL):RhD:=q1u f λxs=>q2v (if xs.length<=sizeLine then some (.tup xs)else none)
theorem q4b(h:MA K O tr fs):ME K O (tTup tr) (mTup fs):=λZ σ H R ρ d ρ' Q S e k=>by
 obtain⟨xs,ρ1,e1,e⟩:=q0c e;obtain⟨e2,rfl⟩:=q0l e;refine h Z σ H R ρ xs _ _ S e1 λvs H1 R1 S1 st1 r1=>?_;split at e2
 ·rename_i hz;cases e2;refine⟨by rw[r1.length];exact hz,λp np=>?_⟩;have x:=Ext.new (o:=.tup vs) S1.sub np;exact k _ _ _ (S1.ext x) (st1.trans x.stp) (.tup q0y (r1.mono x.r))
 ·cases e2
def mLst(f:RhL):RhL:=q1u f λxs=>q2v (if xs.length<=sizeLine then some xs else none)
theorem StR.out{σ:St}{H R:Hp}{ρ:Rho}{l:Addr}(S:StR K Z O σ H R ρ)(h:H l=none):R l=none:=by
 cases q:R l with
 |none=>rfl
 |some o=>rw[S.sub l o q]at h;cases h
theorem Stp.new{σ:St}{H R H' R':Hp}{l:Addr}(x:Stp O σ H R H' R')(h:H' l=none):H l=none:=by
 cases q:H l with
 |none=>rfl
 |some o=>exact absurd h (x.d l (by rw[q];exact λz=>nomatch z)).1
theorem q2y(h:MA K O tr fs):MN K O (tLst tr) (mLst fs):=λZ σ H R ρ ds ρ' Q S e k=>by
 obtain⟨xs,ρ1,e1,e⟩:=q0c e;obtain⟨e2,rfl⟩:=q0l e;refine h Z σ H R ρ xs _ _ S e1 λvs H1 R1 S1 st1 r1=>?_;split at e2
 ·rename_i hz;cases e2;refine⟨by rw[r1.length];exact hz,λp np=>?_⟩;have x:=Ext.hid (o:=.lst vs) S1.sub np;exact k p vs _ _ (S1.ext x) (st1.trans x.stp) (st1.new np) q0y (S1.out np) r1
 ·cases e2
def qhv(K:FrG)(r:List V->Hp->VK->Prop)(g:D->Option D):Prop:=∀(H:Hp) (x:V) (d u:D) (Q:VK),Rp K H x d->g d=some u->(∀v,Sc v u->Q v H)->r [x] H Q
def mOp1(g:D->Option D)(f:RhD):RhD:=q1u f λx=>q2v (g x)
theorem q1i{r:List V->Hp->VK->Prop}{g:D->Option D}(h:qhv K r g)(ha:MB K O t fa):ME K O (tCB r (q9i t tNil)) (mOp1 g fa):=λZ σ H R ρ d ρ' Q S e k=>by obtain⟨x,ρ1,e1,e⟩:=q0c e;obtain⟨e2,rfl⟩:=q0l e;refine ha Z σ H R ρ x _ _ S e1 λv H1 R1 S1 st1 r1=>?_;exact h H1 v x d Q r1 e2 λw z=>k w H1 R1 S1 st1 z.rp
def dLen:D->Option D
 |.lst xs=>some (.int xs.length)
 |.tup xs=>some (.int xs.length)
 |_=>none
theorem q3a:qhv K (λxs H Q=>∃p ys,xs=[.ref p]/\(SqL K H p ys∨SqT K H p ys)/\Q (.int ys.length) H) dLen:=λH x d u Q r e k=>by
 (first|split at e|(unfold dLen at e;split at e))
 ·obtain⟨_,_,rfl,h,q⟩:=r.isL;cases e;refine⟨_,_,rfl,.inl h,?_⟩;rw[q.length];exact k _ (.int _)
 ·obtain⟨_,_,rfl,h,q⟩:=r.isT;cases e;refine⟨_,_,rfl,.inr (SqT.of h),?_⟩;rw[q.length];exact k _ (.int _)
 ·cases e
def dInt:D->Option D
 |.int i=>some (.int i)
 |.bl b=>some (.int (if b then 1 else 0))
 |_=>none
theorem qcs:qhv K (λxs H Q=>(∃i,xs=[.int i]/\Q (.int i) H)∨∃k,xs=[.bl k]/\Q (.int (if k then 1 else 0)) H) dInt:=λH x d u Q r e k=>by
 (first|split at e|(unfold dInt at e;split at e))
 ·rename_i i;obtain rfl:=r.isA rfl;cases e;exact .inl ⟨i,rfl,k _ (.int _)⟩
 ·rename_i b;obtain rfl:=r.isA rfl;cases e;exact .inr ⟨b,rfl,k _ (.int _)⟩
 ·cases e
def q3t:List D->Option (List Int)
 |[]=>some []
 |.int i::r=>(q3t r).map (i:: ·)
 |_=>none
def q4x:List D->Option (List Bool)
 |[]=>some []
 |.bl i::r=>(q4x r).map (i:: ·)
 |_=>none
theorem q60{R:Hp}:∀{xs:List V} {ds:List D} {ns:List Int},Rps K R xs ds->q3t ds=some ns->xs=ns.map V.int
 |_,_,ns,.nil,e=>by cases e;rfl
 | _,_,ns,.cons (d:=d) h r,e=>by
  cases h with
  | int i=>
   unfold q3t at e;cases q:q3t _ with
   |none=>rw[q]at e;cases e
   |some ms=>rw[q]at e;cases e;rw[q60 r q];rfl
  |_=>cases e
theorem q8m{R:Hp}:∀{xs:List V} {ds:List D} {ns:List Bool},Rps K R xs ds->q4x ds=some ns->xs=ns.map V.bl
 |_,_,ns,.nil,e=>by cases e;rfl
 | _,_,ns,.cons (d:=d) h r,e=>by
  cases h with
  | bl i=>
   unfold q4x at e;cases q:q4x _ with
   |none=>rw[q]at e;cases e
   |some ms=>rw[q]at e;cases e;rw[q8m r q];rfl
  |_=>cases e
theorem q35:∀ns:List Int,q3t (ns.map D.int)=some ns
 |[]=>rfl
 |n::ns=>by rw[ju,q3t,q35 ns];rfl
theorem q8n:∀ns:List Bool,q4x (ns.map D.bl)=some ns
 |[]=>rfl
 |n::ns=>by rw[ju,q4x,q8n ns];rfl
def dSum:D->Option D
 |.lst xs=>(q3t xs).map λns=>.int ns.sum
 |_=>none
theorem qcr:qhv K (λxs H Q=>∃(p:Addr) (ns:List Int),xs=[.ref p]/\SqL K H p (ns.map V.int)/\Q (.int ns.sum) H) dSum:=λH x d u Q r e k=>by
 cases r with
 | lst h q=>
  rename_i ds;have e':(q3t ds).map (λns=>D.int ns.sum)=some u:=e;cases z:q3t ds with
  |none=>rw[z]at e';cases e'
  | some ns=>
   rw[z]at e';cases e';have ex:=q60 q z;subst ex;exact⟨_,ns,rfl,h,k _ (.int _)⟩
 |_=>cases e
def dAll:D->Option D
 |.lst xs=>(q4x xs).map λbs=>.bl (bs.all id)
 |_=>none
theorem qtx:qhv K (λxs H Q=>∃(p:Addr) (bs:List Bool),xs=[.ref p]/\SqL K H p (bs.map V.bl)/\Q (.bl (bs.all id)) H) dAll:=λH x d u Q r e k=>by
 cases r with
 | lst h q=>
  rename_i ds;have e':(q4x ds).map (λbs=>D.bl (bs.all id))=some u:=e;cases z:q4x ds with
  |none=>rw[z]at e';cases e'
  | some ns=>
   rw[z]at e';cases e';have ex:=q8m q z;subst ex;exact⟨_,ns,rfl,h,k _ (.bl _)⟩
 |_=>cases e
end
def ItOk(K:FrG)(J:It)(R:Hp)(ds:List D):Prop:=∀(H' R':Hp),Same R R'->(∀a o,R' a=some o->H' a=some o)->∀i:Nat,(i=ds.length->J.stop i H')/\∀d,ds[i]? =some d->J.go i H'/\∀x H'',J.yld i H' x H''->∃R'',Ext H' R' H'' R''/\Rp K R'' x d
theorem ItOk.mono{K:FrG}{J:It}{R R1:Hp}{ds:List D}(h:ItOk K J R ds)(s:Same R R1):ItOk K J R1 ds:=λH' R' s' b=>h H' R' (s.trans s') b
def MI(K:FrG)(O:List Nat)(wi:TI)(f:RhL):Prop:=∀(Z:Anc) (σ:St) (H R:Hp) (ρ:Rho) (ds:List D) (ρ':Rho) (Q:It->Hp->Prop),StR K Z O σ H R ρ->f ρ=some (ds,ρ')->(∀J H' R',StR K Z O σ H' R' ρ'->Stp O σ H R H' R'->ItOk K J R' ds->Q J H')->wi σ H Q
def iSeq(K:FrG)(tl:TE):TI:=λσ H R=>qnk K tl σ H R∨iTup K tl σ H R
theorem q2a{X:Cx}{K:FrG}{tg l:Expr}{tl:TE}(h:X.K=K)(hl:PE X l tl):PI X tg l (iSeq K tl):=λz5 s σ H R I q=>by
 rcases q with q|q
 ·exact qir h hl z5 s σ H R I q
 ·exact qml h hl z5 s σ H R I q
def mSeq(f:RhD):RhL:=q1u f λd=>q2v (match d with
 |.lst xs=>some xs
 |.tup xs=>some xs
 |_=>none)
section
variable{K:FrG}{O:List Nat}{t:TE}{tr:TA}{fa:RhD}{fs:RhL}
theorem qni{R:Hp}{a:Addr}{xs:List V}{ds:List D}(h:SqL K R a xs)(r:Rps K R xs ds):ItOk K (Itl K a) R ds:=λH' R' s b i=>by have q:SqL K H' a xs:=Same.sqL b (Same.sqL s h);refine⟨λe=>⟨xs,q,by rw[r.length];omega⟩,λd e=>?_⟩;obtain⟨v,h1,h2⟩:=r.get e;refine⟨⟨xs,v,q,h1⟩,λx H'' y=>?_⟩;obtain⟨rfl,y⟩:=y;have ex:=y xs q;rw[h1]at ex;cases ex;exact⟨R',Ext.refl b,h2.mono s⟩
theorem qt0{R:Hp}{a:Addr}{xs:List V}{ds:List D}(h:SqT K R a xs)(r:Rps K R xs ds):ItOk K (Itt K a) R ds:=λH' R' s b i=>by have q:SqT K H' a xs:=Same.tup b (Same.tup s h);refine⟨λe=>⟨xs,q,by rw[r.length];omega⟩,λd e=>?_⟩;obtain⟨v,h1,h2⟩:=r.get e;refine⟨⟨xs,v,q,h1⟩,λx H'' y=>?_⟩;obtain⟨rfl,y⟩:=y;have ex:=y xs q;rw[h1]at ex;cases ex;exact⟨R',Ext.refl b,h2.mono s⟩
theorem q2z(h:ME K O t fa):MI K O (iSeq K t) (mSeq fa):=λZ σ H R ρ ds ρ' Q S e k=>by
 obtain⟨d,ρ1,e1,e⟩:=q0c e;obtain⟨e2,rfl⟩:=q0l e;cases d with
 | lst xs=>
  cases e2;refine .inl (h Z σ H R ρ _ _ _ S e1 λv H1 R1 S1 st1 r1=>?_);obtain⟨_,_,rfl,q,r⟩:=r1.isL;exact⟨_,rfl,⟨_,Same.sqL S1.same q⟩,k _ H1 R1 S1 st1 (qni q r)⟩
 | tup xs=>
  cases e2;refine .inr (h Z σ H R ρ _ _ _ S e1 λv H1 R1 S1 st1 r1=>?_);obtain⟨_,_,rfl,q,r⟩:=r1.isT;exact⟨_,rfl,⟨_,SqT.of (S1.same _ _ q)⟩,k _ H1 R1 S1 st1 (qt0 (SqT.of q) r)⟩
 |_=>cases e2
def q1f(lo:Int)(n:Nat):List D:=(List.range n).map λ(k:Nat)=>D.int (lo+(k:Int))
theorem qje{R:Hp}(lo:Int)(n:Nat):ItOk K (Itr lo n) R (q1f lo n):=λH' R' s b i=>by
 have len:(q1f lo n).length=n:=by simp[q1f]
 refine⟨λe=>by show n<=i;omega,λd e=>?_⟩;have hi:i<n:=by have:=(List.getElem?_eq_some_iff.mp e).1;omega
 have ed:d=D.int (lo+(i:Int)):=by unfold q1f at e;rw[jc,xq hi]at e;exact(je e).symm
 subst ed;refine⟨hi,λx H'' y=>?_⟩;obtain⟨rfl,rfl⟩:=y;exact⟨R',Ext.refl b,.int _⟩
def big(j:Int):Bool:=decide (-(2^62)<=j)&&decide (j<2^62)
def q2u(f:RhL):RhL:=q1u f λds=>q2v (match ds with
 |[.int j]=>if big j=true then some (q1f 0 j.toNat)else none
 |_=>none)
theorem q22(h:MA K O tr fs):MI K O (qt3 tr) (q2u fs):=λZ σ H R ρ ds ρ' Q S e k=>by
 obtain⟨xs,ρ1,e1,e⟩:=q0c e;obtain⟨e2,rfl⟩:=q0l e;split at e2
 ·rename_i j;split at e2
  ·rename_i hb;cases e2;refine h Z σ H R ρ _ _ _ S e1 λvs H1 R1 S1 st1 r1=>?_;obtain⟨_,_,rfl,q,r⟩:=r1.isC
   (first|obtain rfl:=r.isA rfl|cases r)
   (first|obtain rfl:=q.isA rfl|cases q)
   unfold big at hb;rw[Bool.and_eq_true]at hb;exact⟨j,rfl,of_decide_eq_true hb.1,of_decide_eq_true hb.2,k _ H1 R1 S1 st1 (qje 0 _)⟩
  ·cases e2
 ·cases e2
end
def MG(K:FrG)(O T:List Nat)(g:TG)(f:RhG):Prop:=∀(Z:Anc) (σ:St) (H R:Hp) (ρ:Rho) (x:V) (d:D) (ρ':Rho) (Q:St->Hp->Prop),StR K Z O σ H R ρ->Rp K R x d->f d ρ=some ρ'->(∀σ',StR K Z O σ' H R ρ'->(∀j,j∉T->σ'[j]? =σ[j]?)->Q σ' H)->g x σ H Q
def MGs(K:FrG)(O T:List Nat)(g:TGs)(f:List D->Rho->Option Rho):Prop:=∀(Z:Anc) (σ:St) (H R:Hp) (ρ:Rho) (xs:List V) (ds:List D) (ρ':Rho) (Q:St->Hp->Prop),StR K Z O σ H R ρ->Rps K R xs ds->f ds ρ=some ρ'->(∀σ',StR K Z O σ' H R ρ'->(∀j,j∉T->σ'[j]? =σ[j]?)->Q σ' H)->g xs σ H Q
def gSet(i:Nat):RhG:=λd ρ=>some (ρ.set i (some d))
def q2o:List D->Rho->Option Rho:=λds ρ=>match ds with
 |[]=>some ρ
 |_=>none
def q0w(f:RhG)(g:List D->Rho->Option Rho):List D->Rho->Option Rho:=λds ρ=>match ds with
 | d::r=>match f d ρ with
  |some ρ1=>g r ρ1
  |none=>none
 |[]=>none
def q2i(n:Nat)(f:List D->Rho->Option Rho):RhG:=λd ρ=>match d with
 |.tup ds=>if ds.length=n then f ds ρ else none
 |_=>none
section
variable{K:FrG}{O T T':List Nat}{g:TG}{gs:TGs}{f:RhG}{fs:List D->Rho->Option Rho}
theorem q0q{i:Nat}(hi:i∉O:=by decide):MG K O [i] (q6f i) (gSet i):=λZ σ H R ρ x d ρ' Q S r e k=>by cases e;exact k _ (S.set hi r) λj hj=>jl (λ(z:i=j)=>hj (by rw[z];exact List.mem_singleton_self j))
theorem q3s:MGs K O [] gNil q2o:=λZ σ H R ρ xs ds ρ' Q S r e k=>by
 cases r with
 |nil=>cases e;exact⟨rfl,k σ S λ_ _=>rfl⟩
 |cons _ _=>cases e
theorem q1p(h:MG K O T g f)(h2:MGs K O T' gs fs):MGs K O (T++T') (qjl g gs) (q0w f fs):=λZ σ H R ρ xs ds ρ' Q S r e k=>by
 cases r with
 |nil=>cases e
 | cons q r=>
  rename_i x xs d ds;unfold q0w at e;cases e1:f d ρ with
  |none=>simp only[e1]at e;cases e
  | some ρ1=>
   simp only[e1]at e;refine⟨x,xs,rfl,h Z σ H R ρ x d ρ1 _ S q e1 λσ1 S1 n1=>h2 Z σ1 H R ρ1 xs ds ρ' _ S1 r e λσ2 S2 n2=>?_⟩;refine k σ2 S2 λj hj=>?_;rw[List.mem_append,not_or]at hj;rw[n2 j hj.2,n1 j hj.1]
theorem q4q{n:Nat}(h:MGs K O T gs fs):MG K O T (gTup K n gs) (q2i n fs):=λZ σ H R ρ x d ρ' Q S r e k=>by
 cases r with
 | tup q rs=>
  unfold q2i at e;simp only at e;split at e
  ·rename_i hn;exact⟨_,_,rfl,SqT.of (S.same _ _ q),by rw[rs.length];exact hn,h Z σ H R ρ _ _ ρ' Q S rs e k⟩
  ·cases e
 |_=>cases e
end
def q64(n:Nat)(js:List Nat)(ρ:Rho):Rho:=List.replicate n none++js.map λj=>(ρ[j]?).join
def bwO:Option (Nat×Nat)->List Nat
 |none=>[]
 |some p=>[p.2]
def q5r(bw:Option (Nat×Nat))(ρ ρb:Rho):Rho:=match bw with
 |none=>ρ
 | some p=>match ρb[p.2]? with
  |some x=>ρ.set p.1 x
  |none=>ρ
def bwOk(n:Nat)(js O:List Nat)(bw:Option (Nat×Nat)):Bool:=match bw with
 |none=>js.all λj=>!O.contains j
 |some p=>O.contains p.1&&decide (n<=p.2)&&decide (js[p.2-n]? =some p.1)&&(List.range js.length).all λk=>decide (n+k=p.2)|| !O.contains (js.getD k 0)
def q15(n:Nat)(js:List Nat)(bw:Option (Nat×Nat))(fg:RhG)(ft:RhB)(fe:RhD):List D->RhL
 |[],ρ=>some ([],ρ)
 | d::r,ρ=>match fg d (q64 n js ρ)with
  |none=>none
  | some ρ1=>match ft ρ1 with
   |none=>none
   |some (false,ρ2)=>q15 n js bw fg ft fe r (q5r bw ρ ρ2)
   | some (true,ρ2)=>match fe ρ2 with
    |none=>none
    | some (y,ρ3)=>match q15 n js bw fg ft fe r (q5r bw ρ ρ3)with
     |none=>none
     |some (ys,ρ4)=>some (y::ys,ρ4)
section
variable{K:FrG}{Z Z':Anc}{O:List Nat}{σ σ4:St}{H R H6 R6:Hp}{ρ ρ3:Rho}{n:Nat}{js:List Nat}{bw:Option (Nat×Nat)}
theorem qhf:(q64 n js ρ).length=n+js.length:=by simp[q64]
theorem qhg{i:Nat}{d:D}(e:(q64 n js ρ)[i]? =some (some d)):n<=i/\∃j,js[i-n]? =some j/\ρ[j]? =some (some d):=by
 unfold q64 at e;by_cases h:i<n
 ·rw[k7 (by simpa using h),k6,if_pos h]at e;cases e
 ·refine⟨by omega,?_⟩;rw[xo (by simp;omega),ji,jc]at e;cases q:js[i-n]? with
  |none=>rw[q]at e;cases e
  | some j=>
   rw[q]at e;refine⟨j,rfl,?_⟩;have e':(ρ[j]?).join=some d:=je e;cases z:ρ[j]? with
   |none=>rw[z]at e';cases e'
   |some o=>rw[z]at e';have:o=some d:=e';rw[this]
theorem qk0{i j:Nat}(h:n<=i)(e:js[i-n]? =some j){d:D}(q:ρ[j]? =some (some d)):(q64 n js ρ)[i]? =some (some d):=by unfold q64;rw[xo (by simp;omega),ji,jc,e];show some ((ρ[j]?).join)=_;rw[q];rfl
theorem q99{i j:Nat}(h:n<=i)(e:js[i-n]? =some j){v:V}(q:σ[j]? =some (some v)):(caps n js σ)[i]? =some (some v):=by unfold caps;rw[xo (by simp;omega),ji,jc,e];show some ((σ[j]?).join)=_;rw[q];rfl
def bwL(bw:Option (Nat×Nat))(σ:St):Addr->Prop:=match bw with
 |none=>λ_=>False
 |some p=>λl=>σ[p.1]? =some (some (.ref l))
theorem StR.block(S:StR K Z O σ H R ρ)(hb:bwOk n js O bw=true):StR K ⟨H,R,bwL bw σ,bwO bw⟩ (bwO bw) (caps n js σ) H R (q64 n js ρ):=by
 have noO:∀i j,n<=i->js[i-n]? =some j->i∉bwO bw->j∉O:=λi j hi hj hn hO=>by
  cases bw with
  | none=>
   unfold bwOk at hb;have z:=List.all_eq_true.mp hb j (xv hj);simp at z;exact z hO
  | some p=>
   unfold bwOk at hb;simp only[Bool.and_eq_true]at hb;have hk:i-n<js.length:=(List.getElem?_eq_some_iff.mp hj).1;have z:=List.all_eq_true.mp hb.2 (i-n) (List.mem_range.mpr hk);have ej:js.getD (i-n) 0=j:=by rw[jv,hj];rfl
   rw[ej]at z;simp only[Bool.or_eq_true,decide_eq_true_eq]at z;rcases z with z|z
   ·exact hn (by show i∈[p.2];rw[List.mem_singleton];omega)
   ·simp at z;exact z hO
 have inO:∀p,bw=some p->p.1∈O/\n<=p.2/\js[p.2-n]? =some p.1:=λp e=>by subst e;unfold bwOk at hb;simp only[Bool.and_eq_true,decide_eq_true_eq]at hb;exact⟨by simpa using hb.1.1.1,hb.1.1.2,hb.1.2⟩
 have only:∀i,i∈bwO bw->∃p,bw=some p/\i=p.2:=λi hi=>by
  cases bw with
  |none=>exact absurd hi (by simp[bwO])
  |some p=>exact⟨p,rfl,by simpa[bwO]using hi⟩
 refine⟨S.sub,by rw[qhf,q98],λi d hi e=>?_,λi hi=>?_,λi j hi hj hn=>?_,λa o e _=>e,Same.refl _,λa h=>.inl h,λa h=>.refl h,λi hi hp=>absurd hi hp,λi hi _ l e=>?_⟩
 ·obtain⟨h1,j,h2,h3⟩:=qhg e;obtain⟨v,q1,q2⟩:=S.env j d (noO i j h1 h2 hi) h3;exact⟨v,q99 h1 h2 q1,q2⟩
 ·obtain⟨p,rfl,rfl⟩:=only i hi;obtain⟨h1,h2,h3⟩:=inO p rfl;obtain⟨l,vs,ds,q1,q2,q3⟩:=S.own p.1 h1;exact⟨l,vs,ds,qk0 h2 h3 q1,q99 h2 h3 q2,q3⟩
 ·obtain⟨p,rfl,rfl⟩:=only i hi;obtain⟨p',e,rfl⟩:=only j hj;cases e;exact absurd rfl hn
 ·obtain⟨p,rfl,rfl⟩:=only i hi;obtain⟨h1,h2,h3⟩:=inO p rfl;obtain⟨l',vs,ds,q1,q2,q3⟩:=S.own p.1 h1;rw[q99 h2 h3 q2]at e;cases e;exact q2
theorem StR.back(S:StR K Z O σ H R ρ)(hb:bwOk n js O bw=true)(Sb:StR K Z' (bwO bw) σ4 H6 R6 ρ3)(st:Stp (bwO bw) σ4 H R H6 R6)(hσ:∀p,bw=some p->σ4[p.2]? =σ[p.1]?):
 StR K Z O σ H6 R6 (q5r bw ρ ρ3)/\Stp O σ H R H6 R6:=by
 have inO:∀p,bw=some p->p.1∈O:=λp e=>by subst e;unfold bwOk at hb;simp only[Bool.and_eq_true,decide_eq_true_eq]at hb;simpa using hb.1.1.1
 have only:∀i,i∈bwO bw->∃p,bw=some p/\i=p.2:=λi hi=>by
  cases bw with
  |none=>exact absurd hi (by simp[bwO])
  |some p=>exact⟨p,rfl,by simpa[bwO]using hi⟩
 have st':Stp O σ H R H6 R6:=⟨st.r,λa o e n=>st.h a o e λi hi z=>by obtain⟨p,e1,rfl⟩:=only i hi;rw[hσ p e1]at z;exact n p.1 (inO p e1) z,st.n,st.d⟩
 have keepH0:∀a o,Z.H0 a=some o->¬Z.L a->H6 a=some o:=λa o e n=>by
  refine st'.h a o (S.ah a o e n) λi hi z=>?_;by_cases hp:i∈Z.P
  ·exact n (S.ap i hi hp a z)
  ·rw[S.ao i hi hp a z]at e;cases e
 have len:(q5r bw ρ ρ3).length=ρ.length:=by
  unfold q5r;cases bw with
  |none=>rfl
  | some p=>
   dsimp only;split
   ·rw[x9]
   ·rfl
 have other:∀i,(∀p,bw=some p->p.1≠i)->(q5r bw ρ ρ3)[i]? =ρ[i]? :=λi h=>by
  unfold q5r;cases bw with
  |none=>rfl
  | some p=>
   dsimp only;split
   ·rw[jl (h p rfl)]
   ·rfl
 refine⟨⟨Sb.sub,by rw[len];exact S.len,λi d hi e=>?_,λi hi=>?_,S.dis,keepH0,S.ar.trans st.r,λa h=>?_,λa h=>(S.ad a h).trans (st.d a (S.ad a h).1),S.ao,S.ap⟩,st'⟩
 ·rw[other i λp e1 z=>hi (z▸inO p e1)]at e;obtain⟨v,h1,h2⟩:=S.env i d hi e;exact⟨v,h1,h2.mono st.r⟩
 ·by_cases hp:∃p,bw=some p/\p.1=i
  ·obtain⟨p,rfl,rfl⟩:=hp;obtain⟨l,vs,ds,q1,q2,q3,q4,q5⟩:=Sb.own p.2 (by simp[bwO]);rw[hσ p rfl]at q2;obtain⟨_,_,_,g1,_⟩:=S.own p.1 hi;have zc:p.1<ρ.length:=(List.getElem?_eq_some_iff.mp g1).1;refine⟨l,vs,ds,?_,q2,q3,q4,q5⟩;unfold q5r;dsimp only;rw[q1];exact xf zc
  ·have hne:∀p,bw=some p->p.1≠i:=λp e z=>hp ⟨p,e,z⟩;obtain⟨l,vs,ds,q1,q2,q3,q4,q5⟩:=S.own i hi;have nob:∀j,j∈bwO bw->σ4[j]? ≠some (some (.ref l)):=λj hj z=>by
    obtain⟨p,e1,rfl⟩:=only j hj;rw[hσ p e1]at z;exact S.dis p.1 i (inO p e1) hi (hne p e1) l z q2
   refine⟨l,vs,ds,by rw[other i hne];exact q1,q2,st.h l _ q3 nob,?_,q5.mono st.r⟩;cases q:R6 l with
   |none=>rfl
   | some o=>
    rcases st.n l (by rw[q];exact λz=>nomatch z)with z|z
    ·exact absurd q4 z
    ·exact(q5.noF q3 z).elim
 ·rcases st.n a h with z|z
  ·exact S.an a z
  ·exact .inr (z.back (S.ad a))
end
theorem qe6{K:FrG}{Z:Anc}{O T:List Nat}{σ:St}{H R:Hp}{ρ ρ':Rho}{n:Nat}{js:List Nat}{bw:Option (Nat×Nat)}{g:TG}{tt:TT}{te:TE}{fg:RhG}{ft:RhB}{fe:RhD}{J:It}{ds ys:List D}{Fin:List V->Hp->Prop}
 (hb:bwOk n js O bw=true) (hg:MG K (bwO bw) T g fg) (hT:∀p,bw=some p->p.2∉T) (ht:MT K (bwO bw) tt ft) (he:ME K (bwO bw) te fe) (S:StR K Z O σ H R ρ) (ok:ItOk K J R ds) (e:q15 n js bw fg ft fe ds ρ=some (ys,ρ')) (hz:ds.length<=sizeLine)
 (fin:∀vs H' R',StR K Z O σ H' R' ρ'->Stp O σ H R H' R'->Rps K R' vs ys->vs.length<=sizeLine->Fin vs H'):cGo g tt te (caps n js σ) Fin J H:=by
 refine⟨λi m vs H2=>m=ds.length-i/\i<=ds.length/\vs.length<=i/\∃R2 ρ2 ys1 ys2,StR K Z O σ H2 R2 ρ2/\Stp O σ H R H2 R2/\Rps K R2 vs ys1/\q15 n js bw fg ft fe (ds.drop i) ρ2=some (ys2,ρ')/\ys1++ys2=ys,
  ⟨ds.length,by simp,Nat.zero_le _,Nat.zero_le _,R,ρ,[],ys,S,Stp.refl _ _ _ _,.nil,by rw[List.drop_zero];exact e,rfl⟩,?_⟩
 rintro i m vs H2 ⟨rfl,hi,hv,R2,ρ2,ys1,ys2,S2,st2,r2,e2,ey⟩;obtain⟨o1,o2⟩:=ok H2 R2 st2.r S2.sub i;by_cases hlt:i<ds.length
 ·obtain⟨g1,g2⟩:=o2 ds[i] (jd hlt);rw[xl hlt]at e2;refine .inr ⟨g1,by omega,λvs' H'=>∃R' ρ2 ys1 ys2,vs'.length<=i+1/\StR K Z O σ H' R' ρ2/\Stp O σ H R H' R'/\Rps K R' vs' ys1/\q15 n js bw fg ft fe (ds.drop (i+1)) ρ2=some (ys2,ρ')/\ys1++ys2=ys,?_,λx H3 y=>?_⟩
  ·rintro vs' H' ⟨R',ρ3,zs1,zs2,q0,q1,q2,q3,q4,q5⟩;exact⟨ds.length-(i+1),by omega,rfl,hlt,q0,R',ρ3,zs1,zs2,q1,q2,q3,q4,q5⟩
  ·obtain⟨R3,x3,r3⟩:=g2 x H3 y;have S3:=S2.ext x3;have B3:=S3.block hb;unfold q15 at e2;cases e3:fg ds[i] (q64 n js ρ2)with
   |none=>rw[e3]at e2;cases e2
   | some ρb1=>
    rw[e3]at e2;dsimp only at e2;refine hg _ _ _ _ _ x _ ρb1 _ B3 r3 e3 λσ4 S4 n4=>?_;have cap:∀p,bw=some p->σ4[p.2]? =σ[p.1]? :=λp e1=>by rw[n4 p.2 (hT p e1)];subst e1;unfold bwOk at hb;simp only[Bool.and_eq_true,decide_eq_true_eq]at hb;obtain⟨l,_,_,_,q2,_⟩:=S3.own p.1 (by simpa using hb.1.1.1);rw[q99 hb.1.1.2 hb.1.2 q2,q2]
    cases e4:ft ρb1 with
    |none=>rw[e4]at e2;cases e2
    | some c=>
     obtain⟨b,ρb2⟩:=c;rw[e4]at e2;refine ht _ σ4 H3 R3 ρb1 b ρb2 _ S4 e4 λH5 R5 S5 st5=>?_;cases b with
     | false=>
      dsimp only at e2;obtain⟨T1,T2⟩:=S3.back hb S5 st5 cap;exact iteF ⟨R5,_,ys1,ys2,by omega,T1,(st2.trans x3.stp).trans T2,(r2.mono x3.r).mono st5.r,e2,ey⟩
     | true=>
      dsimp only at e2;cases e5:fe ρb2 with
      |none=>rw[e5]at e2;cases e2
      | some c=>
       obtain⟨y0,ρb3⟩:=c;rw[e5]at e2;dsimp only at e2;cases e6:q15 n js bw fg ft fe (ds.drop (i+1)) (q5r bw ρ2 ρb3)with
       |none=>rw[e6]at e2;cases e2
       | some c=>
        obtain⟨zs,ρ6⟩:=c;rw[e6]at e2;dsimp only at e2;cases e2;refine iteT (he _ σ4 H5 R5 ρb2 y0 ρb3 _ S5 e5 λw H6 R6 S6 st6 r6=>?_);obtain⟨T1,T2⟩:=S3.back hb S6 (st5.trans st6) cap;refine⟨R6,_,ys1++[y0],zs,by rw[jh];show vs.length+1<=i+1;omega,T1,(st2.trans x3.stp).trans T2,(((r2.mono x3.r).mono st5.r).mono st6.r).snoc r6,e6,?_⟩;rw[<-ey,List.append_assoc];rfl
 ·have ei:i=ds.length:=by omega
  subst ei;rw[List.drop_length]at e2;unfold q15 at e2;cases e2;rw[List.append_nil]at ey;subst ey;exact .inl ⟨o1 rfl,by omega,fin vs H2 R2 S2 st2 r2 (by omega)⟩
def q1t(n:Nat)(js:List Nat)(bw:Option (Nat×Nat))(fi:RhL)(fg:RhG)(ft:RhB)(fe:RhD):RhL:=q1u fi λds ρ=>if ds.length<=sizeLine then q15 n js bw fg ft fe ds ρ else none
theorem q32{K:FrG}{O:List Nat}:MT K O tYes (mRet true):=λZ σ H R ρ b ρ' Q S e k=>by cases e;exact k H R S (Stp.refl _ _ _ _)
theorem q1w{K:FrG}{O T:List Nat}{n:Nat}{js:List Nat}{bw:Option (Nat×Nat)}{wi:TI}{g:TG}{tt:TT}{te:TE}{fi:RhL}{fg:RhG}{ft:RhB}{fe:RhD}
 (hi:MI K O wi fi) (hg:MG K (bwO bw) T g fg) (ht:MT K (bwO bw) tt ft) (he:ME K (bwO bw) te fe) (hb:bwOk n js O bw=true:=by decide) (hT:∀p,bw=some p->p.2∉T:=by decide):MN K O (qd1 n js wi g tt te) (q1t n js bw fi fg ft fe):=λZ σ H R ρ ds ρ' Q S e k=>by
 obtain⟨xs,ρ1,e1,e⟩:=q0c e;split at e
 ·rename_i hz;refine hi Z σ H R ρ xs ρ1 _ S e1 λJ H1 R1 S1 st1 ok=>?_;refine qe6 hb hg hT ht he S1 ok e hz λvs H2 R2 S2 st2 r2 l2 D nD=>?_;have x:=Ext.hid (o:=.lst vs) S2.sub nD;exact k D vs _ _ (S2.ext x) ((st1.trans st2).trans x.stp) ((st1.trans st2).new nD) q0y (S2.out nD) r2
 ·cases e
inductive Out where
 |nx (ρ:Rho)
 |rt (d:D) (ρ:Rho)
 |bk (ρ:Rho)
 |ct (ρ:Rho)
abbrev RhO:=Rho->Option Out
structure MC where
 K:PySem.W.Frag
 fr:Bool
 P:List Nat
 Ol:List Nat
def Res(K:FrG)(fr:Bool)(H:Hp)(v:V)(d:D)(H' R':Hp):Prop:=match fr with
 |false=>Rp K R' v d
 |true=>∃l vs ds,v=.ref l/\d=.lst ds/\H l=none/\H' l=some (.lst vs)/\R' l=none/\Rps K R' vs ds
def Ends.ok(c:MC)(Z:Anc)(O':List Nat)(R:Hp)(E:Ends):Out->Prop
 |.nx ρ'=>∀σ' H' R',StR c.K Z O' σ' H' R' ρ'->Same R R'->E.nx σ' H'
 |.bk ρ'=>∀σ' H' R',StR c.K Z c.Ol σ' H' R' ρ'->Same R R'->E.bk σ' H'
 |.ct ρ'=>∀σ' H' R',StR c.K Z c.Ol σ' H' R' ρ'->Same R R'->E.ct σ' H'
 |.rt d ρ'=>∀v σ' H' R',StR c.K Z c.P σ' H' R' ρ'->Res c.K c.fr Z.H0 v d H' R'->E.rt v H'
def MS(c:MC)(O O':List Nat)(t:TS)(f:RhO):Prop:=∀(Z:Anc) (E:Ends) (σ:St) (H R:Hp) (ρ:Rho) (o:Out),Z.P=c.P->StR c.K Z O σ H R ρ->f ρ=some o->E.ok c Z O' R o->t E σ H
def subO(c:MC)(O O':List Nat):Bool:=O'.all (λi=>O.contains i)&&c.P.all λi=>!O.contains i||O'.contains i
section
variable{c:MC}{O O' O1:List Nat}{t u:TS}{te:TE}{tt:TT}{g:TG}{f h:RhO}{fe:RhD}{fn:RhL}{ft:RhB}{fg:RhG}
theorem StR.sub'{Z:Anc}{σ:St}{H R:Hp}{ρ:Rho}(S:StR c.K Z O σ H R ρ)(hP:Z.P=c.P)(hs:subO c O O'=true):StR c.K Z O' σ H (frzR O O' σ H R) ρ/\Same R (frzR O O' σ H R):=by
 unfold subO at hs;simp only[Bool.and_eq_true,List.all_eq_true]at hs;refine S.freeze (λi hi=>by simpa using hs.1 i hi) λi hi hO=>?_;rw[hP]at hi;have z:=hs.2 i hi;simp only[Bool.or_eq_true]at z;rcases z with z|z
 ·simp at z;exact absurd hO z
 ·simpa using z
def sNil:RhO:=λρ=>some (.nx ρ)
theorem q1y(hs:subO c O O'=true):MS c O O' qp9 sNil:=λZ E σ H R ρ o hP S e k=>by cases e;obtain⟨S',s⟩:=S.sub' hP hs;exact k σ H _ S' s
def sSeq(f h:RhO):RhO:=λρ=>match f ρ with
 |none=>none
 |some (.nx ρ1)=>h ρ1
 |some o=>some o
theorem q0f(h1:MS c O O1 t f)(h2:MS c O1 O' u h):MS c O O' (tSeq t u) (sSeq f h):=λZ E σ H R ρ o hP S e k=>by
 unfold sSeq at e;cases e1:f ρ with
 |none=>rw[e1]at e;cases e
 | some o1=>
  rw[e1]at e;cases o1 with
  | nx ρ1=>
   refine h1 Z _ σ H R ρ _ hP S e1 λσ' H' R' S' s'=>?_;refine h2 Z E σ' H' R' ρ1 o hP S' e ?_;cases o with
   |nx ρ'=>exact λσ2 H2 R2 S2 s2=>k σ2 H2 R2 S2 (s'.trans s2)
   |bk ρ'=>exact λσ2 H2 R2 S2 s2=>k σ2 H2 R2 S2 (s'.trans s2)
   |ct ρ'=>exact λσ2 H2 R2 S2 s2=>k σ2 H2 R2 S2 (s'.trans s2)
   |rt d ρ'=>exact k
  |bk ρ1=>cases e;exact h1 Z _ σ H R ρ _ hP S e1 k
  |ct ρ1=>cases e;exact h1 Z _ σ H R ρ _ hP S e1 k
  |rt d ρ1=>cases e;exact h1 Z _ σ H R ρ _ hP S e1 k
def sSet(i:Nat)(fe:RhD):RhO:=λρ=>match fe ρ with
 |none=>none
 |some (d,ρ1)=>some (.nx (ρ1.set i (some d)))
theorem q1a{i:Nat}(he:ME c.K O te fe)(hs:subO c O O'=true:=by rfl)(hi:i∉O':=by decide):MS c O O' (tAsg te (q6f i)) (sSet i fe):=λZ E σ H R ρ o hP S e k=>by
 unfold sSet at e;cases e1:fe ρ with
 |none=>rw[e1]at e;cases e
 | some p=>
  obtain⟨d,ρ1⟩:=p;rw[e1]at e;cases e;refine he Z σ H R ρ d ρ1 _ S e1 λv H1 R1 S1 st1 r1=>?_;obtain⟨S2,s2⟩:=S1.sub' hP hs;exact k _ H1 _ (S2.set hi (r1.mono s2)) (st1.r.trans s2)
def sOwn(i:Nat)(fn:RhL):RhO:=λρ=>match fn ρ with
 |none=>none
 |some (ds,ρ1)=>if i<ρ1.length then some (.nx (ρ1.set i (some (.lst ds))))else none
def ownO(c:MC)(i:Nat)(O O':List Nat):Bool:=subO c O (O'.filter λj=>decide (j≠i))&&O'.contains i&& !c.P.contains i
theorem q5f{i:Nat}(he:MN c.K O te fn)(hs:ownO c i O O'=true):MS c O O' (tAsg te (q6f i)) (sOwn i fn):=λZ E σ H R ρ o hP S e k=>by
 unfold sOwn at e;unfold ownO at hs;simp only[Bool.and_eq_true]at hs;cases e1:fn ρ with
 |none=>rw[e1]at e;cases e
 | some p=>
  obtain⟨ds,ρ1⟩:=p;rw[e1]at e;dsimp only at e;split at e
  ·rename_i zc;cases e;refine he Z σ H R ρ ds ρ1 _ S e1 λl vs H1 R1 S1 st1 h0 hH hR r1=>?_;obtain⟨S2,s2⟩:=S1.sub' hP hs.1.1;have notown:∀j,j∈O->σ[j]? ≠some (some (.ref l)):=S.notnew h0;have hO':∀j,j∈O'.filter (λj=>decide (j≠i))->j∈O:=λj hj=>by
    have z:=hs.1.1;unfold subO at z;simp only[Bool.and_eq_true,List.all_eq_true]at z;simpa using z.1 j hj
   refine k _ H1 _ (S2.take (i:=i) (l:=l) (vs:=.lst vs) (ds:=.lst ds) (by simp) (by simpa using hs.1.2) (λj hj=>?_) (by rw[hP];simpa using hs.2) zc (S.new0 h0) hH ?_ (λj hj=>notown j (hO' j hj)) (λj hj=>(List.mem_filter.mp hj).1) (.lst (r1.mono s2))) (st1.r.trans s2)
   ·by_cases z:j=i
    ·exact .inl z
    ·exact .inr (List.mem_filter.mpr ⟨hj,by simpa using z⟩)
   ·unfold frzR;rw[if_neg ?_]
    ·exact hR
    ·rintro⟨j,hj,_,z⟩;exact notown j hj z
  ·cases e
def sAsg(fe:RhD)(fg:RhG):RhO:=λρ=>match fe ρ with
 |none=>none
 | some (d,ρ1)=>match fg d ρ1 with
  |none=>none
  |some ρ2=>some (.nx ρ2)
theorem qlr{T:List Nat}(he:ME c.K O te fe)(hs:subO c O O'=true)(hg:MG c.K O' T g fg):MS c O O' (tAsg te g) (sAsg fe fg):=λZ E σ H R ρ o hP S e k=>by
 unfold sAsg at e;cases e1:fe ρ with
 |none=>rw[e1]at e;cases e
 | some p=>
  obtain⟨d,ρ1⟩:=p;rw[e1]at e;dsimp only at e;cases e2:fg d ρ1 with
  |none=>rw[e2]at e;cases e
  | some ρ2=>
   rw[e2]at e;cases e;refine he Z σ H R ρ d ρ1 _ S e1 λv H1 R1 S1 st1 r1=>?_;obtain⟨S2,s2⟩:=S1.sub' hP hs;exact hg Z σ H1 _ ρ1 v d ρ2 _ S2 (r1.mono s2) e2 λσ' S3 _=>k σ' H1 _ S3 (st1.r.trans s2)
def sIf(ft:RhB)(f h:RhO):RhO:=λρ=>match ft ρ with
 |none=>none
 |some (b,ρ1)=>if b=true then f ρ1 else h ρ1
theorem q2x(ht:MT c.K O tt ft)(h1:MS c O O' t f)(h2:MS c O O' u h):MS c O O' (tIfS tt t u) (sIf ft f h):=λZ E σ H R ρ o hP S e k=>by
 unfold sIf at e;cases e1:ft ρ with
 |none=>rw[e1]at e;cases e
 | some p=>
  obtain⟨b,ρ1⟩:=p;rw[e1]at e;dsimp only at e;refine ht Z σ H R ρ b ρ1 _ S e1 λH1 R1 S1 st1=>?_;have k':E.ok c Z O' R1 o:=by
   cases o with
   |nx ρ'=>exact λσ2 H2 R2 S2 s2=>k σ2 H2 R2 S2 (st1.r.trans s2)
   |bk ρ'=>exact λσ2 H2 R2 S2 s2=>k σ2 H2 R2 S2 (st1.r.trans s2)
   |ct ρ'=>exact λσ2 H2 R2 S2 s2=>k σ2 H2 R2 S2 (st1.r.trans s2)
   |rt d ρ'=>exact k
  cases b with
  |true=>exact iteT (h1 Z E σ H1 R1 ρ1 o hP S1 e k')
  |false=>exact iteF (h2 Z E σ H1 R1 ρ1 o hP S1 e k')
def sRet(fe:RhD):RhO:=λρ=>match fe ρ with
 |none=>none
 |some (d,ρ1)=>some (.rt d ρ1)
theorem q16(hf:c.fr=false)(he:ME c.K O te fe)(hs:subO c O c.P=true):MS c O O' (tRet te) (sRet fe):=λZ E σ H R ρ o hP S e k=>by
 unfold sRet at e;cases e1:fe ρ with
 |none=>rw[e1]at e;cases e
 | some p=>
  obtain⟨d,ρ1⟩:=p;rw[e1]at e;cases e;refine he Z σ H R ρ d ρ1 _ S e1 λv H1 R1 S1 st1 r1=>?_;obtain⟨S2,s2⟩:=S1.sub' hP hs;refine k v σ H1 _ S2 ?_;unfold Res;rw[hf];exact r1.mono s2
def q8t(fn:RhL):RhO:=λρ=>match fn ρ with
 |none=>none
 |some (ds,ρ1)=>some (.rt (.lst ds) ρ1)
theorem q7i(hf:c.fr=true)(he:MN c.K O te fn)(hs:subO c O c.P=true):MS c O O' (tRet te) (q8t fn):=λZ E σ H R ρ o hP S e k=>by
 unfold q8t at e;cases e1:fn ρ with
 |none=>rw[e1]at e;cases e
 | some p=>
  obtain⟨ds,ρ1⟩:=p;rw[e1]at e;cases e;refine he Z σ H R ρ ds ρ1 _ S e1 λl vs H1 R1 S1 st1 h0 hH hR r1=>?_;obtain⟨S2,s2⟩:=S1.sub' hP hs;refine k _ σ H1 _ S2 ?_;unfold Res;rw[hf];refine⟨l,vs,ds,rfl,rfl,S.new0 h0,hH,?_,r1.mono s2⟩;unfold frzR;rw[if_neg ?_]
  ·exact hR
  ·rintro⟨j,hj,_,z⟩;exact S.notnew h0 j hj z
theorem StR.drop{K:FrG}{Z:Anc}{σ:St}{H R:Hp}{ρ:Rho}{i:Nat}(S:StR K Z O σ H R ρ)(hO:∀j,j∈O'->j∈O/\j≠i)(hc:∀j,j∈O->j≠i->j∈O'):StR K Z O' σ H R (ρ.set i none):=by
 refine⟨S.sub,by rw[x9];exact S.len,λj d hj e=>?_,λj hj=>?_,λj k hj hk=>S.dis j k (hO j hj).1 (hO k hk).1,S.ah,S.ar,S.an,S.ad,λj hj=>S.ao j (hO j hj).1,λj hj=>S.ap j (hO j hj).1⟩
 ·by_cases z:i=j
  ·subst z;have hl:i<ρ.length:=by
    have:=(List.getElem?_eq_some_iff.mp e).1
    rwa [x9]at this
   rw[xf hl]at e;cases e
  ·rw[jl z]at e;exact S.env j d (λq=>hj (hc j q (Ne.symm z))) e
 ·obtain⟨l,vs,ds,h1,h2⟩:=S.own j (hO j hj).1;exact⟨l,vs,ds,by rw[jl (Ne.symm (hO j hj).2)];exact h1,h2⟩
def q5v(i:Nat):RhO:=λρ=>match ρ[i]? with
 |some (some (.lst xs))=>some (.rt (.lst xs) (ρ.set i none))
 |_=>none
theorem q6b{i:Nat}(hf:c.fr=true)(hi:i∈O)(hs:subO c O (i::c.P)=true)(hp:i∉c.P):MS c O O' (tRet (tVar i)) (q5v i):=λZ E σ H R ρ o hP S e k=>by
 obtain⟨S2,s2⟩:=S.sub' hP hs;obtain⟨l,vs,ds,h1,h2,h3,h4,h5⟩:=S2.own i jg;unfold q5v at e;rw[h1]at e;have hd:∃xs,ds=.lst xs:=by
  cases h5 with
  |lst _=>exact⟨_,rfl⟩
  |_=>cases e
 obtain⟨xs,rfl⟩:=hd;cases e;refine⟨.ref l,h2,k _ σ H _ (S2.drop (i:=i) (O':=c.P) (λj hj=>⟨jj _ hj,λz=>hp (z▸hj)⟩) λj hj n=>?_) ?_⟩
 ·rcases List.mem_cons.mp hj with z|z
  ·exact absurd z n
  ·exact z
 ·unfold Res;rw[hf];cases h5 with
  |lst h5=>exact⟨l,_,_,rfl,rfl,S2.ao i jg (by rw[hP];exact hp) l h2,h3,h4,h5⟩
theorem qcg{O O':List Nat}:MS c O O' qkz (λ_=>none):=λZ E σ H R ρ o hP S e k=>by cases e
def q23(fg:RhG)(fb:RhO):List D->RhO
 |[],ρ=>some (.nx ρ)
 | d::r,ρ=>match fg d ρ with
  |none=>none
  | some ρ1=>match fb ρ1 with
   |none=>none
   |some (.nx ρ2)=>q23 fg fb r ρ2
   |some (.ct ρ2)=>q23 fg fb r ρ2
   |some (.bk ρ2)=>some (.nx ρ2)
   |some (.rt d ρ2)=>some (.rt d ρ2)
def sFor(fi:RhL)(fg:RhG)(fb:RhO):RhO:=λρ=>match fi ρ with
 |none=>none
 |some (ds,ρ1)=>q23 fg fb ds ρ1
theorem q39{T:List Nat}{wi:TI}{fi:RhL}{tb:TS}{fb:RhO}(hi:MI c.K O wi fi)(hs:subO c O O'=true)(hg:MG c.K O' T g fg)(hb:MS {c with Ol:=O'} O' O' tb fb):MS c O O' (tFor wi g tb) (sFor fi fg fb):=λZ E σ H R ρ o hP S e k=>by
 unfold sFor at e;cases e1:fi ρ with
 |none=>rw[e1]at e;cases e
 | some p=>
  obtain⟨ds,ρ1⟩:=p;rw[e1]at e;dsimp only at e;refine hi Z σ H R ρ ds ρ1 _ S e1 λJ H1 R1 S1 st1 ok=>?_;obtain⟨S2,s2⟩:=S1.sub' hP hs;have ok2:=ok.mono s2;refine⟨λi m σ' H'=>m=ds.length-i/\i<=ds.length/\∃R' ρ',StR c.K Z O' σ' H' R' ρ'/\Same (frzR O O' σ H1 R1) R'/\q23 fg fb (ds.drop i) ρ'=some o,⟨ds.length,by simp,Nat.zero_le _,_,ρ1,S2,Same.refl _,by rw[List.drop_zero];exact e⟩,?_⟩;rintro i m σ' H' ⟨rfl,hi',R',ρ',S',s',e'⟩;obtain⟨o1,o2⟩:=ok2 H' R' s' S'.sub i;by_cases hlt:i<ds.length
  ·obtain⟨g1,g2⟩:=o2 ds[i] (jd hlt);rw[xl hlt]at e';refine .inr ⟨g1,λσ3 H3=>∃R3 ρ3,StR c.K Z O' σ3 H3 R3 ρ3/\Same (frzR O O' σ H1 R1) R3/\q23 fg fb (ds.drop (i+1)) ρ3=some o,?_,λx H3 y=>?_⟩
   ·rintro σ3 H3 ⟨R3,ρ3,q1,q2,q3⟩;exact⟨ds.length-(i+1),by omega,rfl,hlt,R3,ρ3,q1,q2,q3⟩
   ·obtain⟨R3,x3,r3⟩:=g2 x H3 y;have S3:=S'.ext x3;unfold q23 at e';cases e3:fg ds[i] ρ' with
    |none=>rw[e3]at e';cases e'
    | some ρ4=>
     rw[e3]at e';dsimp only at e';refine hg Z σ' H3 R3 ρ' x _ ρ4 _ S3 r3 e3 λσ4 S4 _=>?_;cases e4:fb ρ4 with
     |none=>rw[e4]at e';cases e'
     | some o4=>
           rw[e4]at e';refine hb Z _ σ4 H3 R3 ρ4 o4 hP S4 e4 ?_;cases o4 with
           |nx ρ5=>exact λσ5 H5 R5 S5 s5=>⟨R5,ρ5,S5,(s'.trans x3.r).trans s5,e'⟩
           |ct ρ5=>exact λσ5 H5 R5 S5 s5=>⟨R5,ρ5,S5,(s'.trans x3.r).trans s5,e'⟩
           | bk ρ5=>
            cases e';exact λσ5 H5 R5 S5 s5=>k σ5 H5 R5 S5 (((st1.r.trans s2).trans s').trans (x3.r.trans s5))
           | rt d ρ5=>
            cases e';exact k
  ·have ei:i=ds.length:=by omega
   subst ei;rw[List.drop_length]at e';unfold q23 at e';cases e';exact .inl ⟨o1 rfl,k σ' H' R' S' ((st1.r.trans s2).trans s')⟩
def q3e(ft:RhB)(fb:RhO):Nat->RhO
 |0,_=>none
 | n+1,ρ=>match ft ρ with
  |none=>none
  |some (false,ρ1)=>some (.nx ρ1)
  | some (true,ρ1)=>match fb ρ1 with
   |none=>none
   |some (.nx ρ2)=>q3e ft fb n ρ2
   |some (.ct ρ2)=>q3e ft fb n ρ2
   |some (.bk ρ2)=>some (.nx ρ2)
   |some (.rt d ρ2)=>some (.rt d ρ2)
theorem qj4{n:Nat}{tb:TS}{fb:RhO}(ht:MT c.K O' tt ft)(hs:subO c O O'=true)(hb:MS {c with Ol:=O'} O' O' tb fb):MS c O O' (qky tt tb) (q3e ft fb n):=λZ E σ H R ρ o hP S e k=>by
 obtain⟨S2,s2⟩:=S.sub' hP hs;refine⟨λm σ' H'=>∃R' ρ',StR c.K Z O' σ' H' R' ρ'/\Same (frzR O O' σ H R) R'/\q3e ft fb m ρ'=some o,⟨n,_,ρ,S2,Same.refl _,e⟩,?_⟩;rintro m σ' H' ⟨R',ρ',S',s',e'⟩;cases m with
 |zero=>cases e'
 | succ m=>
  unfold q3e at e';cases e1:ft ρ' with
  |none=>rw[e1]at e';cases e'
  | some p=>
   obtain⟨b,ρ1⟩:=p;rw[e1]at e';refine ht Z σ' H' R' ρ' b ρ1 _ S' e1 λH1 R1 S1 st1=>?_;cases b with
   | false=>
    dsimp only at e';cases e';exact iteF (k σ' H1 R1 S1 ((s2.trans s').trans st1.r))
   | true=>
    dsimp only at e';refine iteT ⟨λσ3 H3=>∃R3 ρ3,StR c.K Z O' σ3 H3 R3 ρ3/\Same (frzR O O' σ H R) R3/\q3e ft fb m ρ3=some o,λσ3 H3 q=>⟨m,Nat.lt_succ_self _,q⟩,?_⟩;cases e4:fb ρ1 with
    |none=>rw[e4]at e';cases e'
    | some o4=>
     rw[e4]at e';refine hb Z _ σ' H1 R1 ρ1 o4 hP S1 e4 ?_;cases o4 with
     |nx ρ5=>exact λσ5 H5 R5 S5 s5=>⟨R5,ρ5,S5,(s'.trans st1.r).trans s5,e'⟩
     |ct ρ5=>exact λσ5 H5 R5 S5 s5=>⟨R5,ρ5,S5,(s'.trans st1.r).trans s5,e'⟩
     | bk ρ5=>
           cases e';exact λσ5 H5 R5 S5 s5=>k σ5 H5 R5 S5 ((s2.trans s').trans (st1.r.trans s5))
     | rt d ρ5=>
           cases e';exact k
end
section
variable{c:MC}{O O':List Nat}{te ti:TE}{fe fi:RhD}{tr:TA}{fs:RhL}
def isL(ρ:Rho)(i:Nat):Bool:=match ρ[i]? with
 |some (some (.lst _))=>true
 |_=>false
theorem qlx{K:FrG}{R:Hp}{ρ:Rho}{i:Nat}{o:HO}{d:D}(h:isL ρ i=true)(e:ρ[i]? =some (some d))(b:Ob K R o d):∃vs ds,o=.lst vs/\d=.lst ds/\Rps K R vs ds:=by
 unfold isL at h;rw[e]at h;cases b with
 |lst r=>exact⟨_,_,rfl,rfl,r⟩
 |_=>cases h
def sMut(g:List D->List D->Option (List D))(i:Nat)(fs:RhL):RhO:=λρ=>if isL ρ i=true then(match fs ρ with
 |none=>none
 | some (as,ρ1)=>match ρ1[i]? with
  | some (some (.lst xs))=>match g xs as with
   |some ys=>some (.nx (ρ1.set i (some (.lst ys))))
   |none=>none
  |_=>none)else none
def qu5(K:FrG)(r:V->List V->Hp->VK->Prop)(g:List D->List D->Option (List D)):Prop:=∀(H R:Hp) (l:Addr) (xs:List V) (ds:List D) (vs:List V) (as bs:List D) (Q:VK),(∀a o,R a=some o->H a=some o)->H l=some (.lst xs)->R l=none->Rps K R xs ds->Rps K R vs as->g ds as=some bs->(∀ys,Rps K R ys bs->Q .non (upd H l (.lst ys)))->r (.ref l) vs H Q
theorem q8e{r:V->List V->Hp->VK->Prop}{g:List D->List D->Option (List D)}{i:Nat}(hm:qu5 c.K r g)(hi:i∈O)(ha:MA c.K O tr fs)(hs:subO c O O'=true):MS c O O' (qej (tBM c.K "list" r (tVar i) tr)) (sMut g i fs):=λZ E σ H R ρ o hP S e k=>by
 unfold sMut at e;split at e
 case isFalse=>cases e
 rename_i hL;cases e1:fs ρ with
 |none=>rw[e1]at e;cases e
 | some p=>
  obtain⟨as,ρ1⟩:=p;rw[e1]at e;dsimp only at e;obtain⟨l,vs,ds,h1,h2,h3,h4,h5⟩:=S.own i hi;obtain⟨us,_,rfl,rfl,_⟩:=qlx hL h1 h5;refine⟨.ref l,h2,.inl ⟨rfl,us,SqL.of h3⟩,ha Z σ H R ρ as ρ1 _ S e1 λws H1 R1 S1 st1 r1=>?_⟩;obtain⟨l',vs',ds',g1,g2,g3,g4,g5⟩:=S1.own i hi;rw[h2]at g2;cases g2;rw[g1]at e;cases g5 with
  |dct _=>cases e
  |dit _=>cases e
  |lst g5=>
  rename_i vs' ds';dsimp only at e;cases e2:g ds' as with
  |none=>rw[e2]at e;cases e
  | some ys=>
   rw[e2]at e;cases e;refine hm H1 R1 l vs' ds' ws as ys _ S1.sub g3 g4 g5 r1 e2 λzs rz=>?_;obtain⟨S2,s2⟩:=(S1.write hi h2 (.lst rz)).sub' hP hs;exact k σ _ _ S2 (st1.r.trans s2)
def q2c:List D->List D->Option (List D):=λxs as=>match as with
 |[d]=>if xs.length<sizeLine then some (xs++[d])else none
 |_=>none
theorem q4a{K:FrG}:qu5 K qaz q2c:=λH R l xs ds vs as bs Q s h hr r ra e k=>by
 cases ra with
 |nil=>cases e
 | cons q t=>
  cases t with
  |cons _ _=>cases e
  | nil=>
   rename_i x d;have e':(if ds.length<sizeLine then some (ds++[d])else none)=some bs:=e;split at e'
   ·rename_i hz;cases e';exact⟨l,xs,x,rfl,rfl,h,by rw[r.length];exact hz,k _ (r.snoc q)⟩
   ·cases e'
def qu7:List D->List D->Option (List D):=λxs as=>match as with
 |[.int 0,d]=>if xs.length<sizeLine then some (d::xs)else none
 |_=>none
def qat(i:Nat)(fe fi:RhD):RhO:=λρ=>match fe ρ with
 |none=>none
 | some (d,ρ1)=>match fi ρ1 with
  | some (.int k,ρ2)=>match ρ2[i]? with
   | some (some (.lst xs))=>match ixN xs.length k with
    |some j=>some (.nx (ρ2.set i (some (.lst (xs.set j d)))))
    |none=>none
   |_=>none
  |_=>none
theorem qn7{i:Nat}(hi:i∈O)(he:ME c.K O te fe)(hx:ME c.K O ti fi)(hs:subO c O O'=true):MS c O O' (tAsg te (gSub (tVar i) ti qq8)) (qat i fe fi):=λZ E σ H R ρ o hP S e k=>by
 unfold qat at e;cases e1:fe ρ with
 |none=>rw[e1]at e;cases e
 | some p=>
  obtain⟨d,ρ1⟩:=p;rw[e1]at e;dsimp only at e;cases e2:fi ρ1 with
  |none=>rw[e2]at e;cases e
  | some p=>
   obtain⟨x,ρ2⟩:=p;rw[e2]at e;refine he Z σ H R ρ d ρ1 _ S e1 λv H1 R1 S1 st1 r1=>?_;obtain⟨l,vs,ds,h1,h2,h3,h4,h5⟩:=S1.own i hi;refine⟨.ref l,h2,hx Z σ H1 R1 ρ1 x ρ2 _ S1 e2 λw H2 R2 S2 st2 r2=>?_⟩;obtain⟨l',vs',ds',g1,g2,g3,g4,g5⟩:=S2.own i hi;rw[h2]at g2;cases g2;cases r2 with
   | int j=>
    dsimp only at e;rw[g1]at e;cases g5 with
    |dct _=>cases e
    |dit _=>cases e
    |lst g5=>
    rename_i vs' ds';dsimp only at e;cases e3:ixN ds'.length j with
    |none=>rw[e3]at e;cases e
    | some m=>
     rw[e3]at e;cases e;refine⟨l,vs',j,m,rfl,rfl,g3,by rw[g5.length];exact e3,?_⟩;obtain⟨S3,s3⟩:=(S2.write hi h2 (.lst (g5.set (r1.mono st2.r) m))).sub' hP hs;exact k σ _ _ S3 ((st1.r.trans st2.r).trans s3)
   |_=>cases e
end
def runP(fr:Bool)(n N:Nat)(f:RhO)(ds:List D):Option D:=if ds.length=n then match f (ds.map some++List.replicate (N-n) none)with
 |some (.rt d _)=>some d
 |some (.nx _)=>if fr=true then none else some .non
 |_=>none
 else none
def spP(K:FrG)(fr:Bool)(n:Nat)(f:List D->Option D):Sp:=λvs H Q _=>vs.length=n/\∃R ds d,(∀a o,R a=some o->H a=some o)/\Rps K R vs ds/\f ds=some d/\∀v H' R',Ext H R H' R'->Res K fr H v d H' R'->Q v H'
theorem q9k{N:List Str}{vs:List V}{i:Nat}{v:V}(h:vs[i]? =some v):(start N vs)[i]? =some (some v):=by unfold start;have hi:i<vs.length:=(List.getElem?_eq_some_iff.mp h).1;rw[k7 (by simpa using hi),jc,h];rfl
theorem q9m{ds:List D}{m i:Nat}{d:D}(h:(ds.map some++List.replicate m none)[i]? =some (some d)):ds[i]? =some d:=by
 by_cases hi:i<ds.length
 ·rw[k7 (by simpa using hi),jc]at h;cases q:ds[i]? with
  |none=>rw[q]at h;cases h
  |some e=>rw[q]at h;cases h;rfl
 ·rw[xo (by simpa using hi),k6]at h;split at h<;>cases h
theorem q0m{K:FrG}{fr:Bool}{n:Nat}{Nms:List Str}{O':List Nat}{t:TS}{f:RhO}{vs:List V}{H:Hp}{Q:VK}{E:XK}(hm:MS ⟨K,fr,[],[]⟩ [] O' t f)(h:spP K fr n (runP fr n Nms.length f) vs H Q E):t {nx:=λ_ H'=>Q .non H',rt:=Q} (start Nms vs) H:=by
 obtain⟨hn,R,ds,d,sub,r,e,k⟩:=h;unfold runP at e;split at e
 ·rename_i hl;have S:StR K ⟨H,R,λ_=>False,[]⟩ [] (start Nms vs) H R (ds.map some++List.replicate (Nms.length-n) none):=by
   refine⟨sub,?_,λi d _ q=>?_,λi hi=>absurd hi (by simp),λi j hi=>absurd hi (by simp),λa o q _=>q,Same.refl _,λa q=>.inl q,λa q=>.refl q,λi hi=>absurd hi (by simp),λi hi=>absurd hi (by simp)⟩
   ·unfold start;rw[jh,jh,j7,j7,ji,ji,hn,hl]
   ·obtain⟨v,h1,h2⟩:=r.get (q9m q);exact⟨v,q9k h1,h2⟩
  have ext:∀{O1:List Nat} {σ':St} {H' R':Hp} {ρ':Rho},StR K ⟨H,R,λ_=>False,[]⟩ O1 σ' H' R' ρ'->Ext H R H' R':=λS'=>⟨λa o q=>S'.ah a o q (λz=>z),S'.ar,S'.sub,S'.an⟩;cases e1:f (ds.map some++List.replicate (Nms.length-n) none)with
  |none=>rw[e1]at e;cases e
  | some o=>
   rw[e1]at e;refine hm _ _ _ _ _ _ o rfl S e1 ?_;cases o with
   | nx ρ'=>
    dsimp only at e;split at e
    ·cases e
    ·rename_i hf;cases e;refine λσ' H' R' S' _=>k .non H' R' (ext S') ?_;cases fr with
     |false=>exact .non
     |true=>exact absurd rfl hf
   |bk ρ'=>cases e
   |ct ρ'=>cases e
   | rt d' ρ'=>
    cases e;exact λv σ' H' R' S' q=>k v H' R' (ext S') q
 ·cases e
structure ExtS(l:Addr)(H R H' R':Hp):Prop where
 h:∀a o,a≠l->H a=some o->H' a=some o
 r:Same R R'
 s:∀a o,R' a=some o->H' a=some o
 n:∀a,R' a≠none->R a≠none∨Frh H a
 d:∀a,H a≠none->Liv H H' a
section
variable{K:FrG}{O:List Nat}{tr:TA}{fs:RhL}{E:XK}{n:Nat}
def q0k(f:List D->Option D)(fs:RhL):RhD:=q1u fs λds=>q2v (f ds)
def q1r(n:Nat)(f:List D->Option D):Prop:=∀ds d,f ds=some d->ds.length=n
theorem q1e{fr:Bool}{n N:Nat}{f:RhO}:q1r n (runP fr n N f):=λds d e=>by
 unfold runP at e;split at e
 ·assumption
 ·cases e
theorem q0j{f:List D->Option D}(hf:q1r n f)(h:MA K O tr fs):ME K O (qmc (spP K false n f) [] E tr) (q0k f fs):=λZ σ H R ρ d ρ' Q S e k=>by obtain⟨ds,ρ1,e1,e⟩:=q0c e;obtain⟨e2,rfl⟩:=q0l e;refine h Z σ H R ρ ds _ _ S e1 λvs H1 R1 S1 st1 r1=>?_;show spP K false n f (vs++[]) H1 Q E;rw[List.append_nil];exact⟨by rw[r1.length];exact hf ds d e2,R1,ds,d,S1.sub,r1,e2,λv H2 R2 x q=>k v H2 R2 (S1.ext x) (st1.trans x.stp) q⟩
def qgn(o:Option D):Option (List D):=match o with
 |some (.lst ds)=>some ds
 |_=>none
def q1m(f:List D->Option D)(fs:RhL):RhL:=q1u fs λds=>q2v (qgn (f ds))
theorem qdy{o:Option D}{ds:List D}(h:qgn o=some ds):o=some (.lst ds):=by
 unfold qgn at h;split at h
 ·cases h;rfl
 ·(first|obtain rfl:=h.isA rfl|cases h)
theorem q25{f:List D->Option D}(hf:q1r n f)(h:MA K O tr fs):MN K O (qmc (spP K true n f) [] E tr) (q1m f fs):=λZ σ H R ρ d ρ' Q S e k=>by obtain⟨ds,ρ1,e1,e⟩:=q0c e;obtain⟨e2,rfl⟩:=q0l e;have e3:=qdy e2;refine h Z σ H R ρ ds _ _ S e1 λvs H1 R1 S1 st1 r1=>?_;show spP K true n f (vs++[]) H1 Q E;rw[List.append_nil];refine⟨by rw[r1.length];exact hf ds _ e3,R1,ds,_,S1.sub,r1,e3,λv H2 R2 x q=>?_⟩;obtain⟨l,us,gs,rfl,e4,h0,hH,hR,r⟩:=q;cases e4;exact k l us H2 R2 (S1.ext x) (st1.trans x.stp) (st1.new h0) hH hR r
end
def qqe(K:FrG):R2:=λx y H Q=>∃l b xs zs,x=.ref l/\y=.ref b/\SqL K H l xs/\SqL K H b zs/\xs.length+zs.length<=sizeLine/\∀p,H p=none->Q (.ref p) (upd H p (.lst (xs++zs)))
def qqd(K:FrG):R2:=λx y H Q=>∃a b xs ys,x=.ref a/\y=.ref b/\SqT K H a xs/\SqT K H b ys/\xs.length+ys.length<=sizeLine/\
 (xs=[]->Q (.ref b) H)/\(xs≠[]->ys=[]->Q (.ref a) H)/\(xs≠[]->ys≠[]->∀p,H p=none->Q (.ref p) (upd H p (.tup (xs++ys))))
section
variable{X:Cx}{K:FrG}
theorem qmv(hK:X.K=K):OpR X (binaryOp .Add) (qqe K):=by
 subst hK;intro z5 s σ H x y v u Q I rx ry h;obtain⟨l,b,xs,zs,rfl,rfl,hH,hB,hz,q⟩:=h
 (first|obtain rfl:=rx.isA rfl|cases rx)
 (first|obtain rfl:=ry.isA rfl|cases ry)
 obtain⟨its,r,pl,z⟩:=I.list hH;obtain⟨its2,r2,pl2,z2⟩:=I.list hB;obtain⟨⟨cls,dd,data,sl⟩,ho,hc,n,hd⟩:=pl.isList;obtain⟨⟨cls2,dd2,data2,sl2⟩,ho2,hc2,n2,hd2⟩:=pl2.isList;simp only at hc hd hc2 hd2;subst hc hd hc2 hd2;have e:its.toArray++its2.toArray=(its++its2).toArray:=by simp
 refine concat_meets ⟨_,ho,rfl⟩ ⟨_,ho2,rfl⟩ noFill_list_add seq_list_add PySem.F.slot_list_add PySem.F.entry_list_add (PySem.F.args_list_add_2 _ _) (list_addW l b its.toArray its2.toArray n n2 dd dd2 sl sl2 (by rw[jw,jw,<-r.length,<-r2.length];exact hz)) ⟨ho,ho2,?_⟩;rw[e];exact⟨.ref _,_,I.lnew (t':=s.toks) (r.append r2) (by rw[jh];omega),rfl,q _ I.fresh⟩
theorem qmu(hK:X.K=K):OpR X (binaryOp .Add) (qqd K):=by
 subst hK;intro z5 s σ H x y v u Q I rx ry h;obtain⟨a,b,xs,ys,rfl,rfl,ha,hb,hz,q0,q1,q2⟩:=h
 (first|obtain rfl:=rx.isA rfl|cases rx)
 (first|obtain rfl:=ry.isA rfl|cases ry)
 obtain⟨its,r1,p1,_⟩:=I.tuple ha;obtain⟨its2,r2,p2,_⟩:=I.tuple hb;obtain⟨⟨cls,dd,data,sl⟩,ho,hc,n,hd⟩:=id p1;obtain⟨⟨cls2,dd2,data2,sl2⟩,ho2,hc2,n2,hd2⟩:=id p2;simp only at hc hd hc2 hd2;subst hc hd hc2 hd2;have e:its.toArray++its2.toArray=(its++its2).toArray:=by simp
 by_cases hv:its=[]
 ·exact concat_meets ⟨_,ho,rfl⟩ ⟨_,ho2,rfl⟩ noFill_tuple_add seq_tuple_add PySem.F.slot_tuple_add PySem.F.entry_tuple_add (PySem.F.args_tuple_add_2 _ _)
   (tuple_addW0 a b its.toArray its2.toArray n n2 dd dd2 sl sl2 (by simp[hv])) ⟨ho,ho2,⟨.ref b,H,I,rfl,q0 (r1.nil_iff.mp hv)⟩⟩
 ·have hx:xs≠[]:=λz=>hv (r1.nil_iff.mpr z);by_cases hw:its2=[]
  ·exact concat_meets ⟨_,ho,rfl⟩ ⟨_,ho2,rfl⟩ noFill_tuple_add seq_tuple_add PySem.F.slot_tuple_add PySem.F.entry_tuple_add (PySem.F.args_tuple_add_2 _ _)
    (tuple_addW1 a b its.toArray its2.toArray n n2 dd dd2 sl sl2 (by simpa using hv) (by simp[hw])) ⟨ho,ho2,⟨.ref a,H,I,rfl,q1 hx (r2.nil_iff.mp hw)⟩⟩
  ·refine concat_meets ⟨_,ho,rfl⟩ ⟨_,ho2,rfl⟩ noFill_tuple_add seq_tuple_add PySem.F.slot_tuple_add PySem.F.entry_tuple_add (PySem.F.args_tuple_add_2 _ _)
    (tuple_addW2 a b its.toArray its2.toArray n n2 dd dd2 sl sl2 (by simpa using hv) (by simpa using hw) (by rw[List.size_toArray,List.size_toArray,<-r1.length,<-r2.length];exact hz)) ⟨ho,ho2,?_⟩
   rw[e];refine⟨.ref s.heap.objs.size,_,I.laid (t':=s.toks) (o:=.tup (xs++ys)) (λb ob q=>jb _ q) (ja _) ?_,rfl,q2 hx (λw=>hw (r2.nil_iff.mpr w)) _ (I.hok.fresh (ja _))⟩;exact⟨by rw[jh];exact hz,_,r1.append r2,TupN.new _ _⟩
def qmj(K:FrG):R2:=λx y H Q=>rI0 (λi j=>.int (i+j)) x y H Q∨qqe K x y H Q∨qqd K x y H Q∨∃i j,x=.str i/\y=.str j/\i.length+j.length<=sizeLine/\Q (.str (i++j)) H
theorem q21(hK:X.K=K):OpR X (binaryOp .Add) (qmj K):=op_add.or ((qmv hK).or ((qmu hK).or qdr))
end
section
variable{K:FrG}{O:List Nat}
def dAdd:D->D->Option D
 |.int i,.int j=>some (.int (i+j))
 |.lst xs,.lst ys=>if xs.length+ys.length<=sizeLine then some (.lst (xs++ys))else none
 |.tup xs,.tup ys=>if xs.length+ys.length<=sizeLine then some (.tup (xs++ys))else none
 |.str x,.str y=>if x.length+y.length<=sizeLine then some (.str (x++y))else none
 |_,_=>none
theorem q2t:OpG K (qmj K) dAdd:=λH R x y d e u Q s rx ry q k=>by
 unfold dAdd at q;split at q
 ·rename_i i j
  (first|obtain rfl:=q.isA rfl|cases q)
  (first|obtain rfl:=rx.isA rfl|cases rx)
  (first|obtain rfl:=ry.isA rfl|cases ry)
  exact .inl ⟨i,j,rfl,rfl,k _ H R (Ext.refl s) (.int _)⟩
 ·split at q
  ·rename_i hz
   (first|obtain rfl:=q.isA rfl|cases q)
   obtain⟨a1,xs,rfl,h,r⟩:=rx.isL;obtain⟨a2,ys,rfl,h2,r2⟩:=ry.isL;refine .inr (.inl ⟨_,_,_,_,rfl,rfl,Same.sqL s h,Same.sqL s h2,by rw[r.length,r2.length];exact hz,λp np=>?_⟩);have x:=Ext.new (o:=.lst (xs++ys)) s np;exact k _ _ _ x (.lst (SqL.of q0y) ((r.append r2).mono x.r))
  ·(first|obtain rfl:=q.isA rfl|cases q)
 ·split at q
  ·rename_i hz
   (first|obtain rfl:=q.isA rfl|cases q)
   obtain⟨a1,xs,rfl,h,r⟩:=rx.isT;obtain⟨a2,ys,rfl,h2,r2⟩:=ry.isT;refine .inr (.inr (.inl ⟨_,_,_,_,rfl,rfl,SqT.of (s _ _ h),SqT.of (s _ _ h2),by rw[r.length,r2.length];exact hz,λz=>?_,λ_ z=>?_,λ_ _ p np=>?_⟩))
   ·subst z
    (first|obtain rfl:=r.isA rfl|cases r)
    exact k _ H R (Ext.refl s) (.tup h2 r2)
   ·subst z
    (first|obtain rfl:=r2.isA rfl|cases r2)
    rw[List.append_nil]at k;exact k _ H R (Ext.refl s) (.tup h r)
   ·have x:=Ext.new (o:=.tup (xs++ys)) s np;exact k _ _ _ x (.tup q0y ((r.append r2).mono x.r))
  ·(first|obtain rfl:=q.isA rfl|cases q)
 ·rename_i i j;split at q
  ·rename_i hz
   (first|obtain rfl:=q.isA rfl|cases q)
   (first|obtain rfl:=rx.isA rfl|cases rx)
   (first|obtain rfl:=ry.isA rfl|cases ry)
   exact .inr (.inr (.inr ⟨i,j,rfl,rfl,hz,k _ H R (Ext.refl s) (.str _)⟩))
  ·(first|obtain rfl:=q.isA rfl|cases q)
 ·(first|obtain rfl:=q.isA rfl|cases q)
def OpN(K:FrG)(r:R2)(g:D->D->Option (List D)):Prop:=∀(H R:Hp) (x y:V) (d e:D) (us:List D) (Q:VK),(∀a o,R a=some o->H a=some o)->Rp K R x d->Rp K R y e->g d e=some us->(∀l vs,H l=none->Rps K R vs us->Q (.ref l) (upd H l (.lst vs)))->r x y H Q
def qj9(g:D->D->Option (List D))(fa fb:RhD):RhL:=q1u fa λx=>q1u fb λy=>q2v (g x y)
theorem qvp{ta tb:TE}{r:R2}{g:D->D->Option (List D)}{fa fb:RhD}(h:OpN K r g)(ha:ME K O ta fa)(hb:ME K O tb fb):MN K O (tOp r ta tb) (qj9 g fa fb):=λZ σ H R ρ d ρ' Q S e k=>by obtain⟨x,ρ1,e1,e⟩:=q0c e;obtain⟨y,ρ2,e2,e⟩:=q0c e;obtain⟨e3,rfl⟩:=q0l e;refine ha Z σ H R ρ x ρ1 _ S e1 λv H1 R1 S1 st1 r1=>hb Z σ H1 R1 ρ1 y _ _ S1 e2 λw H2 R2 S2 st2 r2=>?_;refine h H2 R2 v w x y d Q S2.sub (r1.mono st2.r) r2 e3 λl vs hl rv=>?_;have x:=Ext.hid (o:=.lst vs) S2.sub hl;exact k l vs _ _ (S2.ext x) ((st1.trans st2).trans x.stp) ((st1.trans st2).new hl) q0y (S2.out hl) rv
def qjy:D->D->Option (List D)
 |.lst xs,.lst ys=>if xs.length+ys.length<=sizeLine then some (xs++ys)else none
 |_,_=>none
theorem qqv:OpN K (qmj K) qjy:=λH R x y d e u Q s rx ry q k=>by
 unfold qjy at q;split at q
 ·split at q
  ·rename_i hz
   (first|obtain rfl:=q.isA rfl|cases q)
   obtain⟨_,_,rfl,h,r⟩:=rx.isL;obtain⟨_,_,rfl,h2,r2⟩:=ry.isL;exact .inr (.inl ⟨_,_,_,_,rfl,rfl,Same.sqL s h,Same.sqL s h2,by rw[r.length,r2.length];exact hz,λp np=>k p _ np (r.append r2)⟩)
  ·(first|obtain rfl:=q.isA rfl|cases q)
 ·(first|obtain rfl:=q.isA rfl|cases q)
end
mutual
def D.toP:D->Option PyData
 |.non=>some .none
 |.bl b=>some (.bool b)
 |.int i=>some (.int i)
 |.str x=>some (.str x)
 |.lst xs=>(D.toPs xs).map PyData.list
 |.tup xs=>(D.toPs xs).map PyData.tuple
 |.obj _ _=>none
 |.dct _=>none
 |.exc _=>none
 |.fn _=>none
 |.dit _=>none
def D.toPs:List D->Option (List PyData)
 |[]=>some []
 | d::r=>match D.toP d,D.toPs r with
  |some p,some ps=>some (p::ps)
  |_,_=>none
end
section
variable{K:FrG}{O:List Nat}{R:Hp}
theorem qtt(p:PyData)(e:D.toP .non=some p):DV K R .non p:=by simp only[D.toP]at e;cases e;exact .non
theorem qw0(b:Bool)(p:PyData)(e:D.toP (.bl b)=some p):DV K R (.bl b) p:=by simp only[D.toP]at e;cases e;exact .bl b
theorem qtv(b:Int)(p:PyData)(e:D.toP (.int b)=some p):DV K R (.int b) p:=by simp only[D.toP]at e;cases e;exact .int b
theorem qts(b:Str)(p:PyData)(e:D.toP (.str b)=some p):DV K R (.str b) p:=by simp only[D.toP]at e;cases e;exact .str b
theorem qtu{a:Addr}{xs:List V}{ds:List D}{p:PyData}(h:SqL K R a xs)(r:∀ps,D.toPs ds=some ps->DVs K R xs ps)(e:D.toP (.lst ds)=some p):DV K R (.ref a) p:=by
 simp only[D.toP]at e;cases z:D.toPs ds with
 |none=>rw[z]at e;cases e
 |some ps=>rw[z]at e;cases e;exact .lst h (r _ z)
theorem qtr{a:Addr}{xs:List V}{ds:List D}{p:PyData}(h:R a=some (.tup xs))(r:∀ps,D.toPs ds=some ps->DVs K R xs ps)(e:D.toP (.tup ds)=some p):DV K R (.ref a) p:=by
 simp only[D.toP]at e;cases z:D.toPs ds with
 |none=>rw[z]at e;cases e
 |some ps=>rw[z]at e;cases e;exact .tup (SqT.of h) (r _ z)
theorem qob(ps:List PyData)(e:D.toPs []=some ps):DVs K R [] ps:=by simp only[D.toPs]at e;cases e;exact .nil
theorem qjw{x:V}{xs:List V}{d:D}{ds:List D}{ps:List PyData}(h:∀p,d.toP=some p->DV K R x p)(r:∀ps,D.toPs ds=some ps->DVs K R xs ps)(e:D.toPs (d::ds)=some ps):DVs K R (x::xs) ps:=by
 simp only[D.toPs]at e;cases z:d.toP with
 |none=>rw[z]at e;cases e
 | some p=>
  cases w:D.toPs ds with
  |none=>rw[z,w]at e;cases e
  |some qs=>rw[z,w]at e;cases e;exact .cons (h _ z) (r _ w)
theorem Rp.dv{v:V}{d:D}{p:PyData}(h:Rp K R v d)(e:d.toP=some p):DV K R v p:=
 Rp.rec (motive_1:=λv d _=>∀p,d.toP=some p->DV K R v p) (motive_2:=λxs ds _=>∀ps,D.toPs ds=some ps->DVs K R xs ps) (motive_3:=λ_ _ _=>True) (motive_4:=λ_ _ _=>True) (motive_5:=λ_ _ _=>True)
  qtt qw0 qtv qts (λh _ r _=>qtu h r) (λh _ r _=>qtr h r) (λ_ _ _ _ _ e=>by simp only[D.toP]at e;cases e) (λ_ _ _ _ e=>by simp only[D.toP]at e;cases e) (λ_ _ _ _ e=>by simp only[D.toP]at e;cases e) (λ_ _ _ _ e=>by simp only[D.toP]at e;cases e) (λ_ _ e=>by simp only[D.toP]at e;cases e)
  qob (λ_ _ h r _=>qjw h r) trivial (λ_ _ _ _=>trivial) trivial (λ_ _ _ _=>trivial) trivial (λ_ _ _ _=>trivial) h _ e
def eqD(d e:D):Option Bool:=match d.toP,e.toP with
 |some p,some q=>if SeqAt.shaped p=true/\SeqAt.shaped q=true then some (PyData.eqv p q)else none
 |_,_=>none
def dEq(d e:D):Option D:=(eqD d e).map .bl
def dNe(d e:D):Option D:=(eqD d e).map λb=>.bl (!b)
theorem qco{d e:D}{b:Bool}(h:eqD d e=some b):∃p q,d.toP=some p/\e.toP=some q/\SeqAt.shaped p=true/\SeqAt.shaped q=true/\PyData.eqv p q=b:=by
 unfold eqD at h;cases h1:d.toP with
 |none=>rw[h1]at h;cases h
 | some p=>
  cases h2:e.toP with
  |none=>rw[h1,h2]at h;cases h
  | some q=>
   rw[h1,h2]at h;dsimp only at h;split at h
   ·rename_i z;exact⟨p,q,rfl,rfl,z.1,z.2,je h⟩
   ·(first|obtain rfl:=h.isA rfl|cases h)
theorem os_eq:OpS K (rEqD K) dEq:=λH x y d e u Q rx ry q k=>by
 unfold dEq at q;cases h:eqD d e with
 |none=>rw[h]at q;cases q
 | some b=>
  rw[h]at q
  (first|obtain rfl:=q.isA rfl|cases q)
  obtain⟨p,r,h1,h2,h3,h4,h5⟩:=qco h;refine⟨p,r,rx.dv h1,ry.dv h2,h3,h4,?_⟩;rw[h5];exact k _ (.bl _)
theorem q82:OpS K (rNeD K) dNe:=λH x y d e u Q rx ry q k=>by
 unfold dNe at q;cases h:eqD d e with
 |none=>rw[h]at q;cases q
 | some b=>
  rw[h]at q
  (first|obtain rfl:=q.isA rfl|cases q)
  obtain⟨p,r,h1,h2,h3,h4,h5⟩:=qco h;refine⟨p,r,rx.dv h1,ry.dv h2,h3,h4,?_⟩;rw[h5];exact k _ (.bl _)
def dIsN(d e:D):Option D:=match e with
 |.non=>some (.bl (match d with|.non=>true|_=>false))
 |_=>none
def q56(d e:D):Option D:=match e with
 |.non=>some (.bl (match d with|.non=>false|_=>true))
 |_=>none
theorem qfy:OpS K (λx y H Q=>y=.non/\Q (.bl (decide (x=.non))) H) dIsN:=λH x y d e u Q rx ry q k=>by
 (first|split at q|(unfold dIsN at q;split at q))
 ·obtain rfl:=ry.isA rfl;refine⟨rfl,?_⟩;cases rx<;>(cases q;exact k _ (.bl _))
 ·cases q
theorem qb5:OpS K (λx y H Q=>y=.non/\Q (.bl (!decide (x=.non))) H) q56:=λH x y d e u Q rx ry q k=>by
 (first|split at q|(unfold q56 at q;split at q))
 ·obtain rfl:=ry.isA rfl;refine⟨rfl,?_⟩;cases rx<;>(cases q;exact k _ (.bl _))
 ·cases q
end
section
variable{K:FrG}{O:List Nat}{t ta tb tc:TE}{tr:TA}{fa fb fc:RhD}{fs:RhL}
def qox(K:FrG)(r:List V->Hp->VK->Prop)(g:D->Option D):Prop:=∀(H R:Hp) (x:V) (d u:D) (Q:VK),(∀a o,R a=some o->H a=some o)->Rp K R x d->g d=some u->(∀v H' R',Ext H R H' R'->Rp K R' v u->Q v H')->r [x] H Q
theorem q50{r:List V->Hp->VK->Prop}{g:D->Option D}(h:qox K r g)(ha:ME K O t fa):ME K O (tCB r (q9i t tNil)) (mOp1 g fa):=λZ σ H R ρ d ρ' Q S e k=>by obtain⟨x,ρ1,e1,e⟩:=q0c e;obtain⟨e2,rfl⟩:=q0l e;refine ha Z σ H R ρ x _ _ S e1 λv H1 R1 S1 st1 r1=>?_;exact h H1 R1 v x d Q S1.sub r1 e2 λw H2 R2 x2 r2=>k w H2 R2 (S1.ext x2) (st1.trans x2.stp) r2
def qu6(K:FrG)(r:List V->Hp->VK->Prop)(g:D->Option (List D)):Prop:=∀(H R:Hp) (x:V) (d:D) (us:List D) (Q:VK),(∀a o,R a=some o->H a=some o)->Rp K R x d->g d=some us->(∀l vs,H l=none->Rps K R vs us->Q (.ref l) (upd H l (.lst vs)))->r [x] H Q
def q6s(g:D->Option (List D))(f:RhD):RhL:=q1u f λx=>q2v (g x)
theorem qch{r:List V->Hp->VK->Prop}{g:D->Option (List D)}(h:qu6 K r g)(ha:ME K O t fa):MN K O (tCB r (q9i t tNil)) (q6s g fa):=λZ σ H R ρ d ρ' Q S e k=>by obtain⟨x,ρ1,e1,e⟩:=q0c e;obtain⟨e2,rfl⟩:=q0l e;refine ha Z σ H R ρ x _ _ S e1 λv H1 R1 S1 st1 r1=>?_;refine h H1 R1 v x d Q S1.sub r1 e2 λl vs hl rv=>?_;have y:=Ext.hid (o:=.lst vs) S1.sub hl;exact k l vs _ _ (S1.ext y) (st1.trans y.stp) (st1.new hl) q0y (S1.out hl) rv
def dSeq:D->Option (List D)
 |.lst xs=>some xs
 |.tup xs=>some xs
 |_=>none
theorem qhc:qu6 K (λxs H Q=>∃p ys,xs=[.ref p]/\(SqL K H p ys∨SqT K H p ys)/\∀l,H l=none->Q (.ref l) (upd H l (.lst ys))) dSeq:=λH R x d us Q s r e k=>by
 (first|split at e|(unfold dSeq at e;split at e))
 ·obtain⟨_,_,rfl,h,q⟩:=r.isL;cases e;exact⟨_,_,rfl,.inl (Same.sqL s h),λl hl=>k l _ hl q⟩
 ·obtain⟨_,_,rfl,h,q⟩:=r.isT;cases e;exact⟨_,_,rfl,.inr (SqT.of (s _ _ h)),λl hl=>k l _ hl q⟩
 ·cases e
def q5i:D->Option D
 |.lst xs=>some (.tup xs)
 |.tup xs=>some (.tup xs)
 |_=>none
theorem q63:qox K (λxs H Q=>∃p ys,xs=[.ref p]/\((SqL K H p ys/\∀l,H l=none->Q (.ref l) (upd H l (.tup ys)))∨(SqT K H p ys/\Q (.ref p) H))) q5i:=λH R x d u Q s r e k=>by
 cases r with
 | lst h q=>
  cases e;refine⟨_,_,rfl,.inl ⟨Same.sqL s h,λl hl=>?_⟩⟩;rename_i a xs ds;have y:=Ext.new (o:=.tup xs) s hl;exact k _ _ _ y (.tup q0y (q.mono y.r))
 |tup h q=>cases e;exact⟨_,_,rfl,.inr ⟨SqT.of (s _ _ h),k _ H R (Ext.refl s) (.tup h q)⟩⟩
 |_=>cases e
def MO(K:FrG)(O:List Nat)(t:TO)(f:Rho->Option (Option Int×Rho)):Prop:=∀(Z:Anc) (σ:St) (H R:Hp) (ρ:Rho) (o:Option Int) (ρ':Rho) (Q:Option Int->Hp->Prop),StR K Z O σ H R ρ->f ρ=some (o,ρ')->(∀H' R',StR K Z O σ H' R' ρ'->Stp O σ H R H' R'->Q o H')->t σ H Q
theorem q6c:MO K O qei (mRet none):=λZ σ H R ρ o ρ' Q S e k=>by cases e;exact k H R S (Stp.refl _ _ _ _)
def q4g(f:RhD):Rho->Option (Option Int×Rho):=q1u f λd=>q2v (match d with
 |.int i=>some (some i)
 |_=>none)
theorem q48(h:ME K O t fa):MO K O (qp7 t) (q4g fa):=λZ σ H R ρ o ρ' Q S e k=>by
 obtain⟨x,ρ1,e1,e⟩:=q0c e;obtain⟨e2,rfl⟩:=q0l e;refine h Z σ H R ρ x _ _ S e1 λv H1 R1 S1 st1 r1=>?_
 (first|split at e2)
 ·rename_i i;obtain rfl:=r1.isA rfl;cases e2;exact⟨i,rfl,k H1 R1 S1 st1⟩
 ·cases e2
def cutD(xs:List D)(lo hi:Option Int):List D:=(xs.drop (HT.sIx xs.length 0 lo)).take (HT.sIx xs.length xs.length hi-HT.sIx xs.length 0 lo)
theorem Rps.cut{R:Hp}{xs:List V}{ds:List D}(r:Rps K R xs ds)(lo hi:Option Int):Rps K R (cutV xs lo hi) (cutD ds lo hi):=by unfold cutV cutD;rw[r.length];exact(r.drop _).take _
def rSlG(K:FrG):V->Option Int->Option Int->Hp->VK->Prop:=λx lo hi H Q=>rSlL K x lo hi H Q∨rSlT K x lo hi H Q
theorem q4o{X:Cx}(h:X.K=K):SlR X (rSlG K):=by subst h;exact sl_list.or qpl
def dSl(d:D)(lo hi:Option Int):Option D:=match d with
 |.lst xs=>some (.lst (cutD xs lo hi))
 |.tup xs=>if HT.sIx xs.length 0 lo=0/\HT.sIx xs.length xs.length hi=xs.length then none else some (.tup (cutD xs lo hi))
 |_=>none
def mSl(f:RhD)(fl fh:Rho->Option (Option Int×Rho)):RhD:=q1u f λd=>q1u fl λlo=>q1u fh λhi=>q2v (dSl d lo hi)
theorem q3z{tl th:TO}{fl fh:Rho->Option (Option Int×Rho)}(h:ME K O t fa)(hl:MO K O tl fl)(hh:MO K O th fh):ME K O (tSl (rSlG K) t tl th) (mSl fa fl fh):=λZ σ H R ρ d ρ' Q S e k=>by
 obtain⟨x,ρ1,e1,e⟩:=q0c e;obtain⟨lo,ρ2,e2,e⟩:=q0c e;obtain⟨hi,ρ3,e3,e⟩:=q0c e;obtain⟨e4,rfl⟩:=q0l e;refine h Z σ H R ρ x _ _ S e1 λv H1 R1 S1 st1 r1=>hl Z σ H1 R1 ρ1 lo _ _ S1 e2 λH2 R2 S2 st2=>hh Z σ H2 R2 ρ2 hi _ _ S2 e3 λH3 R3 S3 st3=>?_;have r3:=(r1.mono st2.r).mono st3.r;have st:=(st1.trans st2).trans st3;cases r3 with
 | @lst a xs ds q r=>
  cases e4;refine .inl ⟨a,xs,rfl,Same.sqL S3.same q,λp np=>?_⟩;have y:=Ext.new (o:=.lst (cutV xs lo hi)) S3.sub np;exact k _ _ _ (S3.ext y) (st.trans y.stp) (.lst (SqL.of q0y) ((r.cut lo hi).mono y.r))
 | @tup a xs ds q r=>
  have e5:(if HT.sIx ds.length 0 lo=0/\HT.sIx ds.length ds.length hi=ds.length then none else some (D.tup (cutD ds lo hi)))=some d:=e4;split at e5
  ·cases e5
  ·rename_i hn;cases e5;refine .inr ⟨a,xs,rfl,SqT.of (S3.same _ _ q),by rw[r.length];exact hn,λp np=>?_⟩;have y:=Ext.new (o:=.tup (cutV xs lo hi)) S3.sub np;exact k _ _ _ (S3.ext y) (st.trans y.stp) (.tup q0y ((r.cut lo hi).mono y.r))
 |_=>cases e4
def q8f(g g':D->D->Option D)(fa fb fc:RhD):RhD:=q1u fa λx=>q1u fb λy=>q1u (q0g (q2v (g x y))) λb=>if b=true then q1u fc λz=>q2v (g' y z)else mRet (.bl false)
theorem qj7{r r':R2}{g g':D->D->Option D}(h:OpS K r g)(h':OpS K r' g')(ha:ME K O ta fa)(hb:ME K O tb fb)(hc:ME K O tc fc):ME K O (ql2 r r' ta tb tc) (q8f g g' fa fb fc):=λZ σ H R ρ d ρ' Q S e k=>by
 obtain⟨x,ρ1,e1,e⟩:=q0c e;obtain⟨y,ρ2,e2,e⟩:=q0c e;obtain⟨b,ρ3,e3,e⟩:=q0c e;obtain⟨u,ρ4,f3,e4⟩:=q0c e3;obtain⟨g3,rfl⟩:=q0l f3;obtain⟨g4,rfl⟩:=q0l e4;refine ha Z σ H R ρ x _ _ S e1 λv H1 R1 S1 st1 r1=>hb Z σ H1 R1 ρ1 y _ _ S1 e2 λw H2 R2 S2 st2 r2=>?_;refine h H2 v w x y u _ ((r1.mono st2.r).mono S2.same) (r2.mono S2.same) g3 λz q=>?_;cases q with
 | bl c=>
  cases g4;refine⟨_,rfl,?_⟩;cases b with
  | true=>
   obtain⟨z,ρ5,e5,f⟩:=q0c e;obtain⟨e6,rfl⟩:=q0l f;refine iteT (hc Z σ H2 R2 _ z _ _ S2 e5 λw' H3 R3 S3 st3 r3=>?_);exact h' H3 w w' y z d Q ((r2.mono st3.r).mono S3.same) (r3.mono S3.same) e6 λv' q'=>k v' H3 R3 S3 ((st1.trans st2).trans st3) q'.rp
  |false=>cases e;exact iteF (k _ H2 R2 S2 (st1.trans st2) (.bl false))
 |_=>cases g4
theorem q8z{g:Int->Int->Bool}:OpS K (rI0 λi j=>.bl (g i j)) (dB0 g):=λH x y d e u Q rx ry q k=>by
 unfold dB0 at q;split at q
 ·rename_i i j
  (first|obtain rfl:=q.isA rfl|cases q)
  (first|obtain rfl:=rx.isA rfl|cases rx)
  (first|obtain rfl:=ry.isA rfl|cases ry)
  exact⟨i,j,rfl,rfl,k _ (.bl _)⟩
 ·(first|obtain rfl:=q.isA rfl|cases q)
def qvr(f:RhL):RhD:=q1u f λds=>q2v (match ds with
 |[.int i,.int j]=>if 0<j/\j<1073741824 then some (.tup [.int (i / j),.int (i % j)])else none
 |_=>none)
def mMM(g:Int->Int->Int)(f:RhL):RhD:=q1u f λds=>q2v (match ds with
 |[.int i,.int j]=>some (.int (g i j))
 |_=>none)
theorem qsi{g:Int->Int->Int}(h:MA K O tr fs):ME K O (tCB (λxs H Q=>∃i j,xs=[.int i,.int j]/\Q (.int (g i j)) H) tr) (mMM g fs):=λZ σ H R ρ d ρ' Q S e k=>by
 obtain⟨xs,ρ1,e1,e⟩:=q0c e;obtain⟨e2,rfl⟩:=q0l e;refine h Z σ H R ρ xs _ _ S e1 λvs H1 R1 S1 st1 r1=>?_;split at e2
 ·rename_i i j;cases e2;obtain⟨_,_,rfl,q,r⟩:=r1.isC
  (first|obtain rfl:=q.isA rfl|cases q)
  cases r with
  | cons q r=>
   (first|obtain rfl:=q.isA rfl|cases q)
   (first|obtain rfl:=r.isA rfl|cases r)
   exact⟨i,j,rfl,k _ H1 R1 S1 st1 (.int _)⟩
 ·cases e2
def qt2(K:FrG)(ta:TA):TI:=λσ H R=>(iZip K true true ta σ H R∨iZip K true false ta σ H R)∨(iZip K false true ta σ H R∨iZip K false false ta σ H R)
theorem q5l{X:Cx}{a b:Expr}{ta:TA}{p pos:Pos}{zk:List Expr}{x1:Nat}{tp:Pos}(hK:X.K=K)(hg:Gl X "zip")(hm:X.mg "zip"=none)(ha:PA X [a,b] ta)(he:starEach [a,b] X.env=(false,eval a X.env)::starEach [b] X.env:=by rfl)(hpl:(backTo pos (starEach [b] X.env)).any (·.1)=false:=by rfl):
 PI X (.Tuple zk x1 tp) (.Call (.Name "zip" p) [a,b] [] pos) (qt2 K ta):=λz5 s σ H R I q=>by
 rcases q with(q|q)|(q|q)
 ·exact qc5 true true hK hg hm ha he hpl z5 s σ H R I q
 ·exact qc5 true false hK hg hm ha he hpl z5 s σ H R I q
 ·exact qc5 false true hK hg hm ha he hpl z5 s σ H R I q
 ·exact qc5 false false hK hg hm ha he hpl z5 s σ H R I q
def zipD(xs ys:List D):List D:=List.zipWith (λx y=>D.tup [x,y]) xs ys
def mZip(f:RhL):RhL:=q1u f λds=>q2v (match ds with
 | [x,y]=>match dSeq x,dSeq y with
  |some xs,some ys=>some (zipD xs ys)
  |_,_=>none
 |_=>none)
theorem SqB.inj_same{K:FrG}{b:Bool}{R H:Hp}{p:Addr}{xs:List V}(s:Same R H)(h:SqB K b R p xs):SqB K b H p xs:=by
 cases b
 ·exact Same.tup s h
 ·exact Same.sqL s h
theorem qsz{R:Hp}{b1 b2:Bool}{p1 p2:Addr}{xs ys:List V}{ds es:List D}(h1:SqB K b1 R p1 xs)(h2:SqB K b2 R p2 ys)(r1:Rps K R xs ds)(r2:Rps K R ys es):ItOk K (Itz K b1 b2 p1 p2) R (zipD ds es):=λH' R' s b i=>by
 have q1:=(SqB.inj_same s h1);have q2:=(SqB.inj_same s h2);have g1:=(SqB.inj_same b q1);have g2:=(SqB.inj_same b q2);have len:(zipD ds es).length=min ds.length es.length:=by simp[zipD]
 have l1:=r1.length;have l2:=r2.length;refine⟨λe=>⟨xs,ys,g1,g2,by omega⟩,λd e=>?_⟩;unfold zipD at e;rw[List.getElem?_zipWith]at e;cases e1:ds[i]? with
 |none=>rw[e1]at e;cases e
 | some d1=>
  cases e2:es[i]? with
  |none=>rw[e1,e2]at e;cases e
  | some d2=>
   rw[e1,e2]at e;cases e;obtain⟨v1,a1,a2⟩:=r1.get e1;obtain⟨v2,c1,c2⟩:=r2.get e2;refine⟨⟨xs,ys,v1,v2,g1,g2,a1,c1⟩,λx H'' y=>?_⟩;obtain⟨T,x1,y1,rfl,hT,rfl,z1,z2⟩:=y;have w1:=z1 xs g1;have w2:=z2 ys g2;rw[a1]at w1;rw[c1]at w2;cases w1;cases w2;have y:=Ext.new (o:=.tup [v1,v2]) b hT;exact⟨_,y,.tup q0y (.cons ((a2.mono s).mono y.r) (.cons ((c2.mono s).mono y.r) .nil))⟩
theorem qad{x:D}{ds:List D}(h:dSeq x=some ds):x=.lst ds∨x=.tup ds:=by
 unfold dSeq at h;split at h
 ·cases h;exact .inl rfl
 ·cases h;exact .inr rfl
 ·(first|obtain rfl:=h.isA rfl|cases h)
theorem q7l(h:MA K O tr fs):MI K O (qt2 K tr) (mZip fs):=λZ σ H R ρ ds ρ' Q S e k=>by
 obtain⟨xs,ρ1,e1,e⟩:=q0c e;obtain⟨e2,rfl⟩:=q0l e;have go:∀(b1 b2:Bool) (x y:D) (as bs:List D),xs=[x,y]->ds=zipD as bs->(∀(R1:Hp) (v:V),Rp K R1 v x->∃p vs,v=.ref p/\SqB K b1 R1 p vs/\Rps K R1 vs as)->(∀(R1:Hp) (v:V),Rp K R1 v y->∃p vs,v=.ref p/\SqB K b2 R1 p vs/\Rps K R1 vs bs)->iZip K b1 b2 tr σ H Q:=λb1 b2 x y as bs hx hd g1 g2=>by
  subst hx hd;refine h Z σ H R ρ _ _ _ S e1 λvs H1 R1 S1 st1 r1=>?_;obtain⟨_,_,rfl,q,r⟩:=r1.isC;obtain⟨_,_,rfl,q',r⟩:=r.isC
  (first|obtain rfl:=r.isA rfl|cases r)
  obtain⟨p1,us,rfl,s1,t1⟩:=g1 _ _ q;obtain⟨p2,ws,rfl,s2,t2⟩:=g2 _ _ q';exact⟨p1,p2,rfl,⟨us,SqB.inj_same S1.same s1⟩,⟨ws,SqB.inj_same S1.same s2⟩,k _ H1 R1 S1 st1 (qsz s1 s2 t1 t2)⟩
 have gl:∀(as:List D) (R1:Hp) (v:V),Rp K R1 v (.lst as)->∃p vs,v=.ref p/\SqB K true R1 p vs/\Rps K R1 vs as:=λas R1 v r=>by obtain⟨_,_,rfl,h,q⟩:=r.isL;exact⟨_,_,rfl,h,q⟩
 have gt:∀(as:List D) (R1:Hp) (v:V),Rp K R1 v (.tup as)->∃p vs,v=.ref p/\SqB K false R1 p vs/\Rps K R1 vs as:=λas R1 v r=>by obtain⟨_,_,rfl,h,q⟩:=r.isT;exact⟨_,_,rfl,SqT.of h,q⟩
 split at e2
 ·rename_i x y;split at e2
  ·rename_i as bs h1 h2;cases e2;rcases qad h1 with rfl|rfl<;>rcases qad h2 with rfl|rfl
   ·exact .inl (.inl (go true true _ _ as bs rfl rfl (gl as) (gl bs)))
   ·exact .inl (.inr (go true false _ _ as bs rfl rfl (gl as) (gt bs)))
   ·exact .inr (.inl (go false true _ _ as bs rfl rfl (gt as) (gl bs)))
   ·exact .inr (.inr (go false false _ _ as bs rfl rfl (gt as) (gt bs)))
  ·cases e2
 ·cases e2
end
inductive TyO(K:FrG)(H:Hp):V->Value->Prop where
 |of {x:V} {t:Value} (h:TyOf K H x t):TyO K H x t
 |sl {a:Addr} {xs:List V} (h:SqL K H a xs):TyO K H (.ref a) (.type "list")
 |st {a:Addr} {xs:List V} (h:SqT K H a xs):TyO K H (.ref a) (.type "tuple")
def rIsO(K:FrG):List V->Hp->VK->Prop:=λxs H Q=>∃x y t c b,xs=[x,y]/\clsV y=some c/\TyO K H x t/\PySem.W.kitOne K t c=some b/\Q (.bl b) H
section
variable{X:Cx}{K:FrG}{O:List Nat}{t:TE}{fa:RhD}
theorem q3g(hK:X.K=K):q57 X (.builtin "isinstance") (rIsO K):=by
 subst hK;intro z5 s σ H xs us Q I r h;obtain⟨x,y,t,c,b,rfl,hc,ty,e,q⟩:=h;cases ty with
 |of h=>exact qk2 rfl z5 s σ H [x,y] us Q I r ⟨x,y,t,c,b,rfl,hc,h,e,q⟩
 | sl h=>
  obtain⟨u,w,rfl,ru,rw'⟩:=vals2 r
  (first|obtain rfl:=ru.isA rfl|cases ru)
  have ew:w=c:=by
   cases y with
   |ref a=>exact(show w=Value.ref a from rw').trans (je hc)
   |ty n=>exact(show w=Value.type n from rw').trans (je hc)
   |_=>cases hc
  subst ew;obtain⟨its,rv,pl,_⟩:=I.list h;obtain⟨o,e1,c1,_⟩:=pl.isList;exact PySem.W.kia_one PySem.W.kitx_list I.kIn ⟨o,e1,c1⟩ e (λz=>nomatch z) λtk=>⟨.bl b,H,I.tok tk,rfl,q⟩
 | st h=>
  obtain⟨u,w,rfl,ru,rw'⟩:=vals2 r
  (first|obtain rfl:=ru.isA rfl|cases ru)
  have ew:w=c:=by
   cases y with
   |ref a=>exact(show w=Value.ref a from rw').trans (je hc)
   |ty n=>exact(show w=Value.type n from rw').trans (je hc)
   |_=>cases hc
  subst ew;obtain⟨its,rv,pl,_⟩:=I.tuple h;obtain⟨o,e1,c1,_⟩:=pl;exact PySem.W.kia_one PySem.W.kitx_tuple I.kIn ⟨o,e1,c1⟩ e (λz=>nomatch z) λtk=>⟨.bl b,H,I.tok tk,rfl,q⟩
def tyN:D->Option String
 |.non=>some "NoneType"
 |.bl _=>some "bool"
 |.int _=>some "int"
 |.str _=>some "str"
 |.lst _=>some "list"
 |.tup _=>some "tuple"
 |.dct _=>some "dict"
 |.exc _=>none
 |.fn _=>none
 |.dit _=>some "dict"
 |.obj _ _=>none
theorem qp3{H:Hp}{v:V}{d:D}{n:String}(r:Rp K H v d)(e:tyN d=some n):TyO K H v (.type n):=by
 cases r with
 |non=>cases e;exact .of .non
 |bl b=>cases e;exact .of (.bl b)
 |int i=>cases e;exact .of (.int i)
 |str x=>cases e;exact .of (.str x)
 |lst h _=>cases e;exact .sl h
 |tup h _=>cases e;exact .st (SqT.of h)
 |dct h _=>cases e;exact .of (.dK h)
 |dit h _=>cases e;exact .of (.dT h)
 |obj _ _=>cases e
 |exc _ _ _=>cases e
 |fn _=>cases e
def KitB(K:FrG)(Y:String)(f:String->Option Bool):Prop:=∀s b,f s=some b->PySem.W.kitOne K (.type s) (.type Y)=some b
def q2n(Y:String):String->Option Bool:=λs=>
 if s="NoneType" then some (decide (Y="NoneType"))else if s="bool" then some (decide (Y="bool")||decide (Y="int"))else if s="int" then some (decide (Y="int"))else if s="str" then some (decide (Y="str"))
 else if s="list" then some (decide (Y="list"))else if s="tuple" then some (decide (Y="tuple"))else if s="dict" then some (decide (Y="dict"))else none
theorem q92{Y:String}(h1:PySem.W.kitOne K (.type "NoneType") (.type Y)=some (decide (Y="NoneType")))(h2:PySem.W.kitOne K (.type "bool") (.type Y)=some (decide (Y="bool")||decide (Y="int")))(h3:PySem.W.kitOne K (.type "int") (.type Y)=some (decide (Y="int")))
 (h4:PySem.W.kitOne K (.type "str") (.type Y)=some (decide (Y="str"))) (h5:PySem.W.kitOne K (.type "list") (.type Y)=some (decide (Y="list"))) (h6:PySem.W.kitOne K (.type "tuple") (.type Y)=some (decide (Y="tuple"))) (h7:PySem.W.kitOne K (.type "dict") (.type Y)=some (decide (Y="dict"))):KitB K Y (q2n Y):=λs b e=>by
 unfold q2n at e;split at e
 ·rename_i z;subst z;rw[<-e];exact h1
 split at e
 ·rename_i z;subst z;rw[<-e];exact h2
 split at e
 ·rename_i z;subst z;rw[<-e];exact h3
 split at e
 ·rename_i z;subst z;rw[<-e];exact h4
 split at e
 ·rename_i z;subst z;rw[<-e];exact h5
 split at e
 ·rename_i z;subst z;rw[<-e];exact h6
 split at e
 ·rename_i z;subst z;rw[<-e];exact h7
 ·cases e
def dIsi(f:String->Option Bool)(d:D):Option D:=match tyN d with
 |some s=>(f s).map .bl
 |none=>none
theorem q5g{Y:String}{f:String->Option Bool}(hk:KitB K Y f)(ha:MB K O t fa):ME K O (tCB (rIsO K) (q9i t (q9i (tC (.ty Y)) tNil))) (mOp1 (dIsi f) fa):=λZ σ H R ρ d ρ' Q S e k=>by
 obtain⟨x,ρ1,e1,e⟩:=q0c e;obtain⟨e2,rfl⟩:=q0l e;refine ha Z σ H R ρ x _ _ S e1 λv H1 R1 S1 st1 r1=>?_;unfold dIsi at e2;cases e3:tyN x with
 |none=>rw[e3]at e2;cases e2
 | some s=>
  rw[e3]at e2;dsimp only at e2;cases e4:f s with
  |none=>rw[e4]at e2;cases e2
  | some b=>
   rw[e4]at e2;cases e2;exact⟨v,.ty Y,.type s,.type Y,b,rfl,rfl,qp3 r1 e3,hk s b e4,k _ H1 R1 S1 st1 (.bl b)⟩
end
def mOf(f:RhL):RhD:=q1u f λds=>mRet (D.lst ds)
section
variable{K:FrG}{O O1 O':List Nat}{t:TE}{c:MC}{u:TS}{f:RhO}{fn:RhL}
theorem q1h(h:MN K O t fn):ME K O t (mOf fn):=h.me
theorem q7g(h:MS c O O1 u f)(hs:subO c O1 O'=true):MS c O O' u f:=λZ E σ H R ρ o hP S e k=>by
 refine h Z E σ H R ρ o hP S e ?_;cases o with
 | nx ρ'=>
  intro σ' H' R' S' s';obtain⟨S2,s2⟩:=S'.sub' hP hs;exact k σ' H' _ S2 (s'.trans s2)
 |bk ρ'=>exact k
 |ct ρ'=>exact k
 |rt d ρ'=>exact k
theorem qna{k n:Nat}{js:List Nat}{wi:TI}{g:TG}{tt:TT}{te:TE}(he:MN c.K O (qd1 n js wi g tt te) fn)(hs:ownO c k O O'=true):MS c O O' (qfd k n js wi g tt te) (sOwn k fn):=
 show MS c O O' (tAsg (qd1 n js wi g tt te) (q6f k)) (sOwn k fn)from q5f he hs
theorem q7h{k n:Nat}{js:List Nat}{wi:TI}{g:TG}{tt:TT}{te:TE}(he:MN c.K O (qd1 n js wi g tt te) fn)(hs:subO c O O'=true)(hi:k∉O'):MS c O O' (qfd k n js wi g tt te) (sSet k (mOf fn)):=
 show MS c O O' (tAsg (qd1 n js wi g tt te) (q6f k)) (sSet k (mOf fn))from q1a (q1h he) hs hi
def qaw(fe:RhD):RhO:=λρ=>match fe ρ with
 |none=>none
 |some (_,ρ1)=>some (.nx ρ1)
theorem qgb{fe:RhD}(he:ME c.K O t fe)(hs:subO c O O'=true):MS c O O' (qej t) (qaw fe):=λZ E σ H R ρ o hP S e k=>by
 unfold qaw at e;cases e1:fe ρ with
 |none=>rw[e1]at e;cases e
 | some p=>
  obtain⟨d,ρ1⟩:=p;rw[e1]at e;cases e;refine he Z σ H R ρ d ρ1 _ S e1 λv H1 R1 S1 st1 r1=>?_;obtain⟨S2,s2⟩:=S1.sub' hP hs;exact k σ H1 _ S2 (st1.r.trans s2)
end
def qmx(i j:Int):Bool:=(decide (-(2^64)<i)&&decide (i<2^64))||(decide (-(2^64)<j)&&decide (j<2^64))
def qmy(_ j:Int):Bool:=decide (0<j)&&decide (j<1073741824)
def qrs(_ j:Int):Bool:=decide (0<j)
def qg3(i j:Int):Bool:=decide (0<=j)&&decide (j<=1000000)&&decide (i.natAbs<2^64)
def qrr(_ j:Int):Bool:=decide (0<=j)
abbrev dDiv:D->D->Option D:=dI2 qmy λi j=>i / j
abbrev dMod:D->D->Option D:=dI2 qrs λi j=>i % j
abbrev dPow:D->D->Option D:=dI2 qg3 λi j=>i^j.toNat
abbrev dShl:D->D->Option D:=dI2 qg3 λi j=>i*2^j.toNat
abbrev dShr:D->D->Option D:=dI2 qrr λi j=>i / 2^j.toNat
abbrev dSub:D->D->Option D:=dI0 λi j=>i-j
abbrev dAnd:D->D->Option D:=dI0 λi j=>Builtin.bitAnd i j
abbrev dXor:D->D->Option D:=dI0 λi j=>Builtin.bitXor i j
abbrev dLt:D->D->Option D:=dB0 λi j=>decide (i<j)
abbrev dLe:D->D->Option D:=dB0 λi j=>decide (i<=j)
abbrev dGt:D->D->Option D:=dB0 λi j=>decide (j<i)
section
variable{K:FrG}
theorem qg5:OpG K (rI CDiv λi j=>.int (i / j)) dDiv:=op_i λi j h=>by unfold qmy at h;simp only[Bool.and_eq_true,decide_eq_true_eq]at h;exact h
theorem q2l:OpG K (rI (λ_ j=>0<j) λi j=>.int (i % j)) dMod:=op_i λi j h=>of_decide_eq_true h
theorem qlo:OpG K (rI CPow λi j=>.int (i^j.toNat)) dPow:=op_i λi j h=>by unfold qg3 at h;simp only[Bool.and_eq_true,decide_eq_true_eq]at h;exact⟨h.1.1,h.1.2,h.2⟩
theorem q7d:OpG K (rI CPow λi j=>.int (i*2^j.toNat)) dShl:=op_i λi j h=>by unfold qg3 at h;simp only[Bool.and_eq_true,decide_eq_true_eq]at h;exact⟨h.1.1,h.1.2,h.2⟩
theorem qln:OpG K (rI (λ_ j=>0<=j) λi j=>.int (i / 2^j.toNat)) dShr:=op_i λi j h=>of_decide_eq_true h
theorem q5c:OpG K (rI0 λi j=>.int (i-j)) dSub:=qmt
theorem qa1:OpG K (rI0 λi j=>.int (Builtin.bitAnd i j)) dAnd:=qmt
theorem qrt:OpG K (rI0 λi j=>.int (Builtin.bitXor i j)) dXor:=qmt
def qme(K:FrG)(n:Nat):Sp:=λvs H Q _=>∃(b:Addr) (ns:List Int),vs=[.ref b]/\SqL K H b (ns.map V.int)/\ns.length<=n/\∀H',Q (.bl true) H'
theorem qsn{P:Program}{w:World}{mg:Str->Option Value}{base:Heap}{CX:CXT}{k n:Nat}{fa:Addr}{fd:FuncData}{x:Str}{f:List D->Option D}(F:FnOk P w K mg base CX k fa fd [x] (spP K false 1 f))(h:∀ns:List Int,ns.length<=n->f [.lst (ns.map D.int)]=some (.bl true)):FnOk P w K mg base CX k fa fd [x] (qme K n):=
 F.imp λvs H Q E q=>by obtain⟨b,ns,rfl,hb,hl,k⟩:=q;refine⟨rfl,H,[.lst (ns.map D.int)],.bl true,λ_ _ e=>e,.cons (.lst hb (Rps.ints ns)) .nil,h ns hl,λv H' R' _ r=>?_⟩;have r':Rp K R' v (.bl true):=r;cases r';exact k H'
end
section
variable{K:FrG}{O O':List Nat}{t ta tb:TE}{fa fb:RhD}{fn:RhL}{c:MC}
def dNeg:D->Option D
 |.int i=>some (.int (-i))
 |_=>none
theorem qlu(h:ME K O t fa):ME K O (tUn (rU λi=>.int (-i)) t) (mOp1 dNeg fa):=λZ σ H R ρ d ρ' Q S e k=>by
 obtain⟨x,ρ1,e1,e⟩:=q0c e;obtain⟨e2,rfl⟩:=q0l e;refine h Z σ H R ρ x _ _ S e1 λv H1 R1 S1 st1 r1=>?_
 (first|split at e2|(unfold dNeg at e2;split at e2))
 ·rename_i i;obtain rfl:=r1.isA rfl;cases e2;exact⟨i,rfl,k _ H1 R1 S1 st1 (.int _)⟩
 ·cases e2
def dAny:D->Option D
 |.lst xs=>(q4x xs).map λbs=>.bl (bs.any id)
 |_=>none
def sExt(i:Nat)(fn:RhL):RhO:=λρ=>if isL ρ i=true then(match fn ρ with
 |none=>none
 | some (ys,ρ1)=>match ρ1[i]? with
  |some (some (.lst xs))=>if xs.length+ys.length<=sizeLine then some (.nx (ρ1.set i (some (.lst (xs++ys)))))else none
  |_=>none)else none
theorem qga{i:Nat}(hi:i∈O)(ha:MN c.K O ta fn)(hs:subO c O O'=true):MS c O O' (qej (tBM c.K "list" qfk (tVar i) (q9i ta tNil))) (sExt i fn):=λZ E σ H R ρ o hP S e k=>by
 unfold sExt at e;split at e
 case isFalse=>cases e
 rename_i hL;cases e1:fn ρ with
 |none=>rw[e1]at e;cases e
 | some p=>
  obtain⟨ys,ρ1⟩:=p;rw[e1]at e;dsimp only at e;obtain⟨l,vs,ds,h1,h2,h3,h4,h5⟩:=S.own i hi;obtain⟨us,_,rfl,rfl,_⟩:=qlx hL h1 h5;refine⟨.ref l,h2,.inl ⟨rfl,us,SqL.of h3⟩,ha Z σ H R ρ ys ρ1 _ S e1 λb zs H1 R1 S1 st1 b0 bH bR r1=>?_⟩;obtain⟨l',vs',ds',g1,g2,g3,g4,g5⟩:=S1.own i hi;rw[h2]at g2;cases g2;rw[g1]at e;cases g5 with
  |dct _=>cases e
  |dit _=>cases e
  |lst g5=>
  rename_i vs' ds';dsimp only at e;split at e
  ·rename_i hz;cases e;refine⟨l,b,vs',zs,rfl,rfl,g3,bH,by rw[g5.length,r1.length];exact hz,?_⟩;obtain⟨S2,s2⟩:=(S1.write hi h2 (.lst (g5.append r1))).sub' hP hs;exact k σ _ _ S2 (st1.r.trans s2)
  ·cases e
def mRep(fn:RhL)(fb:RhD):RhL:=q1u fn λxs=>q1u fb λy=>q2v (match y with
 |.int k=>if -(2^63)<=k/\k<2^63/\xs.length*k.toNat<=sizeLine then some (List.replicate k.toNat xs).flatten else none
 |_=>none)
theorem Rps.rep{R:Hp}{xs:List V}{ds:List D}(r:Rps K R xs ds):∀k:Nat,Rps K R (List.replicate k xs).flatten (List.replicate k ds).flatten
 |0=>.nil
 | k+1=>by rw[List.replicate_succ,List.replicate_succ,List.flatten_cons,List.flatten_cons];exact r.append (Rps.rep r k)
theorem qgc(ha:MN K O ta fn)(hb:ME K O tb fb):MN K O (tOp rRep ta tb) (mRep fn fb):=λZ σ H R ρ d ρ' Q S e k=>by
 obtain⟨xs,ρ1,e1,e⟩:=q0c e;obtain⟨y,ρ2,e2,e⟩:=q0c e;obtain⟨e3,rfl⟩:=q0l e;refine ha Z σ H R ρ xs ρ1 _ S e1 λl vs H1 R1 S1 st1 h0 hH hR r1=>hb Z σ H1 R1 ρ1 y _ _ S1 e2 λw H2 R2 S2 st2 r2=>?_
 (first|split at e3)
 ·rename_i j;obtain rfl:=r2.isA rfl;have e4:(if -(2^63)<=j/\j<2^63/\xs.length*j.toNat<=sizeLine then some (List.replicate j.toNat xs).flatten else none)=some d:=e3;split at e4
  ·rename_i hz;cases e4;refine⟨l,j,vs,rfl,rfl,st2.h l _ hH (λi hi=>S.notnew h0 i hi),hz.1,hz.2.1,by rw[r1.length];exact hz.2.2,λp np=>?_⟩;have y:=Ext.hid (o:=.lst (List.replicate j.toNat vs).flatten) S2.sub np;exact k p _ _ _ (S2.ext y) ((st1.trans st2).trans y.stp) ((st1.trans st2).new np) q0y (S2.out np) ((r1.mono st2.r).rep _)
  ·cases e4
 ·cases e3
end
section
variable{M:Model}{A:Around}{E:Value->Shared->Prop}{s:Shared}
end
section
variable{X:Cx}{K:FrG}
end
section
variable{c:MC}{O O':List Nat}{te:TE}{fn:RhL}
end
theorem foldl_size{α:Type}(a:Array α):∀(k:Nat) (acc:Array α),(List.foldl (λx1 x2=>x1++x2) acc (List.replicate k a)).size=acc.size+k*a.size
 |0,acc=>by simp
 | k+1,acc=>by rw[List.replicate_succ,List.foldl_cons,foldl_size a k,Array.size_append,Nat.succ_mul];omega
theorem q6q:fillsNumberSlot (.type "tuple") "mul"=pure false:=
 PySem.fillsNumberSlot_seq (id:="tuple.__mul__") (r:=some (.builtin "tuple.__rmul__")) F.slot_tuple_mul.lookup (by decide+kernel) F.slot_tuple_rmul.lookup (by decide+kernel)
theorem q9q:seqRepeat? (.type "tuple")=pure (some (.builtin "tuple.__mul__")):=by unfold seqRepeat?;rw[PySem.seqSlot_of (T:="tuple") (name:="__mul__") (id:="tuple.__mul__") F.slot_tuple_mul.lookup (by decide+kernel),PySem.seqSlot_of (T:="tuple") (name:="__rmul__") (id:="tuple.__rmul__") F.slot_tuple_rmul.lookup (by decide+kernel)];rfl
theorem q84(a:Int)(t:Tok)(l:Addr)(items:Array Value)(n:Nat)(dd:Option Addr)(sl:Array (Option Value)):
 Meets (Builtin.«int.__rmul__» ⟨[.int a t,.ref l],[]⟩) (λ_ R s=>s.heap.get? l=some {cls:=.type "tuple",dict:=dd,data:=.seq items n,slots:=sl}/\R (.ok (.ret Value.notImplemented)) s):=
 .of_wp λprog w A R s h=>by obtain⟨hp,g,d,tk,os⟩:=s;obtain⟨hl,h⟩:=h;wp_walk;exact⟨_,rfl,h⟩
theorem qd0(l:Addr)(items:Array Value)(n:Nat)(dd:Option Addr)(sl:Array (Option Value))(x:Int)(u:Tok)(h1:1<x)(h2:x<=1000)(he:items.isEmpty=false)(hz:items.size<=1000):
 Meets (Builtin.«tuple.__mul__» ⟨[.ref l,.int x u],[]⟩) (λ_ R s=>s.heap.get? l=some {cls:=.type "tuple",dict:=dd,data:=.seq items n,slots:=sl}/\R (.ok (.ret (Value.ref s.heap.objs.size))) {s with heap:=s.heap.push {cls:=Value.type "tuple",data:=Data.seq (List.foldl (λx1 x2=>x1++x2) #[] (List.replicate x.toNat items))},toks:=s.toks}):=
 .of_wp λprog w A R s h=>by
  obtain⟨hp,g,d,tk,os⟩:=s;obtain⟨hl,h⟩:=h;have f1:=AutoSeq1.idx_int;have f2:=AutoSeq1.sub_tuple_tuple;have hc0:¬(decide (x< -2^63)||decide (x≥2^63))=true:=by simp only[Bool.or_eq_true,decide_eq_true_eq];omega
  have hc1:¬(items.isEmpty||x==1)=true:=by rw[he,Bool.false_or];simp;omega
  have hc2:¬(decide (x<=0)||items.isEmpty)=true:=by rw[he,Bool.or_false];simp;omega
  have hm:(items.size:Int)*x<=1000*1000:=Int.le_trans (Int.mul_le_mul_of_nonneg_left h2 (Int.natCast_nonneg _)) (Int.mul_le_mul_of_nonneg_right (by omega) (by decide));have hc3:¬(items.size:Int)*x>(2^63-1) / 8:=by omega
  have hc4:¬Builtin.Tuple.tupleTooMany ((items.size:Int)*x)=true:=by
   unfold Builtin.Tuple.tupleTooMany;have:(sizeLine:Int)≥1000*1000:=by decide
   simp;omega
  wp_walk using kj hl
  rw[if_neg hc0]
  wp_walk using kj hl
  rw[if_neg hc1];rw[if_neg hc2];rw[if_neg hc3];rw[if_neg hc4]
  wp_walk using kj hl
  have hc5:¬(List.foldl (λx1 x2=>x1++x2) #[] (List.replicate x.toNat items)).size>sizeLine:=by
   rw[foldl_size];have h7:x.toNat*items.size<=1000*1000:=Nat.mul_le_mul (by omega) hz;have h8:(sizeLine:Nat)≥1000*1000:=by decide
   simp;omega
  rw[if_neg hc5]
  wp_walk using kj hl
  exact⟨_,rfl,h⟩
def qqa(K:FrG):R2:=λx y H Q=>∃l k xs,x=.ref l/\y=.int k/\SqT K H l xs/\1<k/\k<=1000/\xs≠[]/\xs.length<=1000/\∀p,H p=none->Q (.ref p) (upd H p (.tup (List.replicate k.toNat xs).flatten))
section
variable{X:Cx}{K:FrG}
theorem qms(hK:X.K=K):OpR X (binaryOp .Mult) (qqa K):=by
 subst hK;intro z5 s σ H x y v u Q I rx ry h;obtain⟨l,k,xs,rfl,rfl,hH,h1,h2,hx,hz,q⟩:=h
 (first|obtain rfl:=rx.isA rfl|cases rx)
 obtain⟨t,rfl⟩:=ry;obtain⟨its,r1,p1,_⟩:=I.tuple hH;obtain⟨⟨cls,dd,data,sl⟩,ho,hc,n,hd⟩:=id p1;simp only at hc hd;subst hc hd;have zc:=r1.length;have he:its.toArray.isEmpty=false:=by
  cases its with
  |nil=>exact absurd (r1.nil_iff.mp rfl) hx
  |cons a r=>rfl
 have f0:List.foldl (λx1 x2=>x1++x2) #[] (List.replicate k.toNat its.toArray)=(List.replicate k.toNat its).flatten.toArray:=by have:=foldl_rep its k.toNat [];rw[List.nil_append]at this;exact this
 refine wpAny_binaryOp_repeat_ref (T:="tuple") (U:="int") (by decide) ⟨_,ho,rfl⟩ (λs'=>typeIs_int s' k t) q6q F.fills_int_mul F.slot_int_rmul q9q F.slot_int_index.lookup
  (call_meets F.slot_int_rmul (typeIs_int s k t) F.entry_int_rmul (F.args_int_rmul_2 _ _) (q84 k t l its.toArray n dd sl)
    ⟨ho,rfl,⟨_,ho,rfl⟩,call_meets F.slot_tuple_mul ⟨_,ho,rfl⟩ F.entry_tuple_mul (F.args_tuple_mul_2 _ _) (qd0 l its.toArray n dd sl k t h1 h2 he (by rw[jw];omega)) ⟨ho,?_⟩⟩)
 rw[f0];have hsz:(List.replicate k.toNat xs).flatten.length<=sizeLine:=by rw[len_rep];exact jr (Nat.mul_le_mul (by omega:k.toNat<=1000) hz) (by decide)
 refine⟨.ref s.heap.objs.size,_,I.laid (t':=s.toks) (o:=.tup (List.replicate k.toNat xs).flatten) (λb ob q=>jb _ q) (ja _) ?_,rfl,q _ (I.hok.fresh (ja _))⟩;exact⟨hsz,_,r1.rep k.toNat,TupN.new _ _⟩
def qbu(z:Str)(k:Int):Str:=if(k==1||z.length==0)=true then z else⟨List.foldl (λx1 x2=>x1++x2) #[] (List.replicate k.toNat z.cps)⟩
theorem qfz:OpR X (binaryOp .Mult) (λx y H Q=>∃z k,x=.str z/\y=.int k/\0<k/\k<=1000/\0<z.length/\z.length<=1000/\Q (.str (qbu z k)) H):=by
 intro z5 s σ H x y v u Q I rx ry h;obtain⟨z,k,rfl,rfl,h1,h2,h3,h4,q⟩:=h;obtain⟨t,rfl⟩:=rx;obtain⟨t',rfl⟩:=ry;have hm:z.length*k.toNat<=1000*1000:=Nat.mul_le_mul h4 (by omega);refine PySem.P.mul_str (by simp;omega) (λ_ _=>?_) (λ_ _=>?_) ?_
 ·intro hgt;have h5:((2:Int)^63-1) / 1000<=(2^63-1) / k:=by
   refine Int.le_ediv_of_mul_le h1 ?_;have:((2:Int)^63-1) / 1000*k<=(2^63-1) / 1000*1000:=Int.mul_le_mul_of_nonneg_left h2 (by decide);exact Int.le_trans this (by decide)
  have h6:(1000:Int)<(2^63-1) / 1000:=by decide
  omega
 ·unfold Builtin.Str.tooLong;have:(sizeLine:Nat)≥1000*1000:=by decide
  simp;omega
 ·rw[if_neg (by omega)];unfold qbu at q;split
  ·rename_i hh;rw[if_pos hh]at q;exact⟨.str z,H,I,⟨t,rfl⟩,q⟩
  ·rename_i hh;rw[if_neg hh]at q;refine⟨?_,⟨.str _,H,I.tok _,⟨_,rfl⟩,q⟩⟩;show(List.foldl (λx1 x2=>x1++x2) #[] (List.replicate k.toNat z.cps)).size<=sizeLine;rw[foldl_size];have h7:k.toNat*z.cps.size<=1000*1000:=Nat.mul_le_mul (by omega) h4;have h8:(sizeLine:Nat)≥1000*1000:=by decide
   simp;omega
def CMul2(i j:Int):Prop:=CMul i j∨(i.natAbs<2^250/\j.natAbs<2^250)
theorem qhm{k:Int}(h:k.natAbs<2^250):Builtin.Int.intBits k<=250:=by
 unfold Builtin.Int.intBits;split
 ·exact Nat.zero_le _
 ·rename_i h0;have hk:k.natAbs≠0:=λz=>h0 (by simpa using z);have:k.natAbs.log2<250:=(Nat.log2_lt hk).mpr h;omega
theorem CMul2.ok{i j:Int}(h:CMul2 i j):IntMulOk i j:=by
 rcases h with h|⟨h1,h2⟩
 ·exact h.ok
 ·exact IntMulOk.of_le (qhm h1) (qhm h2) (by decide)
theorem op_mul2:OpR X (binaryOp .Mult) (rI CMul2 λi j=>.int (i*j)):=opI λ_ _ _ _ _ _ _ hc q=>mul_int q hc.ok
def bigM(i:Int):Bool:=decide (i.natAbs<2^250)
def qcc(i j:Int):Bool:=qmx i j||(bigM i&&bigM j)
theorem qg4{i j:Int}(h:qcc i j=true):CMul2 i j:=by
 unfold qcc qmx bigM at h;simp only[Bool.or_eq_true,Bool.and_eq_true,decide_eq_true_eq]at h;rcases h with h|h
 ·exact .inl h
 ·exact .inr h
def qqb(K:FrG):R2:=λx y H Q=>rI CMul2 (λi j=>.int (i*j)) x y H Q∨qqa K x y H Q∨∃z k,x=.str z/\y=.int k/\0<k/\k<=1000/\0<z.length/\z.length<=1000/\Q (.str (qbu z k)) H
theorem q3o(hK:X.K=K):OpR X (binaryOp .Mult) (qqb K):=op_mul2.or ((qms hK).or qfz)
end
def q3u:D->D->Option D
 |.int i,.int j=>if qcc i j=true then some (.int (i*j))else none
 |.tup xs,.int k=>if 1<k/\k<=1000/\xs≠[]/\xs.length<=1000 then some (.tup (List.replicate k.toNat xs).flatten)else none
 |.str z,.int k=>if 0<k/\k<=1000/\0<z.length/\z.length<=1000 then some (.str (qbu z k))else none
 |_,_=>none
theorem q3p{K:FrG}:OpG K (qqb K) q3u:=λH R x y d e u Q s rx ry q k=>by
 unfold q3u at q;split at q
 ·rename_i i j;split at q
  ·rename_i h
   (first|obtain rfl:=q.isA rfl|cases q)
   (first|obtain rfl:=rx.isA rfl|cases rx)
   (first|obtain rfl:=ry.isA rfl|cases ry)
   exact .inl ⟨i,j,rfl,rfl,qg4 h,k _ H R (Ext.refl s) (.int _)⟩
  ·(first|obtain rfl:=q.isA rfl|cases q)
 ·rename_i ds j;split at q
  ·rename_i hc
   (first|obtain rfl:=q.isA rfl|cases q)
   (first|obtain rfl:=ry.isA rfl|cases ry)
   obtain⟨a,xs,rfl,h,r⟩:=rx.isT;refine .inr (.inl ⟨a,j,xs,rfl,rfl,SqT.of (s _ _ h),hc.1,hc.2.1,λz=>?_,by rw[r.length];exact hc.2.2.2,λp np=>?_⟩)
   ·subst z
    (first|obtain rfl:=r.isA rfl|cases r)
    exact hc.2.2.1 rfl
   ·have y:=Ext.new (o:=.tup (List.replicate j.toNat xs).flatten) s np;exact k _ _ _ y (.tup q0y ((r.rep _).mono y.r))
  ·(first|obtain rfl:=q.isA rfl|cases q)
 ·rename_i z j;split at q
  ·rename_i hc
   (first|obtain rfl:=q.isA rfl|cases q)
   (first|obtain rfl:=ry.isA rfl|cases ry)
   (first|obtain rfl:=rx.isA rfl|cases rx)
   exact .inr (.inr ⟨z,j,rfl,rfl,hc.1,hc.2.1,hc.2.2.1,hc.2.2.2,k _ H R (Ext.refl s) (.str _)⟩)
  ·(first|obtain rfl:=q.isA rfl|cases q)
 ·(first|obtain rfl:=q.isA rfl|cases q)
section
variable{X:Cx}{K:FrG}{O:List Nat}{pos:Pos}
end
inductive TyX(K:FrG)(H:Hp):V->Value->Prop where
 |exc {a C:Addr} (h:H a=some (excO a (.ref C))) (k:ExcK K C):TyX K H (.ref a) (.ref C)
 |non:TyX K H .non (.type "NoneType")
section
variable{X:Cx}{K:FrG}{O:List Nat}{t:TE}{fa:RhD}
structure KitE(K:FrG)(c:Value)(sub:Str->Option Bool):Prop where
 exc:∀x C b,PySem.W.nsIn K mainGlobals x=some (some (.ref C))->sub x=some b->PySem.W.kitOne K (.ref C) c=some b
 non:PySem.W.kitOne K (.type "NoneType") c=some false
structure qw3(K:FrG)(cs:List Value)(sub:Str->Option Bool):Prop where
 exc:∀x C b,PySem.W.nsIn K mainGlobals x=some (some (.ref C))->sub x=some b->PySem.W.kitAny K (.ref C) cs=some b
 non:PySem.W.kitAny K (.type "NoneType") cs=some false
end
abbrev Xr:=Rho->Option (Str×Rho)
def ExE(K:FrG)(E:XK)(C:Str)(H:Hp):Prop:=∀v,PySem.W.nsIn K mainGlobals C=some (some v)->E v none H
section
variable(K:FrG)(O:List Nat)
end
section
variable{K:FrG}{O:List Nat}{E:XK}{t ta tb:TE}{tr:TA}{tt:TT}{fa fb:RhD}{fs:RhL}{xa xb xs:Xr}
end
def MSX(c:MC)(O:List Nat)(t:TS)(E:XK)(fx:Xr):Prop:=∀(Z:Anc) (D:Ends) (σ:St) (H R:Hp) (ρ:Rho) (C:Str) (ρ':Rho),Z.P=c.P->StR c.K Z O σ H R ρ->fx ρ=some (C,ρ')->(∀O' σ' H' R',StR c.K Z O' σ' H' R' ρ'->ExE c.K E C H')->t D σ H
def MSXa(c:MC)(O:List Nat)(t:TS)(E:XK)(fx:Xr):Prop:=∀(Z:Anc) (D:Ends) (σ:St) (H R:Hp) (ρ:Rho) (C:Str) (ρ':Rho),Z.P=c.P->StR c.K Z O σ H R ρ->fx ρ=some (C,ρ')->(∀H' R',StR c.K Z O σ H' R' ρ'->Same R R'->ExE c.K E C H')->t D σ H
theorem MSXa.g{c:MC}{O:List Nat}{t:TS}{E:XK}{fx:Xr}(h:MSXa c O t E fx):MSX c O t E fx:=λZ D σ H R ρ C ρ' hP S e k=>h Z D σ H R ρ C ρ' hP S e λH' R' S' _=>k O σ H' R' S'
section
variable{c:MC}{O O' O1:List Nat}{t u:TS}{te:TE}{tt:TT}{tr:TA}{g:TG}{f h:RhO}{fe:RhD}{fs:RhL}{ft:RhB}{E:XK}{xe xt fx hx:Xr}
end
section
variable{c:MC}{O O':List Nat}{cv:Value}{i:Nat}{sub:Str->Bool}{tb:XK->TS}{ts:TS}{fb fh:RhO}{xb:Xr}
end
section
variable{K:FrG}{O:List Nat}{tr:TA}{fs:RhL}{E:XK}{n:Nat}
end
section
variable{K:FrG}
end
section
variable(K:FrG)(O:List Nat)
end
section
variable{K:FrG}{O:List Nat}{ta:TE}{tr:TA}{fa:RhD}{fs:RhL}{E:XK}{n:Nat}
end
theorem q96{α:Type}{o:Option (α×Rho)}{x:α}(h:o.map (·.1)=some x):∃ρ,o=some (x,ρ):=by
 cases o with
 |none=>cases h
 |some p=>cases h;exact⟨p.2,rfl⟩
theorem q42{n:Nat}{js:List Nat}{fg:RhG}{fe:RhD}{ρ:Rho}(g:D->D):∀(xs:List D),(∀x∈xs,∃ρ1,fg x (q64 n js ρ)=some ρ1/\(fe ρ1).map (·.1)=some (g x))->q15 n js none fg (mRet true) fe xs ρ=some (xs.map g,ρ)
 |[],_=>rfl
 | x::xs,h=>by obtain⟨ρ1,h1,h2⟩:=h x jg;obtain⟨ρ2,h2⟩:=q96 h2;have ih:=q42 (n:=n) (js:=js) (fg:=fg) (fe:=fe) (ρ:=ρ) g xs λy hy=>h y (jj _ hy);simp only[q15,h1,mRet,h2,q5r];rw[ih];rfl
theorem q4c{n:Nat}{js:List Nat}{fg:RhG}{ft:RhB}{fe:RhD}{ρ:Rho}(p:D->Bool)(g:D->D):∀(xs:List D),(∀x∈xs,∃ρ1,fg x (q64 n js ρ)=some ρ1/\ft ρ1=some (p x,ρ1)/\(p x=true->(fe ρ1).map (·.1)=some (g x)))->q15 n js none fg ft fe xs ρ=some ((xs.filter p).map g,ρ)
 |[],_=>rfl
 | x::xs,h=>by
  obtain⟨ρ1,h1,h2,h3⟩:=h x jg;have ih:=q4c (n:=n) (js:=js) (fg:=fg) (ft:=ft) (fe:=fe) (ρ:=ρ) p g xs λy hy=>h y (jj _ hy);cases hp:p x with
  | false=>
   rw[hp]at h2;simp only[q15,h1,h2,q5r];rw[ih,List.filter_cons_of_neg (by rw[hp];exact Bool.false_ne_true)]
  | true=>
   rw[hp]at h2;obtain⟨ρ3,h4⟩:=q96 (h3 hp);simp only[q15,h1,h2,h4,q5r];rw[ih,List.filter_cons_of_pos hp];rfl
theorem q2r{fg:RhG}{fb:RhO}(I:Nat->Rho->Prop):∀(xs:List D) (k:Nat) (ρ:Rho),I k ρ->(∀i x ρ,xs[i]? =some x->I (k+i) ρ->∃ρ1 ρ2,fg x ρ=some ρ1/\(fb ρ1=some (.nx ρ2)∨fb ρ1=some (.ct ρ2))/\I (k+i+1) ρ2)->∃ρ',q23 fg fb xs ρ=some (.nx ρ')/\I (k+xs.length) ρ'
 |[],k,ρ,h0,_=>⟨ρ,rfl,h0⟩
 | x::xs,k,ρ,h0,hs=>by
  obtain⟨ρ1,ρ2,h1,h2,h3⟩:=hs 0 x ρ rfl h0;obtain⟨ρ',g1,g2⟩:=q2r I xs (k+1) ρ2 h3 λi y ρ e hi=>by
   have e1:k+1+i=k+(i+1):=by omega
   rw[e1]at hi ⊢;exact hs (i+1) y ρ (by simpa using e) hi
  refine ⟨ρ', ?_, by rw[jq];have e1:k+(xs.length+1)=k+1+xs.length:=by omega
                     rw[e1];exact g2⟩
  simp only[q23,h1];rcases h2 with h2|h2
  ·rw[h2];exact g1
  ·rw[h2];exact g1
theorem qbf{fg:RhG}{fb:RhO}(I:Rho->Prop):∀(xs:List D) (ρ:Rho),I ρ->(∀x ρ,x∈xs->I ρ->∃ρ1 ρ2,fg x ρ=some ρ1/\(fb ρ1=some (.nx ρ2)∨fb ρ1=some (.ct ρ2))/\I ρ2)->∃ρ',q23 fg fb xs ρ=some (.nx ρ')/\I ρ':=λxs ρ h0 hs=>by obtain⟨ρ',h1,h2⟩:=q2r (fg:=fg) (fb:=fb) (λ_=>I) xs 0 ρ h0 λi x ρ e hi=>hs x ρ (xv e) hi;exact⟨ρ',h1,h2⟩
theorem at0{α:Type}(x:α)(xs:List α):atI (x::xs) 0=some x:=by unfold atI ixN;simp
theorem at1{α:Type}(x y:α)(xs:List α):atI (x::y::xs) 1=some y:=qbn (j:=1) rfl
theorem at2{α:Type}(x y z:α)(xs:List α):atI (x::y::z::xs) 2=some z:=qbn (j:=2) rfl
theorem at3{α:Type}(x y z u:α)(xs:List α):atI (x::y::z::u::xs) 3=some u:=qbn (j:=3) rfl
theorem q37{α:Type}{xs:List α}{i:Int}(h0:0<=i)(h:i<xs.length):atI xs i=xs[i.toNat]? :=by unfold atI ixN;rw[if_pos h0,if_pos h];rfl
theorem q1d{n:Nat}(h:n<=1000000):n<=sizeLine:=jr h (by decide)
theorem q1s(lo:Int)(n:Nat):(q1f lo n).length=n:=by simp[q1f]
theorem q1z{lo:Int}{n i:Nat}{d:D}(h:(q1f lo n)[i]? =some d):i<n/\d=.int (lo+(i:Int)):=by
 have hi:i<n:=by
  have:=(List.getElem?_eq_some_iff.mp h).1
  rwa [q1s]at this
 refine⟨hi,?_⟩;unfold q1f at h;rw[jc,xq hi]at h;exact(je h).symm
def nx(s:Int):Int:=(s*1181783497276652981+12345678910987) % (2^61-1)
theorem qh6(i j:Int):eqD (.int i) (.int j)=some (i==j):=by simp[eqD,D.toP,SeqAt.shaped,PyData.canLay0,PyData.depth,PyData.eqv]
theorem q36{i j:Str}(hi:PyData.strOk i=true)(hj:PyData.strOk j=true):eqD (.str i) (.str j)=some (i==j):=by simp[eqD,D.toP,SeqAt.shaped,PyData.canLay0,PyData.depth,PyData.eqv,hi,hj]
theorem q6n(j:Int):eqD .non (.int j)=some false:=by simp[eqD,D.toP,SeqAt.shaped,PyData.canLay0,PyData.depth,PyData.eqv]
theorem q6o(j:Int):eqD (.int j) .non=some false:=by simp[eqD,D.toP,SeqAt.shaped,PyData.canLay0,PyData.depth,PyData.eqv]
theorem eqD_none:eqD .non .non=some true:=by simp[eqD,D.toP,SeqAt.shaped,PyData.canLay0,PyData.depth,PyData.eqv]
section
variable{α β:Type}{a:Rho->Option (α×Rho)}{k:α->Rho->Option (β×Rho)}{ρ:Rho}{fa fb fc:RhD}{ga gb:RhB}{fs:RhL}{g g':D->D->Option D}{g1:D->Option D}{gl:D->Option (List D)}{g2:D->D->Option (List D)}{fl fh:Rho->Option (Option Int×Rho)}
theorem q17:q1u a k ρ=(a ρ).bind λp=>k p.1 p.2:=by unfold q1u;cases a ρ<;>rfl
theorem qtd{x:α}:mRet x ρ=some (x,ρ):=rfl
theorem q24{o:Option α}:q2v o ρ=o.map λx=>(x,ρ):=by cases o<;>rfl
theorem qm1{i:Nat}:mVar i ρ=(ρ[i]?).join.map λd=>(d,ρ):=by
 unfold mVar;cases h:ρ[i]? with
 |none=>rfl
 |some o=>cases o<;>rfl
theorem qtf:mOp2 g fa fb ρ=(fa ρ).bind λp=>(fb p.2).bind λq=>(g p.1 q.1).map λx=>(x,q.2):=by unfold mOp2;rw[q17];congr 1;funext p;rw[q17];congr 1;funext q;rw[q24]
theorem qtg:mOp1 g1 fa ρ=(fa ρ).bind λp=>(g1 p.1).map λx=>(x,p.2):=by unfold mOp1;rw[q17];congr 1;funext p;rw[q24]
theorem qo0:q6s gl fa ρ=(fa ρ).bind λp=>(gl p.1).map λx=>(x,p.2):=by unfold q6s;rw[q17];congr 1;funext p;rw[q24]
theorem qnz:qj9 g2 fa fb ρ=(fa ρ).bind λp=>(fb p.2).bind λq=>(g2 p.1 q.1).map λx=>(x,q.2):=by unfold qj9;rw[q17];congr 1;funext p;rw[q17];congr 1;funext q;rw[q24]
def ixO:D->D->Option D
 |.lst xs,.int j=>atI xs j
 |_,_=>none
theorem qtk{i:Nat}:mIxO i fb ρ=(fb ρ).bind λq=>((q.2[i]?).join).bind λx=>(ixO x q.1).map λz=>(z,q.2):=by
 unfold mIxO;rw[q17];congr 1;funext q;rw[q17,qm1];cases(q.2[i]?).join with
 |none=>rfl
 |some x=>show q2v _ _=_;rw[q24];first|rfl|(cases x<;>(cases q.1<;>rfl))
def blO:D->Option Bool
 |.bl b=>some b
 |_=>none
theorem qh2:q0g fa ρ=(fa ρ).bind λp=>(blO p.1).map λx=>(x,p.2):=by
 unfold q0g;rw[q17];congr 1;funext p;rw[q24]
 first|rfl|(cases p.1<;>rfl)
theorem qth:mNot ga ρ=(ga ρ).map λp=>(!p.1,p.2):=by unfold mNot;rw[q17];cases ga ρ<;>rfl
theorem qtn:mAnd ga gb ρ=(ga ρ).bind λp=>if p.1=true then gb p.2 else some (false,p.2):=by unfold mAnd;rw[q17];congr 1;funext p;split<;>rfl
theorem qvx:mOr ga gb ρ=(ga ρ).bind λp=>if p.1=true then some (true,p.2)else gb p.2:=by unfold mOr;rw[q17];congr 1;funext p;split<;>rfl
theorem qo9:q91 fa fb ρ=(q0g fa ρ).bind λp=>if p.1=true then fb p.2 else some (.bl false,p.2):=by unfold q91;rw[q17];congr 1;funext p;split<;>rfl
theorem qo1:qdx fa ρ=(q0g fa ρ).map λp=>(.bl (!p.1),p.2):=by unfold qdx;rw[q17];cases q0g fa ρ<;>rfl
theorem qvz:mIf ga fa fb ρ=(ga ρ).bind λp=>if p.1=true then fa p.2 else fb p.2:=by unfold mIf;rw[q17];congr 1;funext p;split<;>rfl
theorem qti:mNil ρ=some ([],ρ):=rfl
theorem qo6:q01 fa fs ρ=(fa ρ).bind λp=>(fs p.2).map λq=>(p.1::q.1,q.2):=by unfold q01;rw[q17];congr 1;funext p;rw[q17];cases fs p.2<;>rfl
theorem qt9:mTup fs ρ=(fs ρ).bind λp=>if p.1.length<=sizeLine then some (.tup p.1,p.2)else none:=by unfold mTup;rw[q17];congr 1;funext p;rw[q24];split<;>rfl
theorem qtj:mLst fs ρ=(fs ρ).bind λp=>if p.1.length<=sizeLine then some (p.1,p.2)else none:=by unfold mLst;rw[q17];congr 1;funext p;rw[q24];split<;>rfl
theorem qvy:mOf fs ρ=(fs ρ).map λp=>(.lst p.1,p.2):=by unfold mOf;rw[q17];cases fs ρ<;>rfl
theorem qo8{f:List D->Option D}:q0k f fs ρ=(fs ρ).bind λp=>(f p.1).map λx=>(x,p.2):=by unfold q0k;rw[q17];congr 1;funext p;rw[q24]
theorem qjs{f:List D->Option D}:q1m f fs ρ=(fs ρ).bind λp=>(qgn (f p.1)).map λx=>(x,p.2):=by unfold q1m;rw[q17];congr 1;funext p;rw[q24]
def lsO:D->Option (List D)
 |.lst xs=>some xs
 |_=>none
theorem qo7{n:Nat}{js:List Nat}{bw:Option (Nat×Nat)}{fg:RhG}:q1t n js bw fs fg ga fa ρ=(fs ρ).bind λp=>if p.1.length<=sizeLine then q15 n js bw fg ga fa p.1 p.2 else none:=by unfold q1t;rw[q17]
theorem qtb:mSeq fa ρ=(fa ρ).bind λp=>(dSeq p.1).map λx=>(x,p.2):=by unfold mSeq;rw[q17];congr 1;funext p;rw[q24];cases p.1<;>rfl
def rng1:List D->Option (List D)
 |[.int j]=>if big j=true then some (q1f 0 j.toNat)else none
 |_=>none
theorem qh4:q2u fs ρ=(fs ρ).bind λp=>(rng1 p.1).map λx=>(x,p.2):=by unfold q2u;rw[q17];congr 1;funext p;rw[q24];rfl
def zip2:List D->Option (List D)
 | [x,y]=>match dSeq x,dSeq y with
  |some xs,some ys=>some (zipD xs ys)
  |_,_=>none
 |_=>none
theorem qt8:mZip fs ρ=(fs ρ).bind λp=>(zip2 p.1).map λx=>(x,p.2):=by unfold mZip;rw[q17];congr 1;funext p;rw[q24];rfl
def inO:D->Option (Option Int)
 |.int i=>some (some i)
 |_=>none
theorem qnx:q4g fa ρ=(fa ρ).bind λp=>(inO p.1).map λx=>(x,p.2):=by unfold q4g;rw[q17];congr 1;funext p;rw[q24];cases p.1<;>rfl
theorem qvw:mSl fa fl fh ρ=(fa ρ).bind λp=>(fl p.2).bind λq=>(fh q.2).bind λr=>(dSl p.1 q.1 r.1).map λx=>(x,r.2):=by unfold mSl;rw[q17];congr 1;funext p;rw[q17];congr 1;funext q;rw[q17];congr 1;funext r;rw[q24]
theorem qjr:q8f g g' fa fb fc ρ=(fa ρ).bind λp=>(fb p.2).bind λq=>((g p.1 q.1).bind blO).bind λb=>if b=true then(fc q.2).bind λr=>(g' q.1 r.1).map λx=>(x,r.2)else some (.bl false,q.2):=by
 unfold q8f;rw[q17];congr 1;funext p;rw[q17];congr 1;funext q;rw[q17,qh2,q24];cases g p.1 q.1 with
 |none=>rfl
 | some d=>
  cases d with
  | bl b=>
   cases b with
   | true=>
    show q1u fc (λz=>q2v (g' q.1 z)) q.2=_;rw[q17];show _=(fc q.2).bind _;congr 1;funext r;rw[q24]
   |false=>rfl
  |_=>rfl
theorem qh3{f h:RhO}:sSeq f h ρ=(f ρ).bind λo=>match o with
 |.nx ρ1=>h ρ1
 |o=>some o:=by
 unfold sSeq;cases f ρ with
 |none=>rfl
 |some o=>cases o<;>rfl
theorem qno{i:Nat}:sSet i fa ρ=(fa ρ).map λp=>.nx (p.2.set i (some p.1)):=by unfold sSet;cases fa ρ<;>rfl
theorem qnq{i:Nat}:sOwn i fs ρ=(fs ρ).bind λp=>if i<p.2.length then some (.nx (p.2.set i (some (.lst p.1))))else none:=by unfold sOwn;cases fs ρ<;>rfl
theorem qnv{fg:RhG}:sAsg fa fg ρ=(fa ρ).bind λp=>(fg p.1 p.2).map .nx:=by
 unfold sAsg;cases fa ρ with
 |none=>rfl
 | some p=>
  obtain⟨d,ρ1⟩:=p;show(match fg d ρ1 with|none=>none|some ρ2=>some (Out.nx ρ2))=(fg d ρ1).map _;cases fg d ρ1<;>rfl
theorem qta{f h:RhO}:sIf ga f h ρ=(ga ρ).bind λp=>if p.1=true then f p.2 else h p.2:=by unfold sIf;cases ga ρ<;>rfl
theorem qnp:sRet fa ρ=(fa ρ).map λp=>.rt p.1 p.2:=by unfold sRet;cases fa ρ<;>rfl
theorem qjp:q8t fs ρ=(fs ρ).map λp=>.rt (.lst p.1) p.2:=by unfold q8t;cases fs ρ<;>rfl
theorem qjo{i:Nat}:q5v i ρ=((ρ[i]?).join.bind lsO).map λd=>.rt (.lst d) (ρ.set i none):=by
 unfold q5v;cases h:ρ[i]? with
 |none=>rfl
 | some o=>
  cases o with
  |none=>rfl
  |some d=>cases d<;>rfl
theorem qcj{α:Type}(i:Nat)(x:Option α):(if isL ρ i=true then x else none)=((ρ[i]?).join.bind lsO).bind λ_=>x:=by
 unfold isL;cases h:ρ[i]? with
 |none=>rfl
 | some o=>
  cases o with
  |none=>rfl
  |some d=>cases d<;>rfl
theorem qnr:sNil ρ=some (.nx ρ):=rfl
theorem qjq:qaw fa ρ=(fa ρ).map λp=>.nx p.2:=by unfold qaw;cases fa ρ<;>rfl
theorem qns{gm:List D->List D->Option (List D)}{i:Nat}:sMut gm i fs ρ=((ρ[i]?).join.bind lsO).bind λ_=>(fs ρ).bind λp=>((p.2[i]?).join.bind lsO).bind λxs=>(gm xs p.1).map λys=>.nx (p.2.set i (some (.lst ys))):=by
 refine Eq.trans ?_ (qcj _ _);unfold sMut;congr 1;cases fs ρ with
 |none=>rfl
 | some p=>
  show(match p.2[i]? with|some (some (.lst xs))=>_|_=>none)=_;show _=((p.2[i]?).join.bind lsO).bind _;cases h:p.2[i]? with
  |none=>rfl
  | some o=>
   cases o with
   |none=>rfl
   | some d=>
    cases d with
    | lst xs=>
     show(match gm xs p.1 with|some ys=>some (Out.nx _)|none=>none)=(gm xs p.1).map _;cases gm xs p.1<;>rfl
    |_=>rfl
theorem qnu{i:Nat}:sExt i fs ρ=((ρ[i]?).join.bind lsO).bind λ_=>(fs ρ).bind λp=>((p.2[i]?).join.bind lsO).bind λxs=>if xs.length+p.1.length<=sizeLine then some (.nx (p.2.set i (some (.lst (xs++p.1)))))else none:=by
 refine Eq.trans ?_ (qcj _ _);unfold sExt;congr 1;cases fs ρ with
 |none=>rfl
 | some p=>
  show(match p.2[i]? with|some (some (.lst xs))=>_|_=>none)=_;show _=((p.2[i]?).join.bind lsO).bind _;cases h:p.2[i]? with
  |none=>rfl
  | some o=>
   cases o with
   |none=>rfl
   |some d=>cases d<;>rfl
def setI(x d k:D):Option D:=match x,k with
 |.lst xs,.int j=>(ixN xs.length j).map λm=>.lst (xs.set m d)
 |_,_=>none
theorem qcm{i:Nat}:qat i fa fb ρ=(fa ρ).bind λp=>(fb p.2).bind λq=>((q.2[i]?).join).bind λx=>(setI x p.1 q.1).map λy=>.nx (q.2.set i (some y)):=by
 unfold qat;cases fa ρ with
 |none=>rfl
 | some p=>
  show(match fb p.2 with|some (.int k,ρ2)=>_|_=>none)=(fb p.2).bind _;cases fb p.2 with
  |none=>rfl
  | some q=>
   obtain⟨y,ρ2⟩:=q;cases y with
   | int j=>
    show(match ρ2[i]? with|some (some (.lst xs))=>_|_=>none)=((ρ2[i]?).join).bind _;cases h:ρ2[i]? with
    |none=>rfl
    | some o=>
     cases o with
     |none=>rfl
     | some d=>
           cases d with
           | lst xs=>
            show(match ixN xs.length j with|some m=>some (Out.nx _)|none=>none)=((ixN xs.length j).map _).map _;cases ixN xs.length j<;>rfl
           |_=>rfl
   | _=>
    show none=((ρ2[i]?).join).bind _;cases h:(ρ2[i]?).join with
    |none=>rfl
    |some x=>cases x<;>rfl
theorem qnt{fg:RhG}{f:RhO}:sFor fs fg f ρ=(fs ρ).bind λp=>q23 fg f p.1 p.2:=by unfold sFor;cases fs ρ<;>rfl
theorem qo4{i:Nat}{d:D}:gSet i d ρ=some (ρ.set i (some d)):=rfl
end
theorem qnf{n:Nat}(h:n<=1000000):(n<=sizeLine)=True:=eq_true (q1d h)
theorem q8u{n d:Nat}{k:Int}(h:0<=k):HT.sIx n d (some k)=min k.toNat n:=by show(if k<0 then(k+(n:Int)).toNat else min k.toNat n)=_;rw[if_neg (by omega)]
theorem qoc(xs:List D){k:Int}(h:0<=k):cutD xs none (some k)=xs.take k.toNat:=by unfold cutD;rw[q8u h,HT.sIx_none,List.drop_zero,Nat.sub_zero];exact List.take_eq_take_min.symm
theorem qh9(xs:List D){k:Int}(h:0<=k):cutD xs (some k) none=xs.drop k.toNat:=by
 unfold cutD;rw[q8u h,HT.sIx_none];by_cases hk:k.toNat<=xs.length
 ·rw[Nat.min_eq_left hk];exact List.take_of_length_le (by rw[xp];exact ja _)
 ·rw[Nat.min_eq_right (by omega),List.drop_eq_nil_of_le (ja _),List.drop_eq_nil_of_le (by omega)];simp
theorem qbh{xs:List D}{k:Int}(h0:0<=k):dSl (.lst xs) none (some k)=some (.lst (xs.take k.toNat)):=by show some (D.lst (cutD xs none (some k)))=_;rw[qoc xs h0]
theorem q7x{xs:List D}{k:Int}(h0:0<=k):dSl (.lst xs) (some k) none=some (.lst (xs.drop k.toNat)):=by show some (D.lst (cutD xs (some k) none))=_;rw[qh9 xs h0]
def Ite(K:FrG)(p:Addr):It:=
 ⟨λi H=>∃xs x,SqL K H p xs/\xs[i]? =some x,
  λi H v H'=>∃T x,v=.ref T/\H T=none/\H'=upd H T (.tup [.int (i:Int),x])/\∀xs,SqL K H p xs->xs[i]? =some x,
  λi H=>∃xs,SqL K H p xs/\xs.length<=i⟩
def qtp(p e it:Addr)(i:Nat)(h:Heap):Prop:=(∃old,IsEnum h e it (i:Int) old)/\h.IsListIter it p i
theorem qeh{P:Program}{w:World}{K:FrG}{zk:List Expr}{x1:Nat}{pos:Pos}{p e it:Addr}(hei:e≠it):
 Turn P w K (.Tuple zk x1 pos) (Ite K p) [e,it] e (qtp p e it) where
 mem:=by simp
 obj:=λi h st c hc=>by
  obtain⟨⟨old,he⟩,o,go,_,gd⟩:=st;simp only[List.mem_cons,List.not_mem_nil,or_false]at hc;rcases hc with rfl|rfl
  ·exact⟨_,he,λv e=>by cases e⟩
  ·exact⟨o,go,λv e=>by rw[gd]at e;cases e⟩
 keep:=λi h h' st k=>by obtain⟨⟨old,he⟩,o,go,r⟩:=st;exact⟨⟨old,k e (by simp) _ he⟩,o,k it (by simp) _ go,r⟩
 item:=by
  intro X hP hw hK hc i z5 s σ H E I hf st hg;subst hP hw hK;obtain⟨xs,x,q1,ex⟩:=hg;obtain⟨it1,r1,t1,_⟩:=I.list q1;obtain⟨u,eu,ru⟩:=r1.get ex;obtain⟨⟨old,he⟩,j1⟩:=st;refine wpAny_pyNext_enum_item he j1 t1.isList (x:=u) (by simpa using eu) hei λh' ho n1 tp sz kk=>?_;refine⟨_,rfl,?_⟩;refine wpAny_letOwnedTupleGo_enum ho λh'' z'' s''=>?_;have fresh:H s.heap.objs.size=none:=I.hok.fresh (ja _);have zne:s.heap.objs.size≠e:=λq=>by have:=j9 he;rw[<-q]at this;exact jy _ this
  have keep:∀c o,c∉[e,it]->s.heap.get? c=some o->h''.get? c=some o:=λc o hc q=>by simp only[List.mem_cons,List.not_mem_nil,or_false,not_or]at hc;exact s''.extBut c o hc.1 (kk c o hc.1 hc.2 q)
  have tp':h''.get? s.heap.objs.size=some {cls:=.type "tuple",data:=.seq #[.int i s.toks,u]}:=s''.extBut _ _ zne tp;have I':Inv X z5 σ (upd H s.heap.objs.size (.tup [.int (i:Int),x])) {s with heap:=h'',toks:=s.toks+1}:=by
   refine I.step (g':=s.gens) (d':=s.drawn) (ch:=[e,it]) (λc hc=>?_) (λc o _ _ hc e _=>keep c o hc e) (λc o _ _ hc e _=>⟨o.slots,keep c o hc e⟩) (λc o _ e n=>?_) (λc o hc e=>⟨o,keep c o hc e⟩)
    (λc zs e=>?_) (λc o w' e=>?_) (λc ps e=>⟨#[],?_⟩) (λm hm=>?_) (λc o e=>?_) I.bare
   ·obtain⟨_,f1,f2,f3,f4,f5⟩:=hf c hc;exact⟨f3,f1,f4,f5⟩
   ·rw[q0v (jf (j9 e))];exact n
   ·rw[q0v (q1l e fresh)];exact e
   ·rw[q0v (q1l e fresh)];exact e
   ·rw[q0v (q1l e fresh),e];simp
   ·obtain⟨o,es,ep,ho,r⟩:=hm;exact⟨o,es,ep,keep _ o (λq=>(hf _ q).2.1 rfl) ho,r⟩
   ·by_cases hb:c=s.heap.objs.size
    ·subst hb;rw[q0y]at e;cases e;exact⟨by show 2<=sizeLine;decide,[.int i s.toks,u],.cons ⟨_,rfl⟩ (.cons ru .nil),⟨_,tp',⟨rfl,_,rfl⟩,rfl⟩⟩
    ·rw[q0v hb]at e;refine(I.hok c o e).stay (λd w' hd q=>keep d w' (λm=>?_) q) (λd q=>?_) λd zs q=>?_
     ·have n:=(hf d m).1;rcases hd with rfl|hd
      ·rw[n]at e;cases e
      ·rw[n]at hd;cases hd
     ·rw[q0v (q1l q fresh)];exact q
     ·rw[q0v (q1l q fresh)];exact q
  have lt:∀c∈[e,it],c<s.heap.objs.size:=λc hc=>by
   simp only[List.mem_cons,List.not_mem_nil,or_false]at hc;rcases hc with rfl|rfl
   ·exact j9 he
   ·obtain⟨o,e,_⟩:=j1;exact j9 e
  refine⟨.ref s.heap.objs.size,_,I',rfl,⟨_,x,rfl,fresh,rfl,λzs q=>by rw[I.list_inj q q1];exact ex⟩,?_,λc hc=>?_⟩
  ·obtain⟨o,go,r⟩:=n1;exact⟨⟨u,by simpa using z''⟩,o,s''.extBut _ _ hei.symm go,r⟩
  ·rw[q0v (jf (lt c hc))];exact(hf c hc).1
 done:=by
  intro X hP hw hK hc i z5 s σ H E I hf st hg;subst hP hw hK;obtain⟨xs,q1,hl⟩:=hg;obtain⟨it1,r1,t1,_⟩:=I.list q1;obtain⟨⟨old,he⟩,j1⟩:=st;have l1:=r1.length;refine wpAny_pyNext_enum_end (I.ok.hd hc) he j1 t1.isList (by simp;omega) λh' kk=>⟨rfl,?_⟩;have keep:∀c o,c∉[e,it]->s.heap.get? c=some o->h'.get? c=some o:=λc o hc q=>by simp only[List.mem_cons,List.not_mem_nil,or_false,not_or]at hc;exact kk c o hc.2 q
  show Inv X z5 σ H {s with heap:=h',toks:=s.toks};refine I.step (g':=s.gens) (d':=s.drawn) (ch:=[e,it]) (λc hc=>?_) (λc o _ _ hc e _=>keep c o hc e) (λc o _ _ hc e _=>⟨o.slots,keep c o hc e⟩) (λc o _ e n=>n) (λc o hc e=>⟨o,keep c o hc e⟩)
   (λc zs e=>e) (λc o w' e=>e) (λc ps e=>⟨#[],by rw[e];simp⟩) (λm hm=>?_) (λc o e=>?_) I.bare
  ·obtain⟨_,f1,f2,f3,f4,f5⟩:=hf c hc;exact⟨f3,f1,f4,f5⟩
  ·obtain⟨o,es,ep,ho,r⟩:=hm;exact⟨o,es,ep,keep _ o (λq=>(hf _ q).2.1 rfl) ho,r⟩
  ·refine(I.hok c o e).stay (λd w' hd q=>keep d w' (λm=>?_) q) (λd q=>q) λd zs q=>q;have n:=(hf d m).1;rcases hd with rfl|hd
   ·rw[n]at e;cases e
   ·rw[n]at hd;cases hd
 self:=λ_ _ _ _ _ st h=>by obtain⟨⟨old,he⟩,_⟩:=st;exact wpAny_pyIter_enum he h
section
variable{X:Cx}{a:Expr}{ta:TE}{p pos:Pos}{zk:List Expr}{x1:Nat}{tp:Pos}
def qt4(K:FrG)(ta:TE):TI:=λσ H R=>ta σ H λv H1=>∃p1,[v]=[V.ref p1]/\(∃xs,SqL K H1 p1 xs)/\R (Ite K p1) H1
theorem qfp{K:FrG}(hK:X.K=K)(hg:Gl X "enumerate")(hm:X.mg "enumerate"=none)(ha:PE X a ta)(he:starEach [a] X.env=(false,eval a X.env)::starEach [] X.env:=by rfl)(hpl:(backTo pos (starEach [] X.env)).any (·.1)=false:=by rfl):
 PI X (.Tuple zk x1 tp) (.Call (.Name "enumerate" p) [a] [] pos) (qt4 K ta):=by
 subst hK;intro z5 s σ H R I h;refine xr (q4k I hg hm (u:=.type "enumerate") (by rfl) ?_);refine PyProof.Rows.callWith_type1 (thn ((q00 ha q05 he) pos z5 s σ H (λvs H1=>∃p1,vs=[.ref p1]/\(∃xs,SqL X.K H1 p1 xs)/\R (Ite X.K p1) H1) I h) λus s1 h1=>?_) he hpl;obtain⟨vs,H1,I1,r1,p1,rfl,⟨xs,q1⟩,k⟩:=h1;obtain⟨u,rfl,ru⟩:=vals1 r1;cases(show u=Value.ref p1 from ru);obtain⟨it1,r1,t1,_⟩:=I1.list q1;have lt:p1<s1.heap.objs.size:=by obtain⟨o,e,_⟩:=t1.isList;exact j9 e
 refine call_enumerate_list t1.isList λh' hz j1 sz kk=>wpAny_pyIter_enum hz ?_;have I2:Inv X z5 σ H1 {s1 with heap:=h',toks:=s1.toks}:=I1.kept kk;refine⟨_,_,_,_,H1,rfl,I2,qeh (p:=p1) (e:=s1.heap.objs.size+1) (it:=s1.heap.objs.size) (Nat.ne_of_gt (Nat.lt_succ_self _)),⟨⟨_,hz⟩,j1⟩,λc hc=>?_,k⟩;have le:s1.heap.objs.size<=c:=by simp only[List.mem_cons,List.not_mem_nil,or_false]at hc;rcases hc with rfl|rfl<;>first|exact ja _|exact Nat.le_add_right _ _
 exact I1.fpOk le (I1.hok.fresh le)
end
def q6g(xs:List D):List D:=xs.zipIdx.map λq=>D.tup [.int (q.2:Int),q.1]
section
variable{K:FrG}{O:List Nat}{t:TE}{fa:RhD}
theorem q7w{xs:List D}{i:Nat}:(q6g xs)[i]? =(xs[i]?).map λx=>D.tup [.int (i:Int),x]:=by
 unfold q6g;rw[jc,List.getElem?_zipIdx];cases xs[i]? with
 |none=>rfl
 |some x=>simp
theorem qnj{R:Hp}{p:Addr}{xs:List V}{ds:List D}(h:SqL K R p xs)(r:Rps K R xs ds):ItOk K (Ite K p) R (q6g ds):=λH' R' s b i=>by
 have g1:=Same.sqL b (Same.sqL s h);have l1:=r.length;have len:(q6g ds).length=ds.length:=by simp[q6g]
 refine⟨λe=>⟨xs,g1,by omega⟩,λd e=>?_⟩;rw[q7w]at e;cases e1:ds[i]? with
 |none=>rw[e1]at e;cases e
 | some d1=>
  rw[e1]at e;cases e;obtain⟨v1,a1,a2⟩:=r.get e1;refine⟨⟨xs,v1,g1,a1⟩,λx H'' y=>?_⟩;obtain⟨T,x1,rfl,hT,rfl,z1⟩:=y;have w1:=z1 xs g1;rw[a1]at w1;cases w1;have y:=Ext.new (o:=.tup [.int (i:Int),v1]) b hT;exact⟨_,y,.tup q0y (.cons (.int _) (.cons ((a2.mono s).mono y.r) .nil))⟩
def qba(f:RhD):RhL:=q1u f λd=>q2v (match d with
 |.lst xs=>some (q6g xs)
 |_=>none)
theorem qgg(h:ME K O t fa):MI K O (qt4 K t) (qba fa):=λZ σ H R ρ ds ρ' Q S e k=>by
 obtain⟨d,ρ1,e1,e⟩:=q0c e;obtain⟨e2,rfl⟩:=q0l e;cases d with
 | lst xs=>
  cases e2;refine h Z σ H R ρ _ _ _ S e1 λv H1 R1 S1 st1 r1=>?_;obtain⟨_,_,rfl,q,r⟩:=r1.isL;exact⟨_,rfl,⟨_,Same.sqL S1.same q⟩,k _ H1 R1 S1 st1 (qnj q r)⟩
 |_=>cases e2
def qto:D->Option (List D)
 |.lst xs=>some (q6g xs)
 |_=>none
theorem qo5{ρ:Rho}:qba fa ρ=(fa ρ).bind λp=>(qto p.1).map λx=>(x,p.2):=by unfold qba;rw[q17];congr 1;funext p;rw[q24];cases p.1<;>rfl
end
section
variable{X:Cx}{K:FrG}{c:MC}{O O':List Nat}{t:TE}{fa:RhD}
end
section
variable{ρ:Rho}{fa fb:RhD}{fs:RhL}
def repO(xs:List D):D->Option (List D)
 |.int k=>if -(2^63)<=k/\k<2^63/\xs.length*k.toNat<=sizeLine then some (List.replicate k.toNat xs).flatten else none
 |_=>none
theorem qm2:mRep fs fb ρ=(fs ρ).bind λp=>(fb p.2).bind λq=>(repO p.1 q.1).map λx=>(x,q.2):=by unfold mRep;rw[q17];congr 1;funext p;rw[q17];congr 1;funext q;rw[q24];cases q.1<;>rfl
theorem qfi{ρ1 ρ2:Rho}{xs zs:List D}{y:D}(h1:fs ρ=some (xs,ρ1))(h2:fb ρ1=some (y,ρ2))(h3:repO xs y=some zs):mRep fs fb ρ=some (zs,ρ2):=by rw[qm2,h1];show(fb ρ1).bind _=_;rw[h2];show(repO xs y).map _=_;rw[h3];rfl
theorem qax(x:D){k:Int}(h0:0<=k)(h:k<=1000000):repO [x] (.int k)=some (List.replicate k.toNat x):=by
 have hz:[x].length*k.toNat<=sizeLine:=by rw[List.length_singleton,Nat.one_mul];exact q1d (by omega)
 show(if -(2^63)<=k/\k<2^63/\[x].length*k.toNat<=sizeLine then some (List.replicate k.toNat [x]).flatten else none)=_;rw[if_pos ⟨by omega,by omega,hz⟩,List.flatten_replicate_singleton]
theorem q9e(xs ys:List Int):zipD (xs.map D.int) (ys.map D.int)=(xs.zip ys).map λq=>D.tup [.int q.1,.int q.2]:=by unfold zipD;rw[List.zipWith_map,List.zip,List.map_zipWith]
end
def qel(C:Addr)(names:List Str):Sp:=λvs H Q _=>∃(x dx:Addr) (args:List V),vs=.ref x::args/\args.length=names.length/\H x=some (.ins C dx [])/\Q .non (upd H x (.ins C dx (names.zip args)))
section
variable{K:FrG}{R:Hp}{O:List Nat}{t ta:TE}{tr:TA}{fa fb:RhD}{fs:RhL}{E:XK}{C:Addr}{x m f:Str}
theorem Rfs.zip:∀{names:List Str} {vs:List V} {ds:List D},Rps K R vs ds->Rfs K R (names.zip vs) (names.zip ds)
 |[],_,_,_=>.nil
 |_::_,_,_,.nil=>.nil
 |_::_,_,_,.cons h r=>.cons h (Rfs.zip r)
theorem Rfs.lookup:∀{fs:List (Str×V)} {gs:List (Str×D)} {d:D},Rfs K R fs gs->gs.lookup f=some d->∃v,fs.lookup f=some v/\Rp K R v d
 |_,_,_,.nil,e=>by cases e
 | _,_,d,.cons (f:=g) (x:=v) (d:=d') h r,e=>by
  rw[List.lookup_cons]at e ⊢;cases q:f==g with
  | true=>
   rw[q]at e;cases e;exact⟨v,rfl,h⟩
  | false=>
   rw[q]at e;exact Rfs.lookup r e
theorem Rfs.lookup_none:∀{fs:List (Str×V)} {gs:List (Str×D)},Rfs K R fs gs->gs.lookup f=none->fs.lookup f=none
 |_,_,.nil,_=>rfl
 | _,_,.cons (f:=g) h r,e=>by
  rw[List.lookup_cons]at e ⊢;cases q:f==g with
  |true=>rw[q]at e;cases e
  | false=>
   rw[q]at e;exact Rfs.lookup_none r e
def qgm(x:Str)(names:List Str)(fs:RhL):RhD:=q1u fs λds=>q2v (if ds.length=names.length then some (.obj x (names.zip ds))else none)
theorem qgi{names:List Str}(n:PySem.W.nsIn K mainGlobals x=some (some (.ref C)))(h:MA K O tr fs):ME K O (qpd C (qel C names) [] E tr) (qgm x names fs):=λZ σ H R ρ d ρ' Q S e k=>by
 obtain⟨ds,ρ1,e1,e⟩:=q0c e;obtain⟨e2,rfl⟩:=q0l e;split at e2
 ·rename_i hl;cases e2;refine h Z σ H R ρ ds _ _ S e1 λvs H1 R1 S1 st1 r1=>?_;intro a dx ha hdx hne;refine⟨a,dx,vs,by rw[List.append_nil],by rw[r1.length,hl],q0y,rfl,?_⟩;rw[qef];have y1:=Ext.hid (o:=.own a) S1.sub hdx;have ha2:(upd H1 dx (HO.own a)) a=none:=by rw[q0v (Ne.symm hne)];exact ha
  have y2:=Ext.new (o:=.ins C dx (names.zip vs)) y1.s ha2;exact k _ _ _ ((S1.ext y1).ext y2) ((st1.trans y1.stp).trans y2.stp) (.obj n q0y (Rfs.zip (r1.mono y2.r)))
 ·cases e2
def qgl(x:Str):RhD:=mRet (.obj x [])
theorem qj6(n:PySem.W.nsIn K mainGlobals x=some (some (.ref C))):ME K O (ql0 C) (qgl x):=λZ σ H R ρ d ρ' Q S e k=>by
 cases e;intro a dx ha hdx hne;have y1:=Ext.hid (o:=.own a) S.sub hdx;have ha2:(upd H dx (HO.own a)) a=none:=by rw[q0v (Ne.symm hne)];exact ha
 have y2:=Ext.new (o:=.ins C dx []) y1.s ha2;exact k _ _ _ ((S.ext y1).ext y2) (y1.stp.trans y2.stp) (.obj n q0y .nil)
def fldO(x f:Str):D->Option D
 |.obj y gs=>if y=x then gs.lookup f else none
 |_=>none
def mFld(x f:Str)(fa:RhD):RhD:=q1u fa λd=>q2v (fldO x f d)
theorem qlp{C':Addr}(n:PySem.W.nsIn K mainGlobals x=some (some (.ref C)))(n':PySem.W.nsIn K mainGlobals x=some (some (.ref C'))):C'=C:=by rw[n]at n';cases n';rfl
theorem qgj(n:PySem.W.nsIn K mainGlobals x=some (some (.ref C)))(c:Cls K C)(na:NoAttr K C f)(h:ME K O ta fa):ME K O (tFld K ta f) (mFld x f fa):=λZ σ H R ρ d ρ' Q S e k=>by
 obtain⟨d0,ρ1,e1,e⟩:=q0c e;obtain⟨e2,rfl⟩:=q0l e;refine h Z σ H R ρ _ _ _ S e1 λv H1 R1 S1 st1 r1=>?_;cases d0 with
 | obj y gs=>
  have e3:(if y=x then gs.lookup f else none)=some d:=e2;split at e3
  ·rename_i hy;subst hy;cases r1 with
   | obj n' hR rf=>
    have hC:=qlp n n';subst hC;obtain⟨v',hl,rv⟩:=rf.lookup e3;exact⟨_,_,_,_,v',rfl,S1.sub _ _ hR,c,na,hl,k v' H1 R1 S1 st1 rv⟩
  ·cases e3
 |_=>cases e2
def q83(x m:Str)(f:List D->Option D)(d:D)(ds:List D):Option D:=match d with
 |.obj y gs=>if y=x/\gs.lookup m=none then f (d::ds)else none
 |_=>none
def q5m(x m:Str)(f:List D->Option D)(fa:RhD)(fs:RhL):RhD:=q1u fa λd=>q1u fs λds=>q2v (q83 x m f d ds)
theorem qb9{k0:Nat}{g:List D->Option D}(n:PySem.W.nsIn K mainGlobals x=some (some (.ref C)))(hg:q1r k0 g)(h:ME K O ta fa)(ha:MA K O tr fs):ME K O (qpc C m (spP K false k0 g) [] E ta tr) (q5m x m g fa fs):=λZ σ H R ρ d ρ' Q S e k=>by
 obtain⟨d0,ρ1,e1,e⟩:=q0c e;obtain⟨ds,ρ2,e2,e⟩:=q0c e;obtain⟨e3,rfl⟩:=q0l e;refine h Z σ H R ρ _ _ _ S e1 λv H1 R1 S1 st1 r1=>?_;cases d0 with
 | obj y gs=>
  have e4:(if y=x/\gs.lookup m=none then g (.obj y gs::ds)else none)=some d:=e3;split at e4
  ·rename_i hy;obtain⟨hy,hm⟩:=hy;subst hy;have r1':=r1;cases r1 with
   | obj n' hR rf=>
    have hC:=qlp n n';subst hC;refine⟨_,_,_,rfl,S1.sub _ _ hR,rf.lookup_none hm,?_⟩;refine ha Z σ H1 R1 ρ1 ds _ _ S1 e2 λvs H2 R2 S2 st2 r2=>?_;rw[List.append_nil];have r3:=Rps.cons (r1'.mono st2.r) r2;exact⟨by rw[r3.length];exact hg _ d e4,R2,_,d,S2.sub,r3,e4,λv H3 R3 y q=>k v H3 R3 (S2.ext y) ((st1.trans st2).trans y.stp) q⟩
  ·cases e4
 |_=>cases e3
def mOrE(f g:RhD):RhD:=λρ=>match f ρ with
 |some r=>some r
 |none=>g ρ
theorem qlt{t1 t2:TE}(h1:ME K O t1 fa)(h2:ME K O t2 fb):ME K O (λσ H Q=>t1 σ H Q∨t2 σ H Q) (mOrE fa fb):=λZ σ H R ρ d ρ' Q S e k=>by
 unfold mOrE at e;cases e1:fa ρ with
 | some q=>
  rw[e1]at e;cases e;exact .inl (h1 Z σ H R ρ d ρ' Q S e1 k)
 | none=>
  rw[e1]at e;exact .inr (h2 Z σ H R ρ d ρ' Q S e k)
theorem qo3{ρ:Rho}{names:List Str}:qgm x names fs ρ=(fs ρ).bind λp=>(if p.1.length=names.length then some (D.obj x (names.zip p.1))else none).map λy=>(y,p.2):=by unfold qgm;rw[q17];congr 1;funext p;rw[q24]
theorem qtm{ρ:Rho}:mFld x f fa ρ=(fa ρ).bind λp=>(fldO x f p.1).map λy=>(y,p.2):=by unfold mFld;rw[q17];congr 1;funext p;rw[q24]
theorem qo2{ρ:Rho}{g:List D->Option D}:q5m x m g fa fs ρ=(fa ρ).bind λp=>(fs p.2).bind λq=>(q83 x m g p.1 q.1).map λy=>(y,q.2):=by unfold q5m;rw[q17];congr 1;funext p;rw[q17];congr 1;funext q;rw[q24]
theorem qte{ρ:Rho}:mOrE fa fb ρ=(fa ρ).or (fb ρ):=by unfold mOrE;cases fa ρ<;>rfl
end
theorem q80{x0:Str}:∀{names:List (Str×NameKind)} (n:Nat) (acc:List (Str×Addr)),names.filter (λy=>y.2==NameKind.cell)=[(x0,.cell)]->cellsFrom n names acc=(x0,n)::acc
 |[],_,_,h=>by cases h
 | (a,kd)::r,n,acc,h=>by
  unfold cellsFrom;cases hk:kd==NameKind.cell with
  | true=>
   rw[List.filter_cons_of_pos (by exact hk)]at h;have e1:(a,kd)=(x0,NameKind.cell):=(List.cons.inj h).1;have e2:r.filter (λy=>y.2==NameKind.cell)=[]:=(List.cons.inj h).2;have none:∀(r:List (Str×NameKind)) (n:Nat) (acc:List (Str×Addr)),r.filter (λy=>y.2==NameKind.cell)=[]->cellsFrom n r acc=acc:=λr=>by
    induction r with
    |nil=>intro n acc _;rfl
    | cons q r ih=>
     intro n acc h;obtain⟨b,kb⟩:=q;cases hb:kb==NameKind.cell with
     |true=>rw[List.filter_cons_of_pos (by exact hb)]at h;cases h
     | false=>
          rw[List.filter_cons_of_neg (by show¬(kb==NameKind.cell)=true;rw[hb];exact Bool.false_ne_true)]at h;unfold cellsFrom;rw[hb];exact ih n acc h
   rw[if_pos rfl,none r _ _ e2];cases e1;rfl
  | false=>
   rw[List.filter_cons_of_neg (by show¬(kd==NameKind.cell)=true;rw[hk];exact Bool.false_ne_true)]at h;rw[if_neg Bool.false_ne_true];exact q80 n acc h
theorem qh7{M:Model}{A:Around}{E:Value->Shared->Prop}{s:Shared}{scope:Scope}{globals:Addr}{zi:List (Str×Addr)}{qual:Str}{j5:Env}{x0:Str}{Q:Env->Shared->Prop}
 (hf:scope.names.filter (λy=>y.2==NameKind.cell)=[(x0,.cell)])
 (hQ:∀h',h'.Ns s.heap.objs.size (λ_=>none)->h'.IsCell (s.heap.objs.size+1) none->(∀b o,s.heap.get? b=some o->h'.get? b=some o)->
   Q (newEnv scope s.heap.objs.size globals ((x0,s.heap.objs.size+1)::zi) qual none .none (some j5) builtinsNs) {s with heap:=h'}):
 wpAny M A (newFunctionEnv scope globals zi [] qual none .none (some j5)) Q E s:=by
 simp only[newFunctionEnv,Option.isSome_some,if_true];refine j6 (wpAny_alloc ?_);refine j6 (wpAny_layCells _ (λname kind cells=>by cases hkc:kind==NameKind.cell<;>simp[hkc]) _ _ _ _ ?_);have sz:(s.heap.push {cls:=.type "dict",data:=.dict #[]}).objs.size=s.heap.objs.size+1:=xg ..;have ok:=cellsFrom_ok scope.names (s.heap.push {cls:=.type "dict",data:=.dict #[]}) (s.heap.objs.size+1) [] ⟨λ_ _ hm=>(nomatch hm),List.Pairwise.nil⟩ (by rw[sz];exact ja _);rw[sz,q80 _ _ hf]at ok;show wpAny M A (forIn [] _ _ >>= _) Q E _;rw[List.forIn_nil];refine j6 (j8 (j8 ?_));have e1:cellsFrom ({s with heap:=s.heap.push {cls:=.type "dict",data:=.dict #[]}}:Shared).heap.objs.size scope.names zi=(x0,s.heap.objs.size+1)::zi:=by rw[q80 _ _ hf];show(x0,(s.heap.push {cls:=.type "dict",data:=.dict #[]}).objs.size)::zi=_;rw[sz]
 rw[e1];exact hQ _ ((Heap.Ns.new s.heap (.type "dict")).keeps (pushCells_keeps _ _)) (ok.empty x0 _ jg).1 λb o e=>pushCells_keeps _ _ b o (jb _ e)
theorem q5w{env:Env}:∀{names:List (Str×NameKind)} {x:Str},(names.map λ(n,k)=>if(k==NameKind.free&&env.scope.kind==.function&&env.kindOf n==some .cell)then(n,NameKind.cell)else(n,k)).lookup x=some .cell∨
 (names.map λ(n,k)=>if(k==NameKind.free&&env.scope.kind==.function&&env.kindOf n==some .cell)then(n,NameKind.cell)else(n,k)).lookup x=some .free->∃y∈names,y.1=x/\(y.2=.free∨y.2=.cell)
 |[],_,h=>by rcases h with h|h<;>simp at h
 | (n,k)::r,x,h=>by
  have ih:=@q5w env r x;by_cases hx:x=n
  ·subst hx;refine⟨(x,k),jg,rfl,?_⟩;by_cases hf:k=.free
   ·exact .inl hf
   ·have hb:(k==NameKind.free)=false:=by simpa using hf
    simp only[List.map_cons,hb,Bool.false_and,Bool.false_eq_true,if_false,List.lookup_cons,beq_self_eq_true]at h;rcases h with h|h
    ·exact .inr (je h)
    ·exact .inl (je h)
  ·have hb:(x==n)=false:=beq_eq_false_iff_ne.mpr hx;have step:∀(q:Str×NameKind) (l:List (Str×NameKind)),q.1=n->List.lookup x (q::l)=List.lookup x l:=λq l e=>by
    obtain⟨a,b⟩:=q;have e':a=n:=e;subst e';rw[List.lookup_cons,hb]
   have nm:(if(k==NameKind.free&&env.scope.kind==.function&&env.kindOf n==some .cell)then(n,NameKind.cell)else(n,k)).1=n:=by split<;>rfl
   rw[ju,step _ _ nm]at h;obtain⟨y,hy,r1,r2⟩:=ih h;exact⟨y,jj _ hy,r1,r2⟩
def cxC(X:Cx)(N:List Str)(scope:Scope)(s:Shared)(H:Hp)(C:Addr)(cl:List (Str×Addr))(fp:List Addr)(x0:Str):Cx where
 prog:=X.prog
 w:=X.w
 K:=X.K
 mg:=X.mg
 base:=X.base
 A:=X.A
 N:=N
 s₀:=s
 H₀:=H
 env:=compEnvC scope cl C X.env
 outer:=X.stack
 stack:=X.stack
 ex:=fp
 fn:=λx=>decide (x=x0)
 calm:=X.calm
 pn:=[]
 xe:=λ_ _=>False
def q4u(sc:Scope)(N0 N:List Str)(js:List Nat)(scope:Scope)(x0:Str):Bool:=
 decide (scope.kind=.function)&&decide (scope.names.filter (λy=>y.2==NameKind.cell)=[(x0,.cell)])&&decide (scope.names.lookup x0=some .cell)&&scope.names.all (λy=>decide (y.2≠.free)||decide (sc.names.lookup y.1=some .cell)||decide (sc.names.lookup y.1=some .free))&&
 scope.names.all (λy=>decide (y.2≠.local)||decide (scope.names.lookup y.1=some .local))&&decide (js.map (λj=>N0[j]?)=(N.drop 1).map some)&&
 (N.drop 1).all (λx=>decide (sc.names.lookup x=some .cell)||decide (sc.names.lookup x=some .free))&&(N.drop 1).all (λx=>decide (scope.names.lookup x=some .free))&&decide (1+js.length=N.length)
section
variable{X:Cx}{tg elt ze:Expr}{ifs:List Expr}{scope:Scope}{pos:Pos}{N N0:List Str}{js:List Nat}{sc:Scope}{wi:TI}{g:TG}{tt:TT}{te:TE}
theorem qbj{x0:Str}{z5:List (Addr×Obj)}{σ:St}{H:Hp}{s:Shared}{it:Addr}{fp:List Addr}{tn:Nat->Heap->Prop}{J:It}{cl:List (Str×Addr)}{Fin:List V->Hp->Prop}{RR:Value->Addr->Result->Shared->Prop}{E:Value->Shared->Prop}
 (hc:X.calm=true) (hsc:X.env.scope=sc) (hN0:X.N=N0) (ok:q4u sc N0 N js scope x0=true)
 (hg:∀s H C cl fp,PG (cxC X N scope s H C cl fp x0) tg g) (hgo:Own 1 g) (ht:∀s H C cl fp,PIf (cxC X N scope s H C cl fp x0) ifs tt) (he:∀s H C cl fp,PE (cxC X N scope s H C cl fp x0) elt te)
 (I:Inv X z5 σ H s) (T:Turn X.prog X.w X.K tg J fp it tn) (st:tn 0 s.heap) (fo:∀b∈fp,FpOk X z5 H b)
 (hcl:∀x c,cl.lookup x=some c->X.env.cells.lookup x=some c) (j0:∀y∈scope.names,y.2=.free->∃c,cl.lookup y.1=some c)
 (G:cGo g tt te (caps 1 js σ) Fin J H)
 (k:∀(D C:Addr) (oC:Obj) (m:Str->Option Value) (ys:List V) (H':Hp) (s':Shared),Inv X (z5++[(C,oC)]) σ (upd H' D (.lst ys)) s'->H' D=none->s'.heap.Ns C m->X.s₀.heap.objs.size<=C->C≠X.env.locals->(∀x c,X.env.cells.lookup x=some c->c≠C)->
   (∀p∈X.pn++z5,p.1≠C)->upd H' D (.lst ys) C=none->Fin ys H'->RR (.ref D) C (.ok .next) s'):
 wpAny (model X.prog X.w) X.A (newList []) (λacc s₃=>wpAny (model X.prog X.w) X.A (newFunctionEnv scope X.env.globals cl [] X.env.qual none .none (some X.env)) (λj4 s₄=>
  codeAny (model X.prog X.w) X.A (.compStart (.ListComp elt [⟨tg,ze,ifs,0⟩] scope pos) 0 (.ref it) acc {j4 with scope:=relabel scope X.env}) (RR acc j4.locals) s₄) E s₃) E s:=by
 simp only[q4u,Bool.and_eq_true,decide_eq_true_eq,List.all_eq_true,Bool.or_eq_true]at ok;obtain⟨⟨⟨⟨⟨⟨⟨⟨kind,cell⟩,cell0⟩,free⟩,nms⟩,cap⟩,lc⟩,lf⟩,len⟩:=ok;subst hN0 hsc;refine xx (qh7 cell λh1 ns1 cn1 sb1=>?_);dsimp only at ns1 cn1 sb1 ⊢;generalize eG:s.heap.push {cls:=.type "list",dict:=none,data:=.seq ([]:List Value).toArray}=G2 at ns1 cn1 sb1 ⊢;have eC:G2.objs.size=s.heap.objs.size+1:=by rw[<-eG,xg]
 generalize eCC:G2.objs.size=C at ns1 cn1 eC ⊢;generalize eD:s.heap.objs.size=D at eC ⊢;have ltD:∀b o,s.heap.get? b=some o->b<D:=λb o e=>eD▸j9 e;have DC:D≠C:=by rw[eC];exact jf (Nat.lt_succ_self _)
 have bC:∀b:Nat,b<D->b≠C:=λb hb z=>by rw[z,eC]at hb;exact absurd hb (Nat.not_lt.mpr (Nat.le_succ _))
 have old:∀b o,s.heap.get? b=some o->h1.get? b=some o:=λb o e=>by refine sb1 b o ?_;rw[<-eG];exact jb _ e
 have accD:h1.get? D=some {cls:=.type "list",data:=.seq ([]:List Value).toArray 0}:=by refine sb1 _ _ ?_;rw[<-eG,<-eD];exact jm _ rfl
 have freeD:H D=none:=I.hok.fresh (by rw[eD];exact ja _);have freeC:H C=none:=I.hok.fresh (by rw[eD,eC];exact Nat.le_succ _);have fpD:∀b∈fp,b<D:=λb hb=>let ⟨o,e,_⟩:=T.obj 0 _ st b hb;ltD b o e
 have cellD:∀x c,X.env.cells.lookup x=some c->c<D:=λx c e=>let ⟨v,o,ho,_⟩:=I.cell x c e;ltD c o ho
 have pinD:∀p∈X.pn++z5,p.1<D:=λp hp=>ltD _ _ (I.pin p hp).1;have stkD:∀b∈frs X.stack,b<D:=λb hb=>by
  rcases List.mem_cons.mp (I.stkSub b hb)with e|z
  ·subst e;rw[<-eD];exact I.lt
  ·obtain⟨_,o,ho,_⟩:=I.ok.funs.mem z;rw[<-eD];exact jn (j9 ho) I.sz
 have fpS:∀b∈fp,b∉frs X.stack:=λb hb z=>by
  obtain⟨_,f1,f2,_⟩:=fo b hb;rcases List.mem_cons.mp (I.stkSub b z)with e|q
  ·exact f1 e
  ·exact f2 q
 have lk:∀x c,((x0,C+1)::cl).lookup x=some c->(x=x0/\c=C+1)∨(x≠x0/\cl.lookup x=some c):=λx c e=>by
  rw[List.lookup_cons]at e;by_cases hx:x=x0
  ·subst hx;simp only[beq_self_eq_true]at e;cases e;exact .inl ⟨rfl,rfl⟩
  ·rw[beq_eq_false_iff_ne.mpr hx]at e;exact .inr ⟨hx,e⟩
 have lkn:∀x c,x≠x0->cl.lookup x=some c->((x0,C+1)::cl).lookup x=some c:=λx c hx e=>by rw[List.lookup_cons,beq_eq_false_iff_ne.mpr hx];exact e
 have c0D:D<C+1:=by rw[eC];exact Nat.lt_succ_of_lt (Nat.lt_succ_self _)
 have cne:∀b:Nat,b<D->C+1≠b:=λb hb z=>by rw[<-z]at hb;exact absurd (Nat.lt_trans hb c0D) (jy _)
 have fpc:∀b∈fp,∀x c,((x0,C+1)::cl).lookup x=some c->c≠b:=λb hb x c e=>by
  rcases lk x c e with⟨_,h⟩|⟨_,h⟩
  ·rw[h];exact cne b (fpD b hb)
  ·exact(fo b hb).2.2.2.2.1 x c (hcl x c h)
 have freeK:H (C+1)=none:=I.hok.fresh (by rw[eD];exact Nat.le_of_lt c0D);have okB:(cxC X N scope s H C ((x0,C+1)::cl) fp x0).Ok:={
  mod:=I.ok.mod
  kind:=kind
  glob:=I.ok.glob
  blt:=I.ok.blt
  above:=by show s.heap.objs.size<=C;rw[eD,eC];exact Nat.le_succ _
  inj:=λx y c e1 e2=>by
   rcases lk x c e1 with⟨a1,a2⟩|⟨a1,a2⟩<;>rcases lk y c e2 with⟨b1,b2⟩|⟨b1,b2⟩
   ·rw[a1,b1]
   ·exact absurd a2.symm (cne c (cellD y c (hcl y c b2)))
   ·exact absurd b2.symm (cne c (cellD x c (hcl x c a2)))
   ·exact I.ok.inj x y c (hcl x c a2) (hcl y c b2)
  has:=λx hx=>by
   by_cases h0:x=x0
   ·subst h0;exact⟨C+1,by show List.lookup x ((x,C+1)::cl)=_;simp[List.lookup_cons]⟩
   ·obtain⟨y,hy,e,f⟩:=q5w (env:=X.env) (names:=scope.names) (x:=x) hx;rcases f with f|f
    ·subst e;obtain⟨c,q⟩:=j0 y hy f;exact⟨c,lkn _ _ h0 q⟩
    ·have hm:y∈scope.names.filter (λy=>y.2==NameKind.cell):=List.mem_filter.mpr ⟨hy,by rw[f];rfl⟩;rw[cell]at hm;have:=List.mem_singleton.mp hm;subst this;exact absurd e.symm h0
  cab:=λx c z e=>by
   have hx:x=x0:=of_decide_eq_true z;rcases lk x c e with⟨_,h⟩|⟨h,_⟩
   ·rw[h];show s.heap.objs.size<=C+1;rw[eD];exact Nat.le_of_lt c0D
   ·exact absurd hx h
  hd:=I.ok.hd
  frames:=I.ok.frames
  stk:=.inl rfl
  exf:=λb hb=>⟨bC b (fpD b hb),fpc b hb⟩
  bs:=λb o e=>I.bs b o e
  bsz:=jr I.ok.bsz I.sz
  noex:=λb o e hb=>by
   rcases(fo b hb).2.2.2.1 with z|z
   ·exact I.ok.noex b o e z
   ·exact absurd (jn (j9 e) (jr I.ok.bsz z)) (jy _)
  exfs:=fpS
  funs:=I.stack
  frf:=I.stkFree}
 have upH:∀b o,s.heap.get? b=some o->h1.get? b=some o:=old;have IB:Inv (cxC X N scope s H C ((x0,C+1)::cl) fp x0) [(D,{cls:=.type "list",data:=.seq ([]:List Value).toArray 0})] (caps 1 js σ) H {s with heap:=h1}:=by
  refine⟨okB,rfl,I.bare,Un.kept old,⟨_,ns1,λi x v e1 e2 e3=>?_⟩,λx c e=>?_,freeC,λx c e=>?_,λp hp=>?_,I.hok.kept old,?_⟩
  ·have hi:1<=i:=by
    by_cases hlt:i<1
    ·rw[q6z hlt]at e2;cases e2
    ·omega
   obtain⟨j,ej,ev⟩:=qcv hi e2;have hxN:(N.drop 1)[i-1]? =some x:=by rw[List.getElem?_drop,show 1+(i-1)=i by omega];exact e1
   have hxm:x∈N.drop 1:=xv hxN;have eN:X.N[j]? =some x:=by
    have q:(js.map λj=>X.N[j]?)[i-1]? =some (X.N[j]?):=by rw[jc,ej];rfl
    rw[cap,jc,hxN]at q;exact(je q).symm
   obtain⟨m0,_,hl⟩:=I.loc;have kx:=lc x hxm;have vis:Vis X.env.scope x:=by
    rcases kx with z|z
    ·exact .inr (.inl z)
    ·exact .inr (.inr z)
   obtain⟨u,r,lk⟩:=hl j x v eN ev vis;refine⟨u,r,?_⟩;rcases lk with⟨q,_⟩|⟨_,c,ec,o,ho,hd⟩
   ·exfalso;have q':X.env.scope.names.lookup x=some .local:=q;rcases kx with z|z
    ·rw[z]at q';cases q'
    ·rw[z]at q';cases q'
   ·have fx:scope.names.lookup x=some .free:=lf x hxm;obtain⟨c',ec'⟩:∃c',cl.lookup x=some c':=by
     have hm:(x,NameKind.free)∈scope.names:=mem_of_lookup fx;exact j0 _ hm rfl
    have ecc:c'=c:=by have z:=hcl x c' ec';rw[ec]at z;exact(je z).symm
    subst ecc;have hx0:x≠x0:=λz=>by rw[z,cell0]at fx;cases fx
    refine .inr ⟨?_,c',lkn _ _ hx0 ec',o,old _ _ ho,hd⟩;rcases e3 with z|z|z
    ·exfalso;have z':(relabel scope X.env).names.lookup x=some .local:=z;exact q3i _ fx z'
    ·exact .inl z
    ·exact .inr z
  ·rcases lk x c e with⟨_,h⟩|⟨_,h⟩
   ·rw[h];exact⟨none,cn1⟩
   ·obtain⟨v,o,ho,hd⟩:=I.cell x c (hcl x c h);exact⟨v,o,old _ _ ho,hd⟩
  ·rcases lk x c e with⟨_,h⟩|⟨_,h⟩
   ·rw[h];exact freeK
   ·exact I.freeC x c (hcl x c h)
  ·have e:p=(D,{cls:=.type "list",data:=.seq ([]:List Value).toArray 0}):=by simpa[cxC]using hp
   subst e;exact⟨accD,freeD,DC,λz=>absurd (stkD D z) (jy _),λv=>by intro z;cases z⟩
  ·show(caps 1 js σ).length=N.length;rw[q98];exact len
 -- what stays true of the iterator's records
 have stat:∀{H':Hp} {oD:Obj},(∀b∈fp,H' b=none)->∀b∈fp,FpOk (cxC X N scope s H C ((x0,C+1)::cl) fp x0) [(D,oD)] H' b:=λ{H' oD} hn b hb=>
  ⟨hn b hb,bC b (fpD b hb),fpS b hb,.inl hb,fpc b hb,λp hp=>by
    have e:p=(D,oD):=by simpa[cxC]using hp
    subst e;exact Nat.ne_of_gt (fpD b hb)⟩
 obtain⟨W,⟨m0,w0⟩,turn⟩:=G;have loop:codeAny (model X.prog X.w) X.A (.compLoop (.ListComp elt [⟨tg,ze,ifs,0⟩] scope pos) 0 (.ref it) (.ref D) (compEnvC scope ((x0,C+1)::cl) C X.env)) (RR (.ref D) C) {s with heap:=h1}:=by
  refine qag (λm s'=>∃(i:Nat) (ys:List V) (its:List Value) (kk:Nat) (σ':St) (H':Hp),Inv (cxC X N scope s H C ((x0,C+1)::cl) fp x0) [(D,{cls:=.type "list",data:=.seq its.toArray kk})] σ' H' s'/\Vals ys its/\(σ'.length=(caps 1 js σ).length/\∀i,1<=i->σ'[i]? =(caps 1 js σ)[i]?)/\
   tn i s'.heap/\(∀b∈fp,H' b=none)/\W i m ys H') ?_ m0 ⟨0,[],[],0,_,H,IB,.nil,⟨rfl,λ_ _=>rfl⟩,T.keep _ _ _ st λb hb o e=>old b o e,λb hb=>(fo b hb).1,w0⟩
  rintro m s3 ⟨i,ys,its,kk,σ3,H3,I3,r3,⟨l3,a3⟩,st3,fr3,w3⟩;have I3':Inv (cxC X N scope s H C ((x0,C+1)::cl) fp x0) [(D,{cls:=.type "list",data:=.seq its.toArray kk})] (caps 1 js σ) H3 s3:=I3.weak l3.symm λj v e=>by
   by_cases hj:j<1
   ·rw[q6z hj]at e;cases e
   ·rw[a3 j (by omega)];exact e
  rcases turn i m ys H3 w3 with⟨stop,hz,fin⟩|⟨go,hz,Nn,hNn,step⟩
  ·refine xj (T.done (cxC X N scope s H C ((x0,C+1)::cl) fp x0) rfl rfl rfl hc i _ s3 _ H3 (λ_ _=>False) I3' (stat fr3) st3 stop) (λr s4 h4=>?_) λ_ _ z=>z;obtain⟨hr,I4⟩:=h4;refine .inl ⟨hr,?_⟩;have pD:=I4.pin (D,{cls:=.type "list",data:=.seq its.toArray kk}) (by simp[cxC]);obtain⟨mC,nsC,_⟩:=I4.loc;obtain⟨oC,es,ep,hoC,dC,rC⟩:=id nsC;have J4:Inv X z5 σ H3 s4:=I.call' (s':=s4) I4.os (ch:=fp) I4.base I4.hok I4.bare λb hb=>by
    obtain⟨_,f1,f2,f3,f4,f5⟩:=fo b hb;exact⟨f3,f1,f4,f5⟩
   have fC:H3 C=none:=I4.free;have ltL:X.env.locals<D:=eD▸I.lt;have cL:C≠X.env.locals:=(bC _ ltL).symm;have cC:∀x c,X.env.cells.lookup x=some c->c≠C:=λx c e=>bC c (cellD x c e);have cP:∀p∈X.pn++z5,p.1≠C:=λp hp=>bC p.1 (pinD p hp);have cS:X.s₀.heap.objs.size<=C:=jr I.sz (by rw[eD,eC];exact Nat.le_succ _);have dS:X.s₀.heap.objs.size<=D:=by have:=I.sz;rw[eD]at this;exact this
   have cF:C∉X.fs:=λz=>by obtain⟨_,o,ho,_⟩:=I.ok.funs.mem z;exact jy _ (jn (j9 ho) cS)
   have J5:Inv X (z5++[(C,oC)]) σ H3 s4:=J4.pins_of λp hp=>(List.mem_append.mp hp).elim (λz=>J4.pin p (jt _ z)) λz=>by
    have e:p=(C,oC):=by simpa using z
    subst e;exact⟨hoC,fC,cL,cF,λv z=>by have z':oC.data=.cell v:=z;rw[dC]at z';cases z'⟩
   refine k D C oC mC ys H3 s4 (J5.track pD.2.1 dS (Nat.ne_of_gt ltL) (λx c e=>jf (cellD x c e)) (λp hp=>?_) ?_) pD.2.1 nsC cS cL cC cP ?_ fin
   ·rcases List.mem_append.mp hp with z|z
    ·exact jf (pinD p (List.mem_append_left _ z))
    ·rcases List.mem_append.mp z with z|z
     ·exact jf (pinD p (jt _ z))
     ·have e:p=(C,oC):=by simpa using z
      subst e;exact Ne.symm DC
   ·exact⟨hz,its,kk,r3,pD.1⟩
   ·rw[q0v (Ne.symm DC)];exact fC
  ·refine xj (T.item (cxC X N scope s H C ((x0,C+1)::cl) fp x0) rfl rfl rfl hc i _ s3 _ H3 (λ_ _=>False) I3' (stat fr3) st3 go) (λr s4 h4=>?_) λ_ _ z=>z;obtain⟨u,hr,h4⟩:=h4;refine .inr ⟨u,hr,?_⟩;refine thn h4 λ_ s5 h5=>?_;obtain⟨x,H5,I5,r5,y5,st5,fr5⟩:=h5;have I5':=I5.pinned (stat fr5) (T.obj _ _ st5);refine thn (hg s H C ((x0,C+1)::cl) fp _ s5 _ H5 x u _ I5' r5 (hgo _ _ _ _ (step x H5 y5))) λ_ s6 h6=>?_;obtain⟨σ6,H6,I6,q6,l6,a6⟩:=h6;refine thn (ht s H C ((x0,C+1)::cl) fp _ s6 σ6 H6 _ I6 q6) λok s7 h7=>?_;obtain⟨H7,I7,q7⟩:=h7;have stays:∀{H8:Hp} {s8:Shared},Inv (cxC X N scope s H C ((x0,C+1)::cl) fp x0) ([(D,{cls:=.type "list",data:=.seq its.toArray kk})]++q8b fp s5.heap) σ6 H8 s8->(∀b∈fp,∀o,s5.heap.get? b=some o->s8.heap.get? b=some o)/\∀b∈fp,H8 b=none:=λ{H8 s8} I8=>
    ⟨λb hb o e=>(I8.pin (b,o) (jt _ (jt _ (q3k hb e)))).1,λb hb=>by obtain⟨o,e,d⟩:=T.obj _ _ st5 b hb;exact(I8.pin (b,o) (jt _ (jt _ (q3k hb e)))).2.1⟩
   cases ok with
   | false=>
    obtain⟨m',hm,w7⟩:=hNn ys H7 (show Nn ys H7 from q7);obtain⟨z1,z2⟩:=stays I7;exact⟨m',hm,i+1,ys,its,kk,σ6,H7,I7.unpinned,r3,⟨l6,a6⟩,T.keep _ _ _ st5 z1,z2,w7⟩
   | true=>
    show wpAny _ _ (eval elt _) _ _ s7;refine thn (he s H C ((x0,C+1)::cl) fp _ s7 σ6 H7 _ I7 q7) λy s8 h8=>?_;obtain⟨vy,H8,I8,ry,n8⟩:=h8;obtain⟨m',hm,w8⟩:=hNn _ _ n8;obtain⟨z1,z2⟩:=stays I8;have pD:=I8.pin (D,{cls:=.type "list",data:=.seq its.toArray kk}) (by simp[cxC]);have lenits:its.length<sizeLine:=by rw[<-r3.length];exact hz
    refine append_at pD.1 (λh9 hs9 hD9=>?_) (by simpa using Nat.le_of_lt lenits);have keep9:∀b o,b≠D->s8.heap.get? b=some o->h9.get? b=some o:=λb o hb e=>hs9.extBut b o hb e;have I9:Inv (cxC X N scope s H C ((x0,C+1)::cl) fp x0) [] σ6 H8 {s8 with heap:=h9}:=(I8.pins_of (pins':=[]) λp hp=>nomatch hp).turned (it:=D) keep9 pD.2.1 DC (.inr (by show s.heap.objs.size<=D;rw[eD];exact ja _))
     (λx c e=>by
           rcases lk x c e with⟨_,h⟩|⟨_,h⟩
           ·rw[h];exact Nat.ne_of_gt c0D
           ·exact jf (cellD x c (hcl x c h))) λp hp=>by simp[cxC]at hp
    refine⟨m',hm,i+1,ys++[vy],its++[y],kk+1,σ6,H8,I9.pins_of λp hp=>?_,r3.append (.cons ry .nil),⟨l6,a6⟩,T.keep _ _ _ st5 λb hb o e=>keep9 b o (jf (fpD b hb)) (z1 b hb o e),z2,w8⟩;have e:p=(D,{cls:=.type "list",data:=.seq (its++[y]).toArray (kk+1)}):=by simpa using hp
    subst e;refine⟨?_,pD.2.1,DC,λz=>absurd (stkD D z) (jy _),λv z=>by cases z⟩;show h9.get? D=_;rw[hD9,List.push_toArray]
 exact codeAny_compStart_list loop (T.self _ 0 _ _ _ (T.keep _ _ _ st λb hb o e=>old b o e) loop)
theorem qhb{x0:Str}{z5:List (Addr×Obj)}{σ:St}{H:Hp}{s:Shared}(I:Inv X z5 σ H s)(hsc:X.env.scope=sc)(ok:q4u sc N0 N js scope x0=true):∀y∈scope.names,y.2=.free->∃c,X.env.cells.lookup y.1=some c:=by
 simp only[q4u,Bool.and_eq_true,decide_eq_true_eq,List.all_eq_true,Bool.or_eq_true]at ok;obtain⟨⟨⟨⟨⟨⟨⟨⟨kind,cell⟩,cell0⟩,free⟩,nms⟩,cap⟩,lc⟩,lf⟩,len⟩:=ok;subst hsc;intro y hy hf;rcases free y hy with(z|z)|z
 ·exact absurd hf z
 ·exact I.ok.has y.1 (.inl z)
 ·exact I.ok.has y.1 (.inr z)
theorem qbi{x0:Str}(ok:q4u sc N0 N js scope x0=true):scope.kind=.function/\∀x∈scope.names,x.2=.local->scope.names.lookup x.1=some .local:=by
 simp only[q4u,Bool.and_eq_true,decide_eq_true_eq,List.all_eq_true,Bool.or_eq_true]at ok;obtain⟨⟨⟨⟨⟨⟨⟨⟨kind,cell⟩,cell0⟩,free⟩,nms⟩,cap⟩,lc⟩,lf⟩,len⟩:=ok;refine⟨kind,λx hx hl=>?_⟩;rcases nms x hx with z|z
 ·exact absurd hl z
 ·exact z
theorem qip{x0:Str}{k:Nat}{y:Str}{py zx:Pos}(hc:X.calm=true)(hsc:X.env.scope=sc)(hN0:X.N=N0)(ok:q4u sc N0 N js scope x0=true)(hN:X.N.Nodup)(hk:X.N[k]? =some y)(hy:Loc X.env.scope y)
 (hi:PI X tg ze wi) (hg:∀s H C cl fp,PG (cxC X N scope s H C cl fp x0) tg g) (hgo:Own 1 g) (ht:∀s H C cl fp,PIf (cxC X N scope s H C cl fp x0) ifs tt) (he:∀s H C cl fp,PE (cxC X N scope s H C cl fp x0) elt te)
 (hsw:swapsWith (.ListComp elt [⟨tg,ze,ifs,0⟩] scope pos) (some (.Name y py)) zx.line X.env=pure true:=by rfl) (hs:∀x,foldedSetIterable ze X.env x=pure x:=by intro _;rfl)
 (hf:X.fn y=true∨X.env.scope.names.lookup y=some .local:=by first|exact .inl rfl|exact .inr rfl):PS X (.Assign [.Name y py] (.ListComp elt [⟨tg,ze,ifs,0⟩] scope pos) zx) (qfd k 1 js wi g tt te):=by
 intro z5 s σ H D0 I h;obtain⟨cl,hclos,c1,c2⟩:=q4v (qhb I hsc ok);obtain⟨kd,nm⟩:=qbi ok;rw[exec_Assign_Name_used _ _ _ _ hsw];refine j6 (wpAny_standAt (j6 ?_));show wpAny _ X.A (comprehension (.ListComp elt [⟨tg,ze,ifs,0⟩] scope pos) scope X.env _ (newList []) false (eval ze X.env) (some (assign (.Name y py) X.env)) >>= λ_=>pure ()) _ _ s;refine j6 (xj (wpAny_comprehension_free (use:=some (assign (.Name y py) X.env)) (Q:=λ_ s'=>SP X z5 D0 .next s') rfl hs hclos kd nm ?_) (λ_ s' q=>j8 (j8 q)) λ_ _ z=>z);refine thn (hi z5 s σ H _ I h) λv s1 h1=>thn h1 λitv s2 h2=>?_;obtain⟨it,fp,tn,J,H2,e,I2,T,st2,f2,G⟩:=h2;subst e;refine qbj (RR:=λacc C=>compPost (model X.prog X.w) X.A X.xe (some (assign (.Name y py) X.env)) (λ_ s'=>SP X z5 D0 .next s') acc C) hc hsc hN0 ok hg hgo ht he I2 T st2 f2 c1 c2 G ?_;intro D C oC m ys H' s' I' hD ns k1 k2 k3 k4 k5 fin;show wpAny _ X.A (assign (.Name y py) X.env (.ref D)) _ _ s';refine wpAny_assign_Name (q6u I' hN hk hy (v:=.ref D) rfl (λs'' I''=>?_) hf);have pc:=I''.pin (C,oC) (jt _ (jt _ jg));obtain⟨o,es,ep,ho,r⟩:=ns;have pc':=I'.pin (C,oC) (jt _ (jt _ jg));have eo:o=oC:=by have z:=pc'.1;rw[ho]at z;exact je z
 subst eo;exact⟨m,⟨o,es,ep,pc.1,r⟩,λh' hs'=>⟨_,_,I''.butC hs' k1 k2 k3 k4 k5,fin D hD⟩⟩
end
end L2
namespace L2
def Bits(w:List Int):Prop:=∀b∈w,b=0∨b=1
def writ(w:List Int):Int:=w.foldl (λx b=>x*2+b) 0
theorem q5t(w:List Int)(b:Int):writ (w++[b])=writ w*2+b:=by unfold writ;rw[List.foldl_append];rfl
def endR(m a:Int)(bs:List Int):Int:=bs.foldl (λx b=>(x+x+b) % m) a
theorem qac(m a:Int)(bs:List Int)(b:Int):endR m a (bs++[b])=(endR m a bs+endR m a bs+b) % m:=by unfold endR;rw[List.foldl_append];rfl
theorem take_snoc{α:Type}{u:List α}{i:Nat}{b:α}(q:u[i]? =some b):u.take (i+1)=u.take i++[b]:=List.take_add_one.trans (by rw[q];rfl)
def q66(a:Int)(w:List Int):Int:=w.foldl (λx b=>x*2+b) a
theorem q3w:∀(w:List Int) (a:Int),q66 a w=a*2^w.length+writ w
 |[],a=>by simp[q66,writ]
 | b::bs,a=>by have h1:=q3w bs (a*2+b);have h2:=q3w bs (0*2+b);have e1:q66 a (b::bs)=q66 (a*2+b) bs:=rfl;have e2:writ (b::bs)=q66 (0*2+b) bs:=rfl;rw[e1,e2,h1,h2,jq,Int.pow_succ];generalize (2:Int)^bs.length=p;generalize writ bs=z;rw[Int.add_mul,Int.add_mul,Int.zero_mul,Int.zero_mul,Int.zero_add,Int.mul_assoc,Int.mul_comm 2 p];omega
theorem q6y(m:Int):∀(w:List Int) (a:Int),endR m a w % m=q66 a w % m
 |[],a=>rfl
 | b::bs,a=>by
  have e1:endR m a (b::bs)=endR m ((a+a+b) % m) bs:=rfl;have e2:q66 a (b::bs)=q66 (a*2+b) bs:=rfl;rw[e1,e2,q6y m bs,q3w,q3w];have e3:a+a+b=a*2+b:=by omega
  rw[e3,Int.add_emod,Int.mul_emod,Int.emod_emod,<-Int.mul_emod,<-Int.add_emod]
theorem q4s{m:Int}(hm:0<m):∀(w:List Int) (a:Int),(0<=a/\a<m)->0<=endR m a w/\endR m a w<m
 |[],a,h=>h
 |b::bs,a,h=>q4s hm bs ((a+a+b) % m) ⟨Int.emod_nonneg _ (by omega),Int.emod_lt_of_pos _ hm⟩
theorem q4m:∀(w:List Int),(∀b∈w,b=0∨b=1)->0<=writ w/\writ w<2^w.length
 |[],_=>by decide
 | b::bs,h=>by
  have h1:=q4m bs λx hx=>h x (jj _ hx);have e2:writ (b::bs)=q66 (0*2+b) bs:=rfl;rw[e2,q3w,jq,Int.pow_succ];generalize (2:Int)^bs.length=p at h1 ⊢;rcases h b jg with rfl|rfl
  ·simp only[Int.zero_mul,Int.zero_add];omega
  ·simp only[Int.zero_mul,Int.zero_add,Int.one_mul];omega
theorem q6t(u v:List Int):writ (u++v)=writ u*2^v.length+writ v:=by
 have:writ (u++v)=q66 (writ u) v:=by unfold writ q66;rw[List.foldl_append]
 rw[this,q3w]
theorem q72:∀n,writ (List.replicate n 0)=0
 |0=>rfl
 | n+1=>by rw[List.replicate_succ',q6t,q72 n];rfl
theorem qh8(n:Nat)(w:List Int):endR (2^n) 0 (w++List.replicate n 0)=0:=by have m0:(0:Int)<2^n:=Int.pow_pos (by decide);have h1:=q6y (2^n) (w++List.replicate n 0) 0;rw[q3w,Int.zero_mul,Int.zero_add,q6t,q72,ji,Int.add_zero,Int.mul_emod_left]at h1;have h2:=q4s m0 (w++List.replicate n 0) 0 ⟨Int.le_refl _,m0⟩;rw[Int.emod_eq_of_lt h2.1 h2.2]at h1;exact h1
theorem qcp(n:Nat)(pre u:List Int)(hp:pre.length=n)(hb:Bits pre)(hu:Bits u)(k:Nat)(hk:k<=u.length):
 endR (2^n) (writ pre) (u.take k)=writ (((pre++u).drop k).take n):=by
 have m0:(0:Int)<2^n:=Int.pow_pos (by decide);have ha:=q4m pre hb;rw[hp]at ha;have h1:=q6y (2^n) (u.take k) (writ pre);have e1:q66 (writ pre) (u.take k)=writ (pre++u.take k):=by unfold writ q66;rw[List.foldl_append]
 have e2:pre++u.take k=(pre++u).take k++((pre++u).drop k).take n:=by rw[<-List.take_add,Nat.add_comm k n,<-hp,List.take_length_add_append]
 have hl:(((pre++u).drop k).take n).length=n:=by rw[xh,xp,jh];omega
 have hlt:=q4m (((pre++u).drop k).take n) λb h=>by
  rcases List.mem_append.mp (List.mem_of_mem_drop (List.mem_of_mem_take h))with h|h
  ·exact hb b h
  ·exact hu b h
 rw[hl]at hlt;rw[e1,e2,q6t,hl,Int.add_comm,Int.add_mul_emod_self_right,Int.emod_eq_of_lt hlt.1 hlt.2]at h1;have h2:=q4s m0 (u.take k) (writ pre) ha;rw[Int.emod_eq_of_lt h2.1 h2.2]at h1;exact h1
def parF:Nat->Nat->Nat
 |0,_=>0
 |f+1,n=>(n % 2+parF f (n / 2)) % 2
theorem q7b:∀f,parF f 0=0
 |0=>rfl
 |f+1=>by unfold parF;rw[show(0:Nat) / 2=0 from rfl,q7b f]
theorem qfu:∀f n,parF f n<2
 |0,_=>Nat.zero_lt_two
 |f+1,n=>Nat.mod_lt _ (by decide)
def sgn(win tap:Int):Int:=(parF 5 (win.toNat &&& tap.toNat):Nat)
theorem qmf(a t:Int):sgn a t=0∨sgn a t=1:=by have:=qfu 5 (a.toNat &&& t.toNat);unfold sgn;omega
theorem qkt(x y:Nat):(x &&& y) / 2=x / 2 &&& y / 2:=by apply Nat.eq_of_testBit_eq;intro i;rw[Nat.testBit_div_two,Nat.testBit_and,Nat.testBit_and,Nat.testBit_div_two,Nat.testBit_div_two]
theorem qos(x y:Nat):(x &&& y) % 2=(x % 2)*(y % 2):=by have h:=Nat.testBit_and x y 0;simp only[Nat.testBit_zero]at h;have h1:=Nat.mod_two_eq_zero_or_one x;have h2:=Nat.mod_two_eq_zero_or_one y;have h3:=Nat.mod_two_eq_zero_or_one (x &&& y);rcases h1 with h1|h1<;>rcases h2 with h2|h2<;>rcases h3 with h3|h3<;>simp_all
def lsum:List Int->Int->Int
 |[],_=>0
 |b::bs,t=>(t % 2)*b+lsum bs (t / 2)
theorem q9x:∀(f:Nat) (ws:List Int) (t:Int),Bits ws->ws.length<=f->0<=t->((parF f ((writ ws.reverse).toNat &&& t.toNat):Nat):Int)=lsum ws t % 2
 | f,[],t,_,_,_=>by have:(writ ([]:List Int).reverse).toNat=0:=rfl;rw[this,Nat.zero_and,q7b];rfl
 |0,b::bs,t,_,h,_=>by simp at h
 | f+1,b::bs,t,hb,hl,ht=>by
  have ih:=q9x f bs (t / 2) (λx hx=>hb x (jj _ hx)) (by simpa using hl) (by omega);have hw:=q4m bs.reverse λx hx=>hb x (jj _ (List.mem_reverse.mp hx));have hbb:=hb b jg;rw[List.reverse_cons,q5t];unfold parF lsum;rw[qkt,qos];have e1:(writ bs.reverse*2+b).toNat / 2=(writ bs.reverse).toNat:=by omega
  have e2:t.toNat / 2=(t / 2).toNat:=by omega
  have e3:(writ bs.reverse*2+b).toNat % 2=b.toNat:=by omega
  have e4:(t.toNat % 2:Nat)=(t % 2).toNat:=by omega
  rw[e1,e2,e3,e4];generalize parF f ((writ bs.reverse).toNat &&& (t / 2).toNat)=P at ih ⊢;generalize lsum bs (t / 2)=Q at ih ⊢;have t2:t % 2=0∨t % 2=1:=by omega
  rcases hbb with rfl|rfl<;>rcases t2 with q|q<;>rw[q]<;>simp<;>omega
theorem qie(ws:List Int)(t:Int)(hb:Bits ws)(hl:ws.length<=5)(ht:0<=t):sgn (writ ws.reverse) t=lsum ws t % 2:=q9x 5 ws t hb hl ht
def q38(row:List Int)(signs:List Int):List Int:=((signs.zip row).filter λq=>q.2==1).map (·.1)
theorem q5x(row taps:List Int)(g:Int->Int):q38 row (taps.map g)=((taps.zip row).filter λq=>q.2==1).map λq=>g q.1:=by unfold q38;rw[List.zip_map_left,List.filter_map,jk];rfl
theorem q9v(row signs:List Int):(q38 row signs).length<=signs.length:=by unfold q38;rw[j7];refine jr (List.length_filter_le _ _) ?_;rw[xm];exact xi _ _
def rowAt(rows:List (List Int))(k:Nat):List Int:=(rows[k % rows.length]?).getD []
def q44(n:Nat)(taps:List Int)(rows:List (List Int))(a:Int)(u:List Int)(k:Nat):List Int:=
 q38 (rowAt rows k) (taps.map (sgn (2*endR (2^n) a (u.take k)+u.getD k 0)))
def qd5(n:Nat)(taps:List Int)(rows:List (List Int))(a:Int)(u:List Int):List Int:=(List.range u.length).flatMap (q44 n taps rows a u)
theorem q2h{α:Type}(f:Nat->List α)(k:Nat):(List.range (k+1)).flatMap f=(List.range k).flatMap f++f k:=by rw[List.range_succ,List.flatMap_append];simp
theorem q41{α:Type}(f:Nat->List α)(m:Nat)(h:∀k,(f k).length<=m):∀n,((List.range n).flatMap f).length<=n*m
 |0=>by simp
 | n+1=>by rw[q2h,jh];have:=q41 f m h n;have:=h n;rw[Nat.succ_mul];omega
def preR(zb:Bool)(n:Nat)(w:List Int):List Int:=if zb=true then w.drop (w.length-n)else List.replicate n 0
def bitF(zb:Bool)(w:List Int)(i:Int):Int:=if 0<=i/\i<w.length then w.getD i.toNat 0 else if zb=true then w.getD (i+w.length).toNat 0 else 0
theorem qc4{zb:Bool}{n:Nat}{w:List Int}(h:zb=true->n<=w.length):(preR zb n w).length=n:=by
 unfold preR;split
 ·rename_i q;have:=h q;rw[xp];omega
 ·rw[ji]
theorem q9u{zb:Bool}{n:Nat}{w:List Int}(h:Bits w):Bits (preR zb n w):=by
 unfold preR;split
 ·exact λb hb=>h b (List.mem_of_mem_drop hb)
 ·exact λb hb=>.inl (List.eq_of_mem_replicate hb)
theorem qot{zb:Bool}{n z:Nat}{w:List Int}(h:zb=true->n<=w.length/\z=0){i:Nat}(hi:i<n+(w.length+z)):
 (preR zb n w++(w++List.replicate z 0))[i]? =some (bitF zb w ((i:Int)-n)):=by
 have hl:(preR zb n w).length=n:=qc4 λq=>(h q).1;by_cases h1:i<n
 ·rw[k7 (by omega)];unfold bitF;rw[if_neg (by omega)];unfold preR;cases zb with
  | true=>
   obtain⟨h2,h3⟩:=h rfl;simp only[if_true];have e:w.length-n+i<w.length:=by omega
   have e2:((i:Int)-n+w.length).toNat=w.length-n+i:=by omega
   rw[List.getElem?_drop,jd e,e2,jv,jd e];rfl
  | false=>
   simp only[Bool.false_eq_true,if_false];rw[k6,if_pos h1]
 ·rw[xo (by omega),hl];have e2:((i:Int)-n).toNat=i-n:=by omega
  unfold bitF;by_cases h4:i-n<w.length
  ·rw[if_pos ⟨by omega,by omega⟩,e2,k7 h4,jv,jd h4];rfl
  ·rw[if_neg (by omega)];cases zb with
   | true=>
    obtain⟨h2,h3⟩:=h rfl;omega
   | false=>
    simp only[Bool.false_eq_true,if_false];rw[xo (by omega),k6,if_pos (by omega)]
def q85(zb:Bool)(w:List Int)(k:Int)(n:Nat):List Int:=(List.range n).map λ(j:Nat)=>bitF zb w (k-(j:Int))
theorem q52{u v:List Int}(hu:Bits u)(hv:Bits v):Bits (u++v):=λb h=>by
 rcases List.mem_append.mp h with h|h
 ·exact hu b h
 ·exact hv b h
theorem q43(z:Nat):Bits (List.replicate z 0):=λb h=>.inl (List.eq_of_mem_replicate h)
theorem qoy{zb:Bool}{n z:Nat}{w:List Int}(hb:Bits w)(h:zb=true->n<=w.length/\z=0){k:Nat}(hk:k<w.length+z):
 2*endR (2^n) (writ (preR zb n w)) ((w++List.replicate z 0).take k)+(w++List.replicate z 0).getD k 0=writ (q85 zb w k (n+1)).reverse/\Bits (q85 zb w k (n+1)):=by
 have hl:(preR zb n w).length=n:=qc4 λq=>(h q).1;have hu:Bits (w++List.replicate z 0):=q52 hb (q43 z);have hul:(w++List.replicate z 0).length=w.length+z:=by rw[jh,ji]
 have ga:∀i,i<n+(w.length+z)->(preR zb n w++(w++List.replicate z 0))[i]? =some (bitF zb w ((i:Int)-n)):=λi hi=>qot h hi;have gu:∀j,j<w.length+z->(w++List.replicate z 0)[j]? =some (bitF zb w (j:Int)):=λj hj=>by have:=ga (n+j) (by omega);rw[xo (by omega),hl,show n+j-n=j from by omega]at this;rw[this];congr 2;omega
 rw[qcp n (preR zb n w) (w++List.replicate z 0) hl (q9u hb) hu k (by omega)];have hBs:Bits (preR zb n w++(w++List.replicate z 0)):=q52 (q9u hb) hu;have hLl:(preR zb n w++(w++List.replicate z 0)).length=n+(w.length+z):=by rw[jh,hl,hul]
 generalize hL:preR zb n w++(w++List.replicate z 0)=L at ga hBs hLl ⊢;have e1:(w++List.replicate z 0).getD k 0=bitF zb w (k:Int):=by rw[jv,gu k hk];rfl
 rw[e1];have e2:(q85 zb w k (n+1)).reverse=(L.drop k).take n++[bitF zb w (k:Int)]:=by
  apply List.ext_getElem?;intro i;have lb:(q85 zb w k (n+1)).length=n+1:=by unfold q85;rw[j7,List.length_range]
  have lt:((L.drop k).take n).length=n:=by rw[xh,xp];omega
  by_cases hi:i<n+1
  ·rw[List.getElem?_reverse (by omega),lb];unfold q85;rw[jc,xq (by omega)];by_cases hi2:i<n
   ·rw[k7 (by omega),List.getElem?_take_of_lt hi2,List.getElem?_drop,ga (k+i) (by omega)];show some (bitF zb w ((k:Int)-((n+1-1-i:Nat):Int)))=some (bitF zb w (((k+i:Nat):Int)-(n:Int)));congr 2;omega
   ·have:i=n:=by omega
    subst this;rw[xo (by omega),lt,Nat.sub_self];show some (bitF zb w ((k:Int)-((i+1-1-i:Nat):Int)))=some (bitF zb w (k:Int));congr 2;omega
  ·rw[xn (by rw[List.length_reverse];omega),xn (by rw[jh,List.length_singleton];omega)]
 refine⟨by rw[e2,q5t];omega,λb hb'=>?_⟩;have:b∈(q85 zb w k (n+1)).reverse:=List.mem_reverse.mpr hb';rw[e2]at this;rcases List.mem_append.mp this with q|q
 ·exact hBs b (List.mem_of_mem_drop (List.mem_of_mem_take q))
 ·rw[List.mem_singleton.mp q,<-e1];rw[jv,jd (by omega)];exact hu _ (xc _)
theorem qif{zb:Bool}{n z:Nat}{w:List Int}(hn:n<=4)(hb:Bits w)(h:zb=true->n<=w.length/\z=0){k:Nat}(hk:k<w.length+z){t:Int}(ht:0<=t):
 sgn (2*endR (2^n) (writ (preR zb n w)) ((w++List.replicate z 0).take k)+(w++List.replicate z 0).getD k 0) t=lsum (q85 zb w k (n+1)) t % 2:=by
 obtain⟨h1,h2⟩:=qoy hb h hk;rw[h1];exact qie _ t h2 (by unfold q85;rw[j7,List.length_range];omega) ht
def selK(taps:List Int)(rows:List (List Int))(k:Nat):List (Int×Int):=(taps.zip (rowAt rows k)).filter λq=>q.2==1
theorem qih{taps:List Int}{rows:List (List Int)}{k:Nat}{q:Int×Int}(h:q∈selK taps rows k):q.1∈taps:=by have:=(List.mem_filter.mp h).1;exact(List.of_mem_zip (show(q.1,q.2)∈_ from this)).1
def q5j(zb:Bool)(n:Nat)(taps:List Int)(rows:List (List Int))(w:List Int)(N:Nat):List Int:=
 (List.range N).flatMap λk=>(selK taps rows k).map λq=>lsum (q85 zb w k (n+1)) q.1 % 2
theorem qe3{α:Type}{f g:Nat->List α}{N:Nat}(h:∀k,k<N->f k=g k):(List.range N).flatMap f=(List.range N).flatMap g:=by
 induction N with
 |zero=>rfl
 |succ N ih=>rw[q2h,q2h,ih λk hk=>h k (by omega),h N (by omega)]
theorem qbw{zb:Bool}{n z:Nat}{taps:List Int}{rows:List (List Int)}{w:List Int}(hn:n<=4)(hb:Bits w)(h:zb=true->n<=w.length/\z=0)(ht:∀t∈taps,0<=t):
 qd5 n taps rows (writ (preR zb n w)) (w++List.replicate z 0)=q5j zb n taps rows w (w.length+z):=by
 unfold qd5 q5j;rw[jh,ji];refine qe3 λk hk=>?_;unfold q44;rw[q5x];show(selK taps rows k).map _=_;refine List.map_congr_left λq hq=>?_;exact qif hn hb h hk (ht _ (qih hq))
theorem qd6{zb:Bool}{n N:Nat}{taps:List Int}{rows:List (List Int)}{w:List Int}:Bits (q5j zb n taps rows w N):=λb hb=>by unfold q5j at hb;obtain⟨k,hk,hb⟩:=List.mem_flatMap.mp hb;obtain⟨q,hq,rfl⟩:=List.mem_map.mp hb;omega
end L2
namespace L2
open PySem
def rowD(row:List Int):D:=.tup (row.map D.int)
def schD(r:Int)(taps:List Int)(rows:List (List Int))(e:Str):D:=.tup [.int r,.tup (taps.map D.int),.tup (rows.map rowD),.str e]
structure q2d(r:Int)(taps:List Int)(rows:List (List Int))(e:Str):Prop where
 r0:0<=r
 r4:r<=4
 t1:1<=taps.length
 t4:taps.length<=4
 tb:∀t∈taps,0<=t/\t<2*2^r.toNat
 m1:1<=rows.length
 m6:rows.length<=6
 rw:∀row∈rows,row.length=taps.length/\∀b∈row,b=0∨b=1
 en:e="open"∨e="ended"∨e="ring"
theorem quj{a b:Int}(k:Prop)[Decidable k]:∃r:Int,atI [D.int a,D.int b] (if k then 1 else 0)=some (.int r)/\(r=a∨r=b):=by
 by_cases h:k
 ·rw[if_pos h];exact⟨b,rfl,.inr rfl⟩
 ·rw[if_neg h];exact⟨a,rfl,.inl rfl⟩
theorem qbd{P:Int->Prop}:∀{ys:List D},(∀y∈ys,∃t,y=.int t/\P t)->∃ts:List Int,ys=ts.map D.int/\∀t∈ts,P t
 |[],_=>⟨[],rfl,λ_ h=>nomatch h⟩
 | y::ys,h=>by
  obtain⟨t,rfl,ht⟩:=h y jg;obtain⟨ts,rfl,hs⟩:=qbd (P:=P) λz hz=>h z (jj _ hz);refine⟨t::ts,rfl,λu hu=>?_⟩;rcases List.mem_cons.mp hu with rfl|hu
  ·exact ht
  ·exact hs u hu
theorem s_or:eqD (.str "open") (.str "ring")=some false:=by rw[q36 (by decide+kernel) (by decide+kernel)];decide+kernel
theorem s_er:eqD (.str "ended") (.str "ring")=some false:=by rw[q36 (by decide+kernel) (by decide+kernel)];decide+kernel
theorem s_rr:eqD (.str "ring") (.str "ring")=some true:=by rw[q36 (by decide+kernel) (by decide+kernel)];decide+kernel
theorem s_oe:eqD (.str "open") (.str "ended")=some false:=by rw[q36 (by decide+kernel) (by decide+kernel)];decide+kernel
theorem s_ee:eqD (.str "ended") (.str "ended")=some true:=by rw[q36 (by decide+kernel) (by decide+kernel)];decide+kernel
theorem s_re:eqD (.str "ring") (.str "ended")=some false:=by rw[q36 (by decide+kernel) (by decide+kernel)];decide+kernel
def frst(r:Int)(e:Str)(w:List Int):Int:=if e="ring" then writ (w.drop (w.length-r.toNat))else 0
def q5q(r:Int)(e:Str)(w:List Int):List Int:=if e="ended" then w++List.replicate r.toNat 0 else w
theorem qhr{α:Type}(xs:List α)(x:α):atI (xs++[x]) (-1)=some x:=by
 unfold atI ixN;have h1:¬((0:Int)<= -1):=by decide
 have h2:(-(((xs++[x]).length:Nat):Int)<= -1):=by rw[jh,List.length_singleton];omega
 have h3:((-1:Int)+(((xs++[x]).length:Nat):Int)).toNat=xs.length:=by rw[jh,List.length_singleton];omega
 rw[if_neg h1,if_pos h2,h3];show(xs++[x])[xs.length]? =some x;rw[xo (ja _),Nat.sub_self];rfl
theorem qju(n:Nat)(w:List Int)(hb:∀b∈w,b=0∨b=1)(hn:n<=w.length):endR (2^n) (writ (w.drop (w.length-n))) w=writ (w.drop (w.length-n)):=by
 have m0:(0:Int)<2^n:=Int.pow_pos (by decide);have hl:(w.drop (w.length-n)).length=n:=by rw[xp];omega
 have ha:=q4m (w.drop (w.length-n)) λb h=>hb b (List.mem_of_mem_drop h);rw[hl]at ha;generalize hz:writ (w.drop (w.length-n))=a at ha ⊢;have h1:=q6y (2^n) w a;have hw:writ w=writ (w.take (w.length-n))*2^n+a:=by have:=q6t (w.take (w.length-n)) (w.drop (w.length-n));rw[List.take_append_drop,hl,hz]at this;exact this
 have hp:(2:Int)^w.length=2^(w.length-n)*2^n:=by rw[<-Int.pow_add];congr 1;omega
 rw[q3w,hw,hp,<-Int.mul_assoc,<-Int.add_assoc,<-Int.add_mul,Int.add_comm,Int.add_mul_emod_self_right,Int.emod_eq_of_lt ha.1 ha.2]at h1;have h2:=q4s m0 w a ha;rw[Int.emod_eq_of_lt h2.1 h2.2]at h1;exact h1
def isRing(e:Str):Bool:=decide (e="ring")
def q08(r:Int)(e:Str):Nat:=if e="ended" then r.toNat else 0
theorem q4i(r:Int)(e:Str)(w:List Int):q5q r e w=w++List.replicate (q08 r e) 0:=by
 unfold q5q q08;split
 ·rfl
 ·simp
theorem qh1(r:Int)(e:Str)(w:List Int):frst r e w=writ (preR (isRing e) r.toNat w):=by
 unfold frst preR isRing;by_cases h:e="ring"
 ·rw[if_pos h,decide_eq_true h,if_pos rfl]
 ·rw[if_neg h,decide_eq_false h,if_neg (by decide),q72]
theorem q9p{r:Int}{e:Str}{n:Nat}(hw:e="ring"->r.toNat<=n):isRing e=true->r.toNat<=n/\q08 r e=0:=λh=>by have he:e="ring":=of_decide_eq_true h;subst he;exact⟨hw rfl,if_neg (by decide)⟩
theorem qhu{x:Int}(h:0<=x):Builtin.bitAnd x 1=x % 2:=by unfold Builtin.bitAnd;rw[decide_eq_true h,decide_eq_true (by decide:(0:Int)<=1)];show((x.toNat &&& 1:Nat):Int)=x % 2;rw[Nat.and_one_is_mod];omega
theorem qbp{x y:Int}(h:0<=x)(g:0<=y):Builtin.bitAnd x y=((x.toNat &&& y.toNat:Nat):Int):=by unfold Builtin.bitAnd;rw[decide_eq_true h,decide_eq_true g]
theorem qhx{x y:Int}(h:x=0∨x=1)(g:y=0∨y=1):Builtin.bitXor x y=(x+y) % 2:=by rcases h with rfl|rfl<;>rcases g with rfl|rfl<;>decide
theorem q3c{r:Int}(r0:0<=r)(r4:r<=4):(1:Int)<=2^r.toNat/\(2:Int)^r.toNat<=16:=by rcases(by omega:r=0∨r=1∨r=2∨r=3∨r=4)with rfl|rfl|rfl|rfl|rfl<;>decide
end L2
namespace L2
open PySem PySem.Spec PyProof.Rows
section
variable{prog:Program}{w:World}{A:Around}{E:Value->Shared->Prop}{s:Shared}{a₀:Array Keyed}
end
section
variable{X:Cx}{K:FrG}
end
section
variable{K:FrG}{O:List Nat}{t tb:TE}{fa fb:RhD}
end
section
variable{X:Cx}
end
section
variable{X:Cx}
end
section
variable{K:FrG}{O:List Nat}{t tb:TE}{fa fb:RhD}
end
section
variable{c:MC}{O O':List Nat}{te:TE}{fe:RhD}
end
section
variable{K:FrG}{O:List Nat}{tr:TA}{fs:RhL}{E:XK}{n:Nat}
end
section
variable{X:Cx}{K:FrG}{o e:Expr}{es:List Expr}{to:TE}{t:TA}{name:Str}{zu zm:Pos}{T id:String}{r:V->List V->Hp->VK->Prop}
end
end L2
namespace L2
open PySem PySem.NumText
end L2
namespace L2
open PySem PySem.NumText
end L2
namespace L2
open PySem PySem.Spec
section
variable{fa:RhD}{fl fh:Rho->Option (Option Int×Rho)}{ρ:Rho}
end
end L2
namespace L2
open PySem PySem.Spec
def DOk(n:Nat)(d:D):Prop:=∃p,d.toP=some p/\p.canLay0=true/\p.depth<=n
def DOks(n:Nat)(ds:List D):Prop:=∃ps,D.toPs ds=some ps/\PyData.canLayAll0 ps=true/\PyData.depthAll ps<=n
theorem DOk.int(n:Nat)(i:Int):DOk n (.int i):=⟨.int i,by simp only[D.toP],by simp only[PyData.canLay0],by simp only[PyData.depth];exact Nat.zero_le _⟩
theorem DOk.bl(n:Nat)(i:Bool):DOk n (.bl i):=⟨.bool i,by simp only[D.toP],by simp only[PyData.canLay0],by simp only[PyData.depth];exact Nat.zero_le _⟩
theorem DOk.str(n:Nat){x:Str}(h:PyData.strOk x=true):DOk n (.str x):=⟨.str x,by simp only[D.toP],by simp only[PyData.canLay0];exact h,by simp only[PyData.depth];exact Nat.zero_le _⟩
theorem DOks.nil(n:Nat):DOks n []:=⟨[],by simp only[D.toPs],by simp only[PyData.canLayAll0],by simp only[PyData.depthAll];exact Nat.zero_le _⟩
theorem DOks.cons{n:Nat}{d:D}{ds:List D}(h:DOk n d)(r:DOks n ds):DOks n (d::ds):=by obtain⟨p,h1,h2,h3⟩:=h;obtain⟨ps,g1,g2,g3⟩:=r;refine⟨p::ps,by simp only[D.toPs,h1,g1],by simp only[PyData.canLayAll0,h2,g2];rfl,?_⟩;simp only[PyData.depthAll];exact Nat.max_le.mpr ⟨h3,g3⟩
theorem DOks.all{n:Nat}:∀{ds:List D},(∀d∈ds,DOk n d)->DOks n ds
 |[],_=>DOks.nil n
 |d::ds,h=>DOks.cons (h d jg) (DOks.all λx hx=>h x (jj _ hx))
theorem DOks.lst{n:Nat}{ds:List D}(h:DOks n ds):DOk (n+1) (.lst ds):=by obtain⟨ps,g1,g2,g3⟩:=h;exact⟨.list ps,by simp only[D.toP,g1];rfl,by simp only[PyData.canLay0];exact g2,by simp only[PyData.depth];omega⟩
theorem DOks.tup{n:Nat}{ds:List D}(h:DOks n ds):DOk (n+1) (.tup ds):=by obtain⟨ps,g1,g2,g3⟩:=h;exact⟨.tuple ps,by simp only[D.toP,g1];rfl,by simp only[PyData.canLay0];exact g2,by simp only[PyData.depth];omega⟩
theorem qjt{n:Nat}{d:D}(h:DOk n d)(hn:n<=64):eqD d d=some true:=by
 obtain⟨p,h1,h2,h3⟩:=h;have hs:SeqAt.shaped p=true:=by unfold SeqAt.shaped;rw[h2,decide_eq_true (by omega:p.depth<=64)];rfl
 unfold eqD;rw[h1];show(if SeqAt.shaped p=true/\SeqAt.shaped p=true then some (PyData.eqv p p)else none)=some true;rw[if_pos ⟨hs,hs⟩,SeqAt.eqv_refl p h2]
theorem DOk.le{n m:Nat}{d:D}(h:DOk n d)(hn:n<=m):DOk m d:=by obtain⟨p,h1,h2,h3⟩:=h;exact⟨p,h1,h2,by omega⟩
end L2
namespace L2
open PySem PySem.Spec
end L2
namespace L2
open PySem
inductive Told where
 |clear (b:Int)
 |gap
 |soft (z o:Int)
def q0s:Told->D
 |.clear b=>.tup [.str "clear",.int b]
 |.gap=>.tup [.str "gap"]
 |.soft z o=>.tup [.str "soft",.int z,.int o]
def objD:Told->D
 |.clear b=>.obj "Clear" [("bit",.int b)]
 |.gap=>.obj "Gap" []
 |.soft z o=>.obj "Soft" [("zero",.int z),("one",.int o)]
def q4f:Told->Int->Int
 |.clear b,x=>if x=b then 0 else 1
 |.gap,_=>0
 |.soft z o,x=>if x=1 then o else z
def q4t(ts:List Told)(bits:List Int):Int:=((ts.zip bits).map λq=>q4f q.1 q.2).sum
theorem q90{x m:Str}{f:List D->Option D}{gs:List (Str×D)}{ds:List D}(h:gs.lookup m=none):q83 x m f (.obj x gs) ds=f (.obj x gs::ds):=if_pos ⟨rfl,h⟩
theorem q7m{x y m:Str}{f:List D->Option D}{gs:List (Str×D)}{ds:List D}(h:¬y=x):q83 x m f (.obj y gs) ds=none:=if_neg λq=>h q.1
theorem qbg{x f:Str}{gs:List (Str×D)}{d:D}(h:gs.lookup f=some d):fldO x f (.obj x gs)=some d:=(if_pos rfl).trans h
def q0e(taps:List Int)(rows:List (List Int))(N:Nat):List Int:=(List.range N).flatMap λk=>List.replicate (selK taps rows k).length (k:Int)
theorem qb1{zb:Bool}{n:Nat}{taps:List Int}{rows:List (List Int)}(w:List Int):∀N,(q0e taps rows N).length=(q5j zb n taps rows w N).length:=λN=>by
 unfold q0e q5j;induction N with
 |zero=>rfl
 |succ N ih=>rw[q2h,q2h,jh,jh,ih,ji,j7]
theorem q5s(xs ys:List D):zipD xs ys=(xs.zip ys).map λq=>D.tup [q.1,q.2]:=by unfold zipD;rw[List.zip,List.map_zipWith]
theorem q4z{α β γ δ:Type}(f:α->γ)(g:β->δ):∀(xs:List α) (ys:List β),(xs.map f).zip (ys.map g)=(xs.zip ys).map λq=>(f q.1,g q.2)
 |[],_=>rfl
 |_::_,[]=>rfl
 | x::xs,y::ys=>by show(f x,g y)::(xs.map f).zip (ys.map g)=(f x,g y)::(xs.zip ys).map _;rw[q4z f g xs ys]
theorem t_cg:eqD (.str "gap") (.str "clear")=some false:=by rw[q36 (by decide+kernel) (by decide+kernel)];decide+kernel
theorem t_cs:eqD (.str "soft") (.str "clear")=some false:=by rw[q36 (by decide+kernel) (by decide+kernel)];decide+kernel
theorem t_gs:eqD (.str "soft") (.str "gap")=some false:=by rw[q36 (by decide+kernel) (by decide+kernel)];decide+kernel
theorem t_cc:eqD (.str "clear") (.str "clear")=some true:=by rw[q36 (by decide+kernel) (by decide+kernel)];decide+kernel
theorem t_gg:eqD (.str "gap") (.str "gap")=some true:=by rw[q36 (by decide+kernel) (by decide+kernel)];decide+kernel
theorem DOk.told(t:Told):DOk 1 (q0s t):=by
 cases t with
 |clear b=>exact DOks.tup (.cons (.str _ (by decide+kernel)) (.cons (.int _ _) (.nil _)))
 |gap=>exact DOks.tup (.cons (.str _ (by decide+kernel)) (.nil _))
 |soft z o=>exact DOks.tup (.cons (.str _ (by decide+kernel)) (.cons (.int _ _) (.cons (.int _ _) (.nil _))))
theorem DOk.tolds(ts:List Told):DOk 2 (.lst (ts.map q0s)):=DOks.lst (.all λd hd=>by obtain⟨i,_,rfl⟩:=List.mem_map.mp hd;exact .told i)
end L2
namespace L2
open PySem PySem.Spec PyProof.Rows
section
variable{X:Cx}
end
section
variable{K:FrG}{O:List Nat}{t tb:TE}{fa fb:RhD}
def mIfL(f:RhB)(g h:RhL):RhL:=q1u f λb=>if b=true then g else h
theorem qvq{tA:TT}{ga:RhB}{fa fb:RhL}(h:MT K O tA ga)(h1:MN K O t fa)(h2:MN K O tb fb):MN K O (tIf tA t tb) (mIfL ga fa fb):=λZ σ H R ρ d ρ' Q S e k=>by
 obtain⟨c,ρ1,e1,e⟩:=q0c e;refine h Z σ H R ρ c _ _ S e1 λH' R' S' st=>?_;cases c with
 |true=>exact iteT (h1 Z σ H' R' ρ1 d ρ' Q S' e λl vs H2 R2 S2 st2 a1 a2 a3 a4=>k l vs H2 R2 S2 (st.trans st2) (st.new a1) a2 a3 a4)
 |false=>exact iteF (h2 Z σ H' R' ρ1 d ρ' Q S' e λl vs H2 R2 S2 st2 a1 a2 a3 a4=>k l vs H2 R2 S2 (st.trans st2) (st.new a1) a2 a3 a4)
theorem qtl{ga:RhB}{fa fb:RhL}{ρ:Rho}:mIfL ga fa fb ρ=(ga ρ).bind λp=>if p.1=true then fa p.2 else fb p.2:=by unfold mIfL;rw[q17];congr 1;funext p;split<;>rfl
end
end L2
namespace L2
open PySem PySem.Spec
end L2
namespace L2
open PySem PySem.Spec PyProof.Rows
section
variable{X:Cx}
end
section
variable{K:FrG}{O:List Nat}{t tb:TE}{fa fb:RhD}
end
section
variable{X:Cx}{z5:List (Addr×Obj)}{σ:St}{CX:CXT}{k:Nat}{f:Addr}{fd:FuncData}{ps:List Str}{sp:Sp}{dvs:List V}{ds:List Value}{E:XK}{x:Str}{p pos:Pos}{e:Expr}{es:List Expr}{t:TA}{i:Nat}
end
section
variable{K:FrG}{O:List Nat}{tr:TA}{fs:RhL}{E:XK}{n:Nat}
end
section
variable{prog:Program}{w:World}{A:Around}{E:Value->Shared->Prop}{s:Shared}
end
section
variable{X:Cx}{a b:Expr}{ta:TA}{p pos:Pos}{zk:List Expr}{x1:Nat}{tp:Pos}
end
section
variable{K:FrG}{O:List Nat}{tr:TA}{fs:RhL}
end
end L2
namespace L2
open PySem PySem.Spec PySem.NumText
section
variable{K:FrG}{O:List Nat}{E:XK}
end
end L2
namespace L2
open PySem PySem.Spec PyProof.Rows
section
variable{c:MC}{O O':List Nat}{te:TE}{fa:RhD}
end
section
variable{M:Model}{A:Around}{E:Value->Shared->Prop}{s:Shared}{B:Heap}{env:Env}{outer l:List Env}{L e:Addr}{cls fl:Value}{Q:Unit->Shared->Prop}
end
section
variable{X:Cx}{z5:List (Addr×Obj)}{σ:St}{H H':Hp}{s:Shared}
end
section
variable{P:Program}{w:World}{K:FrG}{mg:Str->Option Value}{base:Heap}{N:List Str}{qual:Str}{scope:Scope}{f:Addr}{cd:Value}{A:Around}{outer:List Env}{s₀:Shared}{H₀:Hp}{E:XK}
end
section
variable{X:Cx}{tg elt ze:Expr}{ifs:List Expr}{scope:Scope}{pos:Pos}{N N0:List Str}{n:Nat}{js:List Nat}{sc:Scope}{wi:TI}{g:TG}{tt:TT}{te:TE}
end
section
variable{X:Cx}{tg elt ze:Expr}{ifs:List Expr}{scope:Scope}{pos:Pos}{N N0:List Str}{n:Nat}{js:List Nat}{sc:Scope}{wi:TI}{g:TG}{tt:TT}{te:TE}
end
@[irreducible] def QSs(X:Cx)(st:List Stmt)(t:TS):Prop:=PSs X st t
section
variable{X:Cx}{st:Stmt}{sts a b:List Stmt}{t u:TS}{tc:TT}{c tg ze:Expr}{wi:TI}{g:TG}{pos:Pos}
end
inductive Inn(K:FrG)(H R:Hp):List Addr->List (List D)->Prop
 |nil:Inn K H R [] []
 |cons {a:Addr} {as:List Addr} {vs:List V} {ds:List D} {dss:List (List D)}:H a=some (.lst vs)->R a=none->Rps K R vs ds->Inn K H R as dss->Inn K H R (a::as) (ds::dss)
structure Deep(K:FrG)(H R:Hp)(l:Addr)(as:List Addr)(dss:List (List D)):Prop where
 top:H l=some (.lst (as.map V.ref))
 rl:R l=none
 inn:Inn K H R as dss
 nd:(l::as).Nodup
theorem StR.put{K:FrG}{Z:Anc}{O:List Nat}{σ:St}{H R:Hp}{ρ:Rho}{a:Addr}{o:HO}(S:StR K Z O σ H R ρ)(hr:R a=none)(n:∀i,i∈O->σ[i]? ≠some (some (.ref a)))(z:Z.H0 a=none):StR K Z O σ (upd H a o) R ρ:=by
 have ne:∀b u,Z.H0 b=some u->b≠a:=λb u e q=>by rw[q,z]at e;cases e
 refine⟨λb u e=>?_,S.len,S.env,λi hi=>?_,S.dis,λb u e nl=>?_,S.ar,S.an,λb h=>?_,S.ao,S.ap⟩
 ·have q:b≠a:=λq=>by rw[q,hr]at e;cases e
  rw[q0v q];exact S.sub b u e
 ·obtain⟨l,vs,ds,h1,h2,h3,h4,h5⟩:=S.own i hi;have q:l≠a:=λq=>n i hi (by rw[h2,q]);exact⟨l,vs,ds,h1,h2,by rw[q0v q];exact h3,h4,h5⟩
 ·rw[q0v (ne b u e)];exact S.ah b u e nl
 ·have q:b≠a:=λq=>h (by rw[q];exact z);have l:=S.ad b h;unfold Liv at l ⊢;rw[q0v q];exact l
theorem Inn.has{K:FrG}{H R:Hp}{as:List Addr}{dss:List (List D)}(h:Inn K H R as dss):∀a∈as,∃vs,H a=some (.lst vs):=by
 induction h with
 |nil=>exact λ_ h=>nomatch h
 | cons h1 _ _ _ ih=>
  intro a ha;rcases List.mem_cons.mp ha with rfl|ha
  ·exact⟨_,h1⟩
  ·exact ih a ha
theorem Inn.wr{K:FrG}{H R:Hp}{as:List Addr}{dss:List (List D)}{b:Addr}{o:HO}(h:Inn K H R as dss)(n:b∉as):Inn K (upd H b o) R as dss:=by
 induction h with
 |nil=>exact .nil
 | cons h1 h2 h3 _ ih=>
  exact .cons (by rw[q0v λq=>n (by rw[q];exact jg)];exact h1) h2 h3 (ih λq=>n (jj _ q))
theorem Inn.len{K:FrG}{H R:Hp}{as:List Addr}{dss:List (List D)}(h:Inn K H R as dss):as.length=dss.length:=by
 induction h with
 |nil=>rfl
 |cons _ _ _ _ ih=>rw[jq,jq,ih]
theorem Inn.at{K:FrG}{H R:Hp}{as:List Addr}{dss:List (List D)}(h:Inn K H R as dss):∀{k:Nat} {a:Addr},as[k]? =some a->∃vs ds,dss[k]? =some ds/\H a=some (.lst vs)/\R a=none/\Rps K R vs ds:=by
 induction h with
 |nil=>intro k a e;simp at e
 | cons h1 h2 h3 _ ih=>
  intro k a e;cases k with
  | zero=>
   cases e;exact⟨_,_,rfl,h1,h2,h3⟩
  |succ k=>exact ih e
theorem Inn.setAt{K:FrG}{H R:Hp}{as:List Addr}{dss:List (List D)}{vs:List V}{ds:List D}(h:Inn K H R as dss)(r:Rps K R vs ds):∀{k:Nat} {a:Addr},as.Nodup->as[k]? =some a->Inn K (upd H a (.lst vs)) R as (dss.set k ds):=by
 induction h with
 |nil=>intro k a _ e;simp at e
 | @cons b _ _ _ _ h1 h2 h3 t ih=>
  intro k a nd e;obtain⟨n1,n2⟩:=List.nodup_cons.mp nd;cases k with
  | zero=>
   cases e;exact .cons q0y h2 r (t.wr n1)
  | succ k=>
   rw[List.getElem?_cons_succ]at e;have m:=xv e;have ne:b≠a:=λq=>n1 (by rw[q];exact m);exact .cons (by rw[q0v ne];exact h1) h2 h3 (ih n2 e)
theorem Deep.setAt{K:FrG}{H R:Hp}{l a:Addr}{as:List Addr}{dss:List (List D)}{vs:List V}{ds:List D}{k:Nat}(h:Deep K H R l as dss)(e:as[k]? =some a)(r:Rps K R vs ds):Deep K (upd H a (.lst vs)) R l as (dss.set k ds):=by obtain⟨n1,n2⟩:=List.nodup_cons.mp h.nd;have ne:l≠a:=λq=>n1 (by rw[q];exact xv e);exact⟨by rw[q0v ne];exact h.top,h.rl,h.inn.setAt r n2 e,h.nd⟩
theorem Inn.other{K:FrG}{H R:Hp}{as:List Addr}{dss:List (List D)}{b:Addr}{o:HO}(h:Inn K H R as dss)(n:b∉as)(hb:R b=none):Inn K H (upd R b o) as dss:=by
 have s:Same R (upd R b o):=λa u e=>by
  have q:a≠b:=λq=>by rw[q,hb]at e;cases e
  rw[q0v q];exact e
 induction h with
 |nil=>exact .nil
 | cons h1 h2 h3 _ ih=>
  exact .cons h1 (by rw[q0v λq=>n (by rw[q];exact jg)];exact h2) (h3.mono s) (ih λq=>n (jj _ q))
theorem StR.knowAll{K:FrG}{Z:Anc}{O:List Nat}{σ:St}{H:Hp}{ρ:Rho}:∀{as:List Addr} {dss:List (List D)} {R:Hp},StR K Z O σ H R ρ->Inn K H R as dss->as.Nodup->(∀a∈as,Z.H0 a=none/\∀j,j∈O->σ[j]? ≠some (some (.ref a)))->∃R1,StR K Z O σ H R1 ρ/\Same R R1/\Rps K R1 (as.map V.ref) (dss.map D.lst)/\∀b,b∉as->R1 b=R b
 | [],dss,R,S,h,_,_=>by
  have l:=h.len;cases dss with
  |cons x r=>simp at l
  |nil=>exact⟨R,S,Same.refl _,.nil,λ_ _=>rfl⟩
 | a::as,dss,R,S,h,nd,hz=>by
  cases h with
  | @cons _ _ vs ds dss h1 h2 h3 h4=>
   obtain⟨na,nd'⟩:=List.nodup_cons.mp nd;obtain⟨z1,z2⟩:=hz a jg;have s:Same R (upd R a (.lst vs)):=λb u e=>by
    have q:b≠a:=λq=>by rw[q,h2]at e;cases e
    rw[q0v q];exact e
   obtain⟨R1,S1,s1,r1,o1⟩:=StR.knowAll (S.know z1 h1 h2 z2) (h4.other na h2) nd' λb hb=>hz b (jj _ hb);refine⟨R1,S1,s.trans s1,.cons (.lst (SqL.of (s1 _ _ q0y)) ((h3.mono s).mono s1)) r1,λb hb=>?_⟩;have hb1:b≠a:=λq=>hb (by rw[q];exact jg);rw[o1 b λq=>hb (jj _ q),q0v hb1]
theorem Inn.stp{K:FrG}{O:List Nat}{σ:St}{H R H' R':Hp}{as:List Addr}{dss:List (List D)}(h:Inn K H R as dss)(s:Stp O σ H R H' R')(ow:∀a∈as,∀j,j∈O->σ[j]? ≠some (some (.ref a))):Inn K H' R' as dss:=by
 induction h with
 |nil=>exact .nil
 | @cons a as vs ds dss h1 h2 h3 _ ih=>
  refine .cons (s.h _ _ h1 (ow a jg)) ?_ (h3.mono s.r) (ih λb hb=>ow b (jj _ hb));cases q:R' a with
  |none=>rfl
  | some o=>
   rcases s.n a (by rw[q];exact λz=>nomatch z)with z|z
   ·exact absurd h2 z
   ·rcases z with z|⟨xs,z⟩<;>(rw[h1]at z;cases z)
structure StD(K:FrG)(Z:Anc)(O:List Nat)(i:Nat)(σ:St)(H R:Hp)(ρ:Rho)(l:Addr)(as:List Addr)(dss:List (List D)):Prop where
 st:StR K Z O σ H R ρ
 hi:i∉O
 no:ρ[i]? =some none
 at':σ[i]? =some (some (.ref l))
 dp:Deep K H R l as dss
 z0:∀a∈l::as,Z.H0 a=none
 ow:∀a∈l::as,∀j,j∈O->σ[j]? ≠some (some (.ref a))
section
variable{K:FrG}{Z:Anc}{O:List Nat}{i j:Nat}{σ:St}{H R H' R':Hp}{ρ ρ':Rho}{l:Addr}{as:List Addr}{dss:List (List D)}
theorem StD.stp(S:StD K Z O i σ H R ρ l as dss)(T:StR K Z O σ H' R' ρ')(s:Stp O σ H R H' R')(no:ρ'[i]? =some none):StD K Z O i σ H' R' ρ' l as dss:=by
 refine⟨T,S.hi,no,S.at',⟨s.h _ _ S.dp.top (S.ow l jg),?_,S.dp.inn.stp s λa ha=>S.ow a (jj _ ha),S.dp.nd⟩,S.z0,S.ow⟩;cases q:R' l with
 |none=>rfl
 | some o=>
  rcases s.n l (by rw[q];exact λz=>nomatch z)with z|z
  ·exact absurd S.dp.rl z
  ·rcases z with z|⟨xs,z⟩<;>(rw[S.dp.top]at z;cases z)
theorem StD.set(S:StD K Z O i σ H R ρ l as dss){v:V}{d:D}(hj:j∉O)(ij:j≠i)(r:Rp K R v d):StD K Z O i (σ.set j (some v)) H R (ρ.set j (some d)) l as dss:=
 ⟨S.st.set hj r,S.hi,by rw[jl ij];exact S.no,by rw[jl ij];exact S.at',S.dp,S.z0,λa ha k hk=>by rw[jl λ(q:j=k)=>hj (q▸hk)];exact S.ow a ha k hk⟩
theorem StR.blind{v:V}(S:StR K Z O σ H R ρ)(hj:j∉O):StR K Z O (σ.set j (some v)) H R (ρ.set j none):=by
 have ne:∀k,k∈O->j≠k:=λk hk z=>hj (z▸hk);refine⟨S.sub,by rw[x9,x9];exact S.len,λk e hk q=>?_,λk hk=>?_,λk m hk hm n l e=>?_,S.ah,S.ar,S.an,S.ad,λk hk hp l e=>?_,λk hk hp l e=>?_⟩
 ·by_cases hij:j=k
  ·subst hij;have hl:j<ρ.length:=by
    have:=(List.getElem?_eq_some_iff.mp q).1
    rwa [x9]at this
   rw[xf hl]at q;cases q
  ·rw[jl hij]at q ⊢;exact S.env k e hk q
 ·rw[jl (ne k hk),jl (ne k hk)];exact S.own k hk
 ·rw[jl (ne k hk)]at e;rw[jl (ne m hm)];exact S.dis k m hk hm n l e
 ·rw[jl (ne k hk)]at e;exact S.ao k hk hp l e
 ·rw[jl (ne k hk)]at e;exact S.ap k hk hp l e
theorem StD.wrAt{k:Nat}{a:Addr}{vs:List V}{ds:List D}(S:StD K Z O i σ H R ρ l as dss)(e:as[k]? =some a)(r:Rps K R vs ds):StD K Z O i σ (upd H a (.lst vs)) R ρ l as (dss.set k ds):=by have m:a∈l::as:=jj _ (xv e);obtain⟨_,_,_,_,hr,_⟩:=S.dp.inn.at e;exact⟨S.st.put hr (λj hj=>S.ow a m j hj) (S.z0 a m),S.hi,S.no,S.at',S.dp.setAt e r,S.z0,S.ow⟩
end
abbrev Fd:=Rho->List (List D)->Option (Rho×List (List D))
def MSD(K:FrG)(O:List Nat)(i:Nat)(t:TS)(f:Fd):Prop:=∀(Z:Anc) (E:Ends) (σ:St) (H R:Hp) (ρ:Rho) (l:Addr) (as:List Addr) (dss:List (List D)) (ρ':Rho) (zw:List (List D)),StD K Z O i σ H R ρ l as dss->f ρ dss=some (ρ',zw)->
 (∀σ' H' R' as',StD K Z O i σ' H' R' ρ' l as' zw->Same R R'->E.nx σ' H')->t E σ H
section
variable{K:FrG}{O:List Nat}{i j:Nat}{t u:TS}{te:TE}{tt:TT}{tr:TA}{f h:Fd}{fe:RhD}{fs:RhL}{ft:RhB}
def isFree(ρ:Rho)(i:Nat):Bool:=match ρ[i]? with
 |some none=>true
 |_=>false
theorem q5z{ρ:Rho}{i:Nat}(h:isFree ρ i=true):ρ[i]? =some none:=by
 unfold isFree at h;split at h
 ·assumption
 ·cases h
end
def spD(K:FrG)(n:Nat)(f:List D->Option (List (List D))):Sp:=λvs H Q _=>vs.length=n/\∃R ds dss,(∀a o,R a=some o->H a=some o)/\Rps K R vs ds/\f ds=some dss/\
 ∀l as H' R',Ext H R H' R'->(∀a∈l::as,H a=none)->Deep K H' R' l as dss->Q (.ref l) H'
def qae(o:Option (List (List D))):Option D:=o.map λdss=>.lst (dss.map D.lst)
theorem Deep.known{K:FrG}{H R H' R':Hp}{l:Addr}{as:List Addr}{dss:List (List D)}(x:Ext H R H' R')(z:∀a∈l::as,H a=none)(h:Deep K H' R' l as dss):∃R1,Ext H R H' R1/\Rp K R1 (.ref l) (.lst (dss.map D.lst)):=by
 have S:StR K ⟨H,R,λ_=>False,[]⟩ [] [] H' R' []:=⟨x.s,rfl,λi d _ q=>by simp at q,λi hi=>(nomatch hi),λi j hi=>(nomatch hi),λa o q _=>x.h a o q,x.r,x.n,λa q=>x.h.liv q,λi hi=>(nomatch hi),λi hi=>(nomatch hi)⟩;obtain⟨nl,nd⟩:=List.nodup_cons.mp h.nd;obtain⟨R1,S1,s1,r1,o1⟩:=S.knowAll h.inn nd λa ha=>⟨z a (jj _ ha),λj hj=>(nomatch hj)⟩;have e1:R1 l=none:=by rw[o1 l nl];exact h.rl
 have S2:=S1.know (z l jg) h.top e1 λj hj=>(nomatch hj);exact⟨_,⟨λa o q=>S2.ah a o q (λz=>z),S2.ar,S2.sub,S2.an⟩,.lst (SqL.of q0y) (r1.mono (Same.new e1))⟩
theorem qpk{K:FrG}{n:Nat}{f:List D->Option (List (List D))}{vs:List V}{H:Hp}{Q:VK}{E:XK}(h:spP K false n (λds=>qae (f ds)) vs H Q E):spD K n f vs H Q E:=by
 obtain⟨hn,R,ds,d,sub,r,e,k⟩:=h;have e:qae (f ds)=some d:=e;cases q:f ds with
 |none=>rw[q]at e;cases e
 | some dss=>
  rw[q]at e;cases e;refine⟨hn,R,ds,dss,sub,r,q,λl as H' R' x z dp=>?_⟩;obtain⟨R1,x1,r1⟩:=dp.known x z;exact k _ H' R1 x1 r1
theorem qjn{K:FrG}{Nms:List Str}{n:Nat}{H R:Hp}{vs:List V}{ds:List D}(hn:vs.length=n)(hl:ds.length=n)(sub:∀a o,R a=some o->H a=some o)(r:Rps K R vs ds):StR K ⟨H,R,λ_=>False,[]⟩ [] (start Nms vs) H R (ds.map some++List.replicate (Nms.length-n) none):=by
 refine⟨sub,?_,λi d _ q=>?_,λi hi=>absurd hi (by simp),λi j hi=>absurd hi (by simp),λa o q _=>q,Same.refl _,λa q=>.inl q,λa q=>.refl q,λi hi=>absurd hi (by simp),λi hi=>absurd hi (by simp)⟩
 ·unfold start;rw[jh,jh,j7,j7,ji,ji,hn,hl]
 ·obtain⟨v,h1,h2⟩:=r.get (q9m q);exact⟨v,q9k h1,h2⟩
section
variable{K:FrG}{O T:List Nat}{i:Nat}{t:TS}{te:TE}{tr:TA}{g:TG}{f:Fd}{fe:RhD}{fs:RhL}{fg:RhG}
def q5h(i:Nat)(fg:RhG)(f:Fd):List D->Fd
 |[],ρ,dss=>some (ρ,dss)
 | d::r,ρ,dss=>match fg d ρ with
  | some ρ1=>if isFree ρ1 i=true then(match f ρ1 dss with
   |some p=>q5h i fg f r p.1 p.2
   |none=>none)else none
  |none=>none
def q8h(i:Nat)(fg:RhG)(fi:RhL)(f:Fd):Fd:=λρ dss=>match fi ρ with
 |some (ds,ρ1)=>if isFree ρ1 i=true then q5h i fg f ds ρ1 dss else none
 |none=>none
theorem StD.tgt{Z:Anc}{σ σ':St}{H R:Hp}{ρ ρ':Rho}{l:Addr}{as:List Addr}{dss:List (List D)}(S:StD K Z O i σ H R ρ l as dss)(S':StR K Z O σ' H R ρ')(n:∀j,j∉T->σ'[j]? =σ[j]?)(hT:∀k∈i::O,k∉T)(no:ρ'[i]? =some none):StD K Z O i σ' H R ρ' l as dss:=
 ⟨S',S.hi,no,by rw[n i (hT i jg)];exact S.at',S.dp,S.z0,λa ha k hk=>by rw[n k (hT k (jj _ hk))];exact S.ow a ha k hk⟩
theorem qcf{wi:TI}{fi:RhL}{tb:TS}(hi:MI K O wi fi)(hg:MG K O T g fg)(hT:∀k∈i::O,k∉T)(hb:MSD K O i tb f):MSD K O i (tFor wi g tb) (q8h i fg fi f):=λZ E σ H R ρ l as dss ρ' zw S e k=>by
 unfold q8h at e;split at e
 ·rename_i ds ρ1 q;split at e
  ·rename_i z;have no:=q5z z;refine hi Z σ H R ρ ds ρ1 _ S.st q λJ H1 R1 S1 st1 ok=>?_;have S2:=S.stp S1 st1 no;refine⟨λn m σ' H'=>m=ds.length-n/\n<=ds.length/\∃R2 ρ2 as2 dss2,StD K Z O i σ' H' R2 ρ2 l as2 dss2/\Same R1 R2/\q5h i fg f (ds.drop n) ρ2 dss2=some (ρ',zw),⟨ds.length,by simp,Nat.zero_le _,R1,ρ1,as,dss,S2,Same.refl _,by rw[List.drop_zero];exact e⟩,?_⟩;rintro n m σ' H' ⟨rfl,hn,R2,ρ2,as2,dss2,S3,s3,e3⟩;obtain⟨o1,o2⟩:=ok H' R2 s3 S3.st.sub n;by_cases hlt:n<ds.length
   ·obtain⟨g1,g2⟩:=o2 ds[n] (jd hlt);rw[xl hlt]at e3;refine .inr ⟨g1,λσ3 H3=>∃R2 ρ2 as2 dss2,StD K Z O i σ3 H3 R2 ρ2 l as2 dss2/\Same R1 R2/\q5h i fg f (ds.drop (n+1)) ρ2 dss2=some (ρ',zw),?_,λx H3 y=>?_⟩
    ·rintro σ3 H3 ⟨R3,ρ3,as3,dss3,q1,q2,q3⟩;exact⟨ds.length-(n+1),by omega,rfl,hlt,R3,ρ3,as3,dss3,q1,q2,q3⟩
    ·obtain⟨R3,x3,r3⟩:=g2 x H3 y;have S4:=S3.stp (S3.st.ext x3) x3.stp S3.no;unfold q5h at e3;split at e3
     ·rename_i ρ4 e4;split at e3
      ·rename_i z4;have no4:=q5z z4;refine hg Z σ' H3 R3 ρ2 x ds[n] ρ4 _ S4.st r3 e4 λσ4 S5 n5=>?_;have S6:=S4.tgt S5 n5 hT no4;split at e3
       ·rename_i p e5;exact hb Z _ _ H3 R3 _ l as2 dss2 p.1 p.2 S6 e5 λσ5 H5 R5 as5 S7 s5=>⟨R5,p.1,as5,p.2,S7,(s3.trans x3.r).trans s5,e3⟩
       ·cases e3
      ·cases e3
     ·cases e3
   ·have en:n=ds.length:=by omega
    subst en;rw[List.drop_length]at e3;unfold q5h at e3;cases e3;exact .inl ⟨o1 rfl,k σ' H' R2 as2 S3 (st1.r.trans s3)⟩
  ·cases e
 ·cases e
def q5p(dss:List (List D))(n:Int)(d:D):Option (List (List D)):=if 0<=n then(match dss[n.toNat]? with
 |some ds=>if ds.length<sizeLine then some (dss.set n.toNat (ds++[d]))else none
 |none=>none)else none
def q3f(i:Nat)(fe:RhD)(fs:RhL):Fd:=λρ dss=>match fe ρ with
 | some (.int n,ρ0)=>if isFree ρ0 i=true then(match fs ρ0 with
  |some ([d],ρ1)=>if isFree ρ1 i=true then(q5p dss n d).map λx=>(ρ1,x)else none
  |_=>none)else none
 |_=>none
theorem q8d(he:ME K O te fe)(ha:MA K O tr fs):MSD K O i (qej (tBM K "list" qaz (tOp (rIx K) (tVar i) te) tr)) (q3f i fe fs):=λZ E σ H R ρ l as dss ρ' zw S e k=>by
 unfold q3f at e;split at e
 ·rename_i n ρ0 q0;split at e
  ·rename_i z0;have no0:=q5z z0;split at e
   ·rename_i d ρ1 q;split at e
    ·rename_i z;have no:=q5z z;cases w:q5p dss n d with
     |none=>rw[w]at e;cases e
     | some x=>
      rw[w]at e;cases e;unfold q5p at w;split at w
      ·rename_i hn0;split at w
       ·rename_i ds w1;split at w
        ·rename_i w2;cases w;refine⟨.ref l,S.at',he Z σ H R ρ (.int n) ρ0 _ S.st q0 λv0 H0 R0 S0 st0 r0=>?_⟩;cases r0;have T0:=S.stp S0 st0 no0;have ln:=T0.dp.inn.len;have hk:n.toNat<as.length:=by rw[ln];exact(List.getElem?_eq_some_iff.mp w1).1
         have ea:as[n.toNat]? =some as[n.toNat]:=jd hk;obtain⟨vs,ds2,g1,g2,g3,g4⟩:=T0.dp.inn.at ea;rw[w1]at g1;cases g1;refine .inl ⟨l,_,n,.ref as[n.toNat],rfl,rfl,SqL.of T0.dp.top,?_,?_⟩
         ·unfold atI;have e1:ixN (as.map V.ref).length n=some n.toNat:=by
           rw[j7];unfold ixN;rw[if_pos hn0,if_pos (by omega)]
          rw[e1];show(as.map V.ref)[n.toNat]? =_;rw[jc,ea];rfl
         ·refine⟨.inl ⟨rfl,vs,SqL.of g2⟩,ha Z σ H0 R0 ρ0 [d] _ _ T0.st q λws H1 R1 S1 st1 r1=>?_⟩;obtain⟨v,_,rfl,rv,rn⟩:=r1.isC;cases rn;have S2:=T0.stp S1 st1 no;obtain⟨vs2,ds3,g1,g2,g3,g4⟩:=S2.dp.inn.at ea;rw[w1]at g1;cases g1;exact⟨_,vs2,v,rfl,rfl,g2,by rw[g4.length];exact w2,k σ _ R1 as (S2.wrAt ea (g4.snoc rv)) (st0.r.trans st1.r)⟩
        ·cases w
       ·cases w
      ·cases w
    ·cases e
   ·cases e
  ·cases e
 ·cases e
end
def ql1(i n:Nat)(js:List Nat)(wi:TI)(t:TS):TS:=tSeq (qfd i n js wi (q6f 0) tYes (tLst tNil)) (tSeq t (tRet (tVar i)))
theorem Inn.empty{K:FrG}{H R:Hp}:∀{as:List Addr},(∀a∈as,H a=some (.lst []))->(∀a∈as,R a=none)->Inn K H R as (List.replicate as.length [])
 |[],_,_=>.nil
 |a::as,h,r=>.cons (h a jg) (r a jg) .nil (Inn.empty (λb hb=>h b (jj _ hb)) λb hb=>r b (jj _ hb))
theorem qe5{K:FrG}{i n:Nat}{js:List Nat}{wi:TI}{fi:RhL}{t:TS}{f:Fd}{H R H1 R1:Hp}{σ:St}{ρ ρ1:Rho}{ds:List D}{dss:List (List D)}{Q:VK}(hw:MI K [] wi fi)(hm:MSD K [] i t f)(S:StR K ⟨H,R,λ_=>False,[]⟩ [] σ H1 R1 ρ)(e1:fi ρ=some (ds,ρ1))(hl:i<ρ1.length)(hz:ds.length<=sizeLine){ρ':Rho}(e:f (ρ1.set i none) (List.replicate ds.length [])=some (ρ',dss))
 (k:∀l as H' R',Ext H R H' R'->(∀a∈l::as,H a=none)->Deep K H' R' l as dss->Q (.ref l) H'):ql1 i n js wi t {nx:=λ_ H'=>Q .non H',rt:=Q} σ H1:=by
 refine hw _ σ H1 R1 ρ ds ρ1 _ S e1 λJ H2 R2 S2 st2 ok=>?_;refine⟨λc m ys H3=>m=ds.length-c/\c<=ds.length/\∃(R3:Hp) (as:List Addr),ys=as.map V.ref/\as.length=c/\as.Nodup/\(∀a∈as,H a=none)/\(∀a∈as,H3 a=some (.lst []))/\(∀a∈as,R3 a=none)/\Same R2 R3/\StR K ⟨H,R,λ_=>False,[]⟩ [] σ H3 R3 ρ1,
  ⟨ds.length,by simp,Nat.zero_le _,R2,[],rfl,rfl,List.nodup_nil,λ_ h=>(nomatch h),λ_ h=>(nomatch h),λ_ h=>(nomatch h),Same.refl _,S2⟩,?_⟩
 rintro c m ys H3 ⟨rfl,hc,R3,as,rfl,la,nd,a1,a2,a3,s3,S3⟩;obtain⟨o1,o2⟩:=ok H3 R3 s3 S3.sub c;by_cases hlt:c<ds.length
 ·obtain⟨g1,g2⟩:=o2 ds[c] (jd hlt);refine .inr ⟨g1,by rw[j7];omega,λys' H'=>∃(R3:Hp) (as:List Addr),ys'=as.map V.ref/\as.length=c+1/\as.Nodup/\(∀a∈as,H a=none)/\(∀a∈as,H' a=some (.lst []))/\(∀a∈as,R3 a=none)/\Same R2 R3/\StR K ⟨H,R,λ_=>False,[]⟩ [] σ H' R3 ρ1,?_,λx H4 y=>?_⟩
  ·rintro ys' H' ⟨R4,as4,q⟩;exact⟨ds.length-(c+1),by omega,rfl,hlt,R4,as4,q⟩
  ·obtain⟨R4,x4,r4⟩:=g2 x H4 y;have S4:=S3.ext x4;dsimp only[q6f,tYes];rw[if_pos rfl];refine⟨by show 0<=sizeLine;exact Nat.zero_le _,λp hp=>?_⟩;have b2:∀a∈as,H4 a=some (.lst []):=λa ha=>x4.h a _ (a2 a ha);have np:p∉as:=λq=>by have:=b2 p q;rw[hp]at this;cases this
   have b3:∀a∈as,R4 a=none:=λa ha=>by
    cases q:R4 a with
    |none=>rfl
    | some o=>
     rcases x4.n a (by rw[q];exact λz=>nomatch z)with z|z
     ·exact absurd (a3 a ha) z
     ·rcases z with z|⟨xs,z⟩<;>(rw[a2 a ha]at z;cases z)
   refine⟨R4,as++[p],by rw[x8];rfl,by rw[jh,la];rfl,List.nodup_append.mpr ⟨nd,by simp,λu hu v hv q=>np (by rw[List.mem_singleton.mp hv]at q;exact q▸hu)⟩,λa ha=>?_,λa ha=>?_,λa ha=>?_,s3.trans x4.r,S4.ext (Ext.hid S4.sub hp)⟩
   ·rcases List.mem_append.mp ha with ha|ha
    ·exact a1 a ha
    ·rw[List.mem_singleton.mp ha];exact S4.new0 hp
   ·rcases List.mem_append.mp ha with ha|ha
    ·rw[q0v λq=>np (by rw[<-q];exact ha)];exact b2 a ha
    ·rw[List.mem_singleton.mp ha];exact q0y
   ·rcases List.mem_append.mp ha with ha|ha
    ·exact b3 a ha
    ·rw[List.mem_singleton.mp ha];exact S4.out hp
 ·have ec:c=ds.length:=by omega
  subst ec;refine .inl ⟨o1 rfl,by rw[j7,la];exact hz,λp hp=>?_⟩;have np:p∉as:=λq=>by have:=a2 p q;rw[hp]at this;cases this
  have x:=Ext.hid (o:=.lst (as.map V.ref)) S3.sub hp;have S4:=S3.ext x;have T:StD K ⟨H,R,λ_=>False,[]⟩ [] i (σ.set i (some (.ref p))) (upd H3 p (.lst (as.map V.ref))) R3 (ρ1.set i none) p as (List.replicate ds.length []):=by
   refine⟨S4.blind (by simp),by simp,List.getElem?_set_self hl,List.getElem?_set_self (by rw[S3.len];exact hl),⟨q0y,S3.out hp,?_,List.nodup_cons.mpr ⟨np,nd⟩⟩,λa ha=>?_,λa ha j hj=>(nomatch hj)⟩
   ·rw[<-la];exact Inn.empty (λa ha=>by rw[q0v λq=>np (by rw[<-q];exact ha)];exact a2 a ha) a3
   ·rcases List.mem_cons.mp ha with ha|ha
    ·rw[ha];exact S3.new0 hp
    ·exact a1 a ha
  refine hm _ _ _ _ R3 _ p as _ ρ' dss T e λσ' H' R' as' S' s'=>?_;exact⟨.ref p,S'.at',k p as' H' R' ⟨λa o q=>S'.st.ah a o q (λz=>z),S'.st.ar,S'.st.sub,S'.st.an⟩ S'.z0 S'.dp⟩
def q8v(n N i:Nat)(fi:RhL)(f:Fd)(ds:List D):Option (List (List D)):=if ds.length=n then match fi (ds.map some++List.replicate (N-n) none)with
 | some (xs,ρ1)=>if i<ρ1.length/\xs.length<=sizeLine then(match f (ρ1.set i none) (List.replicate xs.length [])with
  |some p=>some p.2
  |none=>none)else none
 |none=>none
 else none
theorem qff{n N i:Nat}{fi:RhL}{f:Fd}:q1r n (λds=>qae (q8v n N i fi f ds)):=λds d e=>by
 have e:qae (q8v n N i fi f ds)=some d:=e;unfold q8v at e;split at e
 ·assumption
 ·cases e
theorem q9l{K:FrG}{n i m:Nat}{js:List Nat}{Nms:List Str}{wi:TI}{fi:RhL}{t:TS}{f:Fd}{vs:List V}{H:Hp}{Q:VK}{E:XK}(hw:MI K [] wi fi)(hm:MSD K [] i t f)(h:spD K n (q8v n Nms.length i fi f) vs H Q E):ql1 i m js wi t {nx:=λ_ H'=>Q .non H',rt:=Q} (start Nms vs) H:=by
 obtain⟨hn,R,ds,dss,sub,r,e,k⟩:=h;unfold q8v at e;split at e
 ·rename_i hl;split at e
  ·rename_i xs ρ1 e1;split at e
   ·rename_i hz;split at e
    ·rename_i p e2;cases e;exact qe5 hw hm (qjn hn hl sub r) e1 hz.1 hz.2 e2 k
    ·cases e
   ·cases e
  ·cases e
 ·cases e
theorem qg7:typeLookup (.type "list_reverseiterator") (Str.ofString "__len__")=pure none:=by kernel_rfl
theorem qjh:typeLookup (.type "list_reverseiterator") (Str.ofString "__length_hint__")=pure (some (.builtin "list_reverseiterator.__length_hint__")):=by kernel_rfl
def Itv(K:FrG)(a:Addr)(n:Nat):It:=
 ⟨λi H=>∃xs,SqL K H a xs/\xs.length=n/\i<n,λi H x H'=>H'=H/\∀xs,SqL K H a xs->xs[n-1-i]? =some x,λi H=>i=n⟩
theorem qi7{P:Program}{w:World}{K:FrG}{tg:Expr}(a it:Addr)(n:Nat):Turn P w K tg (Itv K a n) [it] it (λi h=>i<=n/\h.IsRevIter it a ((n:Int)-1-i)) where
 mem:=by simp
 obj:=λi h st b hb=>by
  have e:b=it:=by simpa using hb
  subst e;obtain⟨_,o,e,c,d⟩:=st;exact⟨o,e,λv z=>by rw[d]at z;cases z⟩
 keep:=λi h h' st k=>⟨st.1,by obtain⟨o,e,c⟩:=st.2;exact⟨o,k it (by simp) o e,c⟩⟩
 item:=by
  intro X hP hw hK hc i z5 s σ H E I hf st hg;subst hP hw hK;obtain⟨xs,hq,hl,hi⟩:=hg;obtain⟨its,rv,p,hz⟩:=I.list hq;have hx:xs[n-1-i]? =some (xs[n-1-i]'(by omega)):=jd (by omega);obtain⟨u,hu,ru⟩:=rv.get hx;obtain⟨f0,f1,f2,f3,f4,f5⟩:=hf it (by simp);have st2:=st.2;have en:((n:Int)-1-i)=((n-1-i:Nat):Int):=by omega
  rw[en]at st2;refine wpAny_pyNext_rev_item st2 p.isList (x:=u) (by simpa using hu) λh' st' sb=>?_;have I1:Inv X z5 σ H {s with heap:=h'}:=I.turned (t':=s.toks) (λb o hb e=>(sb.2 b hb).trans e) f0 f1 f3 f4 f5;have st3:h'.IsRevIter it a ((n:Int)-1-(i+1:Nat)):=by
   have e2:((n:Int)-1-(i+1:Nat))=((n-1-i:Nat):Int)-1:=by omega
   rw[e2];exact st'
  obtain⟨o,e,c,d⟩:=id st';exact⟨u,rfl,qgz (s:={s with heap:=h'}) e c d (by decide) ⟨_,H,I1,ru,⟨rfl,λys hy=>by rw[I.list_inj hy hq];exact hx⟩,⟨by omega,st3⟩,λb hb=>(hf b hb).1⟩⟩
 done:=by
  intro X hP hw hK hc i z5 s σ H E I hf st hg;subst hP hw hK;have hi:i=n:=hg;obtain⟨f0,f1,f2,f3,f4,f5⟩:=hf it (by simp);have st2:=st.2;have en:((n:Int)-1-i)= -1:=by omega
  rw[en]at st2;exact wpAny_pyNext_rev_end (I.ok.hd hc) st2 λh' eb=>⟨rfl,I.turned (t':=s.toks) (λb o hb e=>eb b o hb e) f0 f1 f3 f4 f5⟩
 self:=λ_ _ _ _ _ st h=>wpAny_pyIter_revIter st.2 h
section
variable{X:Cx}{K:FrG}{a tg:Expr}{ta:TE}{p pos:Pos}
def iRev(K:FrG)(ta:TE):TI:=λσ H R=>ta σ H λv H1=>∃p1 xs,[v]=[V.ref p1]/\SqL K H1 p1 xs/\R (Itv K p1 xs.length) H1
theorem qqi(hK:X.K=K)(hg:Gl X "reversed")(hm:X.mg "reversed"=none)(ha:PE X a ta)(he:starEach [a] X.env=(false,eval a X.env)::starEach [] X.env:=by rfl)(hpl:(backTo pos (starEach [] X.env)).any (·.1)=false:=by rfl):
 PI X tg (.Call (.Name "reversed" p) [a] [] pos) (iRev K ta):=by
 subst hK;intro z5 s σ H R I h;refine xr (q4k I hg hm (u:=.type "reversed") (by rfl) ?_);refine PyProof.Rows.callWith_type1 (thn ((q00 ha q05 he) pos z5 s σ H (λvs H1=>∃p1 xs,vs=[V.ref p1]/\SqL X.K H1 p1 xs/\R (Itv X.K p1 xs.length) H1) I h) λus s1 h1=>?_) he hpl;obtain⟨vs,H1,I1,r1,p1,xs,rfl,q1,k⟩:=h1;obtain⟨u,rfl,ru⟩:=vals1 r1;cases(show u=Value.ref p1 from ru);obtain⟨its,rv,pl,hz⟩:=I1.list q1;have ln:its.length=xs.length:=by have:=rv.length;omega
 refine call_reversed_list pl.isList (wpAny_pyIter_revIter ⟨_,jm _ rfl,rfl,rfl⟩ ?_);refine⟨s1.heap.objs.size,[s1.heap.objs.size],_,_,H1,rfl,I1.kept (t':=s1.toks) λb o e=>jb _ e,qi7 p1 _ xs.length,⟨Nat.zero_le _,_,jm _ rfl,rfl,?_⟩,λb hb=>?_,k⟩
 ·show Data.fields #[Value.ref p1,rawInt ((its.toArray.size:Int)-1)]=_;rw[jw,ln];simp
 ·have e:b=s1.heap.objs.size:=by simpa using hb
  subst e;exact I1.fpOk (ja _) (I1.hok.fresh (ja _))
end
theorem qe4{prog:Program}{w:World}{A:Around}{s:Shared}{R:Result->Shared->Prop}{I l S:Addr}{items:Array Value}{c₀:Nat}{res:Value}(hh:A.in1.handled=none)(hn:items.size<=sizeLine)(gI:s.heap.IsRevIter I l ((items.size:Int)-1))(gl:s.heap.IsList l items)(lI:l≠I)(SI:S≠I)(Sl:S≠l)
 (hS:s.heap.get? S=some {cls:=.type "list",data:=.seq #[] c₀})
 (hR:∀s' acc c',Moved [S,I] (λa b=>b=a) s s'->s'.heap.get? S=some {cls:=.type "list",data:=.seq acc c'}->ItemsOf (λi v=>items[items.size-1-i]? =some v) acc items.size->R (.ok (.ret res)) s'):
 wpAny (model prog w) A.in1 (Builtin.List.listExtendWith (.ref S) (.ref I) res) (λfin s'=>match fin with
  |.done f=>R (.ok f) s'
  |.again c'=>c'.quiet=true/\codeAny (model prog w) A c' R s') (λe s'=>R (.error e) s') s:=by
 have ty:s.TypeIs (.ref I) "list_reverseiterator":=by obtain⟨o,e,c,_⟩:=gI;exact⟨o,e,c⟩
 have W:=(Walks.listRev (prog:=prog) (w:=w) hh I l lI items).toS;unfold Builtin.List.listExtendWith;refine j6 (wpAny_typeOf ty ?_);have h1:Builtin.List.listSameRef (.ref S) (.ref I)=false:=by unfold Builtin.List.listSameRef;simp[SI]
 have h2:(Value.type "list_reverseiterator"==Value.type "list")=false:=by decide
 have h3:(Value.type "list_reverseiterator"==Value.type "tuple")=false:=by decide
 simp only[h1,h2,h3,Bool.or_false,Bool.false_eq_true,if_false];refine j6 (wpAny_pyIter_revIter gI ?_);refine j6 (xy ?_);unfold Builtin.List.listLengthHint;refine j6 (wpAny_specialOf ty qg7 ?_);show wpAny _ _ (specialOf (.ref I) (Str.ofString "__length_hint__") >>= _) _ _ s;refine j6 (wpAny_specialOf ty qjh ?_);show wpAny _ _ (isInstance (.ref I) (.type "list_reverseiterator") >>= _) _ _ s;refine j6 (wpAny_isInstance ty (b:=true) (by kernel_rfl) ?_);show wpAny _ _ (pure false) _ _ s;refine j8 ?_;show wpAny _ _ (again (.builtin "list.extend.loop" ⟨[.ref S,.ref I,res],[]⟩)) _ _ s;refine j8 ⟨kg F.plain_extend_loop _,?_⟩;refine codeAny_extend_loopS W hn S (by simp;exact⟨SI,Sl⟩) res items.size 0 s #[] c₀ rfl (Nat.zero_le _) ⟨Nat.zero_le _,by simpa using gI,gl⟩ hS (.nil _) λs' acc c' m e i=>hR s' acc c' ?_ e i;exact m
theorem qjg{prog:Program}{w:World}{A:Around}{s:Shared}{R:Result->Shared->Prop}{I l S:Addr}{items:Array Value}(hh:A.in1.handled=none)(hn:items.size<=sizeLine)(gI:s.heap.IsRevIter I l ((items.size:Int)-1))(gl:s.heap.IsList l items)(lI:l≠I)(SI:S≠I)(Sl:S≠l)
 (hS:s.heap.get? S=some {cls:=.type "list",data:=.seq #[]})
 (hR:∀s' acc c',Moved [S,I] (λa b=>b=a) s s'->s'.heap.get? S=some {cls:=.type "list",data:=.seq acc c'}->ItemsOf (λi v=>items[items.size-1-i]? =some v) acc items.size->R (.ok (.ret .none)) s'):
 wpAny (model prog w) A.in1 (Builtin.«list.__init__» ⟨[.ref S,.ref I],[]⟩) (λfin s'=>match fin with
  |.done f=>R (.ok f) s'
  |.again c'=>c'.quiet=true/\codeAny (model prog w) A c' R s') (λe s'=>R (.error e) s') s:=by
 show wpAny _ _ (Builtin.List.listItems (.ref S) >>= _) _ _ s;refine j6 ?_;unfold Builtin.List.listItems;refine j6 (xu hS rfl (j8 ?_));show wpAny _ _ (Builtin.List.listUpdate (.ref S) _ >>= _) _ _ s;unfold Builtin.List.listUpdate;refine j6 (wpAny_updateSeq hS rfl ?_ (by simp) (by simp));have hS2:=kf (Obj.mapSeq λ_=>#[]) hS rfl;have oth:∀b o,b≠S->s.heap.get? b=some o->(s.heap.update S (Obj.mapSeq λ_=>#[])).get? b=some o:=λb o hb e=>(ka s.heap (Obj.mapSeq λ_=>#[]) (Ne.symm hb)).trans e;refine j6 (wpAny_letGo ?_);refine qe4 (s:={s with heap:=s.heap.update S (Obj.mapSeq λ_=>#[])}) hh hn ?_ ?_ lI SI Sl hS2 λs' acc c' m e i=>hR s' acc c' ?_ e i
 ·obtain⟨o,e,c⟩:=gI;exact⟨o,oth I o (Ne.symm SI) e,c⟩
 ·obtain⟨o,e,c⟩:=gl;exact⟨o,oth l o (Ne.symm Sl) e,c⟩
 ·exact⟨λb o nb e=>m.heap b o nb (oth b o (λq=>nb (by rw[q];simp)) e),m.gens,m.drawn,m.os,m.toks⟩
theorem q9b{prog:Program}{w:World}{A:Around}{E:Value->Shared->Prop}{s:Shared}{Q:Value->Shared->Prop}{I l:Addr}{items:Array Value}(hh:A.in1.in1.handled=none)(hn:items.size<=sizeLine)(gI:s.heap.IsRevIter I l ((items.size:Int)-1))(gl:s.heap.IsList l items)(lI:l≠I)
 (hQ:∀s' acc c',(∀b o,b≠I->s.heap.get? b=some o->s'.heap.get? b=some o)->s'.gens=s.gens->s'.drawn=s.drawn->s'.os=s.os->s'.heap.get? s.heap.objs.size=some {cls:=.type "list",data:=.seq acc c'}->ItemsOf (λi v=>items[items.size-1-i]? =some v) acc items.size->Q (.ref s.heap.objs.size) s'):
 wpAny (model prog w) A (call (.type "list") [.ref I]) Q E s:=by
 have ltI:I<s.heap.objs.size:=by obtain⟨o,e,_⟩:=gI;exact j9 e
 have ltl:l<s.heap.objs.size:=by obtain⟨o,e,_⟩:=gl;exact j9 e
 refine callType_codes F.called_list (F.typeCall_list_1 _) F.entry_list_init (Q₁:=λv s1=>v=.ref s.heap.objs.size/\s1={s with heap:=s.heap.push {cls:=.type "list",data:=.seq #[]}}) (code_list_new _ ⟨rfl,rfl⟩) λobj s1 h1=>?_;obtain⟨rfl,rfl⟩:=h1;have hS:=jm s.heap (o:={cls:=.type "list",data:=.seq #[]}) rfl;refine⟨⟨_,hS,rfl⟩,F.args_list_init_2 _ _,?_⟩;refine qjg (l:=l) (items:=items) hh hn ?_ ?_ lI (Nat.ne_of_gt ltI) (Nat.ne_of_gt ltl) hS λs' acc c' m e i=>⟨rfl,hQ s' acc c' (λb o nb eb=>?_) m.gens m.drawn m.os e i⟩
 ·obtain⟨o,e,c⟩:=gI;exact⟨o,jb _ e,c⟩
 ·obtain⟨o,e,c⟩:=gl;exact⟨o,jb _ e,c⟩
 ·refine m.heap b o (λq=>?_) (jb _ eb);rcases List.mem_cons.mp q with q|q
  ·have:=j9 eb;rw[q]at this;exact jy _ this
  ·exact nb (List.mem_singleton.mp q)
section
variable{X:Cx}{K:FrG}{O:List Nat}{a:Expr}{ta:TE}{p p2 pos zo:Pos}{fa:RhD}
def qpf(K:FrG)(ta:TE):TE:=λσ H Q=>ta σ H λv H1=>∃p xs,[v]=[V.ref p]/\SqL K H1 p xs/\∀q,H1 q=none->Q (.ref q) (upd H1 q (.lst xs.reverse))
theorem qmo(hK:X.K=K)(hc:X.calm=true)(hg:Gl X "list")(hm:X.mg "list"=none)(hg2:Gl X "reversed")(hm2:X.mg "reversed"=none)(ha:PE X a ta)(he2:starEach [a] X.env=(false,eval a X.env)::starEach [] X.env:=by rfl)(hpl2:(backTo pos (starEach [] X.env)).any (·.1)=false:=by rfl)
 (he:starEach [.Call (.Name "reversed" p) [a] [] pos] X.env=(false,eval (.Call (.Name "reversed" p) [a] [] pos) X.env)::starEach [] X.env:=by rfl) (hpl:(backTo zo (starEach [] X.env)).any (·.1)=false:=by rfl):
 PE X (.Call (.Name "list" p2) [.Call (.Name "reversed" p) [a] [] pos] [] zo) (qpf K ta):=by
 subst hK;intro z5 s σ H Q I h;refine xr (q4k I hg hm (u:=.type "list") (by rfl) ?_);refine PyProof.Rows.callWith_type1 ?_ he hpl;rw[he];show wpAny _ _ (spliced ((false,eval (.Call (.Name "reversed" p) [a] [] pos) X.env)::backTo zo (starEach [] X.env))) _ _ s;refine Calls.spliced_cons ?_;refine xr (q4k I hg2 hm2 (u:=.type "reversed") (by rfl) ?_);refine PyProof.Rows.callWith_type1 (thn ((q00 ha q05 he2) pos z5 s σ H (λvs H1=>∃p1 xs,vs=[V.ref p1]/\SqL X.K H1 p1 xs/\∀q,H1 q=none->Q (.ref q) (upd H1 q (.lst xs.reverse))) I h) λus s1 h1=>?_) he2 hpl2;obtain⟨vs,H1,I1,r1,p1,xs,rfl,q1,k⟩:=h1;obtain⟨u,rfl,ru⟩:=vals1 r1;cases(show u=Value.ref p1 from ru);obtain⟨its,rv,pl,hz⟩:=I1.list q1;have ln:its.length=xs.length:=by have:=rv.length;omega
 have lp:p1<s1.heap.objs.size:=by obtain⟨o,e,_⟩:=pl.isList;exact j9 e
 refine call_reversed_list pl.isList (Calls.spliced_nil ?_);have gl:(s1.heap.push (revObj p1 ((its.toArray.size:Int)-1))).IsList p1 its.toArray:=by obtain⟨o,e,c⟩:=pl.isList;exact⟨o,jb _ e,c⟩
 refine q9b (l:=p1) (items:=its.toArray) (I1.ok.hd hc) (by rw[jw];omega) ⟨_,jm _ rfl,rfl,rfl⟩ gl (jf lp) λs2 acc c' kp eg ed eo e i=>?_;have es:s2={s1 with heap:=s2.heap,toks:=s2.toks}:=by obtain⟨h2,g2,d2,t2,o2⟩:=s2;cases eg;cases ed;cases eo;rfl
 have hf:H1 (s1.heap.push (revObj p1 ((its.toArray.size:Int)-1))).objs.size=none:=I1.hok.fresh (by rw[xg];exact Nat.le_succ _);have ea:acc.toList=its.reverse:=by
  apply List.ext_getElem?;intro j;by_cases hj:j<its.length
  ·have hj2:j<acc.size:=by rw[i.1,jw];exact hj
   have v2:=i.2 j acc[j] (Array.getElem?_eq_getElem hj2);rw[List.getElem?_reverse hj];have v2':its[its.length-1-j]? =some acc[j]:=by simpa using v2
   rw[v2'];simp
  ·rw[xn (by simp;have:=i.1;simp at this;omega),xn (by simp;omega)]
 refine⟨.ref _,_,?_,rfl,k _ hf⟩;rw[es];refine I1.laid (t':=s2.toks) (λb o eb=>kp b o (jf (j9 eb)) (jb _ eb)) (by rw[xg];exact Nat.le_succ _) ?_;refine⟨by rw[List.length_reverse];exact hz,its.reverse,c',rv.reverse,?_⟩;rw[e,<-ea]
theorem qt1{R:Hp}{b:Addr}{xs:List V}{ds:List D}(h:SqL K R b xs)(r:Rps K R xs ds):ItOk K (Itv K b xs.length) R ds.reverse:=λH' R' s sb i=>by
 have q:SqL K H' b xs:=Same.sqL sb (Same.sqL s h);have ln:=r.length;refine⟨λe=>by show i=xs.length;rw[e,List.length_reverse];exact ln.symm,λd e=>?_⟩;have hi:i<ds.length:=by
  have:=(List.getElem?_eq_some_iff.mp e).1
  rwa [List.length_reverse]at this
 rw[List.getElem?_reverse hi]at e;obtain⟨v,h1,h2⟩:=r.get e;refine⟨⟨xs,q,rfl,by omega⟩,λx H'' y=>?_⟩;obtain⟨rfl,y⟩:=y;have ex:=y xs q;rw[ln,h1]at ex;cases ex;exact⟨R',Ext.refl sb,h2.mono s⟩
def revO:D->Option (List D)
 |.lst xs=>some xs.reverse
 |_=>none
def mRev(f:RhD):RhL:=q1u f λd=>q2v (revO d)
theorem qse(h:ME K O ta fa):MI K O (iRev K ta) (mRev fa):=λZ σ H R ρ ds ρ' Q S e k=>by
 obtain⟨x,ρ1,e1,e⟩:=q0c e;obtain⟨e3,rfl⟩:=q0l e;refine h Z σ H R ρ x _ _ S e1 λv H1 R1 S1 st1 r1=>?_;unfold revO at e3;split at e3
 ·cases e3;obtain⟨b,xs,rfl,q,r⟩:=r1.isL;exact⟨b,xs,rfl,Same.sqL S1.sub q,k _ H1 R1 S1 st1 (qt1 q r)⟩
 ·cases e3
theorem qtc{ρ:Rho}:mRev fa ρ=(fa ρ).bind λp=>(revO p.1).map λx=>(x,p.2):=by
 unfold mRev q1u q2v;cases fa ρ with
 |none=>rfl
 |some p=>cases h:revO p.1<;>simp[h]
theorem Rps.rev{R:Hp}:∀{xs:List V} {ds:List D},Rps K R xs ds->Rps K R xs.reverse ds.reverse
 |_,_,.nil=>.nil
 | _,_,.cons h r=>by rw[List.reverse_cons,List.reverse_cons];exact(Rps.rev r).snoc h
end
structure Kp(I S:Addr)(s0 s:Shared):Prop where
 heap:∀b o,b≠I->b≠S->s0.heap.get? b=some o->s.heap.get? b=some o
 gens:s.gens=s0.gens
 drawn:s.drawn=s0.drawn
 os:s.os=s0.os
structure Kq(s s':Shared):Prop where
 heap:∀b o,s.heap.get? b=some o->s'.heap.get? b=some o
 gens:s'.gens=s.gens
 drawn:s'.drawn=s.drawn
 os:s'.os=s.os
theorem Kp.on{I S:Addr}{s0 s s':Shared}(x:Kp I S s0 s)(heap:∀b o,b≠I->b≠S->s.heap.get? b=some o->s'.heap.get? b=some o)(g:s'.gens=s.gens)(d:s'.drawn=s.drawn)(o:s'.os=s.os):Kp I S s0 s':=
 ⟨λb u h1 h2 e=>heap b u h1 h2 (x.heap b u h1 h2 e),g.trans x.gens,d.trans x.drawn,o.trans x.os⟩
def CmpK(prog:Program)(w:World)(A:Around)(I S:Addr)(s0:Shared)(its:Array Value)(bt:Nat->Nat->Bool):Prop:=
 ∀(i j:Nat) (vi vj:Value) (s:Shared) (Q:Value->Shared->Prop) (E:Value->Shared->Prop),its[i]? =some vi->its[j]? =some vj->Kp I S s0 s->(∀s',Kq s s'->Q (.bool (bt i j)) s')->wpAny (model prog w) A (richCompare .Lt vi vj) Q E s
section
variable{prog:Program}{w:World}{A:Around}{R:Result->Shared->Prop}{I S l:Addr}{its:Array Value}{s0:Shared}{bt:Nat->Nat->Bool}{kw:List (Str×Value)}
abbrev StL(I l:Addr)(its:Array Value)(i:Nat)(h:Heap):Prop:=h.IsListIter I l i/\h.IsList l its
theorem StL.keep{i:Nat}{h h':Heap}(st:StL I l its i h)(k:∀b o,b=I∨b=l->h.get? b=some o->h'.get? b=some o):StL I l its i h':=by obtain⟨⟨o,e,c⟩,⟨o2,e2,c2⟩⟩:=st;exact⟨⟨o,k I o (.inl rfl) e,c⟩,⟨o2,k l o2 (.inr rfl) e2,c2⟩⟩
theorem qgf(hh:A.in1.handled=none)(lI:l≠I)(SI:S≠I)(Sl:S≠l)(zq:CmpK prog w A.in1 I S s0 its bt)(hR:∀v s',its[argBest bt (its.size-1)]? =some v->Kp I S s0 s'->R (.ok (.ret v)) s'):
 ∀(k j:Nat) (s:Shared) (vb:Value) (c:Nat),its.size-(j+1)=k->j+1<=its.size->StL I l its (j+1) s.heap->its[argBest bt j]? =some vb->s.heap.get? S=some {cls:=.type "list",data:=.seq #[vb,vb] c}->Kp I S s0 s->
   codeAny (model prog w) A (.builtin "min.loop" ⟨[.ref I,.none,.ref S],kw⟩) R s:=by
 intro k;induction k with
 | zero=>
  intro j s vb c hk hj st hb hS K;have en:j+1=its.size:=by omega
  refine codeAny_builtin F.entry_min_loop ?_;rw[km kh];show wpAny _ _ (seqItems? (.ref S) >>= _) _ _ s;refine j6 (xu hS rfl ?_);refine j6 (wpAny_tryCatch ?_);refine wpAny_pyNext_list_end hh st.1 st.2 (Array.getElem?_eq_none (by omega)) λh' eb=>?_;have hS2:h'.get? S=some {cls:=.type "list",data:=.seq #[vb,vb] c}:=eb S _ SI hS;show wpAny _ _ (updateSeq S (λ_=>#[]) >>= _) _ _ {s with heap:=h'};refine j6 (wpAny_updateSeq (s:={s with heap:=h'}) hS2 rfl ?_ (by simp[sizeLine_eq]) (by simp[sizeLine_eq]));refine j6 (wpAny_letGo ?_);refine j8 ?_;have ej:its.size-1=j:=by omega
  refine hR vb _ (by rw[ej];exact hb) (K.on (λb o h1 h2 e=>?_) rfl rfl rfl);exact(ka h' _ (Ne.symm h2)).trans (eb b o h1 e)
 | succ k ih=>
  intro j s vb c hk hj st hb hS K;have lt:j+1<its.size:=by omega
  refine codeAny_builtin F.entry_min_loop ?_;rw[km kh];show wpAny _ _ (seqItems? (.ref S) >>= _) _ _ s;refine j6 (xu hS rfl ?_);refine j6 (wpAny_tryCatch ?_);have hx:its[j+1]? =some its[j+1]:=Array.getElem?_eq_getElem lt;refine wpAny_pyNext_list_item st.1 st.2 (x:=its[j+1]) hx λh' st' sb=>?_;have kI:∀b o,b≠I->s.heap.get? b=some o->h'.get? b=some o:=λb o hb e=>(sb.2 b hb).trans e;have hS2:h'.get? S=some {cls:=.type "list",data:=.seq #[vb,vb] c}:=kI S _ SI hS;have L2:h'.IsList l its:=by obtain⟨o,e,q⟩:=st.2;exact⟨o,kI l o lI e,q⟩
  have K2:Kp I S s0 {s with heap:=h'}:=K.on (λb o h1 _ e=>kI b o h1 e) rfl rfl rfl;show wpAny _ _ (pure its[j+1] >>= _) _ _ {s with heap:=h'};refine j6 (j8 ?_);show wpAny _ _ (Sem.tryCatch _ _ >>= _) _ _ {s with heap:=h'};refine j6 (wpAny_tryCatch (xy ?_));refine j6 (zq (j+1) (argBest bt j) _ vb _ _ _ hx hb K2 λs3 q3=>?_);refine j6 (xy (kc ?_));refine j6 (wpAny_letGo ?_);refine j8 ?_;have hS3:=q3.heap S _ hS2;have st3:StL I l its (j+1+1) s3.heap:=StL.keep ⟨st',L2⟩ λb o _ e=>q3.heap b o e;have K3:Kp I S s0 s3:=K2.on (λb o _ _ e=>q3.heap b o e) q3.gens q3.drawn q3.os;have eb:argBest bt (j+1)=if bt (j+1) (argBest bt j)=true then j+1 else argBest bt j:=by rw[argBest]
  cases q:bt (j+1) (argBest bt j)with
  | true=>
   rw[q,if_pos rfl]at eb;show wpAny _ _ (updateSeq S _ >>= _) _ _ s3;refine j6 (wpAny_updateSeq hS3 rfl ?_ (by simp[sizeLine_eq]) (by simp[sizeLine_eq]));refine j6 (wpAny_letGo ?_);refine j8 ⟨kg kh _,?_⟩;have hS4:=kf (Obj.mapSeq λ_=>#[its[j+1],its[j+1]]) hS3 rfl;refine ih (j+1) _ its[j+1] _ (by omega) lt (st3.keep λb o hb e=>?_) (by rw[eb];exact hx) hS4 (K3.on (λb o h1 h2 e=>(ka s3.heap _ (Ne.symm h2)).trans e) rfl rfl rfl);refine(ka s3.heap _ ?_).trans e;rcases hb with rfl|rfl
   ·exact SI
   ·exact Sl
  | false=>
   rw[q,if_neg (by decide)]at eb;show wpAny _ _ (letGo _ >>= _) _ _ s3;refine j6 (wpAny_letGo ?_);refine j8 ⟨kg kh _,?_⟩;exact ih (j+1) s3 vb c (by omega) lt st3 (by rw[eb];exact hb) hS3 K3
theorem qdt(hh:A.in1.handled=none)(lI:l≠I)(SI:S≠I)(Sl:S≠l)(zq:CmpK prog w A.in1 I S s0 its bt)(hR:∀v s',its[argBest bt (its.size-1)]? =some v->Kp I S s0 s'->R (.ok (.ret v)) s')
 (hD:its.size=0->∃x d r,kw=(x,d)::r/\∀s',Kp I S s0 s'->R (.ok (.ret d)) s')
 {s:Shared} {c:Nat} (st:StL I l its 0 s.heap) (hS:s.heap.get? S=some {cls:=.type "list",data:=.seq #[] c}) (K:Kp I S s0 s):codeAny (model prog w) A (.builtin "min.loop" ⟨[.ref I,.none,.ref S],kw⟩) R s:=by
 refine codeAny_builtin F.entry_min_loop ?_;rw[km kh];show wpAny _ _ (seqItems? (.ref S) >>= _) _ _ s;refine j6 (xu hS rfl ?_);refine j6 (wpAny_tryCatch ?_);by_cases h0:its.size=0
 ·obtain⟨x,d,r,rfl,hE⟩:=hD h0;refine wpAny_pyNext_list_end hh st.1 st.2 (Array.getElem?_eq_none (by omega)) λh' eb=>?_;show wpAny _ _ (rule _ >>= _) _ _ {s with heap:=h'};refine j6 (wpAny_rule ?_);refine j8 ?_;exact hE _ (K.on (λb o h1 h2 e=>eb b o h1 e) rfl rfl rfl)
 ·have lt:0<its.size:=by omega
  have hx:its[0]? =some its[0]:=Array.getElem?_eq_getElem lt;refine wpAny_pyNext_list_item st.1 st.2 (x:=its[0]) hx λh' st' sb=>?_;have kI:∀b o,b≠I->s.heap.get? b=some o->h'.get? b=some o:=λb o hb e=>(sb.2 b hb).trans e;have hS2:h'.get? S=some {cls:=.type "list",data:=.seq #[] c}:=kI S _ SI hS;have L2:h'.IsList l its:=by obtain⟨o,e,q⟩:=st.2;exact⟨o,kI l o lI e,q⟩
  show wpAny _ _ (pure its[0] >>= _) _ _ {s with heap:=h'};refine j6 (j8 ?_);show wpAny _ _ (updateSeq S _ >>= _) _ _ {s with heap:=h'};refine j6 (wpAny_updateSeq (s:={s with heap:=h'}) hS2 rfl ?_ (by simp[sizeLine_eq]) (by simp[sizeLine_eq]));refine j8 ⟨kg kh _,?_⟩;have hS4:=kf (Obj.mapSeq λ_=>#[its[0],its[0]]) hS2 rfl;refine qgf hh lI SI Sl zq hR (its.size-1) 0 _ its[0] _ rfl lt (StL.keep ⟨st',L2⟩ λb o hb e=>?_) hx hS4 (K.on (λb o h1 h2 e=>(ka h' _ (Ne.symm h2)).trans (kI b o h1 e)) rfl rfl rfl);refine(ka h' _ ?_).trans e;rcases hb with rfl|rfl
  ·exact SI
  ·exact Sl
end
section
open PySem.SeqAt PySem.MeetsSeq PySem.MeetsSeq2 PySem.MeetsSeq3
theorem q40{M:Model}{A:Around}{E:Value->Shared->Prop}{s:Shared}{l:Addr}{items:Array Value}{n:Nat}{dd:Option Addr}{sl:Array (Option Value)}{Q:Array Value->Shared->Prop}(h:s.heap.get? l=some {cls:=.type "list",dict:=dd,data:=.seq items n,slots:=sl})(q:Q items s):wpAny M A (Builtin.List.listItems (.ref l)) Q E s:=by unfold Builtin.List.listItems;exact j6 (xu h rfl (j8 q))
theorem q6e:∀{vs:List Value} {ns:List Int},IntsAre vs ns->∀{i:Nat} {a:Int},ns[i]? =some a->∃t,vs[i]? =some (.int a t):=by
 intro vs ns h;induction h with
 |nil=>intro i a e;simp at e
 | cons a t _ ih=>
  intro i b e;cases i with
  |zero=>cases e;exact⟨t,rfl⟩
  |succ i=>exact ih e
theorem qne(l b:Addr)(items zd:Array Value)(n n2:Nat)(dd dd2:Option Addr)(sl sl2:Array (Option Value))(ns ms:List Int)(hi:IntsAre items.toList ns)(hj:IntsAre zd.toList ms)(hl:ns.length=ms.length):
 ∀(k i:Nat),ns.length-i=k->i<=ns.length->Meets (Builtin.«list.__eq__.loop» ⟨[.ref l,.ref b,rawInt i,rawInt 0],[]⟩)
   (λ_ R s=>s.heap.get? l=some {cls:=.type "list",dict:=dd,data:=.seq items n,slots:=sl}/\s.heap.get? b=some {cls:=.type "list",dict:=dd2,data:=.seq zd n2,slots:=sl2}/\
     R (.ok (.ret (.bool (HT.lexLt (ns.drop i) (ms.drop i))))) s):=by
 have z1:items.size=ns.length:=by rw[<-hi.length];simp
 have z2:zd.size=ms.length:=by rw[<-hj.length];simp
 intro k;induction k with
 | zero=>
  intro i hk hle prog w A R s h;obtain⟨h1,h2,h⟩:=h;have e1:items[i]? =none:=Array.getElem?_eq_none (by omega);rw[List.drop_eq_nil_of_le (as:=ns) (by omega),List.drop_eq_nil_of_le (as:=ms) (by omega)]at h;show wpAny _ _ (Builtin.List.listItems (.ref l) >>= _) _ _ s;refine j6 (q40 h1 (j6 (q40 h2 ?_)));simp only[Int.toNat_natCast,e1];refine j6 (q40 h1 (j6 (q40 h2 (j8 ?_))));have ez:items.size=zd.size:=by omega
  show R (.ok (.ret (.bool (decide (items.size<zd.size))))) s;rw[ez,decide_eq_false (jy _)];exact h
 | succ k ih=>
  intro i hk hle prog w A R s h;obtain⟨h1,h2,h⟩:=h;have lt1:i<ns.length:=by omega
  have lt2:i<ms.length:=by omega
  obtain⟨t,e1⟩:=q6e hi (jd lt1);obtain⟨u,e2⟩:=q6e hj (jd lt2);have e1:items[i]? =some (.int ns[i] t):=by simpa using e1
  have e2:zd[i]? =some (.int ms[i] u):=by simpa using e2
  rw[xl lt1,xl lt2,HT.lexLt_cons]at h;show wpAny _ _ (Builtin.List.listItems (.ref l) >>= _) _ _ s;refine j6 (q40 h1 (j6 (q40 h2 ?_)));simp only[Int.toNat_natCast,e1,e2];obtain⟨e,he,hiff⟩:=HT.eqAt_int A.in1 s ns[i] t ms[i] u;refine j6 (he prog w _ _ ?_);cases e with
  | true=>
   rw[if_pos (hiff.mp rfl)]at h;simp only[if_true];refine j8 ⟨kg plain_eq_loop _,?_⟩;refine codeAny_builtin entry_eq_loop ?_;rw[km plain_eq_loop];have ei:rawInt ((i:Int)+1)=rawInt ((i+1:Nat):Int):=by rw[Int.natCast_add];rfl
   rw[ei];exact ih (i+1) (by omega) (by omega) prog w A R s ⟨h1,h2,h⟩
  | false=>
   rw[if_neg (λq=>absurd (hiff.mpr q) Bool.false_ne_true)]at h;simp only[Bool.false_eq_true,if_false];refine j6 (q40 h1 (j6 (q40 h2 ?_)));simp only[e1,e2];refine j6 (HT.rcLt_int A.in1 s _ t _ u prog w _ _ ?_);exact j8 h
theorem qa5(l b:Addr)(items zd:Array Value)(n n2:Nat)(dd dd2:Option Addr)(sl sl2:Array (Option Value))(ns ms:List Int)(hi:IntsAre items.toList ns)(hj:IntsAre zd.toList ms)(hl:ns.length=ms.length):
 Meets (Builtin.«list.__lt__» ⟨[.ref l,.ref b],[]⟩)
  (λ_ R s=>s.heap.get? l=some {cls:=.type "list",dict:=dd,data:=.seq items n,slots:=sl}/\s.heap.get? b=some {cls:=.type "list",dict:=dd2,data:=.seq zd n2,slots:=sl2}/\
    R (.ok (.ret (.bool (HT.lexLt ns ms)))) s):=λprog w A R s h=>by
 obtain⟨h1,h2,h⟩:=h;have ty:s.TypeIs (.ref b) "list":=⟨_,h2,rfl⟩;show wpAny _ _ (isInstance (.ref b) (.type "list") >>= _) _ _ s;refine j6 (wpAny_isInstance ty (b:=true) sub_list_self ?_);show wpAny _ _ (again (.builtin "list.__eq__.loop" ⟨[.ref l,.ref b,rawInt 0,rawInt 0],[]⟩)) _ _ s;refine j8 ⟨kg plain_eq_loop _,?_⟩;refine codeAny_builtin entry_eq_loop ?_;rw[km plain_eq_loop];exact qne l b items zd n n2 dd dd2 sl sl2 ns ms hi hj hl _ 0 rfl (Nat.zero_le _) prog w A R s ⟨h1,h2,h⟩
end
section
variable{prog:Program}{w:World}{A:Around}{E:Value->Shared->Prop}{s:Shared}
theorem qfj{l b:Addr}{items zd:Array Value}{ns ms:List Int}{Q:Value->Shared->Prop}(hl:s.heap.IsList l items)(hb:s.heap.IsList b zd)(hi:IntsAre items.toList ns)(hj:IntsAre zd.toList ms)(hn:ns.length=ms.length)
 (hu:A.units<cLine) (h:Q (.bool (HT.lexLt ns ms)) s):wpAny (model prog w) A (richCompare .Lt (.ref l) (.ref b)) Q E s:=by
 obtain⟨⟨cls,dd,data,sl⟩,ho,hc,n,hd⟩:=id hl;obtain⟨⟨cls2,dd2,data2,sl2⟩,ho2,hc2,n2,hd2⟩:=id hb;simp only at hc hd hc2 hd2;subst hc hd hc2 hd2;exact richCompare_meets_room (op:=.Lt) ⟨_,ho,rfl⟩ ⟨_,ho2,rfl⟩ PySem.F.slot_list_lt PySem.F.entry_list_lt (PySem.F.args_list_lt_2 _ _) (qa5 l b items zd n n2 dd dd2 sl sl2 ns ms hi hj hn)
  ⟨ho,ho2,show Value.bool (HT.lexLt ns ms)≠Value.notImplemented/\Q (.bool (HT.lexLt ns ms)) s from⟨(λx=>nomatch x),h⟩⟩ hu
end
inductive Cmps(A:Around)(s:Shared):List Value->List Value->Bool->Prop
 |nil:Cmps A s [] [] false
 |eq {x y:Value} {vs ws:List Value} {r:Bool}:SeqAt.EqAt A s x y true->Cmps A s vs ws r->Cmps A s (x::vs) (y::ws) r
 |ne {x y:Value} {vs ws:List Value} {r:Bool}:SeqAt.EqAt A s x y false->(∀(prog:Program) (w:World) (E Q:Value->Shared->Prop),Q (.bool r) s->wpAny (model prog w) A (richCompare .Lt x y) Q E s)->vs.length=ws.length->Cmps A s (x::vs) (y::ws) r
theorem Cmps.len{A:Around}{s:Shared}{vs ws:List Value}{r:Bool}(h:Cmps A s vs ws r):vs.length=ws.length:=by
 induction h with
 |nil=>rfl
 |eq _ _ ih=>rw[jq,jq,ih]
 |ne _ _ e=>rw[jq,jq,e]
section
open PySem.SeqAt
open PySem.AutoSeq1 (wpAny_loadPart')
open PySem.MeetsSeq PySem.MeetsSeq2 PySem.MeetsSeq3
theorem q9g(l b:Addr)(items zd:Array Value)(n n2:Nat)(dd dd2:Option Addr)(sl sl2:Array (Option Value))(r:Bool):
 Meets (Builtin.«tuple.__lt__» ⟨[.ref l,.ref b],[]⟩)
  (λA R s=>s.heap.get? l=some {cls:=.type "tuple",dict:=dd,data:=.seq items n,slots:=sl}/\s.heap.get? b=some {cls:=.type "tuple",dict:=dd2,data:=.seq zd n2,slots:=sl2}/\
    Cmps A.in1 s items.toList zd.toList r/\R (.ok (.ret (.bool r))) s):=
 .of_wp λprog w A R s h=>by
  obtain⟨hp,g,d,tk,os⟩:=s;obtain⟨hl,hb,hC,h⟩:=h;have f2:=AutoSeq1.sub_tuple_tuple;have z:items.size=zd.size:=by have:=hC.len;simpa using this
  wp_walk using kj hl,kj hb,wpAny_forIn_list _ (λrest b s'=>b.1=none/\s'=⟨hp,g,d,tk,os⟩/\∃(vs ws:List Value),rest=vs.zip ws/\
   Cmps A.in1 ⟨hp,g,d,tk,os⟩ vs ws r) _
  case turn=>
   rintro⟨y,x⟩ rest b s' ⟨hb',rfl,vs,ws,hz,hv⟩;cases hv with
   |nil=>cases hz
   | eq he hr=>
    rw[List.zip_cons_cons]at hz;injection hz with hyx hrest;injection hyx with hy hx;subst hy hx;refine j6 (he prog w _ _ ?_)
    wp_walk
    exact⟨rfl,rfl,_,_,hrest,hr⟩
   | ne he hc hl'=>
    rw[List.zip_cons_cons]at hz;injection hz with hyx hrest;injection hyx with hy hx;subst hy hx;refine j6 (he prog w _ _ ?_);have hri:=hc prog w
    wp_walk using hri
    exact⟨_,rfl,by simpa using h⟩
  case fin=>
   rintro⟨b1,b2⟩ s' ⟨hb',rfl,vs,ws,hz,hv⟩;simp only at hb';subst hb';cases hv with
   | nil=>
    wp_walk
    exact⟨_,rfl,by simpa[Builtin.Tuple.tupleCompareSizes,z]using h⟩
   |eq he hr=>rw[List.zip_cons_cons]at hz;cases hz
   |ne he hc hl'=>rw[List.zip_cons_cons]at hz;cases hz
  case h=>
   exact⟨rfl,rfl,items.toList,zd.toList,rfl,hC⟩
end
section
variable{prog:Program}{w:World}{A:Around}{E:Value->Shared->Prop}{s:Shared}
theorem qil{l b:Addr}{items zd:Array Value}{r:Bool}{Q:Value->Shared->Prop}(hl:IsTup s.heap l items)(hb:IsTup s.heap b zd)(hC:Cmps A.in1 s items.toList zd.toList r)
 (hu:A.units<cLine) (h:Q (.bool r) s):wpAny (model prog w) A (richCompare .Lt (.ref l) (.ref b)) Q E s:=by
 obtain⟨⟨cls,dd,data,sl⟩,ho,hc,n,hd⟩:=id hl;obtain⟨⟨cls2,dd2,data2,sl2⟩,ho2,hc2,n2,hd2⟩:=id hb;simp only at hc hd hc2 hd2;subst hc hd hc2 hd2;exact richCompare_meets_room (op:=.Lt) ⟨_,ho,rfl⟩ ⟨_,ho2,rfl⟩ PySem.F.slot_tuple_lt PySem.F.entry_tuple_lt (PySem.F.args_tuple_lt_2 _ _) (q9g l b items zd n n2 dd dd2 sl sl2 r)
  ⟨ho,ho2,hC,show Value.bool r≠Value.notImplemented/\Q (.bool r) s from⟨(λx=>nomatch x),h⟩⟩ hu
end
theorem q6d:∀ns:List Int,HT.lexLt ns ns=false
 |[]=>rfl
 |n::ns=>by rw[HT.lexLt_cons,if_pos rfl,q6d ns]
theorem qgw{A:Around}{s:Shared}{l b:Addr}{vs ws:List Value}{ns ms:List Int}(hl:s.heap.IsList l vs.toArray)(hb:s.heap.IsList b ws.toArray)(hi:IntsAre vs ns)(hj:IntsAre ws ms)(hn:ns.length=ms.length)(hu:A.units<cLine):SeqAt.EqAt A s (.ref l) (.ref b) (decide (ns=ms)):=by
 by_cases q:l=b
 ·subst q;have e:vs=ws:=by
   obtain⟨o,e1,c1,n1,d1⟩:=hl;obtain⟨o2,e2,c2,n2,d2⟩:=hb;rw[e1]at e2;cases e2;rw[d1]at d2;injection d2 with d3 _;simpa using d3
  subst e;have en:ns=ms:=by
   apply List.ext_getElem?;intro i;by_cases h:i<ns.length
   ·obtain⟨t,e1⟩:=q6e hi (jd h);obtain⟨u,e2⟩:=q6e hj (jd (show i<ms.length by omega));rw[e1]at e2;injection e2 with e3;injection e3 with e4 _;rw[jd h,jd (show i<ms.length by omega),e4]
   ·rw[xn (by omega),xn (by omega)]
  rw[decide_eq_true en];exact SeqAt.EqAt.same _
 ·have lv:vs.length=ns.length:=hi.length;have lw:ws.length=ms.length:=hj.length;have h:=SeqAt.RcAt.lists (A:=A) (e:=λj=>decide (ns[j]? =ms[j]?)) hl hb (by simp;omega) hu λj h1 h2=>by
   have h1':j<ns.length:=by simp at h1;omega
   have h2':j<ms.length:=by omega
   obtain⟨t,e1⟩:=q6e hi (jd h1');obtain⟨u,e2⟩:=q6e hj (jd h2');obtain⟨e,he,hiff⟩:=HT.eqAt_int A.in1 s ns[j] t ms[j] u;have g1:vs.toArray[j]=.int ns[j] t:=by have:=(List.getElem?_eq_some_iff.mp e1).2;simpa using this
   have g2:ws.toArray[j]=.int ms[j] u:=by have:=(List.getElem?_eq_some_iff.mp e2).2;simpa using this
   rw[g1,g2];have ee:decide (ns[j]? =ms[j]?)=e:=by
    rw[jd h1',jd h2'];cases e with
    |true=>simp[hiff.mp rfl]
    | false=>
     have:¬ns[j]=ms[j]:=λz=>absurd (hiff.mpr z) (by decide);simp[this]
   rw[ee];exact he
  have ea:(List.range vs.toArray.size).all (λj=>decide (ns[j]? =ms[j]?))=decide (ns=ms):=by
   rw[Bool.eq_iff_iff];simp only[List.all_eq_true,decide_eq_true_eq,List.mem_range,List.size_toArray];constructor
   ·intro z;apply List.ext_getElem?;intro i;by_cases hi:i<ns.length
    ·exact z i (by omega)
    ·rw[xn (by omega),xn (by omega)]
   ·intro z i _;rw[z]
  rw[ea]at h;exact SeqAt.EqAt.of_refs q h
def q6m(a c:Int)(ns ms:List Int):Bool:=if a=c then HT.lexLt ns ms else decide (a<c)
theorem q9r{prog:Program}{w:World}{A:Around}{E:Value->Shared->Prop}{s:Shared}{l b p q:Addr}{a c:Int}{t u:Tok}{vs ws:List Value}{ns ms:List Int}{Q:Value->Shared->Prop}(hl:IsTup s.heap l #[.int a t,.ref p])(hb:IsTup s.heap b #[.int c u,.ref q])(hp:s.heap.IsList p vs.toArray)(hq:s.heap.IsList q ws.toArray)(hi:IntsAre vs ns)(hj:IntsAre ws ms)(hn:ns.length=ms.length)
 (hu:A.units+1<cLine) (h:Q (.bool (q6m a c ns ms)) s):wpAny (model prog w) A (richCompare .Lt (.ref l) (.ref b)) Q E s:=by
 have hu1:A.in1.units<cLine:=hu;refine qil (r:=q6m a c ns ms) hl hb ?_ (by omega) h;obtain⟨e,he,hiff⟩:=HT.eqAt_int A.in1 s a t c u;unfold q6m;cases e with
 | true=>
  have eac:=hiff.mp rfl;rw[if_pos eac];refine .eq he ?_;have ee:=qgw (A:=A.in1) hp hq hi hj hn hu1;by_cases z:ns=ms
  ·rw[decide_eq_true z]at ee;subst z;rw[q6d];exact .eq ee .nil
  ·rw[decide_eq_false z]at ee;exact .ne ee (λprog w E Q h=>qfj hp hq (by simpa using hi) (by simpa using hj) hn hu1 h) rfl
 | false=>
  rw[if_neg λz=>absurd (hiff.mpr z) (by decide)];exact .ne he (λprog w E Q h=>HT.rcLt_int A.in1 s a t c u prog w E Q h) rfl
theorem qhs(a d:Value):argsOk "min" ⟨[a],[(Str.ofString "default",d)]⟩:=by kernel_rfl
section
variable{prog:Program}{w:World}{A:Around}{E:Value->Shared->Prop}{s:Shared}{Q:Value->Shared->Prop}{p:Addr}{its:Array Value}{bt:Nat->Nat->Bool}
theorem qls(hh:A.in1.handled=none)(hl:s.heap.IsList p its){kw:List (Str×Value)}{dflt:Option Value}(hk:kw=dflt.toList.map λd=>(Str.ofString "default",d))
 (zq:CmpK prog w A.in1 s.heap.objs.size (s.heap.objs.size+1) s its bt)
 (hD:its.size=0->∃d,dflt=some d/\∀s',Kq s s'->Q d s') (hQ:∀v s',its[argBest bt (its.size-1)]? =some v->Kq s s'->Q v s'):
 wpAny (model prog w) A.in1 (do let it <-pyIter (.ref p);let b <-newList [];again (.builtin "min.loop" ⟨[it,.none,b],kw⟩)) (λfin s'=>match fin with
  | .done f=>(match (Except.ok f:Result)with
   |.ok (.ret v)=>Q v s'
   |.ok _=>False
   |.error e=>E e s')
  | .again c'=>c'.quiet=true/\codeAny (model prog w) A c' (λr s'=>match r with
   |.ok (.ret v)=>Q v s'
   |.ok _=>False
   |.error e=>E e s') s') E s:=by
 have lp:p<s.heap.objs.size:=by obtain⟨o,e,_⟩:=hl;exact j9 e
 refine j6 (wpAny_pyIter_list hl ?_);refine j6 (xx ?_ (by first|exact Nat.zero_le _|(show(0:Nat)<=sizeLine;exact Nat.zero_le _)));refine j8 ⟨kg kh _,?_⟩;have push2:∀b o,s.heap.get? b=some o->((s.heap.push {cls:=.type "list_iterator",data:=.fields #[.ref p,.int 0 0]}).push {cls:=.type "list",data:=.seq #[]}).get? b=some o:=λb o e=>jb _ (jb _ e);have sz:(s.heap.push {cls:=.type "list_iterator",data:=.fields #[.ref p,.int 0 0]}).objs.size=s.heap.objs.size+1:=xg _ _;have kq:∀s',Kp s.heap.objs.size (s.heap.objs.size+1) s s'->Kq s s':=λs' k=>⟨λb o e=>k.heap b o (jf (j9 e)) (jf (Nat.lt_succ_of_lt (j9 e))) e,k.gens,k.drawn,k.os⟩;dsimp only;rw[sz];refine qdt (s0:=s) hh (jf lp) (Nat.ne_of_gt (Nat.lt_succ_self _)) (Nat.ne_of_gt (Nat.lt_succ_of_lt lp)) zq (λv s' e k=>hQ v s' e (kq s' k)) (λh0=>?_) (c:=0) ⟨⟨_,jb _ (jm _ rfl),rfl,rfl⟩,?_⟩ ?_ ⟨λb o _ _ e=>push2 b o e,rfl,rfl,rfl⟩
 ·obtain⟨d,e,k⟩:=hD h0;subst e;exact⟨_,d,[],by rw[hk];rfl,λs' k'=>k s' (kq s' k')⟩
 ·obtain⟨o,e,c⟩:=hl;exact⟨o,push2 p o e,c⟩
 ·have:=jm (s.heap.push {cls:=.type "list_iterator",data:=.fields #[.ref p,.int 0 0]}) (o:={cls:=.type "list",data:=.seq #[]}) rfl;rw[sz]at this;exact this
theorem qhi(hh:A.in1.handled=none)(hl:s.heap.IsList p its){d:Value}(zq:CmpK prog w A.in1 s.heap.objs.size (s.heap.objs.size+1) s its bt)
 (hD:its.size=0->∀s',Kq s s'->Q d s') (hQ:∀v s',0<its.size->its[argBest bt (its.size-1)]? =some v->Kq s s'->Q v s'):wpAny (model prog w) A (call (.builtin "min") [.ref p] [(Str.ofString "default",d)]) Q E s:=by
 refine kmk_tree F.kind_min F.plain_min F.entry_min (qhs _ _) ?_;show wpAny _ _ (Builtin.Builtins.bindParams "min" ["key","default"] 0 ⟨[],[(Str.ofString "default",d)]⟩ >>= _) _ _ s;refine j6 (wpAny_of_eq (show _=pure [none,some d]from by rfl) ?_);show wpAny _ _ (pure (Value.ref p) >>= _) _ _ s;refine j6 (j8 ?_);dsimp only;rw[show(toString "min"++toString ".loop")="min.loop" from by decide];exact qls hh hl (dflt:=some d) rfl zq (λh=>⟨d,rfl,hD h⟩) λv s' e k=>hQ v s' (by
  rcases Nat.eq_zero_or_pos its.size with z|z
  ·rw[Array.getElem?_eq_none (by omega)]at e;cases e
  ·exact z) e k
theorem qhh(hh:A.in1.handled=none)(hl:s.heap.IsList p its)(h0:0<its.size)(zq:CmpK prog w A.in1 s.heap.objs.size (s.heap.objs.size+1) s its bt)
 (hQ:∀v s',its[argBest bt (its.size-1)]? =some v->Kq s s'->Q v s'):wpAny (model prog w) A (call (.builtin "min") [.ref p]) Q E s:=by
 refine kmk_tree F.kind_min F.plain_min F.entry_min (F.args_min1 _) ?_;show wpAny _ _ (Builtin.Builtins.bindParams "min" ["key","default"] 0 ⟨[],[]⟩ >>= _) _ _ s;refine j6 (wpAny_of_eq (show _=pure [none,none]from by rfl) ?_);show wpAny _ _ (pure (Value.ref p) >>= _) _ _ s;refine j6 (j8 ?_);dsimp only;rw[show(toString "min"++toString ".loop")="min.loop" from by decide];exact qls hh hl (dflt:=none) rfl zq (λh=>absurd h (by omega)) hQ
end
theorem q8o{α:Type}{lt:α->α->Bool}{f:Nat->α}(h1:∀a,lt a a=false)(h2:∀a b c,lt a b=true->lt c b=false->lt c a=false)(n:Nat):argBest (λi j=>lt (f i) (f j)) n<=n/\∀i,i<=n->lt (f i) (f (argBest (λi j=>lt (f i) (f j)) n))=false:=by
 induction n with
 | zero=>
  rw[argBest];exact⟨ja _,λi hi=>by rw[Nat.le_zero.mp hi];exact h1 _⟩
 | succ n ih=>
  obtain⟨h3,h4⟩:=ih;rw[argBest];cases q:lt (f (n+1)) (f (argBest (λi j=>lt (f i) (f j)) n))with
  | true=>
   rw[if_pos rfl];refine⟨ja _,λi hi=>?_⟩;rcases Nat.lt_or_ge i (n+1)with z|z
   ·exact h2 _ _ _ q (h4 i (by omega))
   ·have e:i=n+1:=by omega
    rw[e];exact h1 _
  | false=>
   rw[if_neg (by decide)];refine⟨by omega,λi hi=>?_⟩;rcases Nat.lt_or_ge i (n+1)with z|z
   ·exact h4 i (by omega)
   ·have e:i=n+1:=by omega
    rw[e];exact q
theorem qgq{X:Cx}{z5:List (Addr×Obj)}{σ:St}{H:Hp}{s s':Shared}(I:Inv X z5 σ H s)(k:Kq s s'):Inv X z5 σ H s':=by
 have es:s'={s with heap:=s'.heap,toks:=s'.toks}:=by obtain⟨h2,g2,d2,t2,o2⟩:=s';obtain⟨_,eg,ed,eo⟩:=k;cases eg;cases ed;cases eo;rfl
 rw[es];exact I.kept k.heap
def btI(ns:List Int):Nat->Nat->Bool:=λi j=>decide (ns.getD i 0<ns.getD j 0)
def minI(ns:List Int):Option Int:=match ns with
 |[]=>none
 |_=>some (ns.getD (argBest (btI ns) (ns.length-1)) 0)
def qge(ns:List Int):V:=match minI ns with
 |none=>.non
 |some m=>.int m
theorem qb8{ns:List Int}{m:Int}(h:minI ns=some m):m∈ns/\∀x∈ns,m<=x:=by
 cases ns with
 |nil=>cases h
 | cons a r=>
  cases h;obtain⟨h1,h2⟩:=q8o (lt:=λ(x y:Int)=>decide (x<y)) (f:=λi=>(a::r).getD i 0) (λa=>by simp) (λa b c=>by simp;omega) ((a::r).length-1);have hb:argBest (btI (a::r)) ((a::r).length-1)<(a::r).length:=Nat.lt_of_le_of_lt h1 (by simp);refine⟨?_,λx hx=>?_⟩
  ·rw[jv,jd hb];exact xc hb
  ·obtain⟨i,hi,rfl⟩:=List.mem_iff_getElem.mp hx;have:=h2 i (by omega);simp only[decide_eq_false_iff_not]at this;rw[jv (i:=i),jd hi]at this;exact Int.not_lt.mp this
theorem qa3{ns:List Int}(h:minI ns=none):ns=[]:=by
 cases ns with
 |nil=>rfl
 |cons a r=>cases h
theorem qnd{ns:List Int}{m:Int}(h:m∈ns)(k:∀x∈ns,m<=x):minI ns=some m:=by
 cases q:minI ns with
 |none=>rw[qa3 q]at h;cases h
 | some y=>
  obtain⟨h1,h2⟩:=qb8 q;have e1:=h2 m h;have e2:=k y h1;congr 1;omega
section
variable{X:Cx}{K:FrG}{O:List Nat}{e:Expr}{d:Expr}{te:TE}{p kp pos:Pos}{fe:RhD}
def qpb(K:FrG)(te:TE):TE:=λσ H Q=>te σ H λv H1=>∃(p:Addr) (ns:List Int),[v]=[V.ref p]/\SqL K H1 p (ns.map V.int)/\Q (qge ns) H1
theorem qfq(hK:X.K=K)(hc:X.calm=true)(hg:Gl X "min")(hm:X.mg "min"=none)(ha:PE X e te)(hd:PE X d (tC .non))(he:starEach [e] X.env=(false,eval e X.env)::starEach [] X.env:=by rfl)
 (h1:backTo pos (starEach [e] X.env)=(false,eval e X.env)::backTo pos (starEach [] X.env):=by rfl) (h2:(backTo pos (starEach [e] X.env)).any (·.1)=false:=by rfl)
 (h3:(backToKw pos (keywordEach [⟨some "default",d,kp⟩] X.env)).all (λx=>x.1.isSome)=true:=by rfl) (h4:(backToKw pos (keywordEach [⟨some "default",d,kp⟩] X.env)).any (λx=>x.1.isNone)=false:=by rfl)
 (h5:(backToKw pos (keywordEach [⟨some "default",d,kp⟩] X.env)).filterMap (·.1)=[Str.ofString "default"]:=by rfl):
 PE X (.Call (.Name "min" p) [e] [⟨some "default",d,kp⟩] pos) (qpb K te):=by
 subst hK;intro z5 s σ H Q I h;refine xr (q4k I hg hm (u:=.builtin "min") (by rfl) ?_);refine callWith_kw (thn ((q00 ha q05 he) pos z5 s σ H (λvs H1=>∃(p1:Addr) (ns:List Int),vs=[V.ref p1]/\SqL X.K H1 p1 (ns.map V.int)/\Q (qge ns) H1) I h) λus s1 hh1=>?_) h1 h2 h3 h4;obtain⟨vs,H1,I1,r1,p1,ns,rfl,q1,k⟩:=hh1;obtain⟨u,rfl,ru⟩:=vals1 r1;cases(show u=Value.ref p1 from ru);refine kws_cons (thn (hd z5 s1 σ H1 (λv H2=>v=.non/\H2=H1) I1 ⟨rfl,rfl⟩) λdv s2 hh2=>?_);obtain⟨x,H2,I2,r2,rfl,rfl⟩:=hh2;cases r2;refine kws_nil ?_;rw[h5];obtain⟨its,rv,pl,hz⟩:=I2.list q1;have ln:its.length=ns.length:=by have:=rv.length;simp at this;omega
 have hh:X.A.in1.handled=none:=I2.ok.hd hc;show wpAny _ _ (call (.builtin "min") [.ref p1] [(Str.ofString "default",.none)]) _ _ s2;refine qhi (its:=its.toArray) (bt:=btI ns) hh pl.isList (λi j vi vj s Q E hi hj _ q=>?_) (λh0 s' k'=>?_) λv s' h0 ev k'=>?_
 ·obtain⟨t,rfl⟩:=q34 rv (by simpa using hi);obtain⟨t',rfl⟩:=q34 rv (by simpa using hj);exact HT.rcLt_int _ s _ t _ t' _ _ _ _ (q s ⟨λ_ _ e=>e,rfl,rfl,rfl⟩)
 ·have en:ns=[]:=List.eq_nil_of_length_eq_zero (by simp at h0;rw[h0]at ln;simpa using ln.symm);subst en;exact⟨.non,_,qgq I2 k',rfl,k⟩
 ·have hn:ns≠[]:=λz=>by rw[z]at ln;simp at h0 ln;rw[ln]at h0;exact absurd h0 (by simp)
  rw[jw,ln]at ev;obtain⟨t,rfl⟩:=q34 rv (by simpa using ev);refine⟨_,_,qgq I2 k',?_,k⟩;unfold qge minI;cases ns with
  |nil=>exact absurd rfl hn
  |cons a r=>exact⟨t,rfl⟩
def optI:Option Int->D
 |none=>.non
 |some m=>.int m
def q7y:D->Option D
 |.lst xs=>(q3t xs).map λns=>optI (minI ns)
 |_=>none
theorem qgh(h:MB K O te fe):ME K O (qpb K te) (mOp1 q7y fe):=λZ σ H R ρ d ρ' Q S e k=>by
 obtain⟨x,ρ1,e1,e⟩:=q0c e;obtain⟨e3,rfl⟩:=q0l e;refine h Z σ H R ρ x _ _ S e1 λv H1 R1 S1 st1 r1=>?_;unfold q7y at e3;split at e3
 ·rename_i xs;obtain⟨b,vs,rfl,q,r⟩:=r1.isL;cases z:q3t xs with
  |none=>rw[z]at e3;cases e3
  | some ns=>
   rw[z]at e3;cases e3;have ex:=q60 r z;subst ex;refine⟨b,ns,rfl,q,k _ H1 R1 S1 st1 ?_⟩;show Rp K R1 (qge ns) (optI (minI ns));unfold qge;cases minI ns with
   |none=>exact .non
   |some m=>exact .int m
 ·cases e3
end
theorem qa7:∀a b c:List Int,HT.lexLt a b=true->HT.lexLt c b=false->HT.lexLt c a=false
 |[],[],_,h,_=>by cases h
 |[],_::_,[],_,g=>by cases g
 |[],_::_,_::_,_,_=>rfl
 |_::_,[],_,h,_=>by cases h
 |_::_,_::_,[],_,g=>by cases g
 | x::xs,y::ys,z::zs,h,g=>by
  rw[HT.lexLt_cons]at h g ⊢;by_cases q:x=y
  ·rw[if_pos q]at h;subst q;by_cases r:z=x
   ·rw[if_pos r]at g ⊢;exact qa7 xs ys zs h g
   ·rw[if_neg r]at g ⊢;exact g
  ·rw[if_neg q]at h;simp only[decide_eq_true_eq]at h;by_cases r:z=y
   ·rw[if_neg (by omega)];simp;omega
   ·rw[if_neg r]at g;simp only[decide_eq_false_iff_not]at g;rw[if_neg (by omega)];simp;omega
def qLt(x y:Int×List Int):Bool:=q6m x.1 y.1 x.2 y.2
theorem qin(x:Int×List Int):qLt x x=false:=by unfold qLt q6m;rw[if_pos rfl,q6d]
theorem qfm(a b c:Int×List Int)(h:qLt a b=true)(g:qLt c b=false):qLt c a=false:=by
 unfold qLt q6m at h g ⊢;by_cases q:a.1=b.1
 ·rw[if_pos q]at h;rw[q];by_cases r:c.1=b.1
  ·rw[if_pos r]at g ⊢;exact qa7 _ _ _ h g
  ·rw[if_neg r]at g ⊢;exact g
 ·rw[if_neg q]at h;simp only[decide_eq_true_eq]at h;by_cases r:c.1=b.1
  ·rw[if_neg (by omega)];simp;omega
  ·rw[if_neg r]at g;simp only[decide_eq_false_iff_not]at g;rw[if_neg (by omega)];simp;omega
def btP(qs:List (Int×List Int)):Nat->Nat->Bool:=λi j=>qLt (qs.getD i (0,[])) (qs.getD j (0,[]))
def q4r(qs:List (Int×List Int)):Int×List Int:=qs.getD (argBest (btP qs) (qs.length-1)) (0,[])
theorem q7s{qs:List (Int×List Int)}(h:qs≠[]):q4r qs∈qs/\∀x∈qs,qLt x (q4r qs)=false:=by
 obtain⟨h1,h2⟩:=q8o (lt:=qLt) (f:=λi=>qs.getD i (0,[])) qin qfm (qs.length-1);have hp:0<qs.length:=List.length_pos_iff.mpr h;have hb:argBest (btP qs) (qs.length-1)<qs.length:=Nat.lt_of_le_of_lt h1 (by omega);refine⟨?_,λx hx=>?_⟩
 ·unfold q4r;rw[jv,jd hb];exact xc hb
 ·obtain⟨i,hi,rfl⟩:=List.mem_iff_getElem.mp hx;have:=h2 i (by omega);rw[jv (i:=i),jd hi]at this;exact this
section
variable{X:Cx}{K:FrG}{O:List Nat}
def PrV(K:FrG)(H:Hp)(v:V)(q:Int×List Int):Prop:=∃a b,v=.ref a/\SqT K H a [.int q.1,.ref b]/\SqL K H b (q.2.map V.int)
def qqc(K:FrG):List V->Hp->VK->Prop:=λxs H Q=>∃(p:Addr) (vs:List V) (qs:List (Int×List Int)) (n:Nat),xs=[.ref p]/\SqL K H p vs/\vs.length=qs.length/\(∀i v,vs[i]? =some v->PrV K H v (qs.getD i (0,[])))/\(∀q∈qs,q.2.length=n)/\qs≠[]/\∀v,vs[argBest (btP qs) (qs.length-1)]? =some v->Q v H
theorem qc3{X:Cx}{z5:List (Addr×Obj)}{σ:St}{H:Hp}{s:Shared}{v:V}{q:Int×List Int}{u:Value}(I:Inv X z5 σ H s)(h:PrV X.K H v q)(r:RelV v u):∃a b t vs,u=.ref a/\IsTup s.heap a #[.int q.1 t,.ref b]/\s.heap.IsList b vs.toArray/\IntsAre vs q.2:=by
 obtain⟨a,b,rfl,h1,h2⟩:=h;cases r;obtain⟨its,rv,p,_⟩:=I.tuple h1;obtain⟨its2,rv2,p2,_⟩:=I.list h2;cases rv with
 | cons r1 r2=>
  cases r2 with
  | cons r2 r3=>
   cases r3;obtain⟨t,rfl⟩:=r1;cases r2;exact⟨a,b,t,its2,rfl,p,p2.isList,intsAre_of rv2⟩
theorem q5u:∀{xs:List V} {us:List Value} {i:Nat} {u:Value},Vals xs us->us[i]? =some u->∃x,xs[i]? =some x/\RelV x u
 |_,_,_,_,.nil,e=>by simp at e
 |_,_,0,_,.cons r _,e=>by simp at e;subst e;exact⟨_,rfl,r⟩
 | _,_,i+1,u,.cons _ t,e=>by obtain⟨x,h1,h2⟩:=q5u (i:=i) (u:=u) t (by simpa using e);exact⟨x,by simpa using h1,h2⟩
theorem qe7(hK:X.K=K)(hc:X.calm=true)(hu:X.A.units+64<cLine):q57 X (.builtin "min") (qqc K):=by
 subst hK;intro z5 s σ H xs us Q I r h;obtain⟨p,vs,qs,n,rfl,hq,hl,hp,hn,h0,k⟩:=h;obtain⟨u,rfl,ru⟩:=vals1 r;cases ru;obtain⟨its,rv,pl,hz⟩:=I.list hq;have ln:its.length=qs.length:=by have:=rv.length;omega
 have hh:X.A.in1.handled=none:=I.ok.hd hc;have h0':0<qs.length:=List.length_pos_iff.mpr h0;have old:∀s',Kp s.heap.objs.size (s.heap.objs.size+1) s s'->∀b o,s.heap.get? b=some o->s'.heap.get? b=some o:=λs' k b o e=>k.heap b o (jf (j9 e)) (jf (Nat.lt_succ_of_lt (j9 e))) e;have ql:∀i,i<qs.length->(qs.getD i (0,[])).2.length=n:=λi hi=>by rw[jv,jd hi];exact hn _ (xc hi)
 refine qhh (its:=its.toArray) (bt:=btP qs) hh pl.isList (by simp;omega) (λi j vi vj s1 Q1 E1 hi hj kp q=>?_) λv s' ev k'=>?_
 ·obtain⟨x,hx,rx⟩:=q5u rv (show its[i]? =some vi by simpa using hi);obtain⟨y,hy,ry⟩:=q5u rv (show its[j]? =some vj by simpa using hj);obtain⟨a,b,t,us,rfl,g1,g2,g3⟩:=qc3 I (hp i x hx) rx;obtain⟨a',b',t',us',rfl,g1',g2',g3'⟩:=qc3 I (hp j y hy) ry;have hi':i<qs.length:=by have:=(List.getElem?_eq_some_iff.mp hx).1;omega
  have hj':j<qs.length:=by have:=(List.getElem?_eq_some_iff.mp hy).1;omega
  have up:=old s1 kp;refine q9r (t:=t) (u:=t') (p:=b) (q:=b') ?_ ?_ ?_ ?_ g3 g3' (by rw[ql i hi',ql j hj']) (by show X.A.units+1+1<cLine;omega) (q s1 ⟨λ_ _ e=>e,rfl,rfl,rfl⟩)
  ·obtain⟨o,e,c⟩:=g1;exact⟨o,up _ o e,c⟩
  ·obtain⟨o,e,c⟩:=g1';exact⟨o,up _ o e,c⟩
  ·obtain⟨o,e,c⟩:=g2;exact⟨o,up _ o e,c⟩
  ·obtain⟨o,e,c⟩:=g2';exact⟨o,up _ o e,c⟩
 ·rw[jw,ln]at ev;obtain⟨x,hx,rx⟩:=q5u rv (show its[argBest (btP qs) (qs.length-1)]? =some v by simpa using ev);exact⟨x,H,qgq I k',rx,k x hx⟩
def qb4:D->Option (Int×List Int)
 |.tup [.int a,.lst xs]=>(q3t xs).map λns=>(a,ns)
 |_=>none
def q6l:List D->Option (List (Int×List Int))
 |[]=>some []
 | d::r=>match qb4 d,q6l r with
  |some q,some qs=>some (q::qs)
  |_,_=>none
def pairD(q:Int×List Int):D:=.tup [.int q.1,.lst (q.2.map D.int)]
def qjx:D->Option D
 | .lst xs=>match q6l xs with
  |some qs=>if qs≠[]/\(qs.all λq=>decide (q.2.length=(q4r qs).2.length))=true then some (pairD (q4r qs))else none
  |none=>none
 |_=>none
theorem qck:∀{xs:List D} {ns:List Int},q3t xs=some ns->xs=ns.map D.int
 |[],ns,h=>by cases h;rfl
 | d::r,ns,h=>by
  cases d with
  | int i=>
   have h:(q3t r).map (λx=>i::x)=some ns:=h;cases q:q3t r with
   |none=>rw[q]at h;cases h
   | some ms=>
    rw[q]at h;cases h;rw[qck q];rfl
  |_=>cases h
theorem q8x{R:Hp}{v:V}{d:D}{q:Int×List Int}(r:Rp K R v d)(e:qb4 d=some q):PrV K R v q/\d=pairD q:=by
 unfold qb4 at e;split at e
 ·rename_i a xs;cases z:q3t xs with
  |none=>rw[z]at e;cases e
  | some ns=>
   rw[z]at e;cases e;obtain⟨l,vs,rfl,h,r⟩:=r.isT;obtain⟨v1,_,rfl,r1,r⟩:=r.isC;obtain⟨v2,_,rfl,r2,r⟩:=r.isC;cases r;obtain rfl:=r1.isI;obtain⟨b,ws,rfl,h2,r3⟩:=r2.isL;have ex:=q60 r3 z;subst ex;refine⟨⟨l,b,rfl,SqT.of h,h2⟩,?_⟩;unfold pairD;rw[qck z]
 ·cases e
theorem q8c{R:Hp}:∀{vs:List V} {ds:List D} {qs:List (Int×List Int)},Rps K R vs ds->q6l ds=some qs->vs.length=qs.length/\ds=qs.map pairD/\∀i v,vs[i]? =some v->PrV K R v (qs.getD i (0,[]))
 | _,[],qs,.nil,e=>by unfold q6l at e;cases e;exact⟨rfl,rfl,λi v e=>by simp at e⟩
 | v::vs,d::ds,qs,.cons r t,e=>by
  unfold q6l at e;split at e
  ·rename_i q qs' e1 e2;cases e;obtain⟨h1,h2⟩:=q8x r e1;obtain⟨g1,g2,g3⟩:=q8c t e2;refine⟨by rw[jq,jq,g1],by rw[h2,g2];rfl,λi w e=>?_⟩;cases i with
   |zero=>cases e;exact h1
   |succ i=>exact g3 i w e
  ·cases e
theorem PrV.mono{H R:Hp}{v:V}{q:Int×List Int}(s:Same R H)(h:PrV K R v q):PrV K H v q:=by obtain⟨a,b,e,h1,h2⟩:=h;exact⟨a,b,e,Same.tup s h1,Same.sqL s h2⟩
theorem qof:qox K (qqc K) qjx:=λH R x d u Q s r e k=>by
 unfold qjx at e;split at e
 ·rename_i xs;split at e
  ·rename_i qs e1;split at e
   ·rename_i hc;cases e;obtain⟨p,vs,rfl,h,rs⟩:=r.isL;obtain⟨g1,g2,g3⟩:=q8c rs e1;subst g2;refine⟨p,vs,qs,_,rfl,Same.sqL s h,g1,λi v e=>(g3 i v e).mono s,λq hq=>by simpa using List.all_eq_true.mp hc.2 q hq,hc.1,λv hv=>?_⟩;have hd:(qs.map pairD)[argBest (btP qs) (qs.length-1)]? =some (pairD (q4r qs)):=by
     obtain⟨d,hd,_⟩:=rs.get' hv;have hb:=(List.getElem?_eq_some_iff.mp hd).1;rw[j7]at hb;unfold q4r;rw[jc,jv,jd hb];rfl
    obtain⟨w,hw,rw'⟩:=rs.get hd;rw[hv]at hw;cases hw;exact k _ H R (Ext.refl s) rw'
   ·cases e
  ·cases e
 ·cases e
end
def DRaw(h:Heap)(d:Addr)(es:Array DictEntry)(ep:Nat):Prop:=∃o,h.get? d=some o/\o.ExactDict/\o.data=.dict es ep
theorem DRaw.ty{s:Shared}{d:Addr}{es:Array DictEntry}{ep:Nat}(x:DRaw s.heap d es ep):s.TypeIs (.ref d) "dict":=let ⟨o,e,c,_⟩:=x;⟨o,e,c.1⟩
theorem DRaw.at_{h h':Heap}{d:Addr}{es:Array DictEntry}{ep:Nat}(x:DRaw h d es ep)(k:∀o,h.get? d=some o->h'.get? d=some o):DRaw h' d es ep:=let ⟨o,e,r⟩:=x;⟨o,k o e,r⟩
section
variable{prog:Program}{w:World}{A:Around}{E:Value->Shared->Prop}{s:Shared}
theorem qjb{d:Addr}{es:Array DictEntry}{ep:Nat}{Q:Value->Shared->Prop}(nd:(d==sysModules)=false)(x:DRaw s.heap d es ep)
 (q:Q (.ref s.heap.objs.size) {s with heap:=s.heap.push {cls:=.type "dict_keyiterator",data:=.fields #[.ref d,.int 0 0,.int es.size 0,.int ep 0]}}):wpAny (model prog w) A (pyIter (.ref d)) Q E s:=by
 obtain⟨o,e,c,dt⟩:=id x;refine wpAny_pyIter_slot x.ty F.slot_dict_iter (k8 F.slot_dict_iter x.ty F.entry_dict_iter ?_ (F.args_dict_iter_1 _));unfold Builtin.«dict.__iter__» Builtin.Dict.dictSlotNone;refine j6 (j6 (wpAny_notOrdered_dict x.ty ?_));show wpAny _ _ (pure (Value.ref d)) _ _ s;refine j8 ?_;unfold Builtin.Dict.showsAll;show wpAny _ _ ((if(d==sysModules)=true then _ else _) >>= _) _ _ s;rw[if_neg (by rw[nd];decide)];exact j6 (j8 (j6 (wpAny_dictEntries e dt (j6 (wpAny_dictEpoch e dt (j6 (xx (j8 ⟨_,rfl,"dict_keyiterator",_,⟨_,jm _ rfl,rfl⟩,F.slot_dict_keyiterator_next.lookup,q⟩))))))))
theorem qjc{it d:Addr}{i ep:Nat}{es:Array DictEntry}{Q:Option Value->Shared->Prop}(g:s.heap.IsKeyIter it d i es.size ep)(x:DRaw s.heap d es ep)(hi:i<es.size)
 (q:∀h',h'.IsKeyIter it d (i+1) es.size ep->Heap.SameBut it s.heap h'->Q (some es[i].key) {s with heap:=h'}):wpAny (model prog w) A (pyNext (.ref it)) Q E s:=by
 obtain⟨oi,ei,ci,fi⟩:=id g;obtain⟨o,e,c,dt⟩:=id x;have own0:Builtin.Dict_items.ownsTuple "dict_keyiterator"=false:=by decide
 unfold pyNext;refine j6 (wpAny_attempt (k9 (name:=Str.ofString "__next__") g.typeIs kr (k8 kr g.typeIs F.entry_dict_keyiterator_next (j6 (j8 (j6 ?_))) (F.args_dict_keyiterator_next_1 _))));refine j6 (j6 (ku g.typeIs (j8 (j6 (wpAny_fieldsOf ei fi ?_)))));simp only[own0,Bool.false_eq_true,if_false];show wpAny _ _ (if(Value.ref d==Value.none)=true then _ else _) _ _ s;have nn:(Value.ref d==Value.none)=false:=rfl;rw[if_neg (by rw[nn];decide)];refine j6 (j8 (j6 (wpAny_dictEntries e dt ?_)));rw[if_neg (by simp)];refine j6 (j8 (j6 (wpAny_dictEpoch e dt ?_)));rw[if_neg (by simp)];refine j8 ?_;have n0:¬((i:Int)<0):=by omega
 simp only[n0,if_false,Int.toNat_natCast,Array.getElem?_eq_getElem hi];refine j6 (j6 (ku g.typeIs (j8 (j6 (wpAny_isOneOf_keyiter g.typeIs ?_)))));show wpAny _ _ (setField (.ref it) 1 (rawInt ((i:Int)+1)) >>= _) _ _ s;have g':(s.heap.update it (Obj.mapFields (·.setIfInBounds 1 (rawInt ((i:Int)+1))))).IsKeyIter it d (i+1) es.size ep:=
  ⟨_,kf _ ei (Obj.isFreed_of_fields (Obj.data_mapFields fi _)),(Obj.cls_mapFields ..).trans ci,by rw[Obj.data_mapFields fi];simp[rawInt]⟩
 refine j6 (wpAny_setField ei fi (by simp) (j6 (xy (j6 (wpAny_isOneOf_keyiter (s:={s with heap:=s.heap.update it (Obj.mapFields (·.setIfInBounds 1 (rawInt ((i:Int)+1))))}) g'.typeIs ?_)))));show wpAny _ _ (pure es[i].key) _ _ _;exact j8 (j8 ⟨_,rfl,j8 (q _ g' (kl ..))⟩)
theorem qnh{it d:Addr}{i ep:Nat}{es:Array DictEntry}{Q:Option Value->Shared->Prop}(hh:A.handled=none)(g:s.heap.IsKeyIter it d i es.size ep)(x:DRaw s.heap d es ep)(hi:es.size<=i)
 (q:∀h',Heap.ExtBut it s.heap h'->Q none {s with heap:=h'}):wpAny (model prog w) A (pyNext (.ref it)) Q E s:=by
 obtain⟨oi,ei,ci,fi⟩:=id g;obtain⟨o,e,c,dt⟩:=id x;have own0:Builtin.Dict_items.ownsTuple "dict_keyiterator"=false:=by decide
 unfold pyNext;refine j6 (wpAny_attempt (k9 (name:=Str.ofString "__next__") g.typeIs kr (k8 kr g.typeIs F.entry_dict_keyiterator_next (j6 (j8 (j6 ?_))) (F.args_dict_keyiterator_next_1 _))));refine j6 (j6 (ku g.typeIs (j8 (j6 (wpAny_fieldsOf ei fi ?_)))));simp only[own0,Bool.false_eq_true,if_false];show wpAny _ _ (if(Value.ref d==Value.none)=true then _ else _) _ _ s;have nn:(Value.ref d==Value.none)=false:=rfl;rw[if_neg (by rw[nn];decide)];refine j6 (j8 (j6 (wpAny_dictEntries e dt ?_)));rw[if_neg (by simp)];refine j6 (j8 (j6 (wpAny_dictEpoch e dt ?_)));rw[if_neg (by simp)];refine j8 ?_;have n0:¬((i:Int)<0):=by omega
 simp only[n0,if_false,Int.toNat_natCast,Array.getElem?_eq_none hi];refine j6 (j6 (ku g.typeIs (j8 ?_)));show wpAny _ _ (setField (.ref it) 0 .none >>= _) _ _ s;refine j6 (wpAny_setField ei fi (by simp) ?_);show wpAny _ _ (newExc (.type "StopIteration") [] >>= _) _ _ _;simp only[newExc,newTuple,raiseNew];refine j6 (j6 (xx (j6 (m:=firstArgMember _ _) (wpAny_of_eq (a:=Value.none) (by first|rfl|(simp only[firstArgMember];rfl)) (xx ?_ (by size_fits)))) (by size_fits)));refine j6 (wpAny_handled ?_);rw[show A.in1.handled=none from hh];refine j6 (j8 (wpAny_throw ?_));exact j6 (wpAny_isInstance (T:="StopIteration") (b:=true) ⟨_,jm _ rfl,rfl⟩ isSubtype_stop (j8 (q _ (((kl ..).extBut.push _).push _))))
end
theorem qph{X:Cx}{z5:List (Addr×Obj)}{σ:St}{H:Hp}{s:Shared}(I:Inv X z5 σ H s):sysModules<s.heap.objs.size:=by have h:mainGlobals<s.heap.objs.size:=(I.mod.glob.keeps I.bk).lt;exact Nat.lt_trans (by decide) h
def qpa:TE:=λ_ H Q=>∀p,H p=none->Q (.ref p) (upd H p (.dK []))
theorem qmn{X:Cx}{pos:Pos}:PE X (.Dict [] [] pos) qpa:=λz5 s σ H Q I h=>
 wpAny_Dict_empty ⟨.ref s.heap.objs.size,_,I.laid (a:=s.heap.objs.size) (o:=.dK []) (t':=s.toks) (λ_ _ q=>jb _ q) (ja _)
  ⟨Nat.zero_le _,beq_eq_false_iff_ne.mpr (Ne.symm (jf (qph I))),[],.nil,_,#[],jm _ rfl,⟨rfl,rfl,rfl⟩,rfl,λe he=>by simp at he,.nil,List.nodup_nil⟩,rfl,h _ (I.hok.fresh (ja _))⟩
section
variable{prog:Program}{w:World}{κ:Type}[DecidableEq κ]{knd:KeyKind prog w κ}{A:Around}{E:Value->Shared->Prop}{s:Shared}
theorem quh{d:Addr}{kvs:List (κ×Value)}{n:Nat}{k:κ}{key v:Value}{Q:Unit->Shared->Prop}(hk:knd.is k key=true)(hm:DictN knd s.heap d kvs n)(hz:kvs.length<=sizeLine)(nk:k∉kvs.map (·.1))
 (q:∀h',DictN knd h' d (kvs++[(k,v)]) (n+1)->Heap.SameBut d s.heap h'->Q () {s with heap:=h',toks:=s.toks+1}):wpAny (model prog w) A (dictSet d key v) Q E s:=by
 obtain⟨o,es,g0,cx,dt,ko,hp,nd⟩:=hm;have z1:es.size=kvs.length:=by have:=hp.length;simpa using this
 have fi:es.findIdx? (λe=>knd.is k e.key)=none:=by
  have h1:=hp.findIdx k;have h2:kvs.findIdx? (λkv=>decide (kv.1=k))=none:=by rw[List.findIdx?_eq_none_iff];intro x hx;exact decide_eq_false λe=>nk (List.mem_map.mpr ⟨x,hx,e⟩)
  rw[h2]at h1;obtain⟨l⟩:=es;simpa using h1
 unfold dictSet
 (try with_reducible refine xy ?_);refine j6 (knd.pyHash hk ?_);unfold dictSetHashed
 (try with_reducible refine xy ?_);refine j6 (wpAny_dictFind_of (s:={s with toks:=s.toks+1}) hk g0 dt ko ?_);rw[fi];refine j6 (wpAny_rule (wpAny_updateDictKeys (hz:=by omega) (s:={s with toks:=s.toks+1}) g0 dt (q _ ?_ (kl ..))));refine⟨_,_,kf _ g0 (Obj.isFreed_of_dict (Obj.data_mapDictKeys dt _)),cx.mapDictKeys _,Obj.data_mapDictKeys dt _,ko.push hk v,?_,?_⟩
 ·have:=hp.append hk (knd.hash k) v;simpa using this
 ·rw[x8,List.nodup_append];refine⟨nd,by simp,λx hx y hy z=>?_⟩;have ey:y=k:=by simpa using hy
  exact nk (by rw[<-ey,<-z];exact hx)
theorem qpq{d:Addr}{kvs:List (κ×Value)}{n:Nat}{k:κ}{key v:Value}{Q:Unit->Shared->Prop}(hk:knd.is k key=true)(hm:DictN knd s.heap d kvs n)(hz:kvs.length<=sizeLine)(nk:k∉kvs.map (·.1))
 (q:∀h',DictN knd h' d (kvs++[(k,v)]) (n+1)->Heap.SameBut d s.heap h'->Q () {s with heap:=h',toks:=s.toks+1}):wpAny (model prog w) A (setItem (.ref d) key v) Q E s:=by
 have ty:=hm.of.typeIs (s:=s);unfold setItem
 (try with_reducible refine xy ?_);refine j6 (wpAny_sequenceKey ty (by decide) (j6 ?_));refine k9 (name:=Str.ofString "__setitem__") ty slot_dict_setitem (k8 slot_dict_setitem ty entry_dict_setitem ?_ (args_dict_setitem _ _ _));show wpAny _ _ (Builtin.Dict.notOrdered "__setitem__" ⟨[.ref d,key,v],[]⟩ >>= _) _ _ s;refine j6 (wpAny_notOrdered_dict ty ?_);show wpAny _ _ (dictSet d key v >>= _) _ _ s;exact j6 (quh hk hm hz nk λh' m' t'=>j8 ⟨.none,rfl,j8 (q h' m' t')⟩)
end
def isIn(kvs:List (Key×V))(k:Int):Prop:=Sum.inl k∈kvs.map (·.1)
theorem KV.map1{κ:Type}{kvs:List (κ×V)}{vs:List (κ×Value)}(r:KV kvs vs):kvs.map (·.1)=vs.map (·.1):=by
 unfold KV at r;induction r with
 |nil=>rfl
 |cons h _ ih=>rw[ju,ju,ih,h.1]
theorem KV.snoc{κ:Type}{kvs:List (κ×V)}{vs:List (κ×Value)}{k:κ}{v:V}{u:Value}(r:KV kvs vs)(h:RelV v u):KV (kvs++[(k,v)]) (vs++[(k,u)]):=by
 unfold KV at r ⊢;induction r with
 |nil=>exact .cons ⟨rfl,h⟩ .nil
 |cons g _ ih=>exact .cons g ih
theorem KV.len{κ:Type}{kvs:List (κ×V)}{vs:List (κ×Value)}(r:KV kvs vs):kvs.length=vs.length:=Paired.length r
section
variable{X:Cx}{K:FrG}
def qq9:V->V->V->Hp->(Hp->Prop)->Prop:=λo i v H Q=>∃p kvs k,o=.ref p/\i=.int k/\H p=some (.dK kvs)/\kvs.length<sizeLine/\¬isIn kvs k/\Q (upd H p (.dK (kvs++[(.inl k,v)])))
theorem qu9:PSet X qq9:=by
 intro z5 s σ H o i v ov iv u Q I ro ri rv h;obtain⟨p,kvs,k,rfl,rfl,hp,hz,hn,q⟩:=h;cases ro;obtain⟨t,rfl⟩:=ri;obtain⟨_,hd,vs,rel,dd⟩:=(show ObjOk X.prog X.w H s.heap p (.dK kvs)from I.hok p _ hp);refine qpq (k:=.inl k) (q7j _ _ k t) dd (by rw[<-rel.len];omega) (by rw[<-rel.map1];exact hn) λh' dd' sb=>⟨_,?_,q⟩;have he:∃q,h'.get? p=some q:=let ⟨q,_,hq,_⟩:=dd';⟨q,hq⟩
 refine I.write (t':=s.toks+1) (x:=p) (e:=p) (by rw[hp];exact True.intro) (.inl rfl) (λb q hb z=>(sb.2 b hb).trans z) he ⟨by rw[jh];exact hz,hd,_,rel.snoc rv,?_⟩;rw[jh];exact dd'
def getK(kvs:List (Key×V))(k:Int):Option V:=(kvs.find? λp=>decide (p.1=Sum.inl k)).map (·.2)
theorem qjk{kvs:List (Key×V)}{vs:List (Key×Value)}{k:Int}{v:V}(r:KV kvs vs)(h:getK kvs k=some v):∃u,valueAt vs (Sum.inl k)=some u/\RelV v u:=by
 unfold KV at r;induction r with
 |nil=>cases h
 | @cons p q ps qs g _ ih=>
  obtain⟨h1,h2⟩:=g;unfold getK at h;by_cases e:p.1=Sum.inl k
  ·have e':q.1=Sum.inl k:=h1.symm.trans e;simp[List.find?_cons,e]at h;subst h;exact⟨q.2,by simp[valueAt,List.find?_cons,e'],h2⟩
  ·have e':¬q.1=Sum.inl k:=λz=>e (h1.trans z);simp[List.find?_cons,e]at h;obtain⟨u,u1,u2⟩:=ih (by unfold getK;simpa using h);exact⟨u,by rw[<-u1];simp[valueAt,List.find?_cons,e'],u2⟩
def rIxK:R2:=λx y H Q=>∃p kvs k v,x=.ref p/\y=.int k/\H p=some (.dK kvs)/\getK kvs k=some v/\Q v H
theorem ix_K:IxR X rIxK:=by
 intro value zg z5 s σ H x y v u Q I rx ry h hs;obtain⟨p,kvs,k,z,rfl,rfl,hp,hg,q⟩:=h;cases rx;obtain⟨t,rfl⟩:=ry;obtain⟨_,hd,vs,rel,dd⟩:=(show ObjOk X.prog X.w H s.heap p (.dK kvs)from I.hok p _ hp);obtain⟨w',hw,rw'⟩:=qjk rel hg;have ty:=dd.of.typeIs (s:=s);unfold subscriptTail;refine j6 ?_;rw[getitemInPython_of_ne ty.not_modules];refine j6 (wpAny_specialOf ty PySem.F.slot_dict_getitem.lookup ?_);have fin:wpAny (model X.prog X.w) X.A (subscripted zg false (.ref p) (.int k t)) (λr s₃=>wpAny (model X.prog X.w) X.A (letTemporaryGo value (.ref p) r >>= λ_=>pure r) (EP X z5 σ Q) X.xe s₃) X.xe s:=by rw[hs];exact wpAny_operating (wpAny_getItem_of (knd:=q7k X.prog X.w) (k:=.inl k) (q7j _ _ k t) dd.of.mapOf hw (j6 (wpAny_letTemporaryGo (j8 ⟨z,H,I.tok _,rw',q⟩))))
 first
  |exact j8 (j6 fin)
  |exact j6 (j8 (j6 fin))
  |exact j6 fin
end
def Itkk(a:Addr)(n:Nat):It:=
 ⟨λi H=>∃kvs p,H a=some (.dK kvs)/\kvs.length=n/\kvs[i]? =some p,
  λi H v H'=>H'=H/\∀kvs p,H a=some (.dK kvs)->kvs[i]? =some p->v=kV p.1,
  λi H=>∃kvs,H a=some (.dK kvs)/\kvs.length=n/\n<=i⟩
theorem pairs_at{P:Program}{w:World}:∀{es:List DictEntry} {kvs:List (Key×V)} {vs:List (Key×Value)} {i:Nat} {p:Key×V},Pairs (q7k P w) es vs->KV kvs vs->kvs[i]? =some p->∃e,es[i]? =some e/\RelV (kV p.1) e.key:=by
 intro es kvs vs i p h;induction h generalizing kvs i with
 |nil=>intro r e;cases r;simp at e
 | @cons en kv es vs h1 h2 _ ih=>
  intro r e;cases r with
  | @cons q _ ks _ g r=>
   cases i with
   | zero=>
    simp at e;subst e;refine⟨en,rfl,?_⟩;rw[g.1];rcases q2b h1 with⟨j,t,e1,e2⟩|⟨x,t,e1,e2⟩
    ·rw[e1,e2];exact⟨t,rfl⟩
    ·rw[e1,e2];exact⟨t,rfl⟩
   |succ i=>exact ih r (by simpa using e)
theorem qay{X:Cx}{z5:List (Addr×Obj)}{σ:St}{H:Hp}{s:Shared}{a:Addr}{kvs:List (Key×V)}(I:Inv X z5 σ H s)(e:H a=some (.dK kvs)):
 (a==sysModules)=false/\∃es,es.size=kvs.length/\DRaw s.heap a es kvs.length/\∀i p,kvs[i]? =some p->∃hi:i<es.size,RelV (kV p.1) es[i].key:=by
 obtain⟨_,y,vs,r,o,es,h1,h2,h3,h4,h5,_⟩:=(show ObjOk X.prog X.w H s.heap a (.dK kvs)from I.hok a _ e);have z:es.size=kvs.length:=by have:=h5.length;rw[<-r.len]at this;simpa using this
 refine⟨y,es,z,⟨o,h1,h2,h3⟩,λi p hp=>?_⟩;obtain⟨en,e1,e2⟩:=pairs_at h5 r hp;have hi:i<es.size:=by rw[z];exact(List.getElem?_eq_some_iff.mp hp).1
 refine⟨hi,?_⟩;have ee:es[i]=en:=by have:=(List.getElem?_eq_some_iff.mp e1).2;simpa using this
 rw[ee];exact e2
theorem qcz{P:Program}{w:World}{K:FrG}{tg:Expr}(a it:Addr)(n:Nat):Turn P w K tg (Itkk a n) [it] it (λi h=>h.IsKeyIter it a i n n) where
 mem:=by simp
 obj:=λi h st b hb=>by obtain⟨o,e,c,d⟩:=st;rw[List.mem_singleton.mp hb];exact⟨o,e,λv z=>by rw[d]at z;cases z⟩
 keep:=λi h h' st k=>st.at λo e=>k it (by simp) o e
 item:=by intro X hP hw hK hc i z5 s σ H E I hf st hg;subst hP hw hK;obtain⟨kvs,p,e,rfl,hp⟩:=hg;obtain⟨_,es,z,dr,al⟩:=qay I e;obtain⟨hi,k1⟩:=al i p hp;obtain⟨f0,f1,f2,f3,f4,f5⟩:=hf it (by simp);rw[<-z]at st dr;refine qjc st dr hi λh' st' sb=>?_;have I1:Inv X z5 σ H {s with heap:=h'}:=I.turned (t':=s.toks) (λb o hb e=>(sb.2 b hb).trans e) f0 f1 f3 f4 f5;obtain⟨o,e1,c1,d1⟩:=id st';refine⟨_,rfl,qgz (s:={s with heap:=h'}) e1 c1 d1 (by decide) ⟨kV p.1,H,I1,k1,⟨rfl,λkvs' p' e' hp'=>?_⟩,by rw[<-z];exact st',λb hb=>(hf b hb).1⟩⟩;rw[e]at e';cases e';rw[hp]at hp';cases hp';rfl
 done:=by intro X hP hw hK hc i z5 s σ H E I hf st hg;subst hP hw hK;obtain⟨kvs,e,rfl,hp⟩:=hg;obtain⟨_,es,z,dr,_⟩:=qay I e;obtain⟨f0,f1,f2,f3,f4,f5⟩:=hf it (by simp);rw[<-z]at st dr hp;exact qnh (I.ok.hd hc) st dr hp λh' eb=>⟨rfl,I.turned (t':=s.toks) (λb o hb e=>eb b o hb e) f0 f1 f3 f4 f5⟩
 self:=λ_ _ _ _ _ st h=>wpAny_pyIter_keyiter st h
def qlz(td:TE):TI:=λσ H R=>td σ H λx H1=>∃a kvs,x=.ref a/\H1 a=some (.dK kvs)/\R (Itkk a kvs.length) H1
theorem qis{X:Cx}{tg l:Expr}{td:TE}(hl:PE X l td):PI X tg l (qlz td):=by intro z5 s σ H R I h;refine thn (hl z5 s σ H _ I h) λv s1 ⟨x,H1,I1,rx,a,kvs,ex,e,q⟩=>?_;subst ex;obtain rfl:v=Value.ref a:=rx;obtain⟨y,es,z,dr,_⟩:=qay I1 e;refine qjb y dr ?_;refine⟨s1.heap.objs.size,[s1.heap.objs.size],_,_,H1,rfl,I1.kept (t':=s1.toks) λb o e=>jb _ e,qcz a _ kvs.length,⟨_,jm _ rfl,rfl,by rw[z];rfl⟩,λb hb=>?_,q⟩;rw[List.mem_singleton.mp hb];exact I1.fpOk (ja _) (I1.hok.fresh (ja _))
def kD:Key->D
 |.inl i=>.int i
 |.inr x=>.str x
section
variable{K:FrG}{O O':List Nat}{R:Hp}
theorem qvt(k:Key):Rp K R (kV k) (kD k):=by
 cases k with
 |inl i=>exact .int i
 |inr x=>exact .str x
theorem Rkk.length:∀{kvs:List (Key×V)} {gs:List (Key×D)},Rkk K R kvs gs->kvs.length=gs.length
 |_,_,.nil=>rfl
 |_,_,.cons _ r=>by rw[jq,jq,Rkk.length r]
theorem Rkk.keys:∀{kvs:List (Key×V)} {gs:List (Key×D)},Rkk K R kvs gs->kvs.map (·.1)=gs.map (·.1)
 |_,_,.nil=>rfl
 |_,_,.cons _ r=>by rw[ju,ju,Rkk.keys r]
theorem Rkk.snoc{k:Key}{v:V}{d:D}(r:Rp K R v d):∀{kvs:List (Key×V)} {gs:List (Key×D)},Rkk K R kvs gs->Rkk K R (kvs++[(k,v)]) (gs++[(k,d)])
 |_,_,.nil=>.cons r .nil
 |_,_,.cons h t=>.cons h (Rkk.snoc r t)
def qbe(gs:List (Key×D))(k:Int):Option D:=(gs.find? λp=>decide (p.1=Sum.inl k)).map (·.2)
theorem Rkk.val{k:Int}{d:D}:∀{kvs:List (Key×V)} {gs:List (Key×D)},Rkk K R kvs gs->qbe gs k=some d->∃v,getK kvs k=some v/\Rp K R v d
 |_,_,.nil,e=>by cases e
 | _,_,@Rkk.cons _ _ f x xs d' ds h t,e=>by
  unfold qbe at e;by_cases z:f=Sum.inl k
  ·simp[List.find?_cons,z]at e;subst e;exact⟨x,by simp[getK,List.find?_cons,z],h⟩
  ·simp[List.find?_cons,z]at e;obtain⟨v,h1,h2⟩:=Rkk.val (k:=k) (d:=d) t (by unfold qbe;simpa using e);exact⟨v,by rw[<-h1];simp[getK,List.find?_cons,z],h2⟩
theorem Rkk.get:∀{kvs:List (Key×V)} {gs:List (Key×D)} {i:Nat} {g:Key×D},Rkk K R kvs gs->gs[i]? =some g->∃v,kvs[i]? =some (g.1,v)
 |_,_,_,_,.nil,e=>by simp at e
 |_,_,0,_,.cons h _,e=>by simp at e;subst e;exact⟨_,rfl⟩
 | _,_,i+1,g,.cons _ t,e=>by obtain⟨v,h1⟩:=Rkk.get (i:=i) (g:=g) t (by simpa using e);exact⟨v,by simpa using h1⟩
def dIxK:D->D->Option D
 |.dct gs,.int k=>qbe gs k
 |_,_=>none
theorem Rp.isD{x:V}{gs:List (Key×D)}(h:Rp K R x (.dct gs)):∃a kvs,x=.ref a/\R a=some (.dK kvs)/\Rkk K R kvs gs:=by
 cases h with
 |dct h r=>exact⟨_,_,rfl,h,r⟩
theorem qqu:OpG K rIxK dIxK:=λH R x y d e u Q s rx ry q k=>by
 unfold dIxK at q;split at q
 ·rename_i gs i;obtain rfl:=ry.isI;obtain⟨a,kvs,rfl,h,r⟩:=rx.isD;obtain⟨v,h1,h2⟩:=r.val q;exact⟨a,kvs,i,v,rfl,rfl,s _ _ h,h1,k v H R (Ext.refl s) h2⟩
 ·cases q
def qa8:D->Option (List D)
 |.dct gs=>some (gs.map λg=>kD g.1)
 |_=>none
def q7p(f:RhD):RhL:=q1u f λd=>q2v (qa8 d)
theorem qjf{a:Addr}{kvs:List (Key×V)}{gs:List (Key×D)}(h:R a=some (.dK kvs))(r:Rkk K R kvs gs):ItOk K (Itkk a kvs.length) R (gs.map λg=>kD g.1):=λH' R' s b i=>by
 have q:H' a=some (.dK kvs):=b _ _ (s _ _ h);refine⟨λe=>⟨kvs,q,rfl,by rw[j7]at e;rw[r.length];omega⟩,λd e=>?_⟩;rw[jc]at e;cases g0:gs[i]? with
 |none=>rw[g0]at e;cases e
 | some g=>
  rw[g0]at e;cases e;obtain⟨v,h1⟩:=r.get g0;refine⟨⟨kvs,_,q,rfl,h1⟩,λx H'' y=>?_⟩;obtain⟨rfl,y⟩:=y;have ex:=y kvs _ q h1;subst ex;exact⟨R',Ext.refl b,qvt _⟩
theorem qj5{td:TE}{fd:RhD}(h:ME K O td fd):MI K O (qlz td) (q7p fd):=λZ σ H R ρ ds ρ' Q S e k=>by
 obtain⟨d,ρ1,e1,e⟩:=q0c e;obtain⟨e2,rfl⟩:=q0l e;refine h Z σ H R ρ d _ _ S e1 λv H1 R1 S1 st1 r1=>?_;unfold qa8 at e2;split at e2
 ·cases e2;obtain⟨a,kvs,rfl,q,r⟩:=r1.isD;exact⟨a,kvs,rfl,S1.sub _ _ q,k _ H1 R1 S1 st1 (qjf q r)⟩
 ·cases e2
theorem qcn{fd:RhD}{ρ:Rho}:q7p fd ρ=(fd ρ).bind λp=>(qa8 p.1).map λx=>(x,p.2):=by
 unfold q7p q1u q2v;cases fd ρ with
 |none=>rfl
 |some p=>cases h:qa8 p.1<;>simp[h]
end
section
variable{c:MC}{O O':List Nat}{te ti:TE}{fe fi:RhD}
def qav(i:Nat):RhO:=λρ=>if i<ρ.length then some (.nx (ρ.set i (some (.dct []))))else none
theorem qn9{i:Nat}(hs:ownO c i O O'=true):MS c O O' (tAsg qpa (q6f i)) (qav i):=λZ E σ H R ρ o hP S e k=>by
 unfold qav at e;unfold ownO at hs;simp only[Bool.and_eq_true]at hs;split at e
 ·rename_i zc;cases e;intro l hl;have S1:=S.ext (Ext.hid (o:=.dK []) S.sub hl);obtain⟨S2,s2⟩:=S1.sub' hP hs.1.1;have notown:∀j,j∈O->σ[j]? ≠some (some (.ref l)):=S.notnew hl;have hO':∀j,j∈O'.filter (λj=>decide (j≠i))->j∈O:=λj hj=>by
   have z:=hs.1.1;unfold subO at z;simp only[Bool.and_eq_true,List.all_eq_true]at z;simpa using z.1 j hj
  refine k _ _ _ (S2.take (i:=i) (l:=l) (vs:=.dK []) (ds:=.dct []) (by simp) (by simpa using hs.1.2) (λj hj=>?_) (by rw[hP];simpa using hs.2) zc (S.new0 hl) q0y ?_ (λj hj=>notown j (hO' j hj)) (λj hj=>(List.mem_filter.mp hj).1) (.dct .nil)) s2
  ·by_cases z:j=i
   ·exact .inl z
   ·exact .inr (List.mem_filter.mpr ⟨hj,by simpa using z⟩)
  ·unfold frzR;rw[if_neg ?_]
   ·exact S.out hl
   ·rintro⟨j,hj,_,z⟩;exact notown j hj z
 ·cases e
def qdm(gs:List (Key×D))(k:Int)(d:D):Option (List (Key×D)):=if gs.length<sizeLine/\(gs.all λg=>!decide (g.1=Sum.inl k))=true then some (gs++[(.inl k,d)])else none
def qau(i:Nat)(fe fi:RhD):RhO:=λρ=>match fe ρ with
 |none=>none
 | some (d,ρ1)=>match fi ρ1 with
  | some (.int k,ρ2)=>match ρ2[i]? with
   | some (some (.dct gs))=>match qdm gs k d with
    |some gs'=>some (.nx (ρ2.set i (some (.dct gs'))))
    |none=>none
   |_=>none
  |_=>none
theorem qn8{i:Nat}(hi:i∈O)(he:ME c.K O te fe)(hx:ME c.K O ti fi)(hs:subO c O O'=true):MS c O O' (tAsg te (gSub (tVar i) ti qq9)) (qau i fe fi):=λZ E σ H R ρ o hP S e k=>by
 unfold qau at e;cases e1:fe ρ with
 |none=>rw[e1]at e;cases e
 | some p=>
  obtain⟨d,ρ1⟩:=p;rw[e1]at e;dsimp only at e;cases e2:fi ρ1 with
  |none=>rw[e2]at e;cases e
  | some p=>
   obtain⟨x,ρ2⟩:=p;rw[e2]at e;refine he Z σ H R ρ d ρ1 _ S e1 λv H1 R1 S1 st1 r1=>?_;obtain⟨l,vs,ds,h1,h2,h3,h4,h5⟩:=S1.own i hi;refine⟨.ref l,h2,hx Z σ H1 R1 ρ1 x ρ2 _ S1 e2 λw H2 R2 S2 st2 r2=>?_⟩;obtain⟨l',vs',ds',g1,g2,g3,g4,g5⟩:=S2.own i hi;rw[h2]at g2;cases g2;cases r2 with
   | int j=>
    dsimp only at e;rw[g1]at e;cases g5 with
    |lst _=>cases e
    |dit _=>cases e
    |dct g5=>
    rename_i kvs gs;dsimp only at e;cases e3:qdm gs j d with
    |none=>rw[e3]at e;cases e
    | some m=>
     rw[e3]at e;cases e;unfold qdm at e3;split at e3
     ·rename_i hz;cases e3;refine⟨l,kvs,j,rfl,rfl,g3,by rw[g5.length];exact hz.1,by
            unfold isIn;rw[g5.keys];intro hm;obtain⟨g,hg,eg⟩:=List.mem_map.mp hm;have:=List.all_eq_true.mp hz.2 g hg;simp[eg]at this,?_⟩
      obtain⟨S3,s3⟩:=(S2.write hi h2 (.dct (g5.snoc (r1.mono st2.r)))).sub' hP hs;exact k σ _ _ S3 ((st1.r.trans st2.r).trans s3)
     ·cases e3
   |_=>cases e
theorem qny{i:Nat}{ρ:Rho}(h:i<ρ.length):qav i ρ=some (.nx (ρ.set i (some (.dct [])))):=by unfold qav;rw[if_pos h]
theorem qnw{i:Nat}{ρ ρ1 ρ2:Rho}{d:D}{k:Int}{gs gs':List (Key×D)}(h1:fe ρ=some (d,ρ1))(h2:fi ρ1=some (.int k,ρ2))(h3:ρ2[i]? =some (some (.dct gs)))(h4:qdm gs k d=some gs'):qau i fe fi ρ=some (.nx (ρ2.set i (some (.dct gs')))):=by unfold qau;simp only[h1,h2,h3,h4]
end
theorem qnb{K:FrG}{O:List Nat}{ta:TE}{fa:RhD}(h:ME K O ta fa):MN K O (qpf K ta) (mRev fa):=λZ σ H R ρ ds ρ' Q S e k=>by
 obtain⟨x,ρ1,e1,e⟩:=q0c e;obtain⟨e3,rfl⟩:=q0l e;refine h Z σ H R ρ x _ _ S e1 λv H1 R1 S1 st1 r1=>?_;unfold revO at e3;split at e3
 ·cases e3;obtain⟨b,xs,rfl,q,r⟩:=r1.isL;refine⟨b,xs,rfl,Same.sqL S1.sub q,λl hl=>?_⟩;have x:=Ext.hid (o:=.lst xs.reverse) S1.sub hl;exact k l xs.reverse _ _ (S1.ext x) (st1.trans x.stp) (st1.new hl) q0y (S1.out hl) r.rev
 ·cases e3
section
variable{X:Cx}{K:FrG}{O:List Nat}{a:Expr}{ta:TE}{p p2 pos zo:Pos}{fa:RhD}
def ups(n:Int):List Int:=(List.range n.toNat).map λ(i:Nat)=>(i:Int)
def qpe(ta:TE):TE:=λσ H Q=>ta σ H λv H1=>∃n:Int,[v]=[V.int n]/\0<=n/\n<=1000000/\∀q,H1 q=none->Q (.ref q) (upd H1 q (.lst ((ups n).map V.int)))
theorem qhz{acc:List Value}{ns:List Int}(hl:acc.length=ns.length)(h:∀(i:Nat) (v:Value),acc[i]? =some v->∃t,v=Value.int (ns.getD i 0) t):Vals (ns.map V.int) acc:=by
 induction acc generalizing ns with
 | nil=>
  cases ns with
  |nil=>exact .nil
  |cons n ns=>simp at hl
 | cons v r ih=>
  cases ns with
  |nil=>simp at hl
  | cons n ns=>
   refine .cons ?_ (ih (by simpa using hl) λi w e=>?_)
   ·obtain⟨t,e⟩:=h 0 v rfl;exact⟨t,e⟩
   ·obtain⟨t,e⟩:=h (i+1) w (by simpa using e);exact⟨t,by simpa using e⟩
theorem qfs(hc:X.calm=true)(hg:Gl X "list")(hm:X.mg "list"=none)(hg2:Gl X "range")(hm2:X.mg "range"=none)(ha:PE X a ta)(he2:starEach [a] X.env=(false,eval a X.env)::starEach [] X.env:=by rfl)(hpl2:(backTo pos (starEach [] X.env)).any (·.1)=false:=by rfl)
 (he:starEach [.Call (.Name "range" p) [a] [] pos] X.env=(false,eval (.Call (.Name "range" p) [a] [] pos) X.env)::starEach [] X.env:=by rfl) (hpl:(backTo zo (starEach [] X.env)).any (·.1)=false:=by rfl):
 PE X (.Call (.Name "list" p2) [.Call (.Name "range" p) [a] [] pos] [] zo) (qpe ta):=by
 intro z5 s σ H Q I h;refine xr (q4k I hg hm (u:=.type "list") (by rfl) ?_);refine PyProof.Rows.callWith_type1 ?_ he hpl;rw[he];show wpAny _ _ (spliced ((false,eval (.Call (.Name "range" p) [a] [] pos) X.env)::backTo zo (starEach [] X.env))) _ _ s;refine Calls.spliced_cons ?_;refine xr (q4k I hg2 hm2 (u:=.type "range") (by rfl) ?_);refine PyProof.Rows.callWith_type1 (thn ((q00 ha q05 he2) pos z5 s σ H (λvs H1=>∃n:Int,vs=[V.int n]/\0<=n/\n<=1000000/\∀q,H1 q=none->Q (.ref q) (upd H1 q (.lst ((ups n).map V.int)))) I h) λus s1 h1=>?_) he2 hpl2;obtain⟨vs,H1,I1,r1,n,rfl,n0,n1,k⟩:=h1;obtain⟨u,rfl,ru⟩:=vals1 r1;obtain⟨t,rfl⟩:=ru;refine call_range_1 (Calls.spliced_nil ?_);have sz:Builtin.Range.rangeSize 0 n 1=(n.toNat:Int):=by rw[rangeSize_one];split<;>omega
 refine call_list_range (n := n.toNat) (I1.ok.hd hc) (IsRange.new ..) (small_one (by omega) (by omega) (by omega) (by omega)) sz (by have:(2:Nat)^24=16777216:=by decide
                                                                                                                                     omega) λh' tk acc c' kp e i=>?_
 have hf:H1 (s1.heap.push {cls:=.type "range",data:=.fields #[.int 0 s1.toks,.int n t,.int 1 (s1.toks+1)]}).objs.size=none:=I1.hok.fresh (by rw[xg];exact Nat.le_succ _);refine⟨.ref _,_,?_,rfl,k _ hf⟩;refine I1.laid (t':=tk) (λb o eb=>kp b o (jb _ eb)) (by rw[xg];exact Nat.le_succ _) ?_;have hsl:=sizeLine_eq;refine⟨by simp only[ups,List.length_map,List.length_range];omega,acc.toList,c',qhz (by have:=i.1;simp[ups];omega) λj v ev=>?_,by rw[e]⟩;have ev':acc[j]? =some v:=by simpa using ev
 obtain⟨t',e'⟩:=i.2 j v ev';have hj:j<n.toNat:=by have:=(Array.getElem?_eq_some_iff.mp ev').1;have:=i.1;omega
 refine⟨t',?_⟩;rw[e'];simp[ups,List.getD_eq_getElem?_getD,hj]
def upsO:D->Option (List D)
 |.int n=>if 0<=n/\n<=1000000 then some ((ups n).map D.int)else none
 |_=>none
theorem qgd(h:ME K O ta fa):MN K O (qpe ta) (q6s upsO fa):=λZ σ H R ρ ds ρ' Q S e k=>by
 obtain⟨x,ρ1,e1,e⟩:=q0c e;obtain⟨e3,rfl⟩:=q0l e;refine h Z σ H R ρ x _ _ S e1 λv H1 R1 S1 st1 r1=>?_;unfold upsO at e3;split at e3
 ·rename_i n;split at e3
  ·rename_i hn;cases e3;obtain rfl:=r1.isI;refine⟨n,rfl,hn.1,hn.2,λl hl=>?_⟩;have x:=Ext.hid (o:=.lst ((ups n).map V.int)) S1.sub hl;exact k l _ _ _ (S1.ext x) (st1.trans x.stp) (st1.new hl) q0y (S1.out hl) (Rps.ints _)
  ·cases e3
 ·cases e3
end
end L2
namespace L2
open PySem
abbrev Mv:=Int×Int
abbrev Sx:=List (List Mv)
abbrev Rw:=List (Option Int)
def atR(t:Rw)(room:Int):Option Int:=(t[room.toNat]?).join
def q1k(q:Mv)(za:Rw):Option Int:=(atR za q.1).map λx=>q.2+x
def q28(ch:List Mv)(za:Rw):Option Int:=minI ((ch.map λq=>q1k q za).filterMap id)
def q0i:List Sx->Rw->List Rw
 |[],z9=>[z9]
 |st::rest,z9=>(st.map λch=>q28 ch ((q0i rest z9).headD []))::q0i rest z9
def chAt(st:Sx)(room:Int):List Mv:=st.getD room.toNat []
def q47:List Sx->Rw->Int->List Int->Option Int
 |[],z9,room,_=>atR z9 room
 | st::rest,z9,room,b::bs=>match (chAt st room)[b.toNat]? with
  |some q=>(q47 rest z9 q.1 bs).map λx=>q.2+x
  |none=>none
 |_::_,_,_,[]=>none
def q4l(st:Sx)(t t':Rw)(room:Int):Int:=if q1k ((chAt st room).getD 0 (0,0)) t'=atR t room then 0 else 1
def q30:Nat->List Sx->List Rw->Int->List Int
 |0,_,_,_=>[]
 |_+1,[],_,_=>[]
 |_+1,_::_,[],_=>[]
 |n+1,st::rest,t::ts,room=>q4l st t (ts.headD []) room::q30 n rest ts ((chAt st room).getD (q4l st t (ts.headD []) room).toNat (0,0)).1
theorem q9w(st:Sx)(rest:List Sx)(z9:Rw)(room b:Int)(bs:List Int):q47 (st::rest) z9 room (b::bs)=match (chAt st room)[b.toNat]? with
 |some q=>(q47 rest z9 q.1 bs).map λx=>q.2+x
 |none=>none:=rfl
theorem q4h(n:Nat)(st:Sx)(rest:List Sx)(t:Rw)(ts:List Rw)(room:Int):q30 (n+1) (st::rest) (t::ts) room=q4l st t (ts.headD []) room::q30 n rest ts ((chAt st room).getD (q4l st t (ts.headD []) room).toNat (0,0)).1:=rfl
theorem q53:∀(z6:List Sx) (z9:Rw),(q0i z6 z9).length=z6.length+1
 |[],_=>rfl
 | _::rest,z9=>by unfold q0i;rw[jq,q53 rest z9,jq]
theorem q3d:∀(z6:List Sx) (z9:Rw) (k:Nat),k<=z6.length->(q0i z6 z9).drop k=q0i (z6.drop k) z9
 |_,_,0,_=>rfl
 |[],_,k+1,h=>by simp at h
 | _::rest,z9,k+1,h=>by show(q0i rest z9).drop k=q0i (rest.drop k) z9;exact q3d rest z9 k (by simpa using h)
theorem q7n{ch:List Mv}{za:Rw}{q:Mv}{x:Int}(h:q∈ch)(e:q1k q za=some x):x∈(ch.map λq=>q1k q za).filterMap id:=by rw[List.mem_filterMap];exact⟨some x,List.mem_map.mpr ⟨q,h,e⟩,rfl⟩
theorem q9c{st:Sx}{f:List Mv->Option Int}{room:Int}{ch:List Mv}(h:st[room.toNat]? =some ch):atR (st.map f) room=f ch:=by unfold atR;rw[jc,h];rfl
theorem q4w{st:Sx}{room:Int}{ch:List Mv}(h:st[room.toNat]? =some ch):chAt st room=ch:=by unfold chAt;rw[jv,h];rfl
theorem qoe{st:Sx}{room:Int}{i:Nat}{q:Mv}(h:(chAt st room)[i]? =some q):st[room.toNat]? =some (chAt st room):=by
 unfold chAt at h ⊢;rw[jv]at h ⊢;cases e:st[room.toNat]? with
 |none=>rw[e]at h;simp at h
 |some ch=>rfl
theorem q71:∀(z6:List Sx) (z9:Rw) (room:Int) (us:List Int) (c:Int),q47 z6 z9 room us=some c->∃m,atR ((q0i z6 z9).headD []) room=some m/\m<=c
 |[],z9,room,us,c,h=>⟨c,h,Int.le_refl _⟩
 |st::rest,z9,room,[],c,h=>by cases h
 | st::rest,z9,room,b::bs,c,h=>by
  unfold q47 at h;cases e:(chAt st room)[b.toNat]? with
  |none=>rw[e]at h;cases h
  | some q=>
   rw[e]at h;simp only at h;cases e1:q47 rest z9 q.1 bs with
   |none=>rw[e1]at h;cases h
   | some c1=>
    rw[e1]at h;cases h;obtain⟨m1,h1,h2⟩:=q71 rest z9 q.1 bs c1 e1;have hc:q1k q ((q0i rest z9).headD [])=some (q.2+m1):=by unfold q1k;rw[h1];rfl
    have hm:=q7n (xv e) hc;show∃m,atR (st.map λch=>q28 ch ((q0i rest z9).headD [])) room=some m/\_;rw[q9c (qoe e)];unfold q28;cases e2:minI (((chAt st room).map λq=>q1k q ((q0i rest z9).headD [])).filterMap id)with
    |none=>rw[qa3 e2]at hm;cases hm
    | some m=>
     have:=(qb8 e2).2 _ hm;exact⟨m,rfl,by show m<=q.2+c1;omega⟩
def OkS(M:Nat):Nat->List Sx->Prop
 |_,[]=>True
 |n,st::rest=>st.length=M/\(∀ch∈st,ch.length=(if n=0 then 1 else 2)/\∀q∈ch,0<=q.1/\q.1.toNat<M)/\OkS M (n-1) rest
def q58(k:Nat):List Int:=List.replicate k 0
theorem q8g(a:Int)(xs ys:List Int):HT.lexLt (a::xs) (a::ys)=HT.lexLt xs ys:=by rw[HT.lexLt_cons,if_pos rfl]
theorem qds{q:Mv}{za:Rw}:q28 [q] za=q1k q za:=by
 unfold q28;cases h:q1k q za with
 |none=>simp[h];rfl
 | some x=>
  simp[h];exact qnd (by simp) (by simp)
theorem qi5{q0 q1:Mv}{za:Rw}{m:Int}(h:q28 [q0,q1] za=some m):(q1k q0 za=some m∨q1k q1 za=some m)/\(∀x,q1k q0 za=some x->m<=x)/\∀x,q1k q1 za=some x->m<=x:=by
 unfold q28 at h;obtain⟨h1,h2⟩:=qb8 h;refine⟨?_,λx hx=>h2 x (q7n (by simp) hx),λx hx=>h2 x (q7n (by simp) hx)⟩;rw[List.mem_filterMap]at h1;obtain⟨o,ho,eo⟩:=h1;have eo:o=some m:=eo;subst eo;simp at ho;rcases ho with ho|ho
 ·exact .inl ho.symm
 ·exact .inr ho.symm
theorem qkx{α:Type}{xs:List α}(h:xs.length=2):∃a b,xs=[a,b]:=by
 match xs,h with
 |[a,b],_=>exact⟨a,b,rfl⟩
theorem q61(M:Nat):∀(z6:List Sx) (n:Nat) (z9:Rw) (room:Int) (m:Int),OkS M n z6->n<=z6.length->(0<=room/\room.toNat<M)->atR ((q0i z6 z9).headD []) room=some m->
 Bits (q30 n z6 (q0i z6 z9) room)/\(q30 n z6 (q0i z6 z9) room).length=n/\q47 z6 z9 room (q30 n z6 (q0i z6 z9) room++q58 (z6.length-n))=some m/\
 ∀w,Bits w->w.length=n->q47 z6 z9 room (w++q58 (z6.length-n))=some m->HT.lexLt w (q30 n z6 (q0i z6 z9) room)=false
 |[],0,z9,room,m,_,_,_,h=>⟨λb h=>(nomatch h),rfl,h,λw _ hw _=>by rw[List.eq_nil_of_length_eq_zero hw];rfl⟩
 |[],n+1,_,_,_,_,hn,_,_=>by simp at hn
 | st::rest,0,z9,room,m,ok,_,hr,h=>by
  obtain⟨o1,o2,o3⟩:=ok;have hlt:room.toNat<st.length:=by rw[o1];exact hr.2
  have es:st[room.toNat]? =some st[room.toNat]:=jd hlt;obtain⟨c1,c2⟩:=o2 _ (xc hlt);rw[if_pos rfl]at c1;obtain⟨q,eq⟩:=List.length_eq_one_iff.mp c1;have h:atR (st.map λch=>q28 ch ((q0i rest z9).headD [])) room=some m:=h;rw[q9c es,eq,qds]at h;unfold q1k at h;cases e1:atR ((q0i rest z9).headD []) q.1 with
  |none=>rw[e1]at h;cases h
  | some m1=>
   rw[e1]at h;cases h;have hq:=c2 q (by rw[eq];simp);obtain⟨_,_,g3,_⟩:=q61 M rest 0 z9 q.1 m1 (by simpa using o3) (Nat.zero_le _) hq e1;refine⟨λb h=>(nomatch h),rfl,?_,λw _ hw _=>by rw[List.eq_nil_of_length_eq_zero hw];rfl⟩;show q47 (st::rest) z9 room ([]++q58 (rest.length+1-0))=_;have ez:q58 (rest.length+1-0)=0::q58 rest.length:=rfl;rw[List.nil_append,ez];unfold q47;rw[q4w es,eq];simp only[Int.toNat_zero,List.getElem?_cons_zero];have g3:q47 rest z9 q.1 ([]++q58 (rest.length-0))=some m1:=g3;rw[List.nil_append,Nat.sub_zero]at g3;rw[g3];rfl
 | st::rest,n+1,z9,room,m,ok,hn,hr,h=>by
  obtain⟨o1,o2,o3⟩:=ok;have hlt:room.toNat<st.length:=by rw[o1];exact hr.2
  have es:st[room.toNat]? =some st[room.toNat]:=jd hlt;obtain⟨c1,c2⟩:=o2 _ (xc hlt);rw[if_neg (by omega)]at c1;obtain⟨q0,q1,eq⟩:=qkx c1;have h0:atR (st.map λch=>q28 ch ((q0i rest z9).headD [])) room=some m:=h;rw[q9c es,eq]at h0;obtain⟨t1,t2,t3⟩:=qi5 h0;have ech:chAt st room=[q0,q1]:=by rw[q4w es,eq]
  have hq0:=c2 q0 (by rw[eq];simp);have hq1:=c2 q1 (by rw[eq];simp);have hn':n<=rest.length:=by simpa using hn
  have ln:(st::rest).length-(n+1)=rest.length-n:=by simp
  have hd:(q0i (st::rest) z9)=(st.map λch=>q28 ch ((q0i rest z9).headD []))::q0i rest z9:=rfl;have ea:atR (st.map λch=>q28 ch ((q0i rest z9).headD [])) room=some m:=h;rw[ln,hd];have o3:OkS M n rest:=by simpa using o3
  have pc:∀(b:Int) (bs:List Int) (q:Mv),[q0,q1][b.toNat]? =some q->q47 (st::rest) z9 room (b::bs)=(q47 rest z9 q.1 bs).map λx=>q.2+x:=λb bs q e=>by rw[q9w,ech,e]
  by_cases z:q1k q0 ((q0i rest z9).headD [])=some m
  ·have eb:q4l st (st.map λch=>q28 ch ((q0i rest z9).headD [])) ((q0i rest z9).headD []) room=0:=by
    unfold q4l;rw[ech,ea];exact if_pos z
   have eg:q30 (n+1) (st::rest) ((st.map λch=>q28 ch ((q0i rest z9).headD []))::q0i rest z9) room=0::q30 n rest (q0i rest z9) q0.1:=by rw[q4h,eb,ech];rfl
   rw[eg];unfold q1k at z;cases e1:atR ((q0i rest z9).headD []) q0.1 with
   |none=>rw[e1]at z;cases z
   | some m1=>
    rw[e1]at z;have z:q0.2+m1=m:=je z;obtain⟨g1,g2,g3,g4⟩:=q61 M rest n z9 q0.1 m1 o3 hn' hq0 e1;refine⟨λb hb=>?_,by rw[jq,g2],?_,λw hw lw pw=>?_⟩
    ·rcases List.mem_cons.mp hb with rfl|hb
     ·exact .inl rfl
     ·exact g1 b hb
    ·rw[List.cons_append,pc 0 _ q0 rfl,g3];exact congrArg some z
    ·cases w with
     |nil=>simp at lw
     | cons b bs=>
      have hbs:Bits bs:=λx hx=>hw x (jj _ hx);have lbs:bs.length=n:=by simpa using lw
      rcases hw b jg with rfl|rfl
      ·rw[q8g];rw[List.cons_append,pc 0 _ q0 rfl]at pw;refine g4 bs hbs lbs ?_;cases e2:q47 rest z9 q0.1 (bs++q58 (rest.length-n))with
       |none=>rw[e2]at pw;cases pw
       | some c=>
        rw[e2]at pw;have pw:q0.2+c=m:=je pw;congr 1;omega
      ·rw[HT.lexLt_cons,if_neg (by decide)];decide
  ·have z1:q1k q1 ((q0i rest z9).headD [])=some m:=t1.resolve_left z;have eb:q4l st (st.map λch=>q28 ch ((q0i rest z9).headD [])) ((q0i rest z9).headD []) room=1:=by
    unfold q4l;rw[ech,ea];exact if_neg z
   have eg:q30 (n+1) (st::rest) ((st.map λch=>q28 ch ((q0i rest z9).headD []))::q0i rest z9) room=1::q30 n rest (q0i rest z9) q1.1:=by rw[q4h,eb,ech];rfl
   rw[eg];unfold q1k at z1;cases e1:atR ((q0i rest z9).headD []) q1.1 with
   |none=>rw[e1]at z1;cases z1
   | some m1=>
    rw[e1]at z1;have z1:q1.2+m1=m:=je z1;obtain⟨g1,g2,g3,g4⟩:=q61 M rest n z9 q1.1 m1 o3 hn' hq1 e1;refine⟨λb hb=>?_,by rw[jq,g2],?_,λw hw lw pw=>?_⟩
    ·rcases List.mem_cons.mp hb with rfl|hb
     ·exact .inr rfl
     ·exact g1 b hb
    ·rw[List.cons_append,pc 1 _ q1 rfl,g3];exact congrArg some z1
    ·cases w with
     |nil=>simp at lw
     | cons b bs=>
      have hbs:Bits bs:=λx hx=>hw x (jj _ hx);have lbs:bs.length=n:=by simpa using lw
      rcases hw b jg with rfl|rfl
      ·exfalso;rw[List.cons_append,pc 0 _ q0 rfl]at pw;cases e2:q47 rest z9 q0.1 (bs++q58 (rest.length-n))with
       |none=>rw[e2]at pw;cases pw
       | some c=>
        rw[e2]at pw;have pw:q0.2+c=m:=je pw;obtain⟨m0,h1,h2⟩:=q71 rest z9 q0.1 _ c e2;have hc:q1k q0 ((q0i rest z9).headD [])=some (q0.2+m0):=by unfold q1k;rw[h1];rfl
        have:=t2 _ hc;have e3:q0.2+m0=m:=by omega
        exact z (by rw[hc,e3])
      ·rw[q8g];rw[List.cons_append,pc 1 _ q1 rfl]at pw;refine g4 bs hbs lbs ?_;cases e2:q47 rest z9 q1.1 (bs++q58 (rest.length-n))with
       |none=>rw[e2]at pw;cases pw
       | some c=>
        rw[e2]at pw;have pw:q1.2+c=m:=je pw;congr 1;omega
end L2
namespace L2
open PySem
theorem qci:∀a b:List Int,HT.lexLt a b=false->HT.lexLt b a=false->a=b
 |[],[],_,_=>rfl
 |[],_::_,h,_=>by cases h
 |_::_,[],_,h=>by cases h
 | x::xs,y::ys,h,g=>by
  rw[HT.lexLt_cons]at h g;by_cases q:x=y
  ·rw[if_pos q]at h;rw[if_pos q.symm]at g;rw[q,qci xs ys h g]
  ·rw[if_neg q]at h;rw[if_neg λz=>q z.symm]at g;simp only[decide_eq_false_iff_not]at h g;omega
theorem qqf{x y:Int×List Int}(h:qLt x y=false)(g:qLt y x=false):x=y:=by
 unfold qLt q6m at h g;by_cases q:x.1=y.1
 ·rw[if_pos q]at h;rw[if_pos q.symm]at g;exact Prod.ext q (qci _ _ h g)
 ·rw[if_neg q]at h;rw[if_neg λz=>q z.symm]at g;simp only[decide_eq_false_iff_not]at h g;omega
theorem qfl{x y z:Int×List Int}(h:qLt x y=false)(g:qLt y z=false):qLt x z=false:=by
 cases q:qLt x z with
 |false=>rfl
 | true=>
  have e:=qqf h (qfm x z y q g);rw[e,g]at q;cases q
structure Near(n:Nat)(cost:List Int->Int)(x:Int×List Int):Prop where
 bits:Bits x.2
 len:x.2.length=n
 val:x.1=cost x.2
 least:∀w,Bits w->w.length=n->qLt (cost w,w) x=false
section
variable(r:Int)(taps:List Int)(rows:List (List Int))(e:Str)(ts:List Told)(n:Nat)
def chunk(k:Nat):List Told:=(ts.drop (q0e taps rows k).length).take (selK taps rows k).length
def mvK(k:Nat)(room bit:Int):Mv:=((2*room+bit) % 2^r.toNat,q4t (chunk taps rows ts k) (q38 (rowAt rows k) (taps.map (sgn (2*room+bit)))))
def q2e(k:Nat):List Int:=if k<n then [0,1]else [0]
def stepK(k:Nat):Sx:=(List.range (2^r.toNat)).map λ(room:Nat)=>(q2e n k).map λb=>mvK r taps rows ts k (room:Int) b
def q18(k len:Nat):List Sx:=(List.range' k len).map (stepK r taps rows ts n)
def q33(s:Int):Rw:=(List.range (2^r.toNat)).map λ(room:Nat)=>if e="open"∨(room:Int)=(if e="ring" then s else 0)then some 0 else none
def q97(w:List Int):Int:=q4t ts (qd5 r.toNat taps rows (frst r e w) (q5q r e w))
end
section
variable{r:Int}{taps:List Int}{rows:List (List Int)}{e:Str}{ts:List Told}{n:Nat}
theorem q4d(k len:Nat):q18 r taps rows ts n k (len+1)=stepK r taps rows ts n k::q18 r taps rows ts n (k+1) len:=by unfold q18;rw[List.range'_succ];rfl
theorem q29:((2^r.toNat:Nat):Int)=(2:Int)^r.toNat:=by rw[Int.natCast_pow];rfl
theorem q4p:∀(len k:Nat),OkS (2^r.toNat) (n-k) (q18 r taps rows ts n k len)
 |0,k=>True.intro
 | len+1,k=>by
  rw[q4d];refine⟨by unfold stepK;simp,λch hch=>?_,by rw[Nat.sub_sub];exact q4p len (k+1)⟩;unfold stepK at hch;obtain⟨room,hr,rfl⟩:=List.mem_map.mp hch;refine⟨?_,λq hq=>?_⟩
  ·unfold q2e;by_cases h:k<n
   ·rw[if_pos h,if_neg (by omega)];rfl
   ·rw[if_neg h,if_pos (by omega)];rfl
  ·obtain⟨b,_,rfl⟩:=List.mem_map.mp hq;have h1:(0:Int)<2^r.toNat:=Int.pow_pos (by decide);have h2:=Int.emod_nonneg (2*(room:Int)+b) (by omega:(2:Int)^r.toNat≠0);have h3:=Int.emod_lt_of_pos (2*(room:Int)+b) h1;have h4:=q29 (r:=r);refine⟨h2,?_⟩;show((2*(room:Int)+b) % 2^r.toNat).toNat<_;omega
theorem qhe{k:Nat}{room:Int}(h0:0<=room)(h1:room<2^r.toNat):chAt (stepK r taps rows ts n k) room=(q2e n k).map λb=>mvK r taps rows ts k room b:=by
 have h4:=q29 (r:=r);have lt:room.toNat<2^r.toNat:=by omega
 refine q4w ?_;unfold stepK;rw[jc,xq lt];simp only[Option.map_some,Int.toNat_of_nonneg h0]
theorem q8w{a:Int}{u:List Int}(ha:0<=a/\a<2^r.toNat)(hb:Bits u)(hz:∀k b,n<=k->u[k]? =some b->b=0)(z9:Rw):∀(len k:Nat),k+len=u.length->
 q47 (q18 r taps rows ts n k len) z9 (endR (2^r.toNat) a (u.take k)) (u.drop k)=(atR z9 (endR (2^r.toNat) a u)).map λx=>((List.range' k len).map λj=>q4t (chunk taps rows ts j) (q44 r.toNat taps rows a u j)).sum+x
 | 0,k,h=>by
  have e1:u.take k=u:=List.take_of_length_le (by omega);rw[e1];show atR z9 _=_;cases atR z9 (endR (2^r.toNat) a u)with
  |none=>rfl
  |some x=>simp
 | len+1,k,h=>by
  have lt:k<u.length:=by omega
  have ek:u[k]? =some u[k]:=jd lt;have mp:(0:Int)<2^r.toNat:=Int.pow_pos (by decide);have hr:=q4s mp (u.take k) a ha;rw[q4d,xl lt,q9w,qhe hr.1 hr.2];have eb:((q2e n k).map λb=>mvK r taps rows ts k (endR (2^r.toNat) a (u.take k)) b)[u[k].toNat]? =some (mvK r taps rows ts k (endR (2^r.toNat) a (u.take k)) u[k]):=by
   unfold q2e;by_cases h1:k<n
   ·rw[if_pos h1];rcases hb _ (xc lt)with z|z
    ·rw[z];rfl
    ·rw[z];rfl
   ·have z:=hz k _ (by omega) ek;rw[if_neg h1,z];rfl
  rw[eb];simp only;have en:(mvK r taps rows ts k (endR (2^r.toNat) a (u.take k)) u[k]).1=endR (2^r.toNat) a (u.take (k+1)):=by rw[take_snoc ek,qac];show(2*_+u[k]) % _=_;congr 1;omega
  rw[en,q8w ha hb hz z9 len (k+1) (by omega),Option.map_map];have es:(mvK r taps rows ts k (endR (2^r.toNat) a (u.take k)) u[k]).2=q4t (chunk taps rows ts k) (q44 r.toNat taps rows a u k):=by unfold q44;rw[jv,ek];rfl
  rw[es,List.range'_succ,ju,List.sum_cons];congr 1;funext x;show _+(_+x)=_;omega
theorem qha{a b:List Told}{c d:List Int}(h:a.length=c.length):q4t (a++b) (c++d)=q4t a c+q4t b d:=by unfold q4t;rw[List.zip_append h,x8,List.sum_append]
theorem qd7{a:Int}{u:List Int}{m:Nat}(k:Nat):(q44 m taps rows a u k).length=(selK taps rows k).length:=by unfold q44;rw[q5x,j7];rfl
theorem q3x(N:Nat):(q0e taps rows (N+1)).length=(q0e taps rows N).length+(selK taps rows N).length:=by unfold q0e;rw[q2h,jh,ji]
theorem qa9{m:Nat}{a:Int}{u:List Int}:∀N,((List.range N).flatMap (q44 m taps rows a u)).length=(q0e taps rows N).length
 |0=>rfl
 |N+1=>by rw[q2h,jh,qa9 N,qd7,q3x]
theorem q8i{m:Nat}{a:Int}{u:List Int}:∀N,(q0e taps rows N).length<=ts.length->q4t (ts.take (q0e taps rows N).length) ((List.range N).flatMap (q44 m taps rows a u))=((List.range' 0 N).map λj=>q4t (chunk taps rows ts j) (q44 m taps rows a u j)).sum
 |0,_=>rfl
 | N+1,h=>by
  rw[q3x]at h;have e1:ts.take (q0e taps rows (N+1)).length=ts.take (q0e taps rows N).length++chunk taps rows ts N:=by rw[q3x,List.take_add];rfl
  rw[e1,q2h,qha (by rw[xh,qa9];omega),q8i N (by omega),List.range'_concat,x8,List.sum_append];simp
theorem qhy{a:Int}{u:List Int}(hl:ts.length=(q0e taps rows u.length).length):q4t ts (qd5 r.toNat taps rows a u)=((List.range' 0 u.length).map λj=>q4t (chunk taps rows ts j) (q44 r.toNat taps rows a u j)).sum:=by have h:=q8i (ts:=ts) (taps:=taps) (rows:=rows) (m:=r.toNat) (a:=a) (u:=u) u.length (by omega);rw[List.take_of_length_le (by omega)]at h;exact h
theorem q86{w:List Int}(hw:w.length=n):∀k b,n<=k->(w++List.replicate (q08 r e) 0)[k]? =some b->b=0:=λk b hk h=>by rw[xo (by omega)]at h;exact List.eq_of_mem_replicate (xv h)
theorem q9d{s room:Int}(h0:0<=room)(h1:room<2^r.toNat):atR (q33 r e s) room=if e="open"∨room=(if e="ring" then s else 0)then some 0 else none:=by
 have h4:=q29 (r:=r);have lt:room.toNat<2^r.toNat:=by omega
 unfold atR q33;rw[jc,xq lt];simp only[Option.map_some,Option.join_some,Int.toNat_of_nonneg h0]
theorem qcl(hb:∀w:List Int,Bits w->0<=writ w/\writ w<2^w.length)(w:List Int)(hw:Bits w)(hl:e="ring"->r.toNat<=w.length):0<=frst r e w/\frst r e w<2^r.toNat:=by
 unfold frst;by_cases h:e="ring"
 ·rw[if_pos h];have hd:Bits (w.drop (w.length-r.toNat)):=λb m=>hw b (List.mem_of_mem_drop m);have:=hb _ hd;rw[xp,show w.length-(w.length-r.toNat)=r.toNat from by have:=hl h;omega]at this;exact this
 ·rw[if_neg h];exact⟨Int.le_refl _,Int.pow_pos (by decide)⟩
theorem q9h{w:List Int}(hb:Bits w):Bits (w++List.replicate (q08 r e) 0):=q52 hb (q43 _)
theorem q73{w:List Int}(hb:Bits w)(hw:w.length=n)(hl:e="ring"->r.toNat<=n)(hen:e="open"∨e="ended"∨e="ring")(ht:ts.length=(q0e taps rows (n+q08 r e)).length):
 q47 (q18 r taps rows ts n 0 (n+q08 r e)) (q33 r e (frst r e w)) (frst r e w) (w++List.replicate (q08 r e) 0)=some (q97 r taps rows e ts w):=by
 have hf:=qcl (r:=r) (e:=e) q4m w hb (by rw[hw];exact hl);have lu:(w++List.replicate (q08 r e) 0).length=n+q08 r e:=by rw[jh,ji,hw]
 have h:=q8w (r:=r) (taps:=taps) (rows:=rows) (ts:=ts) (n:=n) hf (q9h (r:=r) (e:=e) hb) (q86 hw) (q33 r e (frst r e w)) (n+q08 r e) 0 (by omega);have h':q47 (q18 r taps rows ts n 0 (n+q08 r e)) (q33 r e (frst r e w)) (frst r e w) (w++List.replicate (q08 r e) 0)=_:=h;rw[h'];have mp:(0:Int)<2^r.toNat:=Int.pow_pos (by decide);have he:=q4s mp (w++List.replicate (q08 r e) 0) _ hf;rw[q9d he.1 he.2,if_pos]
 ·unfold q97;rw[q4i,qhy (by rw[lu];exact ht),lu];simp
 ·rcases hen with h1|h1|h1
  ·exact .inl h1
  ·refine .inr ?_;have h2:¬e="ring":=by rw[h1];decide
   have h3:q08 r e=r.toNat:=by unfold q08;rw[if_pos h1]
   rw[if_neg h2,h3];unfold frst;rw[if_neg h2];exact qh8 r.toNat w
  ·refine .inr ?_;have h2:¬e="ended":=by rw[h1];decide
   have h3:q08 r e=0:=by unfold q08;rw[if_neg h2]
   rw[if_pos h1,h3];simp only[List.replicate_zero,List.append_nil];unfold frst;rw[if_pos h1];exact qju r.toNat w hb (by rw[hw];exact hl h1)
theorem qbk:∀(m:Nat) (x:Int),0<=x->x<2^m->∃p:List Int,p.length=m/\Bits p/\writ p=x
 |0,x,h0,h1=>⟨[],rfl,λ_ h=>(nomatch h),by have:x<1:=h1;show(0:Int)=x;omega⟩
 | m+1,x,h0,h1=>by
  have h2:x / 2<2^m:=by rw[Int.pow_succ]at h1;omega
  obtain⟨p,p1,p2,p3⟩:=qbk m (x / 2) (by omega) h2;refine⟨p++[x % 2],by rw[jh,p1];rfl,q52 p2 λb hb=>?_,by rw[q5t,p3];omega⟩;rw[List.mem_singleton.mp hb];omega
theorem qib{w:List Int}{s:Int}(hb:Bits w)(hl:r.toNat<=w.length)(h0:0<=s)(h1:s<2^r.toNat)(h:endR (2^r.toNat) s w=s):writ (w.drop (w.length-r.toNat))=s:=by
 obtain⟨p,p1,p2,p3⟩:=qbk r.toNat s h0 h1;have g:=qcp r.toNat p w p1 p2 hb w.length (ja _);rw[List.take_length,p3,h]at g;rw[g];congr 1;have e1:(p++w).drop w.length=w.drop (w.length-r.toNat):=by rw[List.drop_append,List.drop_eq_nil_of_le (by omega),List.nil_append,p1]
 rw[e1,List.take_of_length_le (by rw[xp];omega)]
section
variable(r:Int)(taps:List Int)(rows:List (List Int))(e:Str)(ts:List Told)(n:Nat)
def q1g:List Int:=if e="ring" then(List.range (2^r.toNat)).map λ(k:Nat)=>(k:Int)else [0]
def q0z(s:Int):List Rw:=q0i (q18 r taps rows ts n 0 (n+q08 r e)) (q33 r e s)
def bestOf(s:Int):Int×List Int:=((atR ((q0z r taps rows e ts n s).headD []) s).getD 0,q30 n (q18 r taps rows ts n 0 (n+q08 r e)) (q0z r taps rows e ts n s) s)
def q3q:Int×List Int:=q4r ((q1g r e).map (bestOf r taps rows e ts n))
end
theorem q4n{s:Int}(h:s∈q1g r e):0<=s/\s<2^r.toNat:=by
 unfold q1g at h;by_cases q:e="ring"
 ·rw[if_pos q]at h;obtain⟨k,hk,rfl⟩:=List.mem_map.mp h;have:=List.mem_range.mp hk;have h4:=q29 (r:=r);omega
 ·rw[if_neg q]at h;rw[List.mem_singleton.mp h];exact⟨Int.le_refl _,Int.pow_pos (by decide)⟩
theorem q51{w:List Int}(hb:Bits w)(hl:e="ring"->r.toNat<=w.length):frst r e w∈q1g r e:=by
 have h:=qcl (r:=r) (e:=e) q4m w hb hl;unfold q1g;by_cases q:e="ring"
 ·rw[if_pos q];have h4:=q29 (r:=r);exact List.mem_map.mpr ⟨(frst r e w).toNat,List.mem_range.mpr (by omega),Int.toNat_of_nonneg h.1⟩
 ·rw[if_neg q];unfold frst;rw[if_neg q];simp
theorem qd2{s:Int}(h:s∈q1g r e)(hl:e="ring"->r.toNat<=n):∃w:List Int,Bits w/\w.length=n/\frst r e w=s:=by
 have hs:=q4n h;by_cases q:e="ring"
 ·obtain⟨p,p1,p2,p3⟩:=qbk r.toNat s hs.1 hs.2;have hn:=hl q;refine⟨List.replicate (n-r.toNat) 0++p,q52 (q43 _) p2,by rw[jh,ji,p1];omega,?_⟩;unfold frst;rw[if_pos q,jh,ji,p1,List.drop_append,List.drop_eq_nil_of_le (by rw[ji];omega),List.nil_append,ji,
   show n-r.toNat+r.toNat-r.toNat-(n-r.toNat)=0 from by omega,List.drop_zero,p3]
 ·unfold q1g at h;rw[if_neg q]at h;refine⟨List.replicate n 0,q43 _,ji,?_⟩;unfold frst;rw[if_neg q,List.mem_singleton.mp h]
theorem qft{w:List Int}{s c:Int}(hs:s∈q1g r e)(hb:Bits w)(hw:w.length=n)(hl:e="ring"->r.toNat<=n)(hen:e="open"∨e="ended"∨e="ring")(ht:ts.length=(q0e taps rows (n+q08 r e)).length)
 (h:q47 (q18 r taps rows ts n 0 (n+q08 r e)) (q33 r e s) s (w++List.replicate (q08 r e) 0)=some c):s=frst r e w/\c=q97 r taps rows e ts w:=by
 have h1:=q4n hs;have es:s=frst r e w:=by
  by_cases q:e="ring"
  ·have lu:(w++List.replicate (q08 r e) 0).length=n+q08 r e:=by rw[jh,ji,hw]
   have g:=q8w (r:=r) (taps:=taps) (rows:=rows) (ts:=ts) (n:=n) h1 (q9h (r:=r) (e:=e) hb) (q86 hw) (q33 r e s) (n+q08 r e) 0 (by omega);have g':q47 (q18 r taps rows ts n 0 (n+q08 r e)) (q33 r e s) s (w++List.replicate (q08 r e) 0)=_:=g;rw[g']at h;have mp:(0:Int)<2^r.toNat:=Int.pow_pos (by decide);have he:=q4s mp (w++List.replicate (q08 r e) 0) _ h1;have h2:¬e="ended":=by rw[q];decide
   have h5:¬e="open":=by rw[q];decide
   have h3:q08 r e=0:=by unfold q08;rw[if_neg h2]
   rw[q9d he.1 he.2]at h;by_cases z:e="open"∨endR (2^r.toNat) s (w++List.replicate (q08 r e) 0)=(if e="ring" then s else 0)
   ·rcases z with z|z
    ·exact absurd z h5
    ·rw[if_pos q,h3]at z;simp only[List.replicate_zero,List.append_nil]at z;unfold frst;rw[if_pos q];exact(qib hb (by rw[hw];exact hl q) h1.1 h1.2 z).symm
   ·rw[if_neg z]at h;cases h
  ·unfold q1g at hs;rw[if_neg q]at hs;unfold frst;rw[if_neg q];exact List.mem_singleton.mp hs
 refine⟨es,?_⟩;rw[es,q73 hb hw hl hen ht]at h;exact(je h).symm
theorem q81{s:Int}(hs:s∈q1g r e)(hl:e="ring"->r.toNat<=n)(hen:e="open"∨e="ended"∨e="ring")(ht:ts.length=(q0e taps rows (n+q08 r e)).length):
 atR ((q0z r taps rows e ts n s).headD []) s=some (bestOf r taps rows e ts n s).1/\Bits (bestOf r taps rows e ts n s).2/\(bestOf r taps rows e ts n s).2.length=n/\(bestOf r taps rows e ts n s).1=q97 r taps rows e ts (bestOf r taps rows e ts n s).2/\
 ∀w,Bits w->w.length=n->frst r e w=s->qLt (q97 r taps rows e ts w,w) (bestOf r taps rows e ts n s)=false:=by
 have h1:=q4n hs;obtain⟨w0,b0,l0,f0⟩:=qd2 hs hl;have p0:=q73 (taps:=taps) (rows:=rows) b0 l0 hl hen ht;rw[f0]at p0;obtain⟨m,hm,_⟩:=q71 _ _ _ _ _ p0;have hm:atR ((q0z r taps rows e ts n s).headD []) s=some m:=hm;have e1:(bestOf r taps rows e ts n s).1=m:=by unfold bestOf;rw[hm];rfl
 have ls:(q18 r taps rows ts n 0 (n+q08 r e)).length=n+q08 r e:=by unfold q18;rw[j7,List.length_range']
 have h4:=q29 (r:=r);obtain⟨g1,g2,g3,g4⟩:=q61 (2^r.toNat) (q18 r taps rows ts n 0 (n+q08 r e)) n (q33 r e s) s m (q4p (n:=n) (n+q08 r e) 0) (by rw[ls];omega) ⟨h1.1,by omega⟩ hm;have ez:q58 ((q18 r taps rows ts n 0 (n+q08 r e)).length-n)=List.replicate (q08 r e) 0:=by rw[ls,Nat.add_sub_cancel_left];rfl
 rw[ez]at g3 g4;obtain⟨_,c1⟩:=qft hs g1 g2 hl hen ht g3;refine⟨by rw[hm,e1],g1,g2,by rw[e1,c1];rfl,λw hb hw hf=>?_⟩;have pw:=q73 (taps:=taps) (rows:=rows) hb hw hl hen ht;rw[hf]at pw;obtain⟨m',hm',le⟩:=q71 _ _ _ _ _ pw;have hm':atR ((q0z r taps rows e ts n s).headD []) s=some m':=hm';rw[hm]at hm';cases hm';unfold qLt q6m;simp only;rw[e1];by_cases z:q97 r taps rows e ts w=m
 ·rw[if_pos z];exact g4 w hb hw (by rw[pw,z])
 ·rw[if_neg z];simp;omega
theorem qg8(hl:e="ring"->r.toNat<=n)(hen:e="open"∨e="ended"∨e="ring")(ht:ts.length=(q0e taps rows (n+q08 r e)).length):Near n (q97 r taps rows e ts) (q3q r taps rows e ts n):=by
 have hne:(q1g r e).map (bestOf r taps rows e ts n)≠[]:=by have h:=q51 (r:=r) (e:=e) (w:=List.replicate n 0) (q43 _) (by rw[ji];exact hl);intro z;rw[List.map_eq_nil_iff.mp z]at h;cases h
 obtain⟨h1,h2⟩:=q7s hne;obtain⟨s,hs,es⟩:=List.mem_map.mp h1;obtain⟨_,g1,g2,g3,_⟩:=q81 (ts:=ts) (taps:=taps) (rows:=rows) hs hl hen ht;have es:bestOf r taps rows e ts n s=q3q r taps rows e ts n:=es;rw[es]at g1 g2 g3;refine⟨g1,g2,g3,λw hb hw=>?_⟩;have hf:=q51 (r:=r) (e:=e) hb (by rw[hw];exact hl);obtain⟨_,_,_,_,g5⟩:=q81 (ts:=ts) (taps:=taps) (rows:=rows) hf hl hen ht;exact qfl (g5 w hb hw rfl) (h2 _ (List.mem_map.mpr ⟨_,hf,rfl⟩))
end
end L2
namespace L2
open PySem
def mvD(q:Mv):D:=.tup [.int q.1,.int q.2]
def chD(ch:List Mv):D:=.lst (ch.map mvD)
def sxD(st:Sx):D:=.lst (st.map chD)
def stD(z6:List Sx):D:=.lst (z6.map sxD)
def rwD(t:Rw):D:=.lst (t.map optI)
def tbD(t:List Rw):D:=.lst (t.map rwD)
def q4e{α:Type}(c:List (List α))(q:Int×α):List (List α):=c.set q.1.toNat (c.getD q.1.toNat []++[q.2])
theorem qbz{α:Type}(j:Nat):∀(xs:List α) (c:List (List α)),j<c.length->((List.replicate xs.length (j:Int)).zip xs).foldl q4e c=c.set j (c.getD j []++xs)
 | [],c,h=>by
  have e:c.set j (c.getD j []++[])=c:=by rw[List.append_nil,jv,jd h];exact List.set_getElem_self h
  rw[e];rfl
 | x::xs,c,h=>by
  have e1:((List.replicate (x::xs).length (j:Int)).zip (x::xs))=((j:Int),x)::(List.replicate xs.length (j:Int)).zip xs:=rfl;rw[e1,List.foldl_cons];have e2:q4e c ((j:Int),x)=c.set j (c.getD j []++[x]):=by unfold q4e;simp only[Int.toNat_natCast]
  rw[e2,qbz j xs _ (by rw[x9];exact h),List.set_set];congr 1;rw[jv,xf h];simp
theorem q8q{α β:Type}:∀{xs:List α} {ys zs:List β},xs.length=ys.length->xs.zip (ys++zs)=xs.zip ys
 |[],[],_,_=>rfl
 | x::xs,y::ys,zs,h=>by rw[List.cons_append,List.zip_cons_cons,List.zip_cons_cons,q8q (by simpa using h)]
 |[],_::_,_,h=>by simp at h
 |_::_,[],_,h=>by simp at h
section
variable{taps:List Int}{rows:List (List Int)}{ts:List Told}
theorem qc0(N:Nat):∀j,j<=N->(q0e taps rows j).length<=ts.length->((q0e taps rows j).zip ts).foldl q4e (List.replicate N [])=(List.range N).map λk=>if k<j then chunk taps rows ts k else []
 | 0,_,_=>by
  show List.replicate N []=_;apply List.ext_getElem?;intro i;by_cases h:i<N
  ·rw[jc,xq h,k6,if_pos h];simp
  ·rw[xn (by simp;omega),xn (by simp;omega)]
 | j+1,hj,hl=>by
  rw[q3x]at hl;have eP:q0e taps rows (j+1)=q0e taps rows j++List.replicate (selK taps rows j).length (j:Int):=q2h _ _;have lc:(chunk taps rows ts j).length=(selK taps rows j).length:=by unfold chunk;rw[xh,xp];omega
  have eT:ts=ts.take (q0e taps rows j).length++(chunk taps rows ts j++(ts.drop (q0e taps rows j).length).drop (selK taps rows j).length):=by unfold chunk;rw[List.take_append_drop,List.take_append_drop]
  have ez:(q0e taps rows (j+1)).zip ts=(q0e taps rows j).zip ts++(List.replicate (selK taps rows j).length (j:Int)).zip (chunk taps rows ts j):=by
   have h1:(q0e taps rows j).length=(ts.take (q0e taps rows j).length).length:=by rw[xh];omega
   have e1:(q0e taps rows j).zip ts=(q0e taps rows j).zip (ts.take (q0e taps rows j).length):=by have:=q8q (zs:=chunk taps rows ts j++(ts.drop (q0e taps rows j).length).drop (selK taps rows j).length) h1;rw[<-eT]at this;exact this
   rw[e1,eP];have:=List.zip_append (r₁:=List.replicate (selK taps rows j).length (j:Int)) (r₂:=chunk taps rows ts j++(ts.drop (q0e taps rows j).length).drop (selK taps rows j).length) h1;rw[<-eT]at this;rw[this,q8q (by rw[ji,lc])]
  rw[ez,List.foldl_append,qc0 N j (by omega) (by omega),<-lc,qbz j _ _ (by simp;omega)];apply List.ext_getElem?;intro i;by_cases h:i<N
  ·rw[jc,xq h];by_cases q:j=i
   ·subst q;rw[xf (by simp;omega)];rw[jv,jc,xq h];simp
   ·rw[jl q,jc,xq h];simp only[Option.map_some];congr 1;by_cases z:i<j
    ·rw[if_pos z,if_pos (by omega)]
    ·rw[if_neg z,if_neg (by omega)]
  ·rw[xn (by simp;omega),xn (by simp;omega)]
theorem q9t(N:Nat)(hl:(q0e taps rows N).length<=ts.length):((q0e taps rows N).zip ts).foldl q4e (List.replicate N [])=(List.range N).map (chunk taps rows ts):=by rw[qc0 N N (ja _) hl];refine List.map_congr_left λk hk=>?_;rw[if_pos (List.mem_range.mp hk)]
end
theorem q7v{i:Nat}{fg:RhG}{f:Fd}(d:D)(r:List D)(ρ:Rho)(dss:List (List D)):q5h i fg f (d::r) ρ dss=match fg d ρ with
 | some ρ1=>if isFree ρ1 i=true then(match f ρ1 dss with
  |some p=>q5h i fg f r p.1 p.2
  |none=>none)else none
 |none=>none:=rfl
theorem qby{i a b:Nat}{fe:RhD}{fs:RhL}{α:Type}(dat obj:α->D)(ρ0:Option D->Option D->Rho)(hf:∀u v,isFree (ρ0 u v) i=true)
 (hg:∀(k:Int) (t:α) (u v:Option D),(q2i 2 (q0w (gSet a) (q0w (gSet b) q2o))) (.tup [.int k,dat t]) (ρ0 u v)=some (ρ0 (some (.int k)) (some (dat t))))
 (he:∀(k:Int) (t:α),fe (ρ0 (some (.int k)) (some (dat t)))=some (.int k,ρ0 (some (.int k)) (some (dat t)))) (hs:∀(k:Int) (t:α),fs (ρ0 (some (.int k)) (some (dat t)))=some ([obj t],ρ0 (some (.int k)) (some (dat t)))):
 ∀(zs:List (Int×α)) (c:List (List α)) (u v:Option D),(∀q∈zs,0<=q.1/\q.1.toNat<c.length)->(∀g∈c,g.length+zs.length<sizeLine)->∃u' v',q5h i (q2i 2 (q0w (gSet a) (q0w (gSet b) q2o))) (q3f i fe fs) (zs.map λq=>D.tup [.int q.1,dat q.2]) (ρ0 u v) (c.map λg=>g.map obj)=some (ρ0 u' v',(zs.foldl q4e c).map λg=>g.map obj)
 |[],c,u,v,_,_=>⟨u,v,rfl⟩
 | q::zs,c,u,v,hz,hc=>by
  obtain⟨z0,z1⟩:=hz q jg;have hq:c[q.1.toNat]? =some c[q.1.toNat]:=jd z1;have hp:q5p (c.map λg=>g.map obj) q.1 (obj q.2)=some ((q4e c q).map λg=>g.map obj):=by unfold q5p;rw[if_pos z0,jc,hq];simp only[Option.map_some];rw[if_pos (by rw[j7];have:=hc _ (xc z1);simp at this;omega)];unfold q4e;rw[List.map_set,jv,hq];simp
  obtain⟨u',v',h⟩:=qby (i:=i) (a:=a) (b:=b) (fe:=fe) (fs:=fs) dat obj ρ0 hf hg he hs zs (q4e c q) (some (.int q.1)) (some (dat q.2)) (λp hp=>by
   have:=hz p (jj _ hp);refine⟨this.1,?_⟩;unfold q4e;rw[x9];exact this.2) (λg hg=>by
   unfold q4e at hg;rcases List.mem_or_eq_of_mem_set hg with h1|h1
   ·have:=hc g h1;simp at this;omega
   ·rw[h1,jv,hq];have:=hc _ (xc z1);simp at this ⊢;omega)
  refine⟨u',v',?_⟩;have step:q3f i fe fs (ρ0 (some (.int q.1)) (some (dat q.2))) (c.map λg=>g.map obj)=some (ρ0 (some (.int q.1)) (some (dat q.2)),(q4e c q).map λg=>g.map obj):=by unfold q3f;rw[he q.1 q.2];simp only[hf,if_true];rw[hs q.1 q.2];simp only[hf,if_true,hp,Option.map_some]
  rw[ju,List.foldl_cons,<-h,q7v,hg q.1 q.2 u v];simp only[hf,if_true,step]
end L2
namespace L2
open PySem PySem.Spec PyProof.Rows
section
variable{X:Cx}{K:FrG}
def rLtP(K:FrG):R2:=λx y H Q=>∃p q,PrV K H x p/\PrV K H y q/\p.2.length=q.2.length/\Q (.bl (qLt p q)) H
theorem qqs(hK:X.K=K)(hu:X.A.units+64<cLine):OpR X (compareOp .Lt) (rLtP K):=by subst hK;intro z5 s σ H x y v u Q I rx ry h;obtain⟨p,q,hp,hq,hl,k⟩:=h;obtain⟨a,b,t,us,rfl,g1,g2,g3⟩:=qc3 I hp rx;obtain⟨a',b',t',us',rfl,g1',g2',g3'⟩:=qc3 I hq ry;exact q9r g1 g1' g2 g2' g3 g3' hl (by omega) ⟨.bl _,H,I,rfl,k⟩
def dLtP(d e:D):Option D:=match qb4 d,qb4 e with
 |some p,some q=>if p.2.length=q.2.length then some (.bl (qLt p q))else none
 |_,_=>none
theorem qqq:OpS K (rLtP K) dLtP:=λH x y d e u Q rx ry q k=>by
 unfold dLtP at q;split at q
 ·rename_i p p' e1 e2;split at q
  ·rename_i hl;cases q;exact⟨p,p',(q8x rx e1).1,(q8x ry e2).1,hl,k _ (.bl _)⟩
  ·cases q
 ·cases q
theorem q8y(x:Int×List Int):qb4 (pairD x)=some x:=by show(q3t (x.2.map D.int)).map _=_;rw[q35];rfl
theorem qtw{x y:Int×List Int}(h:x.2.length=y.2.length):dLtP (pairD x) (pairD y)=some (.bl (qLt x y)):=by unfold dLtP;rw[q8y,q8y];show(if x.2.length=y.2.length then some (D.bl (qLt x y))else none)=_;rw[if_pos h]
end
structure FunD(K:FrG)(x qual:Str)(st:Stmt)(f:Addr)(fd:FuncData):Prop where
 ex:∃(oc:Value) (od:Option Addr) (dV kV doc pm:Value) (an:Option Addr) (cdv ct:Value) (osl:Array (Option Value)),
  fd=PySem.W.fnOf x qual (q0p st) (q0n st) (q04 st) dV kV doc pm an cdv ct/\K.lookup f=some ⟨oc,od,.func fd,osl⟩/\PySem.W.codeIn K cdv qual=true
 kp:PySem.W.keepIn K (.ref f)=true
section
variable{P:Program}{w:World}{K:FrG}{mg:Str->Option Value}{base:Heap}
theorem FunD.ok{x qual:Str}{st:Stmt}{f:Addr}{fd:FuncData}{N ps:List Str}{k:Nat}{sp:Sp}(F:FunD K x qual st f fd)(S:q0r N ps (q04 st))(len:∀vs H Q E,sp vs H Q E->vs.length=ps.length)
 (zr:∀(cdv:Value) (A:Around) (outer:List Env) (s:Shared) (H:Hp) (vs:List V) (Q:VK) (E:XK),Room k (A.deeper (envOfC qual (q04 st) s.heap.objs.size f cdv))->sp vs H Q E->
   ∃t,PSs (cxOf CX0 P w K mg base N qual (q04 st) f cdv A outer s H E).nox (q0n st) t/\t {nx:=λ_ H'=>Q .non H',rt:=Q} (start N vs) H):FnOk P w K mg base CX0 (k+1) f fd ps sp:=by
 obtain⟨oc,od,dV,kV,doc,pm,an,cdv,ct,osl,rfl,lk,hcd⟩:=F.ex;refine qt6 lk hcd S len λA outer s H vs Q E hr hsp=>?_;obtain⟨t,h,q⟩:=zr cdv A outer s H vs Q E hr hsp;exact⟨t,h.nox,q⟩
theorem qnl{x qual:Str}{st:Stmt}{f:Addr}{oc:Value}{od an:Option Addr}{osl:Array (Option Value)}{dV kV doc pm cdv ct:Value}(l:K.lookup f=some ⟨oc,od,.func (PySem.W.fnOf x qual (q0p st) (q0n st) (q04 st) dV kV doc pm an cdv ct),osl⟩)
 (c:PySem.W.codeIn K cdv qual=true) (k:PySem.W.keepIn K (.ref f)=true):FunD K x qual st f (PySem.W.fnOf x qual (q0p st) (q0n st) (q04 st) dV kV doc pm an cdv ct):=⟨⟨oc,od,dV,kV,doc,pm,an,cdv,ct,osl,rfl,l,c⟩,k⟩
theorem qty{fd:FuncData}{ps:List Str}{T:Addr}{oc:Value}{od:Option Addr}{osl:Array (Option Value)}{items:Array Value}{n:Nat}(hd:fd.defaults=.ref T)(l:K.lookup T=some ⟨oc,od,.seq items n,osl⟩)
 (h:∀us:List Value,us.length=ps.length->∃k,bindArgs fd ⟨us,[]⟩=seqItems? fd.defaults >>= k/\k (some items)=pure (ps.zip us)):Binds K fd ps []:=λs us X hl=>by
 rw[List.append_nil]at hl ⊢;obtain⟨k,h1,h2⟩:=h us hl;exact BindsTo.of_defaults hd (X _ _ l) rfl h1 h2
end
end L2
namespace K13
open PySem L2
local macro_rules|`(tactic|walk_at "ev")=>`(tactic|simp[runP,q17,qtd,q24,qm1,qtf,qtg,qo0,qnz,qtk,qh2,qth,qtn,qvx,qo9,qo1,qvz,qti,qo6,qt9,qtj,qvy,qo8,qjs,qo7,qtb,qh4,qt8,qnx,qvw,qjr,qh3,qno,qnq,qnv,qta,qnp,qjp,qjo,qnr,qjq,qns,qnu,qcm,qnt,qo4,q23,ixO,blO,lsO,qgn,rng1,zip2,inO,setI,q2o,q0w,q2i,dI2,dI0,dB0,dAdd,q3u,dIx,dLen,dInt,dSum,dAll,q5i,dSeq,qbh,q7x,dNeg,dIsN,q56,dIsi,tyN,q2n,q2c,qmx,qcc,qrs,qmy,qg3,qrr,at0,at1,at2,at3,ixN,dEq,dNe,qh6,eqD_none,q6o,q6n,qnf,qtl,qtc,revO,qcn,qa8,dIxK,q7y,optI,upsO,mMM,qo5,qto,qm2,qjy,qo3,qtm,qo2,qte,qgl, *])
local macro_rules|`(tactic|walk_at "sc")=>`(tactic|exact⟨rfl,rfl,rfl,by decide+kernel,rfl,by decide+kernel,by decide+kernel⟩)
local macro_rules|`(tactic|walk_at "lr")=>`(tactic|first|exact Or.inl rfl|exact Or.inr rfl)
def top(i:Nat):Stmt:=PySem.Challenge.pw_trellisway_k13_whole_nearest_walked.main.body.getD i (.Pass ⟨0,0,0,0⟩)
abbrev s_y0:Stmt:=top 5
theorem qug:q0r ["reach"] ["reach"] (q04 s_y0):=by walk_at "sc"
abbrev s_y1:Stmt:=top 6
theorem quf:q0r ["scheme"] ["scheme"] (q04 s_y1):=by walk_at "sc"
abbrev s_y2:Stmt:=top 7
theorem sc_y2:q0r ["number","left","odd"] ["number"] (q04 s_y2):=by walk_at "sc"
abbrev s_y3:Stmt:=top 8
abbrev w2v:List Str:=["scheme","room","bit","window","signs"]
theorem sc_y3:q0r w2v ["scheme","room","bit"] (q04 s_y3):=by walk_at "sc"
abbrev s_y4:Stmt:=top 9
abbrev w2w:List Str:=["scheme","number","signs","rows","row"]
abbrev w3t:List Str:=["scheme","number","signs"]
theorem sc_y4:q0r w2w w3t (q04 s_y4):=by walk_at "sc"
abbrev s_y5:Stmt:=top 11
theorem que:q0r ["scheme"] ["scheme"] (q04 s_y5):=by walk_at "sc"
abbrev s_y6:Stmt:=top 12
theorem qud:q0r ["scheme","size"] ["scheme","size"] (q04 s_y6):=by walk_at "sc"
abbrev s_y7:Stmt:=top 13
theorem quc:q0r ["scheme"] ["scheme"] (q04 s_y7):=by walk_at "sc"
abbrev s_y8:Stmt:=top 14
theorem qub:q0r ["scheme"] ["scheme"] (q04 s_y8):=by walk_at "sc"
abbrev s_y9:Stmt:=top 15
theorem qua:q0r ["scheme","size"] ["scheme","size"] (q04 s_y9):=by walk_at "sc"
abbrev qfc:Stmt:=top 16
abbrev w46:List Str:=["scheme","size","signs","places","number"]
theorem sc_y10:q0r w46 ["scheme","size"] (q04 qfc):=by walk_at "sc"
abbrev qfb:Stmt:=inClass (top 19) 0
theorem qq4:q0r ["self","bit"] ["self","bit"] (q04 qfb):=by walk_at "sc"
abbrev qfa:Stmt:=inClass (top 19) 2
theorem qq3:q0r ["self","bit"] ["self","bit"] (q04 qfa):=by walk_at "sc"
abbrev qf9:Stmt:=inClass (top 20) 1
theorem qq2:q0r ["self","bit"] ["self","bit"] (q04 qf9):=by walk_at "sc"
abbrev qf8:Stmt:=inClass (top 21) 0
theorem qq1:q0r ["self","zero","one"] ["self","zero","one"] (q04 qf8):=by walk_at "sc"
abbrev qf7:Stmt:=inClass (top 21) 2
theorem qq0:q0r ["self","bit"] ["self","bit"] (q04 qf7):=by walk_at "sc"
abbrev qf6:Stmt:=top 22
theorem qpz:q0r ["told"] ["told"] (q04 qf6):=by walk_at "sc"
abbrev qf5:Stmt:=top 24
abbrev w0p:List Str:=["scheme","size","heard"]
theorem sc_y20:q0r ["scheme","size","heard","places"] w0p (q04 qf5):=by walk_at "sc"
abbrev qdl:Stmt:=top 25
theorem qpy:q0r ["signs","bits"] ["signs","bits"] (q04 qdl):=by walk_at "sc"
abbrev qdk:Stmt:=top 26
abbrev w2a:List Str:=["scheme","size","heard","found","number","told"]
theorem sc_y22:q0r w2a w0p (q04 qdk):=by walk_at "sc"
abbrev qf4:Stmt:=top 27
abbrev w2x:List Str:=["scheme","number","signs","room","bit"]
abbrev w40:List Str:=["scheme","number","signs","room","bit","led"]
theorem sc_y23:q0r w40 w2x (q04 qf4):=by walk_at "sc"
abbrev qdj:Stmt:=top 28
abbrev w16:List Str:=["scheme","number","signs","room","bits"]
theorem qpx:q0r w16 w16 (q04 qdj):=by walk_at "sc"
abbrev qdi:Stmt:=top 29
abbrev w23:List Str:=["scheme","size","heard","found","number","signs","bits"]
theorem sc_y25:q0r w23 w0p (q04 qdi):=by walk_at "sc"
abbrev qdh:Stmt:=top 30
theorem sc_y26:q0r ["scheme","start","end"] ["scheme","start"] (q04 qdh):=by walk_at "sc"
abbrev qf3:Stmt:=top 31
theorem sc_y27:q0r ["taken","behind","rest"] ["taken","behind"] (q04 qf3):=by walk_at "sc"
abbrev qar:Stmt:=top 32
abbrev w2u:List Str:=["choices","behind","found"]
theorem sc_y28:q0r w2u ["choices","behind"] (q04 qar):=by walk_at "sc"
abbrev qdg:Stmt:=top 33
abbrev w28:List Str:=["steps","ends","table","choices_by_room","behind"]
theorem sc_y29:q0r w28 ["steps","ends"] (q04 qdg):=by walk_at "sc"
abbrev qf2:Stmt:=top 34
abbrev w1g:List Str:=["scheme","size","heard","start"]
theorem qpw:q0r w1g w1g (q04 qf2):=by walk_at "sc"
abbrev qf1:Stmt:=top 35
abbrev w4c:List Str:=["scheme","steps","tables","start"]
theorem sc_y31:q0r w4c ["scheme","steps"] (q04 qf1):=by walk_at "sc"
abbrev qf0:Stmt:=top 37
abbrev w36:List Str:=["start","steps","table","size","word","room","number","choices","bit"]
abbrev w3f:List Str:=["start","steps","table","size"]
theorem sc_y32:q0r w36 w3f (q04 qf0):=by walk_at "sc"
abbrev qdf:Stmt:=top 38
abbrev w2q:List Str:=["scheme","size","heard","steps","tables"]
theorem sc_y33:q0r w2q w0p (q04 qdf):=by walk_at "sc"
abbrev qez:Stmt:=top 40
theorem qpv:q0r ["_law_script","_law_k"] ["_law_script","_law_k"] (q04 qez):=by walk_at "sc"
abbrev qey:Stmt:=top 41
abbrev w3y:List Str:=["_law_cell","_law_many"]
abbrev w3g:List Str:=["_law_cell","_law_many","_law_found","_law_number","_law_k"]
theorem sc_y35:q0r w3g w3y (q04 qey):=by walk_at "sc"
abbrev qaq:Stmt:=top 42
abbrev w0q:List Str:=["_law_x","_law_top","_law_xs","_law_ending","_law_reach","_law_taps","_law_rows","_law_y"]
theorem sc_y36:q0r w0q ["_law_x","_law_top"] (q04 qaq):=by walk_at "sc"
abbrev qde:Stmt:=top 43
abbrev w2o:List Str:=["_law_scheme_here","_law_room","_law_bit"]
abbrev w1u:List Str:=["_law_scheme_here","_law_room","_law_bit","_law_window","_law_signs"]
theorem sc_y37:q0r w1u w2o (q04 qde):=by walk_at "sc"
abbrev qdd:Stmt:=top 44
abbrev w2f:List Str:=["_law_scheme_here","_law_number","_law_signs"]
abbrev w21:List Str:=["_law_scheme_here","_law_number","_law_signs","_law_row"]
theorem sc_y38:q0r w21 w2f (q04 qdd):=by walk_at "sc"
abbrev qex:Stmt:=top 45
abbrev w0z:List Str:=["_law_scheme_here","_law_size"]
theorem qpu:q0r w0z w0z (q04 qex):=by walk_at "sc"
abbrev qdc:Stmt:=top 46
abbrev w20:List Str:=["_law_scheme_here","_law_size","_law_found","_law_number"]
theorem sc_y40:q0r w20 w0z (q04 qdc):=by walk_at "sc"
abbrev qew:Stmt:=top 47
abbrev w1i:List Str:=["_law_scheme_here","_law_word"]
abbrev w3n:List Str:=["_law_scheme_here","_law_word","_law_room","_law_bit"]
theorem sc_y41:q0r w3n w1i (q04 qew):=by walk_at "sc"
abbrev qev:Stmt:=top 48
abbrev w2m:List Str:=["_law_scheme_here","_law_word","_law_room","_law_found","_law_number","_law_signs"]
theorem sc_y42:q0r w2m w1i (q04 qev):=by walk_at "sc"
abbrev qeu:Stmt:=top 49
theorem qpt:q0r ["_law_told","_law_bit"] ["_law_told","_law_bit"] (q04 qeu):=by walk_at "sc"
abbrev qet:Stmt:=top 50
abbrev w3s:List Str:=["_law_cell","_law_xs","_law_way_here","_law_great"]
theorem sc_y44:q0r w3s ["_law_cell"] (q04 qet):=by walk_at "sc"
abbrev qap:Stmt:=top 51
abbrev w1n:List Str:=["_law_cells","_law_many","_law_x","_law_found"]
abbrev w3a:List Str:=["_law_cells","_law_many","_law_x"]
theorem sc_y45:q0r w1n w3a (q04 qap):=by walk_at "sc"
abbrev qdb:Stmt:=top 52
abbrev w1k:List Str:=["_law_scheme_here","_law_size","_law_heard_here"]
abbrev w1b:List Str:=["_law_scheme_here","_law_size","_law_heard_here","_law_found","_law_told","_law_number"]
theorem sc_y46:q0r w1b w1k (q04 qdb):=by walk_at "sc"
abbrev qda:Stmt:=top 53
abbrev w1f:List Str:=["_law_scheme_here","_law_number","_law_told","_law_room","_law_bit","_law_later"]
abbrev w0x:List Str:=["_law_scheme_here","_law_number","_law_told","_law_room","_law_bit","_law_later","_law_there","_law_signs"]
theorem sc_y47:q0r w0x w1f (q04 qda):=by walk_at "sc"
abbrev qes:Stmt:=top 54
abbrev w34:List Str:=["_law_scheme_here","_law_start_here","_law_row","_law_room","_law_due"]
abbrev w2b:List Str:=["_law_scheme_here","_law_start_here","_law_row"]
theorem sc_y48:q0r w34 w2b (q04 qes):=by walk_at "sc"
abbrev qer:Stmt:=top 55
abbrev w39:List Str:=["_law_scheme_here","_law_size","_law_table","_law_row","_law_one"]
abbrev w2j:List Str:=["_law_scheme_here","_law_size","_law_table"]
theorem sc_y49:q0r w39 w2j (q04 qer):=by walk_at "sc"
abbrev qao:Stmt:=top 56
abbrev w0f:List Str:=["_law_scheme_here","_law_size","_law_heard_here","_law_start_here","_law_table"]
abbrev w0d:List Str:=["_law_scheme_here","_law_size","_law_heard_here","_law_start_here","_law_table","_law_told","_law_number","_law_bits","_law_room","_law_ways"]
theorem sc_y50:q0r w0d w0f (q04 qao):=by walk_at "sc"
abbrev qeq:Stmt:=top 57
abbrev w1m:List Str:=["_law_scheme_here","_law_size","_law_heard_here","_law_start_here","_law_table","_law_told","_law_room","_law_word","_law_number","_law_bit"]
theorem sc_y51:q0r w1m w0f (q04 qeq):=by walk_at "sc"
abbrev qep:Stmt:=top 58
theorem qps:q0r ["_law_scheme_here"] ["_law_scheme_here"] (q04 qep):=by walk_at "sc"
abbrev qd9:Stmt:=top 59
abbrev w1z:List Str:=["_law_found","_law_size"]
theorem qpr:q0r w1z w1z (q04 qd9):=by walk_at "sc"
abbrev qd8:Stmt:=top 60
abbrev w1e:List Str:=["_law_scheme_here","_law_word","_law_cells","_law_heard_here","_law_k","_law_cell"]
abbrev w2i:List Str:=["_law_scheme_here","_law_word","_law_cells"]
theorem sc_y54:q0r w1e w2i (q04 qd8):=by walk_at "sc"
abbrev qas:Stmt:=top 61
abbrev w0g:List Str:=["_law_script","_law_hs","_law_scheme_here","_law_size","_law_heard_here","_law_handed","_law_found","_law_start_here","_law_table"]
theorem sc_law:q0r w0g ["_law_script"] (q04 qas):=by walk_at "sc"
structure Ad where
 c_Clear:Addr
 c_Gap:Addr
 c_Soft:Addr
 f_y0:Addr
 fd_y0:FuncData
 f_y1:Addr
 fd_y1:FuncData
 f_y2:Addr
 fd_y2:FuncData
 f_y3:Addr
 fd_y3:FuncData
 f_y4:Addr
 fd_y4:FuncData
 f_y5:Addr
 fd_y5:FuncData
 f_y6:Addr
 fd_y6:FuncData
 f_y7:Addr
 fd_y7:FuncData
 f_y8:Addr
 fd_y8:FuncData
 f_y9:Addr
 fd_y9:FuncData
 f_y10:Addr
 fd_y10:FuncData
 f_y11:Addr
 fd_y11:FuncData
 f_y13:Addr
 fd_y13:FuncData
 f_y15:Addr
 fd_y15:FuncData
 f_y16:Addr
 fd_y16:FuncData
 f_y18:Addr
 fd_y18:FuncData
 f_y19:Addr
 fd_y19:FuncData
 f_y20:Addr
 fd_y20:FuncData
 f_y21:Addr
 fd_y21:FuncData
 f_y22:Addr
 fd_y22:FuncData
 f_y23:Addr
 fd_y23:FuncData
 f_y24:Addr
 fd_y24:FuncData
 f_y25:Addr
 fd_y25:FuncData
 f_y26:Addr
 fd_y26:FuncData
 f_y27:Addr
 fd_y27:FuncData
 f_y28:Addr
 fd_y28:FuncData
 f_y29:Addr
 fd_y29:FuncData
 f_y30:Addr
 fd_y30:FuncData
 f_y31:Addr
 fd_y31:FuncData
 f_y32:Addr
 fd_y32:FuncData
 f_y33:Addr
 fd_y33:FuncData
 f_y34:Addr
 fd_y34:FuncData
 f_y35:Addr
 fd_y35:FuncData
 f_y36:Addr
 fd_y36:FuncData
 f_y37:Addr
 fd_y37:FuncData
 f_y38:Addr
 fd_y38:FuncData
 f_y39:Addr
 fd_y39:FuncData
 f_y40:Addr
 fd_y40:FuncData
 f_y41:Addr
 fd_y41:FuncData
 f_y42:Addr
 fd_y42:FuncData
 f_y43:Addr
 fd_y43:FuncData
 f_y44:Addr
 fd_y44:FuncData
 f_y45:Addr
 fd_y45:FuncData
 f_y46:Addr
 fd_y46:FuncData
 f_y47:Addr
 fd_y47:FuncData
 f_y48:Addr
 fd_y48:FuncData
 f_y49:Addr
 fd_y49:FuncData
 f_y50:Addr
 fd_y50:FuncData
 f_y51:Addr
 fd_y51:FuncData
 f_y52:Addr
 fd_y52:FuncData
 f_y53:Addr
 fd_y53:FuncData
 f_y54:Addr
 fd_y54:FuncData
 f_law:Addr
 fd_law:FuncData
structure Txt(K:FrG)(mg:Str->Option Value)(a:Ad):Prop where
 mg_Clear:mg "Clear"=some (.ref a.c_Clear)
 ns_Clear:PySem.W.nsIn K mainGlobals "Clear"=some (some (.ref a.c_Clear))
 cl_Clear:Cls K a.c_Clear
 no_Clear_bit:NoAttr K a.c_Clear "bit"
 mg_Gap:mg "Gap"=some (.ref a.c_Gap)
 ns_Gap:PySem.W.nsIn K mainGlobals "Gap"=some (some (.ref a.c_Gap))
 cl_Gap:Cls K a.c_Gap
 mg_Soft:mg "Soft"=some (.ref a.c_Soft)
 ns_Soft:PySem.W.nsIn K mainGlobals "Soft"=some (some (.ref a.c_Soft))
 cl_Soft:Cls K a.c_Soft
 no_Soft_zero:NoAttr K a.c_Soft "zero"
 no_Soft_one:NoAttr K a.c_Soft "one"
 F_y0:Fun K "rooms_at" "rooms_at" s_y0 a.f_y0 a.fd_y0
 B_y0:Binds K a.fd_y0 ["reach"] []
 mg_y0:mg "rooms_at"=some (.ref a.f_y0)
 F_y1:Fun K "rooms" "rooms" s_y1 a.f_y1 a.fd_y1
 B_y1:Binds K a.fd_y1 ["scheme"] []
 mg_y1:mg "rooms"=some (.ref a.f_y1)
 F_y2:Fun K "parity" "parity" s_y2 a.f_y2 a.fd_y2
 B_y2:Binds K a.fd_y2 ["number"] []
 mg_y2:mg "parity"=some (.ref a.f_y2)
 F_y3:Fun K "step" "step" s_y3 a.f_y3 a.fd_y3
 B_y3:Binds K a.fd_y3 ["scheme","room","bit"] []
 mg_y3:mg "step"=some (.ref a.f_y3)
 F_y4:Fun K "sent_at" "sent_at" s_y4 a.f_y4 a.fd_y4
 B_y4:Binds K a.fd_y4 w3t []
 mg_y4:mg "sent_at"=some (.ref a.f_y4)
 F_y5:Fun K "is_ring" "is_ring" s_y5 a.f_y5 a.fd_y5
 B_y5:Binds K a.fd_y5 ["scheme"] []
 mg_y5:mg "is_ring"=some (.ref a.f_y5)
 F_y6:Fun K "check_size" "check_size" s_y6 a.f_y6 a.fd_y6
 B_y6:Binds K a.fd_y6 ["scheme","size"] []
 mg_y6:mg "check_size"=some (.ref a.f_y6)
 F_y7:Fun K "bits_behind" "bits_behind" s_y7 a.f_y7 a.fd_y7
 B_y7:Binds K a.fd_y7 ["scheme"] []
 mg_y7:mg "bits_behind"=some (.ref a.f_y7)
 F_y8:Fun K "first_rooms" "first_rooms" s_y8 a.f_y8 a.fd_y8
 B_y8:Binds K a.fd_y8 ["scheme"] []
 mg_y8:mg "first_rooms"=some (.ref a.f_y8)
 F_y9:Fun K "steps_of" "steps_of" s_y9 a.f_y9 a.fd_y9
 B_y9:Binds K a.fd_y9 ["scheme","size"] []
 mg_y9:mg "steps_of"=some (.ref a.f_y9)
 F_y10:Fun K "places_of" "places_of" qfc a.f_y10 a.fd_y10
 B_y10:Binds K a.fd_y10 ["scheme","size"] []
 mg_y10:mg "places_of"=some (.ref a.f_y10)
 F_y11:Fun K "__init__" "Clear.__init__" qfb a.f_y11 a.fd_y11
 B_y11:Binds K a.fd_y11 ["self","bit"] []
 F_y13:Fun K "cost" "Clear.cost" qfa a.f_y13 a.fd_y13
 B_y13:Binds K a.fd_y13 ["self","bit"] []
 m_y13:Meth K a.c_Clear "cost" a.f_y13
 F_y15:Fun K "cost" "Gap.cost" qf9 a.f_y15 a.fd_y15
 B_y15:Binds K a.fd_y15 ["self","bit"] []
 m_y15:Meth K a.c_Gap "cost" a.f_y15
 F_y16:Fun K "__init__" "Soft.__init__" qf8 a.f_y16 a.fd_y16
 B_y16:Binds K a.fd_y16 ["self","zero","one"] []
 F_y18:Fun K "cost" "Soft.cost" qf7 a.f_y18 a.fd_y18
 B_y18:Binds K a.fd_y18 ["self","bit"] []
 m_y18:Meth K a.c_Soft "cost" a.f_y18
 F_y19:Fun K "sign_of" "sign_of" qf6 a.f_y19 a.fd_y19
 B_y19:Binds K a.fd_y19 ["told"] []
 mg_y19:mg "sign_of"=some (.ref a.f_y19)
 F_y20:Fun K "check_heard" "check_heard" qf5 a.f_y20 a.fd_y20
 B_y20:Binds K a.fd_y20 w0p []
 mg_y20:mg "check_heard"=some (.ref a.f_y20)
 F_y21:Fun K "signs_cost" "signs_cost" qdl a.f_y21 a.fd_y21
 B_y21:Binds K a.fd_y21 ["signs","bits"] []
 mg_y21:mg "signs_cost"=some (.ref a.f_y21)
 F_y22:Fun K "signs_by_step" "signs_by_step" qdk a.f_y22 a.fd_y22
 B_y22:Binds K a.fd_y22 w0p []
 mg_y22:mg "signs_by_step"=some (.ref a.f_y22)
 F_y23:Fun K "move" "move" qf4 a.f_y23 a.fd_y23
 B_y23:Binds K a.fd_y23 w2x []
 mg_y23:mg "move"=some (.ref a.f_y23)
 F_y24:Fun K "moves_from" "moves_from" qdj a.f_y24 a.fd_y24
 B_y24:Binds K a.fd_y24 w16 []
 mg_y24:mg "moves_from"=some (.ref a.f_y24)
 F_y25:Fun K "moves" "moves" qdi a.f_y25 a.fd_y25
 B_y25:Binds K a.fd_y25 w0p []
 mg_y25:mg "moves"=some (.ref a.f_y25)
 F_y26:Fun K "end_costs" "end_costs" qdh a.f_y26 a.fd_y26
 B_y26:Binds K a.fd_y26 ["scheme","start"] []
 mg_y26:mg "end_costs"=some (.ref a.f_y26)
 F_y27:Fun K "cost_by" "cost_by" qf3 a.f_y27 a.fd_y27
 B_y27:Binds K a.fd_y27 ["taken","behind"] []
 mg_y27:mg "cost_by"=some (.ref a.f_y27)
 F_y28:Fun K "least_by" "least_by" qar a.f_y28 a.fd_y28
 B_y28:Binds K a.fd_y28 ["choices","behind"] []
 mg_y28:mg "least_by"=some (.ref a.f_y28)
 F_y29:Fun K "ahead_by" "ahead_by" qdg a.f_y29 a.fd_y29
 B_y29:Binds K a.fd_y29 ["steps","ends"] []
 mg_y29:mg "ahead_by"=some (.ref a.f_y29)
 F_y30:FunD K "ahead" "ahead" qf2 a.f_y30 a.fd_y30
 B_y30:Binds K a.fd_y30 w1g []
 mg_y30:mg "ahead"=some (.ref a.f_y30)
 F_y31:Fun K "ahead_by_start" "ahead_by_start" qf1 a.f_y31 a.fd_y31
 B_y31:Binds K a.fd_y31 ["scheme","steps"] []
 mg_y31:mg "ahead_by_start"=some (.ref a.f_y31)
 F_y32:Fun K "nearest_from" "nearest_from" qf0 a.f_y32 a.fd_y32
 B_y32:Binds K a.fd_y32 w3f []
 mg_y32:mg "nearest_from"=some (.ref a.f_y32)
 F_y33:Fun K "nearest" "nearest" qdf a.f_y33 a.fd_y33
 B_y33:Binds K a.fd_y33 w0p []
 mg_y33:mg "nearest"=some (.ref a.f_y33)
 F_y34:Fun K "_law_cell_at" "_law_cell_at" qez a.f_y34 a.fd_y34
 B_y34:Binds K a.fd_y34 ["_law_script","_law_k"] []
 mg_y34:mg "_law_cell_at"=some (.ref a.f_y34)
 F_y35:Fun K "_law_mixed" "_law_mixed" qey a.f_y35 a.fd_y35
 B_y35:Binds K a.fd_y35 w3y []
 mg_y35:mg "_law_mixed"=some (.ref a.f_y35)
 F_y36:Fun K "_law_scheme" "_law_scheme" qaq a.f_y36 a.fd_y36
 B_y36:Binds K a.fd_y36 ["_law_x","_law_top"] []
 mg_y36:mg "_law_scheme"=some (.ref a.f_y36)
 F_y37:Fun K "_law_step" "_law_step" qde a.f_y37 a.fd_y37
 B_y37:Binds K a.fd_y37 w2o []
 mg_y37:mg "_law_step"=some (.ref a.f_y37)
 F_y38:Fun K "_law_sent_at" "_law_sent_at" qdd a.f_y38 a.fd_y38
 B_y38:Binds K a.fd_y38 w2f []
 mg_y38:mg "_law_sent_at"=some (.ref a.f_y38)
 F_y39:Fun K "_law_steps" "_law_steps" qex a.f_y39 a.fd_y39
 B_y39:Binds K a.fd_y39 w0z []
 mg_y39:mg "_law_steps"=some (.ref a.f_y39)
 F_y40:Fun K "_law_places" "_law_places" qdc a.f_y40 a.fd_y40
 B_y40:Binds K a.fd_y40 w0z []
 mg_y40:mg "_law_places"=some (.ref a.f_y40)
 F_y41:Fun K "_law_start" "_law_start" qew a.f_y41 a.fd_y41
 B_y41:Binds K a.fd_y41 w1i []
 mg_y41:mg "_law_start"=some (.ref a.f_y41)
 F_y42:Fun K "_law_sent" "_law_sent" qev a.f_y42 a.fd_y42
 B_y42:Binds K a.fd_y42 w1i []
 mg_y42:mg "_law_sent"=some (.ref a.f_y42)
 F_y43:Fun K "_law_price" "_law_price" qeu a.f_y43 a.fd_y43
 B_y43:Binds K a.fd_y43 ["_law_told","_law_bit"] []
 mg_y43:mg "_law_price"=some (.ref a.f_y43)
 F_y44:Fun K "_law_sign" "_law_sign" qet a.f_y44 a.fd_y44
 B_y44:Binds K a.fd_y44 ["_law_cell"] []
 mg_y44:mg "_law_sign"=some (.ref a.f_y44)
 F_y45:Fun K "_law_heard" "_law_heard" qap a.f_y45 a.fd_y45
 B_y45:Binds K a.fd_y45 w3a []
 mg_y45:mg "_law_heard"=some (.ref a.f_y45)
 F_y46:Fun K "_law_at_steps" "_law_at_steps" qdb a.f_y46 a.fd_y46
 B_y46:Binds K a.fd_y46 w1k []
 mg_y46:mg "_law_at_steps"=some (.ref a.f_y46)
 F_y47:Fun K "_law_way" "_law_way" qda a.f_y47 a.fd_y47
 B_y47:Binds K a.fd_y47 w1f []
 mg_y47:mg "_law_way"=some (.ref a.f_y47)
 F_y48:Fun K "_law_last" "_law_last" qes a.f_y48 a.fd_y48
 B_y48:Binds K a.fd_y48 w2b []
 mg_y48:mg "_law_last"=some (.ref a.f_y48)
 F_y49:Fun K "_law_of_form" "_law_of_form" qer a.f_y49 a.fd_y49
 B_y49:Binds K a.fd_y49 w2j []
 mg_y49:mg "_law_of_form"=some (.ref a.f_y49)
 F_y50:Fun K "_law_walked" "_law_walked" qao a.f_y50 a.fd_y50
 B_y50:Binds K a.fd_y50 w0f []
 mg_y50:mg "_law_walked"=some (.ref a.f_y50)
 F_y51:Fun K "_law_first" "_law_first" qeq a.f_y51 a.fd_y51
 B_y51:Binds K a.fd_y51 w0f []
 mg_y51:mg "_law_first"=some (.ref a.f_y51)
 F_y52:Fun K "_law_starts" "_law_starts" qep a.f_y52 a.fd_y52
 B_y52:Binds K a.fd_y52 ["_law_scheme_here"] []
 mg_y52:mg "_law_starts"=some (.ref a.f_y52)
 F_y53:Fun K "_law_is_word" "_law_is_word" qd9 a.f_y53 a.fd_y53
 B_y53:Binds K a.fd_y53 w1z []
 mg_y53:mg "_law_is_word"=some (.ref a.f_y53)
 F_y54:Fun K "_law_near" "_law_near" qd8 a.f_y54 a.fd_y54
 B_y54:Binds K a.fd_y54 w2i []
 mg_y54:mg "_law_near"=some (.ref a.f_y54)
 F_law:Fun K "law" "law" qas a.f_law a.fd_law
 B_law:Binds K a.fd_law ["_law_script"] []
 mg_law:mg "law"=some (.ref a.f_law)
 mk_Clear:Mk K a.c_Clear a.f_y11
 mk_Gap:MkN K a.c_Gap
 mk_Soft:Mk K a.c_Soft a.f_y16
 z_all:mg "all"=none
 z_bool:mg "bool"=none
 z_enumerate:mg "enumerate"=none
 z_int:mg "int"=none
 z_isinstance:mg "isinstance"=none
 z_len:mg "len"=none
 z_list:mg "list"=none
 z_max:mg "max"=none
 z_min:mg "min"=none
 z_range:mg "range"=none
 z_reversed:mg "reversed"=none
 z_sum:mg "sum"=none
 z_tuple:mg "tuple"=none
 z_zip:mg "zip"=none
 kit_ty_NoneType_ty_bool:PySem.W.kitOne K (.type "NoneType") (.type "bool")=some false
 kit_ty_bool_ty_bool:PySem.W.kitOne K (.type "bool") (.type "bool")=some true
 kit_ty_int_ty_bool:PySem.W.kitOne K (.type "int") (.type "bool")=some false
 kit_ty_str_ty_bool:PySem.W.kitOne K (.type "str") (.type "bool")=some false
 kit_ty_list_ty_bool:PySem.W.kitOne K (.type "list") (.type "bool")=some false
 kit_ty_tuple_ty_bool:PySem.W.kitOne K (.type "tuple") (.type "bool")=some false
 kit_ty_dict_ty_bool:PySem.W.kitOne K (.type "dict") (.type "bool")=some false
 kit_ty_NoneType_ty_int:PySem.W.kitOne K (.type "NoneType") (.type "int")=some false
 kit_ty_bool_ty_int:PySem.W.kitOne K (.type "bool") (.type "int")=some true
 kit_ty_int_ty_int:PySem.W.kitOne K (.type "int") (.type "int")=some true
 kit_ty_str_ty_int:PySem.W.kitOne K (.type "str") (.type "int")=some false
 kit_ty_list_ty_int:PySem.W.kitOne K (.type "list") (.type "int")=some false
 kit_ty_tuple_ty_int:PySem.W.kitOne K (.type "tuple") (.type "int")=some false
 kit_ty_dict_ty_int:PySem.W.kitOne K (.type "dict") (.type "int")=some false
 kit_ty_NoneType_ty_list:PySem.W.kitOne K (.type "NoneType") (.type "list")=some false
 kit_ty_bool_ty_list:PySem.W.kitOne K (.type "bool") (.type "list")=some false
 kit_ty_int_ty_list:PySem.W.kitOne K (.type "int") (.type "list")=some false
 kit_ty_str_ty_list:PySem.W.kitOne K (.type "str") (.type "list")=some false
 kit_ty_list_ty_list:PySem.W.kitOne K (.type "list") (.type "list")=some true
 kit_ty_tuple_ty_list:PySem.W.kitOne K (.type "tuple") (.type "list")=some false
 kit_ty_dict_ty_list:PySem.W.kitOne K (.type "dict") (.type "list")=some false
 kit_ty_NoneType_ty_tuple:PySem.W.kitOne K (.type "NoneType") (.type "tuple")=some false
 kit_ty_bool_ty_tuple:PySem.W.kitOne K (.type "bool") (.type "tuple")=some false
 kit_ty_int_ty_tuple:PySem.W.kitOne K (.type "int") (.type "tuple")=some false
 kit_ty_str_ty_tuple:PySem.W.kitOne K (.type "str") (.type "tuple")=some false
 kit_ty_list_ty_tuple:PySem.W.kitOne K (.type "list") (.type "tuple")=some false
 kit_ty_tuple_ty_tuple:PySem.W.kitOne K (.type "tuple") (.type "tuple")=some true
 kit_ty_dict_ty_tuple:PySem.W.kitOne K (.type "dict") (.type "tuple")=some false
theorem q94{K:FrG}{mg:Str->Option Value}{a:Ad}(T:Txt K mg a):KitB K "bool" (q2n "bool"):=q92 T.kit_ty_NoneType_ty_bool T.kit_ty_bool_ty_bool T.kit_ty_int_ty_bool T.kit_ty_str_ty_bool T.kit_ty_list_ty_bool T.kit_ty_tuple_ty_bool T.kit_ty_dict_ty_bool
theorem qbc{K:FrG}{mg:Str->Option Value}{a:Ad}(T:Txt K mg a):KitB K "int" (q2n "int"):=q92 T.kit_ty_NoneType_ty_int T.kit_ty_bool_ty_int T.kit_ty_int_ty_int T.kit_ty_str_ty_int T.kit_ty_list_ty_int T.kit_ty_tuple_ty_int T.kit_ty_dict_ty_int
theorem q93{K:FrG}{mg:Str->Option Value}{a:Ad}(T:Txt K mg a):KitB K "list" (q2n "list"):=q92 T.kit_ty_NoneType_ty_list T.kit_ty_bool_ty_list T.kit_ty_int_ty_list T.kit_ty_str_ty_list T.kit_ty_list_ty_list T.kit_ty_tuple_ty_list T.kit_ty_dict_ty_list
theorem qgu{K:FrG}{mg:Str->Option Value}{a:Ad}(T:Txt K mg a):KitB K "tuple" (q2n "tuple"):=q92 T.kit_ty_NoneType_ty_tuple T.kit_ty_bool_ty_tuple T.kit_ty_int_ty_tuple T.kit_ty_str_ty_tuple T.kit_ty_list_ty_tuple T.kit_ty_tuple_ty_tuple T.kit_ty_dict_ty_tuple
section
variable{P:Program}{w:World}{K:FrG}{mg:Str->Option Value}{base:Heap}{a:Ad}
def b_y0:RhO:=
 (sRet (mOp2 dShl (mRet (.int 1)) (mVar 0)))
def f_y0:List D->Option D:=runP false 1 1 b_y0
theorem n_y0:q1r 1 f_y0:=q1e
theorem quw(T:Txt K mg a):FnOk P w K mg base CX0 1 a.f_y0 a.fd_y0 ["reach"] (spP K false 1 f_y0):=by
 refine T.F_y0.ok qug (λ_ _ _ _ h=>h.1) (λcdv A outer s H vs Q E hr h=>?_)
 ·refine⟨_,(q0b (q0t (q13 q7c q06 (pv 0)))),?_⟩;exact q0m (O':=[]) (Nms:=["reach"]) (f:=b_y0) (by unfold b_y0;exact(q16 rfl (q0d q7d me_int (q02 (i:=0))) rfl)) h
def b_y1:RhO:=
 (sRet (q0k f_y0 (q01 (mOp2 dIx (mVar 0) (mRet (.int 0))) mNil)))
def f_y1:List D->Option D:=runP false 1 1 b_y1
theorem n_y1:q1r 1 f_y1:=q1e
theorem qj1(T:Txt K mg a):FnOk P w K mg base CX0 2 a.f_y1 a.fd_y1 ["scheme"] (spP K false 1 f_y1):=by
 have G_y0:=@quw P w K mg base a T;refine T.F_y1.ok quf (λ_ _ _ _ h=>h.1) (λcdv A outer s H vs Q E hr h=>?_)
 ·refine⟨_,(q0b (q0t (q0h G_y0 hr.m (by rfl) T.mg_y0 T.F_y0.kp T.B_y0 .nil q19 (q00 (q0u (q0a (K:=K) rfl) (pv 0) q06) q05)))),?_⟩;exact q0m (O':=[]) (Nms:=["scheme"]) (f:=b_y1) (by unfold b_y1;exact(q16 rfl (q0j n_y0 (q03 (q0d q0x (q02 (i:=0)) me_int) q09)) rfl)) h
abbrev w0u:=(sSeq (sSet 2 (mOp2 dXor (mVar 2) (mOp2 dAnd (mVar 1) (mRet (.int 1))))) (sSet 1 (mOp2 dDiv (mVar 1) (mRet (.int 2)))))
abbrev w2t:=(q0g (mOp2 dGt (mVar 1) (mRet (.int 0))))
def b_y2:RhO:=
 (sSeq (sSet 1 (mVar 0))
 (sSeq (sSet 2 (mRet (.int 0)))
 (sSeq (q3e w2t
   w0u 1000)
 (sRet (mVar 2)))))
def f_y2:List D->Option D:=runP false 1 3 b_y2
theorem n_y2:q1r 1 f_y2:=q1e
theorem quv(T:Txt K mg a):FnOk P w K mg base CX0 1 a.f_y2 a.fd_y2 ["number"] (spP K false 1 f_y2):=by
 refine T.F_y2.ok sc_y2 (λ_ _ _ _ h=>h.1) (λcdv A outer s H vs Q E hr h=>?_)
 ·refine⟨_,(q07 (zsA 1 sc_y2.nd (pv 0)) (q07 (zsA 2 sc_y2.nd q06) (q07 (qio jx (q12 qur (pv 1) q06 (q1b _)) (q07 (zsA 2 sc_y2.nd (q13 qqr (pv 2) (q13 qa0 (pv 1) q06))) (q0b (zsA 1 sc_y2.nd (q13 qb7 (pv 1) q06))))) (q0b (q0t (pv 2)))))),?_⟩;exact q0m (O':=[]) (Nms:=["number","left","odd"]) (f:=b_y2) (by unfold b_y2;exact(q0f (O1:=[]) (q1a (q02 (i:=0))) (q0f (O1:=[]) (q1a me_int) (q0f (O1:=[]) (qj4 (O':=[]) (q14 (q1c q8z (q02 (i:=1)) me_int.mb)) rfl (q0f (O1:=[]) (q1a (q0d qrt (q02 (i:=2)) (q0d qa1 (q02 (i:=1)) me_int))) (q1a (q0d qg5 (q02 (i:=1)) me_int)))) (q16 rfl (q02 (i:=2)) rfl))))) h
abbrev w2r:=(mSeq (mOp2 dIx (mVar 0) (mRet (.int 1))))
abbrev w1w:=(sSet 3 (mOp2 dAdd (mOp2 q3u (mRet (.int 2)) (mVar 1)) (mVar 2)))
abbrev w4b:=(q01 (mOp2 dAnd (mVar 1) (mVar 0)) mNil)
def b_y3:RhO:=
 (sSeq w1w
 (sSeq (sSet 4 (mOf (q1t 1 [3] none w2r (gSet 0) (mRet true) (q0k f_y2 w4b))))
 (sRet (mTup (q01 (mOp2 dMod (mVar 3) (q0k f_y1 (q01 (mVar 0) mNil))) (q01 (mOp1 q5i (mVar 4)) mNil))))))
def f_y3:List D->Option D:=runP false 3 5 b_y3
theorem n_y3:q1r 3 f_y3:=q1e
theorem qrd(T:Txt K mg a):FnOk P w K mg base CX0 3 a.f_y3 a.fd_y3 ["scheme","room","bit"] (spP K false 3 f_y3):=by
 have G_y2:=@quv P w K mg base a T;have G_y1:=@qj1 P w K mg base a T;refine T.F_y3.ok sc_y3 (λ_ _ _ _ h=>h.1) (λcdv A outer s H vs Q E hr h=>?_)
 ·refine⟨_,(q07 (zsA 3 sc_y3.nd (q13 (q21 (K:=K) rfl) (q13 (q3o (K:=K) rfl) q06 (pv 1)) (pv 2))) (q07 (q5k (k:=4) (sc:=q04 s_y3) (N0:=w2v) rfl rfl rfl (show q1v _ _ ["tap","window"] 1 [3] _=true by decide+kernel) sc_y3.nd rfl (Or.inl rfl) (q2a (K:=K) rfl (q0u (q0a (K:=K) rfl) (pv 0) q06)) (λ_ _ _ _ _=>(q0o (i:=0) (show List.Nodup (["tap","window"]:List Str)from(by decide+kernel)) rfl (Or.inl rfl))) (q1o (by decide)) (λ_ _ _ _ _=>q27) (λ_ _ _ _ _=>(q0h G_y2 hr.m (by rfl) T.mg_y2 T.F_y2.kp T.B_y2 .nil q19 (q00 (q13 qa0 (pv 1) (pv 0)) q05)))) (q0b (q0t (q49 (q00 (q13 q2k (pv 3) (q0h G_y1 hr.m (by rfl) T.mg_y1 T.F_y1.kp T.B_y1 .nil q19 (q00 (pv 0) q05))) (q00 (q2q (q3v (K:=K) rfl) (by rfl) T.z_tuple (by rfl) (q00 (pv 4) q05)) q05))))))),?_⟩;exact q0m (O':=[]) (Nms:=w2v) (f:=b_y3) (by unfold b_y3;exact(q0f (O1:=[]) (q1a (q0d q2t (q0d q3p me_int (q02 (i:=1))) (q02 (i:=2)))) (q0f (O1:=[]) (q7h (q1w (bw:=none) (q2z (q0d q0x (q02 (i:=0)) me_int)) (q0q (i:=0)) q32 (q0j n_y2 (q03 (q0d qa1 (q02 (i:=1)) (q02 (i:=0))) q09))) rfl (by decide)) (q16 rfl (q4b (q03 (q0d q2l (q02 (i:=3)) (q0j n_y1 (q03 (q02 (i:=0)) q09))) (q03 (q50 q63 (q02 (i:=4))) q09))) rfl)))) h
def b_y4:RhO:=
 (sSeq (sSet 3 (mOp2 dIx (mVar 0) (mRet (.int 2))))
 (sSeq (sSet 4 (mOp2 dIx (mVar 3) (mOp2 dMod (mVar 1) (mOp1 dLen (mVar 3)))))
 (sRet (mOp1 q5i (mOf (q1t 2 [] none (mZip (q01 (mVar 2) (q01 (mVar 4) mNil))) (q2i 2 (q0w (gSet 0) (q0w (gSet 1) q2o))) (q0g (mOp2 dEq (mVar 1) (mRet (.int 1)))) (mVar 0)))))))
def f_y4:List D->Option D:=runP false 3 5 b_y4
theorem n_y4:q1r 3 f_y4:=q1e
theorem qr6(T:Txt K mg a):FnOk P w K mg base CX0 1 a.f_y4 a.fd_y4 w3t (spP K false 3 f_y4):=by
 refine T.F_y4.ok sc_y4 (λ_ _ _ _ h=>h.1) (λcdv A outer s H vs Q E hr h=>?_)
 ·refine⟨_,(q07 (zsA 3 sc_y4.nd (q0u (q0a (K:=K) rfl) (pv 0) q06)) (q07 (zsA 4 sc_y4.nd (q0u (q0a (K:=K) rfl) (pv 3) (q13 q2k (pv 1) (q11 (q1q (K:=K) rfl) (by rfl) T.z_len (by rfl) (q00 (pv 3) q05))))) (q0b (q0t (q2q (q3v (K:=K) rfl) (by rfl) T.z_tuple (by rfl) (q00 (q2g (sc:=q04 s_y4) (N0:=w2w) rfl rfl rfl (show q1v _ _ ["sign","chosen"] 2 [] _=true by decide+kernel) (q5l (K:=K) rfl (by rfl) T.z_zip (q00 (pv 2) (q00 (pv 4) q05))) (λ_ _ _ _ _=>(q3n (K:=K) rfl rfl (q1n (q0o (i:=0) (show List.Nodup (["sign","chosen"]:List Str)from(by decide+kernel)) rfl (Or.inl rfl)) (q1n (q0o (i:=1) (show List.Nodup (["sign","chosen"]:List Str)from(by decide+kernel)) rfl (Or.inl rfl)) q3m)))) (q5y (by decide) (by decide)) (λ_ _ _ _ _=>(q78 (q12 (q2f (K:=K) rfl hr.units) (pv 1) q06 (q1b _)))) (λ_ _ _ _ _=>(pv 0))) q05)))))),?_⟩;exact q0m (O':=[]) (Nms:=w2w) (f:=b_y4) (by unfold b_y4;exact(q0f (O1:=[]) (q1a (q0d q0x (q02 (i:=0)) me_int)) (q0f (O1:=[]) (q1a (q0d q0x (q02 (i:=3)) (q0d q2l (q02 (i:=1)) (q1i q3a q26)))) (q16 rfl (q50 q63 (q1h (q1w (bw:=none) (q7l (q03 (q02 (i:=2)) (q03 (q02 (i:=4)) q09))) (q4q (q1p (q0q (i:=0)) (q1p (q0q (i:=1)) q3s))) (q14 (q1c os_eq (q02 (i:=1)) me_int.mb)) (q02 (i:=0))))) rfl)))) h
abbrev w3b:=(mOp2 dEq (mOp2 dIx (mVar 0) (mRet (.int 3))) (mRet (.str "ring")))
abbrev w09:=w3b
def b_y5:RhO:=
 (sRet w09)
def f_y5:List D->Option D:=runP false 1 1 b_y5
theorem n_y5:q1r 1 f_y5:=q1e
theorem qmw(T:Txt K mg a):FnOk P w K mg base CX0 1 a.f_y5 a.fd_y5 ["scheme"] (spP K false 1 f_y5):=by
 refine T.F_y5.ok que (λ_ _ _ _ h=>h.1) (λcdv A outer s H vs Q E hr h=>?_)
 ·refine⟨_,(q0b (q0t (q79 (q2f (K:=K) rfl hr.units) (q0u (q0a (K:=K) rfl) (pv 0) q06) q2s (q1b _)))),?_⟩;exact q0m (O':=[]) (Nms:=["scheme"]) (f:=b_y5) (by unfold b_y5;exact(q16 rfl (q1c os_eq (q0d q0x (q02 (i:=0)) me_int) me_str.mb) rfl)) h
def b_y6:RhO:=
 (sIf (mAnd (q0g (q0k f_y5 (q01 (mVar 0) mNil))) (q0g (mOp2 dLt (mVar 1) (mOp2 dIx (mVar 0) (mRet (.int 0))))))
   (λ_=>none)
   sNil)
def f_y6:List D->Option D:=runP false 2 2 b_y6
theorem n_y6:q1r 2 f_y6:=q1e
theorem quu(T:Txt K mg a):FnOk P w K mg base CX0 2 a.f_y6 a.fd_y6 ["scheme","size"] (spP K false 2 f_y6):=by
 have G_y5:=@qmw P w K mg base a T;refine T.F_y6.ok qud (λ_ _ _ _ h=>h.1) (λcdv A outer s H vs Q E hr h=>?_)
 ·refine⟨_,(q0b (q2w (PW.pt (pw_and (q3l (q0h G_y5 hr.m (by rfl) T.mg_y5 T.F_y5.kp T.B_y5 .nil q19 (q00 (pv 0) q05))) (pw_and1 (q12 qdq (pv 1) (q0u (q0a (K:=K) rfl) (pv 0) q06) (q1b _))))) (q0b qc1) q1j)),?_⟩;exact q0m (O':=[]) (Nms:=["scheme","size"]) (f:=b_y6) (by unfold b_y6;exact(q2x (qlq (q3r (q0j n_y5 (q03 (q02 (i:=0)) q09))) (q14 (q1c q8z (q02 (i:=1)) (q0d q0x (q02 (i:=0)) me_int).mb))) qcg (q1y rfl))) h
abbrev w30:=(q0g (mOp2 dEq (mOp2 dIx (mVar 0) (mRet (.int 3))) (mRet (.str "ended"))))
def b_y7:RhO:=
 (sRet (mIf w30 (mOp2 dIx (mVar 0) (mRet (.int 0))) (mRet (.int 0))))
def f_y7:List D->Option D:=runP false 1 1 b_y7
theorem n_y7:q1r 1 f_y7:=q1e
theorem qut(T:Txt K mg a):FnOk P w K mg base CX0 1 a.f_y7 a.fd_y7 ["scheme"] (spP K false 1 f_y7):=by
 refine T.F_y7.ok quc (λ_ _ _ _ h=>h.1) (λcdv A outer s H vs Q E hr h=>?_)
 ·refine⟨_,(q0b (q0t (q3j (q12 (q2f (K:=K) rfl hr.units) (q0u (q0a (K:=K) rfl) (pv 0) q06) q2s (q1b _)) (q0u (q0a (K:=K) rfl) (pv 0) q06) q06))),?_⟩;exact q0m (O':=[]) (Nms:=["scheme"]) (f:=b_y7) (by unfold b_y7;exact(q16 rfl (qa4 (q14 (q1c os_eq (q0d q0x (q02 (i:=0)) me_int) me_str.mb)) (q0d q0x (q02 (i:=0)) me_int) me_int) rfl)) h
def b_y8:RhO:=
 (q8t (mIfL (q0g (q0k f_y5 (q01 (mVar 0) mNil))) (q6s upsO (q0k f_y1 (q01 (mVar 0) mNil))) (mLst (q01 (mRet (.int 0)) mNil))))
def f_y8:List D->Option D:=runP true 1 1 b_y8
theorem n_y8:q1r 1 f_y8:=q1e
theorem qus(T:Txt K mg a):FnOk P w K mg base CX0 3 a.f_y8 a.fd_y8 ["scheme"] (spP K true 1 f_y8):=by
 have G_y5:=@qmw P w K mg base a T;have G_y1:=@qj1 P w K mg base a T;refine T.F_y8.ok qub (λ_ _ _ _ h=>h.1) (λcdv A outer s H vs Q E hr h=>?_)
 ·refine⟨_,(q0b (q0t (q3j (q3l (q0h G_y5 hr.m (by rfl) T.mg_y5 T.F_y5.kp T.B_y5 .nil q19 (q00 (pv 0) q05))) (qfs rfl (by rfl) T.z_list (by rfl) T.z_range (q0h G_y1 hr.m (by rfl) T.mg_y1 T.F_y1.kp T.B_y1 .nil q19 (q00 (pv 0) q05))) (q2p (q00 q06 q05))))),?_⟩;exact q0m (O':=[]) (Nms:=["scheme"]) (f:=b_y8) (by unfold b_y8;exact(q7i rfl (qvq (q3r (q0j n_y5 (q03 (q02 (i:=0)) q09))) (qgd (q0j n_y1 (q03 (q02 (i:=0)) q09))) (q2y (q03 me_int q09))) rfl)) h
def b_y9:RhO:=
 (sSeq (qaw (q0k f_y6 (q01 (mVar 0) (q01 (mVar 1) mNil))))
 (sRet (mOp2 dAdd (mVar 1) (q0k f_y7 (q01 (mVar 0) mNil)))))
def f_y9:List D->Option D:=runP false 2 2 b_y9
theorem n_y9:q1r 2 f_y9:=q1e
theorem qqw(T:Txt K mg a):FnOk P w K mg base CX0 3 a.f_y9 a.fd_y9 ["scheme","size"] (spP K false 2 f_y9):=by
 have G_y6:=@quu P w K mg base a T;have G_y7:=@qut P w K mg base a T;refine T.F_y9.ok qua (λ_ _ _ _ h=>h.1) (λcdv A outer s H vs Q E hr h=>?_)
 ·refine⟨_,(q07 (q3b (q0h G_y6 hr.m (by rfl) T.mg_y6 T.F_y6.kp T.B_y6 .nil q19 (q00 (pv 0) (q00 (pv 1) q05)))) (q0b (q0t (q13 (q21 (K:=K) rfl) (pv 1) (q0h G_y7 hr.m (by rfl) T.mg_y7 T.F_y7.kp T.B_y7 .nil q19 (q00 (pv 0) q05)))))),?_⟩;exact q0m (O':=[]) (Nms:=["scheme","size"]) (f:=b_y9) (by unfold b_y9;exact(q0f (O1:=[]) (qgb (q0j n_y6 (q03 (q02 (i:=0)) (q03 (q02 (i:=1)) q09))) rfl) (q16 rfl (q0d q2t (q02 (i:=1)) (q0j n_y7 (q03 (q02 (i:=0)) q09))) rfl))) h
abbrev w0n:=(mOp1 dLen (q0k f_y4 (q01 (mVar 0) (q01 (mVar 4) (q01 (mVar 2) mNil)))))
abbrev w41:=(sExt 3 (mRep (mLst (q01 (mVar 4) mNil)) w0n))
abbrev w3e:=(q2u (q01 (q0k f_y9 (q01 (mVar 0) (q01 (mVar 1) mNil))) mNil))
def qks:RhO:=
 (sSeq (sSet 2 (mOp2 dIx (q0k f_y3 (q01 (mVar 0) (q01 (mRet (.int 0)) (q01 (mRet (.int 0)) mNil)))) (mRet (.int 1))))
 (sSeq (sOwn 3 (mLst mNil))
 (sSeq (sFor w3e (gSet 4)
   w41)
 (q5v 3))))
def f_y10:List D->Option D:=runP true 2 5 qks
theorem qsb:q1r 2 f_y10:=q1e
theorem qlm(T:Txt K mg a):FnOk P w K mg base CX0 4 a.f_y10 a.fd_y10 ["scheme","size"] (spP K true 2 f_y10):=by
 have G_y3:=@qrd P w K mg base a T;have G_y9:=@qqw P w K mg base a T;have G_y4:=@qr6 P w K mg base a T;refine T.F_y10.ok sc_y10 (λ_ _ _ _ h=>h.1) (λcdv A outer s H vs Q E hr h=>?_)
 ·refine⟨_,(q07 (zsA 2 sc_y10.nd (q0u (q0a (K:=K) rfl) (q0h G_y3 hr.m (by rfl) T.mg_y3 T.F_y3.kp T.B_y3 .nil q19 (q00 (pv 0) (q00 q06 (q00 q06 q05)))) q06)) (q07 (zsA 3 sc_y10.nd (q2p q05)) (q07 (q31 jx rfl (q20 (by rfl) T.z_range (q00 (q0h G_y9 hr.m (by rfl) T.mg_y9 T.F_y9.kp T.B_y9 .nil q19 (q00 (pv 0) (q00 (pv 1) q05))) q05)) (zgA 4 sc_y10.nd) (q0b (q3b (q7a PySem.F.plainAttrs_list PySem.F.slot_list_extend PySem.F.type_list_extend q7f (pv 3) (q00 (q13 qg0 (q2p (q00 (pv 4) q05)) (q11 (q1q (K:=K) rfl) (by rfl) T.z_len (by rfl) (q00 (q0h G_y4 hr.m (by rfl) T.mg_y4 T.F_y4.kp T.B_y4 .nil q19 (q00 (pv 0) (q00 (pv 4) (q00 (pv 2) q05)))) q05))) q05))))) (q0b (q0t (pv 3)))))),?_⟩;exact q0m (O':=[]) (Nms:=w46) (f:=qks) (by unfold qks;exact(q0f (O1:=[]) (q1a (q0d q0x (q0j n_y3 (q03 (q02 (i:=0)) (q03 me_int (q03 me_int q09)))) me_int)) (q0f (O1:=[3]) (q5f (q2y q09) rfl) (q0f (O1:=[3]) (q39 (O':=[3]) (q22 (q03 (q0j n_y9 (q03 (q02 (i:=0)) (q03 (q02 (i:=1)) q09))) q09)) rfl (q0q (i:=4)) (qga (by decide) (qgc (q2y (q03 (q02 (i:=4)) q09)) (q1i q3a (q0j n_y4 (q03 (q02 (i:=0)) (q03 (q02 (i:=4)) (q03 (q02 (i:=2)) q09)))).mb)) rfl)) (q6b rfl (by first|decide|simp) rfl (by first|decide|simp)))))) h
theorem qrp(T:Txt K mg a):FnOk P w K mg base CX0 1 a.f_y11 a.fd_y11 ["self","bit"] (qel a.c_Clear ["bit"]):=by
 refine T.F_y11.ok qq4 (λvs H Q E h=>?_) (λcdv A outer s H vs Q E hr h=>?_)
 ·obtain⟨x,dx,args,rfl,hl,_⟩:=h;exact congrArg Nat.succ hl
 ·obtain⟨x,dx,args,rfl,hl,hx,k⟩:=h
  match args,hl,k with
  | [b0],_,k=>
   refine⟨_,(q0b (qfn (pv 0) (pv 1) rfl)),?_⟩;refine⟨_,rfl,_,rfl,x,_,dx,_,rfl,hx,T.cl_Clear,T.no_Clear_bit,(by show 0<1000;decide),?_⟩;exact k
def qkr:RhO:=
 (sRet (mIf (q0g (mOp2 dEq (mVar 1) (mFld "Clear" "bit" (mVar 0)))) (mRet (.int 0)) (mRet (.int 1))))
def f_y13:List D->Option D:=runP false 2 2 qkr
theorem qvo:q1r 2 f_y13:=q1e
theorem qro(T:Txt K mg a):FnOk P w K mg base CX0 1 a.f_y13 a.fd_y13 ["self","bit"] (spP K false 2 f_y13):=by
 refine T.F_y13.ok qq3 (λ_ _ _ _ h=>h.1) (λcdv A outer s H vs Q E hr h=>?_)
 ·refine⟨_,(q0b (q0t (q3j (q12 (q2f (K:=K) rfl hr.units) (pv 1) (qb3 (K:=K) rfl (pv 0) rfl) (q1b _)) q06 q06))),?_⟩;exact q0m (O':=[]) (Nms:=["self","bit"]) (f:=qkr) (by unfold qkr;exact(q16 rfl (qa4 (q14 (q1c os_eq (q02 (i:=1)) (qgj T.ns_Clear T.cl_Clear T.no_Clear_bit (q02 (i:=0))).mb)) me_int me_int) rfl)) h
def qkq:RhO:=
 (sRet (mRet (.int 0)))
def f_y15:List D->Option D:=runP false 2 2 qkq
theorem qvn:q1r 2 f_y15:=q1e
theorem qrn(T:Txt K mg a):FnOk P w K mg base CX0 1 a.f_y15 a.fd_y15 ["self","bit"] (spP K false 2 f_y15):=by
 refine T.F_y15.ok qq2 (λ_ _ _ _ h=>h.1) (λcdv A outer s H vs Q E hr h=>?_)
 ·refine⟨_,(q0b (q0t q06)),?_⟩;exact q0m (O':=[]) (Nms:=["self","bit"]) (f:=qkq) (by unfold qkq;exact(q16 rfl me_int rfl)) h
theorem qrm(T:Txt K mg a):FnOk P w K mg base CX0 1 a.f_y16 a.fd_y16 ["self","zero","one"] (qel a.c_Soft ["zero","one"]):=by
 refine T.F_y16.ok qq1 (λvs H Q E h=>?_) (λcdv A outer s H vs Q E hr h=>?_)
 ·obtain⟨x,dx,args,rfl,hl,_⟩:=h;exact congrArg Nat.succ hl
 ·obtain⟨x,dx,args,rfl,hl,hx,k⟩:=h
  match args,hl,k with
  | [b0,b1],_,k=>
   refine⟨_,(q07 (qfn (pv 0) (pv 1) rfl) (q0b (qfn (pv 0) (pv 2) rfl))),?_⟩;refine⟨_,rfl,_,rfl,x,_,dx,_,rfl,hx,T.cl_Soft,T.no_Soft_zero,(by show 0<1000;decide),?_⟩;refine⟨_,rfl,_,rfl,x,_,dx,_,rfl,q0y,T.cl_Soft,T.no_Soft_one,(by show 1<1000;decide),?_⟩;rw[qef];have e:(putF "one" b1 (putF "zero" b0 []))=([("zero",b0),("one",b1)]:List (Str×V)):=by
    have hne:¬(("zero":Str)="one"):=by decide+kernel
    simp[putF,hne]
   rw[e];exact k
def qkp:RhO:=
 (sRet (mIf (q0g (mOp2 dEq (mVar 1) (mRet (.int 1)))) (mFld "Soft" "one" (mVar 0)) (mFld "Soft" "zero" (mVar 0))))
def f_y18:List D->Option D:=runP false 2 2 qkp
theorem qvm:q1r 2 f_y18:=q1e
theorem qrl(T:Txt K mg a):FnOk P w K mg base CX0 1 a.f_y18 a.fd_y18 ["self","bit"] (spP K false 2 f_y18):=by
 refine T.F_y18.ok qq0 (λ_ _ _ _ h=>h.1) (λcdv A outer s H vs Q E hr h=>?_)
 ·refine⟨_,(q0b (q0t (q3j (q12 (q2f (K:=K) rfl hr.units) (pv 1) q06 (q1b _)) (qb3 (K:=K) rfl (pv 0) rfl) (qb3 (K:=K) rfl (pv 0) rfl)))),?_⟩;exact q0m (O':=[]) (Nms:=["self","bit"]) (f:=qkp) (by unfold qkp;exact(q16 rfl (qa4 (q14 (q1c os_eq (q02 (i:=1)) me_int.mb)) (qgj T.ns_Soft T.cl_Soft T.no_Soft_one (q02 (i:=0))) (qgj T.ns_Soft T.cl_Soft T.no_Soft_zero (q02 (i:=0)))) rfl)) h
abbrev w35:=(q0g (mOp2 dEq (mOp2 dIx (mVar 0) (mRet (.int 0))) (mRet (.str "gap"))))
abbrev w31:=(q0g (mOp2 dEq (mOp2 dIx (mVar 0) (mRet (.int 0))) (mRet (.str "clear"))))
def qko:RhO:=
 (sSeq (sIf w31
   (sRet (qgm "Clear" ["bit"] (q01 (mOp2 dIx (mVar 0) (mRet (.int 1))) mNil)))
   sNil)
 (sSeq (sIf w35
   (sRet (qgl "Gap"))
   sNil)
 (sRet (qgm "Soft" ["zero","one"] (q01 (mOp2 dIx (mVar 0) (mRet (.int 1))) (q01 (mOp2 dIx (mVar 0) (mRet (.int 2))) mNil))))))
def f_y19:List D->Option D:=runP false 1 1 qko
theorem qvl:q1r 1 f_y19:=q1e
theorem qrk(T:Txt K mg a):FnOk P w K mg base CX0 3 a.f_y19 a.fd_y19 ["told"] (spP K false 1 f_y19):=by
 have G_y11:=@qrp P w K mg base a T;have G_y16:=@qrm P w K mg base a T;refine T.F_y19.ok qpz (λ_ _ _ _ h=>h.1) (λcdv A outer s H vs Q E hr h=>?_)
 ·refine⟨_,(q07 (q2w (q12 (q2f (K:=K) rfl hr.units) (q0u (q0a (K:=K) rfl) (pv 0) q06) q2s (q1b _)) (q0b (q0t (qfr T.mk_Clear G_y11 hr.m (by rfl) T.mg_Clear T.B_y11 .nil q19 (q00 (q0u (q0a (K:=K) rfl) (pv 0) q06) q05)))) q1j) (q07 (q2w (q12 (q2f (K:=K) rfl hr.units) (q0u (q0a (K:=K) rfl) (pv 0) q06) q2s (q1b _)) (q0b (q0t (qit T.mk_Gap (by rfl) T.mg_Gap))) q1j) (q0b (q0t (qfr T.mk_Soft G_y16 hr.m (by rfl) T.mg_Soft T.B_y16 .nil q19 (q00 (q0u (q0a (K:=K) rfl) (pv 0) q06) (q00 (q0u (q0a (K:=K) rfl) (pv 0) q06) q05))))))),?_⟩;exact q0m (O':=[]) (Nms:=["told"]) (f:=qko) (by unfold qko;exact(q0f (O1:=[]) (q2x (q14 (q1c os_eq (q0d q0x (q02 (i:=0)) me_int) me_str.mb)) (q16 rfl (qgi T.ns_Clear (q03 (q0d q0x (q02 (i:=0)) me_int) q09)) rfl) (q1y rfl)) (q0f (O1:=[]) (q2x (q14 (q1c os_eq (q0d q0x (q02 (i:=0)) me_int) me_str.mb)) (q16 rfl (qj6 T.ns_Gap) rfl) (q1y rfl)) (q16 rfl (qgi T.ns_Soft (q03 (q0d q0x (q02 (i:=0)) me_int) (q03 (q0d q0x (q02 (i:=0)) me_int) q09))) rfl)))) h
abbrev w27:=(mOf (q1m f_y10 (q01 (mVar 0) (q01 (mVar 1) mNil))))
def qkn:RhO:=
 (sSeq (sSet 3 w27)
 (sIf (q0g (mOp2 dNe (mOp1 dLen (mVar 2)) (mOp1 dLen (mVar 3))))
   (λ_=>none)
   sNil))
def f_y20:List D->Option D:=runP false 3 4 qkn
theorem qvk:q1r 3 f_y20:=q1e
theorem qrj(T:Txt K mg a):FnOk P w K mg base CX0 5 a.f_y20 a.fd_y20 w0p (spP K false 3 f_y20):=by
 have G_y10:=@qlm P w K mg base a T;refine T.F_y20.ok sc_y20 (λ_ _ _ _ h=>h.1) (λcdv A outer s H vs Q E hr h=>?_)
 ·refine⟨_,(q07 (zsA 3 sc_y20.nd (q0h G_y10 hr.m (by rfl) T.mg_y10 T.F_y10.kp T.B_y10 .nil q19 (q00 (pv 0) (q00 (pv 1) q05)))) (q0b (q2w (q12 (q5b (K:=K) rfl hr.units) (q11 (q1q (K:=K) rfl) (by rfl) T.z_len (by rfl) (q00 (pv 2) q05)) (q11 (q1q (K:=K) rfl) (by rfl) T.z_len (by rfl) (q00 (pv 3) q05)) (q1b _)) (q0b qc1) q1j))),?_⟩;exact q0m (O':=[]) (Nms:=["scheme","size","heard","places"]) (f:=qkn) (by unfold qkn;exact(q0f (O1:=[]) (q1a (q1h (q25 qsb (q03 (q02 (i:=0)) (q03 (q02 (i:=1)) q09))))) (q2x (q14 (q1c q82 (q1i q3a q26) (q1i q3a q26).mb)) qcg (q1y rfl)))) h
abbrev w08:=(mOrE (q5m "Clear" "cost" f_y13 (mVar 0) (q01 (mVar 1) mNil)) (mOrE (q5m "Gap" "cost" f_y15 (mVar 0) (q01 (mVar 1) mNil)) (q5m "Soft" "cost" f_y18 (mVar 0) (q01 (mVar 1) mNil))))
def qkm:RhO:=
 (sRet (mOp1 dSum (mOf (q1t 2 [] none (mZip (q01 (mVar 0) (q01 (mVar 1) mNil))) (q2i 2 (q0w (gSet 0) (q0w (gSet 1) q2o))) (mRet true) w08))))
def f_y21:List D->Option D:=runP false 2 2 qkm
theorem qvj:q1r 2 f_y21:=q1e
theorem qri(T:Txt K mg a):FnOk P w K mg base CX0 2 a.f_y21 a.fd_y21 ["signs","bits"] (spP K false 2 f_y21):=by
 have G_y18:=@qrl P w K mg base a T;have G_y15:=@qrn P w K mg base a T;have G_y13:=@qro P w K mg base a T;refine T.F_y21.ok qpy (λ_ _ _ _ h=>h.1) (λcdv A outer s H vs Q E hr h=>?_)
 ·refine⟨_,(q0b (q0t (q11 (q70 (K:=K) rfl rfl) (by rfl) T.z_sum (by rfl) (q00 (q2g (sc:=q04 qdl) (N0:=["signs","bits"]) rfl rfl rfl (show q1v _ _ ["sign","bit"] 2 [] _=true by decide+kernel) (q5l (K:=K) rfl (by rfl) T.z_zip (q00 (pv 0) (q00 (pv 1) q05))) (λ_ _ _ _ _=>(q3n (K:=K) rfl rfl (q1n (q0o (i:=0) (show List.Nodup (["sign","bit"]:List Str)from(by decide+kernel)) rfl (Or.inl rfl)) (q1n (q0o (i:=1) (show List.Nodup (["sign","bit"]:List Str)from(by decide+kernel)) rfl (Or.inl rfl)) q3m)))) (q5y (by decide) (by decide)) (λ_ _ _ _ _=>q27) (λ_ _ _ _ _=>(PE.or (qb2 (pv 0) T.cl_Clear T.m_y13 G_y13 hr.m T.B_y13 .nil q19 (q00 (pv 1) q05)) (PE.or (qb2 (pv 0) T.cl_Gap T.m_y15 G_y15 hr.m T.B_y15 .nil q19 (q00 (pv 1) q05)) (qb2 (pv 0) T.cl_Soft T.m_y18 G_y18 hr.m T.B_y18 .nil q19 (q00 (pv 1) q05)))))) q05)))),?_⟩;exact q0m (O':=[]) (Nms:=["signs","bits"]) (f:=qkm) (by unfold qkm;exact(q16 rfl (q1i qcr (q1h (q1w (bw:=none) (q7l (q03 (q02 (i:=0)) (q03 (q02 (i:=1)) q09))) (q4q (q1p (q0q (i:=0)) (q1p (q0q (i:=1)) q3s))) q32 (qlt (qb9 T.ns_Clear qvo (q02 (i:=0)) (q03 (q02 (i:=1)) q09)) (qlt (qb9 T.ns_Gap qvn (q02 (i:=0)) (q03 (q02 (i:=1)) q09)) (qb9 T.ns_Soft qvm (q02 (i:=0)) (q03 (q02 (i:=1)) q09)))))).mb) rfl)) h
def qed:Fd:=
 (q8h 3 (q2i 2 (q0w (gSet 4) (q0w (gSet 5) q2o))) (mZip (q01 w27 (q01 (mVar 2) mNil)))
   (q3f 3 (mVar 4) (q01 (q0k f_y19 (q01 (mVar 5) mNil)) mNil)))
def qe0:RhL:=w3e
def qab:List D->Option (List (List D)):=q8v 3 6 3 qe0 qed
def f_y22:List D->Option D:=λds=>qae (qab ds)
theorem qvi:q1r 3 f_y22:=qff
theorem qn0(T:Txt K mg a):FnOk P w K mg base CX0 5 a.f_y22 a.fd_y22 w0p (spD K 3 qab):=by
 have G_y9:=@qqw P w K mg base a T;have G_y10:=@qlm P w K mg base a T;have G_y19:=@qrk P w K mg base a T;refine T.F_y22.ok sc_y22 (λvs H Q E h=>h.1) (λcdv A outer s H vs Q E hr h=>?_);refine⟨_,(q07 (q5k (k:=3) (sc:=q04 qdk) (N0:=w2a) rfl rfl rfl (show q1v _ _ ["number"] 1 [] _=true by decide+kernel) sc_y22.nd rfl (Or.inl rfl) (q20 (by rfl) T.z_range (q00 (q0h G_y9 hr.m (by rfl) T.mg_y9 T.F_y9.kp T.B_y9 .nil q19 (q00 (pv 0) (q00 (pv 1) q05))) q05)) (λ_ _ _ _ _=>(q0o (i:=0) (show List.Nodup (["number"]:List Str)from(by decide+kernel)) rfl (Or.inl rfl))) (q1o (by decide)) (λ_ _ _ _ _=>q27) (λ_ _ _ _ _=>(q2p q05))) (q07 (q31 jx rfl (q5l (K:=K) rfl (by rfl) T.z_zip (q00 (q0h G_y10 hr.m (by rfl) T.mg_y10 T.F_y10.kp T.B_y10 .nil q19 (q00 (pv 0) (q00 (pv 1) q05))) (q00 (pv 2) q05))) (q3n (K:=K) rfl rfl (q1n (zgA 4 sc_y22.nd) (q1n (zgA 5 sc_y22.nd) q3m))) (q0b (q3b (q7a PySem.F.plainAttrs_list PySem.F.slot_list_append PySem.F.type_list_append q3h (q0u (q0a (K:=K) rfl) (pv 3) (pv 4)) (q00 (q0h G_y19 hr.m (by rfl) T.mg_y19 T.F_y19.kp T.B_y19 .nil q19 (q00 (pv 5) q05)) q05))))) (q0b (q0t (pv 3))))),?_⟩;exact q9l (Nms:=w2a) (i:=3) (m:=1) (js:=[]) (fi:=qe0) (f:=qed) (by
  unfold qe0;exact(q22 (q03 (q0j n_y9 (q03 (q02 (i:=0)) (q03 (q02 (i:=1)) q09))) q09))) (by
  unfold qed;exact(qcf (q7l (q03 (q1h (q25 qsb (q03 (q02 (i:=0)) (q03 (q02 (i:=1)) q09)))) (q03 (q02 (i:=2)) q09))) (q4q (q1p (q0q (i:=4)) (q1p (q0q (i:=5)) q3s))) (by decide) (q8d (q02 (i:=4)) (q03 (q0j qvl (q03 (q02 (i:=5)) q09)) q09)))) h
theorem qrh(T:Txt K mg a):FnOk P w K mg base CX0 5 a.f_y22 a.fd_y22 w0p (spP K false 3 f_y22):=(qn0 T).imp λ_ _ _ _ h=>qpk h
abbrev w3w:=(q01 (mVar 0) (q01 (mVar 3) (q01 (mVar 4) mNil)))
def qkl:RhO:=
 (sSeq (sSet 5 (q0k f_y3 w3w))
 (sRet (mTup (q01 (mOp2 dIx (mVar 5) (mRet (.int 0))) (q01 (q0k f_y21 (q01 (mVar 2) (q01 (q0k f_y4 (q01 (mVar 0) (q01 (mVar 1) (q01 (mOp2 dIx (mVar 5) (mRet (.int 1))) mNil)))) mNil))) mNil)))))
def f_y23:List D->Option D:=runP false 5 6 qkl
theorem qvh:q1r 5 f_y23:=q1e
theorem qrg(T:Txt K mg a):FnOk P w K mg base CX0 4 a.f_y23 a.fd_y23 w2x (spP K false 5 f_y23):=by
 have G_y3:=@qrd P w K mg base a T;have G_y4:=@qr6 P w K mg base a T;have G_y21:=@qri P w K mg base a T;refine T.F_y23.ok sc_y23 (λ_ _ _ _ h=>h.1) (λcdv A outer s H vs Q E hr h=>?_)
 ·refine⟨_,(q07 (zsA 5 sc_y23.nd (q0h G_y3 hr.m (by rfl) T.mg_y3 T.F_y3.kp T.B_y3 .nil q19 (q00 (pv 0) (q00 (pv 3) (q00 (pv 4) q05))))) (q0b (q0t (q49 (q00 (q0u (q0a (K:=K) rfl) (pv 5) q06) (q00 (q0h G_y21 hr.m (by rfl) T.mg_y21 T.F_y21.kp T.B_y21 .nil q19 (q00 (pv 2) (q00 (q0h G_y4 hr.m (by rfl) T.mg_y4 T.F_y4.kp T.B_y4 .nil q19 (q00 (pv 0) (q00 (pv 1) (q00 (q0u (q0a (K:=K) rfl) (pv 5) q06) q05)))) q05))) q05)))))),?_⟩;exact q0m (O':=[]) (Nms:=w40) (f:=qkl) (by unfold qkl;exact(q0f (O1:=[]) (q1a (q0j n_y3 (q03 (q02 (i:=0)) (q03 (q02 (i:=3)) (q03 (q02 (i:=4)) q09))))) (q16 rfl (q4b (q03 (q0d q0x (q02 (i:=5)) me_int) (q03 (q0j qvj (q03 (q02 (i:=2)) (q03 (q0j n_y4 (q03 (q02 (i:=0)) (q03 (q02 (i:=1)) (q03 (q0d q0x (q02 (i:=5)) me_int) q09)))) q09))) q09))) rfl))) h
abbrev w0v:=(q01 (mVar 1) (q01 (mVar 2) (q01 (mVar 3) (q01 (mVar 4) (q01 (mVar 0) mNil)))))
def qkk:RhO:=
 (sRet (mOf (q1t 1 [0,1,2,3] none (mSeq (mVar 4)) (gSet 0) (mRet true) (q0k f_y23 w0v))))
def f_y24:List D->Option D:=runP false 5 5 qkk
theorem qvg:q1r 5 f_y24:=q1e
abbrev w4a:List Str:=["bit","scheme","number","signs","room"]
theorem qrf(T:Txt K mg a):FnOk P w K mg base CX0 5 a.f_y24 a.fd_y24 w16 (spP K false 5 f_y24):=by
 have G_y23:=@qrg P w K mg base a T;refine T.F_y24.ok qpx (λ_ _ _ _ h=>h.1) (λcdv A outer s H vs Q E hr h=>?_)
 ·refine⟨_,(q0b (q0t (q2g (sc:=q04 qdj) (N0:=w16) rfl rfl rfl (show q1v _ _ w4a 1 [0,1,2,3] _=true by decide+kernel) (q2a (K:=K) rfl (pv 4)) (λ_ _ _ _ _=>(q0o (i:=0) (show List.Nodup (w4a:List Str)from(by decide+kernel)) rfl (Or.inl rfl))) (q1o (by decide)) (λ_ _ _ _ _=>q27) (λ_ _ _ _ _=>(q0h G_y23 hr.m (by rfl) T.mg_y23 T.F_y23.kp T.B_y23 .nil q19 (q00 (pv 1) (q00 (pv 2) (q00 (pv 3) (q00 (pv 4) (q00 (pv 0) q05)))))))))),?_⟩;exact q0m (O':=[]) (Nms:=w16) (f:=qkk) (by unfold qkk;exact(q16 rfl (q1h (q1w (bw:=none) (q2z (q02 (i:=4))) (q0q (i:=0)) q32 (q0j qvh (q03 (q02 (i:=1)) (q03 (q02 (i:=2)) (q03 (q02 (i:=3)) (q03 (q02 (i:=4)) (q03 (q02 (i:=0)) q09)))))))) rfl)) h
abbrev w1a:=(q2u (q01 (q0k f_y1 (q01 (mVar 0) mNil)) mNil))
abbrev w0w:=(q01 (mVar 1) (q01 (mVar 2) (q01 (mVar 3) (q01 (mVar 0) (q01 (mVar 4) mNil)))))
abbrev w3x:=(q01 (mRet (.int 0)) (q01 (mRet (.int 1)) mNil))
abbrev w0e:=w3x
abbrev w0c:=(q01 (mVar 0) (q01 (mVar 1) (q01 (mVar 2) mNil)))
abbrev w3c:=(sSet 6 (mIf (q0g (mOp2 dLt (mVar 4) (mVar 1))) (mTup w0e) (mTup (q01 (mRet (.int 0)) mNil))))
abbrev w1p:=(sSeq w3c (sMut q2c 3 (q01 (mOf (q1t 1 [0,4,5,6] none w1a (gSet 0) (mRet true) (q0k f_y24 w0w))) mNil)))
def qkj:RhO:=
 (sSeq (qaw (q0k f_y20 w0c))
 (sSeq (sOwn 3 (mLst mNil))
 (sSeq (sFor (qba (q0k f_y22 w0c)) (q2i 2 (q0w (gSet 4) (q0w (gSet 5) q2o)))
   w1p)
 (sRet (mVar 3)))))
def f_y25:List D->Option D:=runP false 3 7 qkj
theorem qsa:q1r 3 f_y25:=q1e
abbrev w48:List Str:=["room","scheme","number","signs","bits"]
theorem qll(T:Txt K mg a):FnOk P w K mg base CX0 6 a.f_y25 a.fd_y25 w0p (spP K false 3 f_y25):=by
 have G_y20:=@qrj P w K mg base a T;have G_y22:=@qrh P w K mg base a T;have G_y1:=@qj1 P w K mg base a T;have G_y24:=@qrf P w K mg base a T;refine T.F_y25.ok sc_y25 (λ_ _ _ _ h=>h.1) (λcdv A outer s H vs Q E hr h=>?_)
 ·refine⟨_,(q07 (q3b (q0h G_y20 hr.m (by rfl) T.mg_y20 T.F_y20.kp T.B_y20 .nil q19 (q00 (pv 0) (q00 (pv 1) (q00 (pv 2) q05))))) (q07 (zsA 3 sc_y25.nd (q2p q05)) (q07 (q31 jx rfl (qfp (K:=K) rfl (by rfl) T.z_enumerate (q0h G_y22 hr.m (by rfl) T.mg_y22 T.F_y22.kp T.B_y22 .nil q19 (q00 (pv 0) (q00 (pv 1) (q00 (pv 2) q05))))) (q3n (K:=K) rfl rfl (q1n (zgA 4 sc_y25.nd) (q1n (zgA 5 sc_y25.nd) q3m))) (q07 (zsA 6 sc_y25.nd (q3j (q12 qdq (pv 4) (pv 1) (q1b _)) (q49 (q00 q06 (q00 q06 q05))) (q49 (q00 q06 q05)))) (q0b (q3b (q7a PySem.F.plainAttrs_list PySem.F.slot_list_append PySem.F.type_list_append q3h (pv 3) (q00 (q2g (sc:=q04 qdi) (N0:=w23) rfl rfl rfl (show q1v _ _ w48 1 [0,4,5,6] _=true by decide+kernel) (q20 (by rfl) T.z_range (q00 (q0h G_y1 hr.m (by rfl) T.mg_y1 T.F_y1.kp T.B_y1 .nil q19 (q00 (pv 0) q05)) q05)) (λ_ _ _ _ _=>(q0o (i:=0) (show List.Nodup (w48:List Str)from(by decide+kernel)) rfl (Or.inl rfl))) (q1o (by decide)) (λ_ _ _ _ _=>q27) (λ_ _ _ _ _=>(q0h G_y24 hr.m (by rfl) T.mg_y24 T.F_y24.kp T.B_y24 .nil q19 (q00 (pv 1) (q00 (pv 2) (q00 (pv 3) (q00 (pv 0) (q00 (pv 4) q05)))))))) q05)))))) (q0b (q0t (pv 3)))))),?_⟩;exact q0m (O':=[]) (Nms:=w23) (f:=qkj) (by unfold qkj;exact(q0f (O1:=[]) (qgb (q0j qvk (q03 (q02 (i:=0)) (q03 (q02 (i:=1)) (q03 (q02 (i:=2)) q09)))) rfl) (q0f (O1:=[3]) (q5f (q2y q09) rfl) (q0f (O1:=[]) (q7g (q39 (O':=[3]) (qgg (q0j qvi (q03 (q02 (i:=0)) (q03 (q02 (i:=1)) (q03 (q02 (i:=2)) q09))))) rfl (q4q (q1p (q0q (i:=4)) (q1p (q0q (i:=5)) q3s))) (q0f (O1:=[3]) (q1a (qa4 (q14 (q1c q8z (q02 (i:=4)) q26)) (q4b (q03 me_int (q03 me_int q09))) (q4b (q03 me_int q09)))) (q8e q4a (by decide) (q03 (q1h (q1w (bw:=none) (q22 (q03 (q0j n_y1 (q03 (q02 (i:=0)) q09)) q09)) (q0q (i:=0)) q32 (q0j qvg (q03 (q02 (i:=1)) (q03 (q02 (i:=2)) (q03 (q02 (i:=3)) (q03 (q02 (i:=0)) (q03 (q02 (i:=4)) q09)))))))) q09) rfl))) rfl) (q16 rfl (q02 (i:=3)) rfl))))) h
abbrev w14:=(mIf (q0g (mOp2 dEq (mVar 0) (mVar 1))) (mRet (.int 0)) (mRet .non))
abbrev w33:=(q0g (mOp2 dEq (mOp2 dIx (mVar 0) (mRet (.int 3))) (mRet (.str "open"))))
abbrev w0a:=w33
abbrev w2y:=(sSet 2 (mIf (q0g (q0k f_y5 (q01 (mVar 0) mNil))) (mVar 1) (mRet (.int 0))))
def qki:RhO:=
 (sSeq (sIf w0a
   (sRet (mOf (mRep (mLst (q01 (mRet (.int 0)) mNil)) (q0k f_y1 (q01 (mVar 0) mNil)))))
   sNil)
 (sSeq w2y
 (sRet (mOf (q1t 1 [2] none w1a (gSet 0) (mRet true) w14)))))
def f_y26:List D->Option D:=runP false 2 3 qki
theorem qs9:q1r 2 f_y26:=q1e
theorem qlk(T:Txt K mg a):FnOk P w K mg base CX0 3 a.f_y26 a.fd_y26 ["scheme","start"] (spP K false 2 f_y26):=by
 have G_y1:=@qj1 P w K mg base a T;have G_y5:=@qmw P w K mg base a T;refine T.F_y26.ok sc_y26 (λ_ _ _ _ h=>h.1) (λcdv A outer s H vs Q E hr h=>?_)
 ·refine⟨_,(q07 (q2w (q12 (q2f (K:=K) rfl hr.units) (q0u (q0a (K:=K) rfl) (pv 0) q06) q2s (q1b _)) (q0b (q0t (q13 qg0 (q2p (q00 q06 q05)) (q0h G_y1 hr.m (by rfl) T.mg_y1 T.F_y1.kp T.B_y1 .nil q19 (q00 (pv 0) q05))))) q1j) (q07 (zsA 2 sc_y26.nd (q3j (q3l (q0h G_y5 hr.m (by rfl) T.mg_y5 T.F_y5.kp T.B_y5 .nil q19 (q00 (pv 0) q05))) (pv 1) q06)) (q0b (q0t (q2g (sc:=q04 qdh) (N0:=["scheme","start","end"]) rfl rfl rfl (show q1v _ _ ["room","end"] 1 [2] _=true by decide+kernel) (q20 (by rfl) T.z_range (q00 (q0h G_y1 hr.m (by rfl) T.mg_y1 T.F_y1.kp T.B_y1 .nil q19 (q00 (pv 0) q05)) q05)) (λ_ _ _ _ _=>(q0o (i:=0) (show List.Nodup (["room","end"]:List Str)from(by decide+kernel)) rfl (Or.inl rfl))) (q1o (by decide)) (λ_ _ _ _ _=>q27) (λ_ _ _ _ _=>(q3j (q12 (q2f (K:=K) rfl hr.units) (pv 0) (pv 1) (q1b _)) q06 q4j))))))),?_⟩;exact q0m (O':=[]) (Nms:=["scheme","start","end"]) (f:=qki) (by unfold qki;exact(q0f (O1:=[]) (q2x (q14 (q1c os_eq (q0d q0x (q02 (i:=0)) me_int) me_str.mb)) (q16 rfl (q1h (qgc (q2y (q03 me_int q09)) (q0j n_y1 (q03 (q02 (i:=0)) q09)))) rfl) (q1y rfl)) (q0f (O1:=[]) (q1a (qa4 (q3r (q0j n_y5 (q03 (q02 (i:=0)) q09))) (q02 (i:=1)) me_int)) (q16 rfl (q1h (q1w (bw:=none) (q22 (q03 (q0j n_y1 (q03 (q02 (i:=0)) q09)) q09)) (q0q (i:=0)) q32 (qa4 (q14 (q1c os_eq (q02 (i:=0)) q26)) me_int me_non))) rfl)))) h
def qhq:RhO:=
 (sSeq (sSet 2 (mOp2 dIx (mVar 1) (mOp2 dIx (mVar 0) (mRet (.int 0)))))
 (sRet (mIf (q0g (mOp2 dIsN (mVar 2) (mRet .non))) (mRet .non) (mOp2 dAdd (mOp2 dIx (mVar 0) (mRet (.int 1))) (mVar 2)))))
def f_y27:List D->Option D:=runP false 2 3 qhq
theorem qs8:q1r 2 f_y27:=q1e
theorem qlj(T:Txt K mg a):FnOk P w K mg base CX0 1 a.f_y27 a.fd_y27 ["taken","behind"] (spP K false 2 f_y27):=by
 refine T.F_y27.ok sc_y27 (λ_ _ _ _ h=>h.1) (λcdv A outer s H vs Q E hr h=>?_)
 ·refine⟨_,(q07 (zsA 2 sc_y27.nd (q0u (q0a (K:=K) rfl) (pv 1) (q0u (q0a (K:=K) rfl) (pv 0) q06))) (q0b (q0t (q3j (q12 qg1 (pv 2) q4j (q1b _)) q4j (q13 (q21 (K:=K) rfl) (q0u (q0a (K:=K) rfl) (pv 0) q06) (pv 2)))))),?_⟩;exact q0m (O':=[]) (Nms:=["taken","behind","rest"]) (f:=qhq) (by unfold qhq;exact(q0f (O1:=[]) (q1a (q0d q0x (q02 (i:=1)) (q0d q0x (q02 (i:=0)) me_int))) (q16 rfl (qa4 (q14 (q1c qfy (q02 (i:=2)) me_non.mb)) me_non (q0d q2t (q0d q0x (q02 (i:=0)) me_int) (q02 (i:=2)))) rfl))) h
def qkh:RhO:=
 (sSeq (sSet 2 (mOf (q1t 1 [1] none (mSeq (mVar 0)) (gSet 0) (mRet true) (q0k f_y27 (q01 (mVar 0) (q01 (mVar 1) mNil))))))
 (sRet (mOp1 q7y (mOf (q1t 1 [] none (mSeq (mVar 2)) (gSet 0) (q0g (mOp2 q56 (mVar 0) (mRet .non))) (mVar 0))))))
def f_y28:List D->Option D:=runP false 2 3 qkh
theorem qvf:q1r 2 f_y28:=q1e
theorem qre(T:Txt K mg a):FnOk P w K mg base CX0 2 a.f_y28 a.fd_y28 ["choices","behind"] (spP K false 2 f_y28):=by
 have G_y27:=@qlj P w K mg base a T;refine T.F_y28.ok sc_y28 (λ_ _ _ _ h=>h.1) (λcdv A outer s H vs Q E hr h=>?_)
 ·refine⟨_,(q07 (q5k (k:=2) (sc:=q04 qar) (N0:=w2u) rfl rfl rfl (show q1v _ _ ["taken","behind"] 1 [1] _=true by decide+kernel) sc_y28.nd rfl (Or.inl rfl) (q2a (K:=K) rfl (pv 0)) (λ_ _ _ _ _=>(q0o (i:=0) (show List.Nodup (["taken","behind"]:List Str)from(by decide+kernel)) rfl (Or.inl rfl))) (q1o (by decide)) (λ_ _ _ _ _=>q27) (λ_ _ _ _ _=>(q0h G_y27 hr.m (by rfl) T.mg_y27 T.F_y27.kp T.B_y27 .nil q19 (q00 (pv 0) (q00 (pv 1) q05))))) (q0b (q0t (qfq (K:=K) rfl rfl (by rfl) T.z_min (q2g (sc:=q04 qar) (N0:=w2u) rfl rfl rfl (show q1v _ _ ["one"] 1 [] _=true by decide+kernel) (q2a (K:=K) rfl (pv 2)) (λ_ _ _ _ _=>(q0o (i:=0) (show List.Nodup (["one"]:List Str)from(by decide+kernel)) rfl (Or.inl rfl))) (q1o (by decide)) (λ_ _ _ _ _=>(q78 (q12 qb6 (pv 0) q4j (q1b _)))) (λ_ _ _ _ _=>(pv 0))) q4j)))),?_⟩;exact q0m (O':=[]) (Nms:=w2u) (f:=qkh) (by unfold qkh;exact(q0f (O1:=[]) (q7h (q1w (bw:=none) (q2z (q02 (i:=0))) (q0q (i:=0)) q32 (q0j qs8 (q03 (q02 (i:=0)) (q03 (q02 (i:=1)) q09)))) rfl (by decide)) (q16 rfl (qgh (q1h (q1w (bw:=none) (q2z (q02 (i:=2))) (q0q (i:=0)) (q14 (q1c qb5 (q02 (i:=0)) me_non.mb)) (q02 (i:=0)))).mb) rfl))) h
abbrev w42:=(sSet 4 (mIxO 2 (mOp1 dNeg (mRet (.int 1)))))
abbrev w18:=(sSeq w42 (sMut q2c 2 (q01 (mOf (q1t 1 [4] none (mSeq (mVar 3)) (gSet 0) (mRet true) (q0k f_y28 (q01 (mVar 0) (q01 (mVar 1) mNil))))) mNil)))
def qkg:RhO:=
 (sSeq (sOwn 2 (mLst (q01 (mVar 1) mNil)))
 (sSeq (sFor (mRev (mVar 0)) (gSet 3)
   w18)
 (sRet (mOf (mRev (mVar 2))))))
def f_y29:List D->Option D:=runP false 2 5 qkg
theorem qs7:q1r 2 f_y29:=q1e
theorem qli(T:Txt K mg a):FnOk P w K mg base CX0 3 a.f_y29 a.fd_y29 ["steps","ends"] (spP K false 2 f_y29):=by
 have G_y28:=@qre P w K mg base a T;refine T.F_y29.ok sc_y29 (λ_ _ _ _ h=>h.1) (λcdv A outer s H vs Q E hr h=>?_)
 ·refine⟨_,(q07 (zsA 2 sc_y29.nd (q2p (q00 (pv 1) q05))) (q07 (q31 jx rfl (qqi (K:=K) rfl (by rfl) T.z_reversed (pv 0)) (zgA 3 sc_y29.nd) (q07 (zsA 4 sc_y29.nd (q0u (q0a (K:=K) rfl) (pv 2) (qql qkw q06))) (q0b (q3b (q7a PySem.F.plainAttrs_list PySem.F.slot_list_append PySem.F.type_list_append q3h (pv 2) (q00 (q2g (sc:=q04 qdg) (N0:=w28) rfl rfl rfl (show q1v _ _ ["choices","behind"] 1 [4] _=true by decide+kernel) (q2a (K:=K) rfl (pv 3)) (λ_ _ _ _ _=>(q0o (i:=0) (show List.Nodup (["choices","behind"]:List Str)from(by decide+kernel)) rfl (Or.inl rfl))) (q1o (by decide)) (λ_ _ _ _ _=>q27) (λ_ _ _ _ _=>(q0h G_y28 hr.m (by rfl) T.mg_y28 T.F_y28.kp T.B_y28 .nil q19 (q00 (pv 0) (q00 (pv 1) q05))))) q05)))))) (q0b (q0t (qmo (K:=K) rfl rfl (by rfl) T.z_list (by rfl) T.z_reversed (pv 2)))))),?_⟩;exact q0m (O':=[]) (Nms:=w28) (f:=qkg) (by unfold qkg;exact(q0f (O1:=[2]) (q5f (q2y (q03 (q02 (i:=1)) q09)) rfl) (q0f (O1:=[]) (q7g (q39 (O':=[2]) (qse (q02 (i:=0))) rfl (q0q (i:=3)) (q0f (O1:=[2]) (q1a (qsj (i:=2) (by decide) (qlu me_int))) (q8e q4a (by decide) (q03 (q1h (q1w (bw:=none) (q2z (q02 (i:=3))) (q0q (i:=0)) q32 (q0j qvf (q03 (q02 (i:=0)) (q03 (q02 (i:=1)) q09))))) q09) rfl))) rfl) (q16 rfl (q1h (qnb (q02 (i:=2)))) rfl)))) h
abbrev w3l:=(q01 (q0k f_y26 (q01 (mVar 0) (q01 (mVar 3) mNil))) mNil)
def qkf:RhO:=
 (sRet (q0k f_y29 (q01 (q0k f_y25 w0c) w3l)))
def f_y30:List D->Option D:=runP false 4 4 qkf
theorem qve:q1r 4 f_y30:=q1e
theorem qrc(T:Txt K mg a):FnOk P w K mg base CX0 7 a.f_y30 a.fd_y30 w1g (spP K false 4 f_y30):=by
 have G_y26:=@qlk P w K mg base a T;have G_y25:=@qll P w K mg base a T;have G_y29:=@qli P w K mg base a T;refine T.F_y30.ok qpw (λ_ _ _ _ h=>h.1) (λcdv A outer s H vs Q E hr h=>?_)
 ·refine⟨_,(q0b (q0t (q0h G_y29 hr.m (by rfl) T.mg_y29 T.F_y29.kp T.B_y29 .nil q19 (q00 (q0h G_y25 hr.m (by rfl) T.mg_y25 T.F_y25.kp T.B_y25 .nil q19 (q00 (pv 0) (q00 (pv 1) (q00 (pv 2) q05)))) (q00 (q0h G_y26 hr.m (by rfl) T.mg_y26 T.F_y26.kp T.B_y26 .nil q19 (q00 (pv 0) (q00 (pv 3) q05))) q05))))),?_⟩;exact q0m (O':=[]) (Nms:=w1g) (f:=qkf) (by unfold qkf;exact(q16 rfl (q0j qs7 (q03 (q0j qsa (q03 (q02 (i:=0)) (q03 (q02 (i:=1)) (q03 (q02 (i:=2)) q09)))) (q03 (q0j qs9 (q03 (q02 (i:=0)) (q03 (q02 (i:=3)) q09))) q09))) rfl)) h
abbrev w13:=(qau 2 (q0k f_y29 (q01 (mVar 1) w3l)) (mVar 3))
abbrev w47:=(mSeq (mOf (q1m f_y8 (q01 (mVar 0) mNil))))
def qke:RhO:=
 (sSeq (qav 2)
 (sSeq (sFor w47 (gSet 3)
   w13)
 (sRet (mVar 2))))
def f_y31:List D->Option D:=runP false 2 4 qke
theorem qvd:q1r 2 f_y31:=q1e
theorem qrb(T:Txt K mg a):FnOk P w K mg base CX0 4 a.f_y31 a.fd_y31 ["scheme","steps"] (spP K false 2 f_y31):=by
 have G_y8:=@qus P w K mg base a T;have G_y26:=@qlk P w K mg base a T;have G_y29:=@qli P w K mg base a T;refine T.F_y31.ok sc_y31 (λ_ _ _ _ h=>h.1) (λcdv A outer s H vs Q E hr h=>?_)
 ·refine⟨_,(q07 (zsA 2 sc_y31.nd qmn) (q07 (q31 jx rfl (q2a (K:=K) rfl (q0h G_y8 hr.m (by rfl) T.mg_y8 T.F_y8.kp T.B_y8 .nil q19 (q00 (pv 0) q05))) (zgA 3 sc_y31.nd) (q0b (qc2 (q0h G_y29 hr.m (by rfl) T.mg_y29 T.F_y29.kp T.B_y29 .nil q19 (q00 (pv 1) (q00 (q0h G_y26 hr.m (by rfl) T.mg_y26 T.F_y26.kp T.B_y26 .nil q19 (q00 (pv 0) (q00 (pv 3) q05))) q05))) (ql5 (pv 2) (pv 3) qu9)))) (q0b (q0t (pv 2))))),?_⟩;exact q0m (O':=[]) (Nms:=w4c) (f:=qke) (by unfold qke;exact(q0f (O1:=[2]) (qn9 rfl) (q0f (O1:=[]) (q7g (q39 (O':=[2]) (q2z (q1h (q25 n_y8 (q03 (q02 (i:=0)) q09)))) rfl (q0q (i:=3)) (qn8 (by decide) (q0j qs7 (q03 (q02 (i:=1)) (q03 (q0j qs9 (q03 (q02 (i:=0)) (q03 (q02 (i:=3)) q09))) q09))) (q02 (i:=3)) rfl)) rfl) (q16 rfl (q02 (i:=2)) rfl)))) h
abbrev w0b:=(sSet 8 (mIf (q0g (mOp2 dEq (q0k f_y27 (q01 (mOp2 dIx (mVar 7) (mRet (.int 0))) (q01 (mOp2 dIx (mVar 2) (mOp2 dAdd (mVar 6) (mRet (.int 1)))) mNil))) (mOp2 dIx (mOp2 dIx (mVar 2) (mVar 6)) (mVar 5)))) (mRet (.int 0)) (mRet (.int 1))))
abbrev w2c:=(sRet (mTup (q01 (mOp2 dIx (mOp2 dIx (mVar 2) (mRet (.int 0))) (mVar 0)) (q01 (mVar 4) mNil))))
abbrev w3k:=(sSet 7 (mOp2 dIx (mOp2 dIx (mVar 1) (mVar 6)) (mVar 5)))
abbrev w3d:=(sSet 5 (mOp2 dIx (mOp2 dIx (mVar 7) (mVar 8)) (mRet (.int 0))))
abbrev w1q:=(sSeq w3k (sSeq w0b (sSeq (sMut q2c 4 (q01 (mVar 8) mNil)) w3d)))
def qkd:RhO:=
 (sSeq (sOwn 4 (mLst mNil))
 (sSeq (sSet 5 (mVar 0))
 (sSeq (sFor (q2u (q01 (mVar 3) mNil)) (gSet 6)
   w1q)
 w2c)))
def f_y32:List D->Option D:=runP false 4 9 qkd
theorem qvc:q1r 4 f_y32:=q1e
theorem qra(T:Txt K mg a):FnOk P w K mg base CX0 2 a.f_y32 a.fd_y32 w3f (spP K false 4 f_y32):=by
 have G_y27:=@qlj P w K mg base a T;refine T.F_y32.ok sc_y32 (λ_ _ _ _ h=>h.1) (λcdv A outer s H vs Q E hr h=>?_)
 ·refine⟨_,(q07 (zsA 4 sc_y32.nd (q2p q05)) (q07 (zsA 5 sc_y32.nd (pv 0)) (q07 (q31 jx rfl (q20 (by rfl) T.z_range (q00 (pv 3) q05)) (zgA 6 sc_y32.nd) (q07 (zsA 7 sc_y32.nd (q0u (q0a (K:=K) rfl) (q0u (q0a (K:=K) rfl) (pv 1) (pv 6)) (pv 5))) (q07 (zsA 8 sc_y32.nd (q3j (q12 (q2f (K:=K) rfl hr.units) (q0h G_y27 hr.m (by rfl) T.mg_y27 T.F_y27.kp T.B_y27 .nil q19 (q00 (q0u (q0a (K:=K) rfl) (pv 7) q06) (q00 (q0u (q0a (K:=K) rfl) (pv 2) (q13 (q21 (K:=K) rfl) (pv 6) q06)) q05))) (q0u (q0a (K:=K) rfl) (q0u (q0a (K:=K) rfl) (pv 2) (pv 6)) (pv 5)) (q1b _)) q06 q06)) (q07 (q3b (q7a PySem.F.plainAttrs_list PySem.F.slot_list_append PySem.F.type_list_append q3h (pv 4) (q00 (pv 8) q05))) (q0b (zsA 5 sc_y32.nd (q0u (q0a (K:=K) rfl) (q0u (q0a (K:=K) rfl) (pv 7) (pv 8)) q06))))))) (q0b (q0t (q49 (q00 (q0u (q0a (K:=K) rfl) (q0u (q0a (K:=K) rfl) (pv 2) q06) (pv 0)) (q00 (pv 4) q05)))))))),?_⟩;exact q0m (O':=[]) (Nms:=w36) (f:=qkd) (by unfold qkd;exact(q0f (O1:=[4]) (q5f (q2y q09) rfl) (q0f (O1:=[4]) (q1a (q02 (i:=0))) (q0f (O1:=[]) (q7g (q39 (O':=[4]) (q22 (q03 (q02 (i:=3)) q09)) rfl (q0q (i:=6)) (q0f (O1:=[4]) (q1a (q0d q0x (q0d q0x (q02 (i:=1)) (q02 (i:=6))) (q02 (i:=5)))) (q0f (O1:=[4]) (q1a (qa4 (q14 (q1c os_eq (q0j qs8 (q03 (q0d q0x (q02 (i:=7)) me_int) (q03 (q0d q0x (q02 (i:=2)) (q0d q2t (q02 (i:=6)) me_int)) q09))) (q0d q0x (q0d q0x (q02 (i:=2)) (q02 (i:=6))) (q02 (i:=5))).mb)) me_int me_int)) (q0f (O1:=[4]) (q8e q4a (by decide) (q03 (q02 (i:=8)) q09) rfl) (q1a (q0d q0x (q0d q0x (q02 (i:=7)) (q02 (i:=8))) me_int)))))) rfl) (q16 rfl (q4b (q03 (q0d q0x (q0d q0x (q02 (i:=2)) me_int) (q02 (i:=0))) (q03 (q02 (i:=4)) q09))) rfl))))) h
abbrev w3p:=(sSet 4 (q0k f_y31 (q01 (mVar 0) (q01 (mVar 3) mNil))))
def qoo:RhO:=
 (sSeq (sSet 3 (q0k f_y25 w0c))
 (sSeq w3p
 (sRet (mOp1 qjx (mOf (q1t 1 [3,1,4] none (q7p (mVar 4)) (gSet 0) (mRet true) (q0k f_y32 (q01 (mVar 0) (q01 (mVar 1) (q01 (mOp2 dIxK (mVar 3) (mVar 0)) (q01 (mVar 2) mNil)))))))))))
def f_y33:List D->Option D:=runP false 3 5 qoo
theorem qvb:q1r 3 f_y33:=q1e
theorem qr9(T:Txt K mg a):FnOk P w K mg base CX0 7 a.f_y33 a.fd_y33 w0p (spP K false 3 f_y33):=by
 have G_y25:=@qll P w K mg base a T;have G_y31:=@qrb P w K mg base a T;have G_y32:=@qra P w K mg base a T;refine T.F_y33.ok sc_y33 (λ_ _ _ _ h=>h.1) (λcdv A outer s H vs Q E hr h=>?_)
 ·refine⟨_,(q07 (zsA 3 sc_y33.nd (q0h G_y25 hr.m (by rfl) T.mg_y25 T.F_y25.kp T.B_y25 .nil q19 (q00 (pv 0) (q00 (pv 1) (q00 (pv 2) q05))))) (q07 (zsA 4 sc_y33.nd (q0h G_y31 hr.m (by rfl) T.mg_y31 T.F_y31.kp T.B_y31 .nil q19 (q00 (pv 0) (q00 (pv 3) q05)))) (q0b (q0t (q11 (qe7 (K:=K) rfl rfl hr.units) (by rfl) T.z_min (by rfl) (q00 (q2g (sc:=q04 qdf) (N0:=w2q) rfl rfl rfl (show q1v _ _ ["start","steps","size","tables"] 1 [3,1,4] _=true by decide+kernel) (qis (pv 4)) (λ_ _ _ _ _=>(q0o (i:=0) (show List.Nodup (["start","steps","size","tables"]:List Str)from(by decide+kernel)) rfl (Or.inl rfl))) (q1o (by decide)) (λ_ _ _ _ _=>q27) (λ_ _ _ _ _=>(q0h G_y32 hr.m (by rfl) T.mg_y32 T.F_y32.kp T.B_y32 .nil q19 (q00 (pv 0) (q00 (pv 1) (q00 (q0u ix_K (pv 3) (pv 0)) (q00 (pv 2) q05))))))) q05)))))),?_⟩;exact q0m (O':=[]) (Nms:=w2q) (f:=qoo) (by unfold qoo;exact(q0f (O1:=[]) (q1a (q0j qsa (q03 (q02 (i:=0)) (q03 (q02 (i:=1)) (q03 (q02 (i:=2)) q09))))) (q0f (O1:=[]) (q1a (q0j qvd (q03 (q02 (i:=0)) (q03 (q02 (i:=3)) q09)))) (q16 rfl (q50 qof (q1h (q1w (bw:=none) (qj5 (q02 (i:=4))) (q0q (i:=0)) q32 (q0j qvc (q03 (q02 (i:=0)) (q03 (q02 (i:=1)) (q03 (q0d qqu (q02 (i:=3)) (q02 (i:=0))) (q03 (q02 (i:=2)) q09)))))))) rfl)))) h
def qhp:RhO:=
 (sSeq (sIf (q0g (mOp2 dLt (mVar 1) (mOp1 dLen (mVar 0))))
   (sRet (mOp2 dIx (mVar 0) (mVar 1)))
   sNil)
 (sRet (mRet (.int 0))))
def f_y34:List D->Option D:=runP false 2 2 qhp
theorem qva:q1r 2 f_y34:=q1e
theorem qr8(T:Txt K mg a):FnOk P w K mg base CX0 1 a.f_y34 a.fd_y34 ["_law_script","_law_k"] (spP K false 2 f_y34):=by
 refine T.F_y34.ok qpv (λ_ _ _ _ h=>h.1) (λcdv A outer s H vs Q E hr h=>?_)
 ·refine⟨_,(q07 (q2w (q12 qdq (pv 1) (q11 (q1q (K:=K) rfl) (by rfl) T.z_len (by rfl) (q00 (pv 0) q05)) (q1b _)) (q0b (q0t (q0u (q0a (K:=K) rfl) (pv 0) (pv 1)))) q1j) (q0b (q0t q06))),?_⟩;exact q0m (O':=[]) (Nms:=["_law_script","_law_k"]) (f:=qhp) (by unfold qhp;exact(q0f (O1:=[]) (q2x (q14 (q1c q8z (q02 (i:=1)) (q1i q3a q26).mb)) (q16 rfl (q0d q0x (q02 (i:=0)) (q02 (i:=1))) rfl) (q1y rfl)) (q16 rfl me_int rfl))) h
abbrev w0i:=(sSet 3 (mOp2 dMod (mOp2 dAdd (mOp2 dAdd (mOp2 q3u (mVar 3) (mOp2 dAdd (mVar 3) (mRet (.int 65537)))) (mOp2 q3u (mRet (.int 13)) (mVar 4))) (mRet (.int 5))) (mRet (.int 2305843009213693951))))
abbrev w44:=(sSeq w0i (sMut q2c 2 (q01 (mVar 3) mNil)))
def qkc:RhO:=
 (sSeq (sOwn 2 (mLst mNil))
 (sSeq (sSet 3 (mOp2 dAdd (mOp2 q3u (mOp2 dMod (mVar 0) (mRet (.int 2305843009213693951))) (mRet (.int 1000000007))) (mRet (.int 104729))))
 (sSeq (sFor (q2u (q01 (mVar 1) mNil)) (gSet 4)
   w44)
 (q5v 2))))
def f_y35:List D->Option D:=runP true 2 5 qkc
theorem qg9:q1r 2 f_y35:=q1e
theorem qcb(T:Txt K mg a):FnOk P w K mg base CX0 1 a.f_y35 a.fd_y35 w3y (spP K true 2 f_y35):=by
 refine T.F_y35.ok sc_y35 (λ_ _ _ _ h=>h.1) (λcdv A outer s H vs Q E hr h=>?_)
 ·refine⟨_,(q07 (zsA 2 sc_y35.nd (q2p q05)) (q07 (zsA 3 sc_y35.nd (q13 (q21 (K:=K) rfl) (q13 (q3o (K:=K) rfl) (q13 q2k (pv 0) q06) q06) q06)) (q07 (q31 jx rfl (q20 (by rfl) T.z_range (q00 (pv 1) q05)) (zgA 4 sc_y35.nd) (q07 (zsA 3 sc_y35.nd (q13 q2k (q13 (q21 (K:=K) rfl) (q13 (q21 (K:=K) rfl) (q13 (q3o (K:=K) rfl) (pv 3) (q13 (q21 (K:=K) rfl) (pv 3) q06)) (q13 (q3o (K:=K) rfl) q06 (pv 4))) q06) q06)) (q0b (q3b (q7a PySem.F.plainAttrs_list PySem.F.slot_list_append PySem.F.type_list_append q3h (pv 2) (q00 (pv 3) q05)))))) (q0b (q0t (pv 2)))))),?_⟩;exact q0m (O':=[]) (Nms:=w3g) (f:=qkc) (by unfold qkc;exact(q0f (O1:=[2]) (q5f (q2y q09) rfl) (q0f (O1:=[2]) (q1a (q0d q2t (q0d q3p (q0d q2l (q02 (i:=0)) me_int) me_int) me_int)) (q0f (O1:=[2]) (q39 (O':=[2]) (q22 (q03 (q02 (i:=1)) q09)) rfl (q0q (i:=4)) (q0f (O1:=[2]) (q1a (q0d q2l (q0d q2t (q0d q2t (q0d q3p (q02 (i:=3)) (q0d q2t (q02 (i:=3)) me_int)) (q0d q3p me_int (q02 (i:=4)))) me_int) me_int)) (q8e q4a (by decide) (q03 (q02 (i:=3)) q09) rfl))) (q6b rfl (by first|decide|simp) rfl (by first|decide|simp)))))) h
abbrev w2n:=(mOp2 dAnd (mOp2 dShr (mVar 1) (mOp2 q3u (mRet (.int 2)) (mVar 0))) (mRet (.int 3)))
abbrev w03:=(q01 (mOp1 q5i (mOf (q1t 1 [7] none (q2u (q01 (mOp1 dLen (mVar 5)) mNil)) (gSet 0) (mRet true) (mOp2 dIx (mOf (mLst (q01 (mRet (.int 1)) (q01 (mRet (.int 1)) w3x)))) w2n)))) mNil)
def qkb:RhO:=
 (sSeq (sSet 2 (mOf (q1m f_y35 (q01 (mVar 0) (q01 (mRet (.int 14)) mNil)))))
 (sSeq (sSet 3 (mOp2 dIx (mOf (mLst (q01 (mRet (.str "open")) (q01 (mRet (.str "ended")) (q01 (mRet (.str "ring")) (q01 (mRet (.str "ended")) mNil)))))) (mOp2 dMod (mOp2 dIx (mVar 2) (mRet (.int 0))) (mRet (.int 4)))))
 (sSeq (sSet 4 (mOp2 dMod (mOp2 dIx (mVar 2) (mRet (.int 1))) (mOp2 dAdd (mVar 1) (mRet (.int 1)))))
 (sSeq (sSet 5 (mOp1 q5i (mOf (q1t 1 [4] none (mSeq (mSl (mVar 2) (q4g (mRet (.int 2))) (q4g (mOp2 dAdd (mRet (.int 3)) (mOp2 dIx (mOf (mLst (q01 (mRet (.int 1)) (q01 (mRet (.int 0)) (q01 (mRet (.int 2)) (q01 (mRet (.int 1)) (q01 (mRet (.int 3)) mNil))))))) (mOp2 dMod (mOp2 dIx (mVar 2) (mRet (.int 6))) (mRet (.int 5)))))))) (gSet 0) (mRet true) (mOp2 dMod (mVar 0) (mOp2 dShl (mRet (.int 2)) (mVar 1)))))))
 (sSeq (sOwn 6 (mLst mNil))
 (sSeq (sFor (mSeq (mSl (mVar 2) (q4g (mRet (.int 7))) (q4g (mOp2 dAdd (mRet (.int 7)) (mOp2 dIx (mOf (mLst (q01 (mRet (.int 1)) (q01 (mRet (.int 2)) (q01 (mRet (.int 4)) (q01 (mRet (.int 3)) (q01 (mRet (.int 5)) (q01 (mRet (.int 6)) mNil)))))))) (mOp2 dMod (mOp2 dIx (mVar 2) (mRet (.int 13))) (mRet (.int 6)))))))) (gSet 7)
   (sMut q2c 6 w03))
 (sRet (mTup (q01 (mVar 4) (q01 (mVar 5) (q01 (mOp1 q5i (mVar 6)) (q01 (mVar 3) mNil))))))))))))
def f_y36:List D->Option D:=runP false 2 8 qkb
theorem qv9:q1r 2 f_y36:=q1e
theorem qr7(T:Txt K mg a):FnOk P w K mg base CX0 2 a.f_y36 a.fd_y36 ["_law_x","_law_top"] (spP K false 2 f_y36):=by
 have G_y35:=@qcb P w K mg base a T;refine T.F_y36.ok sc_y36 (λ_ _ _ _ h=>h.1) (λcdv A outer s H vs Q E hr h=>?_)
 ·refine⟨_,(q07 (zsA 2 sc_y36.nd (q0h G_y35 hr.m (by rfl) T.mg_y35 T.F_y35.kp T.B_y35 .nil q19 (q00 (pv 0) (q00 q06 q05)))) (q07 (zsA 3 sc_y36.nd (q0u (q0a (K:=K) rfl) (q2p (q00 q2s (q00 q2s (q00 q2s (q00 q2s q05))))) (q13 q2k (q0u (q0a (K:=K) rfl) (pv 2) q06) q06))) (q07 (zsA 4 sc_y36.nd (q13 q2k (q0u (q0a (K:=K) rfl) (pv 2) q06) (q13 (q21 (K:=K) rfl) (pv 1) q06))) (q07 (zsA 5 sc_y36.nd (q2q (q3v (K:=K) rfl) (by rfl) T.z_tuple (by rfl) (q00 (q2g (sc:=q04 qaq) (N0:=w0q) rfl rfl rfl (show q1v _ _ ["_law_y","_law_reach"] 1 [4] _=true by decide+kernel) (q2a (K:=K) rfl (q3y (q4o (K:=K) rfl) (pv 2) (q45 q06) (q45 (q13 (q21 (K:=K) rfl) q06 (q0u (q0a (K:=K) rfl) (q2p (q00 q06 (q00 q06 (q00 q06 (q00 q06 (q00 q06 q05)))))) (q13 q2k (q0u (q0a (K:=K) rfl) (pv 2) q06) q06)))))) (λ_ _ _ _ _=>(q0o (i:=0) (show List.Nodup (["_law_y","_law_reach"]:List Str)from(by decide+kernel)) rfl (Or.inl rfl))) (q1o (by decide)) (λ_ _ _ _ _=>q27) (λ_ _ _ _ _=>(q13 q2k (pv 0) (q13 q7c q06 (pv 1))))) q05))) (q07 (zsA 6 sc_y36.nd (q2p q05)) (q07 (q31 jx rfl (q2a (K:=K) rfl (q3y (q4o (K:=K) rfl) (pv 2) (q45 q06) (q45 (q13 (q21 (K:=K) rfl) q06 (q0u (q0a (K:=K) rfl) (q2p (q00 q06 (q00 q06 (q00 q06 (q00 q06 (q00 q06 (q00 q06 q05))))))) (q13 q2k (q0u (q0a (K:=K) rfl) (pv 2) q06) q06)))))) (zgA 7 sc_y36.nd) (q0b (q3b (q7a PySem.F.plainAttrs_list PySem.F.slot_list_append PySem.F.type_list_append q3h (pv 6) (q00 (q2q (q3v (K:=K) rfl) (by rfl) T.z_tuple (by rfl) (q00 (q2g (sc:=q04 qaq) (N0:=w0q) rfl rfl rfl (show q1v _ _ ["_law_k","_law_y"] 1 [7] _=true by decide+kernel) (q20 (by rfl) T.z_range (q00 (q11 (q1q (K:=K) rfl) (by rfl) T.z_len (by rfl) (q00 (pv 5) q05)) q05)) (λ_ _ _ _ _=>(q0o (i:=0) (show List.Nodup (["_law_k","_law_y"]:List Str)from(by decide+kernel)) rfl (Or.inl rfl))) (q1o (by decide)) (λ_ _ _ _ _=>q27) (λ_ _ _ _ _=>(q0u (q0a (K:=K) rfl) (q2p (q00 q06 (q00 q06 (q00 q06 (q00 q06 q05))))) (q13 qa0 (q13 ql9 (pv 1) (q13 (q3o (K:=K) rfl) q06 (pv 0))) q06)))) q05)) q05))))) (q0b (q0t (q49 (q00 (pv 4) (q00 (pv 5) (q00 (q2q (q3v (K:=K) rfl) (by rfl) T.z_tuple (by rfl) (q00 (pv 6) q05)) (q00 (pv 3) q05))))))))))))),?_⟩;exact q0m (O':=[]) (Nms:=w0q) (f:=qkb) (by unfold qkb;exact(q0f (O1:=[]) (q1a (q1h (q25 qg9 (q03 (q02 (i:=0)) (q03 me_int q09))))) (q0f (O1:=[]) (q1a (q0d q0x (q1h (q2y (q03 me_str (q03 me_str (q03 me_str (q03 me_str q09)))))) (q0d q2l (q0d q0x (q02 (i:=2)) me_int) me_int))) (q0f (O1:=[]) (q1a (q0d q2l (q0d q0x (q02 (i:=2)) me_int) (q0d q2t (q02 (i:=1)) me_int))) (q0f (O1:=[]) (q1a (q50 q63 (q1h (q1w (bw:=none) (q2z (q3z (q02 (i:=2)) (q48 me_int) (q48 (q0d q2t me_int (q0d q0x (q1h (q2y (q03 me_int (q03 me_int (q03 me_int (q03 me_int (q03 me_int q09))))))) (q0d q2l (q0d q0x (q02 (i:=2)) me_int) me_int)))))) (q0q (i:=0)) q32 (q0d q2l (q02 (i:=0)) (q0d q7d me_int (q02 (i:=1)))))))) (q0f (O1:=[6]) (q5f (q2y q09) rfl) (q0f (O1:=[]) (q7g (q39 (O':=[6]) (q2z (q3z (q02 (i:=2)) (q48 me_int) (q48 (q0d q2t me_int (q0d q0x (q1h (q2y (q03 me_int (q03 me_int (q03 me_int (q03 me_int (q03 me_int (q03 me_int q09)))))))) (q0d q2l (q0d q0x (q02 (i:=2)) me_int) me_int)))))) rfl (q0q (i:=7)) (q8e q4a (by decide) (q03 (q50 q63 (q1h (q1w (bw:=none) (q22 (q03 (q1i q3a q26) q09)) (q0q (i:=0)) q32 (q0d q0x (q1h (q2y (q03 me_int (q03 me_int (q03 me_int (q03 me_int q09)))))) (q0d qa1 (q0d qln (q02 (i:=1)) (q0d q3p me_int (q02 (i:=0)))) me_int))))) q09) rfl)) rfl) (q16 rfl (q4b (q03 (q02 (i:=4)) (q03 (q02 (i:=5)) (q03 (q50 q63 (q02 (i:=6))) (q03 (q02 (i:=3)) q09))))) rfl)))))))) h
abbrev w3u:=(mOp2 dShr (mOp2 dAnd (mVar 1) (mVar 2)) (mVar 0))
abbrev w1d:=(mOp1 dSum (mOf (q1t 1 [0,1] none (q2u (q01 (mRet (.int 5)) mNil)) (gSet 0) (mRet true) (mOp2 dAnd w3u (mRet (.int 1))))))
def qon:RhO:=
 (sSeq w1w
 (sSeq (sSet 4 (mOf (q1t 1 [3] none w2r (gSet 0) (mRet true) (mOp2 dMod w1d (mRet (.int 2))))))
 (sRet (mTup (q01 (mOp2 dMod (mVar 3) (mOp2 dShl (mRet (.int 1)) (mOp2 dIx (mVar 0) (mRet (.int 0))))) (q01 (mVar 4) mNil))))))
def f_y37:List D->Option D:=runP false 3 5 qon
theorem qn3:q1r 3 f_y37:=q1e
abbrev w4d:List Str:=["_law_k","_law_tap","_law_window"]
abbrev w3v:List Str:=["_law_tap","_law_window"]
theorem qg2(T:Txt K mg a):FnOk P w K mg base CX0 1 a.f_y37 a.fd_y37 w2o (spP K false 3 f_y37):=by
 refine T.F_y37.ok sc_y37 (λ_ _ _ _ h=>h.1) (λcdv A outer s H vs Q E hr h=>?_)
 ·refine⟨_,(q07 (zsA 3 sc_y37.nd (q13 (q21 (K:=K) rfl) (q13 (q3o (K:=K) rfl) q06 (pv 1)) (pv 2))) (q07 (qip (k:=4) (sc:=q04 qde) (N0:=w1u) rfl rfl rfl (show q4u _ _ w3v [3] _ "_law_tap"=true by decide+kernel) sc_y37.nd rfl (Or.inl rfl) (q2a (K:=K) rfl (q0u (q0a (K:=K) rfl) (pv 0) q06)) (λ_ _ _ _ _=>(q0o (i:=0) (show List.Nodup (w3v:List Str)from(by decide+kernel)) rfl (Or.inr rfl) (.inl (show decide (("_law_tap":Str)="_law_tap")=true from decide_eq_true rfl)))) (q1o (by decide)) (λ_ _ _ _ _=>q27) (λ_ _ _ _ _=>(q13 q2k (q11 (q70 (K:=K) rfl rfl) (by rfl) T.z_sum (by rfl) (q00 (q2g (N0:=w3v) rfl rfl rfl (show q1v _ _ w4d 1 [0,1] _=true by kernel_rfl) (q20 (by rfl) (by exact T.z_range) (q00 q06 q05)) (λ_ _ _ _ _=>(q0o (i:=0) (show List.Nodup (w4d:List Str)from(by decide+kernel)) rfl (Or.inl rfl))) (q1o (by decide)) (λ_ _ _ _ _=>q27) (λ_ _ _ _ _=>(q13 qa0 (q13 ql9 (q13 qa0 (pv 1) (pv 2)) (pv 0)) q06))) q05)) q06))) (q0b (q0t (q49 (q00 (q13 q2k (pv 3) (q13 q7c q06 (q0u (q0a (K:=K) rfl) (pv 0) q06))) (q00 (pv 4) q05))))))),?_⟩;exact q0m (O':=[]) (Nms:=w1u) (f:=qon) (by unfold qon;exact(q0f (O1:=[]) (q1a (q0d q2t (q0d q3p me_int (q02 (i:=1))) (q02 (i:=2)))) (q0f (O1:=[]) (q7h (q1w (bw:=none) (q2z (q0d q0x (q02 (i:=0)) me_int)) (q0q (i:=0)) q32 (q0d q2l (q1i qcr (q1h (q1w (bw:=none) (q22 (q03 me_int q09)) (q0q (i:=0)) q32 (q0d qa1 (q0d qln (q0d qa1 (q02 (i:=1)) (q02 (i:=2))) (q02 (i:=0))) me_int))).mb) me_int)) rfl (by decide)) (q16 rfl (q4b (q03 (q0d q2l (q02 (i:=3)) (q0d q7d me_int (q0d q0x (q02 (i:=0)) me_int))) (q03 (q02 (i:=4)) q09))) rfl)))) h
abbrev w3z:=(mOp1 dLen (mOp2 dIx (mVar 0) (mRet (.int 2))))
def qka:RhO:=
 (sSeq (sSet 3 (mOp2 dIx (mOp2 dIx (mVar 0) (mRet (.int 2))) (mOp2 dMod (mVar 1) w3z)))
 (q8t (q1t 2 [] none (mZip (q01 (mVar 2) (q01 (mVar 3) mNil))) (q2i 2 (q0w (gSet 0) (q0w (gSet 1) q2o))) (q0g (mOp2 dEq (mVar 1) (mRet (.int 1)))) (mVar 0))))
def f_y38:List D->Option D:=runP true 3 4 qka
theorem qs6:q1r 3 f_y38:=q1e
abbrev w3j:List Str:=["_law_sign_here","_law_told"]
theorem qlh(T:Txt K mg a):FnOk P w K mg base CX0 1 a.f_y38 a.fd_y38 w2f (spP K true 3 f_y38):=by
 refine T.F_y38.ok sc_y38 (λ_ _ _ _ h=>h.1) (λcdv A outer s H vs Q E hr h=>?_)
 ·refine⟨_,(q07 (zsA 3 sc_y38.nd (q0u (q0a (K:=K) rfl) (q0u (q0a (K:=K) rfl) (pv 0) q06) (q13 q2k (pv 1) (q11 (q1q (K:=K) rfl) (by rfl) T.z_len (by rfl) (q00 (q0u (q0a (K:=K) rfl) (pv 0) q06) q05))))) (q0b (q0t (q2g (sc:=q04 qdd) (N0:=w21) rfl rfl rfl (show q1v _ _ w3j 2 [] _=true by decide+kernel) (q5l (K:=K) rfl (by rfl) T.z_zip (q00 (pv 2) (q00 (pv 3) q05))) (λ_ _ _ _ _=>(q3n (K:=K) rfl rfl (q1n (q0o (i:=0) (show List.Nodup (w3j:List Str)from(by decide+kernel)) rfl (Or.inl rfl)) (q1n (q0o (i:=1) (show List.Nodup (w3j:List Str)from(by decide+kernel)) rfl (Or.inl rfl)) q3m)))) (q5y (by decide) (by decide)) (λ_ _ _ _ _=>(q78 (q12 (q2f (K:=K) rfl hr.units) (pv 1) q06 (q1b _)))) (λ_ _ _ _ _=>(pv 0)))))),?_⟩;exact q0m (O':=[]) (Nms:=w21) (f:=qka) (by unfold qka;exact(q0f (O1:=[]) (q1a (q0d q0x (q0d q0x (q02 (i:=0)) me_int) (q0d q2l (q02 (i:=1)) (q1i q3a (q0d q0x (q02 (i:=0)) me_int).mb)))) (q7i rfl (q1w (bw:=none) (q7l (q03 (q02 (i:=2)) (q03 (q02 (i:=3)) q09))) (q4q (q1p (q0q (i:=0)) (q1p (q0q (i:=1)) q3s))) (q14 (q1c os_eq (q02 (i:=1)) me_int.mb)) (q02 (i:=0))) rfl))) h
def qec:RhO:=
 (sSeq (sIf w30
   (sRet (mOp2 dAdd (mVar 1) (mOp2 dIx (mVar 0) (mRet (.int 0)))))
   sNil)
 (sRet (mVar 1)))
def f_y39:List D->Option D:=runP false 2 2 qec
theorem qj2:q1r 2 f_y39:=q1e
theorem qca(T:Txt K mg a):FnOk P w K mg base CX0 1 a.f_y39 a.fd_y39 w0z (spP K false 2 f_y39):=by
 refine T.F_y39.ok qpu (λ_ _ _ _ h=>h.1) (λcdv A outer s H vs Q E hr h=>?_)
 ·refine⟨_,(q07 (q2w (q12 (q2f (K:=K) rfl hr.units) (q0u (q0a (K:=K) rfl) (pv 0) q06) q2s (q1b _)) (q0b (q0t (q13 (q21 (K:=K) rfl) (pv 1) (q0u (q0a (K:=K) rfl) (pv 0) q06)))) q1j) (q0b (q0t (pv 1)))),?_⟩;exact q0m (O':=[]) (Nms:=w0z) (f:=qec) (by unfold qec;exact(q0f (O1:=[]) (q2x (q14 (q1c os_eq (q0d q0x (q02 (i:=0)) me_int) me_str.mb)) (q16 rfl (q0d q2t (q02 (i:=1)) (q0d q0x (q02 (i:=0)) me_int)) rfl) (q1y rfl)) (q16 rfl (q02 (i:=1)) rfl))) h
abbrev w1c:=(q0k f_y39 (q01 (mVar 0) (q01 (mVar 1) mNil)))
abbrev w0t:=(mSeq (mOp2 dIx (mOp2 dIx (mVar 0) (mRet (.int 2))) (mOp2 dMod (mVar 3) w3z)))
abbrev w2s:=(q1t 1 [3] none w0t (gSet 0) (q0g (mOp2 dEq (mVar 0) (mRet (.int 1)))) (mVar 1))
def qom:RhO:=
 (sSeq (sOwn 2 (mLst mNil))
 (sSeq (sFor (q2u (q01 w1c mNil)) (gSet 3)
   (sExt 2 w2s))
 (q5v 2)))
def f_y40:List D->Option D:=runP true 2 4 qom
theorem qs5:q1r 2 f_y40:=q1e
theorem qlg(T:Txt K mg a):FnOk P w K mg base CX0 2 a.f_y40 a.fd_y40 w0z (spP K true 2 f_y40):=by
 have G_y39:=@qca P w K mg base a T;refine T.F_y40.ok sc_y40 (λ_ _ _ _ h=>h.1) (λcdv A outer s H vs Q E hr h=>?_)
 ·refine⟨_,(q07 (zsA 2 sc_y40.nd (q2p q05)) (q07 (q31 jx rfl (q20 (by rfl) T.z_range (q00 (q0h G_y39 hr.m (by rfl) T.mg_y39 T.F_y39.kp T.B_y39 .nil q19 (q00 (pv 0) (q00 (pv 1) q05))) q05)) (zgA 3 sc_y40.nd) (q0b (q3b (q7a PySem.F.plainAttrs_list PySem.F.slot_list_extend PySem.F.type_list_extend q7f (pv 2) (q00 (q2g (sc:=q04 qdc) (N0:=w20) rfl rfl rfl (show q1v _ _ ["_law_told","_law_number"] 1 [3] _=true by decide+kernel) (q2a (K:=K) rfl (q0u (q0a (K:=K) rfl) (q0u (q0a (K:=K) rfl) (pv 0) q06) (q13 q2k (pv 3) (q11 (q1q (K:=K) rfl) (by rfl) T.z_len (by rfl) (q00 (q0u (q0a (K:=K) rfl) (pv 0) q06) q05))))) (λ_ _ _ _ _=>(q0o (i:=0) (show List.Nodup (["_law_told","_law_number"]:List Str)from(by decide+kernel)) rfl (Or.inl rfl))) (q1o (by decide)) (λ_ _ _ _ _=>(q78 (q12 (q2f (K:=K) rfl hr.units) (pv 0) q06 (q1b _)))) (λ_ _ _ _ _=>(pv 1))) q05))))) (q0b (q0t (pv 2))))),?_⟩;exact q0m (O':=[]) (Nms:=w20) (f:=qom) (by unfold qom;exact(q0f (O1:=[2]) (q5f (q2y q09) rfl) (q0f (O1:=[2]) (q39 (O':=[2]) (q22 (q03 (q0j qj2 (q03 (q02 (i:=0)) (q03 (q02 (i:=1)) q09))) q09)) rfl (q0q (i:=3)) (qga (by decide) (q1w (bw:=none) (q2z (q0d q0x (q0d q0x (q02 (i:=0)) me_int) (q0d q2l (q02 (i:=3)) (q1i q3a (q0d q0x (q02 (i:=0)) me_int).mb)))) (q0q (i:=0)) (q14 (q1c os_eq (q02 (i:=0)) me_int.mb)) (q02 (i:=1))) rfl)) (q6b rfl (by first|decide|simp) rfl (by first|decide|simp))))) h
abbrev w3m:=(mOp2 dAdd (mOp2 q3u (mRet (.int 2)) (mVar 2)) (mVar 3))
def qeb:RhO:=
 (sSeq (sSet 2 (mRet (.int 0)))
 (sSeq (sIf (q0g w09)
   (sFor (mSeq (mSl (mVar 1) (q4g (mOp2 dSub (mOp1 dLen (mVar 1)) (mOp2 dIx (mVar 0) (mRet (.int 0))))) (mRet none))) (gSet 3)
   (sSet 2 w3m))
   sNil)
 (sRet (mVar 2))))
def f_y41:List D->Option D:=runP false 2 4 qeb
theorem qv8:q1r 2 f_y41:=q1e
theorem qr5(T:Txt K mg a):FnOk P w K mg base CX0 1 a.f_y41 a.fd_y41 w1i (spP K false 2 f_y41):=by
 refine T.F_y41.ok sc_y41 (λ_ _ _ _ h=>h.1) (λcdv A outer s H vs Q E hr h=>?_)
 ·refine⟨_,(q07 (zsA 2 sc_y41.nd q06) (q07 (q2w (q12 (q2f (K:=K) rfl hr.units) (q0u (q0a (K:=K) rfl) (pv 0) q06) q2s (q1b _)) (q0b (q31 jx rfl (q2a (K:=K) rfl (q3y (q4o (K:=K) rfl) (pv 1) (q45 (q13 q5a (q11 (q1q (K:=K) rfl) (by rfl) T.z_len (by rfl) (q00 (pv 1) q05)) (q0u (q0a (K:=K) rfl) (pv 0) q06))) q69)) (zgA 3 sc_y41.nd) (q0b (zsA 2 sc_y41.nd (q13 (q21 (K:=K) rfl) (q13 (q3o (K:=K) rfl) q06 (pv 2)) (pv 3)))))) q1j) (q0b (q0t (pv 2))))),?_⟩;exact q0m (O':=[]) (Nms:=w3n) (f:=qeb) (by unfold qeb;exact(q0f (O1:=[]) (q1a me_int) (q0f (O1:=[]) (q2x (q14 (q1c os_eq (q0d q0x (q02 (i:=0)) me_int) me_str.mb)) (q39 (O':=[]) (q2z (q3z (q02 (i:=1)) (q48 (q0d q5c (q1i q3a q26) (q0d q0x (q02 (i:=0)) me_int))) q6c)) rfl (q0q (i:=3)) (q1a (q0d q2t (q0d q3p me_int (q02 (i:=2))) (q02 (i:=3))))) (q1y rfl)) (q16 rfl (q02 (i:=2)) rfl)))) h
abbrev w49:=(q2i 2 (q0w (gSet 2) (q0w (gSet 5) q2o)))
abbrev w10:=(sAsg (q0k f_y37 (q01 (mVar 0) (q01 (mVar 2) (q01 (mOp2 dIx (mOp2 dAdd (mVar 1) (mOf (mRep (mLst (q01 (mRet (.int 0)) mNil)) (mRet (.int 4))))) (mVar 4)) mNil)))) w49)
abbrev w2z:=(q2u (q01 (q0k f_y39 (q01 (mVar 0) (q01 (mOp1 dLen (mVar 1)) mNil))) mNil))
abbrev w1v:=(sExt 3 (q1m f_y38 (q01 (mVar 0) (q01 (mVar 4) (q01 (mVar 5) mNil)))))
abbrev w3q:=(sSet 2 (q0k f_y41 (q01 (mVar 0) (q01 (mVar 1) mNil))))
def qol:RhO:=
 (sSeq w3q
 (sSeq (sOwn 3 (mLst mNil))
 (sSeq (sFor w2z (gSet 4)
   (sSeq w10 w1v))
 (q5v 3))))
def f_y42:List D->Option D:=runP true 2 6 qol
theorem qs4:q1r 2 f_y42:=q1e
theorem qlf(T:Txt K mg a):FnOk P w K mg base CX0 2 a.f_y42 a.fd_y42 w1i (spP K true 2 f_y42):=by
 have G_y41:=@qr5 P w K mg base a T;have G_y39:=@qca P w K mg base a T;have G_y37:=@qg2 P w K mg base a T;have G_y38:=@qlh P w K mg base a T;refine T.F_y42.ok sc_y42 (λ_ _ _ _ h=>h.1) (λcdv A outer s H vs Q E hr h=>?_)
 ·refine⟨_,(q07 (zsA 2 sc_y42.nd (q0h G_y41 hr.m (by rfl) T.mg_y41 T.F_y41.kp T.B_y41 .nil q19 (q00 (pv 0) (q00 (pv 1) q05)))) (q07 (zsA 3 sc_y42.nd (q2p q05)) (q07 (q31 jx rfl (q20 (by rfl) T.z_range (q00 (q0h G_y39 hr.m (by rfl) T.mg_y39 T.F_y39.kp T.B_y39 .nil q19 (q00 (pv 0) (q00 (q11 (q1q (K:=K) rfl) (by rfl) T.z_len (by rfl) (q00 (pv 1) q05)) q05))) q05)) (zgA 4 sc_y42.nd) (q07 (qc2 (q0h G_y37 hr.m (by rfl) T.mg_y37 T.F_y37.kp T.B_y37 .nil q19 (q00 (pv 0) (q00 (pv 2) (q00 (q0u (q0a (K:=K) rfl) (q13 (q21 (K:=K) rfl) (pv 1) (q13 qg0 (q2p (q00 q06 q05)) q06)) (pv 4)) q05)))) (q3n (K:=K) rfl rfl (q1n (zgA 2 sc_y42.nd) (q1n (zgA 5 sc_y42.nd) q3m)))) (q0b (q3b (q7a PySem.F.plainAttrs_list PySem.F.slot_list_extend PySem.F.type_list_extend q7f (pv 3) (q00 (q0h G_y38 hr.m (by rfl) T.mg_y38 T.F_y38.kp T.B_y38 .nil q19 (q00 (pv 0) (q00 (pv 4) (q00 (pv 5) q05)))) q05)))))) (q0b (q0t (pv 3)))))),?_⟩;exact q0m (O':=[]) (Nms:=w2m) (f:=qol) (by unfold qol;exact(q0f (O1:=[]) (q1a (q0j qv8 (q03 (q02 (i:=0)) (q03 (q02 (i:=1)) q09)))) (q0f (O1:=[3]) (q5f (q2y q09) rfl) (q0f (O1:=[3]) (q39 (O':=[3]) (q22 (q03 (q0j qj2 (q03 (q02 (i:=0)) (q03 (q1i q3a q26) q09))) q09)) rfl (q0q (i:=4)) (q0f (O1:=[3]) (qlr (q0j qn3 (q03 (q02 (i:=0)) (q03 (q02 (i:=2)) (q03 (q0d q0x (q0d q2t (q02 (i:=1)) (q1h (qgc (q2y (q03 me_int q09)) me_int))) (q02 (i:=4))) q09)))) rfl (q4q (q1p (q0q (i:=2)) (q1p (q0q (i:=5)) q3s)))) (qga (by decide) (q25 qs6 (q03 (q02 (i:=0)) (q03 (q02 (i:=4)) (q03 (q02 (i:=5)) q09)))) rfl))) (q6b rfl (by first|decide|simp) rfl (by first|decide|simp)))))) h
def qea:RhO:=
 (sSeq (sIf w31
   (sRet (mOp1 dInt (mOp2 dNe (mOp2 dIx (mVar 0) (mRet (.int 1))) (mVar 1))))
   sNil)
 (sSeq (sIf w35
   (sRet (mRet (.int 0)))
   sNil)
 (sRet (mOp2 dIx (mVar 0) (mOp2 dAdd (mRet (.int 1)) (mVar 1))))))
def f_y43:List D->Option D:=runP false 2 2 qea
theorem qs3:q1r 2 f_y43:=q1e
theorem qle(T:Txt K mg a):FnOk P w K mg base CX0 1 a.f_y43 a.fd_y43 ["_law_told","_law_bit"] (spP K false 2 f_y43):=by
 refine T.F_y43.ok qpt (λ_ _ _ _ h=>h.1) (λcdv A outer s H vs Q E hr h=>?_)
 ·refine⟨_,(q07 (q2w (q12 (q2f (K:=K) rfl hr.units) (q0u (q0a (K:=K) rfl) (pv 0) q06) q2s (q1b _)) (q0b (q0t (q2q q65 (by rfl) T.z_int (by rfl) (q00 (q79 (q5b (K:=K) rfl hr.units) (q0u (q0a (K:=K) rfl) (pv 0) q06) (pv 1) (q1b _)) q05)))) q1j) (q07 (q2w (q12 (q2f (K:=K) rfl hr.units) (q0u (q0a (K:=K) rfl) (pv 0) q06) q2s (q1b _)) (q0b (q0t q06)) q1j) (q0b (q0t (q0u (q0a (K:=K) rfl) (pv 0) (q13 (q21 (K:=K) rfl) q06 (pv 1))))))),?_⟩;exact q0m (O':=[]) (Nms:=["_law_told","_law_bit"]) (f:=qea) (by unfold qea;exact(q0f (O1:=[]) (q2x (q14 (q1c os_eq (q0d q0x (q02 (i:=0)) me_int) me_str.mb)) (q16 rfl (q1i qcs (q1c q82 (q0d q0x (q02 (i:=0)) me_int) q26).mb) rfl) (q1y rfl)) (q0f (O1:=[]) (q2x (q14 (q1c os_eq (q0d q0x (q02 (i:=0)) me_int) me_str.mb)) (q16 rfl me_int rfl) (q1y rfl)) (q16 rfl (q0d q0x (q02 (i:=0)) (q0d q2t me_int (q02 (i:=1)))) rfl)))) h
abbrev w43:=(mOp2 dPow (mRet (.int 10)) (mRet (.int 60)))
def qbl:RhO:=
 (sSeq (sSet 1 (mOf (q1m f_y35 (q01 (mVar 0) (q01 (mRet (.int 5)) mNil)))))
 (sSeq (sSet 2 (mOp2 dMod (mOp2 dIx (mVar 1) (mRet (.int 0))) (mRet (.int 9))))
 (sSeq (sIf (q0g (mOp2 dLt (mVar 2) (mRet (.int 4))))
   (sRet (mTup (q01 (mRet (.str "clear")) (q01 (mOp2 dMod (mOp2 dIx (mVar 1) (mRet (.int 1))) (mRet (.int 2))) mNil))))
   sNil)
 (sSeq (sIf (q0g (mOp2 dEq (mVar 2) (mRet (.int 4))))
   (sRet (mTup (q01 (mRet (.str "gap")) mNil)))
   sNil)
 (sSeq (sIf (q0g (mOp2 dLt (mVar 2) (mRet (.int 8))))
   (sRet (mTup (q01 (mRet (.str "soft")) (q01 (mOp2 dSub (mOp2 dMod (mOp2 dIx (mVar 1) (mRet (.int 1))) (mRet (.int 5))) (mRet (.int 1))) (q01 (mOp2 dSub (mOp2 dMod (mOp2 dIx (mVar 1) (mRet (.int 2))) (mRet (.int 5))) (mRet (.int 1))) mNil)))))
   sNil)
 (sSeq (sSet 3 (mOp2 dSub (mOp2 dMod (mOp2 q3u (mOp2 q3u (mOp2 q3u (mOp2 dIx (mVar 1) (mRet (.int 1))) (mOp2 dIx (mVar 1) (mRet (.int 2)))) (mOp2 dIx (mVar 1) (mRet (.int 3)))) (mOp2 dIx (mVar 1) (mRet (.int 4)))) (mOp2 dSub (mOp2 q3u (mRet (.int 2)) w43) (mRet (.int 3)))) (mOp2 dSub w43 (mRet (.int 2)))))
 (sRet (mTup (q01 (mRet (.str "soft")) (q01 (mVar 3) (q01 (mOp2 dSub (mOp2 dAdd (mVar 3) (mOp2 dMod (mOp2 dDiv (mOp2 dIx (mVar 1) (mRet (.int 0))) (mRet (.int 9))) (mRet (.int 3)))) (mRet (.int 1))) mNil)))))))))))
def f_y44:List D->Option D:=runP false 1 4 qbl
theorem qn2:q1r 1 f_y44:=q1e
theorem qld(T:Txt K mg a):FnOk P w K mg base CX0 2 a.f_y44 a.fd_y44 ["_law_cell"] (spP K false 1 f_y44):=by
 have G_y35:=@qcb P w K mg base a T;refine T.F_y44.ok sc_y44 (λ_ _ _ _ h=>h.1) (λcdv A outer s H vs Q E hr h=>?_)
 ·refine⟨_,(q07 (zsA 1 sc_y44.nd (q0h G_y35 hr.m (by rfl) T.mg_y35 T.F_y35.kp T.B_y35 .nil q19 (q00 (pv 0) (q00 q06 q05)))) (q07 (zsA 2 sc_y44.nd (q13 q2k (q0u (q0a (K:=K) rfl) (pv 1) q06) q06)) (q07 (q2w (q12 qdq (pv 2) q06 (q1b _)) (q0b (q0t (q49 (q00 q2s (q00 (q13 q2k (q0u (q0a (K:=K) rfl) (pv 1) q06) q06) q05))))) q1j) (q07 (q2w (q12 (q2f (K:=K) rfl hr.units) (pv 2) q06 (q1b _)) (q0b (q0t (q49 (q00 q2s q05)))) q1j) (q07 (q2w (q12 qdq (pv 2) q06 (q1b _)) (q0b (q0t (q49 (q00 q2s (q00 (q13 q5a (q13 q2k (q0u (q0a (K:=K) rfl) (pv 1) q06) q06) q06) (q00 (q13 q5a (q13 q2k (q0u (q0a (K:=K) rfl) (pv 1) q06) q06) q06) q05)))))) q1j) (q07 (zsA 3 sc_y44.nd (q13 q5a (q13 q2k (q13 (q3o (K:=K) rfl) (q13 (q3o (K:=K) rfl) (q13 (q3o (K:=K) rfl) (q0u (q0a (K:=K) rfl) (pv 1) q06) (q0u (q0a (K:=K) rfl) (pv 1) q06)) (q0u (q0a (K:=K) rfl) (pv 1) q06)) (q0u (q0a (K:=K) rfl) (pv 1) q06)) (q13 q5a (q13 (q3o (K:=K) rfl) q06 (q13 qla q06 q06)) q06)) (q13 q5a (q13 qla q06 q06) q06))) (q0b (q0t (q49 (q00 q2s (q00 (pv 3) (q00 (q13 q5a (q13 (q21 (K:=K) rfl) (pv 3) (q13 q2k (q13 qb7 (q0u (q0a (K:=K) rfl) (pv 1) q06) q06) q06)) q06) q05)))))))))))),?_⟩;exact q0m (O':=[]) (Nms:=w3s) (f:=qbl) (by unfold qbl;exact(q0f (O1:=[]) (q1a (q1h (q25 qg9 (q03 (q02 (i:=0)) (q03 me_int q09))))) (q0f (O1:=[]) (q1a (q0d q2l (q0d q0x (q02 (i:=1)) me_int) me_int)) (q0f (O1:=[]) (q2x (q14 (q1c q8z (q02 (i:=2)) me_int.mb)) (q16 rfl (q4b (q03 me_str (q03 (q0d q2l (q0d q0x (q02 (i:=1)) me_int) me_int) q09))) rfl) (q1y rfl)) (q0f (O1:=[]) (q2x (q14 (q1c os_eq (q02 (i:=2)) me_int.mb)) (q16 rfl (q4b (q03 me_str q09)) rfl) (q1y rfl)) (q0f (O1:=[]) (q2x (q14 (q1c q8z (q02 (i:=2)) me_int.mb)) (q16 rfl (q4b (q03 me_str (q03 (q0d q5c (q0d q2l (q0d q0x (q02 (i:=1)) me_int) me_int) me_int) (q03 (q0d q5c (q0d q2l (q0d q0x (q02 (i:=1)) me_int) me_int) me_int) q09)))) rfl) (q1y rfl)) (q0f (O1:=[]) (q1a (q0d q5c (q0d q2l (q0d q3p (q0d q3p (q0d q3p (q0d q0x (q02 (i:=1)) me_int) (q0d q0x (q02 (i:=1)) me_int)) (q0d q0x (q02 (i:=1)) me_int)) (q0d q0x (q02 (i:=1)) me_int)) (q0d q5c (q0d q3p me_int (q0d qlo me_int me_int)) me_int)) (q0d q5c (q0d qlo me_int me_int) me_int))) (q16 rfl (q4b (q03 me_str (q03 (q02 (i:=3)) (q03 (q0d q5c (q0d q2t (q02 (i:=3)) (q0d q2l (q0d qg5 (q0d q0x (q02 (i:=1)) me_int) me_int) me_int)) me_int) q09)))) rfl)))))))) h
def qk9:RhO:=
 (sSeq (sSet 3 (mOf (q1t 1 [] none (mSeq (mSl (mVar 0) (mRet none) (q4g (mVar 1)))) (gSet 0) (mRet true) (q0k f_y44 (q01 (mVar 0) mNil)))))
 (q8t (qj9 qjy (mVar 3) (mOf (q1t 1 [] none (mSeq (mOf (q1m f_y35 (q01 (mVar 2) (q01 (mOp2 dSub (mVar 1) (mOp1 dLen (mVar 3))) mNil))))) (gSet 0) (mRet true) (q0k f_y44 (q01 (mVar 0) mNil)))))))
def f_y45:List D->Option D:=runP true 3 4 qk9
theorem qv7:q1r 3 f_y45:=q1e
theorem qr4(T:Txt K mg a):FnOk P w K mg base CX0 3 a.f_y45 a.fd_y45 w3a (spP K true 3 f_y45):=by
 have G_y44:=@qld P w K mg base a T;have G_y35:=@qcb P w K mg base a T;refine T.F_y45.ok sc_y45 (λ_ _ _ _ h=>h.1) (λcdv A outer s H vs Q E hr h=>?_)
 ·refine⟨_,(q07 (q5k (k:=3) (sc:=q04 qap) (N0:=w1n) rfl rfl rfl (show q1v _ _ ["_law_cell"] 1 [] _=true by decide+kernel) sc_y45.nd rfl (Or.inl rfl) (q2a (K:=K) rfl (q3y (q4o (K:=K) rfl) (pv 0) q69 (q45 (pv 1)))) (λ_ _ _ _ _=>(q0o (i:=0) (show List.Nodup (["_law_cell"]:List Str)from(by decide+kernel)) rfl (Or.inl rfl))) (q1o (by decide)) (λ_ _ _ _ _=>q27) (λ_ _ _ _ _=>(q0h G_y44 hr.m (by rfl) T.mg_y44 T.F_y44.kp T.B_y44 .nil q19 (q00 (pv 0) q05)))) (q0b (q0t (q13 (q21 (K:=K) rfl) (pv 3) (q2g (sc:=q04 qap) (N0:=w1n) rfl rfl rfl (show q1v _ _ ["_law_y"] 1 [] _=true by decide+kernel) (q2a (K:=K) rfl (q0h G_y35 hr.m (by rfl) T.mg_y35 T.F_y35.kp T.B_y35 .nil q19 (q00 (pv 2) (q00 (q13 q5a (pv 1) (q11 (q1q (K:=K) rfl) (by rfl) T.z_len (by rfl) (q00 (pv 3) q05))) q05)))) (λ_ _ _ _ _=>(q0o (i:=0) (show List.Nodup (["_law_y"]:List Str)from(by decide+kernel)) rfl (Or.inl rfl))) (q1o (by decide)) (λ_ _ _ _ _=>q27) (λ_ _ _ _ _=>(q0h G_y44 hr.m (by rfl) T.mg_y44 T.F_y44.kp T.B_y44 .nil q19 (q00 (pv 0) q05)))))))),?_⟩;exact q0m (O':=[]) (Nms:=w1n) (f:=qk9) (by unfold qk9;exact(q0f (O1:=[]) (q7h (q1w (bw:=none) (q2z (q3z (q02 (i:=0)) q6c (q48 (q02 (i:=1))))) (q0q (i:=0)) q32 (q0j qn2 (q03 (q02 (i:=0)) q09))) rfl (by decide)) (q7i rfl (qvp qqv (q02 (i:=3)) (q1h (q1w (bw:=none) (q2z (q1h (q25 qg9 (q03 (q02 (i:=2)) (q03 (q0d q5c (q02 (i:=1)) (q1i q3a q26)) q09))))) (q0q (i:=0)) q32 (q0j qn2 (q03 (q02 (i:=0)) q09))))) rfl))) h
abbrev w2l:=(mZip (q01 (mVar 2) (q01 (mOf (q1m f_y40 (q01 (mVar 0) (q01 (mVar 1) mNil)))) mNil)))
def qe9:Fd:=
 (q8h 3 (q2i 2 (q0w (gSet 4) (q0w (gSet 5) q2o))) w2l
   (q3f 3 (mVar 5) (q01 (mVar 4) mNil)))
def qdz:RhL:=(q2u (q01 w1c mNil))
def qaa:List D->Option (List (List D)):=q8v 3 6 3 qdz qe9
def f_y46:List D->Option D:=λds=>qae (qaa ds)
theorem qs2:q1r 3 f_y46:=qff
theorem qmz(T:Txt K mg a):FnOk P w K mg base CX0 3 a.f_y46 a.fd_y46 w1k (spD K 3 qaa):=by
 have G_y39:=@qca P w K mg base a T;have G_y40:=@qlg P w K mg base a T;refine T.F_y46.ok sc_y46 (λvs H Q E h=>h.1) (λcdv A outer s H vs Q E hr h=>?_);refine⟨_,(q07 (q5k (k:=3) (sc:=q04 qdb) (N0:=w1b) rfl rfl rfl (show q1v _ _ ["_law_number"] 1 [] _=true by decide+kernel) sc_y46.nd rfl (Or.inl rfl) (q20 (by rfl) T.z_range (q00 (q0h G_y39 hr.m (by rfl) T.mg_y39 T.F_y39.kp T.B_y39 .nil q19 (q00 (pv 0) (q00 (pv 1) q05))) q05)) (λ_ _ _ _ _=>(q0o (i:=0) (show List.Nodup (["_law_number"]:List Str)from(by decide+kernel)) rfl (Or.inl rfl))) (q1o (by decide)) (λ_ _ _ _ _=>q27) (λ_ _ _ _ _=>(q2p q05))) (q07 (q31 jx rfl (q5l (K:=K) rfl (by rfl) T.z_zip (q00 (pv 2) (q00 (q0h G_y40 hr.m (by rfl) T.mg_y40 T.F_y40.kp T.B_y40 .nil q19 (q00 (pv 0) (q00 (pv 1) q05))) q05))) (q3n (K:=K) rfl rfl (q1n (zgA 4 sc_y46.nd) (q1n (zgA 5 sc_y46.nd) q3m))) (q0b (q3b (q7a PySem.F.plainAttrs_list PySem.F.slot_list_append PySem.F.type_list_append q3h (q0u (q0a (K:=K) rfl) (pv 3) (pv 5)) (q00 (pv 4) q05))))) (q0b (q0t (pv 3))))),?_⟩;exact q9l (Nms:=w1b) (i:=3) (m:=1) (js:=[]) (fi:=qdz) (f:=qe9) (by
  unfold qdz;exact(q22 (q03 (q0j qj2 (q03 (q02 (i:=0)) (q03 (q02 (i:=1)) q09))) q09))) (by
  unfold qe9;exact(qcf (q7l (q03 (q02 (i:=2)) (q03 (q1h (q25 qs5 (q03 (q02 (i:=0)) (q03 (q02 (i:=1)) q09)))) q09))) (q4q (q1p (q0q (i:=4)) (q1p (q0q (i:=5)) q3s))) (by decide) (q8d (q02 (i:=5)) (q03 (q02 (i:=4)) q09)))) h
theorem qlc(T:Txt K mg a):FnOk P w K mg base CX0 3 a.f_y46 a.fd_y46 w1k (spP K false 3 f_y46):=(qmz T).imp λ_ _ _ _ h=>qpk h
def qho:RhO:=
 (sSeq (sAsg (q0k f_y37 w3w) (q2i 2 (q0w (gSet 6) (q0w (gSet 7) q2o))))
 (sSeq (sIf (q0g (mOp2 dIsN (mOp2 dIx (mVar 5) (mVar 6)) (mRet .non)))
   (sRet (mRet .non))
   sNil)
 (sRet (mOp2 dAdd (mOp2 dIx (mVar 5) (mVar 6)) (mOp1 dSum (mOf (q1t 2 [] none (mZip (q01 (mVar 2) (q01 (mOf (q1m f_y38 (q01 (mVar 0) (q01 (mVar 1) (q01 (mVar 7) mNil))))) mNil))) (q2i 2 (q0w (gSet 0) (q0w (gSet 1) q2o))) (mRet true) (q0k f_y43 (q01 (mVar 0) (q01 (mVar 1) mNil))))))))))
def f_y47:List D->Option D:=runP false 6 8 qho
theorem qs1:q1r 6 f_y47:=q1e
abbrev w3o:List Str:=["_law_one","_law_sign_here"]
theorem qlb(T:Txt K mg a):FnOk P w K mg base CX0 2 a.f_y47 a.fd_y47 w1f (spP K false 6 f_y47):=by
 have G_y37:=@qg2 P w K mg base a T;have G_y38:=@qlh P w K mg base a T;have G_y43:=@qle P w K mg base a T;refine T.F_y47.ok sc_y47 (λ_ _ _ _ h=>h.1) (λcdv A outer s H vs Q E hr h=>?_)
 ·refine⟨_,(q07 (qc2 (q0h G_y37 hr.m (by rfl) T.mg_y37 T.F_y37.kp T.B_y37 .nil q19 (q00 (pv 0) (q00 (pv 3) (q00 (pv 4) q05)))) (q3n (K:=K) rfl rfl (q1n (zgA 6 sc_y47.nd) (q1n (zgA 7 sc_y47.nd) q3m)))) (q07 (q2w (q12 qg1 (q0u (q0a (K:=K) rfl) (pv 5) (pv 6)) q4j (q1b _)) (q0b (q0t q4j)) q1j) (q0b (q0t (q13 (q21 (K:=K) rfl) (q0u (q0a (K:=K) rfl) (pv 5) (pv 6)) (q11 (q70 (K:=K) rfl rfl) (by rfl) T.z_sum (by rfl) (q00 (q2g (sc:=q04 qda) (N0:=w0x) rfl rfl rfl (show q1v _ _ w3o 2 [] _=true by decide+kernel) (q5l (K:=K) rfl (by rfl) T.z_zip (q00 (pv 2) (q00 (q0h G_y38 hr.m (by rfl) T.mg_y38 T.F_y38.kp T.B_y38 .nil q19 (q00 (pv 0) (q00 (pv 1) (q00 (pv 7) q05)))) q05))) (λ_ _ _ _ _=>(q3n (K:=K) rfl rfl (q1n (q0o (i:=0) (show List.Nodup (w3o:List Str)from(by decide+kernel)) rfl (Or.inl rfl)) (q1n (q0o (i:=1) (show List.Nodup (w3o:List Str)from(by decide+kernel)) rfl (Or.inl rfl)) q3m)))) (q5y (by decide) (by decide)) (λ_ _ _ _ _=>q27) (λ_ _ _ _ _=>(q0h G_y43 hr.m (by rfl) T.mg_y43 T.F_y43.kp T.B_y43 .nil q19 (q00 (pv 0) (q00 (pv 1) q05))))) q05))))))),?_⟩;exact q0m (O':=[]) (Nms:=w0x) (f:=qho) (by unfold qho;exact(q0f (O1:=[]) (qlr (q0j qn3 (q03 (q02 (i:=0)) (q03 (q02 (i:=3)) (q03 (q02 (i:=4)) q09)))) rfl (q4q (q1p (q0q (i:=6)) (q1p (q0q (i:=7)) q3s)))) (q0f (O1:=[]) (q2x (q14 (q1c qfy (q0d q0x (q02 (i:=5)) (q02 (i:=6))) me_non.mb)) (q16 rfl me_non rfl) (q1y rfl)) (q16 rfl (q0d q2t (q0d q0x (q02 (i:=5)) (q02 (i:=6))) (q1i qcr (q1h (q1w (bw:=none) (q7l (q03 (q02 (i:=2)) (q03 (q1h (q25 qs6 (q03 (q02 (i:=0)) (q03 (q02 (i:=1)) (q03 (q02 (i:=7)) q09))))) q09))) (q4q (q1p (q0q (i:=0)) (q1p (q0q (i:=1)) q3s))) q32 (q0j qs3 (q03 (q02 (i:=0)) (q03 (q02 (i:=1)) q09))))).mb)) rfl)))) h
abbrev w00:=(sIf (mOr w33 (q0g (mOp2 dEq (mVar 3) (mOp2 dIx (mOf (mLst (q01 (mRet (.int 0)) (q01 (mVar 1) mNil)))) (mOp1 dInt w3b))))) (sSet 4 (mRet (.int 0))) sNil)
abbrev w3r:=(q0g (mOp2 dNe (mOp2 dIx (mVar 2) (mVar 3)) (mVar 4)))
abbrev w1t:=(sSeq (sSet 4 (mRet .non)) (sSeq w00 (sIf w3r (sRet (mRet (.bl false))) sNil)))
def qk8:RhO:=
 (sSeq (sFor (q2u (q01 (mOp2 dShl (mRet (.int 1)) (mOp2 dIx (mVar 0) (mRet (.int 0)))) mNil)) (gSet 3)
   w1t)
 (sRet (mRet (.bl true))))
def f_y48:List D->Option D:=runP false 3 5 qk8
theorem qv6:q1r 3 f_y48:=q1e
theorem qr3(T:Txt K mg a):FnOk P w K mg base CX0 1 a.f_y48 a.fd_y48 w2b (spP K false 3 f_y48):=by
 refine T.F_y48.ok sc_y48 (λ_ _ _ _ h=>h.1) (λcdv A outer s H vs Q E hr h=>?_)
 ·refine⟨_,(q07 (q31 jx rfl (q20 (by rfl) T.z_range (q00 (q13 q7c q06 (q0u (q0a (K:=K) rfl) (pv 0) q06)) q05)) (zgA 3 sc_y48.nd) (q07 (zsA 4 sc_y48.nd q4j) (q07 (q2w (PW.pt (pw_or (q12 (q2f (K:=K) rfl hr.units) (q0u (q0a (K:=K) rfl) (pv 0) q06) q2s (q1b _)) (pw_or1 (q12 (q2f (K:=K) rfl hr.units) (pv 3) (q0u (q0a (K:=K) rfl) (q2p (q00 q06 (q00 (pv 1) q05))) (q2q q65 (by rfl) T.z_int (by rfl) (q00 (q79 (q2f (K:=K) rfl hr.units) (q0u (q0a (K:=K) rfl) (pv 0) q06) q2s (q1b _)) q05))) (q1b _))))) (q0b (zsA 4 sc_y48.nd q06)) q1j) (q0b (q2w (q12 (q5b (K:=K) rfl hr.units) (q0u (q0a (K:=K) rfl) (pv 2) (pv 3)) (pv 4) (q1b _)) (q0b (q0t q54)) q1j))))) (q0b (q0t q54))),?_⟩;exact q0m (O':=[]) (Nms:=w34) (f:=qk8) (by unfold qk8;exact(q0f (O1:=[]) (q39 (O':=[]) (q22 (q03 (q0d q7d me_int (q0d q0x (q02 (i:=0)) me_int)) q09)) rfl (q0q (i:=3)) (q0f (O1:=[]) (q1a me_non) (q0f (O1:=[]) (q2x (q7e (q14 (q1c os_eq (q0d q0x (q02 (i:=0)) me_int) me_str.mb)) (q14 (q1c os_eq (q02 (i:=3)) (q0d q0x (q1h (q2y (q03 me_int (q03 (q02 (i:=1)) q09)))) (q1i qcs (q1c os_eq (q0d q0x (q02 (i:=0)) me_int) me_str.mb).mb)).mb))) (q1a me_int) (q1y rfl)) (q2x (q14 (q1c q82 (q0d q0x (q02 (i:=2)) (q02 (i:=3))) q26)) (q16 rfl q55 rfl) (q1y rfl))))) (q16 rfl q55 rfl))) h
abbrev w1s:=(mAnd (q0g (mOp2 q56 (mVar 4) (mRet .non))) (mOr (mNot (q0g (mOp1 (dIsi (q2n "int")) (mVar 4)))) (q0g (mOp1 (dIsi (q2n "bool")) (mVar 4)))))
abbrev w05:=(sIf w1s (sRet (mRet (.bl false))) sNil)
abbrev w2e:=(mNot (q0g (mOp1 (dIsi (q2n "list")) (mVar 3))))
abbrev w1x:=(mOr (mNot (q0g (mOp1 (dIsi (q2n "list")) (mVar 2)))) (q0g (mOp2 dNe (mOp1 dLen (mVar 2)) (mOp2 dAdd w1c (mRet (.int 1))))))
def qk7:RhO:=
 (sSeq (sIf w1x
   (sRet (mRet (.bl false)))
   sNil)
 (sSeq (sFor (mSeq (mVar 2)) (gSet 3)
   (sSeq (sIf (mOr w2e (q0g (mOp2 dNe (mOp1 dLen (mVar 3)) (mOp2 dShl (mRet (.int 1)) (mOp2 dIx (mVar 0) (mRet (.int 0)))))))
   (sRet (mRet (.bl false)))
   sNil) (sFor (mSeq (mVar 3)) (gSet 4)
   w05)))
 (sRet (mRet (.bl true)))))
def f_y49:List D->Option D:=runP false 3 5 qk7
theorem qv5:q1r 3 f_y49:=q1e
theorem qr2(T:Txt K mg a):FnOk P w K mg base CX0 2 a.f_y49 a.fd_y49 w2j (spP K false 3 f_y49):=by
 have G_y39:=@qca P w K mg base a T;refine T.F_y49.ok sc_y49 (λ_ _ _ _ h=>h.1) (λcdv A outer s H vs Q E hr h=>?_)
 ·refine⟨_,(q07 (q2w (PW.pt (pw_or (q59 (q3l (q11 (q3g (K:=K) rfl) (by rfl) T.z_isinstance (by rfl) (q00 (pv 2) (q00 (q46 (v:=.ty "list") (by rfl) T.z_list (by rfl) rfl) q05))))) (pw_or1 (q12 (q5b (K:=K) rfl hr.units) (q11 (q1q (K:=K) rfl) (by rfl) T.z_len (by rfl) (q00 (pv 2) q05)) (q13 (q21 (K:=K) rfl) (q0h G_y39 hr.m (by rfl) T.mg_y39 T.F_y39.kp T.B_y39 .nil q19 (q00 (pv 0) (q00 (pv 1) q05))) q06) (q1b _))))) (q0b (q0t q54)) q1j) (q07 (q31 jx rfl (q2a (K:=K) rfl (pv 2)) (zgA 3 sc_y49.nd) (q07 (q2w (PW.pt (pw_or (q59 (q3l (q11 (q3g (K:=K) rfl) (by rfl) T.z_isinstance (by rfl) (q00 (pv 3) (q00 (q46 (v:=.ty "list") (by rfl) T.z_list (by rfl) rfl) q05))))) (pw_or1 (q12 (q5b (K:=K) rfl hr.units) (q11 (q1q (K:=K) rfl) (by rfl) T.z_len (by rfl) (q00 (pv 3) q05)) (q13 q7c q06 (q0u (q0a (K:=K) rfl) (pv 0) q06)) (q1b _))))) (q0b (q0t q54)) q1j) (q0b (q31 jx rfl (q2a (K:=K) rfl (pv 3)) (zgA 4 sc_y49.nd) (q0b (q2w (PW.pt (pw_and (q12 qb6 (pv 4) q4j (q1b _)) (pw_and1 (PW.pt (pw_or (q59 (q3l (q11 (q3g (K:=K) rfl) (by rfl) T.z_isinstance (by rfl) (q00 (pv 4) (q00 (q46 (v:=.ty "int") (by rfl) T.z_int (by rfl) rfl) q05))))) (pw_or1 (q3l (q11 (q3g (K:=K) rfl) (by rfl) T.z_isinstance (by rfl) (q00 (pv 4) (q00 (q46 (v:=.ty "bool") (by rfl) T.z_bool (by rfl) rfl) q05)))))))))) (q0b (q0t q54)) q1j)))))) (q0b (q0t q54)))),?_⟩;exact q0m (O':=[]) (Nms:=w39) (f:=qk7) (by unfold qk7;exact(q0f (O1:=[]) (q2x (q7e (q5e (q3r (q5g (q93 T) q26))) (q14 (q1c q82 (q1i q3a q26) (q0d q2t (q0j qj2 (q03 (q02 (i:=0)) (q03 (q02 (i:=1)) q09))) me_int).mb))) (q16 rfl q55 rfl) (q1y rfl)) (q0f (O1:=[]) (q39 (O':=[]) (q2z (q02 (i:=2))) rfl (q0q (i:=3)) (q0f (O1:=[]) (q2x (q7e (q5e (q3r (q5g (q93 T) q26))) (q14 (q1c q82 (q1i q3a q26) (q0d q7d me_int (q0d q0x (q02 (i:=0)) me_int)).mb))) (q16 rfl q55 rfl) (q1y rfl)) (q39 (O':=[]) (q2z (q02 (i:=3))) rfl (q0q (i:=4)) (q2x (qlq (q14 (q1c qb5 (q02 (i:=4)) me_non.mb)) (q7e (q5e (q3r (q5g (qbc T) q26))) (q3r (q5g (q94 T) q26)))) (q16 rfl q55 rfl) (q1y rfl))))) (q16 rfl q55 rfl)))) h
abbrev w1j:=(q4g (mOp2 dAdd (mRet (.int 1)) (mOp1 dInt (mOp2 dLt (mVar 6) (mVar 1)))))
abbrev w19:=(mOp2 dIx (mOp2 dIx (mVar 4) (mVar 6)) (mVar 8))
abbrev w15:=(mOr (mNot (q0g (q0k f_y49 (q01 (mVar 0) (q01 (mVar 1) (q01 (mVar 4) mNil)))))) (mNot (q0g (q0k f_y48 (q01 (mVar 0) (q01 (mVar 3) (q01 (mOp2 dIx (mVar 4) (mOp1 dNeg (mRet (.int 1)))) mNil)))))))
abbrev w0o:=(mOf (q1t 1 [] none (mSeq (mVar 9)) (gSet 0) (q0g (mOp2 q56 (mVar 0) (mRet .non))) (mVar 0)))
abbrev w02:=(q01 (mVar 1) (q01 (mVar 2) (q01 (mOp2 dIx (mVar 4) (mVar 2)) (q01 (mVar 3) (q01 (mVar 0) (q01 (mOp2 dIx (mVar 5) (mOp2 dAdd (mVar 2) (mRet (.int 1)))) mNil))))))
abbrev w2g:=(sSet 7 (mSl (mOf (mLst w0e)) (mRet none) w1j))
abbrev w1o:=(sSet 9 (mOf (q1t 1 [0,6,8,5,4] none (mSeq (mVar 7)) (gSet 0) (mRet true) (q0k f_y47 w02))))
def qok:RhO:=
 (sSeq (sIf w15
   (sRet (mRet (.bl false)))
   sNil)
 (sSeq (sSet 5 (q0k f_y46 w0c))
 (sSeq (sFor (q2u (q01 (mOp1 dLen (mVar 5)) mNil)) (gSet 6)
   (sSeq w2g (sFor (q2u (q01 (mOp2 dShl (mRet (.int 1)) (mOp2 dIx (mVar 0) (mRet (.int 0)))) mNil)) (gSet 8)
   (sSeq w1o (sIf (q0g (mOp2 dNe w19 (mOp1 q7y w0o)))
   (sRet (mRet (.bl false)))
   sNil)))))
 (sRet (mRet (.bl true))))))
def f_y50:List D->Option D:=runP false 5 10 qok
theorem qv4:q1r 5 f_y50:=q1e
abbrev w2p:List Str:=["_law_bit","_law_scheme_here","_law_number","_law_room","_law_told","_law_table"]
theorem qr1(T:Txt K mg a):FnOk P w K mg base CX0 4 a.f_y50 a.fd_y50 w0f (spP K false 5 f_y50):=by
 have G_y48:=@qr3 P w K mg base a T;have G_y49:=@qr2 P w K mg base a T;have G_y46:=@qlc P w K mg base a T;have G_y47:=@qlb P w K mg base a T;refine T.F_y50.ok sc_y50 (λ_ _ _ _ h=>h.1) (λcdv A outer s H vs Q E hr h=>?_)
 ·refine⟨_,(q07 (q2w (PW.pt (pw_or (q59 (q3l (q0h G_y49 hr.m (by rfl) T.mg_y49 T.F_y49.kp T.B_y49 .nil q19 (q00 (pv 0) (q00 (pv 1) (q00 (pv 4) q05)))))) (pw_or1 (q59 (q3l (q0h G_y48 hr.m (by rfl) T.mg_y48 T.F_y48.kp T.B_y48 .nil q19 (q00 (pv 0) (q00 (pv 3) (q00 (q0u (q0a (K:=K) rfl) (pv 4) (qql qkw q06)) q05))))))))) (q0b (q0t q54)) q1j) (q07 (zsA 5 sc_y50.nd (q0h G_y46 hr.m (by rfl) T.mg_y46 T.F_y46.kp T.B_y46 .nil q19 (q00 (pv 0) (q00 (pv 1) (q00 (pv 2) q05))))) (q07 (q31 jx rfl (q20 (by rfl) T.z_range (q00 (q11 (q1q (K:=K) rfl) (by rfl) T.z_len (by rfl) (q00 (pv 5) q05)) q05)) (zgA 6 sc_y50.nd) (q07 (zsA 7 sc_y50.nd (q3y (q4o (K:=K) rfl) (q2p (q00 q06 (q00 q06 q05))) q69 (q45 (q13 (q21 (K:=K) rfl) q06 (q2q q65 (by rfl) T.z_int (by rfl) (q00 (q79 qdq (pv 6) (pv 1) (q1b _)) q05)))))) (q0b (q31 jx rfl (q20 (by rfl) T.z_range (q00 (q13 q7c q06 (q0u (q0a (K:=K) rfl) (pv 0) q06)) q05)) (zgA 8 sc_y50.nd) (q07 (q5k (k:=9) (sc:=q04 qao) (N0:=w0d) rfl rfl rfl (show q1v _ _ w2p 1 [0,6,8,5,4] _=true by decide+kernel) sc_y50.nd rfl (Or.inl rfl) (q2a (K:=K) rfl (pv 7)) (λ_ _ _ _ _=>(q0o (i:=0) (show List.Nodup (w2p:List Str)from(by decide+kernel)) rfl (Or.inl rfl))) (q1o (by decide)) (λ_ _ _ _ _=>q27) (λ_ _ _ _ _=>(q0h G_y47 hr.m (by rfl) T.mg_y47 T.F_y47.kp T.B_y47 .nil q19 (q00 (pv 1) (q00 (pv 2) (q00 (q0u (q0a (K:=K) rfl) (pv 4) (pv 2)) (q00 (pv 3) (q00 (pv 0) (q00 (q0u (q0a (K:=K) rfl) (pv 5) (q13 (q21 (K:=K) rfl) (pv 2) q06)) q05))))))))) (q0b (q2w (q12 (q5b (K:=K) rfl hr.units) (q0u (q0a (K:=K) rfl) (q0u (q0a (K:=K) rfl) (pv 4) (pv 6)) (pv 8)) (qfq (K:=K) rfl rfl (by rfl) T.z_min (q2g (sc:=q04 qao) (N0:=w0d) rfl rfl rfl (show q1v _ _ ["_law_way_here"] 1 [] _=true by decide+kernel) (q2a (K:=K) rfl (pv 9)) (λ_ _ _ _ _=>(q0o (i:=0) (show List.Nodup (["_law_way_here"]:List Str)from(by decide+kernel)) rfl (Or.inl rfl))) (q1o (by decide)) (λ_ _ _ _ _=>(q78 (q12 qb6 (pv 0) q4j (q1b _)))) (λ_ _ _ _ _=>(pv 0))) q4j) (q1b _)) (q0b (q0t q54)) q1j))))))) (q0b (q0t q54))))),?_⟩;exact q0m (O':=[]) (Nms:=w0d) (f:=qok) (by unfold qok;exact(q0f (O1:=[]) (q2x (q7e (q5e (q3r (q0j qv5 (q03 (q02 (i:=0)) (q03 (q02 (i:=1)) (q03 (q02 (i:=4)) q09)))))) (q5e (q3r (q0j qv6 (q03 (q02 (i:=0)) (q03 (q02 (i:=3)) (q03 (q0d q0x (q02 (i:=4)) (qlu me_int)) q09))))))) (q16 rfl q55 rfl) (q1y rfl)) (q0f (O1:=[]) (q1a (q0j qs2 (q03 (q02 (i:=0)) (q03 (q02 (i:=1)) (q03 (q02 (i:=2)) q09))))) (q0f (O1:=[]) (q39 (O':=[]) (q22 (q03 (q1i q3a q26) q09)) rfl (q0q (i:=6)) (q0f (O1:=[]) (q1a (q3z (q1h (q2y (q03 me_int (q03 me_int q09)))) q6c (q48 (q0d q2t me_int (q1i qcs (q1c q8z (q02 (i:=6)) q26).mb))))) (q39 (O':=[]) (q22 (q03 (q0d q7d me_int (q0d q0x (q02 (i:=0)) me_int)) q09)) rfl (q0q (i:=8)) (q0f (O1:=[]) (q7h (q1w (bw:=none) (q2z (q02 (i:=7))) (q0q (i:=0)) q32 (q0j qs1 (q03 (q02 (i:=1)) (q03 (q02 (i:=2)) (q03 (q0d q0x (q02 (i:=4)) (q02 (i:=2))) (q03 (q02 (i:=3)) (q03 (q02 (i:=0)) (q03 (q0d q0x (q02 (i:=5)) (q0d q2t (q02 (i:=2)) me_int)) q09)))))))) rfl (by decide)) (q2x (q14 (q1c q82 (q0d q0x (q0d q0x (q02 (i:=4)) (q02 (i:=6))) (q02 (i:=8))) (qgh (q1h (q1w (bw:=none) (q2z (q02 (i:=9))) (q0q (i:=0)) (q14 (q1c qb5 (q02 (i:=0)) me_non.mb)) (q02 (i:=0)))).mb).mb)) (q16 rfl q55 rfl) (q1y rfl)))))) (q16 rfl q55 rfl))))) h
abbrev w17:=(sSet 6 (mOp2 dIx (q0k f_y37 (q01 (mVar 0) (q01 (mVar 6) (q01 (mVar 9) mNil)))) (mRet (.int 0))))
abbrev w04:=(sIf (q0g (mOp2 dEq (q0k f_y47 (q01 (mVar 0) (q01 (mVar 8) (q01 (mOp2 dIx (mVar 5) (mVar 8)) (q01 (mVar 6) (q01 (mRet (.int 0)) (q01 (mOp2 dIx (mVar 4) (mOp2 dAdd (mVar 8) (mRet (.int 1)))) mNil))))))) (mOp2 dIx (mOp2 dIx (mVar 4) (mVar 8)) (mVar 6)))) (sSet 9 (mRet (.int 0))) sNil)
abbrev w2h:=(sSeq (sSet 9 (mRet (.int 1))) (sSeq w04 (sSeq (sMut q2c 7 (q01 (mVar 9) mNil)) w17)))
def qk6:RhO:=
 (sSeq (sSet 5 (q0k f_y46 w0c))
 (sSeq (sSet 6 (mVar 3))
 (sSeq (sOwn 7 (mLst mNil))
 (sSeq (sFor (q2u (q01 (mVar 1) mNil)) (gSet 8)
   w2h)
 (q5v 7)))))
def f_y51:List D->Option D:=runP true 5 10 qk6
theorem qv3:q1r 5 f_y51:=q1e
theorem qr0(T:Txt K mg a):FnOk P w K mg base CX0 4 a.f_y51 a.fd_y51 w0f (spP K true 5 f_y51):=by
 have G_y46:=@qlc P w K mg base a T;have G_y47:=@qlb P w K mg base a T;have G_y37:=@qg2 P w K mg base a T;refine T.F_y51.ok sc_y51 (λ_ _ _ _ h=>h.1) (λcdv A outer s H vs Q E hr h=>?_)
 ·refine⟨_,(q07 (zsA 5 sc_y51.nd (q0h G_y46 hr.m (by rfl) T.mg_y46 T.F_y46.kp T.B_y46 .nil q19 (q00 (pv 0) (q00 (pv 1) (q00 (pv 2) q05))))) (q07 (zsA 6 sc_y51.nd (pv 3)) (q07 (zsA 7 sc_y51.nd (q2p q05)) (q07 (q31 jx rfl (q20 (by rfl) T.z_range (q00 (pv 1) q05)) (zgA 8 sc_y51.nd) (q07 (zsA 9 sc_y51.nd q06) (q07 (q2w (q12 (q2f (K:=K) rfl hr.units) (q0h G_y47 hr.m (by rfl) T.mg_y47 T.F_y47.kp T.B_y47 .nil q19 (q00 (pv 0) (q00 (pv 8) (q00 (q0u (q0a (K:=K) rfl) (pv 5) (pv 8)) (q00 (pv 6) (q00 q06 (q00 (q0u (q0a (K:=K) rfl) (pv 4) (q13 (q21 (K:=K) rfl) (pv 8) q06)) q05))))))) (q0u (q0a (K:=K) rfl) (q0u (q0a (K:=K) rfl) (pv 4) (pv 8)) (pv 6)) (q1b _)) (q0b (zsA 9 sc_y51.nd q06)) q1j) (q07 (q3b (q7a PySem.F.plainAttrs_list PySem.F.slot_list_append PySem.F.type_list_append q3h (pv 7) (q00 (pv 9) q05))) (q0b (zsA 6 sc_y51.nd (q0u (q0a (K:=K) rfl) (q0h G_y37 hr.m (by rfl) T.mg_y37 T.F_y37.kp T.B_y37 .nil q19 (q00 (pv 0) (q00 (pv 6) (q00 (pv 9) q05)))) q06))))))) (q0b (q0t (pv 7))))))),?_⟩;exact q0m (O':=[]) (Nms:=w1m) (f:=qk6) (by unfold qk6;exact(q0f (O1:=[]) (q1a (q0j qs2 (q03 (q02 (i:=0)) (q03 (q02 (i:=1)) (q03 (q02 (i:=2)) q09))))) (q0f (O1:=[]) (q1a (q02 (i:=3))) (q0f (O1:=[7]) (q5f (q2y q09) rfl) (q0f (O1:=[7]) (q39 (O':=[7]) (q22 (q03 (q02 (i:=1)) q09)) rfl (q0q (i:=8)) (q0f (O1:=[7]) (q1a me_int) (q0f (O1:=[7]) (q2x (q14 (q1c os_eq (q0j qs1 (q03 (q02 (i:=0)) (q03 (q02 (i:=8)) (q03 (q0d q0x (q02 (i:=5)) (q02 (i:=8))) (q03 (q02 (i:=6)) (q03 me_int (q03 (q0d q0x (q02 (i:=4)) (q0d q2t (q02 (i:=8)) me_int)) q09))))))) (q0d q0x (q0d q0x (q02 (i:=4)) (q02 (i:=8))) (q02 (i:=6))).mb)) (q1a me_int) (q1y rfl)) (q0f (O1:=[7]) (q8e q4a (by decide) (q03 (q02 (i:=9)) q09) rfl) (q1a (q0d q0x (q0j qn3 (q03 (q02 (i:=0)) (q03 (q02 (i:=6)) (q03 (q02 (i:=9)) q09)))) me_int)))))) (q6b rfl (by first|decide|simp) rfl (by first|decide|simp))))))) h
def qhn:RhO:=
 (sSeq (sIf (q0g w09)
   (q8t (q6s upsO (mOp2 dShl (mRet (.int 1)) (mOp2 dIx (mVar 0) (mRet (.int 0))))))
   sNil)
 (q8t (mLst (q01 (mRet (.int 0)) mNil))))
def f_y52:List D->Option D:=runP true 1 1 qhn
theorem qv2:q1r 1 f_y52:=q1e
theorem qqz(T:Txt K mg a):FnOk P w K mg base CX0 1 a.f_y52 a.fd_y52 ["_law_scheme_here"] (spP K true 1 f_y52):=by
 refine T.F_y52.ok qps (λ_ _ _ _ h=>h.1) (λcdv A outer s H vs Q E hr h=>?_)
 ·refine⟨_,(q07 (q2w (q12 (q2f (K:=K) rfl hr.units) (q0u (q0a (K:=K) rfl) (pv 0) q06) q2s (q1b _)) (q0b (q0t (qfs rfl (by rfl) T.z_list (by rfl) T.z_range (q13 q7c q06 (q0u (q0a (K:=K) rfl) (pv 0) q06))))) q1j) (q0b (q0t (q2p (q00 q06 q05))))),?_⟩;exact q0m (O':=[]) (Nms:=["_law_scheme_here"]) (f:=qhn) (by unfold qhn;exact(q0f (O1:=[]) (q2x (q14 (q1c os_eq (q0d q0x (q02 (i:=0)) me_int) me_str.mb)) (q7i rfl (qgd (q0d q7d me_int (q0d q0x (q02 (i:=0)) me_int))) rfl) (q1y rfl)) (q7i rfl (q2y (q03 me_int q09)) rfl))) h
abbrev w1l:=(sIf (mOr (mNot (q0g (mOp1 (dIsi (q2n "list")) (mVar 0)))) (q0g (mOp2 dNe (mOp1 dLen (mVar 0)) (mVar 1)))) (sRet (mRet (.bl false))) sNil)
abbrev w0l:=(q91 (mOp1 (dIsi (q2n "int")) (mVar 0)) (q91 (qdx (mOp1 (dIsi (q2n "bool")) (mVar 0))) (q8f dLe dLe (mRet (.int 0)) (mVar 0) (mRet (.int 1)))))
def qk5:RhO:=
 (sSeq w1l
 (sRet (mOp1 dAll (mOf (q1t 1 [] none (mSeq (mVar 0)) (gSet 0) (mRet true) w0l)))))
def f_y53:List D->Option D:=runP false 2 2 qk5
theorem qv1:q1r 2 f_y53:=q1e
theorem qqy(T:Txt K mg a):FnOk P w K mg base CX0 1 a.f_y53 a.fd_y53 w1z (spP K false 2 f_y53):=by
 refine T.F_y53.ok qpr (λ_ _ _ _ h=>h.1) (λcdv A outer s H vs Q E hr h=>?_)
 ·refine⟨_,(q07 (q2w (PW.pt (pw_or (q59 (q3l (q11 (q3g (K:=K) rfl) (by rfl) T.z_isinstance (by rfl) (q00 (pv 0) (q00 (q46 (v:=.ty "list") (by rfl) T.z_list (by rfl) rfl) q05))))) (pw_or1 (q12 (q5b (K:=K) rfl hr.units) (q11 (q1q (K:=K) rfl) (by rfl) T.z_len (by rfl) (q00 (pv 0) q05)) (pv 1) (q1b _))))) (q0b (q0t q54)) q1j) (q0b (q0t (q11 (qk3 (K:=K) rfl rfl) (by rfl) T.z_all (by rfl) (q00 (q2g (sc:=q04 qd9) (N0:=w1z) rfl rfl rfl (show q1v _ _ ["_law_bit"] 1 [] _=true by decide+kernel) (q2a (K:=K) rfl (pv 0)) (λ_ _ _ _ _=>(q0o (i:=0) (show List.Nodup (["_law_bit"]:List Str)from(by decide+kernel)) rfl (Or.inl rfl))) (q1o (by decide)) (λ_ _ _ _ _=>q27) (λ_ _ _ _ _=>(ql6 (q11 (q3g (K:=K) rfl) (by rfl) T.z_isinstance (by rfl) (q00 (pv 0) (q00 (q46 (v:=.ty "int") (by rfl) T.z_int (by rfl) rfl) q05))) (ql6 (qqn (q11 (q3g (K:=K) rfl) (by rfl) T.z_isinstance (by rfl) (q00 (pv 0) (q00 (q46 (v:=.ty "bool") (by rfl) T.z_bool (by rfl) rfl) q05)))) (qqm (qiu qqt qqt q06 (pv 0) q06)))))) q05))))),?_⟩;exact q0m (O':=[]) (Nms:=w1z) (f:=qk5) (by unfold qk5;exact(q0f (O1:=[]) (q2x (q7e (q5e (q3r (q5g (q93 T) q26))) (q14 (q1c q82 (q1i q3a q26) q26))) (q16 rfl q55 rfl) (q1y rfl)) (q16 rfl (q1i qtx (q1h (q1w (bw:=none) (q2z (q02 (i:=0))) (q0q (i:=0)) q32 (qlv (q5g (qbc T) q26) (qlv (qsh (q5g (q94 T) q26)) (qj7 q8z q8z me_int (q02 (i:=0)) me_int))))).mb) rfl))) h
abbrev w11:=(q0g (mOp2 dEq (mOp2 dMod (mVar 5) (mRet (.int 4))) (mRet (.int 0))))
abbrev w38:=(sIf w11 (qat 3 (q0k f_y44 (q01 (mVar 5) mNil)) (mVar 4)) sNil)
abbrev w25:=(mTup (q01 (mRet (.str "clear")) (q01 (mVar 0) mNil)))
abbrev w3i:=(mSeq (mOf (q1m f_y42 (q01 (mVar 0) (q01 (mVar 1) mNil)))))
abbrev w3h:=(qba (mSl (mVar 2) (mRet none) (q4g (mOp1 dLen (mVar 3)))))
def qk4:RhO:=
 (sSeq (sOwn 3 (q1t 1 [] none w3i (gSet 0) (mRet true) w25))
 (sSeq (sFor w3h (q2i 2 (q0w (gSet 4) (q0w (gSet 5) q2o)))
   w38)
 (q5v 3)))
def f_y54:List D->Option D:=runP true 3 6 qk4
theorem qv0:q1r 3 f_y54:=q1e
theorem qqx(T:Txt K mg a):FnOk P w K mg base CX0 3 a.f_y54 a.fd_y54 w2i (spP K true 3 f_y54):=by
 have G_y42:=@qlf P w K mg base a T;have G_y44:=@qld P w K mg base a T;refine T.F_y54.ok sc_y54 (λ_ _ _ _ h=>h.1) (λcdv A outer s H vs Q E hr h=>?_)
 ·refine⟨_,(q07 (q5k (k:=3) (sc:=q04 qd8) (N0:=w1e) rfl rfl rfl (show q1v _ _ ["_law_bit"] 1 [] _=true by decide+kernel) sc_y54.nd rfl (Or.inl rfl) (q2a (K:=K) rfl (q0h G_y42 hr.m (by rfl) T.mg_y42 T.F_y42.kp T.B_y42 .nil q19 (q00 (pv 0) (q00 (pv 1) q05)))) (λ_ _ _ _ _=>(q0o (i:=0) (show List.Nodup (["_law_bit"]:List Str)from(by decide+kernel)) rfl (Or.inl rfl))) (q1o (by decide)) (λ_ _ _ _ _=>q27) (λ_ _ _ _ _=>(q49 (q00 q2s (q00 (pv 0) q05))))) (q07 (q31 jx rfl (qfp (K:=K) rfl (by rfl) T.z_enumerate (q3y (q4o (K:=K) rfl) (pv 2) q69 (q45 (q11 (q1q (K:=K) rfl) (by rfl) T.z_len (by rfl) (q00 (pv 3) q05))))) (q3n (K:=K) rfl rfl (q1n (zgA 4 sc_y54.nd) (q1n (zgA 5 sc_y54.nd) q3m))) (q0b (q2w (q12 (q2f (K:=K) rfl hr.units) (q13 q2k (pv 5) q06) q06 (q1b _)) (q0b (qc2 (q0h G_y44 hr.m (by rfl) T.mg_y44 T.F_y44.kp T.B_y44 .nil q19 (q00 (pv 5) q05)) (ql5 (pv 3) (pv 4) set_list))) q1j))) (q0b (q0t (pv 3))))),?_⟩;exact q0m (O':=[]) (Nms:=w1e) (f:=qk4) (by unfold qk4;exact(q0f (O1:=[3]) (qna (q1w (bw:=none) (q2z (q1h (q25 qs4 (q03 (q02 (i:=0)) (q03 (q02 (i:=1)) q09))))) (q0q (i:=0)) q32 (q4b (q03 me_str (q03 (q02 (i:=0)) q09)))) rfl) (q0f (O1:=[3]) (q39 (O':=[3]) (qgg (q3z (q02 (i:=2)) q6c (q48 (q1i q3a q26)))) rfl (q4q (q1p (q0q (i:=4)) (q1p (q0q (i:=5)) q3s))) (q2x (q14 (q1c os_eq (q0d q2l (q02 (i:=5)) me_int) me_int.mb)) (qn7 (by decide) (q0j qn2 (q03 (q02 (i:=5)) q09)) (q02 (i:=4)) rfl) (q1y rfl))) (q6b rfl (by first|decide|simp) rfl (by first|decide|simp))))) h
abbrev w1h:=(mOr (mNot (q0g (mOp1 (dIsi (q2n "int")) (mOp2 dIx (mVar 6) (mRet (.int 0)))))) (q0g (mOp1 (dIsi (q2n "bool")) (mOp2 dIx (mVar 6) (mRet (.int 0))))))
abbrev w2d:=(mSl (mVar 0) (q4g (mRet (.int 1))) (mRet none))
abbrev w12:=(sSet 4 (mOf (q1m f_y45 (q01 w2d (q01 (mOp1 dLen (mOf (q1m f_y40 (q01 (mVar 2) (q01 (mVar 3) mNil))))) (q01 (mOp2 dIx (mVar 1) (mRet (.int 2))) mNil))))))
abbrev w0y:=(q0g (mOp2 dEq (mOp2 dIx (mVar 2) (mRet (.int 3))) (mRet (.str "ring"))))
abbrev w0s:=(mOr (mNot (q0g (mOp1 (dIsi (q2n "tuple")) (mVar 6)))) (mOr (q0g (mOp2 dNe (mOp1 dLen (mVar 6)) (mRet (.int 2)))) (mOr (q0g (mOp2 dNe (mVar 5) (mVar 4))) (mNot (q0g (q0k f_y53 (q01 (mOp2 dIx (mVar 6) (mRet (.int 1))) (q01 (mVar 3) mNil))))))))
abbrev w0r:=(sSet 2 (q0k f_y36 (q01 (mOp2 dIx (mVar 1) (mRet (.int 0))) (q01 (mOp2 dIx (mOf (mLst (q01 (mRet (.int 3)) (q01 (mRet (.int 4)) mNil)))) (mOp1 dInt (mOp2 dEq (mOp2 dMod (mOp2 dIx (mVar 1) (mRet (.int 5))) (mRet (.int 8))) (mRet (.int 0))))) mNil))))
abbrev w0k:=(q0g (mOp2 dNe (mOp2 dIx (mVar 6) (mRet (.int 0))) (mOp1 dSum (mOf (q1t 2 [] none (mZip (q01 (mVar 4) (q01 (mOf (q1m f_y42 (q01 (mVar 2) (q01 (mOp2 dIx (mVar 6) (mRet (.int 1))) mNil)))) mNil))) (q2i 2 (q0w (gSet 0) (q0w (gSet 1) q2o))) (mRet true) (q0k f_y43 (q01 (mVar 0) (q01 (mVar 1) mNil))))))))
abbrev w2k:=(mSeq (mOf (q1m f_y35 (q01 (mOp2 dIx (mVar 1) (mRet (.int 4))) (q01 (mVar 3) mNil)))))
abbrev w29:=(q0g (mOp2 dEq (mOp2 dMod (mOp2 dIx (mVar 1) (mRet (.int 3))) (mRet (.int 2))) (mRet (.int 0))))
abbrev w0h:=(sIf w29 (sSet 4 (mOf (q1m f_y54 (q01 (mVar 2) (q01 (mOf (q1t 1 [] none w2k (gSet 0) (mRet true) (mOp2 dMod (mVar 0) (mRet (.int 2))))) (q01 w2d mNil)))))) sNil)
abbrev w06:=(mOp2 dSub (mOp2 dSub (mRet (.int 12)) (mOp2 dIx (mVar 2) (mRet (.int 0)))) (mOp2 dDiv (mOp2 dIx (mVar 2) (mRet (.int 0))) (mRet (.int 4))))
abbrev w26:=(sSet 8 (q0k f_y30 (q01 (mVar 2) (q01 (mVar 3) (q01 (mOf (q6s dSeq (mVar 4))) (q01 (mVar 7) mNil))))))
abbrev w24:=(mOp2 dIx (mOp2 dIx (mVar 8) (mRet (.int 0))) (mVar 7))
abbrev w1r:=(q01 (mVar 2) (q01 (mVar 3) (q01 (mVar 4) (q01 (mVar 7) (q01 (mVar 8) mNil)))))
abbrev w01:=(sSeq w26 (sSeq (sIf (mOr (mNot (q0g (q0k f_y50 w1r))) (q0g (mOp2 dIsN w24 (mRet .non)))) (sRet (mRet (.bl false))) sNil) (sIf (q0g (mOp2 dLtP (mTup (q01 w24 (q01 (mOf (q1m f_y51 w1r)) mNil))) (mVar 6))) (sRet (mRet (.bl false))) sNil)))
abbrev w37:=(sSet 6 (q0k f_y33 (q01 (mVar 2) (q01 (mVar 3) (q01 (mVar 5) mNil)))))
abbrev w32:=(sSet 3 (mOp2 dMod (mOp2 dIx (mVar 1) (mRet (.int 1))) (mRet (.int 11))))
abbrev w22:=(sSet 1 (mOf (q1m f_y35 (q01 (q0k f_y34 (q01 (mVar 0) (q01 (mRet (.int 0)) mNil))) (q01 (mRet (.int 6)) mNil)))))
abbrev w1y:=(q01 (mVar 3) (q01 (mOp2 dIx (mVar 2) (mRet (.int 0))) mNil))
abbrev w45:=(mSeq (mOf (q1m f_y52 (q01 (mVar 2) mNil))))
def qop:RhO:=
 (sSeq w22
 (sSeq w0r
 (sSeq w32
 (sSeq (sIf w0y
   (sSet 3 (mMM (λi j=>if j<i then j else i) (q01 (mMM (λi j=>if j>i then j else i) w1y) (q01 w06 mNil))))
   sNil)
 (sSeq w12
 (sSeq w0h
 (sSeq (sSet 5 (mOf (q6s dSeq (mVar 4))))
 (sSeq w37
 (sSeq (sIf w0s
   (sRet (mRet (.bl false)))
   sNil)
 (sSeq (sIf w1h
   (sRet (mRet (.bl false)))
   sNil)
 (sSeq (sIf w0k
   (sRet (mRet (.bl false)))
   sNil)
 (sSeq (sFor w45 (gSet 7)
   w01)
 (sRet (mRet (.bl true)))))))))))))))
def f_law:List D->Option D:=runP false 1 9 qop
theorem qrq(T:Txt K mg a):FnOk P w K mg base CX0 8 a.f_law a.fd_law ["_law_script"] (spP K false 1 f_law):=by
 have G_y34:=@qr8 P w K mg base a T;have G_y35:=@qcb P w K mg base a T;have G_y36:=@qr7 P w K mg base a T;have G_y40:=@qlg P w K mg base a T;have G_y45:=@qr4 P w K mg base a T;have G_y54:=@qqx P w K mg base a T;have G_y33:=@qr9 P w K mg base a T;have G_y53:=@qqy P w K mg base a T;have G_y42:=@qlf P w K mg base a T;have G_y43:=@qle P w K mg base a T;have G_y52:=@qqz P w K mg base a T;have G_y30:=@qrc P w K mg base a T;have G_y50:=@qr1 P w K mg base a T;have G_y51:=@qr0 P w K mg base a T;refine T.F_law.ok sc_law (λ_ _ _ _ h=>h.1) (λcdv A outer s H vs Q E hr h=>?_)
 ·refine⟨_,(q07 (zsA 1 sc_law.nd (q0h G_y35 hr.m (by rfl) T.mg_y35 T.F_y35.kp T.B_y35 .nil q19 (q00 (q0h G_y34 hr.m (by rfl) T.mg_y34 T.F_y34.kp T.B_y34 .nil q19 (q00 (pv 0) (q00 q06 q05))) (q00 q06 q05)))) (q07 (zsA 2 sc_law.nd (q0h G_y36 hr.m (by rfl) T.mg_y36 T.F_y36.kp T.B_y36 .nil q19 (q00 (q0u (q0a (K:=K) rfl) (pv 1) q06) (q00 (q0u (q0a (K:=K) rfl) (q2p (q00 q06 (q00 q06 q05))) (q2q q65 (by rfl) T.z_int (by rfl) (q00 (q79 (q2f (K:=K) rfl hr.units) (q13 q2k (q0u (q0a (K:=K) rfl) (pv 1) q06) q06) q06 (q1b _)) q05))) q05)))) (q07 (zsA 3 sc_law.nd (q13 q2k (q0u (q0a (K:=K) rfl) (pv 1) q06) q06)) (q07 (q2w (q12 (q2f (K:=K) rfl hr.units) (q0u (q0a (K:=K) rfl) (pv 2) q06) q2s (q1b _)) (q0b (zsA 3 sc_law.nd (q11 (qhj rfl) (by rfl) T.z_min (by rfl) (q00 (q11 (qhk rfl) (by rfl) T.z_max (by rfl) (q00 (pv 3) (q00 (q0u (q0a (K:=K) rfl) (pv 2) q06) q05))) (q00 (q13 q5a (q13 q5a q06 (q0u (q0a (K:=K) rfl) (pv 2) q06)) (q13 qb7 (q0u (q0a (K:=K) rfl) (pv 2) q06) q06)) q05))))) q1j) (q07 (zsA 4 sc_law.nd (q0h G_y45 hr.m (by rfl) T.mg_y45 T.F_y45.kp T.B_y45 .nil q19 (q00 (q3y (q4o (K:=K) rfl) (pv 0) (q45 q06) q69) (q00 (q11 (q1q (K:=K) rfl) (by rfl) T.z_len (by rfl) (q00 (q0h G_y40 hr.m (by rfl) T.mg_y40 T.F_y40.kp T.B_y40 .nil q19 (q00 (pv 2) (q00 (pv 3) q05))) q05)) (q00 (q0u (q0a (K:=K) rfl) (pv 1) q06) q05))))) (q07 (q2w (q12 (q2f (K:=K) rfl hr.units) (q13 q2k (q0u (q0a (K:=K) rfl) (pv 1) q06) q06) q06 (q1b _)) (q0b (zsA 4 sc_law.nd (q0h G_y54 hr.m (by rfl) T.mg_y54 T.F_y54.kp T.B_y54 .nil q19 (q00 (pv 2) (q00 (q2g (sc:=q04 qas) (N0:=w0g) rfl rfl rfl (show q1v _ _ ["_law_x"] 1 [] _=true by decide+kernel) (q2a (K:=K) rfl (q0h G_y35 hr.m (by rfl) T.mg_y35 T.F_y35.kp T.B_y35 .nil q19 (q00 (q0u (q0a (K:=K) rfl) (pv 1) q06) (q00 (pv 3) q05)))) (λ_ _ _ _ _=>(q0o (i:=0) (show List.Nodup (["_law_x"]:List Str)from(by decide+kernel)) rfl (Or.inl rfl))) (q1o (by decide)) (λ_ _ _ _ _=>q27) (λ_ _ _ _ _=>(q13 q2k (pv 0) q06))) (q00 (q3y (q4o (K:=K) rfl) (pv 0) (q45 q06) q69) q05)))))) q1j) (q07 (zsA 5 sc_law.nd (q2q (q8l (K:=K) rfl) (by rfl) T.z_list (by rfl) (q00 (pv 4) q05))) (q07 (zsA 6 sc_law.nd (q0h G_y33 hr.m (by rfl) T.mg_y33 T.F_y33.kp T.B_y33 .nil q19 (q00 (pv 2) (q00 (pv 3) (q00 (pv 5) q05))))) (q07 (q2w (PW.pt (pw_or (q59 (q3l (q11 (q3g (K:=K) rfl) (by rfl) T.z_isinstance (by rfl) (q00 (pv 6) (q00 (q46 (v:=.ty "tuple") (by rfl) T.z_tuple (by rfl) rfl) q05))))) (pw_or (q12 (q5b (K:=K) rfl hr.units) (q11 (q1q (K:=K) rfl) (by rfl) T.z_len (by rfl) (q00 (pv 6) q05)) q06 (q1b _)) (pw_or (q12 (q5b (K:=K) rfl hr.units) (pv 5) (pv 4) (q1b _)) (pw_or1 (q59 (q3l (q0h G_y53 hr.m (by rfl) T.mg_y53 T.F_y53.kp T.B_y53 .nil q19 (q00 (q0u (q0a (K:=K) rfl) (pv 6) q06) (q00 (pv 3) q05)))))))))) (q0b (q0t q54)) q1j) (q07 (q2w (PW.pt (pw_or (q59 (q3l (q11 (q3g (K:=K) rfl) (by rfl) T.z_isinstance (by rfl) (q00 (q0u (q0a (K:=K) rfl) (pv 6) q06) (q00 (q46 (v:=.ty "int") (by rfl) T.z_int (by rfl) rfl) q05))))) (pw_or1 (q3l (q11 (q3g (K:=K) rfl) (by rfl) T.z_isinstance (by rfl) (q00 (q0u (q0a (K:=K) rfl) (pv 6) q06) (q00 (q46 (v:=.ty "bool") (by rfl) T.z_bool (by rfl) rfl) q05))))))) (q0b (q0t q54)) q1j) (q07 (q2w (q12 (q5b (K:=K) rfl hr.units) (q0u (q0a (K:=K) rfl) (pv 6) q06) (q11 (q70 (K:=K) rfl rfl) (by rfl) T.z_sum (by rfl) (q00 (q2g (sc:=q04 qas) (N0:=w0g) rfl rfl rfl (show q1v _ _ ["_law_one","_law_bit"] 2 [] _=true by decide+kernel) (q5l (K:=K) rfl (by rfl) T.z_zip (q00 (pv 4) (q00 (q0h G_y42 hr.m (by rfl) T.mg_y42 T.F_y42.kp T.B_y42 .nil q19 (q00 (pv 2) (q00 (q0u (q0a (K:=K) rfl) (pv 6) q06) q05))) q05))) (λ_ _ _ _ _=>(q3n (K:=K) rfl rfl (q1n (q0o (i:=0) (show List.Nodup (["_law_one","_law_bit"]:List Str)from(by decide+kernel)) rfl (Or.inl rfl)) (q1n (q0o (i:=1) (show List.Nodup (["_law_one","_law_bit"]:List Str)from(by decide+kernel)) rfl (Or.inl rfl)) q3m)))) (q5y (by decide) (by decide)) (λ_ _ _ _ _=>q27) (λ_ _ _ _ _=>(q0h G_y43 hr.m (by rfl) T.mg_y43 T.F_y43.kp T.B_y43 .nil q19 (q00 (pv 0) (q00 (pv 1) q05))))) q05)) (q1b _)) (q0b (q0t q54)) q1j) (q07 (q31 jx rfl (q2a (K:=K) rfl (q0h G_y52 hr.m (by rfl) T.mg_y52 T.F_y52.kp T.B_y52 .nil q19 (q00 (pv 2) q05))) (zgA 7 sc_law.nd) (q07 (zsA 8 sc_law.nd (q0h G_y30 hr.m (by rfl) T.mg_y30 T.F_y30.kp T.B_y30 .nil q19 (q00 (pv 2) (q00 (pv 3) (q00 (q2q (q8l (K:=K) rfl) (by rfl) T.z_list (by rfl) (q00 (pv 4) q05)) (q00 (pv 7) q05)))))) (q07 (q2w (PW.pt (pw_or (q59 (q3l (q0h G_y50 hr.m (by rfl) T.mg_y50 T.F_y50.kp T.B_y50 .nil q19 (q00 (pv 2) (q00 (pv 3) (q00 (pv 4) (q00 (pv 7) (q00 (pv 8) q05)))))))) (pw_or1 (q12 qg1 (q0u (q0a (K:=K) rfl) (q0u (q0a (K:=K) rfl) (pv 8) q06) (pv 7)) q4j (q1b _))))) (q0b (q0t q54)) q1j) (q0b (q2w (q12 (qqs (K:=K) rfl hr.units) (q49 (q00 (q0u (q0a (K:=K) rfl) (q0u (q0a (K:=K) rfl) (pv 8) q06) (pv 7)) (q00 (q0h G_y51 hr.m (by rfl) T.mg_y51 T.F_y51.kp T.B_y51 .nil q19 (q00 (pv 2) (q00 (pv 3) (q00 (pv 4) (q00 (pv 7) (q00 (pv 8) q05)))))) q05))) (pv 6) (q1b _)) (q0b (q0t q54)) q1j))))) (q0b (q0t q54)))))))))))))),?_⟩;exact q0m (O':=[]) (Nms:=w0g) (f:=qop) (by unfold qop;exact(q0f (O1:=[]) (q1a (q1h (q25 qg9 (q03 (q0j qva (q03 (q02 (i:=0)) (q03 me_int q09))) (q03 me_int q09))))) (q0f (O1:=[]) (q1a (q0j qv9 (q03 (q0d q0x (q02 (i:=1)) me_int) (q03 (q0d q0x (q1h (q2y (q03 me_int (q03 me_int q09)))) (q1i qcs (q1c os_eq (q0d q2l (q0d q0x (q02 (i:=1)) me_int) me_int) me_int.mb).mb)) q09)))) (q0f (O1:=[]) (q1a (q0d q2l (q0d q0x (q02 (i:=1)) me_int) me_int)) (q0f (O1:=[]) (q2x (q14 (q1c os_eq (q0d q0x (q02 (i:=2)) me_int) me_str.mb)) (q1a (qsi (q03 (qsi (q03 (q02 (i:=3)) (q03 (q0d q0x (q02 (i:=2)) me_int) q09))) (q03 (q0d q5c (q0d q5c me_int (q0d q0x (q02 (i:=2)) me_int)) (q0d qg5 (q0d q0x (q02 (i:=2)) me_int) me_int)) q09)))) (q1y rfl)) (q0f (O1:=[]) (q1a (q1h (q25 qv7 (q03 (q3z (q02 (i:=0)) (q48 me_int) q6c) (q03 (q1i q3a (q1h (q25 qs5 (q03 (q02 (i:=2)) (q03 (q02 (i:=3)) q09)))).mb) (q03 (q0d q0x (q02 (i:=1)) me_int) q09)))))) (q0f (O1:=[]) (q2x (q14 (q1c os_eq (q0d q2l (q0d q0x (q02 (i:=1)) me_int) me_int) me_int.mb)) (q1a (q1h (q25 qv0 (q03 (q02 (i:=2)) (q03 (q1h (q1w (bw:=none) (q2z (q1h (q25 qg9 (q03 (q0d q0x (q02 (i:=1)) me_int) (q03 (q02 (i:=3)) q09))))) (q0q (i:=0)) q32 (q0d q2l (q02 (i:=0)) me_int))) (q03 (q3z (q02 (i:=0)) (q48 me_int) q6c) q09)))))) (q1y rfl)) (q0f (O1:=[]) (q1a (q1h (qch qhc (q02 (i:=4))))) (q0f (O1:=[]) (q1a (q0j qvb (q03 (q02 (i:=2)) (q03 (q02 (i:=3)) (q03 (q02 (i:=5)) q09))))) (q0f (O1:=[]) (q2x (q7e (q5e (q3r (q5g (qgu T) q26))) (q7e (q14 (q1c q82 (q1i q3a q26) me_int.mb)) (q7e (q14 (q1c q82 (q02 (i:=5)) q26)) (q5e (q3r (q0j qv1 (q03 (q0d q0x (q02 (i:=6)) me_int) (q03 (q02 (i:=3)) q09)))))))) (q16 rfl q55 rfl) (q1y rfl)) (q0f (O1:=[]) (q2x (q7e (q5e (q3r (q5g (qbc T) (q0d q0x (q02 (i:=6)) me_int).mb))) (q3r (q5g (q94 T) (q0d q0x (q02 (i:=6)) me_int).mb))) (q16 rfl q55 rfl) (q1y rfl)) (q0f (O1:=[]) (q2x (q14 (q1c q82 (q0d q0x (q02 (i:=6)) me_int) (q1i qcr (q1h (q1w (bw:=none) (q7l (q03 (q02 (i:=4)) (q03 (q1h (q25 qs4 (q03 (q02 (i:=2)) (q03 (q0d q0x (q02 (i:=6)) me_int) q09)))) q09))) (q4q (q1p (q0q (i:=0)) (q1p (q0q (i:=1)) q3s))) q32 (q0j qs3 (q03 (q02 (i:=0)) (q03 (q02 (i:=1)) q09))))).mb).mb)) (q16 rfl q55 rfl) (q1y rfl)) (q0f (O1:=[]) (q39 (O':=[]) (q2z (q1h (q25 qv2 (q03 (q02 (i:=2)) q09)))) rfl (q0q (i:=7)) (q0f (O1:=[]) (q1a (q0j qve (q03 (q02 (i:=2)) (q03 (q02 (i:=3)) (q03 (q1h (qch qhc (q02 (i:=4)))) (q03 (q02 (i:=7)) q09)))))) (q0f (O1:=[]) (q2x (q7e (q5e (q3r (q0j qv4 (q03 (q02 (i:=2)) (q03 (q02 (i:=3)) (q03 (q02 (i:=4)) (q03 (q02 (i:=7)) (q03 (q02 (i:=8)) q09)))))))) (q14 (q1c qfy (q0d q0x (q0d q0x (q02 (i:=8)) me_int) (q02 (i:=7))) me_non.mb))) (q16 rfl q55 rfl) (q1y rfl)) (q2x (q14 (q1c qqq (q4b (q03 (q0d q0x (q0d q0x (q02 (i:=8)) me_int) (q02 (i:=7))) (q03 (q1h (q25 qv3 (q03 (q02 (i:=2)) (q03 (q02 (i:=3)) (q03 (q02 (i:=4)) (q03 (q02 (i:=7)) (q03 (q02 (i:=8)) q09))))))) q09))) q26)) (q16 rfl q55 rfl) (q1y rfl))))) (q16 rfl q55 rfl)))))))))))))) h
end
section
variable{r:Int}{taps:List Int}{rows:List (List Int)}{e:Str}
theorem p_y1(ok:q2d r taps rows e):f_y1 [schD r taps rows e]=some (.int (2^r.toNat)):=by
 have r0:=ok.r0;have r4:=ok.r4;have r6:r<=1000000:=by omega
 have hr:f_y0 [.int r]=some (.int (2^r.toNat)):=by unfold f_y0 b_y0;clear ok;walk_at "ev"
 unfold f_y1 b_y1 schD;clear ok;walk_at "ev"
theorem qfv(n:D):∀(f j3:Nat) (l o:Int),0<=l->l.toNat<2^f->(o=0∨o=1)->f<j3->∃l':Int,q3e w2t
 w0u j3 [some n,some (.int l),some (.int o)]=some (.nx [some n,some (.int l'),some (.int ((o+(parF f l.toNat:Nat)) % 2))])
 |_,0,_,_,_,_,_,h=>absurd h (Nat.not_lt_zero _)
 | f,j3+1,l,o,l0,lf,ho,hf=>by
  have ht:w2t [some n,some (.int l),some (.int o)]=some (decide (0<l),[some n,some (.int l),some (.int o)]):=by walk_at "ev"
  by_cases hl:0<l
  ·cases f with
   |zero=>exact absurd lf (by omega)
   | succ f=>
    have hb:w0u [some n,some (.int l),some (.int o)]=some (.nx [some n,some (.int (l / 2)),some (.int (Builtin.bitXor o (Builtin.bitAnd l 1)))]):=by clear ht;walk_at "ev"
    have ex:Builtin.bitXor o (Builtin.bitAnd l 1)=(o+l % 2) % 2:=by rw[qhu l0];exact qhx ho (by omega)
    have e2:(l / 2).toNat=l.toNat / 2:=by omega
    have lt2:(l / 2).toNat<2^f:=by rw[e2];rw[Nat.pow_succ]at lf;omega
    obtain⟨l',ih⟩:=qfv n f j3 (l / 2) (Builtin.bitXor o (Builtin.bitAnd l 1)) (by omega) lt2 (by rw[ex];omega) (by omega);refine⟨l',?_⟩;rw[decide_eq_true hl]at ht;unfold q3e;rw[ht];dsimp only;rw[hb];dsimp only;rw[ih,ex,e2];have u:parF (f+1) l.toNat=(l.toNat % 2+parF f (l.toNat / 2)) % 2:=rfl;rw[u];have ev:((o+l % 2) % 2+(parF f (l.toNat / 2):Nat)) % 2=(o+(((l.toNat % 2+parF f (l.toNat / 2)) % 2:Nat):Int)) % 2:=by omega
    rw[ev]
  ·rw[decide_eq_false hl]at ht;refine⟨l,?_⟩;unfold q3e;rw[ht];dsimp only;have e0:l=0:=by omega
   subst e0;rw[show((0:Int)).toNat=0 from rfl,q7b];have ev:(o+((0:Nat):Int)) % 2=o:=by omega
   rw[ev]
theorem p_y2(n:Int)(h0:0<=n)(h:n<32):f_y2 [.int n]=some (.int (parF 5 n.toNat:Nat)):=by
 obtain⟨l',hw⟩:=qfv (.int n) 5 1000 n 0 h0 (by omega) (.inl rfl) (by decide);have e1:((0:Int)+(parF 5 n.toNat:Nat)) % 2=(parF 5 n.toNat:Nat):=by have:=qfu 5 n.toNat;omega
 rw[e1]at hw;generalize parF 5 n.toNat=p at hw ⊢;unfold f_y2 b_y2;generalize (1000:Nat)=j3 at hw ⊢;clear h0 h e1;walk_at "ev"
theorem p_y3(ok:q2d r taps rows e)(room bit:Int)(a0:0<=room)(a1:room<2^r.toNat)(hb:bit=0∨bit=1):
 f_y3 [schD r taps rows e,.int room,.int bit]=some (.tup [.int ((2*room+bit) % 2^r.toNat),.tup ((taps.map (sgn (2*room+bit))).map D.int)]):=by
 have p16:=q3c ok.r0 ok.r4;have hr:=p_y1 ok;have hp:=p_y2;have m0:(0:Int)<2^r.toNat:=by omega
 have cm:=q42 (n:=1) (js:=[3]) (fg:=gSet 0) (fe:=q0k f_y2 w4b) (ρ:=[some (schD r taps rows e),some (.int room),some (.int bit),some (.int (2*room+bit)),none]) (λd=>match d with|.int t=>.int (sgn (2*room+bit) t)|d=>d) (taps.map D.int) (λx hx=>by
  obtain⟨t,ht,rfl⟩:=List.mem_map.mp hx;refine⟨[some (.int t),some (.int (2*room+bit))],rfl,?_⟩;have tb:=ok.tb t ht;have w0:0<=2*room+bit:=by omega
  have ea:=qbp w0 tb.1;have lt:(2*room+bit).toNat &&& t.toNat<32:=Nat.lt_of_le_of_lt Nat.and_le_left (by omega);have hq:=p_y2 (((2*room+bit).toNat &&& t.toNat:Nat):Int) (by omega) (by omega);rw[jo,<-ea]at hq;show _=some (D.int (sgn (2*room+bit) t));unfold sgn;generalize 2*room+bit=W at hq ⊢;generalize parF 5 (W.toNat &&& t.toNat)=z at hq ⊢;clear hx ht tb w0 ea lt hr hp hb a0 a1 m0 p16;walk_at "ev")
 have e2:(taps.map D.int).map (λd=>match d with|.int t=>D.int (sgn (2*room+bit) t)|d=>d)=(taps.map (sgn (2*room+bit))).map D.int:=by rw[jk,jk];rfl
 rw[e2]at cm;have ll:(taps.map D.int).length<=sizeLine:=by rw[j7];exact q1d (by have:=ok.t4;omega)
 unfold f_y3 b_y3;unfold schD at cm hr ⊢;generalize (taps.map (sgn (2*room+bit))).map D.int=S at cm ⊢;generalize taps.map D.int=TS at cm hr ll ⊢;generalize (2:Int)^r.toNat=m at hr m0 a1 p16 ⊢;have two:2<=sizeLine:=by decide
 clear ok hp hb a0 a1 p16 e2;walk_at "ev"
theorem qfx(ok:q2d r taps rows e):f_y5 [schD r taps rows e]=some (.bl (isRing e)):=by
 have h1:=s_or;have h2:=s_er;have h3:=s_rr;unfold f_y5 b_y5 schD isRing;rcases ok.en with rfl|rfl|rfl
 ·rw[decide_eq_false (by decide)];clear ok;walk_at "ev"
 ·rw[decide_eq_false (by decide)];clear ok;walk_at "ev"
 ·rw[decide_eq_true rfl];clear ok;walk_at "ev"
theorem qmr(ok:q2d r taps rows e)(n:Int)(h:e="ring"->r<=n):f_y6 [schD r taps rows e,.int n]=some .non:=by
 have hr:=qfx ok;unfold f_y6 b_y6;cases hi:isRing e with
 | false=>
  rw[hi]at hr;clear ok hi;generalize schD r taps rows e=S at hr ⊢;walk_at "ev"
 | true=>
  rw[hi]at hr;have hn:¬n<r:=by have:=h (of_decide_eq_true hi);omega
  unfold schD at hr ⊢;clear ok hi h;walk_at "ev"
theorem qj0(ok:q2d r taps rows e):f_y7 [schD r taps rows e]=some (.int (q08 r e:Nat)):=by
 have h1:=s_oe;have h2:=s_ee;have h3:=s_re;have r0:=ok.r0;have er:((r.toNat:Nat):Int)=r:=by omega
 unfold f_y7 b_y7 schD q08;rcases ok.en with rfl|rfl|rfl
 ·rw[if_neg (by decide)];clear ok;walk_at "ev"
 ·rw[if_pos rfl,er];clear ok er;walk_at "ev"
 ·rw[if_neg (by decide)];clear ok;walk_at "ev"
theorem q2j(ok:q2d r taps rows e):q08 r e<=4:=by have:=ok.r4;unfold q08;split<;>omega
theorem qnm(ok:q2d r taps rows e)(w:List Int)(hb:Bits w)(hw:e="ring"->r.toNat<=w.length):0<=frst r e w/\frst r e w<2^r.toNat:=by
 have r0:=ok.r0;have m0:(0:Int)<2^r.toNat:=Int.pow_pos (by decide);unfold frst;split
 ·rename_i q;have:=q4m (w.drop (w.length-r.toNat)) λb h=>hb b (List.mem_of_mem_drop h);have hl:(w.drop (w.length-r.toNat)).length=r.toNat:=by have:=hw q;rw[xp];omega
  rw[hl]at this;exact this
 ·exact⟨Int.le_refl _,m0⟩
theorem qe8{w:List Int}(hb:Bits w):Bits (q5q r e w):=by rw[q4i];exact q52 hb (q43 _)
theorem qfg(ok:q2d r taps rows e)(k:Nat):atI (rows.map rowD) ((k:Int) % ((rows.map rowD).length:Nat))=some (.tup ((rowAt rows k).map D.int)):=by
 have m1:=ok.m1;have hk:k % rows.length<rows.length:=Nat.mod_lt _ (by omega);have e1:((k:Int) % ((rows.map rowD).length:Nat))=((k % rows.length:Nat):Int):=by rw[j7];exact(Int.natCast_emod k rows.length).symm
 rw[e1,q37 (by omega) (by rw[j7];omega),jo,jc];unfold rowAt;rw[jd hk];rfl
theorem qc7(ok:q2d r taps rows e)(k:Nat)(signs:List Int)(hl:signs.length<=1000):
 f_y4 [schD r taps rows e,.int k,.tup (signs.map D.int)]=some (.tup ((q38 (rowAt rows k) signs).map D.int)):=by
 have hr:=qfg ok k;have zc:0<(rows.map rowD).length:=by have:=ok.m1;rw[j7];omega
 have hz:zipD (signs.map D.int) ((rowAt rows k).map D.int)=(signs.zip (rowAt rows k)).map λq=>D.tup [.int q.1,.int q.2]:=q9e _ _;have cm:∀ρ:Rho,q15 2 [] none (q2i 2 (q0w (gSet 0) (q0w (gSet 1) q2o))) (q0g (mOp2 dEq (mVar 1) (mRet (.int 1)))) (mVar 0) ((signs.zip (rowAt rows k)).map λq=>D.tup [.int q.1,.int q.2]) ρ=some ((q38 (rowAt rows k) signs).map D.int,ρ):=λρ=>by
  have:=q4c (n:=2) (js:=[]) (fg:=q2i 2 (q0w (gSet 0) (q0w (gSet 1) q2o))) (ft:=q0g (mOp2 dEq (mVar 1) (mRet (.int 1)))) (fe:=mVar 0) (ρ:=ρ) (λd=>match d with|.tup [_,.int b]=>b==1|_=>false) (λd=>match d with|.tup [x,_]=>x|d=>d) ((signs.zip (rowAt rows k)).map λq=>D.tup [.int q.1,.int q.2]) (λx hx=>by obtain⟨q,_,rfl⟩:=List.mem_map.mp hx;refine⟨[some (.int q.1),some (.int q.2)],rfl,?_,λ_=>rfl⟩;clear hr hz hx;walk_at "ev")
  rw[this,List.filter_map,jk];unfold q38;rw[jk];rfl
 have ll:((signs.zip (rowAt rows k)).map λq=>D.tup [.int q.1,.int q.2]).length<=sizeLine:=by rw[j7,xm];exact q1d (by have:=xi signs.length (rowAt rows k).length;omega)
 unfold f_y4 b_y4 schD;generalize (signs.zip (rowAt rows k)).map (λq=>D.tup [.int q.1,.int q.2])=Z at hz cm ll;generalize (q38 (rowAt rows k) signs).map D.int=Y at cm ⊢;generalize (rowAt rows k).map D.int=R at hr hz;generalize rows.map rowD=RS at hr zc ⊢;generalize signs.map D.int=S at hz ⊢;clear ok hl;walk_at "ev"
theorem qen(n:Nat)(a:Int)(u:List Int)(ok:q2d r taps rows e)(k:Nat):(q44 n taps rows a u k).length<=4:=by have:=ok.t4;have h:=q9v (rowAt rows k) (taps.map (sgn (2*endR (2^n) a (u.take k)+u.getD k 0)));rw[j7]at h;unfold q44;omega
theorem qiy(t:Told):f_y19 [q0s t]=some (objD t):=by
 have h1:=t_cg;have h2:=t_cs;have h3:=t_gs;have h4:=t_cc;have h5:=t_gg;unfold f_y19 qko;cases t with
 |clear b=>unfold q0s objD;walk_at "ev"
 |gap=>unfold q0s objD;walk_at "ev"
 |soft z o=>unfold q0s objD;walk_at "ev"
theorem p_cc(c b:Int):f_y13 [.obj "Clear" [("bit",.int c)],.int b]=some (.int (if b=c then 0 else 1)):=by
 have h1:fldO "Clear" "bit" (.obj "Clear" [("bit",.int c)])=some (.int c):=qbg (by simp[List.lookup_cons]);unfold f_y13 qkr;generalize D.obj "Clear" [("bit",.int c)]=X at h1 ⊢;by_cases h:b=c
 ·rw[if_pos h];have h':(b==c)=true:=beq_iff_eq.mpr h;clear h;walk_at "ev"
 ·rw[if_neg h];have h':(b==c)=false:=beq_eq_false_iff_ne.mpr h;walk_at "ev"
theorem p_gc(X:D)(b:Int):f_y15 [X,.int b]=some (.int 0):=by unfold f_y15 qkq;walk_at "ev"
theorem p_sc(z o b:Int):f_y18 [.obj "Soft" [("zero",.int z),("one",.int o)],.int b]=some (.int (if b=1 then o else z)):=by
 have nz:(("one":Str)=="zero")=false:=by decide+kernel
 have h1:fldO "Soft" "one" (.obj "Soft" [("zero",.int z),("one",.int o)])=some (.int o):=qbg (by rw[List.lookup_cons,nz];simp[List.lookup_cons]);have h2:fldO "Soft" "zero" (.obj "Soft" [("zero",.int z),("one",.int o)])=some (.int z):=qbg (by simp[List.lookup_cons]);unfold f_y18 qkp;generalize D.obj "Soft" [("zero",.int z),("one",.int o)]=X at h1 h2 ⊢;by_cases h:b=1
 ·rw[if_pos h];subst h;walk_at "ev"
 ·rw[if_neg h];have h':(b==1)=false:=beq_eq_false_iff_ne.mpr h;walk_at "ev"
theorem qmq(t:Told)(b:Int):w08 [some (objD t),some (.int b)]=some (.int (q4f t b),[some (objD t),some (.int b)]):=by
 have n1:¬(("Gap":Str)="Clear"):=by decide+kernel
 have n2:¬(("Soft":Str)="Clear"):=by decide+kernel
 have n3:¬(("Soft":Str)="Gap"):=by decide+kernel
 have m1:(("cost":Str)=="bit")=false:=by decide+kernel
 have m2:(("cost":Str)=="zero")=false:=by decide+kernel
 have m3:(("cost":Str)=="one")=false:=by decide+kernel
 cases t with
 | clear c=>
  have h1:q83 "Clear" "cost" f_y13 (objD (.clear c)) [.int b]=some (.int (q4f (.clear c) b)):=(q90 (by rw[List.lookup_cons,m1];rfl)).trans (p_cc c b);generalize objD (.clear c)=X at h1 ⊢;generalize q4f (.clear c) b=z at h1 ⊢;clear n1 n2 n3 m1 m2 m3;walk_at "ev"
 | gap=>
  have h1:q83 "Clear" "cost" f_y13 (objD .gap) [.int b]=none:=q7m n1;have h2:q83 "Gap" "cost" f_y15 (objD .gap) [.int b]=some (.int (q4f .gap b)):=(q90 rfl).trans (p_gc _ b);generalize objD .gap=X at h1 h2 ⊢;generalize q4f .gap b=z at h2 ⊢;clear n1 n2 n3 m1 m2 m3;walk_at "ev"
 | soft z o=>
  have h1:q83 "Clear" "cost" f_y13 (objD (.soft z o)) [.int b]=none:=q7m n2;have h2:q83 "Gap" "cost" f_y15 (objD (.soft z o)) [.int b]=none:=q7m n3;have h3:q83 "Soft" "cost" f_y18 (objD (.soft z o)) [.int b]=some (.int (q4f (.soft z o) b)):=(q90 (by rw[List.lookup_cons,m2,List.lookup_cons,m3];rfl)).trans (p_sc z o b);generalize objD (.soft z o)=X at h1 h2 h3 ⊢;generalize q4f (.soft z o) b=y at h3 ⊢;clear n1 n2 n3 m1 m2 m3;walk_at "ev"
theorem qfw(ok:q2d r taps rows e)(n:Nat)(h:e="ring"->r.toNat<=n):f_y9 [schD r taps rows e,.int n]=some (.int ((n+q08 r e:Nat):Int)):=by
 have r0:=ok.r0;have hc:=qmr ok n (λq=>by have:=h q;omega);have hz:=qj0 ok;have e1:((n+q08 r e:Nat):Int)=(n:Int)+(q08 r e:Nat):=by omega
 rw[e1];unfold f_y9 b_y9;generalize schD r taps rows e=S at hc hz ⊢;generalize (q08 r e:Nat)=z at hz ⊢;clear ok h e1 r0;walk_at "ev"
theorem qqg(S:D)(n' N nz:Int)(S2 F:List D)(v4:Option D)(z0:0<=sizeLine)(hst:f_y3 [S,.int 0,.int 0]=some (.tup [.int nz,.tup S2]))(hs:f_y9 [S,.int n']=some (.int N))(bg:big N=true)
 (l1:q23 (gSet 4) w41 (q1f 0 N.toNat) [some S,some (.int n'),some (.tup S2),some (.lst []),none]=some (.nx [some S,some (.int n'),some (.tup S2),some (.lst F),v4])):f_y10 [S,.int n']=some (.lst F):=by
 unfold f_y10 qks;walk_at "ev"
theorem qc8(ok:q2d r taps rows e)(n:Nat)(hn:n<=60)(h:e="ring"->r.toNat<=n):f_y10 [schD r taps rows e,.int n]=some (.lst ((q0e taps rows (n+q08 r e)).map D.int)):=by
 have z4:=q2j ok;have hs:=qfw ok n h;have p16:=q3c ok.r0 ok.r4;have hst:=p_y3 ok 0 0 (by omega) (by omega) (.inl rfl);have ht:=qc7 ok;have sl:∀k,(q38 (rowAt rows k) (taps.map (sgn (2*0+0)))).length=(selK taps rows k).length:=λk=>by rw[q5x,j7];rfl
 have s4:∀k,(selK taps rows k).length<=4:=λk=>by unfold selK;refine jr (List.length_filter_le _ _) ?_;rw[xm];have:=ok.t4;have:=xi taps.length (rowAt rows k).length;omega
 have st:=λk:Nat=>ht k (taps.map (sgn (2*0+0))) (by rw[j7];have:=ok.t4;omega);generalize hS2:(taps.map (sgn (2*0+0))).map D.int=S2 at hst st;obtain⟨ρ',l1,v4,hρ⟩:=q2r (fg:=gSet 4) (fb:=sExt 3 (mRep (mLst (q01 (mVar 4) mNil)) w0n))
  (λk ρ=>∃v4,ρ=[some (schD r taps rows e),some (.int (n:Int)),some (.tup S2),some (.lst ((q0e taps rows k).map D.int)),v4]) (q1f 0 (n+q08 r e)) 0
  [some (schD r taps rows e),some (.int (n:Int)),some (.tup S2),some (.lst []),none] ⟨none,rfl⟩ (λi x ρ hx ⟨v4,hρ⟩=>by
   subst hρ;obtain⟨hi,rfl⟩:=q1z hx;rw[jz,Int.zero_add];have eP:q0e taps rows (i+1)=q0e taps rows i++List.replicate (selK taps rows i).length (i:Int):=q2h _ _;rw[eP,x8,List.map_replicate];have hsa:=st i;have hln:(((q38 (rowAt rows i) (taps.map (sgn (2*0+0)))).map D.int).length:Int)=((selK taps rows i).length:Nat):=by rw[j7,sl]
   have hrp:repO [D.int (i:Int)] (.int ((selK taps rows i).length:Nat))=some (List.replicate (selK taps rows i).length (.int (i:Int))):=by rw[qax _ (by omega) (by have:=s4 i;omega),jo]
   have ln:((q0e taps rows i).map D.int).length+(List.replicate (selK taps rows i).length (D.int (i:Int))).length<=sizeLine:=by have q1:(q0e taps rows i).length<=i*4:=q41 _ 4 (λk=>by rw[ji];exact s4 k) i;have q2:=s4 i;rw[j7,ji];exact q1d (by omega)
   generalize (q38 (rowAt rows i) (taps.map (sgn (2*0+0)))).map D.int=PK at hsa hln;rw[<-hln]at hrp;generalize List.replicate (selK taps rows i).length (D.int (i:Int))=RP at hrp ln ⊢;generalize (q0e taps rows i).map D.int=F at ln ⊢;refine⟨_,[some (schD r taps rows e),some (.int (n:Int)),some (.tup S2),some (.lst (F++RP)),some (.int (i:Int))],rfl,.inl ?_,some (.int (i:Int)),rfl⟩;have one:1<=sizeLine:=by decide
   generalize schD r taps rows e=S at hsa ⊢;clear hln eP hst st sl s4 hs ok ht hi hx p16 hS2 h;have hrep:(mRep (mLst (q01 (mVar 4) mNil)) w0n) [some S,some (.int (n:Int)),some (.tup S2),some (.lst F),some (.int (i:Int))]=some (RP,[some S,some (.int (n:Int)),some (.tup S2),some (.lst F),some (.int (i:Int))]):=by
    refine qfi (xs:=[.int (i:Int)]) (y:=.int (PK.length:Nat)) (ρ1:=[some S,some (.int (n:Int)),some (.tup S2),some (.lst F),some (.int (i:Int))]) ?_ ?_ hrp
    ·clear hrp hsa ln;generalize (n:Int)=n';generalize (i:Int)=i';walk_at "ev"
    ·clear hrp ln;generalize (n:Int)=n';generalize (i:Int)=i' at hsa ⊢;walk_at "ev"
   generalize (mRep (mLst (q01 (mVar 4) mNil)) w0n)=FR at hrep ⊢;clear hrp hsa;generalize (n:Int)=n' at hrep ⊢;generalize (i:Int)=i' at hrep ⊢;walk_at "ev")
 subst hρ;rw[q1s,jz]at l1;have bg:big ((n+q08 r e:Nat):Int)=true:=by unfold big;simp;omega
 have z0:0<=sizeLine:=by decide
 have tn:((n+q08 r e:Nat):Int).toNat=n+q08 r e:=jo _;rw[<-tn]at l1;exact qqg _ _ _ _ _ _ _ z0 hst hs bg l1
theorem qiz(ok:q2d r taps rows e)(n:Nat)(hn:n<=60)(h:e="ring"->r.toNat<=n)(hs:List D)(hl:hs.length=(q0e taps rows (n+q08 r e)).length):f_y20 [schD r taps rows e,.int n,.lst hs]=some .non:=by
 have hp:=qc8 ok n hn h;have hl2:hs.length=((q0e taps rows (n+q08 r e)).map D.int).length:=by rw[j7,hl]
 unfold f_y20 qkn;generalize (q0e taps rows (n+q08 r e)).map D.int=F at hp hl2;generalize schD r taps rows e=S at hp ⊢;clear ok h hl hn;walk_at "ev"
end
section
variable{r:Int}{taps:List Int}{rows:List (List Int)}{e:Str}
theorem qi4(ns:List Int)(k:Nat):∃c:Int,f_y34 [.lst (ns.map D.int),.int k]=some (.int c):=by
 by_cases h:k<ns.length
 ·refine⟨ns.getD k 0,?_⟩;have ha:atI (ns.map D.int) (k:Int)=some (.int (ns.getD k 0)):=by
   rw[q37 (by omega) (by rw[j7];omega),jo,jc,jv,jd h];rfl
  have hk:(k:Int)<((ns.map D.int).length:Nat):=by rw[j7];omega
  generalize ns.getD k 0=c at ha ⊢;generalize ns.map D.int=N at ha hk ⊢;clear h;unfold f_y34 qhp;walk_at "ev"
 ·refine⟨0,?_⟩;have hk:¬(k:Int)<((ns.map D.int).length:Nat):=by rw[j7];omega
  generalize ns.map D.int=N at hk ⊢;clear h;unfold f_y34 qhp;walk_at "ev"
theorem qnc(c n':Int)(X:List D)(y v4:Option D)(z0:0<=sizeLine)(bg:big n'=true)
 (l1:q23 (gSet 4) w44 (q1f 0 n'.toNat) [some (.int c),some (.int n'),some (.lst []),some (.int (c % 2305843009213693951*1000000007+104729)),none]=some (.nx [some (.int c),some (.int n'),some (.lst X),y,v4])):f_y35 [.int c,.int n']=some (.lst X):=by
 unfold f_y35 qkc;walk_at "ev"
theorem q74(c:Int)(n:Nat)(hn:n<=1000):∃xs:List Int,f_y35 [.int c,.int n]=some (.lst (xs.map D.int))/\xs.length=n/\∀x∈xs,0<=x/\x<2305843009213693951:=by
 have c0:0<=c % 2305843009213693951:=by omega
 have c1:c % 2305843009213693951<2305843009213693951:=by omega
 obtain⟨ρ',l1,xs,y,v4,hρ,hl,hx,_⟩:=q2r (fg:=gSet 4) (fb:=sSeq w0i
 (sMut q2c 2 (q01 (mVar 3) mNil)))
   (λk ρ=>∃(xs:List Int) (y:Int) (v4:Option D),ρ=[some (.int c),some (.int (n:Int)),some (.lst (xs.map D.int)),some (.int y),v4]/\xs.length=k/\(∀x∈xs,0<=x/\x<2305843009213693951)/\0<=y/\y<2305843009213693951*1000000008)
   (q1f 0 n) 0 [some (.int c),some (.int (n:Int)),some (.lst []),some (.int (c % 2305843009213693951*1000000007+104729)),none] ⟨[],_,none,rfl,rfl,λ_ h=>(nomatch h),by omega,by omega⟩ (λi x ρ hx ⟨xs,y,v4,hρ,hl,hm,y0,y1⟩=>by
     subst hρ;obtain⟨hi,rfl⟩:=q1z hx;rw[Int.zero_add]
     have b1 : bigM y = true := decide_eq_true (by have:(2:Nat)^250>2305843009213693951*1000000008:=by decide+kernel
                                                   omega)
     have b2 : bigM (y + 65537) = true := decide_eq_true (by have:(2:Nat)^250>2305843009213693951*1000000008+65537:=by decide+kernel
                                                             omega)
     have ln:(xs.map D.int).length<sizeLine:=by rw[j7];exact jn (by omega:_<2000) (q1d (by decide))
     generalize hz:(y*(y+65537)+13*(i:Int)+5) % 2305843009213693951=z;have z0:0<=z:=by omega
     have z1:z<2305843009213693951:=by omega
     refine⟨_,[some (.int c),some (.int (n:Int)),some (.lst (xs.map D.int++[.int z])),some (.int z),some (.int (i:Int))],rfl,.inl ?_,xs++[z],z,some (.int (i:Int)),by rw[x8];rfl,by rw[jh,List.length_singleton,hl],λu hu=>?_,z0,by omega⟩
     ·generalize xs.map D.int=X at ln ⊢;clear hm hl hx hi y0 y1 z0 z1;walk_at "ev"
     ·rcases List.mem_append.mp hu with hu|hu
      ·exact hm u hu
      ·rw[List.mem_singleton.mp hu];exact⟨z0,z1⟩)
 subst hρ;rw[q1s,jz]at hl;refine⟨xs,?_,hl,hx⟩;have bg:big (n:Int)=true:=by unfold big;simp;omega
 exact qnc _ _ _ _ _ (by decide) bg (by rw[jo];exact l1)
theorem qcq(xs:List Int)(a b:Nat)(hb:b<=xs.length)(hab:a<=b):cutD (xs.map D.int) (some (a:Int)) (some (b:Int))=((xs.drop a).take (b-a)).map D.int:=by unfold cutD;rw[q8u (by omega),q8u (by omega),j7,jo,jo,Nat.min_eq_left hb,Nat.min_eq_left (jr hab hb),List.map_take,List.map_drop]
theorem qum{j:Int}(h0:0<=j)(h:j<5):∃t:Nat,atI [D.int 1,.int 0,.int 2,.int 1,.int 3] j=some (.int (t:Int))/\t<=3:=by
 rcases(by omega:j=0∨j=1∨j=2∨j=3∨j=4)with rfl|rfl|rfl|rfl|rfl
 ·exact⟨1,rfl,by decide⟩
 ·exact⟨0,rfl,by decide⟩
 ·exact⟨2,rfl,by decide⟩
 ·exact⟨1,rfl,by decide⟩
 ·exact⟨3,rfl,by decide⟩
theorem qul{j:Int}(h0:0<=j)(h:j<6):∃t:Nat,atI [D.int 1,.int 2,.int 4,.int 3,.int 5,.int 6] j=some (.int (t:Int))/\1<=t/\t<=6:=by
 rcases(by omega:j=0∨j=1∨j=2∨j=3∨j=4∨j=5)with rfl|rfl|rfl|rfl|rfl|rfl
 ·exact⟨1,rfl,by decide,by decide⟩
 ·exact⟨2,rfl,by decide,by decide⟩
 ·exact⟨4,rfl,by decide,by decide⟩
 ·exact⟨3,rfl,by decide,by decide⟩
 ·exact⟨5,rfl,by decide,by decide⟩
 ·exact⟨6,rfl,by decide,by decide⟩
theorem quk{j:Int}(h0:0<=j)(h:j<4):∃t:Int,atI [D.int 1,.int 1,.int 0,.int 1] j=some (.int t)/\(t=0∨t=1):=by
 rcases(by omega:j=0∨j=1∨j=2∨j=3)with rfl|rfl|rfl|rfl
 ·exact⟨1,rfl,.inr rfl⟩
 ·exact⟨1,rfl,.inr rfl⟩
 ·exact⟨0,rfl,.inl rfl⟩
 ·exact⟨1,rfl,.inr rfl⟩
theorem qui{j:Int}(h0:0<=j)(h:j<4):∃e:Str,atI [D.str "open",.str "ended",.str "ring",.str "ended"] j=some (.str e)/\(e="open"∨e="ended"∨e="ring"):=by
 rcases(by omega:j=0∨j=1∨j=2∨j=3)with rfl|rfl|rfl|rfl
 ·exact⟨_,rfl,.inl rfl⟩
 ·exact⟨_,rfl,.inr (.inl rfl)⟩
 ·exact⟨_,rfl,.inr (.inr rfl)⟩
 ·exact⟨_,rfl,.inr (.inl rfl)⟩
theorem qht{x:Int}(h:0<=x):0<=Builtin.bitAnd x 3/\Builtin.bitAnd x 3<4:=by rw[qbp h (by decide)];have:x.toNat &&& (3:Int).toNat<=3:=Nat.and_le_right;omega
theorem qjz{n:Nat}{js:List Nat}{fg:RhG}{fe:RhD}{ρ:Rho}(G:D->Prop):∀(xs:List D),(∀x∈xs,∃ρ1 y,fg x (q64 n js ρ)=some ρ1/\(fe ρ1).map (·.1)=some y/\G y)->∃ys,q15 n js none fg (mRet true) fe xs ρ=some (ys,ρ)/\ys.length=xs.length/\∀y∈ys,G y
 |[],_=>⟨[],rfl,rfl,λ_ h=>nomatch h⟩
 | x::xs,h=>by
  obtain⟨ρ1,y,h1,h2,h3⟩:=h x jg;obtain⟨ρ2,h2⟩:=q96 h2;obtain⟨ys,g1,g2,g3⟩:=qjz (fg:=fg) (fe:=fe) (ρ:=ρ) G xs λy hy=>h y (jj _ hy);refine⟨y::ys,?_,by rw[jq,jq,g2],λz hz=>?_⟩
  ·simp only[q15,h1,mRet,h2,q5r];rw[g1]
  ·rcases List.mem_cons.mp hz with rfl|hz
   ·exact h3
   ·exact g3 z hz
theorem qfh{ρ ρ1:Rho}{fs:RhL}{n:Int}(h:fs ρ=some ([.int n],ρ1))(bg:big n=true):q2u fs ρ=some (q1f 0 n.toNat,ρ1):=by rw[qh4,h];show((if big n=true then some (q1f 0 n.toNat)else none).map λx=>(x,ρ1))=_;rw[if_pos bg];rfl
theorem qij(c top z:Int)(r e:D)(X TS RS RD R5:List D)(FI:RhL)(FE:RhD)(l5:R5.length<=sizeLine)(lq:RS.length<sizeLine)
 (hFI:FI [some (.int c),some (.int top),some (.lst X),some e,some r,some (.tup TS),some (.lst RS),some (.int z)]=some (R5,[some (.int c),some (.int top),some (.lst X),some e,some r,some (.tup TS),some (.lst RS),some (.int z)]))
 (g1:q15 1 [7] none (gSet 0) (mRet true) FE R5 [some (.int c),some (.int top),some (.lst X),some e,some r,some (.tup TS),some (.lst RS),some (.int z)]=some (RD,[some (.int c),some (.int top),some (.lst X),some e,some r,some (.tup TS),some (.lst RS),some (.int z)])):
 (sMut q2c 6 (q01 (mOp1 q5i (mOf (q1t 1 [7] none FI (gSet 0) (mRet true) FE))) mNil)) [some (.int c),some (.int top),some (.lst X),some e,some r,some (.tup TS),some (.lst RS),some (.int z)]=some (.nx [some (.int c),some (.int top),some (.lst X),some e,some r,some (.tup TS),some (.lst (RS++[.tup RD])),some (.int z)]):=by
 walk_at "ev"
theorem qmp(N:Nat):((N:Int) / 2^(0:Int).toNat % 2+((N:Int) / 2^(1:Int).toNat % 2+((N:Int) / 2^(2:Int).toNat % 2+((N:Int) / 2^(3:Int).toNat % 2+((N:Int) / 2^(4:Int).toNat % 2+0))))) % 2=(parF 5 N:Nat):=by
 have e0:(2:Int)^(0:Int).toNat=1:=rfl;have e1:(2:Int)^(1:Int).toNat=2:=rfl;have e2:(2:Int)^(2:Int).toNat=4:=rfl;have e3:(2:Int)^(3:Int).toNat=8:=rfl;have e4:(2:Int)^(4:Int).toNat=16:=rfl;rw[e0,e1,e2,e3,e4];have f1:(N:Int) / 2=((N / 2:Nat):Int):=by omega
 have f2:(N:Int) / 4=((N / 2 / 2:Nat):Int):=by omega
 have f3:(N:Int) / 8=((N / 2 / 2 / 2:Nat):Int):=by omega
 have f4:(N:Int) / 16=((N / 2 / 2 / 2 / 2:Nat):Int):=by omega
 have f0:(N:Int) / 1=(N:Int):=by omega
 rw[f0,f1,f2,f3,f4];have u:parF 5 N=(N % 2+(N / 2 % 2+(N / 2 / 2 % 2+(N / 2 / 2 / 2 % 2+(N / 2 / 2 / 2 / 2 % 2+0) % 2) % 2) % 2) % 2) % 2:=rfl;rw[u];generalize N / 2 / 2 / 2 / 2=a4;generalize N / 2 / 2 / 2=a3;generalize N / 2 / 2=a2;generalize N / 2=a1;omega
theorem qia(ρ:Rho)(R5 YD:List D)(Y:List Int)(FI:RhL)(FE:RhD)(l5:R5.length<=sizeLine)(hFI:FI ρ=some (R5,ρ))(ci:q15 1 [0,1] none (gSet 0) (mRet true) FE R5 ρ=some (YD,ρ))(hi:q3t YD=some Y):
 ((mOp2 dMod (mOp1 dSum (mOf (q1t 1 [0,1] none FI (gSet 0) (mRet true) FE))) (mRet (.int 2))) ρ).map (·.1)=some (.int (Y.sum % 2)):=by
 walk_at "ev"
theorem qi9(r room bit m:Int)(e:D)(TS RS S:List D)(two:2<=sizeLine)(ll:TS.length<=sizeLine)(FE:RhD)(r0:0<=r)(r6:r<=1000000)(hm:2^r.toNat=m)(m0:0<m)
 (cm:q15 1 [3] none (gSet 0) (mRet true) FE TS [some (.tup [.int r,.tup TS,.tup RS,e]),some (.int room),some (.int bit),some (.int (2*room+bit)),none]=some (S,[some (.tup [.int r,.tup TS,.tup RS,e]),some (.int room),some (.int bit),some (.int (2*room+bit)),none])):
 runP false 3 5 (sSeq w1w (sSeq (sSet 4 (mOf (q1t 1 [3] none w2r (gSet 0) (mRet true) FE))) (sRet (mTup (q01 (mOp2 dMod (mVar 3) (mOp2 dShl (mRet (.int 1)) (mOp2 dIx (mVar 0) (mRet (.int 0))))) (q01 (mVar 4) mNil)))))) [.tup [.int r,.tup TS,.tup RS,e],.int room,.int bit]=some (.tup [.int ((2*room+bit) % m),.lst S]):=by
 subst hm;walk_at "ev"
theorem v_y3(ok:q2d r taps rows e)(room bit:Int)(a0:0<=room)(a1:room<2^r.toNat)(hb:bit=0∨bit=1):
 f_y37 [schD r taps rows e,.int room,.int bit]=some (.tup [.int ((2*room+bit) % 2^r.toNat),.lst ((taps.map (sgn (2*room+bit))).map D.int)]):=by
 have p16:=q3c ok.r0 ok.r4;have r0:=ok.r0;have r4:=ok.r4;have r6:r<=1000000:=by omega
 have m0:(0:Int)<2^r.toNat:=by omega
 have cm:=q42 (n:=1) (js:=[3]) (fg:=gSet 0) (fe:=mOp2 dMod w1d (mRet (.int 2))) (ρ:=[some (schD r taps rows e),some (.int room),some (.int bit),some (.int (2*room+bit)),none]) (λd=>match d with|.int t=>.int (sgn (2*room+bit) t)|d=>d) (taps.map D.int) (λx hx=>by
  obtain⟨t,ht,rfl⟩:=List.mem_map.mp hx;refine⟨[some (.int t),some (.int (2*room+bit))],rfl,?_⟩;have tb:=ok.tb t ht;have w0:0<=2*room+bit:=by omega
  have ea:=qbp tb.1 w0;rw[Nat.and_comm]at ea;generalize hN:(2*room+bit).toNat &&& t.toNat=N at ea;have ci:=q42 (n:=1) (js:=[0,1]) (fg:=gSet 0) (fe:=mOp2 dAnd w3u (mRet (.int 1))) (ρ:=[some (.int t),some (.int (2*room+bit))])
   (λd=>match d with|.int k=>.int ((N:Int) / 2^k.toNat % 2)|d=>d) (q1f 0 5) (λy hy=>by
     obtain⟨k,hk⟩:=List.mem_iff_getElem?.mp hy;obtain⟨hk1,rfl⟩:=q1z hk;rw[Int.zero_add];have hs:0<=(N:Int) / 2^(k:Int).toNat:=Int.ediv_nonneg (by omega) (Int.le_of_lt (Int.pow_pos (by decide)));have h1:=qhu hs;refine⟨[some (.int (k:Int)),some (.int t),some (.int (2*room+bit))],rfl,?_⟩;have k0:0<=(k:Int):=by omega
     generalize 2*room+bit=W at ea ⊢;show _=some (D.int ((N:Int) / 2^(k:Int).toNat % 2));rw[<-h1,<-ea];rw[<-ea]at hs;clear hN hy hk hk1 h1 tb hx ht hb a0 a1 m0 p16 ok w0 ea;walk_at "ev")
  have er:(q1f 0 5).map (λd=>match d with|.int k=>D.int ((N:Int) / 2^k.toNat % 2)|d=>d)=[(N:Int) / 2^(0:Int).toNat % 2,(N:Int) / 2^(1:Int).toNat % 2,(N:Int) / 2^(2:Int).toNat % 2,(N:Int) / 2^(3:Int).toNat % 2,(N:Int) / 2^(4:Int).toNat % 2].map D.int:=rfl;rw[er]at ci;have hi:=q35 [(N:Int) / 2^(0:Int).toNat % 2,(N:Int) / 2^(1:Int).toNat % 2,(N:Int) / 2^(2:Int).toNat % 2,(N:Int) / 2^(3:Int).toNat % 2,(N:Int) / 2^(4:Int).toNat % 2];have hp:=qmp N;have es:[(N:Int) / 2^(0:Int).toNat % 2,(N:Int) / 2^(1:Int).toNat % 2,(N:Int) / 2^(2:Int).toNat % 2,(N:Int) / 2^(3:Int).toNat % 2,(N:Int) / 2^(4:Int).toNat % 2].sum=((N:Int) / 2^(0:Int).toNat % 2+((N:Int) / 2^(1:Int).toNat % 2+((N:Int) / 2^(2:Int).toNat % 2+((N:Int) / 2^(3:Int).toNat % 2+((N:Int) / 2^(4:Int).toNat % 2+0))))):=rfl;rw[<-es]at hp;show _=some (D.int (sgn (2*room+bit) t));unfold sgn;rw[hN,<-hp];exact qia _ _ _ _ _ _ (by decide) (qfh rfl (by decide)) ci hi)
 have e2:(taps.map D.int).map (λd=>match d with|.int t=>D.int (sgn (2*room+bit) t)|d=>d)=(taps.map (sgn (2*room+bit))).map D.int:=by rw[jk,jk];rfl
 rw[e2]at cm;have ll:(taps.map D.int).length<=sizeLine:=by rw[j7];exact q1d (by have:=ok.t4;omega)
 exact qi9 r room bit _ _ _ _ _ (by decide) ll _ r0 r6 rfl m0 cm
theorem qbr(ok:q2d r taps rows e)(k:Nat)(signs:List Int)(hl:signs.length<=1000):
 f_y38 [schD r taps rows e,.int k,.lst (signs.map D.int)]=some (.lst ((q38 (rowAt rows k) signs).map D.int)):=by
 have hr:=qfg ok k;have zc:0<(rows.map rowD).length:=by have:=ok.m1;rw[j7];omega
 have hz:zipD (signs.map D.int) ((rowAt rows k).map D.int)=(signs.zip (rowAt rows k)).map λq=>D.tup [.int q.1,.int q.2]:=q9e _ _;have cm:∀ρ:Rho,q15 2 [] none (q2i 2 (q0w (gSet 0) (q0w (gSet 1) q2o))) (q0g (mOp2 dEq (mVar 1) (mRet (.int 1)))) (mVar 0) ((signs.zip (rowAt rows k)).map λq=>D.tup [.int q.1,.int q.2]) ρ=some ((q38 (rowAt rows k) signs).map D.int,ρ):=λρ=>by
  have:=q4c (n:=2) (js:=[]) (fg:=q2i 2 (q0w (gSet 0) (q0w (gSet 1) q2o))) (ft:=q0g (mOp2 dEq (mVar 1) (mRet (.int 1)))) (fe:=mVar 0) (ρ:=ρ) (λd=>match d with|.tup [_,.int b]=>b==1|_=>false) (λd=>match d with|.tup [x,_]=>x|d=>d) ((signs.zip (rowAt rows k)).map λq=>D.tup [.int q.1,.int q.2]) (λx hx=>by obtain⟨q,_,rfl⟩:=List.mem_map.mp hx;refine⟨[some (.int q.1),some (.int q.2)],rfl,?_,λ_=>rfl⟩;clear hr hz hx;walk_at "ev")
  rw[this,List.filter_map,jk];unfold q38;rw[jk];rfl
 have ll:((signs.zip (rowAt rows k)).map λq=>D.tup [.int q.1,.int q.2]).length<=sizeLine:=by rw[j7,xm];exact q1d (by have:=xi signs.length (rowAt rows k).length;omega)
 unfold schD;generalize (signs.zip (rowAt rows k)).map (λq=>D.tup [.int q.1,.int q.2])=Z at hz cm ll;generalize (q38 (rowAt rows k) signs).map D.int=Y at cm ⊢;generalize (rowAt rows k).map D.int=R at hr hz;generalize rows.map rowD=RS at hr zc ⊢;generalize signs.map D.int=S at hz ⊢;clear ok hl;unfold f_y38 qka;walk_at "ev"
theorem q8r(ok:q2d r taps rows e)(n:Nat):f_y39 [schD r taps rows e,.int n]=some (.int ((n+q08 r e:Nat):Int)):=by
 have h1:=s_oe;have h2:=s_ee;have h3:=s_re;have r0:=ok.r0;unfold schD;rcases ok.en with rfl|rfl|rfl
 ·rw[show q08 r "open"=0 from if_neg (by decide),Nat.add_zero];clear ok;unfold f_y39 qec;walk_at "ev"
 ·rw[show q08 r "ended"=r.toNat from if_pos rfl,show((n+r.toNat:Nat):Int)=(n:Int)+r from by omega];clear ok;unfold f_y39 qec;walk_at "ev"
 ·rw[show q08 r "ring"=0 from if_neg (by decide),Nat.add_zero];clear ok;unfold f_y39 qec;walk_at "ev"
theorem ql4(ok:q2d r taps rows e)(k:Nat):(rowAt rows k).length=taps.length:=by have m1:=ok.m1;have hk:k % rows.length<rows.length:=Nat.mod_lt _ (by omega);unfold rowAt;rw[jd hk];exact(ok.rw _ (xc hk)).1
theorem q9o:∀(taps row:List Int),row.length=taps.length->(row.filter λb=>b==1).length=((taps.zip row).filter λq=>q.2==1).length
 |[],[],_=>rfl
 |[],_::_,h=>by cases h
 |_::_,[],h=>by cases h
 | t::ts,b::bs,h=>by
  have ih:=q9o ts bs (by simpa using h);rw[List.zip_cons_cons];by_cases hb:(b==1)=true
  ·rw[List.filter_cons_of_pos (p:=λb=>b==1) hb,List.filter_cons_of_pos (p:=λq:Int×Int=>q.2==1) (show((t,b).2==1)=true from hb),jq,jq,ih]
  ·rw[List.filter_cons_of_neg (p:=λb=>b==1) hb,List.filter_cons_of_neg (p:=λq:Int×Int=>q.2==1) (show¬((t,b).2==1)=true from hb),ih]
theorem qik(S0 S1 S3:D)(RS R:List D)(k':Int)(v1 v2:Option D)(zc:0<RS.length)(hr:atI RS (k' % (RS.length:Nat))=some (.tup R)):
 w0t [some (.tup [S0,S1,.tup RS,S3]),v1,v2,some (.int k')]=some (R,[some (.tup [S0,S1,.tup RS,S3]),v1,v2,some (.int k')]):=by
 walk_at "ev"
theorem qb0(S:D)(n' k':Int)(F R RP:List D)(FI:RhL)(lr:R.length<=sizeLine)(ln:F.length+RP.length<=sizeLine)(hFI:FI [some S,some (.int n'),some (.lst F),some (.int k')]=some (R,[some S,some (.int n'),some (.lst F),some (.int k')]))
 (cm:q15 1 [3] none (gSet 0) (q0g (mOp2 dEq (mVar 0) (mRet (.int 1)))) (mVar 1) R [some S,some (.int n'),some (.lst F),some (.int k')]=some (RP,[some S,some (.int n'),some (.lst F),some (.int k')])):
 (sExt 2 (q1t 1 [3] none FI (gSet 0) (q0g (mOp2 dEq (mVar 0) (mRet (.int 1)))) (mVar 1))) [some S,some (.int n'),some (.lst F),some (.int k')]=some (.nx [some S,some (.int n'),some (.lst (F++RP)),some (.int k')]):=by
 walk_at "ev"
theorem qdo(S:D)(n' N:Int)(F:List D)(v3:Option D)(FB:RhO)(z0:0<=sizeLine)(hs:f_y39 [S,.int n']=some (.int N))(bg:big N=true)
 (l1:q23 (gSet 3) FB (q1f 0 N.toNat) [some S,some (.int n'),some (.lst []),none]=some (.nx [some S,some (.int n'),some (.lst F),v3])):
 runP true 2 4 (sSeq (sOwn 2 (mLst mNil)) (sSeq (sFor (q2u (q01 w1c mNil)) (gSet 3) FB) (q5v 2))) [S,.int n']=some (.lst F):=by
 walk_at "ev"
theorem qbs(ok:q2d r taps rows e)(n:Nat)(hn:n<=60):f_y40 [schD r taps rows e,.int n]=some (.lst ((q0e taps rows (n+q08 r e)).map D.int)):=by
 have z4:=q2j ok;have hs:=q8r ok n;have hrow:=qfg ok;have zc:0<(rows.map rowD).length:=by have:=ok.m1;rw[j7];omega
 have s4:∀k,(selK taps rows k).length<=4:=λk=>by unfold selK;refine jr (List.length_filter_le _ _) ?_;rw[xm];have:=ok.t4;have:=xi taps.length (rowAt rows k).length;omega
 obtain⟨ρ',l1,v3,hρ⟩:=q2r (fg:=gSet 3) (fb:=sExt 2 w2s)
  (λk ρ=>∃v3,ρ=[some (schD r taps rows e),some (.int (n:Int)),some (.lst ((q0e taps rows k).map D.int)),v3]) (q1f 0 (n+q08 r e)) 0
  [some (schD r taps rows e),some (.int (n:Int)),some (.lst []),none] ⟨none,rfl⟩ (λi x ρ hx ⟨v3,hρ⟩=>by
   subst hρ;obtain⟨hi,rfl⟩:=q1z hx;rw[jz,Int.zero_add];have eP:q0e taps rows (i+1)=q0e taps rows i++List.replicate (selK taps rows i).length (i:Int):=q2h _ _;rw[eP,x8,List.map_replicate];have cm:=q4c (n:=1) (js:=[3]) (fg:=gSet 0) (ft:=q0g (mOp2 dEq (mVar 0) (mRet (.int 1)))) (fe:=mVar 1) (ρ:=[some (schD r taps rows e),some (.int (n:Int)),some (.lst ((q0e taps rows i).map D.int)),some (.int (i:Int))])
    (λd=>match d with|.int b=>b==1|_=>false) (λ_=>.int (i:Int)) ((rowAt rows i).map D.int) (λx hx=>by obtain⟨b,_,rfl⟩:=List.mem_map.mp hx;refine⟨[some (.int b),some (.int (i:Int))],rfl,?_,λ_=>rfl⟩;clear hx;walk_at "ev")
   have ec:(((rowAt rows i).map D.int).filter (λd=>match d with|.int b=>b==1|_=>false)).map (λ_=>D.int (i:Int))=List.replicate (selK taps rows i).length (.int (i:Int)):=by
    have e1:∀l:List D,l.map (λ_=>D.int (i:Int))=List.replicate l.length (.int (i:Int)):=λl=>by
     induction l with
     |nil=>rfl
     |cons a l ih=>rw[ju,ih];rfl
    rw[e1,List.filter_map,j7];congr 1;exact q9o taps (rowAt rows i) (ql4 ok i)
   rw[ec]at cm;have ln:((q0e taps rows i).map D.int).length+(List.replicate (selK taps rows i).length (D.int (i:Int))).length<=sizeLine:=by have q1:(q0e taps rows i).length<=i*4:=q41 _ 4 (λk=>by rw[ji];exact s4 k) i;have q2:=s4 i;rw[j7,ji];exact q1d (by omega)
   have hr:=hrow i;have lr:((rowAt rows i).map D.int).length<=sizeLine:=by rw[j7,ql4 ok];exact q1d (by have:=ok.t4;omega)
   generalize List.replicate (selK taps rows i).length (D.int (i:Int))=RP at cm ln ⊢;generalize (q0e taps rows i).map D.int=F at cm ln ⊢;generalize (rowAt rows i).map D.int=R at hr cm lr;refine⟨_,[some (schD r taps rows e),some (.int (n:Int)),some (.lst (F++RP)),some (.int (i:Int))],rfl,.inl ?_,some (.int (i:Int)),rfl⟩;exact qb0 _ _ _ _ _ _ _ lr ln (qik _ _ _ _ _ _ _ _ zc hr) cm)
 subst hρ;rw[q1s,jz]at l1;have bg:big ((n+q08 r e:Nat):Int)=true:=by unfold big;simp;omega
 have z0:0<=sizeLine:=by decide
 have tn:((n+q08 r e:Nat):Int).toNat=n+q08 r e:=jo _;rw[<-tn]at l1;exact qdo _ _ _ _ _ _ z0 hs bg l1
theorem v_start(ok:q2d r taps rows e)(w:List Int)(hw:e="ring"->r.toNat<=w.length)(hl:w.length<=1000):f_y41 [schD r taps rows e,.lst (w.map D.int)]=some (.int (frst r e w)):=by
 have ne1:¬(("open":Str)="ring"):=by decide
 have ne2:¬(("ended":Str)="ring"):=by decide
 have h1:=s_or;have h2:=s_er;have h3:=s_rr;rcases ok.en with rfl|rfl|rfl
 ·unfold frst schD;rw[if_neg ne1];generalize w.map D.int=W;clear ok hw;unfold f_y41 qeb;walk_at "ev"
 ·unfold frst schD;rw[if_neg ne2];generalize w.map D.int=W;clear ok hw;unfold f_y41 qeb;walk_at "ev"
 ·unfold frst;rw[if_pos rfl];have r0:=ok.r0;have hn:=hw rfl;obtain⟨ρ',l1,v,hρ⟩:=q2r (fg:=gSet 3) (fb:=sSet 2 w3m) (λk ρ=>∃v,ρ=[some (schD r taps rows "ring"),some (.lst (w.map D.int)),some (.int (writ ((w.drop (w.length-r.toNat)).take k))),v]) ((w.drop (w.length-r.toNat)).map D.int) 0 [some (schD r taps rows "ring"),some (.lst (w.map D.int)),some (.int 0),none] ⟨none,rfl⟩ (λi x ρ hx ⟨v,hρ⟩=>by
   subst hρ;rw[jc]at hx;cases q:(w.drop (w.length-r.toNat))[i]? with
   |none=>rw[q]at hx;cases hx
   | some b=>
    rw[q]at hx;cases hx;generalize w.drop (w.length-r.toNat)=u at q ⊢;rw[jz,take_snoc q,q5t];refine⟨_,[some (schD r taps rows "ring"),some (.lst (w.map D.int)),some (.int (2*writ (u.take i)+b)),some (.int b)],rfl,.inl ?_,some (.int b),by rw[Int.mul_comm]⟩;generalize writ (u.take i)=z;generalize schD r taps rows "ring"=S;generalize w.map D.int=W;clear q ok hw hn h1 h2 h3 ne1 ne2;walk_at "ev")
  subst hρ;rw[j7,jz,List.take_length]at l1;have sl:dSl (.lst (w.map D.int)) (some ((w.length:Int)-r)) none=some (.lst ((w.drop (w.length-r.toNat)).map D.int)):=by
   rw[q7x (by omega),<-List.map_drop];have:((w.length:Int)-r).toNat=w.length-r.toNat:=by omega
   rw[this]
  have lm:((w.map D.int).length:Int)=(w.length:Int):=by rw[j7]
  generalize w.drop (w.length-r.toNat)=u at l1 sl ⊢;rw[<-lm]at sl;unfold schD at l1 ⊢;generalize u.map D.int=U at l1 sl;generalize w.map D.int=W at l1 sl;clear ok hw hn r0 hl lm;unfold f_y41 qeb;walk_at "ev"
theorem qoj(ok:q2d r taps rows e)(w:List Int)(k:Nat)(hk:k<w.length+q08 r e):atI (w.map D.int++[D.int 0,.int 0,.int 0,.int 0]) (k:Int)=some (.int ((q5q r e w).getD k 0))/\(q5q r e w)[k]? =some ((q5q r e w).getD k 0):=by
 have z4:=q2j ok;have hl:(q5q r e w).length=w.length+q08 r e:=by rw[q4i,jh,ji]
 have g1:(q5q r e w)[k]? =some ((q5q r e w).getD k 0):=by rw[jv,jd (by omega)];rfl
 refine⟨?_,g1⟩;have e1:w.map D.int++[D.int 0,.int 0,.int 0,.int 0]=(w++List.replicate 4 0).map D.int:=by rw[x8];rfl
 rw[e1,q37 (by omega) (by rw[j7,jh,ji];omega),jo,jc];have e2:(w++List.replicate 4 (0:Int))[k]? =(q5q r e w)[k]? :=by
  rw[q4i];by_cases h:k<w.length
  ·rw[k7 h,k7 h]
  ·rw[xo (by omega),xo (by omega),k6,k6,if_pos (by omega),if_pos (by omega)]
 rw[e2,g1];rfl
theorem qem(S:D)(z nz b k':Int)(W Z4 F S2 K1:List D)(v5:Option D)(FR:RhL)
 (hFR:FR [some S,some (.lst W),some (.int z),some (.lst F),some (.int k'),v5]=some (Z4,[some S,some (.lst W),some (.int z),some (.lst F),some (.int k'),v5])) (lW:W.length+Z4.length<=sizeLine) (ga:atI (W++Z4) k'=some (.int b))
 (st:f_y37 [S,.int z,.int b]=some (.tup [.int nz,.lst S2])) (sa:f_y38 [S,.int k',.lst S2]=some (.lst K1)) (ln:F.length+K1.length<=sizeLine):
 (sSeq (sAsg (q0k f_y37 (q01 (mVar 0) (q01 (mVar 2) (q01 (mOp2 dIx (mOp2 dAdd (mVar 1) (mOf FR)) (mVar 4)) mNil)))) w49) w1v) [some S,some (.lst W),some (.int z),some (.lst F),some (.int k'),v5]=some (.nx [some S,some (.lst W),some (.int nz),some (.lst (F++K1)),some (.int k'),some (.lst S2)]):=by
 walk_at "ev"
theorem qig(S:D)(a n' N:Int)(W F:List D)(z v4 v5:Option D)(FB:RhO)(z0:0<=sizeLine)(hn:n'=((W.length:Nat):Int))(h0:f_y41 [S,.lst W]=some (.int a))(h1:f_y39 [S,.int n']=some (.int N))(bg:big N=true)
 (l1:q23 (gSet 4) FB (q1f 0 N.toNat) [some S,some (.lst W),some (.int a),some (.lst []),none,none]=some (.nx [some S,some (.lst W),z,some (.lst F),v4,v5])):
 runP true 2 6 (sSeq w3q (sSeq (sOwn 3 (mLst mNil)) (sSeq (sFor w2z (gSet 4) FB) (q5v 3)))) [S,.lst W]=some (.lst F):=by
 subst hn;walk_at "ev"
theorem rep4(one:1<=sizeLine)(ρ:Rho):(mRep (mLst (q01 (mRet (.int 0)) mNil)) (mRet (.int 4))) ρ=some ([D.int 0,.int 0,.int 0,.int 0],ρ):=by refine qfi (xs:=[.int 0]) (y:=.int 4) (ρ1:=ρ) ?_ rfl (qax _ (by decide) (by decide));walk_at "ev"
theorem qkv(ok:q2d r taps rows e)(w:List Int)(hb:Bits w)(hw:e="ring"->r.toNat<=w.length)(hl:w.length<=60):
 f_y42 [schD r taps rows e,.lst (w.map D.int)]=some (.lst ((q5j (isRing e) r.toNat taps rows w (w.length+q08 r e)).map D.int)):=by
 have fin:f_y42 [schD r taps rows e,.lst (w.map D.int)]=some (.lst ((qd5 r.toNat taps rows (frst r e w) (q5q r e w)).map D.int)):=by
  have z4:=q2j ok;have h0:=v_start ok w hw (by omega);have h1:=q8r ok w.length;have hat:=qoj ok w;have hlt:=qnm ok w hb hw;have hul:(q5q r e w).length=w.length+q08 r e:=by rw[q4i,jh,ji]
  have hbb:Bits (q5q r e w):=qe8 hb;have m0:(0:Int)<2^r.toNat:=Int.pow_pos (by decide);have hs:=v_y3 ok;have ht:=qbr ok;have hln:∀u k,(q44 r.toNat taps rows (frst r e w) u k).length<=4:=λu k=>qen r.toNat (frst r e w) u ok k;generalize frst r e w=a at h0 hlt hln ⊢;generalize q5q r e w=u at hat hul hbb ⊢;have lW:((w.map D.int).length:Nat)+[D.int 0,.int 0,.int 0,.int 0].length<=sizeLine:=by rw[j7];exact q1d (by show w.length+4<=_;omega)
  obtain⟨ρ',l1,v4,v5,v2,hρ⟩:=q2r (fg:=gSet 4) (fb:=sSeq w10 w1v) (λk ρ=>∃v4 v5 v2,ρ=[some (schD r taps rows e),some (.lst (w.map D.int)),v2,some (.lst (((List.range k).flatMap (q44 r.toNat taps rows a u)).map D.int)),v4,v5]/\v2=some (.int (endR (2^r.toNat) a (u.take k)))) (q1f 0 (w.length+q08 r e)) 0
   [some (schD r taps rows e),some (.lst (w.map D.int)),some (.int a),some (.lst []),none,none] ⟨none,none,_,rfl,rfl⟩ (λi x ρ hx ⟨v4,v5,v2,hρ,hv2⟩=>by
    subst hρ hv2;obtain⟨hi,rfl⟩:=q1z hx;obtain⟨ga,gu⟩:=hat i hi;rw[jz,Int.zero_add,q2h,x8,take_snoc gu,qac];have zl:=q4s m0 (u.take i) a hlt;have hbi:=hbb _ (xv gu);have st:=hs (endR (2^r.toNat) a (u.take i)) (u.getD i 0) zl.1 zl.2 hbi;have sa:=ht i (taps.map (sgn (2*endR (2^r.toNat) a (u.take i)+u.getD i 0))) (by rw[j7];have:=ok.t4;omega);have eK:q38 (rowAt rows i) (taps.map (sgn (2*endR (2^r.toNat) a (u.take i)+u.getD i 0)))=q44 r.toNat taps rows a u i:=rfl;rw[eK]at sa;have e3:endR (2^r.toNat) a (u.take i)+endR (2^r.toNat) a (u.take i)+u.getD i 0=2*endR (2^r.toNat) a (u.take i)+u.getD i 0:=by omega
    rw[e3];have ln:(((List.range i).flatMap (q44 r.toNat taps rows a u)).map D.int).length+((q44 r.toNat taps rows a u i).map D.int).length<=sizeLine:=by have q1:=q41 (q44 r.toNat taps rows a u) 4 (hln u) i;have q2:=hln u i;rw[j7,j7];exact q1d (by omega)
    generalize (q44 r.toNat taps rows a u i).map D.int=K1 at sa ln ⊢;generalize ((List.range i).flatMap (q44 r.toNat taps rows a u)).map D.int=F at ln ⊢;generalize (taps.map (sgn (2*endR (2^r.toNat) a (u.take i)+u.getD i 0))).map D.int=S2 at st sa;generalize (2*endR (2^r.toNat) a (u.take i)+u.getD i 0) % 2^r.toNat=nz at st ⊢;generalize endR (2^r.toNat) a (u.take i)=z at st ⊢;generalize u.getD i 0=b at ga st;exact⟨[some (schD r taps rows e),some (.lst (w.map D.int)),some (.int z),some (.lst F),some (.int (i:Int)),v5],[some (schD r taps rows e),some (.lst (w.map D.int)),some (.int nz),some (.lst (F++K1)),some (.int (i:Int)),some (.lst S2)],rfl,.inl (qem _ _ _ _ _ _ _ _ _ _ _ _ (rep4 (by decide) _) lW ga st sa ln),_,_,_,rfl,rfl⟩)
  obtain⟨hρ,hv2⟩:=hρ;subst hρ hv2;rw[q1s,jz]at l1;have z0:0<=sizeLine:=by decide
  have bg:big ((w.length+q08 r e:Nat):Int)=true:=by unfold big;simp;omega
  have tn:((w.length+q08 r e:Nat):Int).toNat=w.length+q08 r e:=jo _;have lm:(w.length:Int)=((w.map D.int).length:Nat):=by rw[j7]
  unfold qd5;rw[hul];rw[<-tn]at l1;exact qig _ _ _ _ _ _ _ _ _ _ (by decide) lm h0 h1 bg l1
 rw[fin,q4i,qh1,qbw (by have:=ok.r4;omega) hb (q9p hw) λt h=>(ok.tb t h).1]
theorem qm8(t:Told)(b:Int)(hb:b=0∨b=1):f_y43 [q0s t,.int b]=some (.int (q4f t b)):=by
 have h1:=t_cg;have h2:=t_cs;have h3:=t_gs;have h4:=t_cc;have h5:=t_gg;cases t with
 | clear c=>
  show f_y43 [.tup [.str "clear",.int c],.int b]=some (.int (if b=c then 0 else 1));unfold f_y43 qea;by_cases h:b=c
  ·rw[if_pos h];have h':(c==b)=true:=beq_iff_eq.mpr h.symm;clear h hb;walk_at "ev"
  ·rw[if_neg h];have h':(c==b)=false:=beq_eq_false_iff_ne.mpr λq=>h q.symm;have h'':¬c=b:=λq=>h q.symm;clear h hb;walk_at "ev"
 | gap=>
  show f_y43 [.tup [.str "gap"],.int b]=some (.int 0);unfold f_y43 qea;clear hb;walk_at "ev"
 | soft z o=>
  show f_y43 [.tup [.str "soft",.int z,.int o],.int b]=some (.int (if b=1 then o else z));unfold f_y43 qea;rcases hb with rfl|rfl
  ·rw[if_neg (by decide)];walk_at "ev"
  ·rw[if_pos rfl];walk_at "ev"
theorem qbt:∀{ys:List D},(∀y∈ys,∃t,y=q0s t)->∃ts:List Told,ys=ts.map q0s
 |[],_=>⟨[],rfl⟩
 | y::ys,h=>by obtain⟨t,rfl⟩:=h y jg;obtain⟨ts,rfl⟩:=qbt λz hz=>h z (jj _ hz);exact⟨t::ts,rfl⟩
theorem q1x{f g:RhO}{ρ ρ1:Rho}(h:f ρ=some (.nx ρ1)):sSeq f g ρ=g ρ1:=by rw[qh3,h];rfl
theorem qbx{b:RhO}{n k:Nat}{ds:List D}{d:D}(hl:ds.length=n)(h:∃ρ,b (ds.map some++List.replicate (k-n) none)=some (.rt d ρ)):runP false n k b ds=some d:=by obtain⟨ρ,h⟩:=h;unfold runP;rw[if_pos hl,h]
end
section
variable{r:Int}{taps:List Int}{rows:List (List Int)}{e:Str}
theorem qix(ts:List Told)(bits:List Int)(hl:ts.length<=1000):f_y21 [.lst (ts.map objD),.tup (bits.map D.int)]=some (.int (q4t ts bits)):=by
 have hz:zipD (ts.map objD) (bits.map D.int)=(ts.zip bits).map λq=>D.tup [objD q.1,.int q.2]:=by rw[q5s,q4z,jk];rfl
 have cm:∀ρ:Rho,q15 2 [] none (q2i 2 (q0w (gSet 0) (q0w (gSet 1) q2o))) (mRet true) w08 ((ts.zip bits).map λq=>D.tup [objD q.1,.int q.2]) ρ=some (((ts.zip bits).map λq=>q4f q.1 q.2).map D.int,ρ):=λρ=>by
  have:∀zs:List (Told×Int),q15 2 [] none (q2i 2 (q0w (gSet 0) (q0w (gSet 1) q2o))) (mRet true) w08 (zs.map λq=>D.tup [objD q.1,.int q.2]) ρ=some ((zs.map λq=>q4f q.1 q.2).map D.int,ρ):=λzs=>by
   induction zs with
   |nil=>rfl
   | cons q zs ih=>
    have hg:(q2i 2 (q0w (gSet 0) (q0w (gSet 1) q2o))) (D.tup [objD q.1,.int q.2]) (q64 2 [] ρ)=some [some (objD q.1),some (.int q.2)]:=rfl;rw[ju];unfold q15;rw[hg];dsimp only[mRet];rw[qmq q.1 q.2];dsimp only[q5r];rw[ih];rfl
  exact this _
 have ll:((ts.zip bits).map λq=>D.tup [objD q.1,.int q.2]).length<=sizeLine:=by rw[j7,xm];exact q1d (by have:=xi ts.length bits.length;omega)
 have hi:=q35 ((ts.zip bits).map λq=>q4f q.1 q.2);unfold f_y21 qkm q4t;generalize (ts.zip bits).map (λq=>D.tup [objD q.1,.int q.2])=Z at hz cm ll;generalize (ts.zip bits).map (λq=>q4f q.1 q.2)=Y at cm hi ⊢;generalize ts.map objD=TS at hz ⊢;generalize bits.map D.int=B at hz ⊢;generalize Y.map D.int=YD at cm hi;clear hl;walk_at "ev"
theorem qmi(S T:D)(n' N:Int)(hs:f_y9 [S,.int n']=some (.int N))(bg:big N=true):qe0 [some S,some (.int n'),some T,none,none,none]=some (q1f 0 N.toNat,[some S,some (.int n'),some T,none,none,none]):=by unfold qe0;walk_at "ev"
theorem qq5(S:D)(n':Int)(T P Z:List D)(hp:f_y10 [S,.int n']=some (.lst P))(hz:zipD P T=Z):(mZip (q01 w27 (q01 (mVar 2) mNil))) [some S,some (.int n'),some (.lst T),none,none,none]=some (Z,[some S,some (.int n'),some (.lst T),none,none,none]):=by walk_at "ev"
theorem qq6(S T u t o:D)(n':Int)(h:f_y19 [t]=some o):(q01 (q0k f_y19 (q01 (mVar 5) mNil)) mNil) [some S,some (.int n'),some T,none,some u,some t]=some ([o],[some S,some (.int n'),some T,none,some u,some t]):=by walk_at "ev"
theorem quq(ok:q2d r taps rows e)(n:Nat)(hn:n<=60)(h:e="ring"->r.toNat<=n)(ts:List Told)(hl:ts.length=(q0e taps rows (n+q08 r e)).length):
 f_y22 [schD r taps rows e,.int n,.lst (ts.map q0s)]=some (.lst ((List.range (n+q08 r e)).map λk=>D.lst ((chunk taps rows ts k).map objD))):=by
 have z4:=q2j ok;have hs:=qfw ok n h;have hp:=qc8 ok n hn h;have s4:∀k,(selK taps rows k).length<=4:=λk=>by unfold selK;refine jr (List.length_filter_le _ _) ?_;rw[xm];have:=ok.t4;have:=xi taps.length (rowAt rows k).length;omega
 have q1:(q0e taps rows (n+q08 r e)).length<=(n+q08 r e)*4:=q41 _ 4 (λk=>by rw[ji];exact s4 k) _;have bg:big ((n+q08 r e:Nat):Int)=true:=by unfold big;simp;omega
 have hi:=qmi (schD r taps rows e) (.lst (ts.map q0s)) n _ hs bg;rw[jo]at hi;have hz:zipD ((q0e taps rows (n+q08 r e)).map D.int) (ts.map q0s)=((q0e taps rows (n+q08 r e)).zip ts).map λq=>D.tup [.int q.1,q0s q.2]:=by rw[q5s,q4z,jk];rfl
 have hzz:=qq5 (schD r taps rows e) n (ts.map q0s) _ _ hp hz;obtain⟨u',v',hr⟩:=qby (i:=3) (a:=4) (b:=5) (fe:=mVar 4) (fs:=q01 (q0k f_y19 (q01 (mVar 5) mNil)) mNil) q0s objD (λu v=>[some (schD r taps rows e),some (.int n),some (.lst (ts.map q0s)),none,u,v]) (λ_ _=>rfl) (λ_ _ _ _=>rfl) (λ_ _=>rfl) (λk t=>qq6 _ _ _ _ _ _ (qiy t))
  ((q0e taps rows (n+q08 r e)).zip ts) (List.replicate (n+q08 r e) []) none none (λq hq=>by
    have hm:=(List.of_mem_zip hq).1;unfold q0e at hm;obtain⟨k,hk,hm⟩:=List.mem_flatMap.mp hm;rw[List.eq_of_mem_replicate hm,ji];exact⟨by omega,by rw[jo];exact List.mem_range.mp hk⟩) (λg hg=>by
    rw[List.eq_of_mem_replicate hg,xm];have:=xi (q0e taps rows (n+q08 r e)).length ts.length;exact jn (by simp;omega:_<1000) (by decide))
 rw[q9t (n+q08 r e) (by omega),List.map_replicate,jk]at hr;show qae (qab _)=_;have hD:qab [schD r taps rows e,.int n,.lst (ts.map q0s)]=some ((List.range (n+q08 r e)).map ((λg=>g.map objD)∘chunk taps rows ts)):=by
  unfold qab q8v;refine(if_pos rfl).trans ?_;show(match qe0 [some (schD r taps rows e),some (.int n),some (.lst (ts.map q0s)),none,none,none]with
   | some (xs,ρ1)=>if 3<ρ1.length/\xs.length<=sizeLine then(match qed (ρ1.set 3 none) (List.replicate xs.length [])with
    |some p=>some p.2
    |none=>none)else none
   |none=>none)=_
  rw[hi];simp only;rw[if_pos ⟨by simp,by rw[q1s];exact q1d (by omega)⟩,q1s];have hb:qed [some (schD r taps rows e),some (.int n),some (.lst (ts.map q0s)),none,none,none] (List.replicate (n+q08 r e) [])=some ([some (schD r taps rows e),some (.int n),some (.lst (ts.map q0s)),none,u',v'],(List.range (n+q08 r e)).map ((λg=>g.map objD)∘chunk taps rows ts)):=by unfold qed q8h;rw[hzz];exact(if_pos rfl).trans hr
  have es:([some (schD r taps rows e),some (.int n),some (.lst (ts.map q0s)),none,none,none]:Rho).set 3 none=[some (schD r taps rows e),some (.int n),some (.lst (ts.map q0s)),none,none,none]:=rfl;rw[es,hb]
 rw[hD];show some (D.lst _)=some (D.lst _);rw[jk];rfl
theorem qsc(S:D)(k' room bit nx c:Int)(G S2 P:List D)(two:2<=sizeLine)(h1:f_y3 [S,.int room,.int bit]=some (.tup [.int nx,.tup S2]))(h2:f_y4 [S,.int k',.tup S2]=some (.tup P))(h3:f_y21 [.lst G,.tup P]=some (.int c)):f_y23 [S,.int k',.lst G,.int room,.int bit]=some (.tup [.int nx,.int c]):=by unfold f_y23 qkl;walk_at "ev"
theorem qup(ok:q2d r taps rows e)(k:Nat)(ts:List Told)(hl:(chunk taps rows ts k).length<=1000)(room bit:Int)(a0:0<=room)(a1:room<2^r.toNat)(hb:bit=0∨bit=1):f_y23 [schD r taps rows e,.int k,.lst ((chunk taps rows ts k).map objD),.int room,.int bit]=some (mvD (mvK r taps rows ts k room bit)):=
 qsc _ _ _ _ _ _ _ _ _ (by decide) (p_y3 ok room bit a0 a1 hb) (qc7 ok k _ (by rw[j7];have:=ok.t4;omega)) (qix _ _ hl)
theorem qsf(S:D)(k' room:Int)(G BS YS:List D)(ll:BS.length<=sizeLine)(cm:q15 1 [0,1,2,3] none (gSet 0) (mRet true) (q0k f_y23 w0v) BS [some S,some (.int k'),some (.lst G),some (.int room),some (.tup BS)]=some (YS,[some S,some (.int k'),some (.lst G),some (.int room),some (.tup BS)])):f_y24 [S,.int k',.lst G,.int room,.tup BS]=some (.lst YS):=by unfold f_y24 qkk;walk_at "ev"
theorem qsg(S:D)(k' room b:Int)(G:List D)(y:D)(h:f_y23 [S,.int k',.lst G,.int room,.int b]=some y):((q0k f_y23 w0v) [some (.int b),some S,some (.int k'),some (.lst G),some (.int room)]).map (·.1)=some y:=by walk_at "ev"
theorem p_mf(ok:q2d r taps rows e)(k:Nat)(ts:List Told)(hl:(chunk taps rows ts k).length<=1000)(room:Int)(a0:0<=room)(a1:room<2^r.toNat)(n:Nat):f_y24 [schD r taps rows e,.int k,.lst ((chunk taps rows ts k).map objD),.int room,.tup ((q2e n k).map D.int)]=some (chD ((q2e n k).map λb=>mvK r taps rows ts k room b)):=by
 have l2:(q2e n k).length<=2:=by unfold q2e;split<;>simp
 have hb:∀b∈q2e n k,b=0∨b=1:=by unfold q2e;split<;>simp
 have cm:=q42 (n:=1) (js:=[0,1,2,3]) (fg:=gSet 0) (fe:=q0k f_y23 w0v)
  (ρ:=[some (schD r taps rows e),some (.int k),some (.lst ((chunk taps rows ts k).map objD)),some (.int room),some (.tup ((q2e n k).map D.int))]) (λd=>match d with|.int b=>mvD (mvK r taps rows ts k room b)|d=>d) ((q2e n k).map D.int) (λx hx=>by obtain⟨b,hm,rfl⟩:=List.mem_map.mp hx;exact⟨_,rfl,qsg _ _ _ _ _ _ (qup ok k ts hl room b a0 a1 (hb b hm))⟩)
 rw[jk]at cm;have:=qsf _ _ _ _ _ _ (q1d (by rw[j7];omega)) cm;rw[this];unfold chD;rw[jk];rfl
theorem qj3(S T:D)(n' k':Int)(F:List D)(g:D)(v6:Option D)(two:2<=sizeLine)(n k:Nat)(hn:n'=(n:Nat))(hk:k'=(k:Nat)):w3c [some S,some (.int n'),some T,some (.lst F),some (.int k'),some g,v6]=some (.nx [some S,some (.int n'),some T,some (.lst F),some (.int k'),some g,some (.tup ((q2e n k).map D.int))]):=by
 have one:1<=sizeLine:=by decide
 unfold q2e;by_cases h:k<n
 ·have h':k'<n':=by omega
  rw[if_pos h];show _=some (Out.nx [_,_,_,_,_,_,some (.tup [.int 0,.int 1])]);clear hn hk h;walk_at "ev"
 ·have h':¬k'<n':=by omega
  rw[if_neg h];show _=some (Out.nx [_,_,_,_,_,_,some (.tup [.int 0])]);clear hn hk h;walk_at "ev"
theorem qn6(S T:D)(n' k' M:Int)(F YS:List D)(g bs:D)(FE:RhD)(hr:f_y1 [S]=some (.int M))(bg:big M=true)(l1:(q1f 0 M.toNat).length<=sizeLine)(l2:F.length<sizeLine)
 (cm:q15 1 [0,4,5,6] none (gSet 0) (mRet true) FE (q1f 0 M.toNat) [some S,some (.int n'),some T,some (.lst F),some (.int k'),some g,some bs]=some (YS,[some S,some (.int n'),some T,some (.lst F),some (.int k'),some g,some bs])):
 (sMut q2c 3 (q01 (mOf (q1t 1 [0,4,5,6] none w1a (gSet 0) (mRet true) FE)) mNil)) [some S,some (.int n'),some T,some (.lst F),some (.int k'),some g,some bs]=some (.nx [some S,some (.int n'),some T,some (.lst (F++[.lst YS])),some (.int k'),some g,some bs]):=by
 walk_at "ev"
theorem qn5(S:D)(k' room:Int)(g bs y:D)(h:f_y24 [S,.int k',g,.int room,bs]=some y):((q0k f_y24 w0w) [some (.int room),some S,some (.int k'),some g,some bs]).map (·.1)=some y:=by walk_at "ev"
theorem qn4(S:D)(n':Int)(T G F:List D)(v4 v5 v6:Option D)(FB:RhO)(z0:0<=sizeLine)(hc:f_y20 [S,.int n',.lst T]=some .non)(hg:f_y22 [S,.int n',.lst T]=some (.lst G))
 (l1:q23 (q2i 2 (q0w (gSet 4) (q0w (gSet 5) q2o))) FB (q6g G) [some S,some (.int n'),some (.lst T),some (.lst []),none,none,none]=some (.nx [some S,some (.int n'),some (.lst T),some (.lst F),v4,v5,v6])):
 (runP false 3 7 (sSeq (qaw (q0k f_y20 w0c)) (sSeq (sOwn 3 (mLst mNil)) (sSeq (sFor (qba (q0k f_y22 w0c)) (q2i 2 (q0w (gSet 4) (q0w (gSet 5) q2o))) FB) (sRet (mVar 3)))))) [S,.int n',.lst T]=some (.lst F):=by
 walk_at "ev"
theorem qqp(ok:q2d r taps rows e)(n:Nat)(hn:n<=60)(h:e="ring"->r.toNat<=n)(ts:List Told)(hl:ts.length=(q0e taps rows (n+q08 r e)).length):
 f_y25 [schD r taps rows e,.int n,.lst (ts.map q0s)]=some (stD (q18 r taps rows ts n 0 (n+q08 r e))):=by
 have z4:=q2j ok;have p16:=q3c ok.r0 ok.r4;have hc:=qiz ok n hn h (ts.map q0s) (by rw[j7];exact hl);have hg:=quq ok n hn h ts hl;have hr:=p_y1 ok;have pn:=q29 (r:=r);have s4:∀k,(selK taps rows k).length<=4:=λk=>by unfold selK;refine jr (List.length_filter_le _ _) ?_;rw[xm];have:=ok.t4;have:=xi taps.length (rowAt rows k).length;omega
 have c4:∀k,(chunk taps rows ts k).length<=1000:=λk=>by unfold chunk;rw[xh];have:=s4 k;omega
 have bg:big ((2:Int)^r.toNat)=true:=by unfold big;simp;omega
 have tn:((2:Int)^r.toNat).toNat=2^r.toNat:=by omega
 have lr:(q1f 0 ((2:Int)^r.toNat).toNat).length<=sizeLine:=by rw[q1s,tn];exact q1d (by omega)
 obtain⟨ρ',l1,v4,v5,v6,hρ⟩:=q2r (fg:=q2i 2 (q0w (gSet 4) (q0w (gSet 5) q2o))) (fb:=w1p)
  (λk ρ=>∃v4 v5 v6,ρ=[some (schD r taps rows e),some (.int (n:Int)),some (.lst (ts.map q0s)),some (.lst ((q18 r taps rows ts n 0 k).map sxD)),v4,v5,v6]) (q6g ((List.range (n+q08 r e)).map λk=>D.lst ((chunk taps rows ts k).map objD))) 0
  [some (schD r taps rows e),some (.int (n:Int)),some (.lst (ts.map q0s)),some (.lst []),none,none,none] ⟨none,none,none,rfl⟩ (λi x ρ hx ⟨v4,v5,v6,hρ⟩=>by
   subst hρ;rw[q7w,jc]at hx;have hi:i<n+q08 r e:=by
    rcases Nat.lt_or_ge i (n+q08 r e)with z|z
    ·exact z
    ·rw[xn (by simp;omega)]at hx;cases hx
   rw[xq hi]at hx;have hx:x=D.tup [.int (i:Int),.lst ((chunk taps rows ts i).map objD)]:=(je hx).symm;subst hx;rw[jz];have cm:=q42 (n:=1) (js:=[0,4,5,6]) (fg:=gSet 0) (fe:=q0k f_y24 w0w)
    (ρ:=[some (schD r taps rows e),some (.int (n:Int)),some (.lst (ts.map q0s)),some (.lst ((q18 r taps rows ts n 0 i).map sxD)),some (.int (i:Int)),some (.lst ((chunk taps rows ts i).map objD)),some (.tup ((q2e n i).map D.int))])
    (λd=>match d with|.int room=>chD ((q2e n i).map λb=>mvK r taps rows ts i room b)|d=>d) (q1f 0 ((2:Int)^r.toNat).toNat) (λx hx=>by obtain⟨k,hk⟩:=List.mem_iff_getElem?.mp hx;obtain⟨hk1,rfl⟩:=q1z hk;rw[Int.zero_add];exact⟨_,rfl,qn5 _ _ _ _ _ _ (p_mf ok i ts (c4 i) (k:Int) (by omega) (by omega) n)⟩)
   have ey:(q1f 0 ((2:Int)^r.toNat).toNat).map (λd=>match d with|.int room=>chD ((q2e n i).map λb=>mvK r taps rows ts i room b)|d=>d)=(stepK r taps rows ts n i).map chD:=by unfold q1f L2.stepK;rw[tn,jk,jk];refine List.map_congr_left λk _=>?_;simp
   rw[ey]at cm;have es:q18 r taps rows ts n 0 (i+1)=q18 r taps rows ts n 0 i++[stepK r taps rows ts n i]:=by unfold q18;rw[List.range'_concat,x8];simp
   have lf:((q18 r taps rows ts n 0 i).map sxD).length<sizeLine:=by unfold q18;rw[j7,j7,List.length_range'];exact jn (by omega:i<1000) (by decide)
   refine⟨_,[some (schD r taps rows e),some (.int (n:Int)),some (.lst (ts.map q0s)),some (.lst ((q18 r taps rows ts n 0 (i+1)).map sxD)),some (.int (i:Int)),some (.lst ((chunk taps rows ts i).map objD)),some (.tup ((q2e n i).map D.int))],rfl,.inl ?_,_,_,_,rfl⟩;refine(q1x (qj3 _ _ _ _ _ _ _ (by decide) n i rfl rfl)).trans ?_;rw[es,x8];exact qn6 _ _ _ _ _ _ _ _ _ _ hr bg lr lf cm)
 subst hρ;have le:(q6g ((List.range (n+q08 r e)).map λk=>D.lst ((chunk taps rows ts k).map objD))).length=n+q08 r e:=by unfold q6g;simp
 rw[le,jz]at l1;unfold f_y25 qkj stD;exact qn4 _ _ _ _ _ _ _ _ _ (by decide) hc hg l1
end
theorem qog(a c x:Int)(B:List D)(h:atI B a=some (.int x)):f_y27 [.tup [.int a,.int c],.lst B]=some (.int (c+x)):=by unfold f_y27 qhq;walk_at "ev"
theorem qoh(a c:Int)(B:List D)(h:atI B a=some .non):f_y27 [.tup [.int a,.int c],.lst B]=some .non:=by unfold f_y27 qhq;walk_at "ev"
theorem q4y{t:Rw}{a:Int}(h0:0<=a)(h1:a.toNat<t.length):atI (t.map optI) a=some (optI (atR t a)):=by rw[q37 h0 (by rw[j7];omega),jc];unfold atR;rw[jd h1];rfl
theorem qc9(q:Mv)(t:Rw)(h0:0<=q.1)(h1:q.1.toNat<t.length):f_y27 [mvD q,rwD t]=some (optI (q1k q t)):=by
 have h:=q4y h0 h1;unfold q1k;cases e:atR t q.1 with
 | none=>
  rw[e]at h;exact qoh _ _ _ h
 | some x=>
  rw[e]at h;exact qog _ _ _ _ h
theorem qsl(q za y:D)(h:f_y27 [q,za]=some y):((q0k f_y27 (q01 (mVar 0) (q01 (mVar 1) mNil))) [some q,some za]).map (·.1)=some y:=by walk_at "ev"
theorem qsk(CH YS ZS:List D)(za m:D)(l1:CH.length<=sizeLine)(l2:YS.length<=sizeLine)(cm:q15 1 [1] none (gSet 0) (mRet true) (q0k f_y27 (q01 (mVar 0) (q01 (mVar 1) mNil))) CH [some (.lst CH),some za,none]=some (YS,[some (.lst CH),some za,none]))
 (cf:q15 1 [] none (gSet 0) (q0g (mOp2 q56 (mVar 0) (mRet .non))) (mVar 0) YS [some (.lst CH),some za,some (.lst YS)]=some (ZS,[some (.lst CH),some za,some (.lst YS)])) (hm:q7y (.lst ZS)=some m):f_y28 [.lst CH,za]=some m:=by
 unfold f_y28 qkh;generalize hd:q7y=dm at hm ⊢;walk_at "ev"
theorem q6x:∀ys:List (Option Int),((ys.map optI).filter λd=>match d with|.non=>false|_=>true)=(ys.filterMap id).map D.int
 |[]=>rfl
 | none::ys=>by rw[ju,List.filter_cons];exact q6x ys
 | some x::ys=>by rw[ju,List.filter_cons];show D.int x::_=D.int x::_;rw[q6x ys]
theorem q9y(ch:List Mv)(t:Rw)(hl:ch.length<=1000)(h:∀q∈ch,0<=q.1/\q.1.toNat<t.length):f_y28 [chD ch,rwD t]=some (optI (q28 ch t)):=by
 have cm:=q42 (n:=1) (js:=[1]) (fg:=gSet 0) (fe:=q0k f_y27 (q01 (mVar 0) (q01 (mVar 1) mNil))) (ρ:=[some (chD ch),some (rwD t),none])
  (λd=>match d with|.tup [.int a,.int c]=>optI (q1k (a,c) t)|d=>d) (ch.map mvD) (λx hx=>by obtain⟨q,hq,rfl⟩:=List.mem_map.mp hx;exact⟨_,rfl,qsl _ _ _ (qc9 q t (h q hq).1 (h q hq).2)⟩)
 have e1:(ch.map mvD).map (λd=>match d with|.tup [.int a,.int c]=>optI (q1k (a,c) t)|d=>d)=(ch.map λq=>q1k q t).map optI:=by rw[jk,jk];rfl
 rw[e1]at cm;have cf:=q4c (n:=1) (js:=[]) (fg:=gSet 0) (ft:=q0g (mOp2 q56 (mVar 0) (mRet .non))) (fe:=mVar 0) (ρ:=[some (chD ch),some (rwD t),some (.lst ((ch.map λq=>q1k q t).map optI))])
  (λd=>match d with|.non=>false|_=>true) (λd=>d) ((ch.map λq=>q1k q t).map optI) (λx hx=>by
    obtain⟨o,_,rfl⟩:=List.mem_map.mp hx;refine⟨[some (optI o)],rfl,?_,λ_=>rfl⟩;cases o with
    |none=>rfl
    |some y=>rfl)
 have e2:∀zs:List D,zs.map (λd=>d)=zs:=λzs=>by simp
 rw[q6x,e2]at cf;refine qsk _ _ _ _ _ (q1d (by rw[j7];omega)) (q1d (by rw[j7,j7];omega)) cm cf ?_;show(q3t _).map (λns=>optI (minI ns))=_;rw[q35];rfl
theorem qlw{ch:List Mv}{hh:Rw}{y:D}(h:f_y28 [chD ch,rwD hh]=some y):(match chD ch with|.lst xs=>(match f_y28 [.lst xs,rwD hh]with|some y=>y|none=>.non)|d=>d)=y:=by unfold chD at h ⊢;dsimp only;rw[h]
theorem qu3(ch za y:D)(h:f_y28 [ch,za]=some y):((q0k f_y28 (q01 (mVar 0) (q01 (mVar 1) mNil))) [some ch,some za]).map (·.1)=some y:=by walk_at "ev"
theorem qov(ST EN x:D)(TB:List D)(v4:Option D)(b:D)(h:atI TB (-1)=some b):w42 [some ST,some EN,some (.lst TB),some x,v4]=some (.nx [some ST,some EN,some (.lst TB),some x,some b]):=by walk_at "ev"
theorem qu4(ST EN b:D)(TB CH YS:List D)(FE:RhD)(l1:CH.length<=sizeLine)(l2:TB.length<sizeLine)(cm:q15 1 [4] none (gSet 0) (mRet true) FE CH [some ST,some EN,some (.lst TB),some (.lst CH),some b]=some (YS,[some ST,some EN,some (.lst TB),some (.lst CH),some b])):
 (sMut q2c 2 (q01 (mOf (q1t 1 [4] none (mSeq (mVar 3)) (gSet 0) (mRet true) FE)) mNil)) [some ST,some EN,some (.lst TB),some (.lst CH),some b]=some (.nx [some ST,some EN,some (.lst (TB++[.lst YS])),some (.lst CH),some b]):=by
 walk_at "ev"
theorem qu2(SS TB:List D)(EN:D)(v3 v4:Option D)(FB:RhO)(one:1<=sizeLine)(l1:q23 (gSet 3) FB SS.reverse [some (.lst SS),some EN,some (.lst [EN]),none,none]=some (.nx [some (.lst SS),some EN,some (.lst TB),v3,v4])):
 (runP false 2 5 (sSeq (sOwn 2 (mLst (q01 (mVar 1) mNil))) (sSeq (sFor (mRev (mVar 0)) (gSet 3) FB) (sRet (mOf (mRev (mVar 2))))))) [.lst SS,EN]=some (.lst TB.reverse):=by
 walk_at "ev"
theorem q6w{z6:List Sx}{z9:Rw}{M:Nat}(he:z9.length=M)(hs:∀st∈z6,st.length=M):((q0i z6 z9).headD []).length=M:=by
 cases z6 with
 |nil=>exact he
 | cons st rest=>
  show(st.map _).length=M;rw[j7];exact hs st jg
theorem q9z(z6:List Sx)(z9:Rw)(M:Nat)(hM:M<=1000)(hN:z6.length<=1000)(he:z9.length=M)(hs:∀st∈z6,st.length=M/\∀ch∈st,ch.length<=2/\∀q∈ch,0<=q.1/\q.1.toNat<M):
 f_y29 [stD z6,rwD z9]=some (tbD (q0i z6 z9)):=by
 obtain⟨ρ',l1,v3,v4,hρ⟩:=q2r (fg:=gSet 3) (fb:=w18)
  (λk ρ=>∃v3 v4,ρ=[some (stD z6),some (rwD z9),some (.lst ((q0i (z6.drop (z6.length-k)) z9).reverse.map rwD)),v3,v4]) (z6.map sxD).reverse 0
  [some (stD z6),some (rwD z9),some (.lst [rwD z9]),none,none] ⟨none,none,by rw[Nat.sub_zero,List.drop_length];rfl⟩ (λi x ρ hx ⟨v3,v4,hρ⟩=>by
   subst hρ;rw[jz];have hi:i<z6.length:=by have:=(List.getElem?_eq_some_iff.mp hx).1;simpa using this
   have hlt:z6.length-1-i<z6.length:=by omega
   rw[List.getElem?_reverse (by rw[j7];exact hi),j7,jc,jd hlt]at hx;have hx:x=sxD z6[z6.length-1-i]:=(je hx).symm;subst hx;have hst:=hs _ (xc hlt);have ed:z6.drop (z6.length-(i+1))=z6[z6.length-1-i]::z6.drop (z6.length-i):=by rw[show z6.length-(i+1)=z6.length-1-i from by omega,xl hlt];congr 2;omega
   generalize z6[z6.length-1-i]=st at hst ed ⊢;rw[ed];have hd:((q0i (z6.drop (z6.length-i)) z9).headD []).length=M:=q6w he λz hz=>(hs z (List.mem_of_mem_drop hz)).1;have hla:=q53 (z6.drop (z6.length-i)) z9;have hlast:atI ((q0i (z6.drop (z6.length-i)) z9).reverse.map rwD) (-1)=some (rwD ((q0i (z6.drop (z6.length-i)) z9).headD [])):=by
    generalize q0i (z6.drop (z6.length-i)) z9=tt at hla ⊢;cases tt with
    |nil=>simp at hla
    | cons a b=>
     rw[List.reverse_cons,x8];exact qhr _ _
   have eA:q0i (st::z6.drop (z6.length-i)) z9=(st.map λch=>q28 ch ((q0i (z6.drop (z6.length-i)) z9).headD []))::q0i (z6.drop (z6.length-i)) z9:=rfl;rw[eA];generalize (q0i (z6.drop (z6.length-i)) z9).headD []=hh at hd hlast ⊢;generalize q0i (z6.drop (z6.length-i)) z9=tt at hla hlast ⊢;have cm:=q42 (n:=1) (js:=[4]) (fg:=gSet 0) (fe:=q0k f_y28 (q01 (mVar 0) (q01 (mVar 1) mNil))) (ρ:=[some (stD z6),some (rwD z9),some (.lst (tt.reverse.map rwD)),some (sxD st),some (rwD hh)])
    (λd=>match d with|.lst xs=>(match f_y28 [.lst xs,rwD hh]with|some y=>y|none=>.non)|d=>d) (st.map chD) (λx hx=>by obtain⟨ch,hc,rfl⟩:=List.mem_map.mp hx;have hp:=q9y ch hh (by have:=(hst.2 ch hc).1;omega) (λq hq=>by rw[hd];exact(hst.2 ch hc).2 q hq);refine⟨_,rfl,?_⟩;rw[qlw hp];exact qu3 _ _ _ hp)
   have ey:(st.map chD).map (λd=>match d with|.lst xs=>(match f_y28 [.lst xs,rwD hh]with|some y=>y|none=>.non)|d=>d)=(st.map λch=>q28 ch hh).map optI:=by rw[jk,jk];refine List.map_congr_left λch hc=>?_;exact qlw (q9y ch hh (by have:=(hst.2 ch hc).1;omega) (λq hq=>by rw[hd];exact(hst.2 ch hc).2 q hq))
   rw[ey]at cm;have lt:(tt.reverse.map rwD).length<sizeLine:=by rw[j7,List.length_reverse,hla,xp];exact jn (by omega:_<2000) (by decide)
   refine⟨_,[some (stD z6),some (rwD z9),some (.lst (((st.map λch=>q28 ch hh)::tt).reverse.map rwD)),some (sxD st),some (rwD hh)],rfl,.inl ?_,_,_,rfl⟩;refine(q1x (qov _ _ _ _ _ _ hlast)).trans ?_;rw[List.reverse_cons,x8];exact qu4 _ _ _ _ _ _ _ (q1d (by rw[j7];omega)) lt cm)
 subst hρ;rw[List.length_reverse,j7,jz,Nat.sub_self,List.drop_zero]at l1;unfold f_y29 qkg;refine(qu2 (z6.map sxD) _ _ _ _ _ (by decide) l1).trans ?_;unfold tbD;rw[<-List.map_reverse,List.reverse_reverse]
section
variable{r:Int}{taps:List Int}{rows:List (List Int)}{e:Str}
theorem o_oo:eqD (.str "open") (.str "open")=some true:=by rw[q36 (by decide+kernel) (by decide+kernel)];decide+kernel
theorem o_eo:eqD (.str "ended") (.str "open")=some false:=by rw[q36 (by decide+kernel) (by decide+kernel)];decide+kernel
theorem o_ro:eqD (.str "ring") (.str "open")=some false:=by rw[q36 (by decide+kernel) (by decide+kernel)];decide+kernel
theorem qoa(R TS RS:D)(s M:Int)(Y:List D)(h:eqD (.str e) (.str "open")=some true)(hr:f_y1 [.tup [R,TS,RS,.str e]]=some (.int M))(hy:repO [.int 0] (.int M)=some Y)(one:1<=sizeLine):f_y26 [.tup [R,TS,RS,.str e],.int s]=some (.lst Y):=by
 unfold f_y26 qki;have hrep:(mRep (mLst (q01 (mRet (.int 0)) mNil)) (q0k f_y1 (q01 (mVar 0) mNil))) [some (.tup [R,TS,RS,.str e]),some (.int s),none]=some (Y,[some (.tup [R,TS,RS,.str e]),some (.int s),none]):=by
  refine qfi (xs:=[.int 0]) (y:=.int M) (ρ1:=[some (.tup [R,TS,RS,.str e]),some (.int s),none]) ?_ ?_ hy
  ·clear hy h hr;walk_at "ev"
  ·clear hy h;walk_at "ev"
 generalize (mRep (mLst (q01 (mRet (.int 0)) mNil)) (q0k f_y1 (q01 (mVar 0) mNil)))=FR at hrep ⊢;clear hy hr;walk_at "ev"
theorem qtq(room en:Int):(w14 [some (.int room),some (.int en)]).map (·.1)=some (optI (if room=en then some 0 else none)):=by
 by_cases h:room=en
 ·subst h;rw[if_pos rfl];walk_at "ev"
 ·have h':(room==en)=false:=beq_eq_false_iff_ne.mpr h;rw[if_neg h];walk_at "ev"
theorem ec_0(R TS RS:D)(s:Int)(FR:RhO)(h:eqD (.str e) (.str "open")=some false):(sIf w0a FR sNil) [some (.tup [R,TS,RS,.str e]),some (.int s),none]=some (.nx [some (.tup [R,TS,RS,.str e]),some (.int s),none]):=by walk_at "ev"
theorem ec_1(S:D)(s en:Int)(b:Bool)(hb:f_y5 [S]=some (.bl b))(hen:en=(if b=true then s else 0)):w2y [some S,some (.int s),none]=some (.nx [some S,some (.int s),some (.int en)]):=by
 cases b with
 | true=>
  have hen:en=s:=hen;rw[hen];clear hen;walk_at "ev"
 | false=>
  have hen:en=0:=hen;rw[hen];clear hen;walk_at "ev"
theorem ec_2(S:D)(s M en:Int)(Y:List D)(FE:RhD)(hr:f_y1 [S]=some (.int M))(bg:big M=true)(l1:(q1f 0 M.toNat).length<=sizeLine)(cm:q15 1 [2] none (gSet 0) (mRet true) FE (q1f 0 M.toNat) [some S,some (.int s),some (.int en)]=some (Y,[some S,some (.int s),some (.int en)])):
 (sRet (mOf (q1t 1 [2] none w1a (gSet 0) (mRet true) FE))) [some S,some (.int s),some (.int en)]=some (.rt (.lst Y) [some S,some (.int s),some (.int en)]):=by
 walk_at "ev"
theorem qjv(R TS RS:D)(s M en:Int)(b:Bool)(Y:List D)(h:eqD (.str e) (.str "open")=some false)(hb:f_y5 [.tup [R,TS,RS,.str e]]=some (.bl b))(hen:en=(if b=true then s else 0))(hr:f_y1 [.tup [R,TS,RS,.str e]]=some (.int M))(bg:big M=true)(l1:(q1f 0 M.toNat).length<=sizeLine)
 (cm:q15 1 [2] none (gSet 0) (mRet true) w14 (q1f 0 M.toNat) [some (.tup [R,TS,RS,.str e]),some (.int s),some (.int en)]=some (Y,[some (.tup [R,TS,RS,.str e]),some (.int s),some (.int en)])):
 f_y26 [.tup [R,TS,RS,.str e],.int s]=some (.lst Y):=by
 refine qbx rfl ⟨[some (.tup [R,TS,RS,.str e]),some (.int s),some (.int en)],?_⟩;refine(q1x (ec_0 _ _ _ _ _ h)).trans ?_;exact(q1x (ec_1 _ _ _ _ hb hen)).trans (ec_2 _ _ _ _ _ _ hr bg l1 cm)
theorem ql7(ok:q2d r taps rows e)(s:Int):f_y26 [schD r taps rows e,.int s]=some (rwD (q33 r e s)):=by
 have p16:=q3c ok.r0 ok.r4;have pn:=q29 (r:=r);have hr:=p_y1 ok;have hb:=qfx ok;have tn:((2:Int)^r.toNat).toNat=2^r.toNat:=by omega
 unfold rwD q33;rw[jk];by_cases q:e="open"
 ·subst q;have hy:repO [D.int 0] (.int (2^r.toNat))=some (List.replicate (2^r.toNat) (.int 0)):=by rw[qax _ (by omega) (by omega),tn]
  have h1:f_y26 [schD r taps rows "open",.int s]=some (.lst (List.replicate (2^r.toNat) (.int 0))):=qoa (e:="open") (.int r) (.tup (taps.map D.int)) (.tup (rows.map rowD)) s (2^r.toNat) _ o_oo hr hy (by decide);rw[h1];refine congrArg (λx=>some (D.lst x)) ?_;apply List.ext_getElem?;intro i;by_cases h:i<2^r.toNat
  ·rw[jc,xq h,k6,if_pos h];simp[optI]
  ·rw[xn (by simp;omega),xn (by simp;omega)]
 ·have ho:eqD (.str e) (.str "open")=some false:=by
   rcases ok.en with h|h|h
   ·exact absurd h q
   ·rw[h];exact o_eo
   ·rw[h];exact o_ro
  have bg:big ((2:Int)^r.toNat)=true:=by unfold big;simp;omega
  have cm:=q42 (n:=1) (js:=[2]) (fg:=gSet 0) (fe:=w14) (ρ:=[some (schD r taps rows e),some (.int s),some (.int (if isRing e=true then s else 0))]) (λd=>match d with|.int room=>optI (if room=(if isRing e=true then s else 0)then some 0 else none)|d=>d) (q1f 0 ((2:Int)^r.toNat).toNat) (λx hx=>by obtain⟨k,hk⟩:=List.mem_iff_getElem?.mp hx;obtain⟨hk1,rfl⟩:=q1z hk;exact⟨_,rfl,qtq _ _⟩)
  have h1:=qjv (e:=e) (.int r) (.tup (taps.map D.int)) (.tup (rows.map rowD)) s (2^r.toNat) _ (isRing e) _ ho hb rfl hr bg (by rw[q1s,tn];exact q1d (by omega)) cm;refine(show f_y26 [schD r taps rows e,.int s]=_ from h1).trans ?_;refine congrArg (λx=>some (D.lst x)) ?_;unfold q1f;rw[tn,jk];refine List.map_congr_left λk _=>?_;refine congrArg optI ?_;have e1:(if isRing e=true then s else 0)=(if e="ring" then s else 0):=by
   unfold isRing;by_cases z:e="ring"
   ·simp[z]
   ·simp[z]
  rw[e1,Int.zero_add];show(if((k:Nat):Int)=(if e="ring" then s else 0)then some 0 else none)=if e="open"∨((k:Nat):Int)=(if e="ring" then s else 0)then some 0 else none
  generalize (if e="ring" then s else 0)=E;by_cases z:((k:Nat):Int)=E
  ·rw[if_pos z,if_pos (Or.inr z)]
  ·rw[if_neg z,if_neg (λh=>Or.elim h (λh=>q h) λh=>z h)]
theorem qnn(S:D)(M:Int)(Y:List D)(hb:f_y5 [S]=some (.bl true))(hr:f_y1 [S]=some (.int M))(hy:upsO (.int M)=some Y):f_y8 [S]=some (.lst Y):=by unfold f_y8 b_y8;generalize hu:upsO=uo at hy ⊢;clear hu;walk_at "ev"
theorem qjm(S:D)(one:1<=sizeLine)(hb:f_y5 [S]=some (.bl false)):f_y8 [S]=some (.lst [.int 0]):=by unfold f_y8 b_y8;walk_at "ev"
theorem qiw(ok:q2d r taps rows e):f_y8 [schD r taps rows e]=some (.lst ((q1g r e).map D.int)):=by
 have p16:=q3c ok.r0 ok.r4;have pn:=q29 (r:=r);have hr:=p_y1 ok;have hb:=qfx ok;have tn:((2:Int)^r.toNat).toNat=2^r.toNat:=by omega
 unfold q1g;by_cases q:e="ring"
 ·rw[if_pos q];have h1:isRing e=true:=by unfold isRing;simp[q]
  rw[h1]at hb;refine qnn _ _ _ hb hr ?_;show(if(0:Int)<=2^r.toNat/\(2:Int)^r.toNat<=1000000 then some ((ups (2^r.toNat)).map D.int)else none)=_;rw[if_pos ⟨by omega,by omega⟩];unfold ups;rw[tn]
 ·rw[if_neg q];have h1:isRing e=false:=by unfold isRing;simp[q]
  rw[h1]at hb;exact qjm _ (by decide) hb
theorem qmb(S ST EN TB:D)(s:Int)(gs gs':List (Key×D))(he:f_y26 [S,.int s]=some EN)(ha:f_y29 [ST,EN]=some TB)(hp:qdm gs s TB=some gs'):w13 [some S,some ST,some (.dct gs),some (.int s)]=some (.nx [some S,some ST,some (.dct gs'),some (.int s)]):=by
 refine qnw (ρ1:=[some S,some ST,some (.dct gs),some (.int s)]) (ρ2:=[some S,some ST,some (.dct gs),some (.int s)]) (d:=TB) ?_ ?_ rfl hp
 ·clear hp;walk_at "ev"
 ·rfl
theorem qp4(S ST:D)(SS:List D)(gs:List (Key×D))(v3:Option D)(FB:RhO)(hs:f_y8 [S]=some (.lst SS))(l1:q23 (gSet 3) FB SS [some S,some ST,some (.dct []),none]=some (.nx [some S,some ST,some (.dct gs),v3])):
 (runP false 2 4 (sSeq (qav 2) (sSeq (sFor w47 (gSet 3) FB) (sRet (mVar 2))))) [S,ST]=some (.dct gs):=by
 have h1:qav 2 [some S,some ST,none,none]=some (.nx [some S,some ST,some (.dct []),none]):=qny (by simp);walk_at "ev"
theorem q9j:(q1g r e).Nodup:=by
 unfold q1g;by_cases q:e="ring"
 ·rw[if_pos q];rw[List.Nodup,List.pairwise_map];exact List.nodup_range.imp λh z=>h (by omega)
 ·rw[if_neg q];simp
theorem qiv(ok:q2d r taps rows e)(ts:List Told)(n:Nat)(hn:n<=60):f_y31 [schD r taps rows e,stD (q18 r taps rows ts n 0 (n+q08 r e))]=some (.dct ((q1g r e).map λs=>(Sum.inl s,tbD (q0z r taps rows e ts n s)))):=by
 have p16:=q3c ok.r0 ok.r4;have pn:=q29 (r:=r);have z4:=q2j ok;have hs:=qiw ok;have ls:(q1g r e).length<=16:=by
  unfold q1g;split
  ·simp;omega
  ·simp
 have hst:∀st∈q18 r taps rows ts n 0 (n+q08 r e),st.length=2^r.toNat/\∀ch∈st,ch.length<=2/\∀q∈ch,0<=q.1/\q.1.toNat<2^r.toNat:=λst h=>by
  have:∀(len k:Nat) (st:Sx),st∈q18 r taps rows ts n k len->st.length=2^r.toNat/\∀ch∈st,ch.length<=2/\∀q∈ch,0<=q.1/\q.1.toNat<2^r.toNat:=by
   intro len;induction len with
   |zero=>intro k st h;cases h
   | succ len ih=>
    intro k st h;have ok1:=q4p (r:=r) (taps:=taps) (rows:=rows) (ts:=ts) (n:=n) (len+1) k;rw[q4d]at h ok1;rcases List.mem_cons.mp h with h|h
    ·subst h;refine⟨ok1.1,λch hc=>⟨?_,(ok1.2.1 ch hc).2⟩⟩;rw[(ok1.2.1 ch hc).1];split<;>omega
    ·exact ih _ _ h
  exact this _ _ _ h
 have lst':(q18 r taps rows ts n 0 (n+q08 r e)).length<=1000:=by unfold q18;rw[j7,List.length_range'];omega
 obtain⟨ρ',l1,v3,hρ⟩:=q2r (fg:=gSet 3) (fb:=w13)
  (λk ρ=>∃v3,ρ=[some (schD r taps rows e),some (stD (q18 r taps rows ts n 0 (n+q08 r e))),some (.dct (((q1g r e).take k).map λs=>(Sum.inl s,tbD (q0z r taps rows e ts n s)))),v3]) ((q1g r e).map D.int) 0
  [some (schD r taps rows e),some (stD (q18 r taps rows ts n 0 (n+q08 r e))),some (.dct []),none] ⟨none,rfl⟩ (λi x ρ hx ⟨v3,hρ⟩=>by
   subst hρ;rw[jz];rw[jc]at hx;cases hs1:(q1g r e)[i]? with
   |none=>rw[hs1]at hx;cases hx
   | some s=>
    rw[hs1]at hx;cases hx;have hb:=ql7 ok s;have ha:=q9z (q18 r taps rows ts n 0 (n+q08 r e)) (q33 r e s) (2^r.toNat) (by omega) lst' (by unfold q33;simp) hst;refine⟨_,[some (schD r taps rows e),some (stD (q18 r taps rows ts n 0 (n+q08 r e))),some (.dct (((q1g r e).take (i+1)).map λs=>(Sum.inl s,tbD (q0z r taps rows e ts n s)))),some (.int s)],rfl,.inl (qmb _ _ _ _ _ _ _ hb ha ?_),_,rfl⟩;unfold qdm;rw[if_pos]
    ·rw[take_snoc hs1,x8];rfl
    ·refine⟨?_,?_⟩
     ·rw[j7,xh];exact jn (by omega:_<1000) (by decide)
     ·rw[List.all_eq_true];intro g hg;obtain⟨t,ht,rfl⟩:=List.mem_map.mp hg;have:t≠s:=λz=>by
       subst z;obtain⟨j,hj⟩:=List.mem_iff_getElem?.mp ht;have hj1:j<i:=by have:=(List.getElem?_eq_some_iff.mp hj).1;rw[xh]at this;omega
       rw[List.getElem?_take_of_lt hj1]at hj;have hi:=(List.getElem?_eq_some_iff.mp hs1).1;have hjl:=(List.getElem?_eq_some_iff.mp hj).1;have e1:=(List.getElem?_eq_some_iff.mp hj).2;have e2:=(List.getElem?_eq_some_iff.mp hs1).2;exact List.pairwise_iff_getElem.mp q9j j i hjl hi hj1 (e1.trans e2.symm)
      simp[this])
 subst hρ;rw[j7,jz,List.take_length]at l1;unfold f_y31 qke;exact qp4 _ _ _ _ _ _ hs l1
end
theorem nf_7(s0 n' k' room:Int)(ST TB WD SR CH:List D)(v7 v8:Option D)(a1:atI ST k'=some (.lst SR))(a2:atI SR room=some (.lst CH)):w3k [some (.int s0),some (.lst ST),some (.lst TB),some (.int n'),some (.lst WD),some (.int room),some (.int k'),v7,v8]=some (.nx [some (.int s0),some (.lst ST),some (.lst TB),some (.int n'),some (.lst WD),some (.int room),some (.int k'),some (.lst CH),v8]):=by walk_at "ev"
theorem nf_8(s0 n' k' room bit:Int)(ST TB WD CH T0:List D)(q0 t1 x y:D)(b:Bool)(v8:Option D)(a3:atI CH 0=some q0)(a4:atI TB (k'+1)=some t1)(hc:f_y27 [q0,t1]=some x)(a5:atI TB k'=some (.lst T0))(a6:atI T0 room=some y)(he:eqD x y=some b)(hb:bit=if b=true then 0 else 1):
 w0b [some (.int s0),some (.lst ST),some (.lst TB),some (.int n'),some (.lst WD),some (.int room),some (.int k'),some (.lst CH),v8]=some (.nx [some (.int s0),some (.lst ST),some (.lst TB),some (.int n'),some (.lst WD),some (.int room),some (.int k'),some (.lst CH),some (.int bit)]):=by
 cases b with
 | true=>
  have hb:bit=0:=hb;rw[hb];clear hb;walk_at "ev"
 | false=>
  have hb:bit=1:=hb;rw[hb];clear hb;walk_at "ev"
theorem nf_4(s0 n' k' room bit:Int)(ST TB WD CH:List D)(l:WD.length<sizeLine):(sMut q2c 4 (q01 (mVar 8) mNil)) [some (.int s0),some (.lst ST),some (.lst TB),some (.int n'),some (.lst WD),some (.int room),some (.int k'),some (.lst CH),some (.int bit)]=some (.nx [some (.int s0),some (.lst ST),some (.lst TB),some (.int n'),some (.lst (WD++[.int bit])),some (.int room),some (.int k'),some (.lst CH),some (.int bit)]):=by walk_at "ev"
theorem nf_5(s0 n' k' room bit nx:Int)(c:D)(ST TB WD CH:List D)(a7:atI CH bit=some (.tup [.int nx,c])):w3d [some (.int s0),some (.lst ST),some (.lst TB),some (.int n'),some (.lst WD),some (.int room),some (.int k'),some (.lst CH),some (.int bit)]=some (.nx [some (.int s0),some (.lst ST),some (.lst TB),some (.int n'),some (.lst WD),some (.int nx),some (.int k'),some (.lst CH),some (.int bit)]):=by walk_at "ev"
theorem qrz(s0 n':Int)(ST TB T0 W:List D)(y:D)(v5 v6 v7 v8:Option D)(FB:RhO)(two:2<=sizeLine)(z0:0<=sizeLine)(bg:big n'=true)(a1:atI TB 0=some (.lst T0))(a2:atI T0 s0=some y)(l1:q23 (gSet 6) FB (q1f 0 n'.toNat) [some (.int s0),some (.lst ST),some (.lst TB),some (.int n'),some (.lst []),some (.int s0),none,none,none]=some (.nx [some (.int s0),some (.lst ST),some (.lst TB),some (.int n'),some (.lst W),v5,v6,v7,v8])):
 (runP false 4 9 (sSeq (sOwn 4 (mLst mNil)) (sSeq (sSet 5 (mVar 0)) (sSeq (sFor (q2u (q01 (mVar 3) mNil)) (gSet 6) FB) w2c)))) [.int s0,.lst ST,.lst TB,.int n']=some (.tup [y,.lst W]):=by
 walk_at "ev"
theorem qh5(a b:Option Int):eqD (optI a) (optI b)=some (decide (a=b)):=by
 cases a with
 | none=>
  cases b with
  |none=>exact eqD_none.trans (by simp)
  |some y=>exact(q6n y).trans (by simp)
 | some x=>
  cases b with
  |none=>exact(q6o x).trans (by simp)
  | some y=>
   refine(qh6 x y).trans ?_;congr 1;by_cases h:x=y
   ·simp[h]
   ·simp[h]
theorem qdp(z6:List Sx)(z9:Rw)(M n:Nat)(s:Int)(hM:M<=1000)(hn:n<=1000)(hN:n<=z6.length)(ok:OkS M n z6)(he:z9.length=M)(zc:∀st∈z6,st.length=M)(hs:0<=s/\s.toNat<M)(m:Int)(hm:atR ((q0i z6 z9).headD []) s=some m):
 f_y32 [.int s,stD z6,tbD (q0i z6 z9),.int n]=some (pairD (m,q30 n z6 (q0i z6 z9) s)):=by
 have lt:=q53 z6 z9;obtain⟨ρ',l1,zf,room,v6,v7,v8,hρ,lw,hr,ok2,hg⟩:=q2r (fg:=gSet 6) (fb:=w1q)
  (λk ρ=>∃(zf:List Int) (room:Int) (v6 v7 v8:Option D),ρ=[some (.int s),some (stD z6),some (tbD (q0i z6 z9)),some (.int (n:Int)),some (.lst (zf.map D.int)),some (.int room),v6,v7,v8]/\zf.length=k/\(0<=room/\room.toNat<M)/\OkS M (n-k) (z6.drop k)/\zf++q30 (n-k) (z6.drop k) ((q0i z6 z9).drop k) room=q30 n z6 (q0i z6 z9) s)
  (q1f 0 n) 0 [some (.int s),some (stD z6),some (tbD (q0i z6 z9)),some (.int (n:Int)),some (.lst []),some (.int s),none,none,none] ⟨[],s,none,none,none,rfl,rfl,hs,ok,rfl⟩ (λi x ρ hx ⟨zf,room,v6,v7,v8,hρ,lw,hr,ok2,hg⟩=>by
    subst hρ;rw[jz]at*;obtain⟨hi,rfl⟩:=q1z hx;rw[Int.zero_add];have hi1:i<z6.length:=by omega
    have e1:z6[i]? =some z6[i]:=jd hi1;have ed:z6.drop i=z6[i]::z6.drop (i+1):=xl hi1;have hti:i<(q0i z6 z9).length:=by omega
    have hti2:i+1<(q0i z6 z9).length:=by omega
    have et:(q0i z6 z9).drop i=(q0i z6 z9)[i]::(q0i z6 z9).drop (i+1):=xl hti;have et2:((q0i z6 z9).drop (i+1)).headD []=(q0i z6 z9)[i+1]:=by rw[xl hti2];rfl
    have en:n-i=(n-(i+1))+1:=by omega
    rw[ed]at ok2;obtain⟨o1,o2,o3⟩:=ok2;rw[Nat.sub_sub]at o3;have hlt:room.toNat<z6[i].length:=by rw[o1];exact hr.2
    have es:z6[i][room.toNat]? =some z6[i][room.toNat]:=jd hlt;obtain⟨c1,c2⟩:=o2 _ (xc hlt);rw[if_neg (by omega)]at c1;obtain⟨q0,q1,eq⟩:=qkx c1;have ech:chAt z6[i] room=[q0,q1]:=by rw[q4w es,eq]
    rw[en,ed,et,q4h,et2,ech]at hg
    -- rows' lengths
    have lrow:∀k (hk:k<(q0i z6 z9).length),(q0i z6 z9)[k].length=M:=λk hk=>by
     have:=q3d z6 z9 k (by omega);have h1:((q0i z6 z9).drop k).headD []=(q0i z6 z9)[k]:=by rw[xl hk];rfl
     rw[<-h1,this];exact q6w he λz hz=>zc z (List.mem_of_mem_drop hz)
    have hq0:=c2 q0 (by rw[eq];simp);have hq1:=c2 q1 (by rw[eq];simp);have a1:atI (z6.map sxD) (i:Int)=some (.lst (z6[i].map chD)):=by rw[q37 (by omega) (by rw[j7];omega),jo,jc,e1];rfl
    have a2:atI (z6[i].map chD) room=some (.lst ([q0,q1].map mvD)):=by rw[q37 hr.1 (by rw[j7];omega),jc,es,eq];rfl
    have a3:atI ([q0,q1].map mvD) 0=some (mvD q0):=at0 _ _;have a4:atI ((q0i z6 z9).map rwD) ((i:Int)+1)=some (rwD (q0i z6 z9)[i+1]):=by rw[q37 (by omega) (by rw[j7];omega),show((i:Int)+1).toNat=i+1 from by omega,jc,jd hti2];rfl
    have hc:=qc9 q0 (q0i z6 z9)[i+1] hq0.1 (by rw[lrow _ hti2];exact hq0.2);have a5:atI ((q0i z6 z9).map rwD) (i:Int)=some (.lst ((q0i z6 z9)[i].map optI)):=by rw[q37 (by omega) (by rw[j7];omega),jo,jc,jd hti];rfl
    have a6:atI ((q0i z6 z9)[i].map optI) room=some (optI (atR (q0i z6 z9)[i] room)):=q4y hr.1 (by rw[lrow _ hti];exact hr.2);have he2:=qh5 (q1k q0 (q0i z6 z9)[i+1]) (atR (q0i z6 z9)[i] room);have hbit:q4l z6[i] (q0i z6 z9)[i] (q0i z6 z9)[i+1] room=if decide (q1k q0 (q0i z6 z9)[i+1]=atR (q0i z6 z9)[i] room)=true then 0 else 1:=by
     unfold q4l;rw[ech];by_cases z:q1k q0 (q0i z6 z9)[i+1]=atR (q0i z6 z9)[i] room
     ·rw[if_pos (by exact z),decide_eq_true z];rfl
     ·rw[if_neg (by exact z),decide_eq_false z];rfl
    have hb01:q4l z6[i] (q0i z6 z9)[i] (q0i z6 z9)[i+1] room=0∨q4l z6[i] (q0i z6 z9)[i] (q0i z6 z9)[i+1] room=1:=by
     rw[hbit];split
     ·exact .inl rfl
     ·exact .inr rfl
    generalize q4l z6[i] (q0i z6 z9)[i] (q0i z6 z9)[i+1] room=bit at hg hbit hb01;obtain⟨nx,hnx,c,a7,hrn⟩:∃nx:Int,([q0,q1].getD bit.toNat (0,0)).1=nx/\∃c:D,atI ([q0,q1].map mvD) bit=some (.tup [.int nx,c])/\(0<=nx/\nx.toNat<M):=by
     rcases hb01 with z|z
     ·rw[z];exact⟨q0.1,rfl,.int q0.2,at0 _ _,hq0⟩
     ·rw[z];exact⟨q1.1,rfl,.int q1.2,at1 _ _ _,hq1⟩
    rw[hnx]at hg;refine⟨_,[some (.int s),some (stD z6),some (tbD (q0i z6 z9)),some (.int (n:Int)),some (.lst ((zf++[bit]).map D.int)),some (.int nx),some (.int (i:Int)),some (.lst ([q0,q1].map mvD)),some (.int bit)],rfl,.inl ?_,zf++[bit],nx,_,_,_,rfl,by rw[jh,lw];rfl,hrn,o3,by rw[List.append_assoc];exact hg⟩;refine(q1x (nf_7 _ _ _ _ _ _ _ _ _ _ _ a1 a2)).trans ?_;refine(q1x (nf_8 _ _ _ _ bit _ _ _ _ _ _ _ _ _ _ _ a3 a4 hc a5 a6 he2 hbit)).trans ?_;refine(q1x (nf_4 _ _ _ _ _ _ _ _ _ (by rw[j7,lw];exact jn (by omega:i<2000) (by decide)))).trans ?_;rw[x8];exact nf_5 _ _ _ _ _ _ _ _ _ _ _ a7)
 subst hρ;rw[q1s,jz]at lw hg;rw[Nat.sub_self]at hg;have hg:zf++[]=q30 n z6 (q0i z6 z9) s:=hg;rw[List.append_nil]at hg;subst hg;have bg:big (n:Int)=true:=by unfold big;simp;omega
 have h0:0<(q0i z6 z9).length:=by omega
 have eh:(q0i z6 z9).headD []=(q0i z6 z9)[0]:=by
  generalize q0i z6 z9=tt at h0 ⊢;cases tt with
  |nil=>simp at h0
  |cons a b=>rfl
 have a1:atI ((q0i z6 z9).map rwD) 0=some (.lst (((q0i z6 z9)[0]).map optI)):=by rw[q37 (by omega) (by rw[j7];omega),show(0:Int).toNat=0 from rfl,jc,jd h0];rfl
 have hl0:((q0i z6 z9).headD []).length=M:=q6w he zc;have a2:atI (((q0i z6 z9)[0]).map optI) s=some (.int m):=by have:=q4y (t:=(q0i z6 z9).headD []) hs.1 (by rw[hl0];exact hs.2);rw[hm,eh]at this;exact this
 have tn:((n:Nat):Int).toNat=n:=jo n;rw[<-tn]at l1;unfold f_y32 qkd;exact qrz s n _ _ _ _ _ _ _ _ _ _ (by decide) (by decide) bg a1 a2 (by rw[tn]at l1 ⊢;exact l1)
section
variable{r:Int}{taps:List Int}{rows:List (List Int)}{e:Str}
theorem q8y(q:Int×List Int):qb4 (pairD q)=some q:=by show(q3t (q.2.map D.int)).map (λns=>(q.1,ns))=some q;rw[q35];rfl
theorem qc6:∀qs:List (Int×List Int),q6l (qs.map pairD)=some qs
 |[]=>rfl
 | q::qs=>by rw[ju];unfold q6l;rw[q8y,qc6 qs]
theorem qsd{qs:List (Int×List Int)}{n:Nat}(h:qs≠[])(hl:∀q∈qs,q.2.length=n):qjx (.lst (qs.map pairD))=some (pairD (q4r qs)):=by
 show(match q6l (qs.map pairD)with
  |some qs=>if qs≠[]/\(qs.all λq=>decide (q.2.length=(q4r qs).2.length))=true then some (pairD (q4r qs))else none
  |none=>none)=_
 rw[qc6];refine if_pos ⟨h,List.all_eq_true.mpr λq hq=>?_⟩;rw[hl q hq,hl _ (q7s h).1];simp
theorem ne_3(S T ST:D)(n':Int)(hm:f_y25 [S,.int n',T]=some ST):(sSet 3 (q0k f_y25 w0c)) [some S,some (.int n'),some T,none,none]=some (.nx [some S,some (.int n'),some T,some ST,none]):=by walk_at "ev"
theorem ne_4(S T ST TB:D)(n':Int)(ht:f_y31 [S,ST]=some TB):w3p [some S,some (.int n'),some T,some ST,none]=some (.nx [some S,some (.int n'),some T,some ST,some TB]):=by walk_at "ev"
theorem ne_r(S T ST y:D)(n':Int)(gs:List (Key×D))(KS YS:List D)(FE:RhD)(dm:D->Option D)(hk:qa8 (.dct gs)=some KS)(l1:KS.length<=sizeLine)(cm:q15 1 [3,1,4] none (gSet 0) (mRet true) FE KS [some S,some (.int n'),some T,some ST,some (.dct gs)]=some (YS,[some S,some (.int n'),some T,some ST,some (.dct gs)]))(hy:dm (.lst YS)=some y):
 (sRet (mOp1 dm (mOf (q1t 1 [3,1,4] none (q7p (mVar 4)) (gSet 0) (mRet true) FE)))) [some S,some (.int n'),some T,some ST,some (.dct gs)]=some (.rt y [some S,some (.int n'),some T,some ST,some (.dct gs)]):=by
 have h1:q7p (mVar 4) [some S,some (.int n'),some T,some ST,some (.dct gs)]=some (KS,[some S,some (.int n'),some T,some ST,some (.dct gs)]):=by rw[qcn];show((qa8 (.dct gs)).map λx=>(x,_))=_;rw[hk];rfl
 generalize q7p (mVar 4)=FK at h1 ⊢;clear hk;walk_at "ev"
theorem qs0(ST TB y:D)(s n':Int)(gs:List (Key×D))(hg:dIxK (.dct gs) (.int s)=some TB)(h:f_y32 [.int s,ST,TB,.int n']=some y):((q0k f_y32 (q01 (mVar 0) (q01 (mVar 1) (q01 (mOp2 dIxK (mVar 3) (mVar 0)) (q01 (mVar 2) mNil))))) [some (.int s),some ST,some (.int n'),some (.dct gs)]).map (·.1)=some y:=by generalize hd:dIxK=dx at hg ⊢;clear hd;walk_at "ev"
theorem qh0{ss:List Int}{f:Int->D}{s:Int}(h:s∈ss):qbe (ss.map λs=>(Sum.inl s,f s)) s=some (f s):=by
 induction ss with
 |nil=>cases h
 | cons a r ih=>
  unfold qbe;rw[ju];by_cases z:a=s
  ·subst z;simp[List.find?_cons]
  ·have h1:s∈r:=by
    rcases List.mem_cons.mp h with h|h
    ·exact absurd h.symm z
    ·exact h
   have:=ih h1;unfold qbe at this;rw[<-this];simp[List.find?_cons,z]
theorem qun(ok:q2d r taps rows e)(n:Nat)(hn:n<=60)(h:e="ring"->r.toNat<=n)(ts:List Told)(hl:ts.length=(q0e taps rows (n+q08 r e)).length):
 f_y33 [schD r taps rows e,.int n,.lst (ts.map q0s)]=some (pairD (q3q r taps rows e ts n)):=by
 have p16:=q3c ok.r0 ok.r4;have pn:=q29 (r:=r);have z4:=q2j ok;have hm:=qqp ok n hn h ts hl;have ht:=qiv ok ts n hn;have ls:(q18 r taps rows ts n 0 (n+q08 r e)).length=n+q08 r e:=by unfold q18;rw[j7,List.length_range']
 have zc:∀st∈q18 r taps rows ts n 0 (n+q08 r e),st.length=2^r.toNat:=λst hst=>by unfold q18 at hst;obtain⟨k,_,rfl⟩:=List.mem_map.mp hst;unfold L2.stepK;simp
 have cm:=q42 (n:=1) (js:=[3,1,4]) (fg:=gSet 0) (fe:=q0k f_y32 (q01 (mVar 0) (q01 (mVar 1) (q01 (mOp2 dIxK (mVar 3) (mVar 0)) (q01 (mVar 2) mNil)))))
  (ρ:=[some (schD r taps rows e),some (.int n),some (.lst (ts.map q0s)),some (stD (q18 r taps rows ts n 0 (n+q08 r e))),some (.dct ((q1g r e).map λs=>(Sum.inl s,tbD (q0z r taps rows e ts n s))))])
  (λd=>match d with|.int s=>pairD (bestOf r taps rows e ts n s)|d=>d) ((q1g r e).map D.int) (λx hx=>by obtain⟨s,hs,rfl⟩:=List.mem_map.mp hx;have h1:=q4n hs;obtain⟨b1,_⟩:=q81 (ts:=ts) (taps:=taps) (rows:=rows) hs h ok.en hl;have hp:=qdp (q18 r taps rows ts n 0 (n+q08 r e)) (q33 r e s) (2^r.toNat) n s (by omega) (by omega) (by rw[ls];omega) (q4p (n:=n) (n+q08 r e) 0) (by unfold q33;simp) zc ⟨h1.1,by omega⟩ _ b1;exact⟨_,rfl,qs0 _ _ _ _ _ _ (qh0 hs) hp⟩)
 rw[jk]at cm;have lst':(q1g r e).length<=16:=by
  unfold q1g;split
  ·simp;omega
  ·simp
 have hk:qa8 (.dct ((q1g r e).map λs=>(Sum.inl s,tbD (q0z r taps rows e ts n s))))=some ((q1g r e).map D.int):=by show some _=some _;rw[jk];rfl
 have hne:(q1g r e).map (bestOf r taps rows e ts n)≠[]:=by have hf:=q51 (r:=r) (e:=e) (w:=List.replicate n 0) (q43 _) (by rw[ji];exact h);intro z;rw[List.map_eq_nil_iff.mp z]at hf;cases hf
 have hy:=qsd (n:=n) hne (λq hq=>by obtain⟨s,hs,rfl⟩:=List.mem_map.mp hq;exact(q81 (ts:=ts) (taps:=taps) (rows:=rows) hs h ok.en hl).2.2.1)
 rw[jk]at hy;refine qbx rfl ⟨[some (schD r taps rows e),some (.int n),some (.lst (ts.map q0s)),some (stD (q18 r taps rows ts n 0 (n+q08 r e))),some (.dct ((q1g r e).map λs=>(Sum.inl s,tbD (q0z r taps rows e ts n s))))],?_⟩;refine(q1x (ne_3 _ _ _ _ hm)).trans ?_;refine(q1x (ne_4 _ _ _ _ _ ht)).trans ?_;exact ne_r _ _ _ _ _ _ _ _ _ _ hk (q1d (by rw[j7];omega)) cm hy
end
section
variable{r:Int}{taps:List Int}{rows:List (List Int)}{e:Str}
theorem qmh(c top r x0 x1 x6 x13 tn mn:Int)(e:Str)(X YS ZS TS RS:List D)(v7:Option D)(two:2<=sizeLine)(four:4<=sizeLine)(five:5<=sizeLine)(six:6<=sizeLine)(z0:0<=sizeLine)(ll:YS.length<=sizeLine)(tp:0<top+1)(hr:x1 % (top+1)=r)
 (hm:f_y35 [.int c,.int 14]=some (.lst X)) (a0:atI X 0=some (.int x0)) (a1:atI X 1=some (.int x1)) (a6:atI X 6=some (.int x6)) (a13:atI X 13=some (.int x13))
 (ee:atI [D.str "open",.str "ended",.str "ring",.str "ended"] (x0 % 4)=some (.str e)) (et:atI [D.int 1,.int 0,.int 2,.int 1,.int 3] (x6 % 5)=some (.int tn)) (em:atI [D.int 1,.int 2,.int 4,.int 3,.int 5,.int 6] (x13 % 6)=some (.int mn))
 (sl1:dSl (.lst X) (some 2) (some (3+tn))=some (.lst YS)) (sl2:dSl (.lst X) (some 7) (some (7+mn))=some (.lst ZS))
 (c1:q15 1 [4] none (gSet 0) (mRet true) (mOp2 dMod (mVar 0) (mOp2 dShl (mRet (.int 2)) (mVar 1))) YS [some (.int c),some (.int top),some (.lst X),some (.str e),some (.int r),none,none,none]=some (TS,[some (.int c),some (.int top),some (.lst X),some (.str e),some (.int r),none,none,none]))
 (f1:q23 (gSet 7) (sMut q2c 6 w03) ZS [some (.int c),some (.int top),some (.lst X),some (.str e),some (.int r),some (.tup TS),some (.lst []),none]=some (.nx [some (.int c),some (.int top),some (.lst X),some (.str e),some (.int r),some (.tup TS),some (.lst RS),v7])):
 f_y36 [.int c,.int top]=some (.tup [.int r,.tup TS,.tup RS,.str e]):=by
 unfold f_y36 qkb;walk_at "ev"
theorem qan(c top:Int)(t0:0<=top)(t4:top<=4):∃r taps rows e,f_y36 [.int c,.int top]=some (schD r taps rows e)/\q2d r taps rows e:=by
 obtain⟨xs,hm0,hl,hx⟩:=q74 c 14 (by decide);have hm:f_y35 [.int c,.int 14]=some (.lst (xs.map D.int)):=hm0;have at_:∀k:Nat,k<14->∃x:Int,atI (xs.map D.int) (k:Int)=some (.int x)/\0<=x:=λk hk=>by
  have h1:k<xs.length:=by omega
  refine⟨xs[k],?_,(hx _ (xc h1)).1⟩;rw[q37 (by omega) (by rw[j7];omega),jo,jc,jd h1];rfl
 obtain⟨x0,b0,p0⟩:=at_ 0 (by decide);have a0:atI (xs.map D.int) 0=some (.int x0):=b0;obtain⟨x1,b1,p1⟩:=at_ 1 (by decide);have a1:atI (xs.map D.int) 1=some (.int x1):=b1;obtain⟨x6,b6,p6⟩:=at_ 6 (by decide);have a6:atI (xs.map D.int) 6=some (.int x6):=b6;obtain⟨x13,b13,p13⟩:=at_ 13 (by decide);have a13:atI (xs.map D.int) 13=some (.int x13):=b13;obtain⟨e,ee,he⟩:=qui (j:=x0 % 4) (by omega) (by omega);obtain⟨tn,et,ht3⟩:=qum (j:=x6 % 5) (by omega) (by omega);obtain⟨mn,em,hm1,hm6⟩:=qul (j:=x13 % 6) (by omega) (by omega);have tp:0<top+1:=by omega
 generalize hr:x1 % (top+1)=r;have r0:0<=r:=by rw[<-hr];exact Int.emod_nonneg _ (by omega)
 have r4:r<=4:=by have:=Int.emod_lt_of_pos x1 tp;omega
 have r6:r<=1000000:=by omega
 have zo:(0:Int)<2*2^r.toNat:=Int.mul_pos (by decide) (Int.pow_pos (by decide))
 -- taps
 have sl1:dSl (.lst (xs.map D.int)) (some 2) (some (3+(tn:Int)))=some (.lst (((xs.drop 2).take (3+tn-2)).map D.int)):=by show some (D.lst (cutD (xs.map D.int) (some ((2:Nat):Int)) (some (3+(tn:Int)))))=_;rw[show(3+(tn:Int))=((3+tn:Nat):Int)from by omega,qcq xs 2 (3+tn) (by omega) (by omega)]
 generalize hy1:(xs.drop 2).take (3+tn-2)=ys at sl1;have ly:ys.length=1+tn:=by rw[<-hy1,xh,xp];omega
 obtain⟨ts,c1,c2,c3⟩:=qjz (n:=1) (js:=[4]) (fg:=gSet 0) (fe:=mOp2 dMod (mVar 0) (mOp2 dShl (mRet (.int 2)) (mVar 1))) (ρ:=[some (.int c),some (.int top),some (.lst (xs.map D.int)),some (.str e),some (.int r),none,none,none])
  (λy=>∃t:Int,y=.int t/\0<=t/\t<2*2^r.toNat) (ys.map D.int) (λx hx'=>by obtain⟨y,_,rfl⟩:=List.mem_map.mp hx';refine⟨[some (.int y),some (.int r)],.int (y % (2*2^r.toNat)),rfl,?_,_,rfl,Int.emod_nonneg _ (by omega),Int.emod_lt_of_pos _ zo⟩;generalize xs.map D.int=X;clear hx' a0 a1 a6 a13 b0 b1 b6 b13 hm0 ee et em sl1 hm at_ hx hl hy1 ly hr;walk_at "ev")
 obtain⟨taps,rfl,tb⟩:=qbd c3;rw[j7,j7,ly]at c2
 -- rows
 have sl2:dSl (.lst (xs.map D.int)) (some 7) (some (7+(mn:Int)))=some (.lst (((xs.drop 7).take (7+mn-7)).map D.int)):=by show some (D.lst (cutD (xs.map D.int) (some ((7:Nat):Int)) (some (7+(mn:Int)))))=_;rw[show(7+(mn:Int))=((7+mn:Nat):Int)from by omega,qcq xs 7 (7+mn) (by omega) (by omega)]
 generalize hy2:(xs.drop 7).take (7+mn-7)=zs at sl2;have lz:zs.length=mn:=by rw[<-hy2,xh,xp];omega
 have zp:∀z∈zs,0<=z:=λz hz=>by rw[<-hy2]at hz;exact(hx z (List.mem_of_mem_drop (List.mem_of_mem_take hz))).1
 have bgt:big ((taps.map D.int).length:Nat)=true:=by unfold big;rw[j7];simp;omega
 have l5:(q1f 0 (taps.map D.int).length).length<=sizeLine:=by rw[q1s,j7];exact q1d (by omega)
 obtain⟨ρ',f1,rows,v7,rfl,lr,hrow⟩:=q2r (fg:=gSet 7) (fb:=sMut q2c 6 w03)
  (λi ρ=>∃(rows:List (List Int)) (v7:Option D),ρ=[some (.int c),some (.int top),some (.lst (xs.map D.int)),some (.str e),some (.int r),some (.tup (taps.map D.int)),some (.lst (rows.map rowD)),v7]/\rows.length=i/\∀row∈rows,row.length=taps.length/\∀b∈row,b=0∨b=1)
  (zs.map D.int) 0 [some (.int c),some (.int top),some (.lst (xs.map D.int)),some (.str e),some (.int r),some (.tup (taps.map D.int)),some (.lst []),none] ⟨[],none,rfl,rfl,λ_ h=>nomatch h⟩ (by
    rintro i x ρ hx' ⟨rows,v7,rfl,lr,hrow⟩;obtain⟨z,hz,rfl⟩:=List.mem_map.mp (xv hx');have hi:i<zs.length:=by have:=(List.getElem?_eq_some_iff.mp hx').1;rwa [j7]at this
    have z0:=zp z hz;obtain⟨bs,g1,g2,g3⟩:=qjz (n:=1) (js:=[7]) (fg:=gSet 0) (fe:=mOp2 dIx (mOf (mLst (q01 (mRet (.int 1)) (q01 (mRet (.int 1)) w0e)))) w2n)
     (ρ:=[some (.int c),some (.int top),some (.lst (xs.map D.int)),some (.str e),some (.int r),some (.tup (taps.map D.int)),some (.lst (rows.map rowD)),some (.int z)])
     (λy=>∃t:Int,y=.int t/\(t=0∨t=1)) (q1f 0 (taps.map D.int).length) (λx hx2=>by
       obtain⟨k,hk⟩:=List.mem_iff_getElem?.mp hx2;obtain⟨hk1,rfl⟩:=q1z hk;rw[Int.zero_add];have hs:0<=z / 2^(2*(k:Int)).toNat:=Int.ediv_nonneg z0 (Int.le_of_lt (Int.pow_pos (by decide)));have h3:=qht hs;obtain⟨t,ht,hb⟩:=quk h3.1 h3.2;refine⟨[some (.int (k:Int)),some (.int z)],.int t,rfl,?_,t,rfl,hb⟩;have four:4<=sizeLine:=by decide
       have k0:0<=2*(k:Int):=by omega
       clear hk hk1 hx2 hb h3 hs a0 a1 a6 a13 b0 b1 b6 b13 hm0 ee et em sl1 sl2 hm at_ hx hl hy1 hy2 ly lz c1 hr;walk_at "ev")
    obtain⟨row,rfl,hb⟩:=qbd g3;rw[j7,q1s,j7]at g2;have l6:rows.length<sizeLine:=jn (by omega:rows.length<1000) (by decide);refine⟨_,[some (.int c),some (.int top),some (.lst (xs.map D.int)),some (.str e),some (.int r),some (.tup (taps.map D.int)),some (.lst ((rows++[row]).map rowD)),some (.int z)],rfl,.inl ?_,rows++[row],_,rfl,by rw[jh,lr];simp,λq hq=>?_⟩
    ·rw[x8];have lq:(rows.map rowD).length<sizeLine:=by rw[j7];exact l6
     show _=some (Out.nx [_,_,_,_,_,_,some (.lst (rows.map rowD++[.tup (row.map D.int)])),_]);have hrng:(q2u (q01 (mOp1 dLen (mVar 5)) mNil)) [some (.int c),some (.int top),some (.lst (xs.map D.int)),some (.str e),some (.int r),some (.tup (taps.map D.int)),some (.lst (rows.map rowD)),some (.int z)]=some (q1f 0 (taps.map D.int).length,[some (.int c),some (.int top),some (.lst (xs.map D.int)),some (.str e),some (.int r),some (.tup (taps.map D.int)),some (.lst (rows.map rowD)),some (.int z)]):=by have q:=qfh (fs:=q01 (mOp1 dLen (mVar 5)) mNil) (ρ:=[some (.int c),some (.int top),some (.lst (xs.map D.int)),some (.str e),some (.int r),some (.tup (taps.map D.int)),some (.lst (rows.map rowD)),some (.int z)]) (ρ1:=[some (.int c),some (.int top),some (.lst (xs.map D.int)),some (.str e),some (.int r),some (.tup (taps.map D.int)),some (.lst (rows.map rowD)),some (.int z)]) (n:=((taps.map D.int).length:Nat)) rfl bgt;rw[jo]at q;exact q
     exact qij _ _ _ _ _ _ _ _ _ _ _ _ l5 lq hrng g1
    ·rcases List.mem_append.mp hq with hq|hq
     ·exact hrow q hq
     ·rw[List.mem_singleton.mp hq];exact⟨g2,hb⟩)
 rw[j7,jz,lz]at lr;refine⟨r,taps,rows,e,?_,⟨r0,r4,by omega,by omega,tb,by omega,by omega,hrow,he⟩⟩;exact qmh c top r x0 x1 x6 x13 tn mn e _ _ _ _ _ v7 (by decide) (by decide) (by decide) (by decide) (by decide) (by rw[j7];exact q1d (by omega)) tp hr hm a0 a1 a6 a13 ee et em sl1 sl2 c1 f1
theorem qpp(c x0 x1:Int)(X:List D)(two:2<=sizeLine)(hm:f_y35 [.int c,.int 5]=some (.lst X))(a0:atI X 0=some (.int x0))(a1:atI X 1=some (.int x1))(c1:x0 % 9<4):f_y44 [.int c]=some (.tup [.str "clear",.int (x1 % 2)]):=by unfold f_y44 qbl;walk_at "ev"
theorem qpo(c x0:Int)(X:List D)(one:1<=sizeLine)(hm:f_y35 [.int c,.int 5]=some (.lst X))(a0:atI X 0=some (.int x0))(c1:¬x0 % 9<4)(c2':(x0 % 9==4)=true):f_y44 [.int c]=some (.tup [.str "gap"]):=by generalize hw:x0 % 9=wy at c1 c2';unfold f_y44 qbl;walk_at "ev"
theorem qpn(c x0 x1 x2:Int)(X:List D)(three:3<=sizeLine)(hm:f_y35 [.int c,.int 5]=some (.lst X))(a0:atI X 0=some (.int x0))(a1:atI X 1=some (.int x1))(a2:atI X 2=some (.int x2))(c1:¬x0 % 9<4)(c2:¬x0 % 9=4)(c3:x0 % 9<8):f_y44 [.int c]=some (.tup [.str "soft",.int (x1 % 5-1),.int (x2 % 5-1)]):=by have c2':(x0 % 9==4)=false:=beq_eq_false_iff_ne.mpr c2;generalize hw:x0 % 9=wy at c1 c2 c2' c3;unfold f_y44 qbl;walk_at "ev"
theorem qpm(c x0 x1 x2 x3 x4:Int)(X:List D)(three:3<=sizeLine)(hm:f_y35 [.int c,.int 5]=some (.lst X))(a0:atI X 0=some (.int x0))(a1:atI X 1=some (.int x1))(a2:atI X 2=some (.int x2))(a3:atI X 3=some (.int x3))(a4:atI X 4=some (.int x4))(c1:¬x0 % 9<4)(c2:¬x0 % 9=4)(c3:¬x0 % 9<8)
 (q1: -18446744073709551616<x1) (q1':x1<18446744073709551616) (q3: -18446744073709551616<x3) (q3':x3<18446744073709551616) (q4: -18446744073709551616<x4) (q4':x4<18446744073709551616):∃z o:Int,f_y44 [.int c]=some (.tup [.str "soft",.int z,.int o]):=by
 have c2':(x0 % 9==4)=false:=beq_eq_false_iff_ne.mpr c2;refine⟨x1*x2*x3*x4 % (2*10^60-3)-(10^60-2),x1*x2*x3*x4 % (2*10^60-3)-(10^60-2)+x0 / 9 % 3-1,?_⟩;generalize hw:x0 % 9=wy at c1 c2 c2' c3;unfold f_y44 qbl;walk_at "ev"
theorem qku(c:Int):∃t:Told,f_y44 [.int c]=some (q0s t):=by
 obtain⟨xs,hm,hl,hx⟩:=q74 c 5 (by decide);have at_:∀k:Nat,k<5->∃x:Int,atI (xs.map D.int) (k:Int)=some (.int x)/\0<=x/\x<2305843009213693951:=λk hk=>by
  have h1:k<xs.length:=by omega
  refine⟨xs[k],?_,hx _ (xc h1)⟩;rw[q37 (by omega) (by rw[j7];omega),jo,jc,jd h1];rfl
 obtain⟨x0,a0,p0⟩:=at_ 0 (by decide);obtain⟨x1,a1,p1⟩:=at_ 1 (by decide);obtain⟨x2,a2,p2⟩:=at_ 2 (by decide);obtain⟨x3,a3,p3⟩:=at_ 3 (by decide);obtain⟨x4,a4,p4⟩:=at_ 4 (by decide);by_cases c1:x0 % 9<4
 ·exact⟨.clear (x1 % 2),qpp c x0 x1 _ (by decide) hm a0 a1 c1⟩
 ·by_cases c2:x0 % 9=4
  ·exact⟨.gap,qpo c x0 _ (by decide) hm a0 c1 (beq_iff_eq.mpr c2)⟩
  ·by_cases c3:x0 % 9<8
   ·exact⟨.soft (x1 % 5-1) (x2 % 5-1),qpn c x0 x1 x2 _ (by decide) hm a0 a1 a2 c1 c2 c3⟩
   ·obtain⟨z,o,q⟩:=qpm c x0 x1 x2 x3 x4 _ (by decide) hm a0 a1 a2 a3 a4 c1 c2 c3 (by omega) (by omega) (by omega) (by omega) (by omega) (by omega);exact⟨.soft z o,q⟩
theorem qaf(ρ:Rho)(xs:List Int):∃ts:List Told,q15 1 [] none (gSet 0) (mRet true) (q0k f_y44 (q01 (mVar 0) mNil)) (xs.map D.int) ρ=some (ts.map q0s,ρ)/\ts.length=xs.length:=by
 obtain⟨ys,g1,g2,g3⟩:=qjz (n:=1) (js:=[]) (fg:=gSet 0) (fe:=q0k f_y44 (q01 (mVar 0) mNil)) (ρ:=ρ) (λy=>∃t,y=q0s t) (xs.map D.int) (λx hx=>by obtain⟨c,_,rfl⟩:=List.mem_map.mp hx;obtain⟨t,ht⟩:=qku c;refine⟨[some (.int c)],q0s t,rfl,?_,t,rfl⟩;generalize q0s t=T at ht ⊢;clear hx;walk_at "ev")
 obtain⟨ts,rfl⟩:=qbt g3;rw[j7,j7]at g2;exact⟨ts,g1,g2⟩
theorem qm9(cs:List Int)(zh:Nat)(x:Int)(hm:zh<=1000):∃ts:List Told,f_y45 [.lst (cs.map D.int),.int zh,.int x]=some (.lst (ts.map q0s))/\ts.length=zh:=by
 have sl:dSl (.lst (cs.map D.int)) none (some (zh:Int))=some (.lst ((cs.take zh).map D.int)):=by rw[qbh (by omega),jo,List.map_take]
 obtain⟨ts1,g1,l1⟩:=qaf [some (.lst (cs.map D.int)),some (.int (zh:Int)),some (.int x),none] (cs.take zh);have hle:ts1.length<=zh:=by rw[l1,xh];exact xi _ _
 obtain⟨xs,hx,lx,_⟩:=q74 x (zh-ts1.length) (by omega);obtain⟨ts2,g2,l2⟩:=qaf [some (.lst (cs.map D.int)),some (.int (zh:Int)),some (.int x),some (.lst (ts1.map q0s))] xs;refine⟨ts1++ts2,?_,by rw[jh,l2,lx];omega⟩;have e1:((zh-ts1.length:Nat):Int)=(zh:Int)-((ts1.map q0s).length:Nat):=by rw[j7];omega
 rw[e1]at hx;have ll1:((cs.take zh).map D.int).length<=sizeLine:=by rw[j7,xh];exact q1d (by have:=xi zh cs.length;omega)
 have ll2:(xs.map D.int).length<=sizeLine:=by rw[j7];exact q1d (by omega)
 have ll3:(ts1.map q0s).length+(ts2.map q0s).length<=sizeLine:=by rw[j7,j7];exact q1d (by omega)
 rw[x8];generalize ts1.map q0s=T1 at g1 g2 hx ll3 ⊢;generalize ts2.map q0s=T2 at g2 ll3 ⊢;generalize xs.map D.int=X at hx g2 ll2;generalize (cs.take zh).map D.int=C1 at sl g1 ll1;generalize cs.map D.int=C at sl g1 g2 ⊢;clear e1 hle l1 lx l2 hm;unfold f_y45 qk9;walk_at "ev"
theorem q6h(ρ:Rho):∀(zs:List (Told×Int)),(∀q∈zs,q.2=0∨q.2=1)->q15 2 [] none (q2i 2 (q0w (gSet 0) (q0w (gSet 1) q2o))) (mRet true) (q0k f_y43 (q01 (mVar 0) (q01 (mVar 1) mNil))) (zs.map λq=>D.tup [q0s q.1,.int q.2]) ρ=some ((zs.map λq=>q4f q.1 q.2).map D.int,ρ)
 |[],_=>rfl
 | q::zs,h=>by
  have ih:=q6h ρ zs λp hp=>h p (jj _ hp);have hg:(q2i 2 (q0w (gSet 0) (q0w (gSet 1) q2o))) (D.tup [q0s q.1,.int q.2]) (q64 2 [] ρ)=some [some (q0s q.1),some (.int q.2)]:=rfl;have he:q0k f_y43 (q01 (mVar 0) (q01 (mVar 1) mNil)) [some (q0s q.1),some (.int q.2)]=some (.int (q4f q.1 q.2),[some (q0s q.1),some (.int q.2)]):=by have:=qm8 q.1 q.2 (h q jg);generalize q0s q.1=X at this ⊢;generalize q4f q.1 q.2=z at this ⊢;generalize q.2=b at this ⊢;clear ih hg h;walk_at "ev"
  rw[ju];unfold q15;rw[hg];dsimp only[mRet];rw[he];dsimp only[q5r];rw[ih];rfl
end
theorem q9s{i:Nat}{fg:RhG}{fe:RhD}{fs:RhL}{α:Type}(tp:Int->α->D)(obj:α->D)(P:Rho->Prop)(hf:∀ρ,P ρ->isFree ρ i=true)
 (hg:∀(k:Int) (t:α) ρ,P ρ->∃ρ1,fg (tp k t) ρ=some ρ1/\P ρ1/\fe ρ1=some (.int k,ρ1)/\fs ρ1=some ([obj t],ρ1)):
 ∀(zs:List (Int×α)) (c:List (List α)) (ρ:Rho),P ρ->(∀q∈zs,0<=q.1/\q.1.toNat<c.length)->(∀g∈c,g.length+zs.length<sizeLine)->∃ρ',q5h i fg (q3f i fe fs) (zs.map λq=>tp q.1 q.2) ρ (c.map λg=>g.map obj)=some (ρ',(zs.foldl q4e c).map λg=>g.map obj)
 |[],c,ρ,_,_,_=>⟨ρ,rfl⟩
 | q::zs,c,ρ,hP,hz,hc=>by
  obtain⟨z0,z1⟩:=hz q jg;have hq:c[q.1.toNat]? =some c[q.1.toNat]:=jd z1;have hp:q5p (c.map λg=>g.map obj) q.1 (obj q.2)=some ((q4e c q).map λg=>g.map obj):=by unfold q5p;rw[if_pos z0,jc,hq];simp only[Option.map_some];rw[if_pos (by rw[j7];have:=hc _ (xc z1);simp at this;omega)];unfold q4e;rw[List.map_set,jv,hq];simp
  obtain⟨ρ1,g1,g2,g3,g4⟩:=hg q.1 q.2 ρ hP;obtain⟨ρ',h⟩:=q9s (i:=i) (fg:=fg) (fe:=fe) (fs:=fs) tp obj P hf hg zs (q4e c q) ρ1 g2 (λp hp=>by
   have:=hz p (jj _ hp);refine⟨this.1,?_⟩;unfold q4e;rw[x9];exact this.2) (λg hg=>by
   unfold q4e at hg;rcases List.mem_or_eq_of_mem_set hg with h1|h1
   ·have:=hc g h1;simp at this;omega
   ·rw[h1,jv,hq];have:=hc _ (xc z1);simp at this ⊢;omega)
  refine⟨ρ',?_⟩;have fr:=hf ρ1 g2;have step:q3f i fe fs ρ1 (c.map λg=>g.map obj)=some (ρ1,(q4e c q).map λg=>g.map obj):=by unfold q3f;rw[g3];simp only[fr,if_true];rw[g4];simp only[fr,if_true,hp,Option.map_some]
  rw[ju,List.foldl_cons,<-h,q7v,g1];simp only[fr,if_true,step]
theorem qbq{α β γ:Type}(f:α->β->γ):∀(xs:List α) (ys:List β),(xs.zip ys).map (λq=>f q.1 q.2)=(ys.zip xs).map λq=>f q.2 q.1
 |[],[]=>rfl
 |[],_::_=>rfl
 |_::_,[]=>rfl
 |x::xs,y::ys=>by rw[List.zip_cons_cons,List.zip_cons_cons,ju,ju,qbq f xs ys]
theorem qor(S T:D)(n' N:Int)(hs:f_y39 [S,.int n']=some (.int N))(bg:big N=true):qdz [some S,some (.int n'),some T,none,none,none]=some (q1f 0 N.toNat,[some S,some (.int n'),some T,none,none,none]):=by unfold qdz;walk_at "ev"
theorem qtz(S:D)(n':Int)(T P Z:List D)(hp:f_y40 [S,.int n']=some (.lst P))(hz:zipD T P=Z):w2l [some S,some (.int n'),some (.lst T),none,none,none]=some (Z,[some S,some (.int n'),some (.lst T),none,none,none]):=by walk_at "ev"
section
variable{r:Int}{taps:List Int}{rows:List (List Int)}{e:Str}
theorem q75(ok:q2d r taps rows e)(n:Nat)(hn:n<=60)(ts:List Told)(hl:ts.length=(q0e taps rows (n+q08 r e)).length):
 f_y46 [schD r taps rows e,.int n,.lst (ts.map q0s)]=some (.lst ((List.range (n+q08 r e)).map λk=>D.lst ((chunk taps rows ts k).map q0s))):=by
 have z4:=q2j ok;have hs:=q8r ok n;have hp:=qbs ok n hn;have s4:∀k,(selK taps rows k).length<=4:=λk=>by unfold selK;refine jr (List.length_filter_le _ _) ?_;rw[xm];have:=ok.t4;have:=xi taps.length (rowAt rows k).length;omega
 have q1:(q0e taps rows (n+q08 r e)).length<=(n+q08 r e)*4:=q41 _ 4 (λk=>by rw[ji];exact s4 k) _;have bg:big ((n+q08 r e:Nat):Int)=true:=by unfold big;simp;omega
 have hi:=qor (schD r taps rows e) (.lst (ts.map q0s)) n _ hs bg;rw[jo]at hi;have hz:zipD (ts.map q0s) ((q0e taps rows (n+q08 r e)).map D.int)=((q0e taps rows (n+q08 r e)).zip ts).map λq=>D.tup [q0s q.2,.int q.1]:=by rw[q5s,q4z,jk,<-qbq λ(t:Told) (k:Int)=>D.tup [q0s t,.int k]];rfl
 have hzz:=qtz (schD r taps rows e) n (ts.map q0s) _ _ hp hz;obtain⟨ρ',hr⟩:=q9s (i:=3) (fg:=q2i 2 (q0w (gSet 4) (q0w (gSet 5) q2o))) (fe:=mVar 5) (fs:=q01 (mVar 4) mNil) (λk t=>D.tup [q0s t,.int k]) q0s (λρ=>∃u v,ρ=[some (schD r taps rows e),some (.int n),some (.lst (ts.map q0s)),none,u,v]) (λρ h=>by
  obtain⟨u,v,rfl⟩:=h;rfl) (λk t ρ h=>by
  obtain⟨u,v,rfl⟩:=h;exact⟨_,rfl,⟨_,_,rfl⟩,rfl,rfl⟩)
  ((q0e taps rows (n+q08 r e)).zip ts) (List.replicate (n+q08 r e) []) [some (schD r taps rows e),some (.int n),some (.lst (ts.map q0s)),none,none,none] ⟨none,none,rfl⟩ (λq hq=>by
    have hm:=(List.of_mem_zip hq).1;unfold q0e at hm;obtain⟨k,hk,hm⟩:=List.mem_flatMap.mp hm;rw[List.eq_of_mem_replicate hm,ji];exact⟨by omega,by rw[jo];exact List.mem_range.mp hk⟩) (λg hg=>by
    rw[List.eq_of_mem_replicate hg,xm];have:=xi (q0e taps rows (n+q08 r e)).length ts.length;exact jn (by simp;omega:_<1000) (by decide))
 rw[q9t (n+q08 r e) (by omega),List.map_replicate,jk]at hr;show qae (qaa _)=_;have hD:qaa [schD r taps rows e,.int n,.lst (ts.map q0s)]=some ((List.range (n+q08 r e)).map ((λg=>g.map q0s)∘chunk taps rows ts)):=by
  unfold qaa q8v;refine(if_pos rfl).trans ?_;show(match qdz [some (schD r taps rows e),some (.int n),some (.lst (ts.map q0s)),none,none,none]with
   | some (xs,ρ1)=>if 3<ρ1.length/\xs.length<=sizeLine then(match qe9 (ρ1.set 3 none) (List.replicate xs.length [])with
    |some p=>some p.2
    |none=>none)else none
   |none=>none)=_
  rw[hi];simp only;rw[if_pos ⟨by simp,by rw[q1s];exact q1d (by omega)⟩,q1s];have hb:qe9 [some (schD r taps rows e),some (.int n),some (.lst (ts.map q0s)),none,none,none] (List.replicate (n+q08 r e) [])=some (ρ',(List.range (n+q08 r e)).map ((λg=>g.map q0s)∘chunk taps rows ts)):=by unfold qe9 q8h;rw[hzz];exact(if_pos rfl).trans hr
  have es:([some (schD r taps rows e),some (.int n),some (.lst (ts.map q0s)),none,none,none]:Rho).set 3 none=[some (schD r taps rows e),some (.int n),some (.lst (ts.map q0s)),none,none,none]:=rfl;rw[es,hb]
 rw[hD];show some (D.lst _)=some (D.lst _);rw[jk];rfl
theorem qu1(S n T s ST EN TB:D)(hm:f_y25 [S,n,T]=some ST)(he:f_y26 [S,s]=some EN)(ha:f_y29 [ST,EN]=some TB):f_y30 [S,n,T,s]=some TB:=by unfold f_y30 qkf;walk_at "ev"
theorem qpi(ts:List Told)(n:Nat):∀(len k:Nat) (st:Sx),st∈q18 r taps rows ts n k len->st.length=2^r.toNat/\∀ch∈st,ch.length<=2/\∀q∈ch,0<=q.1/\q.1.toNat<2^r.toNat:=by
 intro len;induction len with
 |zero=>intro k st h;cases h
 | succ len ih=>
  intro k st h;have ok1:=q4p (r:=r) (taps:=taps) (rows:=rows) (ts:=ts) (n:=n) (len+1) k;rw[q4d]at h ok1;rcases List.mem_cons.mp h with h|h
  ·subst h;refine⟨ok1.1,λch hc=>⟨?_,(ok1.2.1 ch hc).2⟩⟩;rw[(ok1.2.1 ch hc).1];split<;>omega
  ·exact ih _ _ h
theorem q6j(ts:List Told)(n len:Nat):(q18 r taps rows ts n 0 len).length=len:=by unfold q18;rw[j7,List.length_range']
theorem quo(ok:q2d r taps rows e)(n:Nat)(hn:n<=60)(h:e="ring"->r.toNat<=n)(ts:List Told)(hl:ts.length=(q0e taps rows (n+q08 r e)).length)(s:Int):
 f_y30 [schD r taps rows e,.int n,.lst (ts.map q0s),.int s]=some (tbD (q0z r taps rows e ts n s)):=by
 have p16:=q3c ok.r0 ok.r4;have pn:=q29 (r:=r);have z4:=q2j ok;exact qu1 _ _ _ _ _ _ _ (qqp ok n hn h ts hl) (ql7 ok s) (q9z _ _ (2^r.toNat) (by omega) (by rw[q6j];omega) (by unfold q33;simp) (λst hst=>qpi ts n _ _ st hst))
theorem q68(ts:List Told)(n:Nat)(s:Int):(q0z r taps rows e ts n s).length=n+q08 r e+1:=by unfold q0z;rw[q53,q6j]
theorem q67{ts:List Told}{n:Nat}{s:Int}{k:Nat}{t:Rw}(h:(q0z r taps rows e ts n s)[k]? =some t):t.length=2^r.toNat:=by
 have hk:k<=n+q08 r e:=by have:=(List.getElem?_eq_some_iff.mp h).1;rw[q68]at this;omega
 unfold q0z at h;rw[<-List.head?_drop,q3d _ _ k (by rw[q6j];exact hk)]at h;have e1:(q0i ((q18 r taps rows ts n 0 (n+q08 r e)).drop k) (q33 r e s)).headD []=t:=by rw[List.headD_eq_head?_getD,h];rfl
 rw[<-e1];exact q6w (by unfold q33;simp) λz hz=>(qpi ts n _ _ z (List.mem_of_mem_drop hz)).1
theorem qi8(ts:List Told)(n:Nat)(s:Int):(q0z r taps rows e ts n s)[n+q08 r e]? =some (q33 r e s):=by unfold q0z;rw[<-List.head?_drop,q3d _ _ _ (by rw[q6j];exact ja _),List.drop_eq_nil_of_le (by rw[q6j];exact ja _)];rfl
theorem qpj{ts:List Told}{n len k:Nat}(h:k<len):(q18 r taps rows ts n 0 len)[k]? =some (stepK r taps rows ts n k):=by unfold q18;rw[jc,List.getElem?_range' h];simp
theorem qbv{ts:List Told}{n k:Nat}{room:Int}(h0:0<=room)(h1:room<2^r.toNat):(stepK r taps rows ts n k)[room.toNat]? =some ((q2e n k).map λb=>mvK r taps rows ts k room b):=by
 have h4:=q29 (r:=r);have lt:room.toNat<2^r.toNat:=by omega
 unfold L2.stepK;rw[jc,xq lt];simp only[Option.map_some,Int.toNat_of_nonneg h0]
theorem qp5{ts:List Told}{n:Nat}{s:Int}{k:Nat}{t t':Rw}(hk:k<n+q08 r e)(h:(q0z r taps rows e ts n s)[k]? =some t)(h':(q0z r taps rows e ts n s)[k+1]? =some t'){room:Int}(h0:0<=room)(h1:room<2^r.toNat):
 atR t room=q28 ((q2e n k).map λb=>mvK r taps rows ts k room b) t':=by
 unfold q0z at h h';have lt:k<(q18 r taps rows ts n 0 (n+q08 r e)).length:=by rw[q6j];exact hk
 have e2:(q18 r taps rows ts n 0 (n+q08 r e))[k]=stepK r taps rows ts n k:=by have:=qpj (r:=r) (taps:=taps) (rows:=rows) (ts:=ts) (n:=n) hk;rw[jd lt]at this;exact je this
 rw[<-List.head?_drop,q3d _ _ k (by omega),xl lt,e2]at h;rw[<-List.head?_drop,q3d _ _ (k+1) (by omega)]at h';have h:(stepK r taps rows ts n k).map (λch=>q28 ch ((q0i ((q18 r taps rows ts n 0 (n+q08 r e)).drop (k+1)) (q33 r e s)).headD []))=t:=je h;rw[<-h,q9c (qbv h0 h1),List.headD_eq_head?_getD,h'];rfl
theorem qm6(S:D)(k room bit there:Int)(T SG RW:List D)(h1:f_y37 [S,.int room,.int bit]=some (.tup [.int there,.lst SG]))(h2:atI RW there=some .non):f_y47 [S,.int k,.lst T,.int room,.int bit,.lst RW]=some .non:=by unfold f_y47 qho;walk_at "ev"
theorem qm5(S:D)(k room bit there x c:Int)(T SG RW SE Z YD:List D)(Y:List Int)(h1:f_y37 [S,.int room,.int bit]=some (.tup [.int there,.lst SG]))(h2:atI RW there=some (.int x))(hse:f_y38 [S,.int k,.lst SG]=some (.lst SE))(hz:zipD T SE=Z)(lz:Z.length<=sizeLine)
 (cmp:q15 2 [] none (q2i 2 (q0w (gSet 0) (q0w (gSet 1) q2o))) (mRet true) (q0k f_y43 (q01 (mVar 0) (q01 (mVar 1) mNil))) Z [some S,some (.int k),some (.lst T),some (.int room),some (.int bit),some (.lst RW),some (.int there),some (.lst SG)]=some (YD,[some S,some (.int k),some (.lst T),some (.int room),some (.int bit),some (.lst RW),some (.int there),some (.lst SG)])) (hi:q3t YD=some Y) (hsum:Y.sum=c):
 f_y47 [S,.int k,.lst T,.int room,.int bit,.lst RW]=some (.int (x+c)):=by
 unfold f_y47 qho;walk_at "ev"
theorem qoz(ok:q2d r taps rows e)(k:Nat)(ts:List Told)(room bit:Int)(a0:0<=room)(a1:room<2^r.toNat)(hb:bit=0∨bit=1)(t:Rw)(ht:t.length=2^r.toNat):
 f_y47 [schD r taps rows e,.int k,.lst ((chunk taps rows ts k).map q0s),.int room,.int bit,rwD t]=some (optI (q1k (mvK r taps rows ts k room bit) t)):=by
 have hst:=v_y3 ok room bit a0 a1 hb;have pn:=q29 (r:=r);have pp:(0:Int)<2^r.toNat:=Int.pow_pos (by decide);have n0:=Int.emod_nonneg (2*room+bit) (by omega:(2:Int)^r.toNat≠0);have n1:=Int.emod_lt_of_pos (2*room+bit) pp;have hat:=q4y (t:=t) n0 (by rw[ht];omega);have hse:=qbr ok k (taps.map (sgn (2*room+bit))) (by rw[j7];have:=ok.t4;omega);have ec:q1k (mvK r taps rows ts k room bit) t=(atR t ((2*room+bit) % 2^r.toNat)).map λx=>q4t (chunk taps rows ts k) (q38 (rowAt rows k) (taps.map (sgn (2*room+bit))))+x:=rfl;rw[ec];cases q:atR t ((2*room+bit) % 2^r.toNat)with
 | none=>
  rw[q]at hat;exact qm6 _ _ _ _ _ _ _ _ hst hat
 | some x=>
  rw[q]at hat;have hbits:∀b∈q38 (rowAt rows k) (taps.map (sgn (2*room+bit))),b=0∨b=1:=λb hb=>by rw[q5x]at hb;obtain⟨z,_,rfl⟩:=List.mem_map.mp hb;exact qmf _ _
  have lp:(q38 (rowAt rows k) (taps.map (sgn (2*room+bit)))).length<=1000:=by have:=q9v (rowAt rows k) (taps.map (sgn (2*room+bit)));rw[j7]at this;have:=ok.t4;omega
  have hz:zipD ((chunk taps rows ts k).map q0s) ((q38 (rowAt rows k) (taps.map (sgn (2*room+bit)))).map D.int)=((chunk taps rows ts k).zip (q38 (rowAt rows k) (taps.map (sgn (2*room+bit))))).map λq=>D.tup [q0s q.1,.int q.2]:=by rw[q5s,q4z,jk];rfl
  have lz:(((chunk taps rows ts k).zip (q38 (rowAt rows k) (taps.map (sgn (2*room+bit))))).map λq=>D.tup [q0s q.1,.int q.2]).length<=sizeLine:=by rw[j7,xm];exact q1d (by have:=Nat.min_le_right (chunk taps rows ts k).length (q38 (rowAt rows k) (taps.map (sgn (2*room+bit)))).length;omega)
  have cmp:=λρ=>q6h ρ ((chunk taps rows ts k).zip (q38 (rowAt rows k) (taps.map (sgn (2*room+bit))))) λq hq=>hbits q.2 (List.of_mem_zip (show(q.1,q.2)∈_ from hq)).2;have hi:=q35 (((chunk taps rows ts k).zip (q38 (rowAt rows k) (taps.map (sgn (2*room+bit))))).map λq=>q4f q.1 q.2);have:=qm5 _ _ _ _ _ x (q4t (chunk taps rows ts k) (q38 (rowAt rows k) (taps.map (sgn (2*room+bit))))) _ _ _ _ _ _ _ hst hat hse hz lz (cmp _) hi rfl;refine this.trans ?_;show some (D.int _)=some (D.int _);rw[Int.add_comm]
end
theorem qng(R TS RS:D)(s room:Int)(row:D)(h:eqD (.str e) (.str "open")=some true):
 w00 [some (.tup [R,TS,RS,.str e]),some (.int s),some row,some (.int room),some .non]=some (.nx [some (.tup [R,TS,RS,.str e]),some (.int s),some row,some (.int room),some (.int 0)]):=by
 walk_at "ev"
theorem qso(R TS RS:D)(s room:Int)(row:D)(b:Bool)(two:2<=sizeLine)(h:eqD (.str e) (.str "open")=some false)(h2:eqD (.str e) (.str "ring")=some b)(hr:room=if b=true then s else 0):
 w00 [some (.tup [R,TS,RS,.str e]),some (.int s),some row,some (.int room),some .non]=some (.nx [some (.tup [R,TS,RS,.str e]),some (.int s),some row,some (.int room),some (.int 0)]):=by
 cases b with
 | true=>
  replace hr:room=s:=hr;subst hr;walk_at "ev"
 | false=>
  replace hr:room=0:=hr;subst hr;walk_at "ev"
theorem qvs(R TS RS:D)(s room:Int)(row:D)(b:Bool)(two:2<=sizeLine)(h:eqD (.str e) (.str "open")=some false)(h2:eqD (.str e) (.str "ring")=some b)(hr:¬room=if b=true then s else 0):
 w00 [some (.tup [R,TS,RS,.str e]),some (.int s),some row,some (.int room),some .non]=some (.nx [some (.tup [R,TS,RS,.str e]),some (.int s),some row,some (.int room),some .non]):=by
 cases b with
 | true=>
  replace hr:¬room=s:=hr;have hr':(room==s)=false:=beq_eq_false_iff_ne.mpr hr;walk_at "ev"
 | false=>
  replace hr:¬room=0:=hr;have hr':(room==0)=false:=beq_eq_false_iff_ne.mpr hr;walk_at "ev"
theorem qsp(S s row room:D)(v4:Option D):(sSet 4 (mRet .non)) [some S,some s,some row,some room,v4]=some (.nx [some S,some s,some row,some room,some .non]):=by walk_at "ev"
theorem qsr(S s:D)(room:Int)(RW:List D)(d:D)(h:atI RW room=some d)(E:eqD d d=some true)(FX:RhO):
 (sIf w3r FX sNil) [some S,some s,some (.lst RW),some (.int room),some d]=some (.nx [some S,some s,some (.lst RW),some (.int room),some d]):=by
 walk_at "ev"
theorem qsq(r s M:Int)(TS RS en:D)(row:D)(v3 v4:Option D)(FB:RhO)(hs:dShl (.int 1) (.int r)=some (.int M))(bg:big M=true)(l1:q23 (gSet 3) FB (q1f 0 M.toNat) [some (.tup [.int r,TS,RS,en]),some (.int s),some row,none,none]=some (.nx [some (.tup [.int r,TS,RS,en]),some (.int s),some row,v3,v4])):
 (runP false 3 5 (sSeq (sFor (q2u (q01 (mOp2 dShl (mRet (.int 1)) (mOp2 dIx (mVar 0) (mRet (.int 0)))) mNil)) (gSet 3) FB) (sRet (mRet (.bl true))))) [.tup [.int r,TS,RS,en],.int s,row]=some (.bl true):=by
 generalize dShl=SH at hs ⊢;walk_at "ev"
theorem ql8(a:Option Int):eqD (optI a) (optI a)=some true:=by rw[qh5,decide_eq_true rfl]
section
variable{r:Int}{taps:List Int}{rows:List (List Int)}{e:Str}
theorem qid(ok:q2d r taps rows e):dShl (.int 1) (.int r)=some (.int (2^r.toNat)):=by
 have r0:=ok.r0;have r4:=ok.r4;have:r=0∨r=1∨r=2∨r=3∨r=4:=by omega
 rcases this with z|z|z|z|z<;>(subst z;rfl)
theorem qp1(ok:q2d r taps rows e)(s:Int):f_y48 [schD r taps rows e,.int s,rwD (q33 r e s)]=some (.bl true):=by
 have p16:=q3c ok.r0 ok.r4;have pn:=q29 (r:=r);have bg:big ((2:Int)^r.toNat)=true:=by unfold big;simp;omega
 have tn:((2:Int)^r.toNat).toNat=2^r.toNat:=by omega
 obtain⟨ρ',l1,v3,v4,hρ⟩:=q2r (fg:=gSet 3) (fb:=w1t)
  (λk ρ=>∃v3 v4,ρ=[some (schD r taps rows e),some (.int s),some (rwD (q33 r e s)),v3,v4]) (q1f 0 ((2:Int)^r.toNat).toNat) 0 [some (schD r taps rows e),some (.int s),some (rwD (q33 r e s)),none,none] ⟨none,none,rfl⟩ (λi x ρ hx ⟨v3,v4,hρ⟩=>by
    subst hρ;obtain⟨hi,rfl⟩:=q1z hx;rw[Int.zero_add];have hlt:(i:Int)<2^r.toNat:=by omega
    have ha:=q9d (r:=r) (e:=e) (s:=s) (room:=(i:Int)) (by omega) hlt;have hat:atI ((q33 r e s).map optI) (i:Int)=some (optI (atR (q33 r e s) (i:Int))):=q4y (by omega) (by unfold q33;simp;omega);rw[ha]at hat;have hif:w00 [some (schD r taps rows e),some (.int s),some (rwD (q33 r e s)),some (.int (i:Int)),some .non]=some (.nx [some (schD r taps rows e),some (.int s),some (rwD (q33 r e s)),some (.int (i:Int)),some (optI (if e="open"∨(i:Int)=(if e="ring" then s else 0)then some 0 else none))]):=by
     by_cases q:e="open"
     ·rw[if_pos (.inl q)];exact qng _ _ _ _ _ _ (by rw[q];exact o_oo)
     ·have ho:eqD (.str e) (.str "open")=some false:=by
       rcases ok.en with g|g|g
       ·exact absurd g q
       ·rw[g];exact o_eo
       ·rw[g];exact o_ro
      have hr2:eqD (.str e) (.str "ring")=some (decide (e="ring")):=by
       rcases ok.en with g|g|g
       ·exact absurd g q
       ·rw[g];exact s_er
       ·rw[g];exact s_rr
      have hc:(if decide (e="ring")=true then s else 0)=(if e="ring" then s else 0):=by
       by_cases z:e="ring"
       ·rw[decide_eq_true z,if_pos rfl,if_pos z]
       ·rw[decide_eq_false z,if_neg (by decide),if_neg z]
      by_cases z:(i:Int)=(if e="ring" then s else 0)
      ·rw[if_pos (.inr z)];exact qso _ _ _ _ _ _ _ (by decide) ho hr2 (by rw[hc];exact z)
      ·rw[if_neg (λy=>y.elim q z)];exact qvs _ _ _ _ _ _ _ (by decide) ho hr2 (by rw[hc];exact z)
    exact⟨_,_,rfl,.inl ((q1x (qsp _ _ _ _ _)).trans ((q1x hif).trans (qsr _ _ _ _ _ hat (ql8 _) _))),_,_,rfl⟩)
 subst hρ;unfold f_y48 qk8;exact qsq _ _ _ _ _ _ _ _ _ _ (qid ok) bg l1
theorem of_0(S n:D)(T:List D)(N:Int)(v3 v4:Option D)(FX:RhO)(hs:f_y39 [S,n]=some (.int N))(hl:((T.length:Nat):Int)=N+1):
 (sIf w1x FX sNil) [some S,some n,some (.lst T),v3,v4]=some (.nx [some S,some n,some (.lst T),v3,v4]):=by
 walk_at "ev"
theorem of_1(r M:Int)(TS RS en n T:D)(RW:List D)(v4:Option D)(FX:RhO)(hs:dShl (.int 1) (.int r)=some (.int M))(hl:((RW.length:Nat):Int)=M):
 (sIf (mOr w2e (q0g (mOp2 dNe (mOp1 dLen (mVar 3)) (mOp2 dShl (mRet (.int 1)) (mOp2 dIx (mVar 0) (mRet (.int 0))))))) FX sNil) [some (.tup [.int r,TS,RS,en]),some n,some T,some (.lst RW),v4]=some (.nx [some (.tup [.int r,TS,RS,en]),some n,some T,some (.lst RW),v4]):=by
 generalize dShl=SH at hs ⊢;walk_at "ev"
theorem of_2(S n T RW:D)(a:Option Int)(FX:RhO):
 (sIf w1s FX sNil) [some S,some n,some T,some RW,some (optI a)]=some (.nx [some S,some n,some T,some RW,some (optI a)]):=by
 cases a with
 | none=>
  show _=some (Out.nx [_,_,_,_,some .non]);unfold optI;walk_at "ev"
 | some x=>
  show _=some (Out.nx [_,_,_,_,some (.int x)]);unfold optI;walk_at "ev"
theorem qux(S n T:D)(RW:List D)(v4 v4':Option D)(FB:RhO)(h:q23 (gSet 4) FB RW [some S,some n,some T,some (.lst RW),v4]=some (.nx [some S,some n,some T,some (.lst RW),v4'])):
 (sFor (mSeq (mVar 3)) (gSet 4) FB) [some S,some n,some T,some (.lst RW),v4]=some (.nx [some S,some n,some T,some (.lst RW),v4']):=by
 walk_at "ev"
theorem qru(S n:D)(T:List D)(v3 v4:Option D)(FI FB:RhO)(h0:FI [some S,some n,some (.lst T),none,none]=some (.nx [some S,some n,some (.lst T),none,none]))(h:q23 (gSet 3) FB T [some S,some n,some (.lst T),none,none]=some (.nx [some S,some n,some (.lst T),v3,v4])):
 (runP false 3 5 (sSeq FI (sSeq (sFor (mSeq (mVar 2)) (gSet 3) FB) (sRet (mRet (.bl true)))))) [S,n,.lst T]=some (.bl true):=by
 walk_at "ev"
theorem qi2(ok:q2d r taps rows e)(n:Nat)(T:List Rw)(hT:T.length=n+q08 r e+1)(hr:∀t∈T,t.length=2^r.toNat):f_y49 [schD r taps rows e,.int n,tbD T]=some (.bl true):=by
 have pn:=q29 (r:=r);obtain⟨ρ',l1,v3,v4,hρ⟩:=qbf (fg:=gSet 3) (fb:=(sSeq (sIf (mOr w2e (q0g (mOp2 dNe (mOp1 dLen (mVar 3)) (mOp2 dShl (mRet (.int 1)) (mOp2 dIx (mVar 0) (mRet (.int 0)))))))
  (sRet (mRet (.bl false)))
  sNil)
 (sFor (mSeq (mVar 3)) (gSet 4)
   w05)))
   (λρ=>∃v3 v4,ρ=[some (schD r taps rows e),some (.int (n:Int)),some (tbD T),v3,v4]) (T.map rwD) [some (schD r taps rows e),some (.int (n:Int)),some (tbD T),none,none] ⟨none,none,rfl⟩ (λx ρ hx ⟨v3,v4,hρ⟩=>by
     subst hρ;obtain⟨t,ht,rfl⟩:=List.mem_map.mp hx;have hin:∃v4',q23 (gSet 4) w05 (t.map optI) [some (schD r taps rows e),some (.int (n:Int)),some (tbD T),some (.lst (t.map optI)),v4]=some (.nx [some (schD r taps rows e),some (.int (n:Int)),some (tbD T),some (.lst (t.map optI)),v4']):=by
      obtain⟨ρ',l1,v4',hρ⟩:=qbf (fg:=gSet 4) (fb:=w05) (λρ=>∃v4,ρ=[some (schD r taps rows e),some (.int (n:Int)),some (tbD T),some (.lst (t.map optI)),v4]) (t.map optI) [some (schD r taps rows e),some (.int (n:Int)),some (tbD T),some (.lst (t.map optI)),v4] ⟨v4,rfl⟩ (λy ρ hy ⟨v4,hρ⟩=>by subst hρ;obtain⟨a,_,rfl⟩:=List.mem_map.mp hy;exact⟨_,_,rfl,.inl (of_2 _ _ _ _ a _),_,rfl⟩)
      subst hρ;exact⟨v4',l1⟩
     obtain⟨v4',hin⟩:=hin;exact⟨_,_,rfl,.inl ((q1x (of_1 _ _ _ _ _ _ _ _ _ _ (qid ok) (by rw[j7,hr t ht];exact pn))).trans (qux _ _ _ _ _ _ _ hin)),_,_,rfl⟩)
 subst hρ;unfold f_y49 qk7;exact qru _ _ _ _ _ _ _ (of_0 _ _ _ _ _ _ _ (q8r ok n) (by rw[j7,hT];rfl)) l1
theorem wk_0(S n T s LST:D)(TB:List D)(v5 v6 v7 v8 v9:Option D)(FX:RhO)(h1:f_y49 [S,n,.lst TB]=some (.bl true))(h2:atI TB (-1)=some LST)(h3:f_y48 [S,s,LST]=some (.bl true)):
 (sIf w15 FX sNil) [some S,some n,some T,some s,some (.lst TB),v5,v6,v7,v8,v9]=some (.nx [some S,some n,some T,some s,some (.lst TB),v5,v6,v7,v8,v9]):=by
 walk_at "ev"
theorem wk_5(S n T s TB TL:D)(h:f_y46 [S,n,T]=some TL):(sSet 5 (q0k f_y46 w0c)) [some S,some n,some T,some s,some TB,none,none,none,none,none]=some (.nx [some S,some n,some T,some s,some TB,some TL,none,none,none,none]):=by walk_at "ev"
theorem wk_7(S T s TB TL:D)(n' k':Int)(v7 v8 v9:Option D)(two:2<=sizeLine)(n k:Nat)(hn:n'=(n:Nat))(hk:k'=(k:Nat)):
 w2g [some S,some (.int n'),some T,some s,some TB,some TL,some (.int k'),v7,v8,v9]=some (.nx [some S,some (.int n'),some T,some s,some TB,some TL,some (.int k'),some (.lst ((q2e n k).map D.int)),v8,v9]):=by
 unfold q2e;by_cases h:k<n
 ·have h':k'<n':=by omega
  rw[if_pos h];show _=some (Out.nx [_,_,_,_,_,_,_,some (.lst [.int 0,.int 1]),_,_]);clear hn hk h;walk_at "ev"
 ·have h':¬k'<n':=by omega
  rw[if_neg h];show _=some (Out.nx [_,_,_,_,_,_,_,some (.lst [.int 0]),_,_]);clear hn hk h;walk_at "ev"
theorem wk_e(S TL' TB':List D)(SS:D)(k' room b:Int)(c t' y:D)(h1:atI TL' k'=some c)(h2:atI TB' (k'+1)=some t')(h3:f_y47 [SS,.int k',c,.int room,.int b,t']=some y):
 ((q0k f_y47 w02) [some (.int b),some SS,some (.int k'),some (.int room),some (.lst TL'),some (.lst TB')]).map (·.1)=some y:=by
 walk_at "ev"
theorem wk_9(S n T s TB TL k room:D)(BS W:List D)(v9:Option D)(FE:RhD)(lb:BS.length<=sizeLine)(cm:q15 1 [0,6,8,5,4] none (gSet 0) (mRet true) FE BS [some S,some n,some T,some s,some TB,some TL,some k,some (.lst BS),some room,v9]=some (W,[some S,some n,some T,some s,some TB,some TL,some k,some (.lst BS),some room,v9])):
 (sSet 9 (mOf (q1t 1 [0,6,8,5,4] none (mSeq (mVar 7)) (gSet 0) (mRet true) FE))) [some S,some n,some T,some s,some TB,some TL,some k,some (.lst BS),some room,v9]=some (.nx [some S,some n,some T,some s,some TB,some TL,some k,some (.lst BS),some room,some (.lst W)]):=by
 walk_at "ev"
theorem wk_f(S n T s TB TL k BS room:D)(W Z:List D)(FT:RhB)(lw:W.length<=sizeLine)(cf:q15 1 [] none (gSet 0) FT (mVar 0) W [some S,some n,some T,some s,some TB,some TL,some k,some BS,some room,some (.lst W)]=some (Z,[some S,some n,some T,some s,some TB,some TL,some k,some BS,some room,some (.lst W)])):
 (mOf (q1t 1 [] none (mSeq (mVar 9)) (gSet 0) FT (mVar 0))) [some S,some n,some T,some s,some TB,some TL,some k,some BS,some room,some (.lst W)]=some (.lst Z,[some S,some n,some T,some s,some TB,some TL,some k,some BS,some room,some (.lst W)]):=by
 walk_at "ev"
theorem wk_i(S n T s TL BS W:D)(TB T0 Z:List D)(k' room:Int)(y:D)(FC:RhD)(DM:D->Option D)(FX:RhO)(h1:atI TB k'=some (.lst T0))(h2:atI T0 room=some y)
 (hx:FC [some S,some n,some T,some s,some (.lst TB),some TL,some (.int k'),some BS,some (.int room),some W]=some (.lst Z,[some S,some n,some T,some s,some (.lst TB),some TL,some (.int k'),some BS,some (.int room),some W])) (hm:DM (.lst Z)=some y) (E:eqD y y=some true):
 (sIf (q0g (mOp2 dNe w19 (mOp1 DM FC))) FX sNil) [some S,some n,some T,some s,some (.lst TB),some TL,some (.int k'),some BS,some (.int room),some W]=some (.nx [some S,some n,some T,some s,some (.lst TB),some TL,some (.int k'),some BS,some (.int room),some W]):=by
 walk_at "ev"
theorem wk_r(r M:Int)(TS RS en n T s TB TL k BS:D)(v8 v9 v8' v9':Option D)(FB:RhO)(hs:dShl (.int 1) (.int r)=some (.int M))(bg:big M=true)(h:q23 (gSet 8) FB (q1f 0 M.toNat) [some (.tup [.int r,TS,RS,en]),some n,some T,some s,some TB,some TL,some k,some BS,v8,v9]=some (.nx [some (.tup [.int r,TS,RS,en]),some n,some T,some s,some TB,some TL,some k,some BS,v8',v9'])):
 (sFor (q2u (q01 (mOp2 dShl (mRet (.int 1)) (mOp2 dIx (mVar 0) (mRet (.int 0)))) mNil)) (gSet 8) FB) [some (.tup [.int r,TS,RS,en]),some n,some T,some s,some TB,some TL,some k,some BS,v8,v9]=some (.nx [some (.tup [.int r,TS,RS,en]),some n,some T,some s,some TB,some TL,some k,some BS,v8',v9']):=by
 generalize dShl=SH at hs ⊢;walk_at "ev"
theorem wk_n(S n T s TB:D)(TL:List D):(q01 (mOp1 dLen (mVar 5)) mNil) [some S,some n,some T,some s,some TB,some (.lst TL),none,none,none,none]=some ([.int ((TL.length:Nat):Int)],[some S,some n,some T,some s,some TB,some (.lst TL),none,none,none,none]):=by walk_at "ev"
theorem wk_l(S n T s TB TL:D)(X:List D)(v6 v7 v8 v9:Option D)(FI:RhL)(FB:RhO)(hX:FI [some S,some n,some T,some s,some TB,some TL,none,none,none,none]=some (X,[some S,some n,some T,some s,some TB,some TL,none,none,none,none]))(h:q23 (gSet 6) FB X [some S,some n,some T,some s,some TB,some TL,none,none,none,none]=some (.nx [some S,some n,some T,some s,some TB,some TL,v6,v7,v8,v9])):
 (sSeq (sFor FI (gSet 6) FB) (sRet (mRet (.bl true)))) [some S,some n,some T,some s,some TB,some TL,none,none,none,none]=some (.rt (.bl true) [some S,some n,some T,some s,some TB,some TL,v6,v7,v8,v9]):=by
 walk_at "ev"
theorem qm7(ok:q2d r taps rows e)(n k:Nat)(ts:List Told)(T s:D)(TB:List Rw)(t t':Rw)(TL:List D)(room:Int)(a0:0<=room)(a1:room<2^r.toNat)(v9:Option D)
 (hTL:atI TL (k:Int)=some (.lst ((chunk taps rows ts k).map q0s))) (ht:TB[k]? =some t) (ht':TB[k+1]? =some t') (l0:t.length=2^r.toNat) (l1:t'.length=2^r.toNat) (hst:atR t room=q28 ((q2e n k).map λb=>mvK r taps rows ts k room b) t'):
 ∃v9',(sSeq w1o (sIf (q0g (mOp2 dNe w19 (mOp1 q7y w0o)))
 (sRet (mRet (.bl false)))
 sNil)) [some (schD r taps rows e),some (.int (n:Int)),some T,some s,some (tbD TB),some (.lst TL),some (.int (k:Int)),some (.lst ((q2e n k).map D.int)),some (.int room),v9]=some (.nx [some (schD r taps rows e),some (.int (n:Int)),some T,some s,some (tbD TB),some (.lst TL),some (.int (k:Int)),some (.lst ((q2e n k).map D.int)),some (.int room),v9']):=by
 have pn:=q29 (r:=r);have l2:(q2e n k).length<=2:=by unfold q2e;split<;>simp
 have hb:∀b∈q2e n k,b=0∨b=1:=by unfold q2e;split<;>simp
 have hk1:=(List.getElem?_eq_some_iff.mp ht').1;have at0':atI (TB.map rwD) (k:Int)=some (.lst (t.map optI)):=by rw[q37 (by omega) (by rw[j7];omega),jo,jc,ht];rfl
 have at1':atI (TB.map rwD) ((k:Int)+1)=some (rwD t'):=by rw[q37 (by omega) (by rw[j7];omega),show((k:Int)+1).toNat=k+1 from by omega,jc,ht'];rfl
 have atr:atI (t.map optI) room=some (optI (atR t room)):=q4y a0 (by rw[l0];omega);have cm:=q42 (n:=1) (js:=[0,6,8,5,4]) (fg:=gSet 0) (fe:=q0k f_y47 w02)
  (ρ:=[some (schD r taps rows e),some (.int (n:Int)),some T,some s,some (tbD TB),some (.lst TL),some (.int (k:Int)),some (.lst ((q2e n k).map D.int)),some (.int room),v9])
  (λd=>match d with|.int b=>optI (q1k (mvK r taps rows ts k room b) t')|d=>d) ((q2e n k).map D.int) (λx hx=>by obtain⟨b,hm,rfl⟩:=List.mem_map.mp hx;exact⟨_,rfl,wk_e [] _ _ _ _ _ _ _ _ _ hTL at1' (qoz ok k ts room b a0 a1 (hb b hm) t' l1)⟩)
 have e1:((q2e n k).map D.int).map (λd=>match d with|.int b=>optI (q1k (mvK r taps rows ts k room b) t')|d=>d)=(((q2e n k).map λb=>mvK r taps rows ts k room b).map λq=>q1k q t').map optI:=by rw[jk,jk,jk];rfl
 rw[e1]at cm;have lw:((((q2e n k).map λb=>mvK r taps rows ts k room b).map λq=>q1k q t').map optI).length<=2:=by rw[j7,j7,j7];exact l2
 have cf:=q4c (n:=1) (js:=[]) (fg:=gSet 0) (ft:=q0g (mOp2 q56 (mVar 0) (mRet .non))) (fe:=mVar 0) (ρ:=[some (schD r taps rows e),some (.int (n:Int)),some T,some s,some (tbD TB),some (.lst TL),some (.int (k:Int)),some (.lst ((q2e n k).map D.int)),some (.int room),some (.lst ((((q2e n k).map λb=>mvK r taps rows ts k room b).map λq=>q1k q t').map optI))])
  (λd=>match d with|.non=>false|_=>true) (λd=>d) ((((q2e n k).map λb=>mvK r taps rows ts k room b).map λq=>q1k q t').map optI) (λx hx=>by
    obtain⟨o,_,rfl⟩:=List.mem_map.mp hx;refine⟨[some (optI o)],rfl,?_,λ_=>rfl⟩;cases o with
    |none=>rfl
    |some y=>rfl)
 have e2:∀zs:List D,zs.map (λd=>d)=zs:=λzs=>by simp
 rw[e2]at cf;have cf:=cf.trans (congrArg (λz=>some (z,_)) (q6x _));have hmin:q7y (.lst (((((q2e n k).map λb=>mvK r taps rows ts k room b).map λq=>q1k q t').filterMap id).map D.int))=some (optI (atR t room)):=by rw[hst];show(q3t _).map (λns=>optI (minI ns))=_;rw[q35];rfl
 exact⟨_,(q1x (wk_9 _ _ _ _ _ _ _ _ _ _ _ _ (q1d (by rw[j7];omega)) cm)).trans (wk_i _ _ _ _ _ _ _ _ _ _ _ _ _ _ _ _ at0' atr (wk_f _ _ _ _ _ _ _ _ _ _ _ _ (q1d (by omega)) cf) hmin (ql8 _))⟩
theorem qi0(ok:q2d r taps rows e)(n:Nat)(hn:n<=60)(ts:List Told)(hl:ts.length=(q0e taps rows (n+q08 r e)).length)(s:Int):
 f_y50 [schD r taps rows e,.int n,.lst (ts.map q0s),.int s,tbD (q0z r taps rows e ts n s)]=some (.bl true):=by
 have p16:=q3c ok.r0 ok.r4;have pn:=q29 (r:=r);have z4:=q2j ok;have bgM:big ((2:Int)^r.toNat)=true:=by unfold big;simp;omega
 have tn:((2:Int)^r.toNat).toNat=2^r.toNat:=by omega
 have hform:=qi2 ok n (q0z r taps rows e ts n s) (q68 ts n s) (λt ht=>by obtain⟨k,hk⟩:=List.getElem?_of_mem ht;exact q67 hk)
 have hlast:atI ((q0z r taps rows e ts n s).map rwD) (-1)=some (rwD (q33 r e s)):=by have e1:=take_snoc (qi8 (r:=r) (taps:=taps) (rows:=rows) (e:=e) ts n s);rw[List.take_of_length_le (by rw[q68];exact ja _)]at e1;rw[e1,x8];exact qhr _ _
 have htl:=q75 ok n hn ts hl;have hat:∀k,k<n+q08 r e->atI ((List.range (n+q08 r e)).map λk=>D.lst ((chunk taps rows ts k).map q0s)) (k:Int)=some (.lst ((chunk taps rows ts k).map q0s)):=λk hk=>by rw[q37 (by omega) (by rw[j7,List.length_range];omega),jo,jc,xq hk];rfl
 generalize (List.range (n+q08 r e)).map (λk=>D.lst ((chunk taps rows ts k).map q0s))=TL at htl hat;have lTL:TL.length=n+q08 r e:=by have:=congrArg (λd=>match d with|some (D.lst x)=>x.length|_=>0) (htl.symm.trans (q75 ok n hn ts hl));simpa using this
 obtain⟨ρ',l1,v6,v7,v8,v9,hρ⟩:=q2r (fg:=gSet 6) (fb:=(sSeq w2g
 (sFor (q2u (q01 (mOp2 dShl (mRet (.int 1)) (mOp2 dIx (mVar 0) (mRet (.int 0)))) mNil)) (gSet 8)
   (sSeq w1o (sIf (q0g (mOp2 dNe w19 (mOp1 q7y w0o)))
   (sRet (mRet (.bl false)))
   sNil)))))
   (λk ρ=>∃v6 v7 v8 v9,ρ=[some (schD r taps rows e),some (.int (n:Int)),some (.lst (ts.map q0s)),some (.int s),some (tbD (q0z r taps rows e ts n s)),some (.lst TL),v6,v7,v8,v9]) (q1f 0 (n+q08 r e)) 0
   [some (schD r taps rows e),some (.int (n:Int)),some (.lst (ts.map q0s)),some (.int s),some (tbD (q0z r taps rows e ts n s)),some (.lst TL),none,none,none,none] ⟨none,none,none,none,rfl⟩ (λi x ρ hx ⟨v6,v7,v8,v9,hρ⟩=>by
    subst hρ;obtain⟨hi,rfl⟩:=q1z hx;rw[Int.zero_add];have zc:=q68 (r:=r) (taps:=taps) (rows:=rows) (e:=e) ts n s;have ht:(q0z r taps rows e ts n s)[i]? =some (q0z r taps rows e ts n s)[i]:=jd (by omega);have ht':(q0z r taps rows e ts n s)[i+1]? =some (q0z r taps rows e ts n s)[i+1]:=jd (by omega);obtain⟨ρ',m1,v8',v9',hρ⟩:=q2r (fg:=gSet 8) (fb:=(sSeq w1o (sIf (q0g (mOp2 dNe w19 (mOp1 q7y w0o))) (sRet (mRet (.bl false))) sNil)))
     (λk ρ=>∃v8 v9,ρ=[some (schD r taps rows e),some (.int (n:Int)),some (.lst (ts.map q0s)),some (.int s),some (tbD (q0z r taps rows e ts n s)),some (.lst TL),some (.int (i:Int)),some (.lst ((q2e n i).map D.int)),v8,v9]) (q1f 0 ((2:Int)^r.toNat).toNat) 0
     [some (schD r taps rows e),some (.int (n:Int)),some (.lst (ts.map q0s)),some (.int s),some (tbD (q0z r taps rows e ts n s)),some (.lst TL),some (.int (i:Int)),some (.lst ((q2e n i).map D.int)),v8,v9] ⟨v8,v9,rfl⟩ (λj x ρ hx ⟨v8,v9,hρ⟩=>by
      subst hρ;obtain⟨hj,rfl⟩:=q1z hx;rw[Int.zero_add];have hlt:(j:Int)<2^r.toNat:=by omega
      obtain⟨v9',hv⟩:=qm7 ok n i ts (.lst (ts.map q0s)) (.int s) (q0z r taps rows e ts n s) _ _ TL (j:Int) (by omega) hlt v9 (hat i hi) ht ht' (q67 ht) (q67 ht') (qp5 hi ht ht' (by omega) hlt);exact⟨_,_,rfl,.inl hv,_,_,rfl⟩)
    subst hρ;exact⟨_,_,rfl,.inl ((q1x (wk_7 _ _ _ _ _ _ _ _ _ _ (by decide) n i rfl rfl)).trans (wk_r _ _ _ _ _ _ _ _ _ _ _ _ _ _ _ _ _ (qid ok) bgM m1)),_,_,_,_,rfl⟩)
 subst hρ;have bg:big ((n+q08 r e:Nat):Int)=true:=by unfold big;simp;omega
 refine qbx rfl ⟨_,(q1x (wk_0 _ _ _ _ _ _ _ _ _ _ _ _ hform hlast (qp1 ok s))).trans<|(q1x (wk_5 _ _ _ _ _ _ htl)).trans<|wk_l _ _ _ _ _ _ _ _ _ _ _ _ _ (qfh (wk_n _ _ _ _ _ _) (by rw[lTL];exact bg)) (by rw[lTL,jo];exact l1)⟩
end
section
variable{r:Int}{taps:List Int}{rows:List (List Int)}{e:Str}
theorem fi_9(S n T s TB TL room WD k:D)(v9:Option D):(sSet 9 (mRet (.int 1))) [some S,some n,some T,some s,some TB,some TL,some room,some WD,some k,v9]=some (.nx [some S,some n,some T,some s,some TB,some TL,some room,some WD,some k,some (.int 1)]):=by walk_at "ev"
theorem qvv(S n T s WD:D)(TB TL T0:List D)(k' room bit:Int)(c t' x y:D)(b:Bool)(h1:atI TL k'=some c)(h2:atI TB (k'+1)=some t')(h3:f_y47 [S,.int k',c,.int room,.int 0,t']=some x)(h4:atI TB k'=some (.lst T0))(h5:atI T0 room=some y)(he:eqD x y=some b)(hb:bit=if b=true then 0 else 1):
 w04 [some S,some n,some T,some s,some (.lst TB),some (.lst TL),some (.int room),some WD,some (.int k'),some (.int 1)]=some (.nx [some S,some n,some T,some s,some (.lst TB),some (.lst TL),some (.int room),some WD,some (.int k'),some (.int bit)]):=by
 cases b with
 | true=>
  replace hb:bit=0:=hb;subst hb;walk_at "ev"
 | false=>
  replace hb:bit=1:=hb;subst hb;walk_at "ev"
theorem fi_7(S n T s TB TL room k b:D)(WD:List D)(l:WD.length<sizeLine):(sMut q2c 7 (q01 (mVar 9) mNil)) [some S,some n,some T,some s,some TB,some TL,some room,some (.lst WD),some k,some b]=some (.nx [some S,some n,some T,some s,some TB,some TL,some room,some (.lst (WD++[b])),some k,some b]):=by walk_at "ev"
theorem fi_6(S n T s TB TL room WD k b nx g:D)(h:f_y37 [S,room,b]=some (.tup [nx,g])):w17 [some S,some n,some T,some s,some TB,some TL,some room,some WD,some k,some b]=some (.nx [some S,some n,some T,some s,some TB,some TL,some nx,some WD,some k,some b]):=by walk_at "ev"
theorem qt7(S T s TB TL room:D)(n':Int)(W:List D)(v8 v9:Option D)(FB:RhO)(z0:0<=sizeLine)(bg:big n'=true)(htl:f_y46 [S,.int n',T]=some TL)(l1:q23 (gSet 8) FB (q1f 0 n'.toNat) [some S,some (.int n'),some T,some s,some TB,some TL,some s,some (.lst []),none,none]=some (.nx [some S,some (.int n'),some T,some s,some TB,some TL,some room,some (.lst W),v8,v9])):
 (runP true 5 10 (sSeq (sSet 5 (q0k f_y46 w0c)) (sSeq (sSet 6 (mVar 3)) (sSeq (sOwn 7 (mLst mNil)) (sSeq (sFor (q2u (q01 (mVar 1) mNil)) (gSet 8) FB) (q5v 7)))))) [S,.int n',T,s,TB]=some (.lst W):=by
 walk_at "ev"
theorem qma(ok:q2d r taps rows e)(n:Nat)(hn:n<=60)(ts:List Told)(hl:ts.length=(q0e taps rows (n+q08 r e)).length)(s:Int)(hs:0<=s/\s<2^r.toNat):
 f_y51 [schD r taps rows e,.int n,.lst (ts.map q0s),.int s,tbD (q0z r taps rows e ts n s)]=some (.lst ((q30 n (q18 r taps rows ts n 0 (n+q08 r e)) (q0z r taps rows e ts n s) s).map D.int)):=by
 have p16:=q3c ok.r0 ok.r4;have pn:=q29 (r:=r);have pp:(0:Int)<2^r.toNat:=Int.pow_pos (by decide);have z4:=q2j ok;have zc:=q68 (r:=r) (taps:=taps) (rows:=rows) (e:=e) ts n s;have htl:=q75 ok n hn ts hl;have hat:∀k,k<n+q08 r e->atI ((List.range (n+q08 r e)).map λk=>D.lst ((chunk taps rows ts k).map q0s)) (k:Int)=some (.lst ((chunk taps rows ts k).map q0s)):=λk hk=>by rw[q37 (by omega) (by rw[j7,List.length_range];omega),jo,jc,xq hk];rfl
 generalize (List.range (n+q08 r e)).map (λk=>D.lst ((chunk taps rows ts k).map q0s))=TL at htl hat;obtain⟨ρ',l1,zf,room,v8,v9,hρ,lw,hr,hg⟩:=q2r (fg:=gSet 8) (fb:=w2h)
  (λk ρ=>∃(zf:List Int) (room:Int) (v8 v9:Option D),ρ=[some (schD r taps rows e),some (.int (n:Int)),some (.lst (ts.map q0s)),some (.int s),some (tbD (q0z r taps rows e ts n s)),some (.lst TL),some (.int room),some (.lst (zf.map D.int)),v8,v9]/\zf.length=k/\(0<=room/\room<2^r.toNat)/\zf++q30 (n-k) ((q18 r taps rows ts n 0 (n+q08 r e)).drop k) ((q0z r taps rows e ts n s).drop k) room=q30 n (q18 r taps rows ts n 0 (n+q08 r e)) (q0z r taps rows e ts n s) s)
  (q1f 0 n) 0 [some (schD r taps rows e),some (.int (n:Int)),some (.lst (ts.map q0s)),some (.int s),some (tbD (q0z r taps rows e ts n s)),some (.lst TL),some (.int s),some (.lst []),none,none] ⟨[],s,none,none,rfl,rfl,hs,rfl⟩ (λi x ρ hx ⟨zf,room,v8,v9,hρ,lw,hr,hg⟩=>by
    subst hρ;rw[jz]at*;obtain⟨hi,rfl⟩:=q1z hx;rw[Int.zero_add];have hN:i<n+q08 r e:=by omega
    have ht:(q0z r taps rows e ts n s)[i]? =some (q0z r taps rows e ts n s)[i]:=jd (by omega);have ht':(q0z r taps rows e ts n s)[i+1]? =some (q0z r taps rows e ts n s)[i+1]:=jd (by omega);have ed:(q18 r taps rows ts n 0 (n+q08 r e)).drop i=stepK r taps rows ts n i::(q18 r taps rows ts n 0 (n+q08 r e)).drop (i+1):=by rw[xl (by rw[q6j];exact hN)];congr 1;have:=qpj (r:=r) (taps:=taps) (rows:=rows) (ts:=ts) (n:=n) hN;rw[jd (by rw[q6j];exact hN)]at this;exact je this
    have et:(q0z r taps rows e ts n s).drop i=(q0z r taps rows e ts n s)[i]::(q0z r taps rows e ts n s).drop (i+1):=xl (by omega);have et2:((q0z r taps rows e ts n s).drop (i+1)).headD []=(q0z r taps rows e ts n s)[i+1]:=by rw[xl (by omega)];rfl
    generalize (q0z r taps rows e ts n s)[i]=t at ht et;generalize (q0z r taps rows e ts n s)[i+1]=t' at ht' et2;have ech:chAt (stepK r taps rows ts n i) room=[mvK r taps rows ts i room 0,mvK r taps rows ts i room 1]:=by rw[q4w (qbv hr.1 hr.2)];unfold q2e;rw[if_pos hi];rfl
    have en:n-i=(n-(i+1))+1:=by omega
    rw[en,ed,et,q4h,et2,ech]at hg;have a4:atI ((q0z r taps rows e ts n s).map rwD) ((i:Int)+1)=some (rwD t'):=by rw[q37 (by omega) (by rw[j7];omega),show((i:Int)+1).toNat=i+1 from by omega,jc,ht'];rfl
    have a5:atI ((q0z r taps rows e ts n s).map rwD) (i:Int)=some (.lst (t.map optI)):=by rw[q37 (by omega) (by rw[j7];omega),jo,jc,ht];rfl
    have a6:atI (t.map optI) room=some (optI (atR t room)):=q4y hr.1 (by rw[q67 ht];omega);have hway:=qoz ok i ts room 0 hr.1 hr.2 (.inl rfl) t' (q67 ht');have he2:=qh5 (q1k (mvK r taps rows ts i room 0) t') (atR t room);have hbit:q4l (stepK r taps rows ts n i) t t' room=if decide (q1k (mvK r taps rows ts i room 0) t'=atR t room)=true then 0 else 1:=by
     unfold q4l;rw[ech];by_cases z:q1k (mvK r taps rows ts i room 0) t'=atR t room
     ·rw[if_pos (by exact z),decide_eq_true z];rfl
     ·rw[if_neg (by exact z),decide_eq_false z];rfl
    have hb01:q4l (stepK r taps rows ts n i) t t' room=0∨q4l (stepK r taps rows ts n i) t t' room=1:=by
     rw[hbit];split
     ·exact .inl rfl
     ·exact .inr rfl
    generalize q4l (stepK r taps rows ts n i) t t' room=bit at hg hbit hb01;have hnx:([mvK r taps rows ts i room 0,mvK r taps rows ts i room 1].getD bit.toNat (0,0)).1=(2*room+bit) % 2^r.toNat:=by
     rcases hb01 with z|z
     ·rw[z];rfl
     ·rw[z];rfl
    rw[hnx]at hg;have n0:=Int.emod_nonneg (2*room+bit) (by omega:(2:Int)^r.toNat≠0);have n1:=Int.emod_lt_of_pos (2*room+bit) pp;refine⟨_,[some (schD r taps rows e),some (.int (n:Int)),some (.lst (ts.map q0s)),some (.int s),some (tbD (q0z r taps rows e ts n s)),some (.lst TL),some (.int ((2*room+bit) % 2^r.toNat)),some (.lst ((zf++[bit]).map D.int)),some (.int (i:Int)),some (.int bit)],rfl,.inl ?_,zf++[bit],_,_,_,rfl,by rw[jh,lw];rfl,⟨n0,n1⟩,by rw[List.append_assoc];exact hg⟩;refine(q1x (fi_9 _ _ _ _ _ _ _ _ _ _)).trans ?_;refine(q1x (qvv _ _ _ _ _ _ _ _ _ _ bit _ _ _ _ _ (hat i hN) a4 hway a5 a6 he2 hbit)).trans ?_;refine(q1x (fi_7 _ _ _ _ _ _ _ _ _ _ (by rw[j7,lw];exact jn (by omega:i<2000) (by decide)))).trans ?_;rw[x8];exact fi_6 _ _ _ _ _ _ _ _ _ _ _ _ (v_y3 ok room bit hr.1 hr.2 hb01))
 subst hρ;rw[q1s,jz]at lw hg;rw[Nat.sub_self]at hg;have hg:zf++[]=q30 n (q18 r taps rows ts n 0 (n+q08 r e)) (q0z r taps rows e ts n s) s:=hg;rw[List.append_nil]at hg;rw[<-hg];have bg:big (n:Int)=true:=by unfold big;simp;omega
 unfold f_y51 qk6;exact qt7 _ _ _ _ _ _ _ _ _ _ _ (by decide) bg htl (by rw[jo];exact l1)
theorem qmd(r' M:Int)(TS RS:D)(Y:List D)(h:eqD (.str e) (.str "ring")=some true)(hs:dShl (.int 1) (.int r')=some (.int M))(hy:upsO (.int M)=some Y):f_y52 [.tup [.int r',TS,RS,.str e]]=some (.lst Y):=by unfold f_y52 qhn;generalize upsO=uo at hy ⊢;generalize dShl=SH at hs ⊢;walk_at "ev"
theorem qic(R TS RS:D)(one:1<=sizeLine)(h:eqD (.str e) (.str "ring")=some false):f_y52 [.tup [R,TS,RS,.str e]]=some (.lst [.int 0]):=by unfold f_y52 qhn;generalize dShl=SH;walk_at "ev"
theorem qi1(ok:q2d r taps rows e):f_y52 [schD r taps rows e]=some (.lst ((q1g r e).map D.int)):=by
 have p16:=q3c ok.r0 ok.r4;have pn:=q29 (r:=r);unfold q1g;by_cases q:e="ring"
 ·rw[if_pos q];refine qmd _ _ _ _ _ (by rw[q];exact s_rr) (qid ok) ?_;have tn:((2:Int)^r.toNat).toNat=2^r.toNat:=by omega
  show(if(0:Int)<=2^r.toNat/\(2:Int)^r.toNat<=1000000 then some ((ups (2^r.toNat)).map D.int)else none)=_;rw[if_pos ⟨by omega,by omega⟩];unfold ups;rw[tn]
 ·rw[if_neg q];refine qic _ _ _ (by decide) ?_;rcases ok.en with g|g|g
  ·rw[g];exact s_or
  ·rw[g];exact s_er
  ·exact absurd g q
theorem iw_e(b:Int)(h0:0<=b)(h1:b<=1):(w0l [some (.int b)]).map (·.1)=some (.bl true):=by walk_at "ev"
theorem qsy(W Y:List D)(n':Int)(FE:RhD)(DA:D->Option D)(hn:((W.length:Nat):Int)=n')(lw:W.length<=sizeLine)(cm:q15 1 [] none (gSet 0) (mRet true) FE W [some (.lst W),some (.int n')]=some (Y,[some (.lst W),some (.int n')]))(ha:DA (.lst Y)=some (.bl true)):
 (runP false 2 2 (sSeq w1l (sRet (mOp1 DA (mOf (q1t 1 [] none (mSeq (mVar 0)) (gSet 0) (mRet true) FE)))))) [.lst W,.int n']=some (.bl true):=by
 subst hn;walk_at "ev"
theorem qu0:∀k:Nat,dAll (.lst (List.replicate k (.bl true)))=some (.bl true):=λk=>by have h:=q8n (List.replicate k true);rw[List.map_replicate]at h;show(q4x (List.replicate k (.bl true))).map _=_;rw[h];simp
theorem map_one{x:D}:∀xs:List D,xs.map (λ_=>x)=List.replicate xs.length x
 |[]=>rfl
 |_::xs=>by rw[ju,map_one xs];rfl
theorem qi3(w:List Int)(hb:Bits w)(n:Nat)(hl:w.length=n)(hn:n<=1000):f_y53 [.lst (w.map D.int),.int n]=some (.bl true):=by
 have cm:=q42 (n:=1) (js:=[]) (fg:=gSet 0) (fe:=w0l) (ρ:=[some (.lst (w.map D.int)),some (.int (n:Int))]) (λ_=>.bl true) (w.map D.int) (λx hx=>by obtain⟨b,hm,rfl⟩:=List.mem_map.mp hx;have:=hb b hm;exact⟨_,rfl,iw_e b (by omega) (by omega)⟩)
 rw[map_one]at cm;unfold f_y53 qk5;exact qsy _ _ _ _ _ (by rw[j7,hl]) (q1d (by rw[j7];omega)) cm (qu0 _)
theorem qrx(S W C:D)(SE Y:List D)(FE:RhD)(hse:f_y42 [S,W]=some (.lst SE))(ls:SE.length<=sizeLine)(cm:q15 1 [] none (gSet 0) (mRet true) FE SE [some S,some W,some C,none,none,none]=some (Y,[some S,some W,some C,none,none,none])):
 (sOwn 3 (q1t 1 [] none w3i (gSet 0) (mRet true) FE)) [some S,some W,some C,none,none,none]=some (.nx [some S,some W,some C,some (.lst Y),none,none]):=by
 walk_at "ev"
theorem nn_e(b:D)(two:2<=sizeLine):(w25 [some b]).map (·.1)=some (.tup [.str "clear",b]):=by walk_at "ev"
theorem quy(S W C F i:D)(c:Int)(T:D)(hs:f_y44 [.int c]=some T):(q0k f_y44 (q01 (mVar 5) mNil)) [some S,some W,some C,some F,some i,some (.int c)]=some (T,[some S,some W,some C,some F,some i,some (.int c)]):=by walk_at "ev"
theorem qrw(S W C c:D)(i:Int)(F:List D)(m:Nat)(T:D)(FM:RhD)(hm:FM [some S,some W,some C,some (.lst F),some (.int i),some c]=some (T,[some S,some W,some C,some (.lst F),some (.int i),some c]))(hi:ixN F.length i=some m):
 (qat 3 FM (mVar 4)) [some S,some W,some C,some (.lst F),some (.int i),some c]=some (.nx [some S,some W,some C,some (.lst (F.set m T)),some (.int i),some c]):=by
 rw[qcm,hm];show((ixN F.length i).map λm=>D.lst (F.set m T)).map _=_;rw[hi];rfl
theorem qrv(S W C F F':D)(i c:Int)(FX:RhO)(hy:c % 4=0)(hset:FX [some S,some W,some C,some F,some (.int i),some (.int c)]=some (.nx [some S,some W,some C,some F',some (.int i),some (.int c)])):
 (sIf w11 FX sNil) [some S,some W,some C,some F,some (.int i),some (.int c)]=some (.nx [some S,some W,some C,some F',some (.int i),some (.int c)]):=by
 walk_at "ev"
theorem quz(S W C:D)(i c y:Int)(F:D)(FX:RhO)(hy:c % 4=y)(hn:(y==0)=false):
 (sIf w11 FX sNil) [some S,some W,some C,some F,some (.int i),some (.int c)]=some (.nx [some S,some W,some C,some F,some (.int i),some (.int c)]):=by
 walk_at "ev"
theorem qry(S W:D)(C C1 Y F:List D)(v4 v5:Option D)(FO FB:RhO)(h0:FO [some S,some W,some (.lst C),none,none,none]=some (.nx [some S,some W,some (.lst C),some (.lst Y),none,none]))(sl:dSl (.lst C) none (some ((Y.length:Nat):Int))=some (.lst C1))(h:q23 (q2i 2 (q0w (gSet 4) (q0w (gSet 5) q2o))) FB (q6g C1) [some S,some W,some (.lst C),some (.lst Y),none,none]=some (.nx [some S,some W,some (.lst C),some (.lst F),v4,v5])):
 (runP true 3 6 (sSeq FO (sSeq (sFor w3h (q2i 2 (q0w (gSet 4) (q0w (gSet 5) q2o))) FB) (q5v 3)))) [S,W,.lst C]=some (.lst F):=by
 walk_at "ev"
theorem qp0(ok:q2d r taps rows e)(w:List Int)(hb:Bits w)(hw:e="ring"->r.toNat<=w.length)(hl:w.length<=60)(cs:List Int):∃ts:List Told,f_y54 [schD r taps rows e,.lst (w.map D.int),.lst (cs.map D.int)]=some (.lst (ts.map q0s))/\ts.length=(q0e taps rows (w.length+q08 r e)).length:=by
 have hse:=qkv ok w hb hw hl;have lS:(q5j (isRing e) r.toNat taps rows w (w.length+q08 r e)).length=(q0e taps rows (w.length+q08 r e)).length:=(qb1 w _).symm;have z4:=q2j ok;have hm4:(q0e taps rows (w.length+q08 r e)).length<=256:=by
  have s4:∀k,(selK taps rows k).length<=4:=λk=>by unfold selK;refine jr (List.length_filter_le _ _) ?_;rw[xm];have:=ok.t4;have:=xi taps.length (rowAt rows k).length;omega
  have q1:(q0e taps rows (w.length+q08 r e)).length<=(w.length+q08 r e)*4:=q41 _ 4 (λk=>by rw[ji];exact s4 k) _;omega
 rw[<-lS]at hm4 ⊢;generalize q5j (isRing e) r.toNat taps rows w (w.length+q08 r e)=sv at hse hm4 ⊢;have cm:=q42 (n:=1) (js:=[]) (fg:=gSet 0) (fe:=w25) (ρ:=[some (schD r taps rows e),some (.lst (w.map D.int)),some (.lst (cs.map D.int)),none,none,none]) (λd=>D.tup [.str "clear",d]) (sv.map D.int) (λx hx=>⟨_,rfl,nn_e x (by decide)⟩);have ey:(sv.map D.int).map (λd=>D.tup [.str "clear",d])=(sv.map Told.clear).map q0s:=by rw[jk,jk];rfl
 rw[ey]at cm;have h0:=qrx _ _ _ _ _ _ hse (q1d (by rw[j7];omega)) cm;have sl:dSl (.lst (cs.map D.int)) none (some ((((sv.map Told.clear).map q0s).length:Nat):Int))=some (.lst ((cs.take sv.length).map D.int)):=by rw[qbh (by omega),jo,j7,j7,List.map_take]
 obtain⟨ρ',l1,ts,v4,v5,hρ,lt⟩:=q2r (fg:=q2i 2 (q0w (gSet 4) (q0w (gSet 5) q2o))) (fb:=w38) (λk ρ=>∃(ts:List Told) (v4 v5:Option D),ρ=[some (schD r taps rows e),some (.lst (w.map D.int)),some (.lst (cs.map D.int)),some (.lst (ts.map q0s)),v4,v5]/\ts.length=sv.length) (q6g ((cs.take sv.length).map D.int)) 0
  [some (schD r taps rows e),some (.lst (w.map D.int)),some (.lst (cs.map D.int)),some (.lst ((sv.map Told.clear).map q0s)),none,none] ⟨sv.map Told.clear,none,none,rfl,j7 ..⟩ (λi x ρ hx ⟨ts,v4,v5,hρ,lt⟩=>by
   subst hρ;rw[q7w,jc]at hx;cases hq:(cs.take sv.length)[i]? with
   |none=>rw[hq]at hx;cases hx
   | some c=>
    rw[hq]at hx;cases hx;have hi:i<sv.length:=by have:=(List.getElem?_eq_some_iff.mp hq).1;rw[xh]at this;omega
    by_cases z:c % 4=0
    ·obtain⟨t,hs⟩:=qku c;have hix:ixN (ts.map q0s).length (i:Int)=some i:=by
      unfold ixN;rw[j7,if_pos (by omega),if_pos (by omega)];simp
     refine⟨_,_,rfl,.inl (qrv _ _ _ _ _ _ _ _ z (qrw _ _ _ _ _ _ _ _ _ (quy _ _ _ _ _ _ _ hs) hix)),ts.set i t,_,_,by rw[List.map_set],by rw[x9,lt]⟩
    ·exact⟨_,_,rfl,.inl (quz _ _ _ _ _ _ _ _ rfl (beq_eq_false_iff_ne.mpr z)),ts,_,_,rfl,lt⟩)
 subst hρ;refine⟨ts,?_,lt⟩;unfold f_y54 qk4;exact qry _ _ _ _ _ _ _ _ _ _ h0 sl l1
end
theorem l0(N HS:List D)(c0:Int)(hc0:f_y34 [.lst N,.int 0]=some (.int c0))(hhs:f_y35 [.int c0,.int 6]=some (.lst HS)):
 w22 [some (.lst N),none,none,none,none,none,none,none,none]=some (.nx [some (.lst N),some (.lst HS),none,none,none,none,none,none,none]):=by
 walk_at "ev"
theorem l1(N HS:List D)(S:D)(x0 x5 y8 top:Int)(two:2<=sizeLine)(a0:atI HS 0=some (.int x0))(a5:atI HS 5=some (.int x5))(h8:x5 % 8=y8)(etop:atI [D.int 3,D.int 4] (if y8=0 then 1 else 0)=some (.int top))(hsch:f_y36 [.int x0,.int top]=some S):
 w0r [some (.lst N),some (.lst HS),none,none,none,none,none,none,none]=some (.nx [some (.lst N),some (.lst HS),some S,none,none,none,none,none,none]):=by
 walk_at "ev"
theorem l2(N HS:List D)(x1:Int)(S:D)(a1:atI HS 1=some (.int x1)):
 w32 [some (.lst N),some (.lst HS),some S,none,none,none,none,none,none]=some (.nx [some (.lst N),some (.lst HS),some S,some (.int (x1 % 11)),none,none,none,none,none]):=by
 walk_at "ev"
theorem l3n(N HS:List D)(R TS RS n:D)(e:Str)(FX:RhO)(h:eqD (.str e) (.str "ring")=some false):
 (sIf w0y FX sNil) [some (.lst N),some (.lst HS),some (.tup [R,TS,RS,.str e]),some n,none,none,none,none,none]=some (.nx [some (.lst N),some (.lst HS),some (.tup [R,TS,RS,.str e]),some n,none,none,none,none,none]):=by
 walk_at "ev"
theorem l3a(N HS:List D)(r n' a:Int)(TS RS en:D)(ha:(if r>n' then r else n')=a):(mMM (λi j=>if j>i then j else i) w1y) [some (.lst N),some (.lst HS),some (.tup [.int r,TS,RS,en]),some (.int n'),none,none,none,none,none]=some (.int a,[some (.lst N),some (.lst HS),some (.tup [.int r,TS,RS,en]),some (.int n'),none,none,none,none,none]):=by rw[<-ha];clear ha;walk_at "ev"
theorem l3b(N HS:List D)(r n' a b m':Int)(TS RS en:D)(FA:RhD)(hb:12-r-r / 4=b)(hm:(if b<a then b else a)=m')(hA:FA [some (.lst N),some (.lst HS),some (.tup [.int r,TS,RS,en]),some (.int n'),none,none,none,none,none]=some (.int a,[some (.lst N),some (.lst HS),some (.tup [.int r,TS,RS,en]),some (.int n'),none,none,none,none,none])):
 (mMM (λi j=>if j<i then j else i) (q01 FA (q01 w06 mNil))) [some (.lst N),some (.lst HS),some (.tup [.int r,TS,RS,en]),some (.int n'),none,none,none,none,none]=some (.int m',[some (.lst N),some (.lst HS),some (.tup [.int r,TS,RS,en]),some (.int n'),none,none,none,none,none]):=by
 rw[<-hm];clear hm;have h2:w06 [some (.lst N),some (.lst HS),some (.tup [.int r,TS,RS,en]),some (.int n'),none,none,none,none,none]=some (.int b,[some (.lst N),some (.lst HS),some (.tup [.int r,TS,RS,en]),some (.int n'),none,none,none,none,none]):=by rw[<-hb];clear hb hA;walk_at "ev"
 generalize w06=FB at h2 ⊢;clear hb;walk_at "ev"
theorem l3y(N HS:List D)(TS RS:D)(r n' m':Int)(e:Str)(FM:RhD)(h:eqD (.str e) (.str "ring")=some true)(hx:FM [some (.lst N),some (.lst HS),some (.tup [.int r,TS,RS,.str e]),some (.int n'),none,none,none,none,none]=some (.int m',[some (.lst N),some (.lst HS),some (.tup [.int r,TS,RS,.str e]),some (.int n'),none,none,none,none,none])):
 (sIf w0y (sSet 3 FM) sNil) [some (.lst N),some (.lst HS),some (.tup [.int r,TS,RS,.str e]),some (.int n'),none,none,none,none,none]=some (.nx [some (.lst N),some (.lst HS),some (.tup [.int r,TS,RS,.str e]),some (.int m'),none,none,none,none,none]):=by
 walk_at "ev"
theorem l4(N HS PL N1 T:List D)(S:D)(n' m' x2:Int)(hpl:f_y40 [S,.int n']=some (.lst PL))(hm:((PL.length:Nat):Int)=m')(sl:dSl (.lst N) (some 1) none=some (.lst N1))(a2:atI HS 2=some (.int x2))(ht:f_y45 [.lst N1,.int m',.int x2]=some (.lst T)):
 w12 [some (.lst N),some (.lst HS),some S,some (.int n'),none,none,none,none,none]=some (.nx [some (.lst N),some (.lst HS),some S,some (.int n'),some (.lst T),none,none,none,none]):=by
 rw[<-hm]at ht;clear hm;walk_at "ev"
abbrev w0m:=w29
theorem l5n(N HS:List D)(S n T:D)(x3 y:Int)(FX:RhO)(a3:atI HS 3=some (.int x3))(hy:x3 % 2=y)(hn:(y==0)=false):
 (sIf w0m FX sNil) [some (.lst N),some (.lst HS),some S,some n,some T,none,none,none,none]=some (.nx [some (.lst N),some (.lst HS),some S,some n,some T,none,none,none,none]):=by
 walk_at "ev"
theorem l5y(N HS T':List D)(S n T:D)(x3:Int)(FM:RhD)(a3:atI HS 3=some (.int x3))(hy:x3 % 2=0)(hx:FM [some (.lst N),some (.lst HS),some S,some n,some T,none,none,none,none]=some (.lst T',[some (.lst N),some (.lst HS),some S,some n,some T,none,none,none,none])):
 (sIf w0m (sSet 4 FM) sNil) [some (.lst N),some (.lst HS),some S,some n,some T,none,none,none,none]=some (.nx [some (.lst N),some (.lst HS),some S,some n,some (.lst T'),none,none,none,none]):=by
 walk_at "ev"
theorem l5e(x:Int):((mOp2 dMod (mVar 0) (mRet (.int 2))) [some (.int x)]).map (·.1)=some (.int (x % 2)):=by walk_at "ev"
theorem l5m(N HS N1 X W T':List D)(S T:D)(n' x4:Int)(FE:RhD)(a4:atI HS 4=some (.int x4))(sl:dSl (.lst N) (some 1) none=some (.lst N1))(hx:f_y35 [.int x4,.int n']=some (.lst X))(lx:X.length<=sizeLine)(cm:q15 1 [] none (gSet 0) (mRet true) FE X [some (.lst N),some (.lst HS),some S,some (.int n'),some T,none,none,none,none]=some (W,[some (.lst N),some (.lst HS),some S,some (.int n'),some T,none,none,none,none]))(hn:f_y54 [S,.lst W,.lst N1]=some (.lst T')):
 (mOf (q1m f_y54 (q01 (mVar 2) (q01 (mOf (q1t 1 [] none w2k (gSet 0) (mRet true) FE)) (q01 w2d mNil))))) [some (.lst N),some (.lst HS),some S,some (.int n'),some T,none,none,none,none]=some (.lst T',[some (.lst N),some (.lst HS),some S,some (.int n'),some T,none,none,none,none]):=by
 walk_at "ev"
theorem l6(N HS S n:D)(T:List D)(lT:T.length<=sizeLine):(sSet 5 (mOf (q6s dSeq (mVar 4)))) [some N,some HS,some S,some n,some (.lst T),none,none,none,none]=some (.nx [some N,some HS,some S,some n,some (.lst T),some (.lst T),none,none,none]):=by walk_at "ev"
theorem l7(N HS S n T x:D)(h:f_y33 [S,n,T]=some x):w37 [some N,some HS,some S,some n,some T,some T,none,none,none]=some (.nx [some N,some HS,some S,some n,some T,some T,some x,none,none]):=by walk_at "ev"
theorem l8(N HS S n T W:D)(c:Int)(FX:RhO)(E:eqD T T=some true)(hw:f_y53 [W,n]=some (.bl true)):
 (sIf w0s FX sNil) [some N,some HS,some S,some n,some T,some T,some (.tup [.int c,W]),none,none]=some (.nx [some N,some HS,some S,some n,some T,some T,some (.tup [.int c,W]),none,none]):=by
 walk_at "ev"
theorem l9(N HS S n T W:D)(c:Int)(FX:RhO):
 (sIf w1h FX sNil) [some N,some HS,some S,some n,some T,some T,some (.tup [.int c,W]),none,none]=some (.nx [some N,some HS,some S,some n,some T,some T,some (.tup [.int c,W]),none,none]):=by
 walk_at "ev"
theorem l10(N HS S n:D)(T W SE Z YD:List D)(Y:List Int)(c:Int)(FX:RhO)(hse:f_y42 [S,.lst W]=some (.lst SE))(hz:zipD T SE=Z)(lz:Z.length<=sizeLine)(cmp:q15 2 [] none (q2i 2 (q0w (gSet 0) (q0w (gSet 1) q2o))) (mRet true) (q0k f_y43 (q01 (mVar 0) (q01 (mVar 1) mNil))) Z [some N,some HS,some S,some n,some (.lst T),some (.lst T),some (.tup [.int c,.lst W]),none,none]=some (YD,[some N,some HS,some S,some n,some (.lst T),some (.lst T),some (.tup [.int c,.lst W]),none,none]))(hi:q3t YD=some Y)(hsum:Y.sum=c):
 (sIf w0k FX sNil) [some N,some HS,some S,some n,some (.lst T),some (.lst T),some (.tup [.int c,.lst W]),none,none]=some (.nx [some N,some HS,some S,some n,some (.lst T),some (.lst T),some (.tup [.int c,.lst W]),none,none]):=by
 walk_at "ev"
theorem b0(N HS S n H F TB s:D)(T:List D)(v8:Option D)(lT:T.length<=sizeLine)(h:f_y30 [S,n,.lst T,s]=some TB):
 w26 [some N,some HS,some S,some n,some (.lst T),some H,some F,some s,v8]=some (.nx [some N,some HS,some S,some n,some (.lst T),some H,some F,some s,some TB]):=by
 walk_at "ev"
abbrev w0j:=w24
abbrev w07:=w1r
theorem b1(N HS S n T H F:D)(s m:Int)(TB T0:List D)(FX:RhO)(h1:f_y50 [S,n,T,.int s,.lst TB]=some (.bl true))(h2:atI TB 0=some (.lst T0))(h3:atI T0 s=some (.int m)):
 (sIf (mOr (mNot (q0g (q0k f_y50 w07))) (q0g (mOp2 dIsN w0j (mRet .non)))) FX sNil) [some N,some HS,some S,some n,some T,some H,some F,some (.int s),some (.lst TB)]=some (.nx [some N,some HS,some S,some n,some T,some H,some F,some (.int s),some (.lst TB)]):=by
 walk_at "ev"
theorem b2(N HS S n T H F:D)(s m:Int)(TB T0 G:List D)(FX:RhO)(LT:D->D->Option D)(two:2<=sizeLine)(h1:f_y51 [S,n,T,.int s,.lst TB]=some (.lst G))(h2:atI TB 0=some (.lst T0))(h3:atI T0 s=some (.int m))(h4:LT (.tup [.int m,.lst G]) F=some (.bl false)):
 (sIf (q0g (mOp2 LT (mTup (q01 w0j (q01 (mOf (q1m f_y51 w07)) mNil))) (mVar 6))) FX sNil) [some N,some HS,some S,some n,some T,some H,some F,some (.int s),some (.lst TB)]=some (.nx [some N,some HS,some S,some n,some T,some H,some F,some (.int s),some (.lst TB)]):=by
 walk_at "ev"
theorem l11(N HS S n T H F:D)(SS:List D)(v7 v8:Option D)(FB:RhO)(hs:f_y52 [S]=some (.lst SS))(h:q23 (gSet 7) FB SS [some N,some HS,some S,some n,some T,some H,some F,none,none]=some (.nx [some N,some HS,some S,some n,some T,some H,some F,v7,v8])):
 (sSeq (sFor w45 (gSet 7) FB) (sRet (mRet (.bl true)))) [some N,some HS,some S,some n,some T,some H,some F,none,none]=some (.rt (.bl true) [some N,some HS,some S,some n,some T,some H,some F,v7,v8]):=by
 walk_at "ev"
section
variable{r:Int}{taps:List Int}{rows:List (List Int)}{e:Str}
theorem qod(ok:q2d r taps rows e)(ts:List Told)(w:List Int)(hb:Bits w)(h:e="ring"->r.toNat<=w.length):q97 r taps rows e ts w=q4t ts (q5j (isRing e) r.toNat taps rows w (w.length+q08 r e)):=by unfold q97;have r4:=ok.r4;rw[qh1,q4i,qbw (by omega) hb (q9p h) (λt ht=>(ok.tb t ht).1)]
theorem qd3(ok:q2d r taps rows e)(n:Nat)(hn:n<=60)(h:e="ring"->r.toNat<=n)(ts:List Told)(hl:ts.length=(q0e taps rows (n+q08 r e)).length)(h1:ts.length<=1000)(N HS:D):
 ∃v7 v8,q23 (gSet 7) w01 ((q1g r e).map D.int) [some N,some HS,some (schD r taps rows e),some (.int (n:Int)),some (.lst (ts.map q0s)),some (.lst (ts.map q0s)),some (pairD (q3q r taps rows e ts n)),none,none]=some (.nx [some N,some HS,some (schD r taps rows e),some (.int (n:Int)),some (.lst (ts.map q0s)),some (.lst (ts.map q0s)),some (pairD (q3q r taps rows e ts n)),v7,v8]):=by
 have pn:=q29 (r:=r);have hne:(q1g r e).map (bestOf r taps rows e ts n)≠[]:=by have hf:=q51 (r:=r) (e:=e) (w:=List.replicate n 0) (q43 _) (by rw[ji];exact h);intro z;rw[List.map_eq_nil_iff.mp z]at hf;cases hf
 obtain⟨ρ',l1,v7,v8,hρ⟩:=qbf (fg:=gSet 7) (fb:=w01) (λρ=>∃v7 v8,ρ=[some N,some HS,some (schD r taps rows e),some (.int (n:Int)),some (.lst (ts.map q0s)),some (.lst (ts.map q0s)),some (pairD (q3q r taps rows e ts n)),v7,v8]) ((q1g r e).map D.int) [some N,some HS,some (schD r taps rows e),some (.int (n:Int)),some (.lst (ts.map q0s)),some (.lst (ts.map q0s)),some (pairD (q3q r taps rows e ts n)),none,none] ⟨none,none,rfl⟩ (λx ρ hx ⟨v7,v8,hρ⟩=>by
  subst hρ;obtain⟨s,hs,rfl⟩:=List.mem_map.mp hx;have hs2:=q4n hs;obtain⟨g0,g1,g2,g3,_⟩:=q81 (ts:=ts) (taps:=taps) (rows:=rows) hs h ok.en hl;have hpos:0<(q0z r taps rows e ts n s).length:=by rw[q68];omega
  have ht:(q0z r taps rows e ts n s)[0]? =some ((q0z r taps rows e ts n s).headD []):=by
   generalize q0z r taps rows e ts n s=tt at hpos ⊢;cases tt with
   |nil=>simp at hpos
   |cons a b=>rfl
  have a0:atI ((q0z r taps rows e ts n s).map rwD) 0=some (.lst (((q0z r taps rows e ts n s).headD []).map optI)):=by rw[q37 (by omega) (by rw[j7];omega),show(0:Int).toNat=0 from rfl,jc,ht];rfl
  have a1:atI (((q0z r taps rows e ts n s).headD []).map optI) s=some (.int (bestOf r taps rows e ts n s).1):=by have:=q4y (t:=(q0z r taps rows e ts n s).headD []) hs2.1 (by rw[q67 ht];omega);rw[g0]at this;exact this
  have hlt:dLtP (.tup [.int (bestOf r taps rows e ts n s).1,.lst ((q30 n (q18 r taps rows ts n 0 (n+q08 r e)) (q0z r taps rows e ts n s) s).map D.int)]) (pairD (q3q r taps rows e ts n))=some (.bl false):=by have e1:=qtw (x:=bestOf r taps rows e ts n s) (y:=q3q r taps rows e ts n) (by rw[g2,(qg8 (taps:=taps) (rows:=rows) h ok.en hl).len]);have e2:qLt (bestOf r taps rows e ts n s) (q3q r taps rows e ts n)=false:=(q7s hne).2 _ (List.mem_map.mpr ⟨s,hs,rfl⟩);rw[e2]at e1;exact e1
  exact⟨_,_,rfl,.inl ((q1x (b0 _ _ _ _ _ _ _ _ _ _ (q1d (by rw[j7];omega)) (quo ok n hn h ts hl s))).trans ((q1x (b1 _ _ _ _ _ _ _ _ _ _ _ _ (qi0 ok n hn ts hl s) a0 a1)).trans (b2 _ _ _ _ _ _ _ _ _ _ _ _ _ _ (by decide) (qma ok n hn ts hl s hs2) a0 a1 hlt))),_,_,rfl⟩)
 subst hρ;exact⟨v7,v8,l1⟩
end
theorem law_true(ns:List Int)(h:ns.length<=63):f_law [.lst (ns.map D.int)]=some (.bl true):=by
 obtain⟨c0,hc0⟩:=qi4 ns 0;obtain⟨hs,hhs,lhs,bhs⟩:=q74 c0 6 (by decide);have at_:∀k:Nat,k<6->∃x:Int,atI (hs.map D.int) (k:Int)=some (.int x)/\0<=x:=λk hk=>by
  have h1:k<hs.length:=by omega
  refine⟨hs[k],?_,(bhs _ (xc h1)).1⟩;rw[q37 (by omega) (by rw[j7];omega),jo,jc,jd h1];rfl
 obtain⟨x0,a0,p0⟩:=at_ 0 (by decide);obtain⟨x1,a1,p1⟩:=at_ 1 (by decide);obtain⟨x2,a2,p2⟩:=at_ 2 (by decide);obtain⟨x3,a3,p3⟩:=at_ 3 (by decide);obtain⟨x4,a4,p4⟩:=at_ 4 (by decide);obtain⟨x5,a5,p5⟩:=at_ 5 (by decide);obtain⟨top,etop,htop⟩:=quj (a:=3) (b:=4) (x5 % 8=0);obtain⟨r,taps,rows,e,hsch,ok⟩:=qan x0 top (by omega) (by omega);have r0:=ok.r0;have r4:=ok.r4;have z4:=q2j ok;obtain⟨n,hn,hw,hl3⟩:∃n:Nat,n<=60/\(e="ring"->r.toNat<=n)/\(sIf w0y
  (sSet 3 (mMM (λi j=>if j<i then j else i) (q01 (mMM (λi j=>if j>i then j else i) w1y) (q01 w06 mNil))))
  sNil) [some (.lst (ns.map D.int)),some (.lst (hs.map D.int)),some (schD r taps rows e),some (.int (x1 % 11)),none,none,none,none,none]=some (.nx [some (.lst (ns.map D.int)),some (.lst (hs.map D.int)),some (schD r taps rows e),some (.int (n:Int)),none,none,none,none,none]):=by
  by_cases q:e="ring"
  ·obtain⟨a,ha⟩:∃a,(if r>x1 % 11 then r else x1 % 11)=a:=⟨_,rfl⟩;obtain⟨m,hm⟩:∃m,(if 12-r-r / 4<a then 12-r-r / 4 else a)=m:=⟨_,rfl⟩;have ha2:r<=a/\a<=60/\0<=a:=by split at ha<;>omega
   have hm2:r<=m/\m<=60:=by split at hm<;>omega
   refine⟨m.toNat,by omega,λ_=>by omega,?_⟩;rw[Int.toNat_of_nonneg (by omega)];exact l3y _ _ _ _ r _ _ e _ (by rw[q];exact s_rr) (l3b _ _ _ _ a _ _ _ _ _ _ rfl hm (l3a _ _ _ _ _ _ _ _ ha))
  ·refine⟨(x1 % 11).toNat,by omega,λz=>absurd z q,?_⟩;rw[Int.toNat_of_nonneg (by omega)];refine l3n _ _ _ _ _ _ e _ ?_;rcases ok.en with g|g|g
   ·rw[g];exact s_or
   ·rw[g];exact s_er
   ·exact absurd g q
 have hpl:=qbs ok n hn;have hm4:(q0e taps rows (n+q08 r e)).length<=256:=by
  have s4:∀k,(selK taps rows k).length<=4:=λk=>by unfold selK;refine jr (List.length_filter_le _ _) ?_;rw[xm];have:=ok.t4;have:=xi taps.length (rowAt rows k).length;omega
  have q1:(q0e taps rows (n+q08 r e)).length<=(n+q08 r e)*4:=q41 _ 4 (λk=>by rw[ji];exact s4 k) _;omega
 have sl1:dSl (.lst (ns.map D.int)) (some 1) none=some (.lst ((ns.drop 1).map D.int)):=by rw[q7x (by decide),List.map_drop];rfl
 obtain⟨ts0,hts0,lts0⟩:=qm9 (ns.drop 1) (q0e taps rows (n+q08 r e)).length x2 (by omega);have hplm:(((q0e taps rows (n+q08 r e)).map D.int).length:Int)=((q0e taps rows (n+q08 r e)).length:Nat):=by rw[j7]
 obtain⟨ts,lts,hl5⟩:∃ts:List Told,ts.length=(q0e taps rows (n+q08 r e)).length/\w0h [some (.lst (ns.map D.int)),some (.lst (hs.map D.int)),some (schD r taps rows e),some (.int (n:Int)),some (.lst (ts0.map q0s)),none,none,none,none]=some (.nx [some (.lst (ns.map D.int)),some (.lst (hs.map D.int)),some (schD r taps rows e),some (.int (n:Int)),some (.lst (ts.map q0s)),none,none,none,none]):=by
  by_cases q:x3 % 2=0
  ·obtain⟨xw,hxw,lxw,_⟩:=q74 x4 n (by omega);have cm5:=λρ:Rho=>q42 (n:=1) (js:=[]) (fg:=gSet 0) (fe:=mOp2 dMod (mVar 0) (mRet (.int 2))) (ρ:=ρ)
    (λd=>match d with|.int x=>.int (x % 2)|d=>d) (xw.map D.int) (λx hx=>by obtain⟨y,_,rfl⟩:=List.mem_map.mp hx;exact⟨_,rfl,l5e y⟩)
   have e5:(xw.map D.int).map (λd=>match d with|.int x=>D.int (x % 2)|d=>d)=(xw.map λx=>x % 2).map D.int:=by rw[jk,jk];rfl
   rw[e5]at cm5;have hwb:Bits (xw.map λx=>x % 2):=λb hb=>by obtain⟨x,_,rfl⟩:=List.mem_map.mp hb;omega
   have hwl:(xw.map λx=>x % 2).length=n:=by rw[j7,lxw]
   obtain⟨ts,hts,lts⟩:=qp0 ok _ hwb (by rw[hwl];exact hw) (by omega) (ns.drop 1);rw[hwl]at lts;exact⟨ts,lts,l5y _ _ _ _ _ _ _ _ a3 q (l5m _ _ _ _ _ _ _ _ _ _ _ a4 sl1 hxw (q1d (by rw[j7];omega)) (cm5 _) hts)⟩
  ·exact⟨ts0,lts0,l5n _ _ _ _ _ _ _ _ a3 rfl (beq_eq_false_iff_ne.mpr q)⟩
 have hnear:=qg8 (taps:=taps) (rows:=rows) hw ok.en lts;have hwn:e="ring"->r.toNat<=(q3q r taps rows e ts n).2.length:=by rw[hnear.len];exact hw
 have hse:=qkv ok (q3q r taps rows e ts n).2 hnear.bits hwn (by rw[hnear.len];exact hn);have hbits:Bits (q5j (isRing e) r.toNat taps rows (q3q r taps rows e ts n).2 ((q3q r taps rows e ts n).2.length+q08 r e)):=qd6;have hz:zipD (ts.map q0s) ((q5j (isRing e) r.toNat taps rows (q3q r taps rows e ts n).2 ((q3q r taps rows e ts n).2.length+q08 r e)).map D.int)=(ts.zip (q5j (isRing e) r.toNat taps rows (q3q r taps rows e ts n).2 ((q3q r taps rows e ts n).2.length+q08 r e))).map λq=>D.tup [q0s q.1,.int q.2]:=by rw[q5s,q4z,jk];rfl
 have hc:((ts.zip (q5j (isRing e) r.toNat taps rows (q3q r taps rows e ts n).2 ((q3q r taps rows e ts n).2.length+q08 r e))).map λq=>q4f q.1 q.2).sum=(q3q r taps rows e ts n).1:=(hnear.val.trans (qod ok ts _ hnear.bits hwn)).symm;generalize q5j (isRing e) r.toNat taps rows (q3q r taps rows e ts n).2 ((q3q r taps rows e ts n).2.length+q08 r e)=sv at hse hbits hz hc;have lz:((ts.zip sv).map λq=>D.tup [q0s q.1,.int q.2]).length<=sizeLine:=by rw[j7,xm];exact q1d (by have:=xi ts.length sv.length;omega)
 have cmp:=λρ=>q6h ρ (ts.zip sv) λq hq=>hbits q.2 (List.of_mem_zip (show(q.1,q.2)∈_ from hq)).2;have hi:=q35 ((ts.zip sv).map λq=>q4f q.1 q.2);have E:eqD (.lst (ts.map q0s)) (.lst (ts.map q0s))=some true:=qjt (DOk.tolds ts) (by decide);obtain⟨v7,v8,hloop⟩:=qd3 ok n hn hw ts lts (by omega) (.lst (ns.map D.int)) (.lst (hs.map D.int));exact qbx rfl ⟨_,(q1x (l0 _ _ c0 hc0 hhs)).trans<|
  (q1x (l1 _ _ _ x0 x5 _ top (by decide) a0 a5 rfl etop hsch)).trans<|
  (q1x (l2 _ _ x1 _ a1)).trans<|
  (q1x hl3).trans<|
  (q1x (l4 _ _ _ _ _ _ _ _ x2 hpl hplm sl1 a2 hts0)).trans<|
  (q1x hl5).trans<|
  (q1x (l6 _ _ _ _ _ (q1d (by rw[j7];omega)))).trans<|
  (q1x (l7 _ _ _ _ _ _ (qun ok n hn hw ts lts))).trans<|
  (q1x (l8 _ _ _ _ _ _ _ _ E (qi3 _ hnear.bits n hnear.len (by omega)))).trans<|
  (q1x (l9 _ _ _ _ _ _ _ _)).trans<|
  (q1x (l10 _ _ _ _ _ _ _ _ _ _ _ _ hse hz lz (cmp _) hi hc)).trans<|
  l11 _ _ _ _ _ _ _ _ _ _ _ (qi1 ok) hloop⟩
theorem qsm{P:Program}{w:World}{K mg a base}(T:Txt K mg a):FnOk P w K mg base CX0 8 a.f_law a.fd_law ["_law_script"] (qme K 63):=qsn (qrq T) law_true
local macro_rules|`(tactic|walk_at "k")=>`(tactic|as_aux_lemma=>kernel_rfl)
local macro_rules|`(tactic|walk_at "f")=>`(tactic|exact qt5 (oc:=.type "function") (od:=none) (osl:=#[]) (by walk_at "k") (by walk_at "k") (by walk_at "k"))
local macro_rules|`(tactic|walk_at "g")=>`(tactic|exact qnl (oc:=.type "function") (od:=none) (osl:=#[]) (by walk_at "k") (by walk_at "k") (by walk_at "k"))
noncomputable def ad:Ad:=⟨169,195,228,58,(PySem.W.fnOf "rooms_at" "rooms_at" (q0p s_y0) (q0n s_y0) (q04 s_y0) .none (.none) (.none) (.str "trellisway.schemes" 239) none (.ref 57) (.none)),65,(PySem.W.fnOf "rooms" "rooms" (q0p s_y1) (q0n s_y1) (q04 s_y1) .none (.none) (.none) (.str "trellisway.schemes" 239) none (.ref 64) (.none)),72,(PySem.W.fnOf "parity" "parity" (q0p s_y2) (q0n s_y2) (q04 s_y2) .none (.none) (.none) (.str "trellisway.schemes" 239) none (.ref 71) (.none)),77,(PySem.W.fnOf "step" "step" (q0p s_y3) (q0n s_y3) (q04 s_y3) .none (.none) (.none) (.str "trellisway.schemes" 239) none (.ref 76) (.none)),82,(PySem.W.fnOf "sent_at" "sent_at" (q0p s_y4) (q0n s_y4) (q04 s_y4) .none (.none) (.none) (.str "trellisway.schemes" 239) none (.ref 81) (.none)),89,(PySem.W.fnOf "is_ring" "is_ring" (q0p s_y5) (q0n s_y5) (q04 s_y5) .none (.none) (.none) (.str "trellisway.sending" 276) none (.ref 88) (.none)),96,(PySem.W.fnOf "check_size" "check_size" (q0p s_y6) (q0n s_y6) (q04 s_y6) .none (.none) (.none) (.str "trellisway.sending" 276) none (.ref 95) (.none)),103,(PySem.W.fnOf "bits_behind" "bits_behind" (q0p s_y7) (q0n s_y7) (q04 s_y7) .none (.none) (.none) (.str "trellisway.sending" 276) none (.ref 102) (.none)),110,(PySem.W.fnOf "first_rooms" "first_rooms" (q0p s_y8) (q0n s_y8) (q04 s_y8) .none (.none) (.none) (.str "trellisway.sending" 276) none (.ref 109) (.none)),117,(PySem.W.fnOf "steps_of" "steps_of" (q0p s_y9) (q0n s_y9) (q04 s_y9) .none (.none) (.none) (.str "trellisway.sending" 276) none (.ref 116) (.none)),124,(PySem.W.fnOf "places_of" "places_of" (q0p qfc) (q0n qfc) (q04 qfc) .none (.none) (.none) (.str "trellisway.sending" 276) none (.ref 123) (.none)),152,(PySem.W.fnOf "__init__" "Clear.__init__" (q0p qfb) (q0n qfb) (q04 qfb) .none (.none) (.none) (.str "trellisway.signs" 326) none (.ref 151) (.none)),166,(PySem.W.fnOf "cost" "Clear.cost" (q0p qfa) (q0n qfa) (q04 qfa) .none (.none) (.none) (.str "trellisway.signs" 326) none (.ref 165) (.none)),192,(PySem.W.fnOf "cost" "Gap.cost" (q0p qf9) (q0n qf9) (q04 qf9) .none (.none) (.none) (.str "trellisway.signs" 326) none (.ref 191) (.none)),211,(PySem.W.fnOf "__init__" "Soft.__init__" (q0p qf8) (q0n qf8) (q04 qf8) .none (.none) (.none) (.str "trellisway.signs" 326) none (.ref 210) (.none)),225,(PySem.W.fnOf "cost" "Soft.cost" (q0p qf7) (q0n qf7) (q04 qf7) .none (.none) (.none) (.str "trellisway.signs" 326) none (.ref 224) (.none)),237,(PySem.W.fnOf "sign_of" "sign_of" (q0p qf6) (q0n qf6) (q04 qf6) .none (.none) (.none) (.str "trellisway.signs" 326) none (.ref 236) (.none)),244,(PySem.W.fnOf "check_heard" "check_heard" (q0p qf5) (q0n qf5) (q04 qf5) .none (.none) (.none) (.str "trellisway.costs" 468) none (.ref 243) (.none)),249,(PySem.W.fnOf "signs_cost" "signs_cost" (q0p qdl) (q0n qdl) (q04 qdl) .none (.none) (.none) (.str "trellisway.costs" 468) none (.ref 248) (.none)),254,(PySem.W.fnOf "signs_by_step" "signs_by_step" (q0p qdk) (q0n qdk) (q04 qdk) .none (.none) (.none) (.str "trellisway.costs" 468) none (.ref 253) (.none)),261,(PySem.W.fnOf "move" "move" (q0p qf4) (q0n qf4) (q04 qf4) .none (.none) (.none) (.str "trellisway.costs" 468) none (.ref 260) (.none)),266,(PySem.W.fnOf "moves_from" "moves_from" (q0p qdj) (q0n qdj) (q04 qdj) .none (.none) (.none) (.str "trellisway.costs" 468) none (.ref 265) (.none)),271,(PySem.W.fnOf "moves" "moves" (q0p qdi) (q0n qdi) (q04 qdi) .none (.none) (.none) (.str "trellisway.costs" 468) none (.ref 270) (.none)),276,(PySem.W.fnOf "end_costs" "end_costs" (q0p qdh) (q0n qdh) (q04 qdh) .none (.none) (.none) (.str "trellisway.costs" 468) none (.ref 275) (.none)),283,(PySem.W.fnOf "cost_by" "cost_by" (q0p qf3) (q0n qf3) (q04 qf3) .none (.none) (.none) (.str "trellisway.costs" 468) none (.ref 282) (.none)),288,(PySem.W.fnOf "least_by" "least_by" (q0p qar) (q0n qar) (q04 qar) .none (.none) (.none) (.str "trellisway.costs" 468) none (.ref 287) (.none)),293,(PySem.W.fnOf "ahead_by" "ahead_by" (q0p qdg) (q0n qdg) (q04 qdg) .none (.none) (.none) (.str "trellisway.costs" 468) none (.ref 292) (.none)),301,(PySem.W.fnOf "ahead" "ahead" (q0p qf2) (q0n qf2) (q04 qf2) (.ref 294) (.none) (.none) (.str "trellisway.costs" 468) none (.ref 300) (.none)),308,(PySem.W.fnOf "ahead_by_start" "ahead_by_start" (q0p qf1) (q0n qf1) (q04 qf1) .none (.none) (.none) (.str "trellisway.costs" 468) none (.ref 307) (.none)),315,(PySem.W.fnOf "nearest_from" "nearest_from" (q0p qf0) (q0n qf0) (q04 qf0) .none (.none) (.none) (.str "trellisway.nearest" 564) none (.ref 314) (.none)),320,(PySem.W.fnOf "nearest" "nearest" (q0p qdf) (q0n qdf) (q04 qdf) .none (.none) (.none) (.str "trellisway.nearest" 564) none (.ref 319) (.none)),327,(PySem.W.fnOf "_law_cell_at" "_law_cell_at" (q0p qez) (q0n qez) (q04 qez) .none (.none) (.none) (.str zlw 587) none (.ref 326) (.none)),334,(PySem.W.fnOf "_law_mixed" "_law_mixed" (q0p qey) (q0n qey) (q04 qey) .none (.none) (.none) (.str zlw 587) none (.ref 333) (.none)),339,(PySem.W.fnOf "_law_scheme" "_law_scheme" (q0p qaq) (q0n qaq) (q04 qaq) .none (.none) (.none) (.str zlw 587) none (.ref 338) (.none)),344,(PySem.W.fnOf "_law_step" "_law_step" (q0p qde) (q0n qde) (q04 qde) .none (.none) (.none) (.str zlw 587) none (.ref 343) (.none)),349,(PySem.W.fnOf "_law_sent_at" "_law_sent_at" (q0p qdd) (q0n qdd) (q04 qdd) .none (.none) (.none) (.str zlw 587) none (.ref 348) (.none)),356,(PySem.W.fnOf "_law_steps" "_law_steps" (q0p qex) (q0n qex) (q04 qex) .none (.none) (.none) (.str zlw 587) none (.ref 355) (.none)),361,(PySem.W.fnOf "_law_places" "_law_places" (q0p qdc) (q0n qdc) (q04 qdc) .none (.none) (.none) (.str zlw 587) none (.ref 360) (.none)),368,(PySem.W.fnOf "_law_start" "_law_start" (q0p qew) (q0n qew) (q04 qew) .none (.none) (.none) (.str zlw 587) none (.ref 367) (.none)),375,(PySem.W.fnOf "_law_sent" "_law_sent" (q0p qev) (q0n qev) (q04 qev) .none (.none) (.none) (.str zlw 587) none (.ref 374) (.none)),382,(PySem.W.fnOf "_law_price" "_law_price" (q0p qeu) (q0n qeu) (q04 qeu) .none (.none) (.none) (.str zlw 587) none (.ref 381) (.none)),389,(PySem.W.fnOf "_law_sign" "_law_sign" (q0p qet) (q0n qet) (q04 qet) .none (.none) (.none) (.str zlw 587) none (.ref 388) (.none)),394,(PySem.W.fnOf "_law_heard" "_law_heard" (q0p qap) (q0n qap) (q04 qap) .none (.none) (.none) (.str zlw 587) none (.ref 393) (.none)),399,(PySem.W.fnOf "_law_at_steps" "_law_at_steps" (q0p qdb) (q0n qdb) (q04 qdb) .none (.none) (.none) (.str zlw 587) none (.ref 398) (.none)),404,(PySem.W.fnOf "_law_way" "_law_way" (q0p qda) (q0n qda) (q04 qda) .none (.none) (.none) (.str zlw 587) none (.ref 403) (.none)),411,(PySem.W.fnOf "_law_last" "_law_last" (q0p qes) (q0n qes) (q04 qes) .none (.none) (.none) (.str zlw 587) none (.ref 410) (.none)),418,(PySem.W.fnOf "_law_of_form" "_law_of_form" (q0p qer) (q0n qer) (q04 qer) .none (.none) (.none) (.str zlw 587) none (.ref 417) (.none)),423,(PySem.W.fnOf "_law_walked" "_law_walked" (q0p qao) (q0n qao) (q04 qao) .none (.none) (.none) (.str zlw 587) none (.ref 422) (.none)),430,(PySem.W.fnOf "_law_first" "_law_first" (q0p qeq) (q0n qeq) (q04 qeq) .none (.none) (.none) (.str zlw 587) none (.ref 429) (.none)),437,(PySem.W.fnOf "_law_starts" "_law_starts" (q0p qep) (q0n qep) (q04 qep) .none (.none) (.none) (.str zlw 587) none (.ref 436) (.none)),442,(PySem.W.fnOf "_law_is_word" "_law_is_word" (q0p qd9) (q0n qd9) (q04 qd9) .none (.none) (.none) (.str zlw 587) none (.ref 441) (.none)),447,(PySem.W.fnOf "_law_near" "_law_near" (q0p qd8) (q0n qd8) (q04 qd8) .none (.none) (.none) (.str zlw 587) none (.ref 446) (.none)),452,(PySem.W.fnOf "law" "law" (q0p qas) (q0n qas) (q04 qas) .none (.none) (.none) (.str zlw 587) none (.ref 451) (.none))⟩
theorem txt{P:Params}{h:Heap}{mg:Str->Option Value}{fa:Addr}(X:(H13.KH P).In h)(G:h.Ns mainGlobals mg)(hfa:mg "law"=some (.ref fa)):∃a:Ad,Txt (H13.KH P) mg a/\a.f_law=fa/\∀(s:Shared) (v:Value),BindsTo s a.fd_law ⟨[v],[]⟩ [("_law_script",v)]:=by have e0:452=fa:=Value.ref.inj (je ((PySem.W.mg_of X G (show PySem.W.nsIn (H13.KH P) mainGlobals "law"=some (some (.ref 452))from by walk_at "k")).symm.trans hfa));subst e0;have g {x:Str} {v:Value} (h:PySem.W.nsIn (H13.KH P) mainGlobals x=some (some v)):mg x=some v:=PySem.W.mg_of X G h;refine⟨ad,⟨g ?_,?_,⟨?_,?_,?_,?_⟩,(show PySem.W.findIn (H13.KH P) (.ref 169) "bit"=some none from by walk_at "k"),g ?_,?_,⟨?_,?_,?_,?_⟩,g ?_,?_,⟨?_,?_,?_,?_⟩,(show PySem.W.findIn (H13.KH P) (.ref 228) "zero"=some none from by walk_at "k"),(show PySem.W.findIn (H13.KH P) (.ref 228) "one"=some none from by walk_at "k"),(by walk_at "f"),.all λus hl=>match us,hl with|[_],_=>rfl,g ?_,(by walk_at "f"),.all λus hl=>match us,hl with|[_],_=>rfl,g ?_,(by walk_at "f"),.all λus hl=>match us,hl with|[_],_=>rfl,g ?_,(by walk_at "f"),.all λus hl=>match us,hl with|[_,_,_],_=>rfl,g ?_,(by walk_at "f"),.all λus hl=>match us,hl with|[_,_,_],_=>rfl,g ?_,(by walk_at "f"),.all λus hl=>match us,hl with|[_],_=>rfl,g ?_,(by walk_at "f"),.all λus hl=>match us,hl with|[_,_],_=>rfl,g ?_,(by walk_at "f"),.all λus hl=>match us,hl with|[_],_=>rfl,g ?_,(by walk_at "f"),.all λus hl=>match us,hl with|[_],_=>rfl,g ?_,(by walk_at "f"),.all λus hl=>match us,hl with|[_,_],_=>rfl,g ?_,(by walk_at "f"),.all λus hl=>match us,hl with|[_,_],_=>rfl,g ?_,(by walk_at "f"),.all λus hl=>match us,hl with|[_,_],_=>rfl,(by walk_at "f"),.all λus hl=>match us,hl with|[_,_],_=>rfl,⟨?_,?_,?_⟩,(by walk_at "f"),.all λus hl=>match us,hl with|[_,_],_=>rfl,⟨?_,?_,?_⟩,(by walk_at "f"),.all λus hl=>match us,hl with|[_,_,_],_=>rfl,(by walk_at "f"),.all λus hl=>match us,hl with|[_,_],_=>rfl,⟨?_,?_,?_⟩,(by walk_at "f"),.all λus hl=>match us,hl with|[_],_=>rfl,g ?_,(by walk_at "f"),.all λus hl=>match us,hl with|[_,_,_],_=>rfl,g ?_,(by walk_at "f"),.all λus hl=>match us,hl with|[_,_],_=>rfl,g ?_,(by walk_at "f"),.all λus hl=>match us,hl with|[_,_,_],_=>rfl,g ?_,(by walk_at "f"),.all λus hl=>match us,hl with|[_,_,_,_,_],_=>rfl,g ?_,(by walk_at "f"),.all λus hl=>match us,hl with|[_,_,_,_,_],_=>rfl,g ?_,(by walk_at "f"),.all λus hl=>match us,hl with|[_,_,_],_=>rfl,g ?_,(by walk_at "f"),.all λus hl=>match us,hl with|[_,_],_=>rfl,g ?_,(by walk_at "f"),.all λus hl=>match us,hl with|[_,_],_=>rfl,g ?_,(by walk_at "f"),.all λus hl=>match us,hl with|[_,_],_=>rfl,g ?_,(by walk_at "f"),.all λus hl=>match us,hl with|[_,_],_=>rfl,g ?_,(by walk_at "g"),qty (ps:=w1g) rfl (show(H13.KH P).lookup 294=some ⟨(.type "tuple"),none,.seq #[.int 0 543] 0,#[]⟩from by walk_at "k") λus hl=>match us,hl with|[_,_,_,_],_=>⟨_,rfl,rfl⟩,g ?_,(by walk_at "f"),.all λus hl=>match us,hl with|[_,_],_=>rfl,g ?_,(by walk_at "f"),.all λus hl=>match us,hl with|[_,_,_,_],_=>rfl,g ?_,(by walk_at "f"),.all λus hl=>match us,hl with|[_,_,_],_=>rfl,g ?_,(by walk_at "f"),.all λus hl=>match us,hl with|[_,_],_=>rfl,g ?_,(by walk_at "f"),.all λus hl=>match us,hl with|[_,_],_=>rfl,g ?_,(by walk_at "f"),.all λus hl=>match us,hl with|[_,_],_=>rfl,g ?_,(by walk_at "f"),.all λus hl=>match us,hl with|[_,_,_],_=>rfl,g ?_,(by walk_at "f"),.all λus hl=>match us,hl with|[_,_,_],_=>rfl,g ?_,(by walk_at "f"),.all λus hl=>match us,hl with|[_,_],_=>rfl,g ?_,(by walk_at "f"),.all λus hl=>match us,hl with|[_,_],_=>rfl,g ?_,(by walk_at "f"),.all λus hl=>match us,hl with|[_,_],_=>rfl,g ?_,(by walk_at "f"),.all λus hl=>match us,hl with|[_,_],_=>rfl,g ?_,(by walk_at "f"),.all λus hl=>match us,hl with|[_,_],_=>rfl,g ?_,(by walk_at "f"),.all λus hl=>match us,hl with|[_],_=>rfl,g ?_,(by walk_at "f"),.all λus hl=>match us,hl with|[_,_,_],_=>rfl,g ?_,(by walk_at "f"),.all λus hl=>match us,hl with|[_,_,_],_=>rfl,g ?_,(by walk_at "f"),.all λus hl=>match us,hl with|[_,_,_,_,_,_],_=>rfl,g ?_,(by walk_at "f"),.all λus hl=>match us,hl with|[_,_,_],_=>rfl,g ?_,(by walk_at "f"),.all λus hl=>match us,hl with|[_,_,_],_=>rfl,g ?_,(by walk_at "f"),.all λus hl=>match us,hl with|[_,_,_,_,_],_=>rfl,g ?_,(by walk_at "f"),.all λus hl=>match us,hl with|[_,_,_,_,_],_=>rfl,g ?_,(by walk_at "f"),.all λus hl=>match us,hl with|[_],_=>rfl,g ?_,(by walk_at "f"),.all λus hl=>match us,hl with|[_,_],_=>rfl,g ?_,(by walk_at "f"),.all λus hl=>match us,hl with|[_,_,_],_=>rfl,g ?_,(by walk_at "f"),.all λus hl=>match us,hl with|[_],_=>rfl,g ?_,⟨?_,?_,?_,?_⟩,⟨?_,?_,?_⟩,⟨?_,?_,?_,?_⟩,PySem.W.mg_none_of X G ?_,PySem.W.mg_none_of X G ?_,PySem.W.mg_none_of X G ?_,PySem.W.mg_none_of X G ?_,PySem.W.mg_none_of X G ?_,PySem.W.mg_none_of X G ?_,PySem.W.mg_none_of X G ?_,PySem.W.mg_none_of X G ?_,PySem.W.mg_none_of X G ?_,PySem.W.mg_none_of X G ?_,PySem.W.mg_none_of X G ?_,PySem.W.mg_none_of X G ?_,PySem.W.mg_none_of X G ?_,PySem.W.mg_none_of X G ?_,q2m (by decide+kernel) ?_ (by decide+kernel),q6v,q2m (by decide+kernel) ?_ (by decide+kernel),q2m (by decide+kernel) ?_ (by decide+kernel),q2m (by decide+kernel) ?_ (by decide+kernel),q2m (by decide+kernel) ?_ (by decide+kernel),q2m (by decide+kernel) ?_ (by decide+kernel),q2m (by decide+kernel) ?_ (by decide+kernel),q2m (by decide+kernel) ?_ (by decide+kernel),q6v,q2m (by decide+kernel) ?_ (by decide+kernel),q2m (by decide+kernel) ?_ (by decide+kernel),q2m (by decide+kernel) ?_ (by decide+kernel),q2m (by decide+kernel) ?_ (by decide+kernel),q2m (by decide+kernel) ?_ (by decide+kernel),q2m (by decide+kernel) ?_ (by decide+kernel),q2m (by decide+kernel) ?_ (by decide+kernel),q2m (by decide+kernel) ?_ (by decide+kernel),q6v,q2m (by decide+kernel) ?_ (by decide+kernel),q2m (by decide+kernel) ?_ (by decide+kernel),q2m (by decide+kernel) ?_ (by decide+kernel),q2m (by decide+kernel) ?_ (by decide+kernel),q2m (by decide+kernel) ?_ (by decide+kernel),q2m (by decide+kernel) ?_ (by decide+kernel),q2m (by decide+kernel) ?_ (by decide+kernel),q6v,q2m (by decide+kernel) ?_ (by decide+kernel)⟩,rfl,λs v=>.of_eq rfl⟩<;>walk_at "k"
theorem walk{l:PySem.W.OpenLaw}{q:Program}{loose:List Str}{XP:(Str->Option Value)->Heap->Prop}{YP:World->Heap->Prop}{d:DefRec}{K:Params->PySem.W.Frag}(hn:l.most=some 63)(hdf:d.params.defaults=[])(hd:d.name="law")
 (hY:∀(w:World) (h:Heap),YP w h->(K w.params).In h)
 (F:∀(w:World) (mg:Str->Option Value) (fa:Addr) (h:Heap),(K w.params).In h->h.Ns mainGlobals mg->mg "law"=some (.ref fa)->∃a:Ad,Txt (K w.params) mg a/\a.f_law=fa/\∀(s:Shared) (v:Value),BindsTo s a.fd_law ⟨[v],[]⟩ [("_law_script",v)]):
 PySem.W.WalkO q loose XP YP l.row.toRowW d [] (λf vs=>PySem.call f vs):=
 L2.walk_of (n:=63) (k:=8) (x:="_law_script") (CX:=λ_=>CX0) (sp:=λw=>qme (K w.params) 63) hn (by decide) hdf ⟨rfl,by decide,by decide⟩ hY
  (λw mg fa h KX G hm=>by rw[hd]at hm;obtain⟨a,T,e,b⟩:=F w mg fa h KX G hm;subst e;exact⟨a.fd_law,b,λbase _ _=>qsm T⟩)
  (λ_ _ a ns hl _ hS=>⟨a,ns,rfl,hS,hl,λ_=>rfl⟩) λ_ _ _ _ _ z=>z
end K13
open PySem PySem.W PyProof.Rows
set_option maxRecDepth 100000 in
set_option maxHeartbeats 0 in
theorem PySem.Challenge.cw_trellisway_k13_whole_nearest_walked_holds : PySem.Challenge.rw_trellisway_k13_whole_nearest_walked.Holds := by
 w_on;o_law
 refine holds_open (r:=PySem.Challenge.rw_trellisway_k13_whole_nearest_walked.row) (q:=H13.V) (loose:=["ahead"]) (Xt:=(λs=>xlAt H13.V [] s&&recOk (RowW.records (OpenRow.toRowW PySem.Challenge.rw_trellisway_k13_whole_nearest_walked.row)) s)) (XP:=XL H13.V []) (Yf:=Hook.obs (kHook H13.KH H13.KA H13.ka_eq)) (Ya:=Hook.val (kHook H13.KH H13.KA H13.ka_eq)) (YP:=Hook.says (kHook H13.KH H13.KA H13.ka_eq)) (N:=6438) H13.leftR (Hook.of (kHook H13.KH H13.KA H13.ka_eq)) (Hook.keeps (kHook H13.KH H13.KA H13.ka_eq)) (λs e=>xl_of s (Bool.and_eq_true_iff.mp e).1) XL.keeps (by rfl) (by rfl) (by rfl) (λs e=>recFacts_of (Bool.and_eq_true_iff.mp e).2) (by rfl) (by first|assumption|decide+kernel) (by decide+kernel) ⟨rfl,rfl,rfl,rfl,rfl,by decide+kernel⟩ ?hw ?hc
 case hw=>w_witness2
 case hc=>exact K13.walk (l:=PySem.Challenge.rw_trellisway_k13_whole_nearest_walked) rfl rfl rfl (λw h Y=>PySem.W.kIn_of Y) λw mg fa h KX G hmg=>K13.txt KX G hmg
