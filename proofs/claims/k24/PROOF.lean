import PyProof.Rows.All
import Wide.All
import OpenK.AllK
import Wide.FinOn
import Lean
import KE.KTryMore
import KE.KRevIter
import KE.KMinKey
import KE.KIntText
import PyProof.EqAt
import PyProof.EqKinds
import PyProof.TupleCall
import PySem.Challenge.RW_trellisway_k24_kept_ways
set_option Elab.async false
set_option linter.all false
set_option maxRecDepth 100000
set_option maxHeartbeats 4000000
abbrev FrG:=PySem.W.Frag
abbrev zlw:PySem.Str:="law_trellisway_k24_kept_ways"
namespace H24
open PySem PySem.W
def q6x(tb:String->Option Builtin)(p:Program)(w:World)(n₀:Nat)(ann:Option Value):Nat->SharedT->Thread->Option SharedT
 |0,_,_=>none
 | n+1,s,t=>match through t with
  |true=>some s
  | false=>match stepOk n₀ ann t with
   |false=>none
   | true=>match stepT (denote tb) p w s t with
    |some (s',t')=>q6x tb p w n₀ ann n s' t'
    |none=>none
theorem q7x{tb:String->Option Builtin}{p:Program}{w:World}{n₀:Nat}{ann:Option Value}:∀{n:Nat} {s s':SharedT} {t:Thread},q6x tb p w n₀ ann n s t=some s'->topRun tb p w n₀ ann n s.abs t=some s'.abs
 |0,_,_,_,h=>by cases h
 | n+1,s,s',t,h=>by
  unfold q6x at h;unfold topRun;split at h
  ·rename_i q;rw[q];cases h;rfl
  ·rename_i q;rw[q];split at h
   ·cases h
   ·rename_i q2;dsimp only;rw[q2];split at h
    ·rename_i s1 t1 q3;dsimp only;rw[stepT_spec q3];exact q7x h
    ·cases h
def qlh:List Obj->Nat->BT->BT
 |[],_,t=>t
 |o::r,n,t=>qlh r (n+1) (t.ins n o)
noncomputable def qod(P:Params)(os:OsState):SharedT:=⟨qlh (boot_heap P).objs.toList 0 .nil,(boot_heap P).objs.size,(boot_heap P).life,Array.mk [],boot_drawn,boot_toks,os⟩
theorem qhj(P:Params)(os:OsState):(qod P os).abs=⟨boot_heap P,Array.mk [],boot_drawn,boot_toks,os⟩:=by kernel_rfl
theorem qgo{p q:Program}{loose:List Str}{Xt:Shared->Bool}{α:Type}{Yf:Shared->α}{Ya:World->α}{N m₀:Nat}{ann:Option Value}(e:opening p=plainProg p.main.scope.names)(hN:Nat.ble 600 N=true)(f:∀s,fenceModules? p s=some s)
 (size:∀P:Params,((boot_heap P).isNs mainGlobals,(boot_heap P).objs.size,(boot_heap P).nsMap mainGlobals "__annotations__")=(true,m₀,ann))
 (run:∀(w:World) (os:OsState),(q6x treeTable p w m₀ ann N (qod w.params os) (topStub p)).map (λs=>(staticsOk (importedModules p.main.body) (boot_heap w.params) s.abs.heap&&namesBound p s.abs.heap&&gensDone s.abs&&laidKept (boot_heap w.params) s.abs.heap,
   openSeen q loose (importedModules p.main.body) Xt true s.abs,Yf s.abs))=some (true,openGood q loose,Ya w)):LeftO p q loose Xt Yf Ya N:=λw=>by
 obtain⟨⟨h,gs,d,k,os⟩,e,e'⟩:=Option.map_eq_some_iff.mp (boot_open e hN f w);obtain⟨rfl,rfl,rfl,rfl⟩:h=boot_heap w.params/\gs=Array.mk []/\d=boot_drawn/\k=boot_toks:=by simpa using e'
 obtain⟨z1,z2,z3⟩:_/\_/\_:=by simpa only[Prod.mk.injEq]using size w.params
 obtain⟨s,r,l⟩:=Option.map_eq_some_iff.mp (run w os);obtain⟨l1,l2,l3⟩:_/\_/\_:=by simpa only[Prod.mk.injEq]using l
 have r:=q7x r;rw[qhj]at r;have t:topFrom treeTable p w N ⟨boot_heap w.params,Array.mk [],boot_drawn,boot_toks,os⟩=some s.abs:=by unfold topFrom;dsimp only;rw[z1,z2,z3,r];show(match staticsOk (importedModules p.main.body) (boot_heap w.params) s.abs.heap&&namesBound p s.abs.heap&&gensDone s.abs&&laidKept (boot_heap w.params) s.abs.heap with|true=>_|false=>_)=_;rw[l1]
 unfold openEnds;rw[e];show(topFrom treeTable p w N _).map _=_;rw[t];exact congrArg some (Prod.ext l2 l3)
def tp(i:Nat):Stmt:=PySem.Challenge.pw_trellisway_k24_kept_ways.main.body.getD i (.Pass ⟨0,0,0,0⟩)
def ic(s:Stmt)(j:Nat):Stmt:=match s with
 |.ClassDef _ _ _ b _ _ _ _ _ _ _=>b.getD j (.Pass ⟨0,0,0,0⟩)
 |_=>.Pass ⟨0,0,0,0⟩
def dA(s:Stmt):Arguments:=match s with
 |.FunctionDef _ a _ _ _ _ _ _ _ _=>a
 |_=>{posonlyargs:=[],args:=[],vararg:=none,kwonlyargs:=[],kw_defaults:=[],kwarg:=none,defaults:=[]}
def dB(s:Stmt):List Stmt:=match s with
 |.FunctionDef _ _ b _ _ _ _ _ _ _=>b
 |_=>[]
def dS(s:Stmt):Scope:=match s with
 |.FunctionDef _ _ _ _ _ _ sc _ _ _=>sc
 |_=>{kind:=.function,names:=[],isGenerator:=false,isCoroutine:=false}
def V:Program:={PySem.Challenge.pw_trellisway_k24_kept_ways with main:={PySem.Challenge.pw_trellisway_k24_kept_ways.main with body:=[tp 1,tp 2,tp 3,tp 5,tp 6,tp 7,tp 8,tp 9,tp 11,tp 12,tp 13,tp 14,tp 15,tp 17,tp 18,tp 19,tp 20,tp 21,tp 23,tp 24,tp 25,tp 26,tp 27,tp 28,tp 30,tp 31,tp 32,tp 33,tp 34,tp 35,tp 36,tp 38,tp 39,tp 40,tp 41,tp 42,tp 43,tp 44,tp 45,tp 46,tp 47,tp 48,tp 49,tp 50,tp 51,tp 52,tp 53,tp 54,tp 55]}}
def eS(P:Params)(x:Str)(t:Nat)(v:Value):DictEntry:=⟨PyData.keyHash P x,.str x t,v⟩
def fO(x:Str)(s:Stmt)(pm:Value)(cd:Nat):Obj:=⟨.type "function",none,.func (W.fnOf x x (dA s) (dB s) (dS s) .none .none .none pm none (.ref cd) .none),#[]⟩
def cO(x:Str)(t:Nat)(y:Str)(u a2 a3 a4 a7 a8 a10 a11 a13 a14 a15 a16 a17 a18:Nat):Obj:=⟨.type "code",none,.fields #[.str x t,.str y u,.str "/claim/cut.py" a2,.int a3 0,.int a4 0,.int 0 0,.int 0 0,.int a7 0,.ref a8,.bool true,.int a10 0,.ref a11,.none,.ref a13,.ref a14,.ref a15,.int a16 0,.int a17 0,.str "/claim/cut.py" a18],#[]⟩
def KH(P:Params):W.Frag:=[(3,⟨.type "dict",none,.dict #[eS P "__name__" 165 (.str zlw 574),eS P "__doc__" 166 (.none),eS P "__package__" 167 (.none),eS P "__loader__" 168 (.builtin "__main__.__loader__#opaque"),eS P "__spec__" 169 (.none),eS P "__annotations__" 170 (.ref 6),eS P "__builtins__" 171 (.ref 4),eS P "__file__" 173 (.str "/claim/cut.py" 172),eS P "__cached__" 174 (.none),eS P "WayError" 206 (.ref 24),eS P "NoWord" 222 (.ref 37),eS P "NoSigns" 238 (.ref 49),eS P "rooms_at" 247 (.ref 58),eS P "rooms" 254 (.ref 65),eS P "parity" 263 (.ref 72),eS P "step" 269 (.ref 77),eS P "sent_at" 275 (.ref 82),eS P "is_ring" 284 (.ref 89),eS P "check_size" 292 (.ref 96),eS P "bits_behind" 299 (.ref 103),eS P "steps_of" 307 (.ref 110),eS P "places_of" 318 (.ref 117),eS P "Sign" 340 (.ref 127),eS P "Clear" 380 (.ref 162),eS P "Gap" 411 (.ref 188),eS P "Soft" 453 (.ref 221),eS P "sign_of" 460 (.ref 230),eS P "check_heard" 472 (.ref 237),eS P "signs_cost" 478 (.ref 242),eS P "signs_by_step" 484 (.ref 247),eS P "move" 496 (.ref 254),eS P "moves_from" 502 (.ref 259),eS P "moves" 508 (.ref 264),eS P "opened" 517 (.ref 271),eS P "kept_at_first" 523 (.ref 276),eS P "better" 531 (.ref 283),eS P "kept_on" 545 (.ref 290),eS P "kept" 556 (.ref 297),eS P "begun_alike" 567 (.ref 304),eS P "settled" 573 (.ref 309),eS P "_law_cell_at" 583 (.ref 316),eS P "_law_state" 591 (.ref 323),eS P "_law_next" 599 (.ref 330),eS P "_law_scheme" 605 (.ref 335),eS P "_law_odd" 613 (.ref 342),eS P "_law_step" 619 (.ref 347),eS P "_law_start" 629 (.ref 354),eS P "_law_sent" 642 (.ref 361),eS P "_law_sign" 653 (.ref 368),eS P "_law_heard" 665 (.ref 375),eS P "_law_price" 673 (.ref 382),eS P "_law_whole" 680 (.ref 389),eS P "_law_is_word" 686 (.ref 394),eS P "_law_next_row" 692 (.ref 399),eS P "_law_is_row" 702 (.ref 406),eS P "_law_common" 708 (.ref 411),eS P "_law_refused" 719 (.ref 418),eS P "law" 725 (.ref 423)] 58,#[]⟩),
 (23,⟨.type "dict",none,.dict #[eS P "__module__" 196 (.str "trellisway.errors" 187),eS P "__firstlineno__" 200 (.int 2 199),eS P "__static_attributes__" 201 (.ref 22),eS P "__weakref__" 203 (.ref 25),eS P "__doc__" 204 (.none)] 3,#[]⟩),
 (24,⟨.type "type",none,.cls ⟨"WayError",[.type "ValueError"],[.ref 24,.type "ValueError",.type "Exception",.type "BaseException",.type "object"],23,"WayError",true,[],[.ref 37,.ref 49],false,none,false⟩,#[some (.ref 15),none,some (.str "WayError" 189),some (.str "WayError" 197),some (.builtin "ValueError.__new__"),some (.bool true)]⟩),
 (36,⟨.type "dict",none,.dict #[eS P "__module__" 214 (.str "trellisway.errors" 187),eS P "__firstlineno__" 218 (.int 4 217),eS P "__static_attributes__" 219 (.ref 35),eS P "__doc__" 220 (.none)] 2,#[]⟩),
 (37,⟨.type "type",none,.cls ⟨"NoWord",[.ref 24],[.ref 37,.ref 24,.type "ValueError",.type "Exception",.type "BaseException",.type "object"],36,"NoWord",true,[],[],false,none,false⟩,#[some (.ref 28),none,some (.str "NoWord" 207),some (.str "NoWord" 215),some (.builtin "ValueError.__new__"),some (.bool true)]⟩),
 (48,⟨.type "dict",none,.dict #[eS P "__module__" 230 (.str "trellisway.errors" 187),eS P "__firstlineno__" 234 (.int 6 233),eS P "__static_attributes__" 235 (.ref 47),eS P "__doc__" 236 (.none)] 2,#[]⟩),
 (49,⟨.type "type",none,.cls ⟨"NoSigns",[.ref 24],[.ref 49,.ref 24,.type "ValueError",.type "Exception",.type "BaseException",.type "object"],48,"NoSigns",true,[],[],false,none,false⟩,#[some (.ref 40),none,some (.str "NoSigns" 223),some (.str "NoSigns" 231),some (.builtin "ValueError.__new__"),some (.bool true)]⟩),
 (57,cO "rooms_at" 241 "rooms_at" 242 243 9 1 3 52 181 53 54 55 56 245 9 246),
 (58,fO "rooms_at" (tp 5) (.str "trellisway.schemes" 239) 57),
 (64,cO "rooms" 248 "rooms" 249 250 11 1 3 59 181 60 61 62 63 252 11 253),
 (65,fO "rooms" (tp 6) (.str "trellisway.schemes" 239) 64),
 (71,cO "parity" 255 "parity" 256 257 13 1 3 66 181 67 68 69 70 261 13 262),
 (72,fO "parity" (tp 7) (.str "trellisway.schemes" 239) 71),
 (76,⟨.type "code",none,.fields #[.str "step" 264,.str "step" 265,.str "/claim/cut.py" 266,.int 20 0,.int 3 0,.int 0 0,.int 0 0,.int 3 0,.ref 73,.bool true,.int 181 0,.ref 74,.none,.none,.none,.ref 75,.int 267 0,.int 20 0,.str "/claim/cut.py" 268],#[]⟩),
 (77,fO "step" (tp 8) (.str "trellisway.schemes" 239) 76),
 (81,⟨.type "code",none,.fields #[.str "sent_at" 270,.str "sent_at" 271,.str "/claim/cut.py" 272,.int 24 0,.int 3 0,.int 0 0,.int 0 0,.int 3 0,.ref 78,.bool true,.int 181 0,.ref 79,.none,.none,.none,.ref 80,.int 273 0,.int 24 0,.str "/claim/cut.py" 274],#[]⟩),
 (82,fO "sent_at" (tp 9) (.str "trellisway.schemes" 239) 81),
 (88,cO "is_ring" 278 "is_ring" 279 280 29 1 3 83 181 84 85 86 87 282 29 283),
 (89,fO "is_ring" (tp 11) (.str "trellisway.sending" 276) 88),
 (95,cO "check_size" 285 "check_size" 286 287 31 2 3 90 181 91 92 93 94 290 31 291),
 (96,fO "check_size" (tp 12) (.str "trellisway.sending" 276) 95),
 (102,cO "bits_behind" 293 "bits_behind" 294 295 34 1 3 97 181 98 99 100 101 297 34 298),
 (103,fO "bits_behind" (tp 13) (.str "trellisway.sending" 276) 102),
 (109,cO "steps_of" 300 "steps_of" 301 302 36 2 3 104 181 105 106 107 108 305 36 306),
 (110,fO "steps_of" (tp 14) (.str "trellisway.sending" 276) 109),
 (116,cO "places_of" 308 "places_of" 309 310 39 2 3 111 181 112 113 114 115 316 39 317),
 (117,fO "places_of" (tp 15) (.str "trellisway.sending" 276) 116),
 (126,⟨.type "dict",none,.dict #[eS P "__module__" 328 (.str "trellisway.signs" 319),eS P "__firstlineno__" 332 (.int 46 331),eS P "__static_attributes__" 333 (.ref 125),eS P "__dict__" 335 (.ref 128),eS P "__weakref__" 337 (.ref 129),eS P "__doc__" 338 (.none)] 4,#[]⟩),
 (127,⟨.type "type",none,.cls ⟨"Sign",[.type "object"],[.ref 127,.type "object"],126,"Sign",true,[],[.ref 162,.ref 188,.ref 221],false,none,false⟩,#[none,none,some (.str "Sign" 321),some (.str "Sign" 329),some (.builtin "object.__new__"),some (.bool true)]⟩),
 (144,cO "__init__" 353 "Clear.__init__" 354 355 50 2 3 139 181 140 141 142 143 358 50 359),
 (145,⟨.type "function",none,.func (W.fnOf "__init__" "Clear.__init__" (dA (ic (tp 18) 0)) (dB (ic (tp 18) 0)) (dS (ic (tp 18) 0)) (.none) (.none) (.none) (.str "trellisway.signs" 319) none (.ref 144) (.none)),#[]⟩),
 (151,cO "told" 361 "Clear.told" 362 363 53 1 3 146 181 147 148 149 150 365 53 366),
 (152,⟨.type "function",none,.func (W.fnOf "told" "Clear.told" (dA (ic (tp 18) 1)) (dB (ic (tp 18) 1)) (dS (ic (tp 18) 1)) (.none) (.none) (.none) (.str "trellisway.signs" 319) none (.ref 151) (.none)),#[]⟩),
 (158,cO "cost" 368 "Clear.cost" 369 370 56 2 3 153 181 154 155 156 157 373 56 374),
 (159,⟨.type "function",none,.func (W.fnOf "cost" "Clear.cost" (dA (ic (tp 18) 2)) (dB (ic (tp 18) 2)) (dS (ic (tp 18) 2)) (.none) (.none) (.none) (.str "trellisway.signs" 319) none (.ref 158) (.none)),#[]⟩),
 (161,⟨.type "dict",none,.dict #[eS P "__module__" 348 (.str "trellisway.signs" 319),eS P "__firstlineno__" 352 (.int 48 351),eS P "__init__" 360 (.ref 145),eS P "told" 367 (.ref 152),eS P "cost" 375 (.ref 159),eS P "__static_attributes__" 377 (.ref 160),eS P "__doc__" 378 (.none)] 2,#[]⟩),
 (162,⟨.type "type",none,.cls ⟨"Clear",[.ref 127],[.ref 162,.ref 127,.type "object"],161,"Clear",true,[],[],false,none,false⟩,#[some (.ref 132),none,some (.str "Clear" 341),some (.str "Clear" 349),some (.builtin "object.__new__"),some (.bool true)]⟩),
 (177,cO "told" 393 "Gap.told" 394 395 60 1 3 172 181 173 174 175 176 397 60 398),
 (178,⟨.type "function",none,.func (W.fnOf "told" "Gap.told" (dA (ic (tp 19) 0)) (dB (ic (tp 19) 0)) (dS (ic (tp 19) 0)) (.none) (.none) (.none) (.str "trellisway.signs" 319) none (.ref 177) (.none)),#[]⟩),
 (184,cO "cost" 400 "Gap.cost" 401 402 63 2 3 179 181 180 181 182 183 405 63 406),
 (185,⟨.type "function",none,.func (W.fnOf "cost" "Gap.cost" (dA (ic (tp 19) 1)) (dB (ic (tp 19) 1)) (dS (ic (tp 19) 1)) (.none) (.none) (.none) (.str "trellisway.signs" 319) none (.ref 184) (.none)),#[]⟩),
 (187,⟨.type "dict",none,.dict #[eS P "__module__" 388 (.str "trellisway.signs" 319),eS P "__firstlineno__" 392 (.int 58 391),eS P "told" 399 (.ref 178),eS P "cost" 407 (.ref 185),eS P "__static_attributes__" 408 (.ref 186),eS P "__doc__" 409 (.none)] 2,#[]⟩),
 (188,⟨.type "type",none,.cls ⟨"Gap",[.ref 127],[.ref 188,.ref 127,.type "object"],187,"Gap",true,[],[],false,none,false⟩,#[some (.ref 165),none,some (.str "Gap" 381),some (.str "Gap" 389),some (.builtin "object.__new__"),some (.bool true)]⟩),
 (203,cO "__init__" 424 "Soft.__init__" 425 426 67 3 3 198 181 199 200 201 202 430 67 431),
 (204,⟨.type "function",none,.func (W.fnOf "__init__" "Soft.__init__" (dA (ic (tp 20) 0)) (dB (ic (tp 20) 0)) (dS (ic (tp 20) 0)) (.none) (.none) (.none) (.str "trellisway.signs" 319) none (.ref 203) (.none)),#[]⟩),
 (210,cO "told" 433 "Soft.told" 434 435 71 1 3 205 181 206 207 208 209 437 71 438),
 (211,⟨.type "function",none,.func (W.fnOf "told" "Soft.told" (dA (ic (tp 20) 1)) (dB (ic (tp 20) 1)) (dS (ic (tp 20) 1)) (.none) (.none) (.none) (.str "trellisway.signs" 319) none (.ref 210) (.none)),#[]⟩),
 (217,cO "cost" 440 "Soft.cost" 441 442 74 2 3 212 181 213 214 215 216 445 74 446),
 (218,⟨.type "function",none,.func (W.fnOf "cost" "Soft.cost" (dA (ic (tp 20) 2)) (dB (ic (tp 20) 2)) (dS (ic (tp 20) 2)) (.none) (.none) (.none) (.str "trellisway.signs" 319) none (.ref 217) (.none)),#[]⟩),
 (220,⟨.type "dict",none,.dict #[eS P "__module__" 419 (.str "trellisway.signs" 319),eS P "__firstlineno__" 423 (.int 65 422),eS P "__init__" 432 (.ref 204),eS P "told" 439 (.ref 211),eS P "cost" 447 (.ref 218),eS P "__static_attributes__" 450 (.ref 219),eS P "__doc__" 451 (.none)] 2,#[]⟩),
 (221,⟨.type "type",none,.cls ⟨"Soft",[.ref 127],[.ref 221,.ref 127,.type "object"],220,"Soft",true,[],[],false,none,false⟩,#[some (.ref 191),none,some (.str "Soft" 412),some (.str "Soft" 420),some (.builtin "object.__new__"),some (.bool true)]⟩),
 (229,cO "sign_of" 454 "sign_of" 455 456 76 1 3 224 181 225 226 227 228 458 76 459),
 (230,fO "sign_of" (tp 21) (.str "trellisway.signs" 319) 229),
 (236,cO "check_heard" 463 "check_heard" 464 465 83 3 3 231 181 232 233 234 235 470 83 471),
 (237,fO "check_heard" (tp 23) (.str "trellisway.costs" 461) 236),
 (241,⟨.type "code",none,.fields #[.str "signs_cost" 473,.str "signs_cost" 474,.str "/claim/cut.py" 475,.int 87 0,.int 2 0,.int 0 0,.int 0 0,.int 3 0,.ref 238,.bool true,.int 181 0,.ref 239,.none,.none,.none,.ref 240,.int 476 0,.int 87 0,.str "/claim/cut.py" 477],#[]⟩),
 (242,fO "signs_cost" (tp 24) (.str "trellisway.costs" 461) 241),
 (246,⟨.type "code",none,.fields #[.str "signs_by_step" 479,.str "signs_by_step" 480,.str "/claim/cut.py" 481,.int 89 0,.int 3 0,.int 0 0,.int 0 0,.int 3 0,.ref 243,.bool true,.int 181 0,.ref 244,.none,.none,.none,.ref 245,.int 482 0,.int 89 0,.str "/claim/cut.py" 483],#[]⟩),
 (247,fO "signs_by_step" (tp 25) (.str "trellisway.costs" 461) 246),
 (253,cO "move" 485 "move" 486 487 94 5 3 248 181 249 250 251 252 494 94 495),
 (254,fO "move" (tp 26) (.str "trellisway.costs" 461) 253),
 (258,⟨.type "code",none,.fields #[.str "moves_from" 497,.str "moves_from" 498,.str "/claim/cut.py" 499,.int 97 0,.int 5 0,.int 0 0,.int 0 0,.int 3 0,.ref 255,.bool true,.int 181 0,.ref 256,.none,.none,.none,.ref 257,.int 500 0,.int 97 0,.str "/claim/cut.py" 501],#[]⟩),
 (259,fO "moves_from" (tp 27) (.str "trellisway.costs" 461) 258),
 (263,⟨.type "code",none,.fields #[.str "moves" 503,.str "moves" 504,.str "/claim/cut.py" 505,.int 99 0,.int 3 0,.int 0 0,.int 0 0,.int 3 0,.ref 260,.bool true,.int 181 0,.ref 261,.none,.none,.none,.ref 262,.int 506 0,.int 99 0,.str "/claim/cut.py" 507],#[]⟩),
 (264,fO "moves" (tp 28) (.str "trellisway.costs" 461) 263),
 (270,cO "opened" 511 "opened" 512 513 107 1 3 265 181 266 267 268 269 515 107 516),
 (271,fO "opened" (tp 30) (.str "trellisway.pieces" 509) 270),
 (275,⟨.type "code",none,.fields #[.str "kept_at_first" 518,.str "kept_at_first" 519,.str "/claim/cut.py" 520,.int 109 0,.int 1 0,.int 0 0,.int 0 0,.int 3 0,.ref 272,.bool true,.int 181 0,.ref 273,.none,.none,.none,.ref 274,.int 521 0,.int 109 0,.str "/claim/cut.py" 522],#[]⟩),
 (276,fO "kept_at_first" (tp 31) (.str "trellisway.pieces" 509) 275),
 (282,cO "better" 524 "better" 525 526 111 2 3 277 181 278 279 280 281 529 111 530),
 (283,fO "better" (tp 32) (.str "trellisway.pieces" 509) 282),
 (289,cO "kept_on" 532 "kept_on" 533 534 113 2 3 284 181 285 286 287 288 543 113 544),
 (290,fO "kept_on" (tp 33) (.str "trellisway.pieces" 509) 289),
 (296,cO "kept" 546 "kept" 547 548 121 3 3 291 181 292 293 294 295 554 121 555),
 (297,fO "kept" (tp 34) (.str "trellisway.pieces" 509) 296),
 (303,cO "begun_alike" 557 "begun_alike" 558 559 126 2 3 298 181 299 300 301 302 565 126 566),
 (304,fO "begun_alike" (tp 35) (.str "trellisway.pieces" 509) 303),
 (308,⟨.type "code",none,.fields #[.str "settled" 568,.str "settled" 569,.str "/claim/cut.py" 570,.int 133 0,.int 3 0,.int 0 0,.int 0 0,.int 3 0,.ref 305,.bool true,.int 181 0,.ref 306,.none,.none,.none,.ref 307,.int 571 0,.int 133 0,.str "/claim/cut.py" 572],#[]⟩),
 (309,fO "settled" (tp 36) (.str "trellisway.pieces" 509) 308),
 (315,cO "_law_cell_at" 576 "_law_cell_at" 577 578 140 2 3 310 181 311 312 313 314 581 140 582),
 (316,fO "_law_cell_at" (tp 38) (.str zlw 574) 315),
 (322,cO "_law_state" 584 "_law_state" 585 586 144 2 3 317 181 318 319 320 321 589 144 590),
 (323,fO "_law_state" (tp 39) (.str zlw 574) 322),
 (329,cO "_law_next" 592 "_law_next" 593 594 146 2 3 324 181 325 326 327 328 597 146 598),
 (330,fO "_law_next" (tp 40) (.str zlw 574) 329),
 (334,⟨.type "code",none,.fields #[.str "_law_scheme" 600,.str "_law_scheme" 601,.str "/claim/cut.py" 602,.int 149 0,.int 3 0,.int 0 0,.int 0 0,.int 3 0,.ref 331,.bool true,.int 181 0,.ref 332,.none,.none,.none,.ref 333,.int 603 0,.int 149 0,.str "/claim/cut.py" 604],#[]⟩),
 (335,fO "_law_scheme" (tp 41) (.str zlw 574) 334),
 (341,cO "_law_odd" 606 "_law_odd" 607 608 156 1 3 336 181 337 338 339 340 611 156 612),
 (342,fO "_law_odd" (tp 42) (.str zlw 574) 341),
 (346,⟨.type "code",none,.fields #[.str "_law_step" 614,.str "_law_step" 615,.str "/claim/cut.py" 616,.int 162 0,.int 4 0,.int 0 0,.int 0 0,.int 3 0,.ref 343,.bool true,.int 181 0,.ref 344,.none,.none,.none,.ref 345,.int 617 0,.int 162 0,.str "/claim/cut.py" 618],#[]⟩),
 (347,fO "_law_step" (tp 43) (.str zlw 574) 346),
 (353,cO "_law_start" 620 "_law_start" 621 622 167 2 3 348 181 349 350 351 352 627 167 628),
 (354,fO "_law_start" (tp 44) (.str zlw 574) 353),
 (360,cO "_law_sent" 630 "_law_sent" 631 632 173 2 3 355 181 356 357 358 359 640 173 641),
 (361,fO "_law_sent" (tp 45) (.str zlw 574) 360),
 (367,cO "_law_sign" 643 "_law_sign" 644 645 183 3 3 362 181 363 364 365 366 651 183 652),
 (368,fO "_law_sign" (tp 46) (.str zlw 574) 367),
 (374,cO "_law_heard" 654 "_law_heard" 655 656 195 3 3 369 181 370 371 372 373 663 195 664),
 (375,fO "_law_heard" (tp 47) (.str zlw 574) 374),
 (381,cO "_law_price" 666 "_law_price" 667 668 200 2 3 376 181 377 378 379 380 671 200 672),
 (382,fO "_law_price" (tp 48) (.str zlw 574) 381),
 (388,cO "_law_whole" 674 "_law_whole" 675 676 206 1 3 383 181 384 385 386 387 678 206 679),
 (389,fO "_law_whole" (tp 49) (.str zlw 574) 388),
 (393,⟨.type "code",none,.fields #[.str "_law_is_word" 681,.str "_law_is_word" 682,.str "/claim/cut.py" 683,.int 208 0,.int 2 0,.int 0 0,.int 0 0,.int 3 0,.ref 390,.bool true,.int 181 0,.ref 391,.none,.none,.none,.ref 392,.int 684 0,.int 208 0,.str "/claim/cut.py" 685],#[]⟩),
 (394,fO "_law_is_word" (tp 50) (.str zlw 574) 393),
 (398,⟨.type "code",none,.fields #[.str "_law_next_row" 687,.str "_law_next_row" 688,.str "/claim/cut.py" 689,.int 212 0,.int 4 0,.int 0 0,.int 0 0,.int 3 0,.ref 395,.bool true,.int 181 0,.ref 396,.none,.none,.none,.ref 397,.int 690 0,.int 212 0,.str "/claim/cut.py" 691],#[]⟩),
 (399,fO "_law_next_row" (tp 51) (.str zlw 574) 398),
 (405,cO "_law_is_row" 693 "_law_is_row" 694 695 223 3 3 400 181 401 402 403 404 700 223 701),
 (406,fO "_law_is_row" (tp 52) (.str zlw 574) 405),
 (410,⟨.type "code",none,.fields #[.str "_law_common" 703,.str "_law_common" 704,.str "/claim/cut.py" 705,.int 233 0,.int 1 0,.int 0 0,.int 0 0,.int 3 0,.ref 407,.bool true,.int 181 0,.ref 408,.none,.none,.none,.ref 409,.int 706 0,.int 233 0,.str "/claim/cut.py" 707],#[]⟩),
 (411,fO "_law_common" (tp 53) (.str zlw 574) 410),
 (417,cO "_law_refused" 709 "_law_refused" 710 711 240 4 3 412 181 413 414 415 416 717 240 718),
 (418,fO "_law_refused" (tp 54) (.str zlw 574) 417),
 (422,⟨.type "code",none,.fields #[.str "law" 720,.str "law" 721,.str "/claim/cut.py" 722,.int 250 0,.int 1 0,.int 0 0,.int 0 0,.int 3 0,.ref 419,.bool true,.int 181 0,.ref 420,.none,.none,.none,.ref 421,.int 723 0,.int 250 0,.str "/claim/cut.py" 724],#[]⟩),
 (423,fO "law" (tp 55) (.str zlw 574) 422)]
def KA:List Addr:=[3,23,24,36,37,48,49,57,58,64,65,71,72,76,77,81,82,88,89,95,96,102,103,109,110,116,117,126,127,144,145,151,152,158,159,161,162,177,178,184,185,187,188,203,204,210,211,217,218,220,221,229,230,236,237,241,242,246,247,253,254,258,259,263,264,270,271,275,276,282,283,289,290,296,297,303,304,308,309,315,316,322,323,329,330,334,335,341,342,346,347,353,354,360,361,367,368,374,375,381,382,388,389,393,394,398,399,405,406,410,411,417,418,422,423]
theorem ka_eq:∀P,KA=(KH P).map (·.1):=λ_=>rfl
theorem run(w:World)(os:OsState):(q6x treeTable PySem.Challenge.pw_trellisway_k24_kept_ways w 11 (some (.ref 6)) 6118 (qod w.params os) (topStub PySem.Challenge.pw_trellisway_k24_kept_ways)).map (λs=>(staticsOk (importedModules PySem.Challenge.pw_trellisway_k24_kept_ways.main.body) (boot_heap w.params) s.abs.heap&&namesBound PySem.Challenge.pw_trellisway_k24_kept_ways s.abs.heap&&gensDone s.abs&&laidKept (boot_heap w.params) s.abs.heap,
 openSeen V [] (importedModules PySem.Challenge.pw_trellisway_k24_kept_ways.main.body) (λs=>xlAt V [] s&&recOk (RowW.records (OpenRow.toRowW PySem.Challenge.rw_trellisway_k24_kept_ways.row)) s) true s.abs,Hook.obs (kHook KH KA ka_eq) s.abs))=some (true,openGood V [],Hook.val (kHook KH KA ka_eq) w):=by kernel_rfl
theorem left:LeftO PySem.Challenge.pw_trellisway_k24_kept_ways V [] (λs=>xlAt V [] s&&recOk (RowW.records (OpenRow.toRowW PySem.Challenge.rw_trellisway_k24_kept_ways.row)) s) (Hook.obs (kHook KH KA ka_eq)) (Hook.val (kHook KH KA ka_eq)) 6118:=qgo (by kernel_rfl) (by kernel_rfl) (λs=>by kernel_rfl) (λP=>by kernel_rfl) run
theorem qm6:(OpenRow.toRowW PySem.Challenge.rw_trellisway_k24_kept_ways.row).prog=PySem.Challenge.pw_trellisway_k24_kept_ways:=by kernel_rfl
theorem leftR:LeftO (OpenRow.toRowW PySem.Challenge.rw_trellisway_k24_kept_ways.row).prog V [] (λs=>xlAt V [] s&&recOk (RowW.records (OpenRow.toRowW PySem.Challenge.rw_trellisway_k24_kept_ways.row)) s) (Hook.obs (kHook KH KA ka_eq)) (Hook.val (kHook KH KA ka_eq)) 6118:=by rw[qm6];exact left
end H24
abbrev j8:=@PySem.wpAny_bind
abbrev j9:=@List.length_map
abbrev jb:=@PySem.Heap.lt_size
abbrev jc:=@PySem.wpAny_pure
abbrev jd:=@Option.some.inj
abbrev je:=@List.getElem?_map
abbrev jf:=@List.getElem?_eq_getElem
abbrev jg:=@Nat.le_refl
abbrev jh:=@PySem.Heap.get?_push_of_some
abbrev ji:=@List.getElem?_set_ne
abbrev jj:=@List.mem_cons_of_mem
abbrev jk:=@List.mem_cons_self
abbrev jl:=@List.length_append
abbrev jm:=@Nat.ne_of_lt
abbrev jn:=@List.getElem?_set_self
abbrev jo:=@List.length_replicate
abbrev jq:=@Nat.zero_add
abbrev jr:=@PySem.Heap.get?_push_size
abbrev jt:=@Nat.lt_of_lt_of_le
abbrev ju:=@List.length_cons
abbrev jv:=@List.map_map
abbrev jw:=@List.length_set
abbrev jx:=@Int.toNat_natCast
abbrev jy:=@PySem.PassesOwn.never
abbrev jz:=@List.getD_eq_getElem?_getD
abbrev x8:=@List.map_append
abbrev x9:=@Nat.le_trans
abbrev xc:=@PySem.wpAny_field
abbrev xf:=@List.size_toArray
abbrev xg:=@PySem.wpAny_mono
abbrev xh:=@Nat.lt_irrefl
abbrev xj:=@List.mem_append_right
abbrev xk:=@List.map_cons
abbrev xl:=@List.length_take
abbrev xm:=@List.mem_of_getElem?
abbrev xn:=@PySem.Heap.size_push
abbrev xo:=@PySem.wpAny_seqItems
abbrev xp:=@List.getElem?_range
abbrev xq:=@List.getElem?_eq_none
abbrev xr:=@List.getElem?_replicate
abbrev xu:=@PySem.wpAny_newObj_type
abbrev xv:=@List.length_zip
abbrev xw:=@List.getElem?_append_right
abbrev xx:=@List.drop_eq_getElem_cons
abbrev xy:=@PySem.wpAny_Call_Name_kw
abbrev k6:=@List.length_drop
abbrev k7:=@PySem.Heap.get?_update_other
abbrev k8:=@PySem.wpAny_truthy_bool
abbrev k9:=@PySem.wpAny_passesOwn
abbrev kc:=@List.getElem?_append_left
abbrev ke:=@PySem.F.plain_min_loop
abbrev kf:=@Nat.min_le_left
abbrev kg:=@PySem.wpAny_execs_nil
abbrev kh:=@PySem.wpAny_setField_rec
abbrev ki:=@PySem.wpAny_loadPart'
abbrev kl:=@List.getElem_mem
abbrev ko:=@PySem.wpAny_callSpecial?_slot
abbrev kq:=@PySem.Heap.get?_update_self
abbrev ku:=@PySem.Obj.data_mapFields
abbrev kv:=@PySem.Around.under_plainId
abbrev ky:=@PySem.F.slot_tuple_iterator_next
namespace L2
open PySem PySem.Spec PyProof.Rows
abbrev Key:=Sum Int Str
def qs9:Key->Value->Bool
 |.inl k,v=>Value.isInt k v
 |.inr x,v=>Value.isStrOf x v
def keyH(w:World):Key->Int
 |.inl k=>hashInt k
 |.inr x=>hashStr w x
theorem q29:∀{k:Key} {v:Value},qs9 k v=true->(∃i t,k=Sum.inl i/\v=Value.int i t)∨(∃x t,k=Sum.inr x/\v=Value.str x t)
 | .inl i,v,h=>by obtain⟨t,e⟩:=Value.isInt_shape (k:=i) (v:=v) h;exact .inl ⟨i,t,rfl,e⟩
 | .inr x,v,h=>by obtain⟨t,e⟩:=Value.isStrOf_shape (x:=x) (v:=v) h;exact .inr ⟨x,t,rfl,e⟩
theorem qs8(a b:Int):decide ((Sum.inl a:Key)=Sum.inl b)=(a==b):=by
 by_cases e:a=b
 ·subst e;simp
 ·have h:¬(Sum.inl a:Key)=Sum.inl b:=λq=>e (Sum.inl.inj q);rw[decide_eq_false h];exact(beq_eq_false_iff_ne.mpr e).symm
theorem qs5(a b:Str):decide ((Sum.inr a:Key)=Sum.inr b)=decide (a=b):=by
 by_cases e:a=b
 ·subst e;simp
 ·have h:¬(Sum.inr a:Key)=Sum.inr b:=λq=>e (Sum.inr.inj q);rw[decide_eq_false h,decide_eq_false e]
theorem qs7(a:Int)(b:Str):decide ((Sum.inl a:Key)=Sum.inr b)=false:=decide_eq_false (λq=>nomatch q)
theorem qs6(a:Str)(b:Int):decide ((Sum.inr a:Key)=Sum.inl b)=false:=decide_eq_false (λq=>nomatch q)
def qgc(prog:Program)(w:World):PySem.KeyKind prog w Key where
 is:=qs9
 hash:=keyH w
 inj:=λv a b ha hb=>by
  rcases q29 ha with⟨i,t,rfl,rfl⟩|⟨x,t,rfl,rfl⟩
  ·rcases q29 hb with⟨j,u,rfl,e⟩|⟨y,u,rfl,e⟩
   ·injection e with e1 _;rw[e1]
   ·exact nomatch e
  ·rcases q29 hb with⟨j,u,rfl,e⟩|⟨y,u,rfl,e⟩
   ·exact nomatch e
   ·injection e with e1 _;rw[e1]
 byValue:=λk v h=>by rcases q29 h with⟨i,t,rfl,rfl⟩|⟨x,t,rfl,rfl⟩<;>rfl
 pyHash:=λhv h=>by
  rcases q29 hv with⟨i,t,rfl,rfl⟩|⟨x,t,rfl,rfl⟩
  ·exact wpAny_pyHash_int h
  ·exact wpAny_pyHash_str h
 eqBool:=λhu hv h=>by
  rcases q29 hu with⟨i,t,rfl,rfl⟩|⟨x,t,rfl,rfl⟩
  ·rcases q29 hv with⟨j,u,rfl,rfl⟩|⟨y,u,rfl,rfl⟩
   ·rw[qs8]at h;exact wpAny_eqBool_int h
   ·rw[qs7]at h;exact SeqAt.EqAt.int_str i t y u _ _ _ _ h
  ·rcases q29 hv with⟨j,u,rfl,rfl⟩|⟨y,u,rfl,rfl⟩
   ·rw[qs6]at h;exact SeqAt.EqAt.str_int x t j u _ _ _ _ h
   ·rw[qs5]at h;exact wpAny_eqBool_str h
 «strs»:=λk x t v h=>by
  rcases q29 h with⟨i,u,rfl,e⟩|⟨y,u,rfl,e⟩
  ·exact nomatch e
  ·injection e with e1 _;subst e1;cases v<;>rfl
inductive V where
 |non|bl (b:Bool)|int (i:Int)|str (x:Str)|byt (b:Array UInt8)|flt (b:UInt64)|ref (a:Addr)|ty (n:String)
 deriving DecidableEq
def RelV:V->Value->Prop
 |.non,u=>u=Value.none
 |.bl b,u=>u=Value.bool b
 |.int i,u=>∃t,u=Value.int i t
 |.str x,u=>∃t,u=Value.str x t
 |.byt b,u=>∃t,u=Value.bytes b t
 |.flt b,u=>∃t,u=Value.float b t
 |.ref a,u=>u=Value.ref a
 |.ty n,u=>u=Value.type n
abbrev Vals:List V->List Value->Prop:=Paired RelV
theorem Vals.length{xs:List V}{us:List Value}(r:Vals xs us):xs.length=us.length:=Paired.length r
theorem Vals.get:∀{xs:List V} {us:List Value} {i:Nat} {x:V},Vals xs us->xs[i]? =some x->∃u,us[i]? =some u/\RelV x u
 |_,_,_,_,.nil,e=>by simp at e
 |_,_,0,_,.cons r _,e=>by simp at e;subst e;exact⟨_,rfl,r⟩
 | _,_,i+1,x,.cons _ t,e=>by obtain⟨u,h1,h2⟩:=Vals.get (i:=i) (x:=x) t (by simpa using e);exact⟨u,by simpa using h1,h2⟩
theorem Vals.set{x:V}{u:Value}(r:RelV x u):∀{xs:List V} {us:List Value} (i:Nat),Vals xs us->Vals (xs.set i x) (us.set i u)
 |_,_,_,.nil=>.nil
 |_,_,0,.cons _ t=>.cons r t
 |_,_,i+1,.cons q t=>.cons q (Vals.set r i t)
theorem Vals.append:∀{xs ys:List V} {us ws:List Value},Vals xs us->Vals ys ws->Vals (xs++ys) (us++ws)
 |_,_,_,_,.nil,s=>s
 |_,_,_,_,.cons r t,s=>.cons r (Vals.append t s)
theorem Vals.take:∀{xs:List V} {us:List Value} (n:Nat),Vals xs us->Vals (xs.take n) (us.take n)
 |_,_,0,_=>.nil
 |_,_,_+1,.nil=>.nil
 |_,_,n+1,.cons r t=>.cons r (Vals.take n t)
theorem Vals.drop:∀{xs:List V} {us:List Value} (n:Nat),Vals xs us->Vals (xs.drop n) (us.drop n)
 |_,_,0,r=>r
 |_,_,_+1,.nil=>.nil
 |_,_,n+1,.cons _ t=>Vals.drop n t
def RelO:Option V->Option Value->Prop
 |some v,some u=>RelV v u
 |none,none=>True
 |_,_=>False
def KV{κ:Type}:List (κ×V)->List (κ×Value)->Prop:=Paired λ(p:κ×V) (q:κ×Value)=>p.1=q.1/\RelV p.2 q.2
def kV:Key->V
 |.inl i=>.int i
 |.inr x=>.str x
inductive HO where
 |lst (xs:List V)
 |tup (xs:List V)
 |dK (kvs:List (Key×V))|dT (kvs:List (List Key×V))
 |set (S:Int->Bool) (n:Nat)
 |ins (C dx:Addr) (fs:List (Str×V))
 |own (x:Addr)
 |xd (fs:List (Str×V))
 |met (f x:Addr)
 |rng (lo hi:Int)
 |frz (o:Obj) (u:HO)
 |tbl (ps:Array Value)
 |ext (φ:Heap->Prop)
abbrev Hp:=Addr->Option HO
def upd(H:Hp)(a:Addr)(o:HO):Hp:=λb=>if b=a then some o else H b
theorem q0m{H:Hp}{a:Addr}{o:HO}:upd H a o a=some o:=by unfold upd;rw[if_pos rfl]
theorem q0j{H:Hp}{a b:Addr}{o:HO}(h:b≠a):upd H a o b=H b:=by unfold upd;rw[if_neg h]
theorem qe8{H:Hp}{a:Addr}{o u:HO}:upd (upd H a o) a u=upd H a u:=by funext b;unfold upd;split<;>rfl
theorem q1l{H:Hp}{a b:Addr}{o:HO}(h:H a=some o)(h':H b=none):a≠b:=by intro e;subst e;rw[h]at h';cases h'
def TupN(h:Heap)(a:Addr)(zb:Array Value):Prop:=∃o,h.get? a=some o/\(o.cls=.type "tuple"/\∃n,o.data=.seq zb n)/\o.dict=none
theorem TupN.tup{h:Heap}{a:Addr}{zb:Array Value}(x:TupN h a zb):IsTup h a zb:=let ⟨o,e,c,_⟩:=x;⟨o,e,c⟩
theorem TupN.lt{h:Heap}{a:Addr}{zb:Array Value}(x:TupN h a zb):a<h.objs.size:=let ⟨_,e,_⟩:=x;jb e
theorem TupN.new(h:Heap)(zb:Array Value):TupN (h.push {cls:=.type "tuple",data:=.seq zb}) h.objs.size zb:=⟨_,jr _ rfl,⟨rfl,_,rfl⟩,rfl⟩
def qvb{P:Program}{w:World}{κ:Type}[DecidableEq κ](knd:KeyKind P w κ)(h:Heap)(a:Addr)(kvs:List (κ×Value))(n:Nat):Prop:=∃o es,h.get? a=some o/\o.ExactDict/\o.data=.dict es n/\KeysOf knd es/\Pairs knd es.toList kvs/\(kvs.map (·.1)).Nodup
section
variable(P:Program)(w:World)
def ObjOk(H:Hp)(h:Heap)(a:Addr):HO->Prop
 |.lst xs=>xs.length<=sizeLine/\∃(its:List Value) (n:Nat),Vals xs its/\h.get? a=some {cls:=.type "list",data:=.seq its.toArray n}
 |.tup xs=>xs.length<=sizeLine/\∃its:List Value,Vals xs its/\TupN h a its.toArray
 |.dK kvs=>kvs.length<=sizeLine/\(a==sysModules)=false/\∃vs,KV kvs vs/\qvb (qgc P w) h a vs kvs.length
 |.dT kvs=>kvs.length<=sizeLine/\(a==sysModules)=false/\∃xs:List (List Key×Addr×Value),
  Paired (λ(p:List Key×V) (q:List Key×Addr×Value)=>p.1=q.1/\H q.2.1=some (.tup (p.1.map kV))/\RelV p.2 q.2.2) kvs xs/\
  ∃o es ep,h.get? a=some o/\o.ExactDict/\o.data=.dict es ep/\es.toList=xs.map (entryOfKey (tupleKind (qgc P w)))/\(xs.map (·.1)).Nodup/\ep=kvs.length
 |.set S n=>h.SetOf (intKind P w) a S n
 |.ins C dx fs=>H dx=some (.own a)/\fs.length<=1000/\dx≠a/\h.get? a=some (PySem.W.instObj C dx)/\
  ∃mA,h.Ns1 dx mA/\(∀f,RelO (fs.lookup f) (mA f))/\PySem.Within mA (fs.map (·.1))
 |.own _=>∃o,h.get? a=some o
 |.xd fs=>∃mA,h.Ns1 a mA/\∀f,RelO (fs.lookup f) (mA f)
 |.rng lo hi=>∃t u v,h.get? a=some {cls:=.type "range",data:=.fields #[.int lo t,.int hi u,.int 1 v]}
 |.frz o u=>h.get? a=some o/\ObjOk H h a u
 |.tbl ps=>h.get? a=some {cls:=.none,data:=.fields ps}
 |.met f x=>h.get? a=some (PySem.W.methodObj (.ref f) (.ref x))
 |.ext φ=>φ h/\(∃o,h.get? a=some o)/\∀h1 h2:Heap,φ h1->(∀o,h1.get? a=some o->h2.get? a=some o)->φ h2
def HOk(H:Hp)(h:Heap):Prop:=∀a o,H a=some o->ObjOk P w H h a o
end
section
variable{P:Program}{w:World}{H H':Hp}{h h':Heap}{a:Addr}{o:HO}
theorem ObjOk.lt(x:ObjOk P w H h a o):a<h.objs.size:=by
 cases o with
 |lst xs=>obtain⟨_,_,_,_,e⟩:=x;exact jb e
 |tup xs=>obtain⟨_,_,_,p⟩:=x;exact p.lt
 |dK kvs=>obtain⟨_,_,_,_,o,_,e,_⟩:=x;exact jb e
 |dT kvs=>obtain⟨_,_,_,_,o,_,_,e,_⟩:=x;exact jb e
 |set S n=>obtain⟨o,_,_,_,e,_⟩:=x;exact jb e
 |ins C dx fs=>obtain⟨_,_,_,e,_⟩:=x;exact jb e
 |own y=>obtain⟨_,e⟩:=x;exact jb e
 |xd fs=>obtain⟨_,⟨_,_,_,e,_⟩,_⟩:=x;exact jb e
 |rng lo hi=>obtain⟨_,_,_,e⟩:=x;exact jb e
 |frz ob u=>obtain⟨e,_⟩:=x;exact jb e
 |tbl ps=>exact jb (show h.get? a=some _ from x)
 |met f y=>exact jb (show h.get? a=some _ from x)
 |ext φ=>obtain⟨_,⟨_,e⟩,_⟩:=x;exact jb e
theorem Paired.mapP{α β:Type}{F G:α->β->Prop}:∀{l₁:List α} {l₂:List β},Paired F l₁ l₂->(∀a b,F a b->G a b)->Paired G l₁ l₂
 |_,_,.nil,_=>.nil
 |_,_,.cons r t,f=>.cons (f _ _ r) (Paired.mapP t f)
theorem ObjOk.stay(x:ObjOk P w H h a o)(k:∀b u,(b=a∨H b=some (.own a))->h.get? b=some u->h'.get? b=some u)
 (ho:∀b,H b=some (.own a)->H' b=some (.own a)) (ht:∀b xs,H b=some (.tup xs)->H' b=some (.tup xs)):ObjOk P w H' h' a o:=by
 induction o with
 |lst xs=>obtain⟨z,its,n,r,e⟩:=x;exact⟨z,its,n,r,k _ _ (.inl rfl) e⟩
 |tup xs=>obtain⟨z,its,r,ob,e,c⟩:=x;exact⟨z,its,r,ob,k _ _ (.inl rfl) e,c⟩
 |dK kvs=>obtain⟨z,y,vs,r,ob,es,e,c⟩:=x;exact⟨z,y,vs,r,ob,es,k _ _ (.inl rfl) e,c⟩
 | dT kvs=>
  obtain⟨z,y,xs,r,ob,es,ep,e,c⟩:=x;exact⟨z,y,xs,Paired.mapP r λp q z=>⟨z.1,ht _ _ z.2.1,z.2.2⟩,ob,es,ep,k _ _ (.inl rfl) e,c⟩
 |set S n=>obtain⟨ob,es,ep,t,e,c⟩:=x;exact⟨ob,es,ep,t,k _ _ (.inl rfl) e,c⟩
 | ins C dx fs=>
  obtain⟨d,z,ne,e,mA,⟨od,es,ep,e2,c⟩,r⟩:=x;exact⟨ho _ d,z,ne,k _ _ (.inl rfl) e,mA,⟨od,es,ep,k _ _ (.inr d) e2,c⟩,r⟩
 |own y=>obtain⟨ob,e⟩:=x;exact⟨ob,k _ _ (.inl rfl) e⟩
 |xd fs=>obtain⟨mA,⟨od,es,ep,e,c⟩,r⟩:=x;exact⟨mA,⟨od,es,ep,k _ _ (.inl rfl) e,c⟩,r⟩
 |rng lo hi=>obtain⟨t,u,v,e⟩:=x;exact⟨t,u,v,k _ _ (.inl rfl) e⟩
 |frz ob u ih=>obtain⟨e,q⟩:=x;exact⟨k _ _ (.inl rfl) e,ih q⟩
 | tbl ps=>
  have e:h.get? a=some {cls:=.none,data:=.fields ps}:=x;show h'.get? a=some {cls:=.none,data:=.fields ps};exact k a _ (.inl rfl) e
 | met f y=>
  have e:h.get? a=some (PySem.W.methodObj (.ref f) (.ref y)):=x;show h'.get? a=some (PySem.W.methodObj (.ref f) (.ref y));exact k a _ (.inl rfl) e
 |ext φ=>obtain⟨p,⟨o,e⟩,st⟩:=x;exact⟨st _ _ p λo q=>k _ _ (.inl rfl) q,⟨o,k _ _ (.inl rfl) e⟩,st⟩
theorem HOk.lt(x:HOk P w H h)(e:H a=some o):a<h.objs.size:=(x a o e).lt
theorem HOk.fresh(x:HOk P w H h)(e:h.objs.size<=a):H a=none:=by
 cases q:H a with
 |none=>rfl
 |some u=>exact absurd (jt (x.lt q) e) (xh _)
theorem HOk.kept(x:HOk P w H h)(k:∀b u,h.get? b=some u->h'.get? b=some u):HOk P w H h':=λa o e=>
 (x a o e).stay (λb u _ q=>k b u q) (λ_ q=>q) λ_ _ q=>q
theorem HOk.laid(x:HOk P w H h)(k:∀b u,h.get? b=some u->h'.get? b=some u)(hp:h.objs.size<=a)(new:ObjOk P w (upd H a o) h' a o):HOk P w (upd H a o) h':=λb u e=>by
 have hn:=x.fresh hp;by_cases hb:b=a
 ·subst hb;rw[q0m]at e;cases e;exact new
 ·rw[q0j hb]at e;exact(x b u e).stay (λc v _ q=>k c v q) (λc q=>by rw[q0j (q1l q hn)];exact q) λc xs q=>by rw[q0j (q1l q hn)];exact q
end
def Rd(H:Hp)(a:Addr)(u:HO):Prop:=H a=some u∨∃o,H a=some (.frz o u)
theorem Rd.ok{P:Program}{w:World}{H:Hp}{h:Heap}{a:Addr}{u:HO}(r:Rd H a u)(x:HOk P w H h):ObjOk P w H h a u:=by
 rcases r with r|⟨o,r⟩
 ·exact x a u r
 ·obtain⟨_,q⟩:=x a _ r;exact q
def Mut:Option HO->Prop
 |some (.lst _)=>True
 |some (.dK _)=>True
 |some (.dT _)=>True
 |some (.set _ _)=>True
 |some (.ins _ _ _)=>True
 |some (.ext _)=>True
 |_=>False
section
variable{P:Program}{w:World}{H:Hp}{h h':Heap}{x e:Addr}{o':HO}
theorem HOk.write(ok:HOk P w H h)(mu:Mut (H x))(he:e=x∨H e=some (.own x))(k:∀b u,b≠e->h.get? b=some u->h'.get? b=some u)(heo:∃u,h'.get? e=some u)
 (new:ObjOk P w (upd H x o') h' x o'):HOk P w (upd H x o') h':=λb u q=>by
 have nown:∀c y,H c=some (.own y)->c≠x:=λc y r z=>by subst z;rw[r]at mu;exact mu
 have ntup:∀c xs,H c=some (.tup xs)->c≠x:=λc xs r z=>by subst z;rw[r]at mu;exact mu
 by_cases hb:b=x
 ·subst hb;rw[q0m]at q;cases q;exact new
 ·rw[q0j hb]at q;by_cases hbe:b=e
  ·have q':H b=some (.own x):=by
    rcases he with z|z
    ·exact absurd (hbe.trans z) hb
    ·rw[hbe];exact z
   rw[q]at q';cases q';obtain⟨v,hv⟩:=heo;exact⟨v,by rw[hbe];exact hv⟩
  ·refine(ok b u q).stay (λc v hc r=>k c v ?_ r) (λc r=>by rw[q0j (nown c b r)];exact r) λc xs r=>by rw[q0j (ntup c xs r)];exact r
   rcases hc with rfl|hc
   ·exact hbe
   ·rintro rfl;rcases he with z|z
    ·exact nown c b hc z
    ·rw[hc]at z;cases z;exact hb rfl
end
structure Un(fs ex:List Addr)(H H':Hp)(h h':Heap):Prop where
 keep:∀b o,h.get? b=some o->H b=none->b∉fs->b∉ex->h'.get? b=some o
 slot:∀b o,h.get? b=some o->H b=none->b∈fs->b∉ex->∃sl,h'.get? b=some {o with slots:=sl}
 free:∀b o,h.get? b=some o->H b=none->b∉ex->H' b=none
 there:∀b o,h.get? b=some o->b∉ex->∃o',h'.get? b=some o'
 tups:∀b xs,H b=some (.tup xs)->H' b=some (.tup xs)
 frzs:∀b o u,H b=some (.frz o u)->H' b=some (.frz o u)
 tbls:∀b ps,H b=some (.tbl ps)->∃more,H' b=some (.tbl (ps++more))
section
variable{fs fs' ex ex':List Addr}{H H1 H2:Hp}{h h1 h2 h':Heap}{a x e:Addr}{o:HO}
theorem Un.any(u:Un fs ex H H1 h h1){b:Addr}{ob:Obj}(q:h.get? b=some ob)(n:H b=none)(hx:b∉ex):∃sl,h1.get? b=some {ob with slots:=sl}:=by
 by_cases hb:b∈fs
 ·exact u.slot b ob q n hb hx
 ·exact⟨ob.slots,u.keep b ob q n hb hx⟩
theorem Un.trans(a:Un fs ex H H1 h h1)(b:Un fs ex H1 H2 h1 h2):Un fs ex H H2 h h2 where
 keep:=λc ob q n hc hx=>b.keep c ob (a.keep c ob q n hc hx) (a.free c ob q n hx) hc hx
 slot:=λc ob q n hc hx=>by obtain⟨sl,e1⟩:=a.slot c ob q n hc hx;obtain⟨sl',e2⟩:=b.slot c _ e1 (a.free c ob q n hx) hc hx;exact⟨sl',e2⟩
 free:=λc ob q n hx=>by obtain⟨o',e1⟩:=a.there c ob q hx;exact b.free c o' e1 (a.free c ob q n hx) hx
 there:=λc ob q hx=>by obtain⟨o',e1⟩:=a.there c ob q hx;exact b.there c o' e1 hx
 tups:=λc xs q=>b.tups c xs (a.tups c xs q)
 frzs:=λc ob xs q=>b.frzs c ob xs (a.frzs c ob xs q)
 tbls:=λc ps q=>by obtain⟨m1,e1⟩:=a.tbls c ps q;obtain⟨m2,e2⟩:=b.tbls c _ e1;exact⟨m1++m2,by rw[e2,Array.append_assoc]⟩
theorem Un.kept(k:∀b u,h.get? b=some u->h'.get? b=some u):Un fs ex H H h h':=
 ⟨λb ob q _ _ _=>k b ob q,λb ob q _ _ _=>⟨ob.slots,k b ob q⟩,λ_ _ _ n _=>n,λb ob q _=>⟨ob,k b ob q⟩,λ_ _ q=>q,λ_ _ _ q=>q,λ_ ps q=>⟨#[],by rw[q];simp⟩⟩
theorem Un.refl:Un fs ex H H h h:=Un.kept λ_ _ q=>q
theorem Un.laid(k:∀b u,h.get? b=some u->h'.get? b=some u)(hp:h.objs.size<=a)(hn:H a=none):Un fs ex H (upd H a o) h h' where
 keep:=λb u q _ _ _=>k b u q
 slot:=λb u q _ _ _=>⟨u.slots,k b u q⟩
 free:=λb u q n _=>by rw[q0j (jm (jt (jb q) hp))];exact n
 there:=λb u q _=>⟨u,k b u q⟩
 tups:=λb xs q=>by rw[q0j (q1l q hn)];exact q
 frzs:=λb u xs q=>by rw[q0j (q1l q hn)];exact q
 tbls:=λb ps q=>⟨#[],by rw[q0j (q1l q hn),q];simp⟩
theorem Un.write(mu:Mut (H x))(he:e=x∨H e=some (.own x))(k:∀b u,b≠e->h.get? b=some u->h'.get? b=some u)(heo:∃u,h'.get? e=some u):Un fs ex H (upd H x o) h h':=by
 have hx:∀b,H b=none->b≠x:=λb n z=>by subst z;rw[n]at mu;exact mu
 have hb:∀b,H b=none->b≠e:=λb n z=>by
  subst z;rcases he with r|r
  ·exact hx b n r
  ·rw[n]at r;cases r
 have hm:∀b u,H b=some u->¬Mut (some u)->b≠x:=λb u q nm z=>by subst z;rw[q]at mu;exact nm mu
 refine⟨λb u q n _ _=>k b u (hb b n) q,λb u q n _ _=>⟨u.slots,k b u (hb b n) q⟩,λb u q n _=>by rw[q0j (hx b n)];exact n,λb u q _=>?_,
  λb xs q=>by rw[q0j (hm b _ q λz=>z)];exact q,λb u xs q=>by rw[q0j (hm b _ q λz=>z)];exact q,λb ps q=>⟨#[],by rw[q0j (hm b _ q λz=>z),q];simp⟩⟩
 by_cases hbe:b=e
 ·subst hbe;exact heo
 ·exact⟨u,k b u hbe q⟩
theorem Un.mono(u:Un fs ex H H1 h h1)(hs:∀b∈fs,b∈fs')(hx:∀b∈ex,b∈ex'):Un fs' ex' H H1 h h1:=
 ⟨λb ob q n hb he=>u.keep b ob q n (λz=>hb (hs b z)) λz=>he (hx b z),λ_ _ q n _ he=>u.any q n λz=>he (hx _ z),λb ob q n he=>u.free b ob q n λz=>he (hx b z),λb ob q he=>u.there b ob q λz=>he (hx b z),u.tups,u.frzs,u.tbls⟩
end
def trk(h:Heap)(H:Hp):List Addr:=(List.range h.objs.size).filter λa=>(H a).isSome
def hidT(h:Heap)(H:Hp):Heap:=PySem.W.hideAll h (trk h H)
theorem qgx(h:Heap)(H:Hp):(hidT h H).objs.size=h.objs.size:=PySem.W.hideAll_size _ _
theorem qjb{h:Heap}{H:Hp}{b:Addr}{o:Obj}(e:h.get? b=some o)(n:H b=none):(hidT h H).get? b=some o:=
 PySem.W.hideAll_get _ e λhm=>by have q:(H b).isSome=true:=(List.mem_filter.mp hm).2;rw[n]at q;simp at q
theorem qms{h:Heap}{H:Hp}{b:Addr}{o:Obj}(e:(hidT h H).get? b=some o):h.get? b=some o/\H b=none:=by
 have e':h.get? b=some o:=PySem.W.of_hideAll (trk h H) e;refine⟨e',?_⟩;cases q:H b with
 |none=>rfl
 | some x=>
  have hm:b∈trk h H:=List.mem_filter.mpr ⟨List.mem_range.mpr (jb e'),by simp[q]⟩;have z:(hidT h H).get? b=none:=PySem.W.hideAll_none (trk h H) hm;rw[z]at e;cases e
structure Mod(K:FrG)(mg:Str->Option Value)(base:Heap):Prop where
 kin:K.In base
 glob:base.Ns mainGlobals mg
 blt:∃mb,base.Ns builtinsNs mb/\∀x:Str,x≠"__name__"->mb x=bootBuiltins x
 nolimit:base.NoLimit
structure Cx where
 prog:Program
 w:World
 K:PySem.W.Frag
 mg:Str->Option Value
 base:Heap
 A:Around
 N:List Str
 s₀:Shared
 H₀:Hp
 env:Env
 outer:List Env
 stack:List Env
 ex:List Addr
 fn:Str->Bool
 calm:Bool
 pn:List (Addr×Obj)
 xe:Value->Shared->Prop
def frs(l:List Env):List Addr:=l.filterMap (·.frame)
abbrev Cx.fs(X:Cx):List Addr:=frs X.outer
def Vis(sc:Scope)(x:Str):Prop:=sc.names.lookup x=some .local∨sc.names.lookup x=some .cell∨sc.names.lookup x=some .free
def Loc(sc:Scope)(x:Str):Prop:=sc.names.lookup x=some .local∨sc.names.lookup x=some .cell
def Look(env:Env)(h:Heap)(m:Str->Option Value)(x:Str)(u:Value):Prop:=
 (env.kindOf x=some .local/\m x=some u)∨((env.kindOf x=some .cell∨env.kindOf x=some .free)/\∃c,env.cells.lookup x=some c/\h.IsCell c (some u))
structure Cx.Ok(X:Cx):Prop where
 mod:Mod X.K X.mg X.base
 kind:X.env.scope.kind=.function
 glob:X.env.globals=mainGlobals
 blt:X.env.builtins=builtinsNs
 above:X.s₀.heap.objs.size<=X.env.locals
 inj:∀x y c,X.env.cells.lookup x=some c->X.env.cells.lookup y=some c->x=y
 has:∀x,(X.env.kindOf x=some .cell∨X.env.kindOf x=some .free)->∃c,X.env.cells.lookup x=some c
 cab:∀x c,X.fn x=true->X.env.cells.lookup x=some c->X.s₀.heap.objs.size<=c
 hd:X.calm=true->X.A.handled=none
 frames:X.A.frames=some X.stack
 stk:X.stack=X.outer∨(X.stack=X.env::X.outer/\X.env.frame=some X.env.locals)
 exf:∀b∈X.ex,b≠X.env.locals/\∀x c,X.env.cells.lookup x=some c->c≠b
 bs:∀b o,X.base.get? b=some o->X.s₀.heap.get? b=some o/\X.H₀ b=none
 bsz:X.base.objs.size<=X.s₀.heap.objs.size
 noex:∀b o,X.base.get? b=some o->b∉X.ex
 exfs:∀b∈X.ex,b∉X.fs
 funs:X.s₀.heap.FunFrames X.base X.outer
 frf:∀b∈X.fs,X.H₀ b=none
structure Inv(X:Cx)(z9:List (Addr×Obj))(σ:List (Option V))(H:Hp)(s:Shared):Prop where
 ok:X.Ok
 os:s.os=X.s₀.os
 bare:AllBare s.gens
 base:Un X.fs X.ex X.H₀ H X.s₀.heap s.heap
 loc:∃m,s.heap.Ns X.env.locals m/\∀(i:Nat) (x:Str) (v:V),X.N[i]? =some x->σ[i]? =some (some v)->Vis X.env.scope x->∃u,RelV v u/\Look X.env s.heap m x u
 cell:∀x c,X.env.cells.lookup x=some c->∃v,s.heap.IsCell c v
 free:H X.env.locals=none
 freeC:∀x c,X.env.cells.lookup x=some c->H c=none
 pin:∀p∈X.pn++z9,s.heap.get? p.1=some p.2/\H p.1=none/\p.1≠X.env.locals/\p.1∉X.fs/\∀v,p.2.data≠.cell v
 hok:HOk X.prog X.w H s.heap
 len:σ.length=X.N.length
section
variable{X:Cx}{z9:List (Addr×Obj)}{σ:List (Option V)}{H H':Hp}{s:Shared}{h':Heap}
theorem Cx.Ok.nofr(ok:X.Ok){b:Addr}{o:Obj}(e:X.base.get? b=some o):b∉X.fs:=λhb=>by have:=(ok.funs.mem hb).1;rw[e]at this;cases this
theorem Inv.bs(I:Inv X z9 σ H s):∀b o,X.base.get? b=some o->s.heap.get? b=some o/\H b=none:=λb o e=>
 ⟨I.base.keep b o (I.ok.bs b o e).1 (I.ok.bs b o e).2 (I.ok.nofr e) (I.ok.noex b o e),I.base.free b o (I.ok.bs b o e).1 (I.ok.bs b o e).2 (I.ok.noex b o e)⟩
theorem Inv.bk(I:Inv X z9 σ H s):∀b o,X.base.get? b=some o->s.heap.get? b=some o:=λb o e=>(I.bs b o e).1
theorem Inv.mod(I:Inv X z9 σ H s):Mod X.K X.mg X.base:=I.ok.mod
theorem Inv.kIn(I:Inv X z9 σ H s):X.K.In s.heap:=I.ok.mod.kin.keeps I.bk
theorem Inv.fr(I:Inv X z9 σ H s):∃m,Fr X.base X.env.locals s.heap m:=
 let ⟨m,hn,_⟩:=I.loc
 ⟨m,hn,I.bk,x9 I.ok.bsz I.ok.above⟩
theorem Inv.lt(I:Inv X z9 σ H s):X.env.locals<s.heap.objs.size:=let ⟨_,hn,_⟩:=I.loc;hn.lt
theorem Inv.sz(I:Inv X z9 σ H s):X.s₀.heap.objs.size<=s.heap.objs.size:=x9 I.ok.above (Nat.le_of_lt I.lt)
theorem Inv.nofs(I:Inv X z9 σ H s){a:Addr}(h:s.heap.objs.size<=a):a∉X.fs:=λhb=>by obtain⟨_,o,ho,_⟩:=I.ok.funs.mem hb;exact absurd (jt (jb ho) (x9 I.sz h)) (xh _)
theorem Inv.cne(I:Inv X z9 σ H s):∀x c,X.env.cells.lookup x=some c->c≠X.env.locals:=λx c e z=>by obtain⟨v,o,ho,hd⟩:=I.cell x c e;obtain⟨m,⟨o',es,ep,ho',hd',_⟩,_⟩:=I.loc;rw[z,ho']at ho;cases ho;rw[hd']at hd;cases hd
theorem Inv.funs(I:Inv X z9 σ H s):s.heap.FunFrames X.base X.outer:=by
 have all:∀(l:List Env),(∀b∈frs l,b∈X.fs)->X.s₀.heap.FunFrames X.base l->s.heap.FunFrames X.base l:=by
  intro l;induction l with
  |nil=>intro _ _;trivial
  | cons env r ih=>
   intro hs hl;obtain⟨hk,⟨L,o,hf,hn,ho,hd⟩,hr⟩:=hl;have hL:L∈X.fs:=hs L (by unfold frs;rw[List.filterMap_cons,hf];exact jk);obtain⟨sl,e⟩:=I.base.slot L o ho (I.ok.frf L hL) hL λz=>I.ok.exfs L z hL;exact⟨hk,⟨L,_,hf,hn,e,hd⟩,ih (λb hb=>hs b (by unfold frs;rw[List.filterMap_cons,hf];exact jj _ hb)) hr⟩
 exact all X.outer (λ_ hb=>hb) I.ok.funs
theorem Inv.stack(I:Inv X z9 σ H s):s.heap.FunFrames X.base X.stack:=by
 rcases I.ok.stk with e|⟨e,hf⟩
 ·rw[e];exact I.funs
 ·rw[e];obtain⟨m,hn,_⟩:=I.loc;refine .cons (by rw[I.ok.kind];decide) hf hn ?_ I.funs;exact Heap.get?_none_of_le (x9 I.ok.bsz I.ok.above)
theorem Inv.stkSub(I:Inv X z9 σ H s):∀b∈frs X.stack,b∈X.env.locals::X.fs:=λb hb=>by
 rcases I.ok.stk with e|⟨e,hf⟩
 ·rw[e]at hb;exact jj _ hb
 ·rw[e]at hb;unfold frs at hb;rw[List.filterMap_cons,hf]at hb;exact hb
theorem Inv.stkFree(I:Inv X z9 σ H s):∀b∈frs X.stack,H b=none:=λb hb=>by
 rcases List.mem_cons.mp (I.stkSub b hb)with e|hb
 ·rw[e];exact I.free
 ·obtain⟨_,o,ho,_⟩:=I.ok.funs.mem hb;exact I.base.free b o ho (I.ok.frf b hb) λz=>I.ok.exfs b z hb
theorem Inv.step{g':Array GenState}{t':Nat}{d':Drawn}{ch:List Addr}(I:Inv X z9 σ H s)
 (hch:∀b∈ch,(b∈X.ex∨X.s₀.heap.objs.size<=b)/\b≠X.env.locals/\(∀x c,X.env.cells.lookup x=some c->c≠b)/\∀p∈X.pn++z9,p.1≠b)
 (keep:∀b o,b≠X.env.locals->b∉X.fs->b∉ch->s.heap.get? b=some o->H b=none->h'.get? b=some o)
 (slot:∀b o,b≠X.env.locals->b∈X.fs->b∉ch->s.heap.get? b=some o->H b=none->∃sl,h'.get? b=some {o with slots:=sl}) (free:∀b o,b∉ch->s.heap.get? b=some o->H b=none->H' b=none)
 (there:∀b o,b∉ch->s.heap.get? b=some o->∃o',h'.get? b=some o')
 (tups:∀b xs,H b=some (.tup xs)->H' b=some (.tup xs)) (frzs:∀b o u,H b=some (.frz o u)->H' b=some (.frz o u)) (tbls:∀b ps,H b=some (.tbl ps)->∃more,H' b=some (.tbl (ps++more)))
 (ns:∀m,s.heap.Ns X.env.locals m->h'.Ns X.env.locals m) (hok:HOk X.prog X.w H' h') (hg:AllBare g'):
 Inv X z9 σ H' {s with heap:=h',gens:=g',drawn:=d',toks:=t'}:=by
 have neL:∀b o,X.s₀.heap.get? b=some o->b≠X.env.locals:=λb o e=>jm (jt (jb e) I.ok.above);have neC:∀b o,X.s₀.heap.get? b=some o->b∉X.ex->b∉ch:=λb o e hx hb=>by
  rcases(hch b hb).1 with z|z
  ·exact hx z
  ·exact absurd (jt (jb e) z) (xh _)
 have cellK:∀x c,X.env.cells.lookup x=some c->∀v,s.heap.IsCell c v->h'.IsCell c v:=λx c e v ⟨o,ho,hd⟩=>by
  have nch:c∉ch:=λz=>(hch c z).2.2.1 x c e rfl;by_cases hc:c∈X.fs
  ·obtain⟨sl,q⟩:=slot c o (I.cne x c e) hc nch ho (I.freeC x c e);exact⟨_,q,hd⟩
  ·exact⟨o,keep c o (I.cne x c e) hc nch ho (I.freeC x c e),hd⟩
 refine⟨I.ok,I.os,hg,⟨λb o e n hb hx=>?_,λb o e n hb hx=>?_,λb o e n hx=>?_,λb o e hx=>?_,λb xs e=>tups b xs (I.base.tups b xs e),λb o xs e=>frzs b o xs (I.base.frzs b o xs e),λb ps e=>?_⟩,?_,λx c e=>?_,?_,λx c e=>?_,λp hp=>?_,hok,I.len⟩
 ·exact keep b o (neL b o e) hb (neC b o e hx) (I.base.keep b o e n hb hx) (I.base.free b o e n hx)
 ·obtain⟨sl,e1⟩:=I.base.slot b o e n hb hx;obtain⟨sl',e2⟩:=slot b _ (neL b o e) hb (neC b o e hx) e1 (I.base.free b o e n hx);exact⟨sl',e2⟩
 ·obtain⟨o',e1⟩:=I.base.there b o e hx;exact free b o' (neC b o e hx) e1 (I.base.free b o e n hx)
 ·obtain⟨o',e1⟩:=I.base.there b o e hx;exact there b o' (neC b o e hx) e1
 ·obtain⟨m1,e1⟩:=I.base.tbls b ps e;obtain⟨m2,e2⟩:=tbls b _ e1;exact⟨m1++m2,by rw[e2,Array.append_assoc]⟩
 ·obtain⟨m,hn,hl⟩:=I.loc;refine⟨m,ns m hn,λi x v e1 e2 e3=>?_⟩;obtain⟨u,r,l⟩:=hl i x v e1 e2 e3;refine⟨u,r,?_⟩;rcases l with l|⟨k,c,e,z⟩
  ·exact .inl l
  ·exact .inr ⟨k,c,e,cellK x c e _ z⟩
 ·obtain⟨v,z⟩:=I.cell x c e;exact⟨v,cellK x c e v z⟩
 ·obtain⟨m,⟨o,_,_,ho,_⟩,_⟩:=I.loc;exact free _ o (λz=>(hch _ z).2.1 rfl) ho I.free
 ·obtain⟨v,o,ho,hd⟩:=I.cell x c e;exact free c o (λz=>(hch c z).2.2.1 x c e rfl) ho (I.freeC x c e)
 ·obtain⟨e,n,ne,nf,d⟩:=I.pin p hp;have nch:p.1∉ch:=λz=>(hch p.1 z).2.2.2 p hp rfl;exact⟨keep p.1 p.2 ne nf nch e n,free p.1 p.2 nch e n,ne,nf,d⟩
theorem Inv.un{t':Nat}(I:Inv X z9 σ H s)(u:Un X.fs [] H H' s.heap h')(hok:HOk X.prog X.w H' h'):Inv X z9 σ H' {s with heap:=h',toks:=t'}:=by
 obtain⟨m,⟨o,es,ep,ho,r⟩,_⟩:=id I.loc;obtain⟨sl,hL⟩:=u.any ho I.free (by simp);exact I.step (g':=s.gens) (d':=s.drawn) (ch:=[]) (λ_ z=>nomatch z) (λb o _ hb _ e n=>u.keep b o e n hb (by simp)) (λb o _ hb _ e n=>u.slot b o e n hb (by simp)) (λb o _ e n=>u.free b o e n (by simp)) (λb o _ e=>u.there b o e (by simp)) u.tups u.frzs u.tbls (λm' hm=>by obtain⟨o',es',ep',ho',r'⟩:=hm;rw[ho]at ho';cases ho';exact⟨_,es',ep',hL,r'⟩) hok I.bare
theorem Inv.call{g':Array GenState}{t':Nat}{d':Drawn}{ch:List Addr}(I:Inv X z9 σ H s)(u:Un (frs X.stack) ch H H' s.heap h')(hok:HOk X.prog X.w H' h')(hg:AllBare g')
 (hch:∀b∈ch,(b∈X.ex∨X.s₀.heap.objs.size<=b)/\b≠X.env.locals/\(∀x c,X.env.cells.lookup x=some c->c≠b)/\∀p∈X.pn++z9,p.1≠b):
 Inv X z9 σ H' {s with heap:=h',gens:=g',drawn:=d',toks:=t'}:=by
 obtain⟨m,⟨o,es,ep,ho,r⟩,_⟩:=id I.loc;obtain⟨sl,hL⟩:=u.any ho I.free λz=>(hch _ z).2.1 rfl;exact I.step (ch:=ch) hch (λb o hL hb hc e n=>u.keep b o e n (λz=>(List.mem_cons.mp (I.stkSub b z)).elim hL hb) hc) (λb o _ _ hc e n=>u.any e n hc) (λb o hc e n=>u.free b o e n hc) (λb o hc e=>u.there b o e hc) u.tups u.frzs u.tbls (λm' hm=>by obtain⟨o',es',ep',ho',r'⟩:=hm;rw[ho]at ho';cases ho';exact⟨_,es',ep',hL,r'⟩) hok hg
theorem Inv.turned{t':Nat}{it:Addr}(I:Inv X z9 σ H s)(k:∀b o,b≠it->s.heap.get? b=some o->h'.get? b=some o)(hn:H it=none)(hL:it≠X.env.locals)
 (h1:it∈X.ex∨X.s₀.heap.objs.size<=it) (h2:∀x c,X.env.cells.lookup x=some c->c≠it) (h3:∀p∈X.pn++z9,p.1≠it):Inv X z9 σ H {s with heap:=h',toks:=t'}:=by
 have nit:∀b u,H b=some u->b≠it:=λb u e z=>by rw[z,hn]at e;cases e
 refine I.step (g':=s.gens) (d':=s.drawn) (ch:=[it]) (λb hb=>?_) (λb o _ _ hc e _=>k b o (λz=>hc (by simp[z])) e) (λb o _ _ hc e _=>⟨o.slots,k b o (λz=>hc (by simp[z])) e⟩) (λ_ _ _ _ n=>n)
  (λb o hc e=>⟨o,k b o (λz=>hc (by simp[z])) e⟩) (λ_ _ e=>e) (λ_ _ _ e=>e) (λb ps e=>⟨#[],by rw[e];simp⟩) (λm hm=>?_) (λb u e=>?_) I.bare
 ·have e:b=it:=by simpa using hb
  subst e;exact⟨h1,hL,h2,h3⟩
 ·obtain⟨o,es,ep,ho,r⟩:=hm;exact⟨o,es,ep,k _ o (Ne.symm hL) ho,r⟩
 ·refine(I.hok b u e).stay (λc v hc q=>k c v ?_ q) (λ_ q=>q) λ_ _ q=>q;rcases hc with z|z
  ·rw[z];exact nit b u e
  ·exact nit c _ z
theorem Inv.tok(I:Inv X z9 σ H s)(t:Nat):Inv X z9 σ H {s with toks:=t}:=I.un (h':=s.heap) (t':=t) Un.refl I.hok
theorem Inv.kept{t':Nat}(I:Inv X z9 σ H s)(k:∀b u,s.heap.get? b=some u->h'.get? b=some u):Inv X z9 σ H {s with heap:=h',toks:=t'}:=I.un (Un.kept k) (I.hok.kept k)
theorem Inv.laid{a:Addr}{o:HO}{t':Nat}(I:Inv X z9 σ H s)(k:∀b u,s.heap.get? b=some u->h'.get? b=some u)(hp:s.heap.objs.size<=a)(new:ObjOk X.prog X.w (upd H a o) h' a o):
 Inv X z9 σ (upd H a o) {s with heap:=h',toks:=t'}:=I.un (Un.laid k hp (I.hok.fresh hp)) (I.hok.laid k hp new)
theorem Inv.write{x e:Addr}{o:HO}{t':Nat}(I:Inv X z9 σ H s)(mu:Mut (H x))(he:e=x∨H e=some (.own x))(k:∀b u,b≠e->s.heap.get? b=some u->h'.get? b=some u)(heo:∃u,h'.get? e=some u)
 (new:ObjOk X.prog X.w (upd H x o) h' x o):Inv X z9 σ (upd H x o) {s with heap:=h',toks:=t'}:=I.un (Un.write mu he k heo) (I.hok.write mu he k heo new)
theorem Inv.weak{σ':List (Option V)}(I:Inv X z9 σ H s)(hl:σ'.length=σ.length)(w:∀(i:Nat) v,σ'[i]? =some (some v)->σ[i]? =some (some v)):Inv X z9 σ' H s:=
 ⟨I.ok,I.os,I.bare,I.base,let ⟨m,hn,hl'⟩:=I.loc;⟨m,hn,λi x v e1 e2 e3=>hl' i x v e1 (w i v e2) e3⟩,I.cell,I.free,I.freeC,I.pin,I.hok,hl.trans I.len⟩
theorem Inv.pins_of{pins':List (Addr×Obj)}(I:Inv X z9 σ H s)(h:∀p∈pins',s.heap.get? p.1=some p.2/\H p.1=none/\p.1≠X.env.locals/\p.1∉X.fs/\∀v,p.2.data≠.cell v):Inv X pins' σ H s:=
 ⟨I.ok,I.os,I.bare,I.base,I.loc,I.cell,I.free,I.freeC,λp hp=>(List.mem_append.mp hp).elim (λz=>I.pin p (List.mem_append_left _ z)) (h p),I.hok,I.len⟩
theorem qc7{N:List Str}(hN:N.Nodup){i j:Nat}{x:Str}(a:N[i]? =some x)(b:N[j]? =some x):i=j:=by obtain⟨h1,e1⟩:=List.getElem?_eq_some_iff.mp a;obtain⟨h2,e2⟩:=List.getElem?_eq_some_iff.mp b;exact(List.getElem_inj hN).mp (e1.trans e2.symm)
theorem qef{M:Model}{A:Around}{E:Value->Shared->Prop}{i:Nat}{x:Str}{v:V}{u:Value}{Q:Unit->Shared->Prop}(I:Inv X z9 σ H s)(hN:X.N.Nodup)(hi:X.N[i]? =some x)(hx:Loc X.env.scope x)(r:RelV v u)
 (h:∀s',Inv X z9 (σ.set i (some v)) H s'->(∃a,Heap.SameBut a s.heap s'.heap/\(a=X.env.locals∨X.env.cells.lookup x=some a))->Q () s') (hf:X.fn x=true∨X.env.scope.names.lookup x=some .local:=by first|exact .inl rfl|exact .inr rfl|assumption):wpAny M A (storeName X.env x u) Q E s:=by
 obtain⟨m,hn,hl⟩:=id I.loc;have hcls:(X.env.scope.kind==.class||(X.env.scope.kind==.module&&X.env.locals !=X.env.globals))=false:=by rw[I.ok.kind];rfl
 have hiσ:i<σ.length:=by rw[I.len];exact(List.getElem?_eq_some_iff.mp hi).1
 have cne:=I.cne;have tracked:∀{a:Addr} {h':Heap},(∃o,s.heap.get? a=some o/\H a=none)->Heap.SameBut a s.heap h'->HOk X.prog X.w H h':=λ{a h'} ha hs b ob e=>by
  obtain⟨_,_,hfree⟩:=ha;refine(I.hok b ob e).stay (λc w' hc q=>(hs.2 c ?_).trans q) (λ_ q=>q) λ_ _ q=>q;rintro rfl;rcases hc with rfl|hc
  ·rw[hfree]at e;cases e
  ·rw[hfree]at hc;cases hc
 rcases hx with hk|hk
 ·refine wpAny_storeName_local hk hn (λh' hn' hs=>?_) hcls;obtain⟨oL,_,_,hoL,_⟩:=id hn;refine h _ ⟨I.ok,I.os,I.bare,⟨λb o e n hb hx=>?_,λb o e n hb hx=>?_,I.base.free,λb o e hx=>?_,I.base.tups,I.base.frzs,I.base.tbls⟩,⟨_,hn',λj y v' e1 e2 e3=>?_⟩,λy c e=>?_,I.free,I.freeC,λp hp=>?_,tracked ⟨oL,hoL,I.free⟩ hs,by simpa using I.len⟩ ⟨_,hs,.inl rfl⟩
  ·exact(hs.2 b (jm (jt (jb e) I.ok.above))).trans (I.base.keep b o e n hb hx)
  ·obtain⟨sl,e1⟩:=I.base.slot b o e n hb hx;exact⟨sl,(hs.2 b (jm (jt (jb e) I.ok.above))).trans e1⟩
  ·obtain⟨o',e1⟩:=I.base.there b o e hx;exact⟨o',(hs.2 b (jm (jt (jb e) I.ok.above))).trans e1⟩
  ·by_cases hj:j=i
   ·subst hj;rw[hi]at e1;cases e1;rw[jn hiσ]at e2;cases e2;exact⟨u,r,.inl ⟨hk,by simp⟩⟩
   ·rw[ji (Ne.symm hj)]at e2;obtain⟨u',r',q⟩:=hl j y v' e1 e2 e3;refine⟨u',r',?_⟩;rcases q with⟨k,e⟩|⟨k,c,e,z⟩
    ·refine .inl ⟨k,?_⟩;have:y≠x:=λe=>hj (qc7 hN e1 (e▸hi));simp[this,e]
    ·exact .inr ⟨k,c,e,z.sameBut hs (cne y c e)⟩
  ·obtain⟨w',z⟩:=I.cell y c e;exact⟨w',z.sameBut hs (cne y c e)⟩
  ·obtain⟨e,n,ne,nf,d⟩:=I.pin p hp;exact⟨(hs.2 p.1 ne).trans e,n,ne,nf,d⟩
 ·have hfn:X.fn x=true:=by
   rcases hf with z|z
   ·exact z
   ·rw[z]at hk;cases hk
  obtain⟨c,hc⟩:=I.ok.has x (.inl hk);obtain⟨w',z⟩:=I.cell x c hc;refine wpAny_storeName_cell I.ok.kind hk hc z (λh' hc' hs=>?_);obtain⟨oc,hoc,hocd⟩:=id z;refine h {s with heap:=h'} ⟨I.ok,I.os,I.bare,⟨λb o e n hb hx=>?_,λb o e n hb hx=>?_,I.base.free,λb o e hx=>?_,I.base.tups,I.base.frzs,I.base.tbls⟩,⟨m,hn.sameBut hs (Ne.symm (cne x c hc)),λj y v' e1 e2 e3=>?_⟩,λy c' e=>?_,I.free,I.freeC,λp hp=>?_,tracked ⟨oc,hoc,I.freeC x c hc⟩ hs,by simpa using I.len⟩ ⟨c,hs,.inr hc⟩
  ·exact(hs.2 b (jm (jt (jb e) (I.ok.cab x c hfn hc)))).trans (I.base.keep b o e n hb hx)
  ·obtain⟨sl,e1⟩:=I.base.slot b o e n hb hx;exact⟨sl,(hs.2 b (jm (jt (jb e) (I.ok.cab x c hfn hc)))).trans e1⟩
  ·obtain⟨o',e1⟩:=I.base.there b o e hx;exact⟨o',(hs.2 b (jm (jt (jb e) (I.ok.cab x c hfn hc)))).trans e1⟩
  ·by_cases hj:j=i
   ·subst hj;rw[hi]at e1;cases e1;rw[jn hiσ]at e2;cases e2;exact⟨u,r,.inr ⟨.inl hk,c,hc,hc'⟩⟩
   ·rw[ji (Ne.symm hj)]at e2;obtain⟨u',r',q⟩:=hl j y v' e1 e2 e3;refine⟨u',r',?_⟩;rcases q with q|⟨k,c',e,z'⟩
    ·exact .inl q
    ·refine .inr ⟨k,c',e,z'.sameBut hs ?_⟩;rintro rfl;exact hj (qc7 hN e1 (I.ok.inj _ _ _ e hc▸hi))
  ·by_cases hcc:c'=c
   ·subst hcc;exact⟨_,hc'⟩
   ·obtain⟨w2,z2⟩:=I.cell y c' e;exact⟨w2,z2.sameBut hs hcc⟩
  ·obtain⟨e,n,ne,nf,d⟩:=I.pin p hp;refine⟨(hs.2 p.1 ?_).trans e,n,ne,nf,d⟩;intro q;rw[q,hoc]at e;have q':oc=p.2:=jd e;exact d w' (by rw[<-q'];exact hocd)
theorem q8h{M:Model}{A:Around}{E:Value->Shared->Prop}{i:Nat}{x:Str}{v:V}{u:Value}{Q:Unit->Shared->Prop}(I:Inv X z9 σ H s)(hN:X.N.Nodup)(hi:X.N[i]? =some x)(hx:Loc X.env.scope x)(r:RelV v u)
 (h:∀s',Inv X z9 (σ.set i (some v)) H s'->Q () s') (hf:X.fn x=true∨X.env.scope.names.lookup x=some .local:=by first|exact .inl rfl|exact .inr rfl|assumption):wpAny M A (storeName X.env x u) Q E s:=
 qef I hN hi hx r (λs' I' _=>h s' I') hf
theorem Inv.call'{s':Shared}{ch:List Addr}(I:Inv X z9 σ H s)(ho:s'.os=s.os)(u:Un (frs X.stack) ch H H' s.heap s'.heap)(hok:HOk X.prog X.w H' s'.heap)(hg:AllBare s'.gens)
 (hch:∀b∈ch,(b∈X.ex∨X.s₀.heap.objs.size<=b)/\b≠X.env.locals/\(∀x c,X.env.cells.lookup x=some c->c≠b)/\∀p∈X.pn++z9,p.1≠b):Inv X z9 σ H' s':=by
 obtain⟨h',g',d',t',o'⟩:=s';have e:o'=s.os:=ho;subst e;exact I.call (g':=g') (t':=t') (d':=d') u hok hg hch
end
abbrev XK:=Value->Option Addr->Hp->Prop
abbrev St:=List (Option V)
abbrev VK:=V->Hp->Prop
abbrev TE:=St->Hp->VK->Prop
abbrev TT:=St->Hp->(Bool->Hp->Prop)->Prop
abbrev TA:=St->Hp->(List V->Hp->Prop)->Prop
structure Ends where
 nx:St->Hp->Prop
 rt:VK
 bk:St->Hp->Prop:=λ_ _=>False
 ct:St->Hp->Prop:=λ_ _=>False
abbrev TS:=Ends->St->Hp->Prop
def EP(X:Cx)(z9:List (Addr×Obj))(σ:St)(Q:VK)(u:Value)(s':Shared):Prop:=∃v H',Inv X z9 σ H' s'/\RelV v u/\Q v H'
def TP(X:Cx)(z9:List (Addr×Obj))(σ:St)(Q:Bool->Hp->Prop)(b:Bool)(s':Shared):Prop:=∃H',Inv X z9 σ H' s'/\Q b H'
def AP(X:Cx)(z9:List (Addr×Obj))(σ:St)(Q:List V->Hp->Prop)(us:List Value)(s':Shared):Prop:=∃vs H',Inv X z9 σ H' s'/\Vals vs us/\Q vs H'
def SP(X:Cx)(z9:List (Addr×Obj))(D:Ends)(f:Flow)(s':Shared):Prop:=
 match f with
 |.next=>∃σ' H',Inv X z9 σ' H' s'/\D.nx σ' H'
 |.brk=>∃σ' H',Inv X z9 σ' H' s'/\D.bk σ' H'
 |.cont=>∃σ' H',Inv X z9 σ' H' s'/\D.ct σ' H'
 |.ret u=>∃v σ' H',Inv X z9 σ' H' s'/\RelV v u/\D.rt v H'
def PE(X:Cx)(e:Expr)(t:TE):Prop:=
 ∀(z9:List (Addr×Obj)) (s:Shared) (σ:St) (H:Hp) (Q:VK),Inv X z9 σ H s->t σ H Q->wpAny (model X.prog X.w) X.A (eval e X.env) (EP X z9 σ Q) X.xe s
def PT(X:Cx)(e:Expr)(t:TT):Prop:=
 ∀(z9:List (Addr×Obj)) (s:Shared) (σ:St) (H:Hp) (Q:Bool->Hp->Prop),Inv X z9 σ H s->t σ H Q->wpAny (model X.prog X.w) X.A (isTrue e X.env (eval e X.env)) (TP X z9 σ Q) X.xe s
def PW(X:Cx)(e:Expr)(t:TT):Prop:=
 ∀(whole:Sem Value) (z9:List (Addr×Obj)) (s:Shared) (σ:St) (H:Hp) (Q:Bool->Hp->Prop),Inv X z9 σ H s->t σ H Q->wpAny (model X.prog X.w) X.A (isTrue e X.env whole) (TP X z9 σ Q) X.xe s
theorem PW.pt{X:Cx}{e:Expr}{t:TT}(h:PW X e t):PT X e t:=h _
def PA(X:Cx)(es:List Expr)(t:TA):Prop:=
 ∀(pos:Pos) (z9:List (Addr×Obj)) (s:Shared) (σ:St) (H:Hp) (Q:List V->Hp->Prop),Inv X z9 σ H s->t σ H Q->wpAny (model X.prog X.w) X.A (spliced (backTo pos (starEach es X.env))) (AP X z9 σ Q) X.xe s
def PS(X:Cx)(st:Stmt)(t:TS):Prop:=
 ∀(z9:List (Addr×Obj)) (s:Shared) (σ:St) (H:Hp) (D:Ends),Inv X z9 σ H s->t D σ H->wpAny (model X.prog X.w) X.A (exec st X.env) (SP X z9 D) X.xe s
def PSs(X:Cx)(st:List Stmt)(t:TS):Prop:=
 ∀(z9:List (Addr×Obj)) (s:Shared) (σ:St) (H:Hp) (D:Ends),Inv X z9 σ H s->t D σ H->wpAny (model X.prog X.w) X.A (execs st X.env) (SP X z9 D) X.xe s
theorem thn{α:Type}{t:Sem α}{Q Q':α->Shared->Prop}{M:Model}{A:Around}{E:Value->Shared->Prop}{s:Shared}(h:wpAny M A t Q E s)(hQ:∀a s,Q a s->Q' a s):wpAny M A t Q' E s:=xg h hQ λ_ _ x=>x
section
variable{X:Cx}
def tVar(i:Nat):TE:=λσ H Q=>∃v,σ[i]? =some (some v)/\Q v H
def tC(v:V):TE:=λ_ H Q=>Q v H
theorem qq4{i:Nat}{x:Str}{pos:Pos}(hN:X.N[i]? =some x)(hv:Vis X.env.scope x)(hd:(x==("__debug__":Str))=false:=by decide)(hcd:(x==("__classdict__":Str))=false:=by decide):PE X (.Name x pos) (tVar i):=by
 intro z9 s σ H Q I h;obtain⟨v,e,h⟩:=h;obtain⟨m,hn,hl⟩:=I.loc;obtain⟨u,r,l⟩:=hl i x v hN e hv;have fin:EP X z9 σ Q u s:=⟨v,H,I,r,h⟩;rcases l with⟨hk,hm⟩|⟨hk,c,hc,hcell⟩
 ·exact wpAny_Name (wpAny_loadName_local I.ok.kind hk hn hm fin) hd
 ·rcases hk with hk|hk
  ·exact wpAny_Name (wpAny_loadName_cell I.ok.kind hk hc hcell fin) hd
  ·exact wpAny_Name (wpAny_loadName_free I.ok.kind hk hc hcell fin hcd) hd
theorem q06{i j pos}:PE X (.Constant (.int i) j pos) (tC (.int i)):=λ_ _ _ H _ I h=>wpAny_Constant_int ⟨.int i,H,I.tok _,⟨_,rfl⟩,h⟩
theorem q62{b j pos}:PE X (.Constant (.bool b) j pos) (tC (.bl b)):=λ_ _ _ H _ I h=>Constant_bool ⟨.bl b,H,I,rfl,h⟩
theorem q3d{j pos}:PE X (.Constant .none j pos) (tC .non):=λ_ _ _ H _ I h=>Constant_none ⟨.non,H,I,rfl,h⟩
theorem q2u{x j pos}:PE X (.Constant (.str x) j pos) (tC (.str x)):=λ_ _ _ H _ I h=>Calls.Constant_str ⟨.str x,H,I.tok _,⟨_,rfl⟩,h⟩
def Gl(X:Cx)(x:Str):Prop:=X.env.kindOf x=some .globalImplicit
theorem q67{E:Value->Shared->Prop}{z9:List (Addr×Obj)}{s:Shared}{σ:St}{H:Hp}{x:Str}{u:Value}{pos:Pos}{Q:Value->Shared->Prop}(I:Inv X z9 σ H s)(hg:Gl X x)(hm:X.mg x=some u)(h:Q u s)
 (hd:(x==("__debug__":Str))=false:=by decide):wpAny (model X.prog X.w) X.A (eval (.Name x pos) X.env) Q E s:=
 Calls.Name_function_global I.ok.kind hg (Calls.loadGlobal_global (by rw[I.ok.glob];exact I.mod.glob.keeps I.bk) hm h) hd
theorem q84{E:Value->Shared->Prop}{z9:List (Addr×Obj)}{s:Shared}{σ:St}{H:Hp}{x:Str}{u:Value}{pos:Pos}{Q:Value->Shared->Prop}(I:Inv X z9 σ H s)(hg:Gl X x)(hm:X.mg x=none)(hv:bootBuiltins x=some u)(h:Q u s)
 (hn:x≠"__name__":=by decide) (hd:(x==("__debug__":Str))=false:=by decide):wpAny (model X.prog X.w) X.A (eval (.Name x pos) X.env) Q E s:=by
 obtain⟨mb,h1,h2⟩:=I.mod.blt;exact Calls.Name_function_global I.ok.kind hg (Calls.loadGlobal_builtin (by rw[I.ok.glob];exact I.mod.glob.keeps I.bk) hm (by rw[I.ok.blt];exact h1.keeps I.bk) ((h2 x hn).trans hv) h) hd
theorem q76{x:Str}{v:V}{u:Value}{pos:Pos}(hg:Gl X x)(hm:X.mg x=none)(hv:bootBuiltins x=some u)(r:RelV v u)(hn:x≠"__name__":=by decide)(hd:(x==("__debug__":Str))=false:=by decide):PE X (.Name x pos) (tC v):=
 λ_ _ _ H _ I h=>q84 I hg hm hv ⟨v,H,I,r,h⟩ hn hd
variable{a b:Expr}{ta tb:TE}{pos:Pos}
def tB(t:TE):TT:=λσ H Q=>t σ H λx H1=>∃c,x=.bl c/\Q c H1
theorem q57{e:Expr}{t:TE}(h:PE X e t)(he:∀whole,isTrue e X.env whole=(do let v <-whole;standAt e.pos;holding [v] (truthy v)):=by intro _;rfl):PT X e (tB t):=by intro z9 s σ H Q I hw;refine isTrue_plain (thn (h z9 s σ H _ I hw) λv s1 ⟨x,H1,I1,r1,q1⟩=>?_) (he _);obtain⟨d,rfl,q⟩:=q1;cases r1;exact k8 ⟨H1,I1,q⟩
variable{tA tB':TT}{zm:List Expr}
def tAnd(t u:TT):TT:=λσ H Q=>t σ H λc H1=>if c=true then u σ H1 Q else Q false H1
def tOr(t u:TT):TT:=λσ H Q=>t σ H λc H1=>if c=true then Q true H1 else u σ H1 Q
def tNot(t:TT):TT:=λσ H Q=>t σ H λc H1=>Q (!c) H1
theorem pw_and1(ha:PT X a tA):PW X (.BoolOp .And [a] pos) tA:=by
 intro wh z9 s σ H Q I h;refine isTrue_and (thn (ha z9 s σ H Q I h) λc s1 e=>?_);cases c with
 |true=>exact isTrue_and_nil e
 |false=>exact e
theorem pw_or1(ha:PT X a tA):PW X (.BoolOp .Or [a] pos) tA:=by
 intro wh z9 s σ H Q I h;refine isTrue_or (thn (ha z9 s σ H Q I h) λc s1 e=>?_);cases c with
 |false=>exact isTrue_or_nil e
 |true=>exact e
theorem pw_and(ha:PT X a tA)(hb:PW X (.BoolOp .And (b::zm) pos) tB'):PW X (.BoolOp .And (a::b::zm) pos) (tAnd tA tB'):=by
 intro wh z9 s σ H Q I h;refine isTrue_and (thn (ha z9 s σ H _ I h) λc s1 ⟨H1,I1,q1⟩=>?_);cases c with
 |true=>exact hb wh z9 s1 σ H1 Q I1 q1
 |false=>exact⟨H1,I1,q1⟩
theorem pw_or(ha:PT X a tA)(hb:PW X (.BoolOp .Or (b::zm) pos) tB'):PW X (.BoolOp .Or (a::b::zm) pos) (tOr tA tB'):=by
 intro wh z9 s σ H Q I h;refine isTrue_or (thn (ha z9 s σ H _ I h) λc s1 ⟨H1,I1,q1⟩=>?_);cases c with
 |true=>exact⟨H1,I1,q1⟩
 |false=>exact hb wh z9 s1 σ H1 Q I1 q1
theorem q5n(ha:PT X a tA):PT X (.UnaryOp .Not a pos) (tNot tA):=by intro z9 s σ H Q I h;exact isTrue_not (ha z9 s σ H (λc H1=>Q (!c) H1) I h)
def qp9(ta tb:TE):TE:=λσ H Q=>ta σ H λx H1=>∃c,x=.bl c/\if c=true then tb σ H1 Q else Q (.bl false) H1
def qp5(ta:TE):TE:=λσ H Q=>ta σ H λx H1=>∃c,x=.bl c/\Q (.bl (!c)) H1
theorem qks{op}{t:TE}(h:PE X a t):PE X (.BoolOp op [a] pos) t:=λz9 s σ H Q I hw=>BoolOp_one (h z9 s σ H Q I hw)
theorem qkt(ha:PE X a ta)(hb:PE X (.BoolOp .And (b::zm) pos) tb):PE X (.BoolOp .And (a::b::zm) pos) (qp9 ta tb):=by
 intro z9 s σ H Q I h;refine BoolOp_and (thn (ha z9 s σ H _ I h) λv s1 ⟨x,H1,I1,r1,q1⟩=>?_);obtain⟨c,rfl,q1⟩:=q1;cases r1;refine k8 ?_;cases c with
 |true=>exact hb z9 s1 σ H1 Q I1 q1
 |false=>exact⟨.bl false,H1,I1,rfl,q1⟩
theorem qq5(ha:PE X a ta):PE X (.UnaryOp .Not a pos) (qp5 ta):=by intro z9 s σ H Q I h;refine UnaryOp_ (thn (ha z9 s σ H _ I h) λv s1 ⟨x,H1,I1,r1,q1⟩=>?_);obtain⟨c,rfl,q1⟩:=q1;cases r1;exact not_of (k8 ⟨.bl (!c),H1,I1,rfl,q1⟩)
def tIf(t:TT)(ta tb:TE):TE:=λσ H Q=>t σ H λc H1=>if c=true then ta σ H1 Q else tb σ H1 Q
theorem q3o{c:Expr}(hc:PT X c tA)(ha:PE X a ta)(hb:PE X b tb):PE X (.IfExp c a b pos) (tIf tA ta tb):=by
 intro z9 s σ H Q I h;refine wpAny_IfExp (thn (hc z9 s σ H _ I h) λd s1 ⟨H1,I1,q1⟩=>?_);cases d with
 |true=>exact ha z9 s1 σ H1 Q I1 q1
 |false=>exact hb z9 s1 σ H1 Q I1 q1
end
def SqL(K:FrG)(H:Hp)(a:Addr)(xs:List V):Prop:=
 Rd H a (.lst xs)∨
  ∃(o:Obj) (its:Array Value) (n:Nat),K.lookup a=some o/\o.cls=.type "list"/\o.dict=none/\o.data=.seq its n/\its.size<=sizeLine/\Vals xs its.toList
def SqT(K:FrG)(H:Hp)(a:Addr)(xs:List V):Prop:=
 Rd H a (.tup xs)∨
  ∃(o:Obj) (its:Array Value) (n:Nat),K.lookup a=some o/\o.cls=.type "tuple"/\o.dict=none/\o.data=.seq its n/\its.size<=sizeLine/\Vals xs its.toList
def absV:Value->Option V
 |.none=>some .non
 |.bool b=>some (.bl b)
 |.int i _=>some (.int i)
 |.str x _=>some (.str x)
 |.bytes b _=>some (.byt b)
 |.float b _=>some (.flt b)
 |.ref a=>some (.ref a)
 |.type n=>some (.ty n)
 |_=>none
theorem RelV.abs{x:V}{u:Value}(r:RelV x u):absV u=some x:=by
 cases x with
 |non=>cases r;rfl
 |bl _=>cases r;rfl
 |int _=>obtain⟨t,rfl⟩:=r;rfl
 |str _=>obtain⟨t,rfl⟩:=r;rfl
 |byt _=>obtain⟨t,rfl⟩:=r;rfl
 |flt _=>obtain⟨t,rfl⟩:=r;rfl
 |ref _=>cases r;rfl
 |ty _=>cases r;rfl
theorem RelV.inj{x y:V}{u:Value}(r:RelV x u)(q:RelV y u):x=y:=jd (r.abs.symm.trans q.abs)
theorem Vals.inj:∀{xs ys:List V} {us:List Value},Vals xs us->Vals ys us->xs=ys
 |_,_,_,.nil,.nil=>rfl
 |_,_,_,.cons r t,.cons r' t'=>by rw[r.inj r',Vals.inj t t']
section
variable{X:Cx}{z9:List (Addr×Obj)}{σ:St}{H:Hp}{s:Shared}{a:Addr}{xs ys:List V}
theorem SqL.of{K:FrG}(h:H a=some (.lst xs)):SqL K H a xs:=.inl (.inl h)
theorem SqT.of{K:FrG}(h:H a=some (.tup xs)):SqT K H a xs:=.inl (.inl h)
theorem Inv.list(I:Inv X z9 σ H s)(h:SqL X.K H a xs):∃its:List Value,Vals xs its/\PlainL s.heap a its.toArray/\xs.length<=sizeLine:=by
 rcases h with h|⟨o,its,n,hk,hc,hd,hs,hz,r⟩
 ·obtain⟨z,its,n,r,e⟩:=h.ok I.hok;exact⟨its,r,⟨_,n,e,rfl,rfl,rfl⟩,z⟩
 ·refine⟨its.toList,r,⟨o,n,I.kIn a o hk,hc,hd,by simpa using hs⟩,?_⟩;have e:=r.length;simp only[Array.length_toList]at e;omega
theorem Inv.tupN(I:Inv X z9 σ H s)(h:SqT X.K H a xs):∃its:List Value,Vals xs its/\TupN s.heap a its.toArray/\xs.length<=sizeLine:=by
 rcases h with h|⟨o,its,n,hk,hc,hd,hs,hz,r⟩
 ·obtain⟨z,its,r,p⟩:=h.ok I.hok;exact⟨its,r,p,z⟩
 ·refine⟨its.toList,r,⟨o,I.kIn a o hk,⟨hc,n,by simpa using hs⟩,hd⟩,?_⟩;have e:=r.length;simp only[Array.length_toList]at e;omega
theorem Inv.tuple(I:Inv X z9 σ H s)(h:SqT X.K H a xs):∃its:List Value,Vals xs its/\IsTup s.heap a its.toArray/\xs.length<=sizeLine:=let ⟨its,r,p,z⟩:=I.tupN h;⟨its,r,p.tup,z⟩
theorem Inv.list_inj(I:Inv X z9 σ H s)(h:SqL X.K H a xs)(h':SqL X.K H a ys):xs=ys:=by
 obtain⟨its,r,⟨o,n,e,_,_,d⟩,_⟩:=I.list h;obtain⟨its',r',⟨o',n',e',_,_,d'⟩,_⟩:=I.list h';rw[e]at e';cases e';rw[d]at d';injection d' with d1 _;have:its=its':=by simpa using congrArg Array.toList d1
 subst this;exact r.inj r'
theorem Inv.tuple_inj(I:Inv X z9 σ H s)(h:SqT X.K H a xs)(h':SqT X.K H a ys):xs=ys:=by
 obtain⟨its,r,⟨o,e,_,n,d⟩,_⟩:=I.tuple h;obtain⟨its',r',⟨o',e',_,n',d'⟩,_⟩:=I.tuple h';rw[e]at e';cases e';rw[d]at d';injection d' with d1 _;have:its=its':=by simpa using congrArg Array.toList d1
 subst this;exact r.inj r'
end
abbrev Cx.wish(X:Cx)(E:Value->Shared->Prop):Cx:={X with xe:=E}
abbrev Cx.nox(X:Cx):Cx:=X.wish λ_ _=>False
theorem Cx.Ok.wish{X:Cx}(ok:X.Ok)(E:Value->Shared->Prop):(X.wish E).Ok:=
 ⟨ok.mod,ok.kind,ok.glob,ok.blt,ok.above,ok.inj,ok.has,ok.cab,ok.hd,ok.frames,ok.stk,ok.exf,ok.bs,ok.bsz,ok.noex,ok.exfs,ok.funs,ok.frf⟩
theorem Cx.Ok.unwish{X:Cx}{E:Value->Shared->Prop}(ok:(X.wish E).Ok):X.Ok:=
 ⟨ok.mod,ok.kind,ok.glob,ok.blt,ok.above,ok.inj,ok.has,ok.cab,ok.hd,ok.frames,ok.stk,ok.exf,ok.bs,ok.bsz,ok.noex,ok.exfs,ok.funs,ok.frf⟩
section
variable{X:Cx}{z9:List (Addr×Obj)}{σ:St}{H:Hp}{s:Shared}{E:Value->Shared->Prop}
theorem Inv.wish(I:Inv X z9 σ H s)(E:Value->Shared->Prop):Inv (X.wish E) z9 σ H s:=⟨I.ok.wish E,I.os,I.bare,I.base,I.loc,I.cell,I.free,I.freeC,I.pin,I.hok,I.len⟩
theorem Inv.unwish(I:Inv (X.wish E) z9 σ H s):Inv X z9 σ H s:=⟨I.ok.unwish,I.os,I.bare,I.base,I.loc,I.cell,I.free,I.freeC,I.pin,I.hok,I.len⟩
theorem SP.unwish{D:Ends}{f:Flow}{s':Shared}(h:SP (X.wish E) z9 D f s'):SP X z9 D f s':=by
 cases f with
 |next=>obtain⟨σ',H',I,q⟩:=h;exact⟨σ',H',I.unwish,q⟩
 |brk=>obtain⟨σ',H',I,q⟩:=h;exact⟨σ',H',I.unwish,q⟩
 |cont=>obtain⟨σ',H',I,q⟩:=h;exact⟨σ',H',I.unwish,q⟩
 |ret u=>obtain⟨v,σ',H',I,r,q⟩:=h;exact⟨v,σ',H',I.unwish,r,q⟩
theorem PE.nox{e:Expr}{t:TE}(h:PE X.nox e t):PE X e t:=λz9 s σ H Q I hw=>
 xg (h z9 s σ H Q (I.wish _) hw) (λ_ _ ⟨v,H',I',r,q⟩=>⟨v,H',I'.unwish,r,q⟩) λ_ _ z=>False.elim z
theorem PT.nox{e:Expr}{t:TT}(h:PT X.nox e t):PT X e t:=λz9 s σ H Q I hw=>
 xg (h z9 s σ H Q (I.wish _) hw) (λ_ _ ⟨H',I',q⟩=>⟨H',I'.unwish,q⟩) λ_ _ z=>False.elim z
theorem PSs.nox{st:List Stmt}{t:TS}(h:PSs X.nox st t):PSs X st t:=λz9 s σ H D I hw=>
 xg (h z9 s σ H D (I.wish _) hw) (λ_ _ q=>q.unwish) λ_ _ z=>False.elim z
end
section
variable{X:Cx}{st:Stmt}{zm:List Stmt}{t u:TS}{e:Expr}{te:TE}{pos:Pos}
def qan:TS:=λD σ H=>D.nx σ H
def tSeq(t u:TS):TS:=λD σ H=>t {D with nx:=u D} σ H
theorem q1m:PSs X [] qan:=λ_ _ σ H _ I h=>kg ⟨σ,H,I,h⟩
theorem q07(h1:PS X st t)(h2:PSs X zm u):PSs X (st::zm) (tSeq t u):=by
 intro z9 s σ H D I h;refine wpAny_execs_cons (thn (h1 z9 s σ H {D with nx:=u D} I h) λf s1 q=>?_);cases f with
 | next=>
  obtain⟨σ',H',I',q⟩:=q;exact h2 z9 s1 σ' H' D I' q
 |ret v=>exact q
 |brk=>exact q
 |cont=>exact q
theorem q09(h1:PS X st t):PSs X [st] t:=by
 intro z9 s σ H D I h;refine wpAny_execs_cons (thn (h1 z9 s σ H D I h) λf s1 q=>?_);cases f with
 |next=>exact kg q
 |ret v=>exact q
 |brk=>exact q
 |cont=>exact q
def qkl:TS:=λD σ H=>D.bk σ H
theorem qid:PS X (.Break pos) qkl:=λ_ _ σ H _ I h=>wpAny_Break ⟨σ,H,I,h⟩
theorem Inv.quiet{z9:List (Addr×Obj)}{σ:St}{H:Hp}{s:Shared}(I:Inv X z9 σ H s):interactive X.env=false:=by simp[interactive,I.ok.kind]
def q9g(te:TE):TS:=λD σ H=>te σ H λ_ H1=>D.nx σ H1
theorem q4b(he:PE X e te)(hs:swapsWith e none pos.line X.env=pure false:=by rfl):PS X (.Expr e pos) (q9g te):=by intro z9 s σ H D I h;exact wpAny_Expr_any (thn (he z9 s σ H _ I h) λv s1 ⟨x,H1,I1,r1,q1⟩=>⟨σ,H1,I1,q1⟩) I.quiet hs
def tRet(te:TE):TS:=λD σ H=>te σ H D.rt
theorem q0t(he:PE X e te):PS X (.Return (some e) pos) (tRet te):=by intro z9 s σ H D I h;exact wpAny_Return_some (thn (he z9 s σ H _ I h) λv s1 ⟨x,H1,I1,r1,q1⟩=>⟨x,σ,H1,I1,r1,q1⟩)
def tIfS(c:TT)(t u:TS):TS:=λD σ H=>c σ H λb H1=>if b=true then t D σ H1 else u D σ H1
theorem q2r{c:Expr}{a b:List Stmt}{tc:TT}(hc:PT X c tc)(ha:PSs X a t)(hb:PSs X b u):PS X (.If c a b pos) (tIfS tc t u):=by
 intro z9 s σ H D I h;refine wpAny_If (thn (hc z9 s σ H _ I h) λd s1 ⟨H1,I1,q1⟩=>?_);cases d with
 |true=>exact ha z9 s1 σ H1 D I1 q1
 |false=>exact hb z9 s1 σ H1 D I1 q1
end
abbrev TG:=V->St->Hp->(St->Hp->Prop)->Prop
abbrev TGs:=List V->St->Hp->(St->Hp->Prop)->Prop
def PG(X:Cx)(zj:Expr)(t:TG):Prop:=
 ∀(z9:List (Addr×Obj)) (s:Shared) (σ:St) (H:Hp) (v:V) (u:Value) (Q:St->Hp->Prop),Inv X z9 σ H s->RelV v u->t v σ H Q->
   wpAny (model X.prog X.w) X.A (assign zj X.env u) (λ_ s'=>∃σ' H',Inv X z9 σ' H' s'/\Q σ' H') X.xe s
def PGs(X:Cx)(ts:List Expr)(t:TGs):Prop:=
 ∀(z9:List (Addr×Obj)) (s:Shared) (σ:St) (H:Hp) (vs:List V) (us:List Value) (Q:St->Hp->Prop),Inv X z9 σ H s->Vals vs us->t vs σ H Q->
   wpAny (model X.prog X.w) X.A (assignInOrder ((assignEach ts X.env).map (·.2)) us) (λ_ s'=>∃σ' H',Inv X z9 σ' H' s'/\Q σ' H') X.xe s
abbrev TSet:=V->V->V->Hp->(Hp->Prop)->Prop
def PSet(X:Cx)(t:TSet):Prop:=
 ∀(z9:List (Addr×Obj)) (s:Shared) (σ:St) (H:Hp) (o i v:V) (ov iv u:Value) (Q:Hp->Prop),Inv X z9 σ H s->RelV o ov->RelV i iv->RelV v u->t o i v H Q->
   wpAny (model X.prog X.w) X.A (setItem ov iv u) (λ_ s'=>∃H',Inv X z9 σ H' s'/\Q H') X.xe s
section
variable{X:Cx}{pos:Pos}
def q41(i:Nat):TG:=λv σ H Q=>Q (σ.set i (some v)) H
theorem q0l{i:Nat}{x:Str}(hN:X.N.Nodup)(hi:X.N[i]? =some x)(hx:Loc X.env.scope x)(hf:X.fn x=true∨X.env.scope.names.lookup x=some .local:=by first|exact .inl rfl|exact .inr rfl|assumption):PG X (.Name x pos) (q41 i):=by intro z9 s σ H v u Q I r h;exact wpAny_assign_Name (q8h I hN hi hx r (λs' I'=>⟨_,H,I',h⟩) hf)
theorem zgA(i:Nat){x:Str}(hN:X.N.Nodup)(hi:X.N[i]? =some x:=by rfl)(hx:Loc X.env.scope x:=by first|exact .inl rfl|exact .inr rfl)(hf:X.fn x=true∨X.env.scope.names.lookup x=some .local:=by first|exact .inl rfl|exact .inr rfl|assumption):PG X (.Name x pos) (q41 i):=q0l hN hi hx hf
def gNil:TGs:=λvs σ H Q=>vs=[]/\Q σ H
def qjg(t:TG)(u:TGs):TGs:=λvs σ H Q=>∃v r,vs=v::r/\t v σ H λσ' H'=>u r σ' H' Q
theorem q31:PGs X [] gNil:=by intro z9 s σ H vs us Q I r h;obtain⟨e,h⟩:=h;subst e;cases r;exact assignInOrder_nil ⟨σ,H,I,h⟩
theorem q1c{e:Expr}{es:List Expr}{t:TG}{u:TGs}(h1:PG X e t)(h2:PGs X es u)
 (hs:(assignEach (e::es) X.env).map (·.2)=assign e X.env::(assignEach es X.env).map (·.2):=by rfl):PGs X (e::es) (qjg t u):=by
 intro z9 s σ H vs us Q I r h;obtain⟨v,vr,e1,h⟩:=h;subst e1;cases r with
 | cons r rr=>
  rw[hs];refine assignInOrder_cons (thn (h1 z9 s σ H _ _ _ I r h) λ_ s1 ⟨σ1,H1,I1,q1⟩=>?_);exact h2 z9 s1 σ1 H1 _ _ Q I1 rr q1
def gTup(K:FrG)(n:Nat)(t:TGs):TG:=λv σ H Q=>∃a xs,v=.ref a/\SqT K H a xs/\xs.length=n/\t xs σ H Q
theorem qq3{es:List Expr}{k:Nat}{t:TGs}{n:Nat}(hc:X.calm=true)(h:PGs X es t)
 (hn:(assignEach es X.env).length=n:=by rfl) (hst:(assignEach es X.env).findIdx? (·.1)=none:=by rfl):PG X (.Tuple es k pos) (gTup X.K n t):=by
 intro z9 s σ H v u Q I r hw;obtain⟨a,xs,e1,hq,hl,hw⟩:=hw;subst e1;cases r;obtain⟨its,rv,ht,hz⟩:=I.tuple hq;refine assign_Tuple_tuple (I.ok.hd hc) ht (by simp[hn,<-hl,rv.length]) hst λh' hx=>?_;have I1:Inv X z9 σ H {s with heap:=h'}:=I.kept (t':=s.toks) λb o e=>hx b o (jm (jb e)) e;exact h z9 _ σ H xs _ Q I1 (by simpa using rv) hw
def gSub(to ti:TE)(t:TSet):TG:=λv σ H Q=>to σ H λo H1=>ti σ H1 λi H2=>t o i v H2 λH3=>Q σ H3
theorem q9n{o i:Expr}{to ti:TE}{t:TSet}(ho:PE X o to)(hi:PE X i ti)(hs:PSet X t)
 (ha:∀v,assign (.Subscript o i pos) X.env v=(do
   let ov <-holding [v] (eval o X.env)
   let iv <-holding [v,ov] (eval i X.env)
   standAt pos
   holding [v,ov,iv] (setItem ov iv v)
   release [v,ov,iv] []):=by intro _;rfl):PG X (.Subscript o i pos) (gSub to ti t):=by
 intro z9 s σ H v u Q I r h;rw[ha];refine j8 (wpAny_holding (thn (ho z9 s σ H _ I h) λov s1 ⟨x,H1,I1,r1,q1⟩=>?_));refine j8 (wpAny_holding (thn (hi z9 s1 σ H1 _ I1 q1) λiv s2 ⟨y,H2,I2,r2,q2⟩=>?_));refine j8 (wpAny_standAt (j8 (wpAny_holding (thn (hs z9 s2 σ H2 x y v ov iv u _ I2 r1 r2 r q2) λ_ s3 ⟨H3,I3,q3⟩=>?_))));exact wpAny_release ⟨σ,H3,I3,q3⟩
def tAsg(te:TE)(g:TG):TS:=λD σ H=>te σ H λx H1=>g x σ H1 D.nx
theorem q72{tg e:Expr}{te:TE}{g:TG}(he:PE X e te)(hg:PG X tg g)(hs:swapsWithSole [tg] e pos.line X.env=pure false:=by rfl)(hw:swappedStores [tg] e X.env=pure none:=by rfl)
 (h1:(assignEach [tg] X.env).map (·.2)=[assign tg X.env]:=by rfl):PS X (.Assign [tg] e pos) (tAsg te g):=by
 intro z9 s σ H D I h;refine wpAny_Assign_stores (thn (he z9 s σ H _ I h) λv s1 ⟨x,H1,I1,r1,q1⟩=>?_) hs hw;rw[h1];exact thn (hg z9 s1 σ H1 x v _ I1 r1 q1) λ_ s2 q=>q
theorem q0w{i:Nat}{x:Str}{e:Expr}{te:TE}{j5:Pos}(hN:X.N.Nodup)(hi:X.N[i]? =some x)(hx:Loc X.env.scope x)(he:PE X e te)(hs:swapsWith e (some (.Name x j5)) pos.line X.env=pure false:=by rfl)(hf:X.fn x=true∨X.env.scope.names.lookup x=some .local:=by first|exact .inl rfl|exact .inr rfl|assumption):
 PS X (.Assign [.Name x j5] e pos) (tAsg te (q41 i)):=by
 intro z9 s σ H D I h;refine wpAny_Assign_Name (thn (he z9 s σ H _ I h) λv s1 ⟨y,H1,I1,r1,q1⟩=>?_) hs;exact q8h I1 hN hi hx r1 (λs2 I2=>⟨_,H1,I2,q1⟩) hf
theorem zsA(i:Nat){x:Str}{e:Expr}{te:TE}{j5:Pos}(hN:X.N.Nodup)(he:PE X e te)(hi:X.N[i]? =some x:=by rfl)(hx:Loc X.env.scope x:=by first|exact .inl rfl|exact .inr rfl)(hs:swapsWith e (some (.Name x j5)) pos.line X.env=pure false:=by rfl)(hf:X.fn x=true∨X.env.scope.names.lookup x=some .local:=by first|exact .inl rfl|exact .inr rfl|assumption): PS X (.Assign [.Name x j5] e pos) (tAsg te (q41 i)):=q0w hN hi hx he hs hf
end
section
variable{X:Cx}{pos:Pos}
def qkh(c:TT)(tb:TS):TS:=λD σ H=>∃W:Nat->St->Hp->Prop,(∃m,W m σ H)/\∀m σ H,W m σ H->
 c σ H λb H1=>if b=true then∃N:St->Hp->Prop,(∀σ' H',N σ' H'->∃m',m'<m/\W m' σ' H')/\tb {D with nx:=N,ct:=N,bk:=D.nx} σ H1 else D.nx σ H1
theorem qbu{c:Expr}{body:List Stmt}{tc:TT}{tb:TS}(hp:PassesOwn (model X.prog X.w) X.A X.env X.xe)(hc:PT X c tc)(hb:PSs X body tb):PS X (.While c body [] pos) (qkh tc tb):=by
 intro z9 s σ H D I h;obtain⟨W,⟨m0,w0⟩,turn⟩:=h;refine wpAny_While (codeAny_whileLoop (λn s'=>∃σ' H',Inv X z9 σ' H' s'/\W n σ' H') ?_ m0 ⟨σ,H,I,w0⟩);rintro n s1 ⟨σ1,H1,I1,w1⟩;refine k9 hp (thn (hc z9 s1 σ1 H1 _ I1 (turn n σ1 H1 w1)) λb s2 ⟨H2,I2,q2⟩=>?_);cases b with
 | true=>
  obtain⟨N,hN,q2⟩:=q2;rw[if_pos rfl];refine k9 hp (thn (hb z9 s2 σ1 H2 _ I2 q2) λf s3 q3=>?_);cases f with
  | next=>
   obtain⟨σ3,H3,I3,n3⟩:=q3;obtain⟨m',hm,w3⟩:=hN σ3 H3 n3;exact⟨m',hm,σ3,H3,I3,w3⟩
  | cont=>
   obtain⟨σ3,H3,I3,n3⟩:=q3;obtain⟨m',hm,w3⟩:=hN σ3 H3 n3;exact⟨m',hm,σ3,H3,I3,w3⟩
  |brk=>exact q3
  |ret v=>exact q3
 | false=>
  rw[if_neg Bool.false_ne_true];exact kg ⟨σ1,H2,I2,q2⟩
end
structure It where
 go:Nat->Hp->Prop
 yld:Nat->Hp->V->Hp->Prop
 stop:Nat->Hp->Prop
def FpOk(X:Cx)(z9:List (Addr×Obj))(H:Hp)(b:Addr):Prop:=
 H b=none/\b≠X.env.locals/\b∉X.fs/\(b∈X.ex∨X.s₀.heap.objs.size<=b)/\(∀x c,X.env.cells.lookup x=some c->c≠b)/\∀p∈X.pn++z9,p.1≠b
theorem Inv.fpOk{X:Cx}{z9:List (Addr×Obj)}{σ:St}{H H':Hp}{s:Shared}{b:Addr}(I:Inv X z9 σ H s)(hb:s.heap.objs.size<=b)(hn:H' b=none):FpOk X z9 H' b:=by
 refine⟨hn,Nat.ne_of_gt (jt I.lt hb),I.nofs hb,.inr (x9 I.sz hb),λx c e z=>?_,λp hp z=>?_⟩
 ·obtain⟨v,q⟩:=I.cell x c e;exact absurd (jt q.lt (by rw[z];exact hb)) (xh _)
 ·exact absurd (jt (jb (I.pin p hp).1) (by rw[z];exact hb)) (xh _)
structure Turn(P:Program)(w:World)(K:FrG)(tg:Expr)(J:It)(fp:List Addr)(it:Addr)(tn:Nat->Heap->Prop):Prop where
 mem:it∈fp
 obj:∀i h,tn i h->∀b∈fp,∃o,h.get? b=some o/\∀v,o.data≠.cell v
 keep:∀i h h',tn i h->(∀b∈fp,∀o,h.get? b=some o->h'.get? b=some o)->tn i h'
 item:∀(X:Cx),X.prog=P->X.w=w->X.K=K->X.calm=true->∀(i:Nat) (z9:List (Addr×Obj)) (s:Shared) (σ:St) (H:Hp) (E:Value->Shared->Prop),Inv X z9 σ H s->(∀b∈fp,FpOk X z9 H b)->tn i s.heap->J.go i H->
  wpAny (model P w) X.A (pyNext (.ref it)) (λr s1=>∃u,r=some u/\
   wpAny (model P w) X.A (letOwnedTupleGo tg (.ref it) u) (λ_ s2=>∃x H',Inv X z9 σ H' s2/\RelV x u/\J.yld i H x H'/\tn (i+1) s2.heap/\∀b∈fp,H' b=none) E s1) E s
 done:∀(X:Cx),X.prog=P->X.w=w->X.K=K->X.calm=true->∀(i:Nat) (z9:List (Addr×Obj)) (s:Shared) (σ:St) (H:Hp) (E:Value->Shared->Prop),Inv X z9 σ H s->(∀b∈fp,FpOk X z9 H b)->tn i s.heap->J.stop i H->
  wpAny (model P w) X.A (pyNext (.ref it)) (λr s1=>r=none/\Inv X z9 σ H s1) E s
 self:∀(A:Around) (i:Nat) (s:Shared) (Q:Value->Shared->Prop) (E:Value->Shared->Prop),tn i s.heap->Q (.ref it) s->wpAny (model P w) A (pyIter (.ref it)) Q E s
abbrev TI:=St->Hp->(It->Hp->Prop)->Prop
def PIE(X:Cx)(z9:List (Addr×Obj))(σ:St)(tg:Expr)(R:It->Hp->Prop)(itv:Value)(s2:Shared):Prop:=
 ∃(it:Addr) (fp:List Addr) (tn:Nat->Heap->Prop) (J:It) (H':Hp),itv=.ref it/\Inv X z9 σ H' s2/\Turn X.prog X.w X.K tg J fp it tn/\tn 0 s2.heap/\(∀b∈fp,FpOk X z9 H' b)/\R J H'
def PI(X:Cx)(tg ze:Expr)(wi:TI):Prop:=
 ∀(z9:List (Addr×Obj)) (s:Shared) (σ:St) (H:Hp) (R:It->Hp->Prop),Inv X z9 σ H s->wi σ H R->
   wpAny (model X.prog X.w) X.A (eval ze X.env) (λv s1=>wpAny (model X.prog X.w) X.A (pyIter v) (PIE X z9 σ tg R) X.xe s1) X.xe s
theorem qnh{M:Model}{A:Around}{E:Value->Shared->Prop}{s:Shared}{tg:Expr}{it:Addr}{u:Value}{o:Obj}{n:String}{vs:Array Value}{Q:Unit->Shared->Prop}(ho:s.heap.get? it=some o)(hc:o.cls=.type n)(hd:o.data=.fields vs)
 (hn:["enumerate","zip","dict_itemiterator","dict_reverseitemiterator","odict_iterator","itertools.zip_longest","itertools.pairwise"].contains n=false) (hQ:Q () s):wpAny M A (letOwnedTupleGo tg (.ref it) u) Q E s:=by
 unfold letOwnedTupleGo;cases tg<;>first
  |exact jc hQ
  |(cases u<;>first
     |exact jc hQ
     | (refine j8 (wpAny_load ho ?_)
        rw[hc,hd];show wpAny M A (if(["enumerate","zip","dict_itemiterator","dict_reverseitemiterator","odict_iterator","itertools.zip_longest","itertools.pairwise"].contains n&&vs[0]? ==some (rawInt _))=true then _ else _) Q E s;rw[if_neg (by intro h;rw[hn,Bool.false_and]at h;cases h)];exact jc hQ))
def Itl(K:FrG)(a:Addr):It:=
 ⟨λi H=>∃xs x,SqL K H a xs/\xs[i]? =some x,λi H x H'=>H'=H/\∀xs,SqL K H a xs->xs[i]? =some x,λi H=>∃xs,SqL K H a xs/\xs.length<=i⟩
def Itt(K:FrG)(a:Addr):It:=
 ⟨λi H=>∃xs x,SqT K H a xs/\xs[i]? =some x,λi H x H'=>H'=H/\∀xs,SqT K H a xs->xs[i]? =some x,λi H=>∃xs,SqT K H a xs/\xs.length<=i⟩
def Itr(lo:Int)(n:Nat):It:=⟨λi _=>i<n,λi H x H'=>H'=H/\x=.int (lo+i),λi _=>n<=i⟩
theorem qea{P:Program}{w:World}{K:FrG}{tg:Expr}(a it:Addr):Turn P w K tg (Itl K a) [it] it (λi h=>h.IsListIter it a i) where
 mem:=by simp
 obj:=λi h st b hb=>by
  have e:b=it:=by simpa using hb
  subst e;obtain⟨o,e,c,d⟩:=st;exact⟨o,e,λv z=>by rw[d]at z;cases z⟩
 keep:=λi h h' st k=>st.at λo e=>k it (by simp) o e
 item:=by intro X hP hw hK hc i z9 s σ H E I hf st hg;subst hP hw hK;obtain⟨xs,x,hq,hx⟩:=hg;obtain⟨its,rv,p,hz⟩:=I.list hq;obtain⟨u,hu,ru⟩:=rv.get hx;obtain⟨f0,f1,f2,f3,f4,f5⟩:=hf it (by simp);refine wpAny_pyNext_list_item st p.isList (x:=u) (by simpa using hu) λh' st' sb=>?_;have I1:Inv X z9 σ H {s with heap:=h'}:=I.turned (t':=s.toks) (λb o hb e=>(sb.2 b hb).trans e) f0 f1 f3 f4 f5;obtain⟨o,e,c,d⟩:=id st';exact⟨u,rfl,qnh (s:={s with heap:=h'}) e c d (by decide) ⟨x,H,I1,ru,⟨rfl,λys hy=>by rw[I.list_inj hy hq];exact hx⟩,st',λb hb=>(hf b hb).1⟩⟩
 done:=by intro X hP hw hK hc i z9 s σ H E I hf st hg;subst hP hw hK;obtain⟨xs,hq,hx⟩:=hg;obtain⟨its,rv,p,hz⟩:=I.list hq;obtain⟨f0,f1,f2,f3,f4,f5⟩:=hf it (by simp);have hl:=rv.length;exact wpAny_pyNext_list_end (I.ok.hd hc) st p.isList (by simp;omega) λh' eb=>⟨rfl,I.turned (t':=s.toks) (λb o hb e=>eb b o hb e) f0 f1 f3 f4 f5⟩
 self:=λ_ _ _ _ _ st h=>wpAny_pyIter_listiter st h
theorem qcy{P:Program}{w:World}{K:FrG}{tg:Expr}(a it:Addr):Turn P w K tg (Itt K a) [it] it (λi h=>h.IsTupleIter it a i) where
 mem:=by simp
 obj:=λi h st b hb=>by
  have e:b=it:=by simpa using hb
  subst e;obtain⟨o,e,c,d⟩:=st;exact⟨o,e,λv z=>by rw[d]at z;cases z⟩
 keep:=λi h h' st k=>st.at λo e=>k it (by simp) o e
 item:=by intro X hP hw hK hc i z9 s σ H E I hf st hg;subst hP hw hK;obtain⟨xs,x,hq,hx⟩:=hg;obtain⟨its,rv,p,hz⟩:=I.tuple hq;obtain⟨u,hu,ru⟩:=rv.get hx;obtain⟨f0,f1,f2,f3,f4,f5⟩:=hf it (by simp);refine wpAny_pyNext_tuple_item st (show s.heap.IsTuple a its.toArray from p) (x:=u) (by simpa using hu) λh' st' sb=>?_;have I1:Inv X z9 σ H {s with heap:=h'}:=I.turned (t':=s.toks) (λb o hb e=>(sb.2 b hb).trans e) f0 f1 f3 f4 f5;obtain⟨o,e,c,d⟩:=id st';exact⟨u,rfl,qnh (s:={s with heap:=h'}) e c d (by decide) ⟨x,H,I1,ru,⟨rfl,λys hy=>by rw[I.tuple_inj hy hq];exact hx⟩,st',λb hb=>(hf b hb).1⟩⟩
 done:=by intro X hP hw hK hc i z9 s σ H E I hf st hg;subst hP hw hK;obtain⟨xs,hq,hx⟩:=hg;obtain⟨its,rv,p,hz⟩:=I.tuple hq;obtain⟨f0,f1,f2,f3,f4,f5⟩:=hf it (by simp);have hl:=rv.length;exact wpAny_pyNext_tuple_end (I.ok.hd hc) st (show s.heap.IsTuple a its.toArray from p) (by simp;omega) λh' eb=>⟨rfl,I.turned (t':=s.toks) (λb o hb e=>eb b o hb e) f0 f1 f3 f4 f5⟩
 self:=λ_ _ _ _ _ st h=>wpAny_pyIter_tupleiter st h
theorem qcz{P:Program}{w:World}{K:FrG}{tg:Expr}(it:Addr)(lo:Int)(n:Nat):Turn P w K tg (Itr lo n) [it] it (λi h=>IsRangeIter h it (lo+(i:Nat)*1) ((n:Int)-(i:Nat)) 1) where
 mem:=by simp
 obj:=λi h st b hb=>by
  have e:b=it:=by simpa using hb
  subst e;exact⟨_,st,λv z=>by have z':Data.fields _=Data.cell v:=z;cases z'⟩
 keep:=λi h h' st k=>k it (by simp) _ st
 item:=by intro X hP hw hK hc i z9 s σ H E I hf st hg;subst hP hw hK;obtain⟨f0,f1,f2,f3,f4,f5⟩:=hf it (by simp);have W:=Walks.range (prog:=X.prog) (w:=X.w) (I.ok.hd hc) it lo 1 n;refine W.item i s _ _ hg st λv h' tk hv st' kk=>?_;obtain⟨t,rfl⟩:=hv;have I1:Inv X z9 σ H {s with heap:=h',toks:=tk}:=I.turned (λb o hb e=>kk b o (by simpa using hb) e) f0 f1 f3 f4 f5;refine⟨_,rfl,qnh (s:={s with heap:=h',toks:=tk}) (n:="range_iterator") st' rfl rfl (by decide) ⟨.int (lo+i),H,I1,⟨t,?_⟩,⟨rfl,rfl⟩,st',λb hb=>(hf b hb).1⟩⟩;rw[Int.mul_one]
 done:=by intro X hP hw hK hc i z9 s σ H E I hf st hg;subst hP hw hK;obtain⟨f0,f1,f2,f3,f4,f5⟩:=hf it (by simp);exact wpAny_pyNext_range_end (I.ok.hd hc) st (by have:n<=i:=hg;omega) λh' eb=>⟨rfl,I.turned (t':=s.toks) (λb o hb e=>eb b o hb e) f0 f1 f3 f4 f5⟩
 self:=λ_ _ _ _ _ st h=>wpAny_pyIter_rangeiter st h
section
variable{X:Cx}{tg:Expr}
def qng(K:FrG)(tl:TE):TI:=λσ H R=>tl σ H λx H1=>∃a,x=.ref a/\(∃xs,SqL K H1 a xs)/\R (Itl K a) H1
def iTup(K:FrG)(tl:TE):TI:=λσ H R=>tl σ H λx H1=>∃a,x=.ref a/\(∃xs,SqT K H1 a xs)/\R (Itt K a) H1
theorem qm8{l:Expr}{tl:TE}(hl:PE X l tl):PI X tg l (qng X.K tl):=by
 intro z9 s σ H R I h;refine thn (hl z9 s σ H _ I h) λv s1 ⟨x,H1,I1,r1,q1⟩=>?_;obtain⟨a,e,⟨xs,hq⟩,q⟩:=q1;subst e;cases r1;obtain⟨its,rv,p,hz⟩:=I1.list hq;refine wpAny_pyIter_list p.isList ?_;refine⟨s1.heap.objs.size,[s1.heap.objs.size],_,_,H1,rfl,I1.kept (t':=s1.toks) λb o e=>jh _ e,qea a _,⟨_,jr _ rfl,rfl,rfl⟩,λb hb=>?_,q⟩;have e:b=s1.heap.objs.size:=by simpa using hb
 subst e;exact I1.fpOk (jg _) (I1.hok.fresh (jg _))
theorem qq2{l:Expr}{tl:TE}(hl:PE X l tl):PI X tg l (iTup X.K tl):=by
 intro z9 s σ H R I h;refine thn (hl z9 s σ H _ I h) λv s1 ⟨x,H1,I1,r1,q1⟩=>?_;obtain⟨a,e,⟨xs,hq⟩,q⟩:=q1;subst e;cases r1;obtain⟨its,rv,p,hz⟩:=I1.tuple hq;refine wpAny_pyIter_tuple (show s1.heap.IsTuple a its.toArray from p) ?_;refine⟨s1.heap.objs.size,[s1.heap.objs.size],_,_,H1,rfl,I1.kept (t':=s1.toks) λb o e=>jh _ e,qcy a _,⟨_,jr _ rfl,rfl,rfl⟩,λb hb=>?_,q⟩;have e:b=s1.heap.objs.size:=by simpa using hb
 subst e;exact I1.fpOk (jg _) (I1.hok.fresh (jg _))
theorem qia{z9:List (Addr×Obj)}{σ:St}{H:Hp}{s:Shared}{R:It->Hp->Prop}{E:Value->Shared->Prop}{lo hi:Int}{t u v:Tok}{tk:Nat}(I:Inv X z9 σ H s)(h1: -(2^62)<=lo)(h2:lo<2^62)(h3: -(2^62)<=hi)(h4:hi<2^62)
 (q:R (Itr lo (hi-lo).toNat) H):wpAny (model X.prog X.w) X.A (pyIter (.ref s.heap.objs.size)) (PIE X z9 σ tg R) E {s with heap:=s.heap.push {cls:=.type "range",data:=.fields #[.int lo t,.int hi u,.int 1 v]},toks:=tk}:=by
 refine wpAny_pyIter_range (IsRange.new ..) (small_one h1 h2 h3 h4) ?_;have I1:Inv X z9 σ H {s with heap:=s.heap.push {cls:=.type "range",data:=.fields #[.int lo t,.int hi u,.int 1 v]},toks:=tk}:=I.kept λb o e=>jh _ e;refine⟨(s.heap.push {cls:=.type "range",data:=.fields #[.int lo t,.int hi u,.int 1 v]}).objs.size,[(s.heap.push {cls:=.type "range",data:=.fields #[.int lo t,.int hi u,.int 1 v]}).objs.size],_,_,H,rfl,
  I1.kept (t':=tk) λb o e=>jh _ e,qcz _ lo (hi-lo).toNat,?_,λb hb=>?_,q⟩
 ·have e1:lo+((0:Nat):Int)*1=lo:=by simp
  have e2:(((hi-lo).toNat:Nat):Int)-((0:Nat):Int)=Builtin.Range.rangeSize lo hi 1:=by rw[rangeSize_one];split<;>omega
  show IsRangeIter _ _ (lo+((0:Nat):Int)*1) ((((hi-lo).toNat:Nat):Int)-((0:Nat):Int)) 1;rw[e1,e2];exact jr _ rfl
 ·have e:b=(s.heap.push {cls:=.type "range",data:=.fields #[.int lo t,.int hi u,.int 1 v]}).objs.size:=by simpa using hb
  subst e;exact I1.fpOk (jg _) (I1.hok.fresh (jg _))
def qja(ta:TA):TI:=λσ H R=>ta σ H λvs H1=>∃j:Int,vs=[.int j]/\ -(2^62)<=j/\j<2^62/\R (Itr 0 j.toNat) H1
theorem q1s{a:Expr}{ta:TA}{p pos:Pos}(hg:Gl X "range")(hm:X.mg "range"=none)(ha:PA X [a] ta)(hs:starEach [a] X.env=[(false,eval a X.env)]:=by rfl):PI X tg (.Call (.Name "range" p) [a] [] pos) (qja ta):=by
 intro z9 s σ H R I h;refine Call_ (q84 I hg hm boot_range (PyProof.Rows.callWith_type1 (thn (ha pos z9 s σ H _ I h) λus s1 ⟨vs,H1,I1,r1,q1⟩=>?_) hs rfl));obtain⟨j,e,q1,q2,q⟩:=q1;subst e;cases r1 with
 | cons r rr=>
  cases rr;obtain⟨t,rfl⟩:=r;exact call_range_1 (qia I1 (by omega) (by omega) q1 q2 (by simpa using q))
def tFor(wi:TI)(g:TG)(tb:TS):TS:=λD σ H=>wi σ H λJ H1=>∃W:Nat->Nat->St->Hp->Prop,(∃m,W 0 m σ H1)/\∀i m σ H,W i m σ H->
 (J.stop i H/\D.nx σ H)∨(J.go i H/\∃N:St->Hp->Prop,(∀σ' H',N σ' H'->∃m',m'<m/\W (i+1) m' σ' H')/\∀x H',J.yld i H x H'->g x σ H' λσ2 H2=>tb {D with nx:=N,ct:=N,bk:=D.nx} σ2 H2)
def q9m(fp:List Addr)(h:Heap):List (Addr×Obj):=fp.filterMap λb=>(h.get? b).map λo=>(b,o)
theorem q4z{fp:List Addr}{h:Heap}{b:Addr}{o:Obj}(hb:b∈fp)(e:h.get? b=some o):(b,o)∈q9m fp h:=List.mem_filterMap.mpr ⟨b,hb,by rw[e];rfl⟩
theorem qg1{fp:List Addr}{h:Heap}{p:Addr×Obj}(hp:p∈q9m fp h):p.1∈fp/\h.get? p.1=some p.2:=by
 obtain⟨b,hb,e⟩:=List.mem_filterMap.mp hp;cases q:h.get? b with
 |none=>rw[q]at e;cases e
 | some o=>
  rw[q]at e;have e':(b,o)=p:=jd e;subst e';exact⟨hb,q⟩
theorem Inv.pinned{z9:List (Addr×Obj)}{σ:St}{H:Hp}{s:Shared}{fp:List Addr}(I:Inv X z9 σ H s)(hf:∀b∈fp,FpOk X z9 H b)(ho:∀b∈fp,∃o,s.heap.get? b=some o/\∀v,o.data≠.cell v):Inv X (z9++q9m fp s.heap) σ H s:=
 I.pins_of λp hp=>(List.mem_append.mp hp).elim (λz=>I.pin p (xj _ z)) λz=>by obtain⟨hb,e⟩:=qg1 z;obtain⟨f0,f1,f2,_⟩:=hf p.1 hb;obtain⟨o,e',d⟩:=ho p.1 hb;rw[e]at e';cases e';exact⟨e,f0,f1,f2,d⟩
theorem Inv.unpinned{z9 pl:List (Addr×Obj)}{σ:St}{H:Hp}{s:Shared}(I:Inv X (z9++pl) σ H s):Inv X z9 σ H s:=I.pins_of λp hp=>I.pin p (xj _ (List.mem_append_left _ hp))
theorem q2m{ze:Expr}{body:List Stmt}{wi:TI}{g:TG}{tb:TS}{pos:Pos}(hp:PassesOwn (model X.prog X.w) X.A X.env X.xe)(hc:X.calm=true)(hi:PI X tg ze wi)(hg:PG X tg g)(hb:PSs X body tb)
 (hs:∀x,foldedSetIterable ze X.env x=pure x:=by intro _;rfl):PS X (.For tg ze body [] pos) (tFor wi g tb):=by
 intro z9 s σ H D I h;refine wpAny_For (thn (hi z9 s σ H _ I h) λv s1 h1=>thn h1 λitv s2 h2=>?_) hs;obtain⟨it,fp,tn,J,H2,e,I2,T,st2,f2,W,⟨m0,w0⟩,turn⟩:=h2;subst e
 -- what stays true of the iterator's objects through the loop
 have stat:∀{H':Hp},(∀b∈fp,H' b=none)->∀b∈fp,FpOk X z9 H' b:=λhn b hb=>⟨hn b hb,(f2 b hb).2⟩;refine codeAny_forLoop_any (λn s'=>∃i σ' H',Inv X z9 σ' H' s'/\tn i s'.heap/\(∀b∈fp,H' b=none)/\W i n σ' H') ?_ m0 ⟨0,σ,H2,I2,st2,λb hb=>(f2 b hb).1,w0⟩;rintro n s3 ⟨i,σ3,H3,I3,st3,fr3,w3⟩;rcases turn i n σ3 H3 w3 with⟨stop,qn⟩|⟨go,N,hN,step⟩
 ·refine k9 hp (thn (T.done X rfl rfl rfl hc i z9 s3 σ3 H3 X.xe I3 (stat fr3) st3 stop) λr s4 ⟨hr,I4⟩=>?_);subst hr;exact kg ⟨σ3,H3,I4,qn⟩
 ·refine k9 hp (thn (T.item X rfl rfl rfl hc i z9 s3 σ3 H3 X.xe I3 (stat fr3) st3 go) λr s4 ⟨u,hr,h4⟩=>?_);subst hr;refine k9 hp (thn h4 λ_ s5 ⟨x,H5,I5,r5,y5,st5,fr5⟩=>?_);have I5':=I5.pinned (stat fr5) (T.obj _ _ st5);refine k9 hp (thn (hg _ s5 σ3 H5 x u _ I5' r5 (step x H5 y5)) λ_ s6 ⟨σ6,H6,I6,q6⟩=>?_);refine k9 hp (thn (hb _ s6 σ6 H6 _ I6 q6) λf s7 q7=>?_);have again:∀{σ7:St} {H7:Hp},Inv X (z9++q9m fp s5.heap) σ7 H7 s7->N σ7 H7->∃m,m<n/\∃i σ' H',Inv X z9 σ' H' s7/\tn i s7.heap/\(∀b∈fp,H' b=none)/\W i m σ' H':=λ{σ7 H7} I7 n7=>by
   obtain⟨m',hm,w7⟩:=hN σ7 H7 n7;refine⟨m',hm,i+1,σ7,H7,I7.unpinned,T.keep _ _ _ st5 λb hb o e=>(I7.pin (b,o) (xj _ (xj _ (q4z hb e)))).1,λb hb=>?_,w7⟩;obtain⟨o,e,d⟩:=T.obj _ _ st5 b hb;exact(I7.pin (b,o) (xj _ (xj _ (q4z hb e)))).2.1
  cases f with
  |next=>obtain⟨σ7,H7,I7,n7⟩:=q7;exact again I7 n7
  |cont=>obtain⟨σ7,H7,I7,n7⟩:=q7;exact again I7 n7
  |brk=>obtain⟨σ7,H7,I7,q7⟩:=q7;exact⟨σ7,H7,I7.unpinned,q7⟩
  |ret v=>obtain⟨x7,σ7,H7,I7,r7,q7⟩:=q7;exact⟨x7,σ7,H7,I7.unpinned,r7,q7⟩
end
abbrev R2:=V->V->Hp->VK->Prop
def OpR(X:Cx)(f:Value->Value->Sem Value)(r:R2):Prop:=
 ∀(z9:List (Addr×Obj)) (s:Shared) (σ:St) (H:Hp) (x y:V) (v u:Value) (Q:VK),Inv X z9 σ H s->RelV x v->RelV y u->r x y H Q->
   wpAny (model X.prog X.w) X.A (f v u) (EP X z9 σ Q) X.xe s
def q4w(X:Cx)(f:Value)(r:List V->Hp->VK->Prop):Prop:=
 ∀(z9:List (Addr×Obj)) (s:Shared) (σ:St) (H:Hp) (xs:List V) (us:List Value) (Q:VK),Inv X z9 σ H s->Vals xs us->r xs H Q->
   wpAny (model X.prog X.w) X.A (call f us) (EP X z9 σ Q) X.xe s
def tOp(r:R2)(ta tb:TE):TE:=λσ H Q=>ta σ H λx H1=>tb σ H1 λy H2=>r x y H2 Q
def rI(C:Int->Int->Prop)(g:Int->Int->V):R2:=λx y H Q=>∃i j,x=.int i/\y=.int j/\C i j/\Q (g i j) H
def rI0(g:Int->Int->V):R2:=λx y H Q=>∃i j,x=.int i/\y=.int j/\Q (g i j) H
section
variable{X:Cx}{a b c:Expr}{ta tb tc:TE}{pos:Pos}
theorem binT(ha:PE X a ta)(hb:PE X b tb){z9:List (Addr×Obj)}{s:Shared}{σ:St}{H:Hp}{R:V->V->Hp->Prop}(I:Inv X z9 σ H s)
 (h:ta σ H λx H1=>tb σ H1 λy H2=>R x y H2) {Q:Value->Shared->Prop} {f:Value->Value->Sem Value}
 (hf:∀v u s2 x y H2,Inv X z9 σ H2 s2->RelV x v->RelV y u->R x y H2->wpAny (model X.prog X.w) X.A (f v u) Q X.xe s2):
 wpAny (model X.prog X.w) X.A (eval a X.env) (λv s₁=>wpAny (model X.prog X.w) X.A (eval b X.env) (λu s₂=>wpAny (model X.prog X.w) X.A (f v u) Q X.xe s₂) X.xe s₁) X.xe s:=by
 refine thn (ha z9 s σ H _ I h) λv s1 ⟨x,H1,I1,r1,q1⟩=>?_;refine thn (hb z9 s1 σ H1 _ I1 q1) λu s2 ⟨y,H2,I2,r2,q2⟩=>?_;exact hf v u s2 x y H2 I2 r1 r2 q2
theorem q0u{op:Operator}{r:R2}(ho:OpR X (binaryOp op) r)(ha:PE X a ta)(hb:PE X b tb):PE X (.BinOp a op b pos) (tOp r ta tb):=by intro z9 s σ H Q I h;exact wpAny_BinOp (binT ha hb I h λv u s2 x y H2 I2 rx ry q=>ho z9 s2 σ H2 x y v u Q I2 rx ry q)
theorem opI{f:Value->Value->Sem Value}{C:Int->Int->Prop}{g:Int->Int->Int}
 (rule:∀(i j:Int) (t u:Tok) (s:Shared) (Q:Value->Shared->Prop) (E:Value->Shared->Prop),C i j->Q (.int (g i j) s.toks) {s with toks:=s.toks+1}->wpAny (model X.prog X.w) X.A (f (.int i t) (.int j u)) Q E s):
 OpR X f (rI C λi j=>.int (g i j)):=by
 intro z9 s σ H x y v u Q I rx ry h;obtain⟨i,j,rfl,rfl,hc,q⟩:=h;obtain⟨t,rfl⟩:=rx;obtain⟨t',rfl⟩:=ry;exact rule i j t t' s _ _ hc ⟨.int (g i j),H,I.tok _,⟨_,rfl⟩,q⟩
theorem opI0{f:Value->Value->Sem Value}{g:Int->Int->Int}
 (rule:∀(i j:Int) (t u:Tok) (s:Shared) (Q:Value->Shared->Prop) (E:Value->Shared->Prop),Q (.int (g i j) s.toks) {s with toks:=s.toks+1}->wpAny (model X.prog X.w) X.A (f (.int i t) (.int j u)) Q E s):
 OpR X f (rI0 λi j=>.int (g i j)):=by
 intro z9 s σ H x y v u Q I rx ry h;obtain⟨i,j,rfl,rfl,q⟩:=h;obtain⟨t,rfl⟩:=rx;obtain⟨t',rfl⟩:=ry;exact rule i j t t' s _ _ ⟨.int (g i j),H,I.tok _,⟨_,rfl⟩,q⟩
theorem opB0{f:Value->Value->Sem Value}{g:Int->Int->Bool}
 (rule:∀(i j:Int) (t u:Tok) (s:Shared) (Q:Value->Shared->Prop) (E:Value->Shared->Prop),Q (.bool (g i j)) s->wpAny (model X.prog X.w) X.A (f (.int i t) (.int j u)) Q E s):
 OpR X f (rI0 λi j=>.bl (g i j)):=by
 intro z9 s σ H x y v u Q I rx ry h;obtain⟨i,j,rfl,rfl,q⟩:=h;obtain⟨t,rfl⟩:=rx;obtain⟨t',rfl⟩:=ry;exact rule i j t t' s _ _ ⟨.bl (g i j),H,I,rfl,q⟩
def CDiv(i j:Int):Prop:=0<j/\j<1073741824
def CPow(i j:Int):Prop:=0<=j/\j<=1000000/\i.natAbs<2^64
def CMul(i j:Int):Prop:=(-(2^64)<i/\i<2^64)∨(-(2^64)<j/\j<2^64)
theorem CMul.ok{i j:Int}(h:CMul i j):IntMulOk i j:=by
 rcases h with⟨h1,h2⟩|⟨h1,h2⟩
 ·exact .of_left (intBits_le_64 h1 h2)
 ·exact .of_right (intBits_le_64 h1 h2)
theorem op_add:OpR X (binaryOp .Add) (rI0 λi j=>.int (i+j)):=opI0 λ_ _ _ _ _ _ _ q=>add_int q
theorem q9o:OpR X (binaryOp .Sub) (rI0 λi j=>.int (i-j)):=opI0 λ_ _ _ _ _ _ _ q=>sub_int q
theorem q5f:OpR X (binaryOp .FloorDiv) (rI CDiv λi j=>.int (i / j)):=opI λi j _ _ _ _ _ hc q=>by have h1:(0:Int)<j:=hc.1;have h2:j<1073741824:=hc.2;exact floordiv_int (by omega) (by rw[Int.fdiv_eq_ediv_of_nonneg i (by omega)];exact q) (.inl (PyProof.noPylong_small (by omega)))
theorem q2d:OpR X (binaryOp .Mod) (rI (λ_ j=>0<j) λi j=>.int (i % j)):=opI λi j _ _ _ _ _ hc q=>by have h1:(0:Int)<j:=hc;exact mod_int' (by omega) (by rw[Int.fmod_eq_emod_of_nonneg i (by omega)];exact q)
theorem qc2:OpR X (binaryOp .Pow) (rI CPow λi j=>.int (i^j.toNat)):=opI λ_ _ _ _ _ _ _ hc q=>pow_int_small hc.1 hc.2.1 hc.2.2 q
theorem q9p:OpR X (binaryOp .LShift) (rI CPow λi j=>.int (i*2^j.toNat)):=opI λ_ _ _ _ _ _ _ hc q=>lshift_int_small hc.1 hc.2.1 hc.2.2 q
theorem qfx:OpR X (binaryOp .BitAnd) (rI0 λi j=>.int (Builtin.bitAnd i j)):=opI0 λ_ _ _ _ _ _ _ q=>and_int q
theorem qq9:OpR X (binaryOp .BitXor) (rI0 λi j=>.int (Builtin.bitXor i j)):=opI0 λ_ _ _ _ _ _ _ q=>xor_int q
end
section
variable{X:Cx}{a b c:Expr}{ta tb tc:TE}{pos:Pos}
theorem qli{z9:List (Addr×Obj)}{σ:St}{H:Hp}{s:Shared}{Q:VK}{k k':Bool}(I:Inv X z9 σ H s)(q:Q (.bl k) H)(e:k=k'):EP X z9 σ Q (.bool k') s:=by subst e;exact⟨.bl k,H,I,rfl,q⟩
theorem qio:OpR X (compareOp .Lt) (rI0 λi j=>.bl (decide (i<j))):=opB0 λ_ _ _ _ _ _ _ q=>lt_int q
theorem qqb:OpR X (compareOp .LtE) (rI0 λi j=>.bl (decide (i<=j))):=opB0 λ_ _ _ _ _ _ _ q=>le_int q
theorem qmh:OpR X (compareOp .Gt) (rI0 λi j=>.bl (decide (j<i))):=opB0 λ_ _ _ _ _ _ _ q=>gt_int q
theorem qfw:OpR X (compareOp .Is) (λx y H Q=>y=.non/\Q (.bl (decide (x=.non))) H):=by
 intro z9 s σ H x y v u Q I rx ry h;obtain⟨rfl,q⟩:=h;cases ry;refine is_none_gen (qli I q ?_);cases x<;>first
  |(cases rx;rfl)
  |(obtain⟨t,rfl⟩:=rx;rfl)
theorem q5e:OpR X (compareOp .IsNot) (λx y H Q=>y=.non/\Q (.bl (!decide (x=.non))) H):=by
 intro z9 s σ H x y v u Q I rx ry h;obtain⟨rfl,q⟩:=h;cases ry;refine isnot_none_gen (qli I q ?_);cases x<;>first
  |(cases rx;rfl)
  |(obtain⟨t,rfl⟩:=rx;rfl)
theorem OpR.or{f:Value->Value->Sem Value}{r r':R2}(h:OpR X f r)(h':OpR X f r'):OpR X f (λx y H Q=>r x y H Q∨r' x y H Q):=by
 intro z9 s σ H x y v u Q I rx ry q;rcases q with q|q
 ·exact h z9 s σ H x y v u Q I rx ry q
 ·exact h' z9 s σ H x y v u Q I rx ry q
theorem q18(b:Expr){op:CmpOp}(h:op≠.In:=by decide)(h2:op≠.NotIn:=by decide):behindInMarks op b=false:=by
 have e1:(op==CmpOp.In)=false:=by cases op<;>first|rfl|exact absurd rfl h
 have e2:(op==CmpOp.NotIn)=false:=by cases op<;>first|rfl|exact absurd rfl h2
 cases b<;>simp[behindInMarks,e1,e2]
theorem qb1{op:CmpOp}{r:R2}(ho:OpR X (compareOp op) r)(ha:PE X a ta)(hb:PE X b tb)(hm:behindInMarks op b=false):PE X (.Compare a [op] [b] pos) (tOp r ta tb):=by intro z9 s σ H Q I h;exact wpAny_Compare1 (binT ha hb I h λv u s2 x y H2 I2 rx ry q=>ho z9 s2 σ H2 x y v u Q I2 rx ry q) hm
def qlv(t:TE):TT:=λσ H Q=>t σ H λx H'=>∃k,x=.bl k/\Q k H'
theorem q0v{op:CmpOp}{r:R2}(ho:OpR X (compareOp op) r)(ha:PE X a ta)(hb:PE X b tb)(hm:behindInMarks op b=false):PT X (.Compare a [op] [b] pos) (qlv (tOp r ta tb)):=by
 intro z9 s σ H Q I h;refine wpAny_isTrue_Compare1 (thn (ha z9 s σ H _ I h) λv s1 ⟨x,H1,I1,r1,q1⟩=>thn (hb z9 s1 σ H1 _ I1 q1) λu s2 ⟨y,H2,I2,r2,q2⟩=>
  thn (ho z9 s2 σ H2 x y v u _ I2 r1 r2 q2) λc s3 ⟨z,H3,I3,r3,k,e,q3⟩=>?_) hm
 subst e;cases r3;exact k8 ⟨H3,I3,q3⟩
def qkk(r r':R2)(ta tb tc:TE):TE:=λσ H Q=>ta σ H λx H1=>tb σ H1 λy H2=>r x y H2 λz H3=>∃k,z=.bl k/\
 (if k=true then tc σ H3 λw' H4=>r' y w' H4 Q else Q (.bl false) H3)
theorem qih{op op':CmpOp}{r r':R2}(ho:OpR X (compareOp op) r)(ho':OpR X (compareOp op') r')(ha:PE X a ta)(hb:PE X b tb)(hc:PE X c tc)
 (hm:lastMarks [op,op'] [b,c]=false:=by with_unfolding_all rfl):PE X (.Compare a [op,op'] [b,c] pos) (qkk r r' ta tb tc):=by
 intro z9 s σ H Q I h;refine Compare_chain (thn (ha z9 s σ H _ I h) λv s1 ⟨x,H1,I1,r1,q1⟩=>chain_link (thn (hb z9 s1 σ H1 _ I1 q1) λu s2 ⟨y,H2,I2,r2,q2⟩=>
  thn (ho z9 s2 σ H2 x y v u _ I2 r1 r2 q2) λd s3 ⟨z,H3,I3,r3,k,e,q3⟩=>?_)) hm
 subst e;cases r3;refine k8 ?_;cases k with
 |false=>exact ite_ff ⟨.bl false,H3,I3,rfl,q3⟩
 |true=>exact ite_tt (chain_last (thn (hc z9 s3 σ H3 _ I3 q3) λw' s4 ⟨z',H4,I4,r4,q4⟩=>ho' z9 s4 σ H4 y z' u w' Q I4 r2 r4 q4))
theorem qa0:(sizeLine:Nat)<2^63:=by rw[sizeLine_eq];decide
theorem qdi:OpR X (binaryOp .Add) (λx y H Q=>∃i j,x=.str i/\y=.str j/\i.length+j.length<=sizeLine/\Q (.str (i++j)) H):=by intro z9 s σ H x y v u Q I rx ry h;obtain⟨i,j,rfl,rfl,hz,q⟩:=h;obtain⟨t,rfl⟩:=rx;obtain⟨t',rfl⟩:=ry;exact add_str (λt' tk=>⟨.str (i++j),H,I.tok _,⟨_,rfl⟩,q⟩) hz
theorem vals1{x:V}{us:List Value}(r:Vals [x] us):∃u,us=[u]/\RelV x u:=by
 cases r with
 |cons r1 r2=>cases r2;exact⟨_,rfl,r1⟩
theorem vals2{x y:V}{us:List Value}(r:Vals [x,y] us):∃u w',us=[u,w']/\RelV x u/\RelV y w':=by
 cases r with
 | cons r1 r2=>
  cases r2 with
  |cons r3 r4=>cases r4;exact⟨_,_,rfl,r1,r3⟩
theorem qhi(hc:X.calm=true):q4w X (.builtin "max") (λxs H Q=>∃i j,xs=[.int i,.int j]/\Q (.int (if j>i then j else i)) H):=by
 intro z9 s σ H xs us Q I r h;obtain⟨i,j,rfl,q⟩:=h;obtain⟨u,w',rfl,⟨t,rfl⟩,⟨t',rfl⟩⟩:=vals2 r;refine max_two_ints (I.ok.hd hc) λh' tk k=>⟨_,H,I.kept k,?_,q⟩;by_cases hj:j>i
 ·rw[if_pos hj,if_pos hj];exact⟨_,rfl⟩
 ·rw[if_neg hj,if_neg hj];exact⟨_,rfl⟩
theorem qhh(hc:X.calm=true):q4w X (.builtin "min") (λxs H Q=>∃i j,xs=[.int i,.int j]/\Q (.int (if j<i then j else i)) H):=by
 intro z9 s σ H xs us Q I r h;obtain⟨i,j,rfl,q⟩:=h;obtain⟨u,w',rfl,⟨t,rfl⟩,⟨t',rfl⟩⟩:=vals2 r;refine min_two_ints (I.ok.hd hc) λh' tk k=>⟨_,H,I.kept k,?_,q⟩;by_cases hj:j<i
 ·rw[if_pos hj,if_pos hj];exact⟨_,rfl⟩
 ·rw[if_neg hj,if_neg hj];exact⟨_,rfl⟩
theorem qaf:q4w X (.type "int") (λxs H Q=>(∃i,xs=[.int i]/\Q (.int i) H)∨∃k,xs=[.bl k]/\Q (.int (if k then 1 else 0)) H):=by
 intro z9 s σ H xs us Q I r h;rcases h with⟨i,rfl,q⟩|⟨k,rfl,q⟩
 ·obtain⟨u,rfl,t,rfl⟩:=vals1 r;exact call_int_int ⟨.int i,H,I,⟨_,rfl⟩,q⟩
 ·obtain⟨u,rfl,r1⟩:=vals1 r;cases r1;exact call_int_bool ⟨.int (if k then 1 else 0),H,I.tok _,⟨_,rfl⟩,q⟩
end
structure ObjM(h:Heap)(x dx C:Addr)(mA:Str->Option Value):Prop where
 obj:h.get? x=some (PySem.W.instObj C dx)
 ns:h.Ns1 dx mA
 ne:dx≠x
theorem qgm{h:Heap}{dx:Addr}{mA:Str->Option Value}(n:h.Ns1 dx mA):∃od,h.get? dx=some od/\∀name,PySem.W.lookIn name od=some (mA name):=by
 obtain⟨o,es,ep,ho,hd,hk,_,hm⟩:=n;refine⟨o,ho,λname=>?_⟩;have e:=hm name;unfold nsFind findBy at e;rw[<-Array.find?_toList]at e;unfold PySem.W.lookIn;rw[hd];dsimp only;split
 ·rename_i y q;rw[q]at e;exact congrArg some e
 ·rename_i q;rw[q]at e;have a:es.toList.any (·.refKey)=false:=by
   rw[List.any_eq_false];intro y hy;obtain⟨z,t,hkey⟩:=hk y (Array.mem_toList_iff.mp hy);simp[DictEntry.refKey,hkey]
  have a':¬es.toList.any (·.refKey)=true:=by rw[a];exact Bool.false_ne_true
  rw[if_neg a'];exact congrArg some e
theorem ObjM.look{h:Heap}{x dx C:Addr}{mA:Str->Option Value}(I:ObjM h x dx C mA):∃od,PySem.W.InstAt h x (PySem.W.instObj C dx) C (some od)/\∀name,PySem.W.lookIn name od=some (mA name):=
 let ⟨od,ho,hl⟩:=qgm I.ns
 ⟨od,⟨I.obj,rfl,rfl,ho⟩,hl⟩
section
variable{prog:Program}{w:World}{A:Around}{E:Value->Shared->Prop}{s:Shared}{K:FrG}{x dx C f:Addr}{mA:Str->Option Value}{name:Str}{v:Value}
theorem get_map{expr:Bool}{Q:Value->Shared->Prop}(X:K.In s.heap)(I:ObjM s.heap x dx C mA)(hg:PySem.W.plainGet K C name=true)(hh:PySem.W.hasDictIn K C=true)
 (ha:PySem.W.findIn K (.ref C) name=some none) (hv:mA name=some v) (hv':PySem.W.handedIn v=true) (h:Q v {s with toks:=s.toks+1}):
 wpAny (model prog w) A (getAttr (.ref x) name expr) Q E s:=by
 obtain⟨od,J,hl⟩:=I.look;exact PySem.W.get_value X J (PySem.W.plainGet_of hg).1 (PySem.W.findObj_own hh ha rfl (by rw[hl,hv])) hv' h
theorem qjc{pl:Sem Bool}{Q:Value×List Value->Shared->Prop}(X:K.In s.heap)(I:ObjM s.heap x dx C mA)(hg:PySem.W.plainGet K C name=true)
 (hf:PySem.W.findIn K (.ref C) name=some (some (.ref f))) (ht:PySem.W.isFn K (.ref f)=true) (hv:mA name=none) (h:Q (.ref f,[.ref x]) s):
 wpAny (model prog w) A (getMethod (.ref x) name pl) Q E s:=by
 obtain⟨od,J,hl⟩:=I.look;exact PySem.W.method_fn X J (PySem.W.plainGet_of hg).1 (PySem.W.plainGet_of hg).2 hf (beq_iff_eq.mp ht) (by show(PySem.W.lookIn name od).map (·.isSome)=some false;rw[hl,hv];rfl) h
theorem qm2{ns:List Str}{Q:Unit->Shared->Prop}(X:K.In s.heap)(I:ObjM s.heap x dx C mA)
 (hs:PySem.W.findIn K (.ref C) "__setattr__"=some (some (.builtin "object.__setattr__"))) (hp:PySem.W.plainOver K C=true) (ht:PySem.W.takerIn K C name=some none) (hh:PySem.W.hasDictIn K C=true)
 (hw:PySem.Within mA ns) (hsz:ns.length<=sizeLine)
 (h:∀h',ObjM h' x dx C (λy=>if y=name then some v else mA y)->Heap.SameBut dx s.heap h'->Q () {s with heap:=h',toks:=s.toks+2}):
 wpAny (model prog w) A (setAttr (.ref x) name v) Q E s:=by
 obtain⟨od,J,hl⟩:=I.look;refine PySem.W.set_plain X J hs (PySem.W.osa_open (s:={s with toks:=s.toks+1}) (r:=none) X J hp ht λb=>?_);obtain⟨cd,hc,hd'⟩:=PySem.W.any_some hh;have hx:s.heap.get? x=some ⟨.ref C,some dx,.plain,#[]⟩:=I.obj;refine j8 (jc (j8 (j8 (wpAny_loadPart hx (j8 (PySem.W.Looks.here (s:={s with toks:=s.toks+1}) (PySem.W.looks_clsIn X hc) ?_))))));rw[hd'];refine jc (a:=some dx) (j8 (jc (j8 ?_)));refine wpAny_nsSet1 (s:={s with toks:=s.toks+1}) I.ns λh' hn2 hs2=>?_;obtain⟨oD,esD,epD,hoD,hdD,hcD⟩:=hn2.count (PySem.Within.cons name v hw);refine j8 (wpAny_lookBehind hoD (by rw[hdD];exact pastItsLine_dict (x9 hcD (by rw[ju];omega))) ?_);exact jc (h _ ⟨(hs2.2 _ (Ne.symm I.ne)).trans I.obj,hn2,I.ne⟩ hs2)
theorem qj1{R:Result->Shared->Prop}{vs:List Value}{kw:List (Str×Value)}(X:K.In s.heap)(hm:PySem.W.makesIn K C=true)
 (hi:PySem.W.findIn K (.ref C) "__init__"=some (some (.ref f))) (hf:PySem.W.typeIn K (.ref f)=some (.type "function"))
 (h:codeAny (model prog w) (A.under (.builtin "type.__call__" ⟨.ref C::vs,kw⟩)) (.call (.ref f) ⟨.ref (s.heap.objs.size+1)::vs,kw⟩) (PySem.W.InitBack (s.heap.objs.size+1) R)
   {s with heap:=(s.heap.push PySem.W.emptyDict).push (PySem.W.instObj C s.heap.objs.size)}):
 codeAny (model prog w) A (.call (.ref C) ⟨vs,kw⟩) R s:=by
 obtain⟨hh,g,d,t,os⟩:=s;exact PySem.W.make_core (PySem.W.makes_of X hm) (PySem.W.looks_findIn X hi) (λself=>PySem.W.bind_fn X self hf) (.inl rfl) h
theorem qgg{R:Result->Shared->Prop}(X:K.In s.heap)(hm:PySem.W.makesIn K C=true)
 (hi:PySem.W.findIn K (.ref C) "__init__"=some (some (.builtin "object.__init__")))
 (hb:∀self,PySem.W.Looks (model prog w) s.heap (bindSpecial (.builtin "object.__init__") self) (.builtin "object.__init__",[self]))
 (h:codeAny (model prog w) (A.under (.builtin "type.__call__" ⟨[.ref C],[]⟩)) (.call (.builtin "object.__init__") ⟨[.ref (s.heap.objs.size+1)],[]⟩) (PySem.W.InitBack (s.heap.objs.size+1) R)
   {s with heap:=(s.heap.push PySem.W.emptyDict).push (PySem.W.instObj C s.heap.objs.size)}):
 codeAny (model prog w) A (.call (.ref C) ⟨[],[]⟩) R s:=by
 obtain⟨hh,g,d,t,os⟩:=s;exact PySem.W.make_core (PySem.W.makes_of X hm) (PySem.W.looks_findIn X hi) hb (.inr ⟨rfl,rfl⟩) h
end
def putF(f:Str)(v:V):List (Str×V)->List (Str×V)
 |[]=>[(f,v)]
 |(g,x)::r=>if g=f then(g,v)::r else(g,x)::putF f v r
theorem q7e(f g:Str)(v:V):∀fs:List (Str×V),(putF f v fs).lookup g=if g=f then some v else fs.lookup g
 | []=>by
  show List.lookup g [(f,v)]=_;by_cases h:g=f
  ·have hb:(g==f)=true:=beq_iff_eq.mpr h;simp only[List.lookup,hb,if_pos h]
  ·have hb:(g==f)=false:=beq_eq_false_iff_ne.mpr h;simp only[List.lookup,hb,if_neg h]
 | (k,x)::r=>by
  have ih:=q7e f g v r;rw[show putF f v ((k,x)::r)=(if k=f then(k,v)::r else(k,x)::putF f v r)from rfl];by_cases hk:k=f
  ·rw[if_pos hk];by_cases h:g=k
   ·have hb:(g==k)=true:=beq_iff_eq.mpr h;simp only[List.lookup,hb,if_pos (h.trans hk)]
   ·have hb:(g==k)=false:=beq_eq_false_iff_ne.mpr h;simp only[List.lookup,hb,if_neg (λe:g=f=>h (e.trans hk.symm))]
  ·rw[if_neg hk];by_cases h:g=k
   ·have hb:(g==k)=true:=beq_iff_eq.mpr h;simp only[List.lookup,hb,if_neg (λe:g=f=>hk (h.symm.trans e))]
   ·have hb:(g==k)=false:=beq_eq_false_iff_ne.mpr h;simp only[List.lookup,hb];exact ih
theorem q7g(f:Str)(v:V):∀fs:List (Str×V),f∈(putF f v fs).map (·.1)/\∀g,g∈fs.map (·.1)->g∈(putF f v fs).map (·.1)
 |[]=>⟨by simp[putF],λg h=>by simp at h⟩
 | (k,x)::r=>by
  obtain⟨i1,i2⟩:=q7g f v r;rw[show putF f v ((k,x)::r)=(if k=f then(k,v)::r else(k,x)::putF f v r)from rfl];by_cases hk:k=f
  ·rw[if_pos hk];subst hk;exact⟨by simp,λg h=>by simpa using h⟩
  ·rw[if_neg hk];refine⟨?_,λg h=>?_⟩
   ·rw[xk];exact jj _ i1
   ·rw[xk]at h ⊢;rcases List.mem_cons.mp h with e|e
    ·exact List.mem_cons.mpr (.inl e)
    ·exact jj _ (i2 g e)
theorem q7f(f:Str)(v:V):∀fs:List (Str×V),(putF f v fs).length<=fs.length+1
 |[]=>by simp[putF]
 | (k,x)::r=>by
  have ih:=q7f f v r;rw[show putF f v ((k,x)::r)=(if k=f then(k,v)::r else(k,x)::putF f v r)from rfl];by_cases hk:k=f
  ·rw[if_pos hk,ju,ju];omega
  ·rw[if_neg hk,ju,ju];omega
theorem RelO.some_of{v:V}{o:Option Value}(r:RelO (some v) o):∃u,o=some u/\RelV v u:=by
 cases o with
 |none=>exact(show False from r).elim
 |some u=>exact⟨u,rfl,r⟩
theorem RelO.none_of{o:Option Value}(r:RelO none o):o=none:=by
 cases o with
 |none=>rfl
 |some u=>exact(show False from r).elim
theorem qgz{v:V}{u:Value}(r:RelV v u):PySem.W.handedIn u=true:=by
 cases v with
 |non=>cases(show u=Value.none from r);rfl
 |bl b=>cases(show u=Value.bool b from r);rfl
 |int i=>obtain⟨t,e⟩:=(show∃t,u=Value.int i t from r);cases e;rfl
 |str x=>obtain⟨t,e⟩:=(show∃t,u=Value.str x t from r);cases e;rfl
 |byt b=>obtain⟨t,e⟩:=(show∃t,u=Value.bytes b t from r);cases e;rfl
 |flt b=>obtain⟨t,e⟩:=(show∃t,u=Value.float b t from r);cases e;rfl
 |ref a=>cases(show u=Value.ref a from r);rfl
 |ty n=>cases(show u=Value.type n from r);rfl
section
variable{P:Program}{w:World}{H H':Hp}{h h':Heap}{a C dx:Addr}{fs fs':List (Str×V)}
theorem q93(hok:HOk P w H h)(e:H a=some (.ins C dx fs)):∃mA,ObjM h a dx C mA/\(∀f,RelO (fs.lookup f) (mA f))/\PySem.Within mA (fs.map (·.1))/\fs.length<=1000/\H dx=some (.own a):=by obtain⟨d,z,ne,ob,mA,n,r,q⟩:=(show ObjOk P w H h a (.ins C dx fs)from hok a _ e);exact⟨mA,⟨ob,n,ne⟩,r,q,z,d⟩
end
structure Cls(K:FrG)(C:Addr):Prop where
 pg:PySem.W.plainGet K C Str.empty=true
 hd:PySem.W.hasDictIn K C=true
 po:PySem.W.plainOver K C=true
 sa:PySem.W.findIn K (.ref C) "__setattr__"=some (some (.builtin "object.__setattr__"))
theorem Cls.get{K:FrG}{C:Addr}(c:Cls K C)(f:Str):PySem.W.plainGet K C f=true:=c.pg
def NoAttr(K:FrG)(C:Addr)(f:Str):Prop:=PySem.W.findIn K (.ref C) f=some none
theorem NoAttr.taker{K:FrG}{C:Addr}{f:Str}(n:NoAttr K C f):PySem.W.takerIn K C f=some none:=by unfold PySem.W.takerIn;rw[show PySem.W.findIn K (.ref C) f=some none from n];rfl
structure Meth(K:FrG)(C:Addr)(m:Str)(f:Addr):Prop where
 at_:PySem.W.findIn K (.ref C) m=some (some (.ref f))
 fn:PySem.W.isFn K (.ref f)=true
 kp:PySem.W.keepIn K (.ref f)=true
section
variable{X:Cx}{z9:List (Addr×Obj)}{σ:St}{H:Hp}{s:Shared}{a C dx:Addr}{fs:List (Str×V)}{f:Str}{v:V}{A:Around}{E:Value->Shared->Prop}
theorem qdt{b:Bool}{Q:Value->Shared->Prop}(I:Inv X z9 σ H s)(e:H a=some (.ins C dx fs))(c:Cls X.K C)(n:NoAttr X.K C f)(l:fs.lookup f=some v)
 (h:∀u s',Inv X z9 σ H s'->RelV v u->Q u s'):wpAny (model X.prog X.w) A (getAttr (.ref a) f b) Q E s:=by
 obtain⟨mA,O,r,_,_,_⟩:=q93 I.hok e;obtain⟨u,hu,ru⟩:=RelO.some_of (v:=v) (o:=mA f) (by rw[<-l];exact r f);exact get_map I.kIn O (c.get f) c.hd n hu (qgz ru) (h u _ (I.tok _) ru)
theorem qds{m:Str}{g:Addr}{pl:Sem Bool}{Q:Value×List Value->Shared->Prop}(I:Inv X z9 σ H s)(e:H a=some (.ins C dx fs))(c:Cls X.K C)(k:Meth X.K C m g)(l:fs.lookup m=none)
 (h:Q (.ref g,[.ref a]) s):wpAny (model X.prog X.w) A (getMethod (.ref a) m pl) Q E s:=by
 obtain⟨mA,O,r,_,_,_⟩:=q93 I.hok e;have hn:mA m=none:=RelO.none_of (by rw[<-l];exact r m);exact qjc I.kIn O (c.get m) k.at_ k.fn hn h
theorem qd6{y:V}{u:Value}{Q:Unit->Shared->Prop}(I:Inv X z9 σ H s)(e:H a=some (.ins C dx fs))(c:Cls X.K C)(n:NoAttr X.K C f)(hl:fs.length<1000)(ry:RelV y u)
 (h:∀s',Inv X z9 σ (upd H a (.ins C dx (putF f y fs))) s'->Q () s'):wpAny (model X.prog X.w) A (setAttr (.ref a) f u) Q E s:=by
 obtain⟨mA,O,r,wi,_,ho⟩:=q93 I.hok e;have hz:(fs.map (·.1)).length<=sizeLine:=by rw[j9,sizeLine_eq];omega
 refine qm2 I.kIn O c.sa c.po n.taker c.hd wi hz λh' O' sb=>h _ ?_;have hd:∃o,h'.get? dx=some o:=let ⟨o,_,_,e',_⟩:=O'.ns;⟨o,e'⟩
 refine I.write (x:=a) (e:=dx) (by rw[e];exact True.intro) (.inr ho) (λb q hb z=>(sb.2 b hb).trans z) hd ?_;refine⟨by rw[q0j O.ne];exact ho,?_,O.ne,O'.obj,_,O'.ns,λg=>?_,λg hg=>?_⟩
 ·have:=q7f f y fs;omega
 ·show RelO ((putF f y fs).lookup g) (if g=f then some u else mA g);rw[q7e];by_cases q:g=f
  ·rw[if_pos q,if_pos q];exact ry
  ·rw[if_neg q,if_neg q];exact r g
 ·by_cases q:g=f
  ·rw[q];exact(q7g f y fs).1
  ·refine(q7g f y fs).2 g (wi g λz=>hg ?_);show(if g=f then some u else mA g)=none;rw[if_neg q];exact z
theorem Inv.made(I:Inv X z9 σ H s):Inv X z9 σ (upd (upd H s.heap.objs.size (.own (s.heap.objs.size+1))) (s.heap.objs.size+1) (.ins C s.heap.objs.size []))
 {s with heap:=(s.heap.push PySem.W.emptyDict).push (PySem.W.instObj C s.heap.objs.size)}:=by
 have e1:(s.heap.push PySem.W.emptyDict).get? s.heap.objs.size=some PySem.W.emptyDict:=jr s.heap rfl;have e2:((s.heap.push PySem.W.emptyDict).push (PySem.W.instObj C s.heap.objs.size)).get? (s.heap.objs.size+1)=some (PySem.W.instObj C s.heap.objs.size):=by
  have:=jr (s.heap.push PySem.W.emptyDict) (o:=PySem.W.instObj C s.heap.objs.size) rfl
  rwa [xn]at this
 have e3:(s.heap.push PySem.W.emptyDict).Ns s.heap.objs.size (λ_=>none):=⟨PySem.W.emptyDict,#[],_,e1,rfl,(λe he=>absurd he (by simp)),λ_=>rfl⟩;have I1:=I.laid (a:=s.heap.objs.size) (o:=.own (s.heap.objs.size+1)) (h':=s.heap.push PySem.W.emptyDict) (t':=s.toks) (λb u q=>jh _ q) (jg _) ⟨_,e1⟩;refine I1.laid (a:=s.heap.objs.size+1) (o:=.ins C s.heap.objs.size []) (t':=s.toks) (λb u q=>jh _ q) (Nat.le_of_eq (xn _ _)) ?_;have ne:s.heap.objs.size≠s.heap.objs.size+1:=jm (Nat.lt_succ_self _);refine⟨by rw[q0j ne,q0m],Nat.zero_le _,ne,e2,λ_=>none,(Heap.Ns1.of_empty e3).at λo q=>jh _ q,λ_=>True.intro,λy hy=>absurd rfl hy⟩
theorem qor{prog:Program}{w:World}{env:Env}{e:Expr}{f:Str}{pos:Pos}{s:Shared}{Q:Value->Shared->Prop}(hb:attributeBase e f env (eval e env)=eval e env)
 (h:wpAny (model prog w) A (eval e env) (λo s₁=>wpAny (model prog w) A (getAttr o f true) Q E s₁) E s):wpAny (model prog w) A (eval (.Attribute e f pos) env) Q E s:=
 Attribute_any_ h (by rw[arm_eval_Attribute,hb])
end
def tFld(K:FrG)(ta:TE)(f:Str):TE:=λσ H Q=>ta σ H λx H1=>∃a C dx fs v,x=.ref a/\H1 a=some (.ins C dx fs)/\Cls K C/\NoAttr K C f/\fs.lookup f=some v/\Q v H1
def sFld(K:FrG)(ta tv:TE)(f:Str):TS:=λD σ H=>tv σ H λy H1=>ta σ H1 λx H2=>∃a C dx fs,x=.ref a/\H2 a=some (.ins C dx fs)/\Cls K C/\NoAttr K C f/\fs.length<1000/\
 D.nx σ (upd H2 a (.ins C dx (putF f y fs)))
section
variable{X:Cx}{o e value:Expr}{f:Str}{pos j5 tpos:Pos}{ta tv:TE}
theorem qq6(he:PE X e ta)(hb:attributeBase e f X.env (eval e X.env)=eval e X.env):PE X (.Attribute e f pos) (tFld X.K ta f):=by intro z9 s σ H Q I h;refine qor hb (thn (he z9 s σ H _ I h) λu s1 ⟨x,H1,I1,rx,a,C,dx,fs,v,ex,ea,c,n,l,q⟩=>?_);subst ex;obtain rfl:u=Value.ref a:=rx;exact qdt I1 ea c n l λu' s2 I2 ru=>⟨v,H1,I2,ru,q⟩
theorem qfq(ha:PE X o ta)(hv:PE X value tv)(hs:swapsWith value (some (.Attribute o f j5)) pos.line X.env=pure false):PS X (.Assign [.Attribute o f j5] value pos) (sFld X.K ta tv f):=by intro z9 s σ H D I h;refine plainObj_wpAny_Assign_Attribute (thn (hv z9 s σ H _ I h) λu s1 ⟨y,H1,I1,ry,q⟩=>thn (ha z9 s1 σ H1 _ I1 q) λov s2 ⟨x,H2,I2,rx,a,C,dx,fs,ex,ea,c,n,l,q2⟩=>?_) hs;subst ex;obtain rfl:ov=Value.ref a:=rx;exact qd6 I2 ea c n l ry λs3 I3=>⟨σ,_,I3,q2⟩
end
section
variable{X:Cx}{z9:List (Addr×Obj)}{σ:St}{H:Hp}{s:Shared}{A:Around}{E:Value->Shared->Prop}{Q:Value->Shared->Prop}{c:Value}{b:Bool}
inductive TyOf(K:FrG)(H:Hp):V->Value->Prop where
 |non:TyOf K H .non (.type "NoneType")
 |bl (x:Bool):TyOf K H (.bl x) (.type "bool")
 |int (i:Int):TyOf K H (.int i) (.type "int")
 |str (x:Str):TyOf K H (.str x) (.type "str")
 |flt (x:UInt64):TyOf K H (.flt x) (.type "float")
 |lst {a:Addr} {xs:List V} (e:H a=some (.lst xs)):TyOf K H (.ref a) (.type "list")
 |frz {a:Addr} {o:Obj} {xs:List V} (e:H a=some (.frz o (.lst xs))):TyOf K H (.ref a) (.type "list")
 |tup {a:Addr} {xs:List V} (e:H a=some (.tup xs)):TyOf K H (.ref a) (.type "tuple")
 |dK {a:Addr} {kvs:List (Key×V)} (e:H a=some (.dK kvs)):TyOf K H (.ref a) (.type "dict")
 |dT {a:Addr} {kvs:List (List Key×V)} (e:H a=some (.dT kvs)):TyOf K H (.ref a) (.type "dict")
 |ins {a C dx:Addr} {fs:List (Str×V)} (e:H a=some (.ins C dx fs)) (cl:Cls K C) (ha:PySem.W.findIn K (.ref C) "__class__"=some (some (.builtin "object.__class__")))
  (hn:PySem.W.specialIn K (.builtin "object.__class__") "__get__"=some (some (.builtin "getset_descriptor.__get__"))) (htk:PySem.W.takesIn K (.builtin "object.__class__")=some true)
  (hm:PySem.W.mroIn K C (.type "object")=some true):TyOf K H (.ref a) (.ref C)
theorem qgs{x:V}{u t:Value}(I:Inv X z9 σ H s)(rx:RelV x u)(ty:TyOf X.K H x t)(e:PySem.W.kitOne X.K t c=some b)(h:∀tk,Q (.bool b) {s with toks:=tk}):
 wpAny (model X.prog X.w) A (call (.builtin "isinstance") [u,c]) Q E s:=by
 cases ty with
 |non=>cases(show u=Value.none from rx);exact PySem.W.kia_one PySem.W.kitx_none I.kIn True.intro e (λz=>nomatch z) h
 |bl y=>cases(show u=Value.bool y from rx);exact PySem.W.kia_one PySem.W.kitx_bool I.kIn True.intro e (λz=>nomatch z) h
 |int i=>obtain⟨t,q⟩:=(show∃t,u=Value.int i t from rx);cases q;exact PySem.W.kia_one PySem.W.kitx_int I.kIn True.intro e (λz=>nomatch z) h
 |str y=>obtain⟨t,q⟩:=(show∃t,u=Value.str y t from rx);cases q;exact PySem.W.kia_one PySem.W.kitx_str I.kIn True.intro e (λz=>nomatch z) h
 |flt y=>obtain⟨t,q⟩:=(show∃t,u=Value.float y t from rx);cases q;exact PySem.W.kia_one PySem.W.kitx_float I.kIn True.intro e (λz=>nomatch z) h
 | @lst a xs ea=>
  cases(show u=Value.ref a from rx);obtain⟨_,_,n,_,h1⟩:=(show ObjOk X.prog X.w H s.heap a (.lst xs)from I.hok a _ ea);exact PySem.W.kia_one PySem.W.kitx_list I.kIn ⟨_,h1,rfl⟩ e (λz=>nomatch z) h
 | @frz a ob xs ea=>
  cases(show u=Value.ref a from rx);obtain⟨_,_,_,n,_,h1⟩:=(show ObjOk X.prog X.w H s.heap a (.frz ob (.lst xs))from I.hok a _ ea);exact PySem.W.kia_one PySem.W.kitx_list I.kIn ⟨_,h1,rfl⟩ e (λz=>nomatch z) h
 | @tup a xs ea=>
  cases(show u=Value.ref a from rx);obtain⟨_,_,_,p⟩:=(show ObjOk X.prog X.w H s.heap a (.tup xs)from I.hok a _ ea);obtain⟨o,h1,⟨h2,_⟩,_⟩:=p;exact PySem.W.kia_one PySem.W.kitx_tuple I.kIn ⟨o,h1,h2⟩ e (λz=>nomatch z) h
 | @dK a kvs ea=>
  cases(show u=Value.ref a from rx);obtain⟨_,_,vs,_,p⟩:=(show ObjOk X.prog X.w H s.heap a (.dK kvs)from I.hok a _ ea);obtain⟨o,es,h1,h2,_⟩:=p;exact PySem.W.kia_one PySem.W.kitx_dict I.kIn ⟨o,h1,h2.1⟩ e (λz=>nomatch z) h
 | @dT a kvs ea=>
  cases(show u=Value.ref a from rx);obtain⟨_,_,xs,_,o,es,ep,h1,h2,_⟩:=(show ObjOk X.prog X.w H s.heap a (.dT kvs)from I.hok a _ ea);exact PySem.W.kia_one PySem.W.kitx_dict I.kIn ⟨o,h1,h2.1⟩ e (λz=>nomatch z) h
 | @ins a C dx fs ea cl ha hn htk hm=>
  cases(show u=Value.ref a from rx);obtain⟨mA,O,_⟩:=q93 I.hok ea;obtain⟨od,J,_⟩:=O.look;exact PySem.W.kia_one (PySem.W.kitx_own (cl.get _) cl.hd ha hn htk hm) I.kIn J e (λz=>nomatch z) h
end
structure Room(k:Nat)(A:Around):Prop where
 hd:A.handled=none
 dp:A.depth+3*k+5<recursionLimit
 un:A.units+16*k+200<cLine
theorem Room.mono{j k:Nat}{A:Around}(r:Room k A)(h:j<=k):Room j A:=⟨r.hd,by have:=r.dp;omega,by have:=r.un;omega⟩
theorem Room.m{j k:Nat}{A:Around}(r:Room k A)(h:j<=k:=by decide):Room j A:=r.mono h
theorem Room.deeper{k:Nat}{A:Around}(r:Room (k+1) A)(env:Env):Room k (A.deeper env):=
 ⟨r.hd,by have:=r.dp;show A.depth+1+3*k+5<_;omega,by have:=r.un;show A.units+3+16*k+200<_;omega⟩
theorem Room.in1{k:Nat}{A:Around}(r:Room (k+1) A):Room k A.in1:=
 ⟨r.hd,by have:=r.dp;show A.depth+3*k+5<_;omega,by have:=r.un;show A.units+1+16*k+200<_;omega⟩
theorem qdp{A:Around}{C:Addr}{us:List Value}{kw:List (Str×Value)}:(A.under (.builtin "type.__call__" ⟨.ref C::us,kw⟩)).depth=A.depth+1:=by first|rfl|simp[Around.under,Code.weight,Code.isCreation,Code.isGuard,Code.isCaller,Code.frames,Code.isFrame,guardIds]
theorem qdo{A:Around}{C:Addr}{us:List Value}{kw:List (Str×Value)}:(A.under (.builtin "type.__call__" ⟨.ref C::us,kw⟩)).units=A.units+1:=by first|rfl|simp[Around.under,Code.cUnits,Code.frames,Code.isFrame]
theorem Room.make{k:Nat}{A:Around}(r:Room (k+1) A)(C:Addr)(us:List Value)(kw:List (Str×Value)):Room k (A.under (.builtin "type.__call__" ⟨.ref C::us,kw⟩)):=
 ⟨r.hd,by have:=r.dp;rw[qdp];omega,by have:=r.un;rw[qdo];omega⟩
theorem Room.depth{k:Nat}{A:Around}(r:Room k A):A.depth<recursionLimit:=by have:=r.dp;omega
theorem Room.units{k:Nat}{A:Around}(r:Room k A):A.units+64<cLine:=by have:=r.un;omega
def tNil:TA:=λ_ H Q=>Q [] H
def q35(ta:TE)(tr:TA):TA:=λσ H Q=>ta σ H λx H1=>tr σ H1 λxs H2=>Q (x::xs) H2
section
variable{X:Cx}{e:Expr}{es:List Expr}{te:TE}{t:TA}{pos:Pos}
theorem q05:PA X [] tNil:=λ_ _ _ _ H Q I h=>Calls.spliced_nil ⟨[],H,I,.nil,h⟩
theorem q01(ha:PE X e te)(hr:PA X es t)(hs:starEach (e::es) X.env=(false,eval e X.env)::starEach es X.env:=by rfl):PA X (e::es) (q35 te t):=by intro pos z9 s σ H Q I h;rw[hs];show wpAny _ _ (spliced ((false,eval e X.env)::backTo pos (starEach es X.env))) _ _ s;refine Calls.spliced_cons (thn (ha z9 s σ H _ I h) λu s1 ⟨x,H1,I1,r1,q1⟩=>?_);exact thn (hr pos z9 s1 σ H1 _ I1 q1) λus s2 ⟨xs,H2,I2,r2,q2⟩=>⟨x::xs,H2,I2,.cons r1 r2,q2⟩
def tTup(t:TA):TE:=λσ H Q=>t σ H λxs H1=>xs.length<=sizeLine/\∀p,H1 p=none->Q (.ref p) (upd H1 p (.tup xs))
def tLst(t:TA):TE:=λσ H Q=>t σ H λxs H1=>xs.length<=sizeLine/\∀p,H1 p=none->Q (.ref p) (upd H1 p (.lst xs))
theorem q2t{x1}(h:PA X es t):PE X (.Tuple es x1 pos) (tTup t):=by intro z9 s σ H Q I hq;refine wpAny_Tuple_spliced (thn (h pos z9 s σ H _ I hq) λus s1 ⟨xs,H1,I1,r,z,q⟩=>⟨by rw[<-r.length];exact z,?_⟩);have hf:H1 s1.heap.objs.size=none:=I1.hok.fresh (jg _);refine⟨.ref s1.heap.objs.size,upd H1 s1.heap.objs.size (.tup xs),I1.laid (t':=s1.toks) (λb u e=>jh _ e) (jg _) ?_,rfl,q _ hf⟩;exact⟨z,us,r,⟨_,jr _ rfl,⟨rfl,_,rfl⟩,rfl⟩⟩
theorem q2c(h:PA X es t):PE X (.List es pos) (tLst t):=by intro z9 s σ H Q I hq;refine wpAny_List_spliced (thn (h pos z9 s σ H _ I hq) λus s1 ⟨xs,H1,I1,r,z,q⟩=>⟨by rw[<-r.length];exact z,?_⟩);have hf:H1 s1.heap.objs.size=none:=I1.hok.fresh (jg _);refine⟨.ref s1.heap.objs.size,upd H1 s1.heap.objs.size (.lst xs),I1.laid (t':=s1.toks) (λb u e=>jh _ e) (jg _) ?_,rfl,q _ hf⟩;exact⟨z,us,0,r,jr _ rfl⟩
end
abbrev Sp:=List V->Hp->VK->XK->Prop
abbrev CXT:=List Env->Hp->Shared->XK->Value->Shared->Prop
structure Env0(P:Program)(w:World)(K:FrG)(mg:Str->Option Value)(base:Heap)(A:Around)(outer:List Env)(s:Shared)(H:Hp):Prop where
 frames:A.frames=some outer
 mod:Mod K mg base
 bs:∀b o,base.get? b=some o->s.heap.get? b=some o/\H b=none
 bsz:base.objs.size<=s.heap.objs.size
 funs:s.heap.FunFrames base outer
 frf:∀b∈frs outer,H b=none
 hok:HOk P w H s.heap
 bare:AllBare s.gens
def CE(outer:List Env)(P:Program)(w:World)(H:Hp)(s:Shared)(Q:VK)(u:Value)(s':Shared):Prop:=
 ∃v H',s'.os=s.os/\AllBare s'.gens/\Un (frs outer) [] H H' s.heap s'.heap/\HOk P w H' s'.heap/\RelV v u/\Q v H'
def CR(CX:CXT)(outer:List Env)(P:Program)(w:World)(H:Hp)(s:Shared)(Q:VK)(E:XK)(r:Result)(s':Shared):Prop:=
 match r with
 |.ok (.ret u)=>CE outer P w H s Q u s'
 |.ok _=>False
 |.error e=>CX outer H s E e s'
structure FnOk(P:Program)(w:World)(K:FrG)(mg:Str->Option Value)(base:Heap)(CX:CXT)(k:Nat)(f:Addr)(fd:FuncData)(ps:List Str)(sp:Sp):Prop where
 len:∀vs H Q E,sp vs H Q E->vs.length=ps.length
 run:∀(A:Around) (outer:List Env) (s:Shared) (H:Hp) (args:Args) (us:List Value) (vs:List V) (Q:VK) (E:XK),Room k A->Env0 P w K mg base A outer s H->BindsTo s fd args (ps.zip us)->Vals vs us->sp vs H Q E->
  codeAny (model P w) A (.call (.ref f) args) (CR CX outer P w H s Q E) s
theorem FnOk.mono{P:Program}{w:World}{K:FrG}{mg:Str->Option Value}{base:Heap}{CX:CXT}{j k:Nat}{f:Addr}{fd:FuncData}{ps:List Str}{sp:Sp}(F:FnOk P w K mg base CX j f fd ps sp)(h:j<=k):
 FnOk P w K mg base CX k f fd ps sp:=⟨F.len,λA outer s H args us vs Q E hr=>F.run A outer s H args us vs Q E (hr.mono h)⟩
theorem FnOk.imp{P:Program}{w:World}{K:FrG}{mg:Str->Option Value}{base:Heap}{CX:CXT}{k:Nat}{f:Addr}{fd:FuncData}{ps:List Str}{sp sp':Sp}(F:FnOk P w K mg base CX k f fd ps sp)
 (h:∀vs H Q E,sp' vs H Q E->sp vs H Q E):FnOk P w K mg base CX k f fd ps sp':=
 ⟨λvs H Q E q=>F.len vs H Q E (h _ _ _ _ q),λA outer s H args us vs Q E hr he hb hv hs=>F.run A outer s H args us vs Q E hr he hb hv (h _ _ _ _ hs)⟩
theorem Env0.make{P:Program}{w:World}{K:FrG}{mg:Str->Option Value}{base:Heap}{A:Around}{outer:List Env}{s:Shared}{H:Hp}(e:Env0 P w K mg base A outer s H)(C:Addr)(us:List Value)(kw:List (Str×Value)):
 Env0 P w K mg base (A.under (.builtin "type.__call__" ⟨.ref C::us,kw⟩)) outer s H:=⟨by first|exact e.frames|(simpa[Around.under,Code.envs,Code.isFrame,pushEnvs]using e.frames),e.mod,e.bs,e.bsz,e.funs,e.frf,e.hok,e.bare⟩
theorem Env0.in1{P:Program}{w:World}{K:FrG}{mg:Str->Option Value}{base:Heap}{A:Around}{outer:List Env}{s:Shared}{H:Hp}(e:Env0 P w K mg base A outer s H):
 Env0 P w K mg base A.in1 outer s H:=⟨e.frames,e.mod,e.bs,e.bsz,e.funs,e.frf,e.hok,e.bare⟩
section
variable{X:Cx}{z9:List (Addr×Obj)}{σ:St}{H:Hp}{s s':Shared}
theorem Inv.env0(I:Inv X z9 σ H s):Env0 X.prog X.w X.K X.mg X.base X.A X.stack s H:=
 ⟨I.ok.frames,I.ok.mod,I.bs,x9 I.ok.bsz I.sz,I.stack,I.stkFree,I.hok,I.bare⟩
theorem Inv.after{Q:VK}{u:Value}(I:Inv X z9 σ H s)(h:CE X.stack X.prog X.w H s Q u s'):EP X z9 σ Q u s':=by obtain⟨v,H',os,bare,un,hok,r,q⟩:=h;obtain⟨hh,g,d,t,os'⟩:=s';obtain rfl:os'=s.os:=os;exact⟨v,H',I.call (h':=hh) (g':=g) (d':=d) (t':=t) (ch:=[]) un hok bare (λb z=>absurd z (by simp)),r,q⟩
end
def q6j(sp:Sp)(dvs:List V)(E:XK)(t:TA):TE:=λσ H Q=>t σ H λvs H1=>sp (vs++dvs) H1 Q E
def qp6(C:Addr)(m:Str)(sp:Sp)(dvs:List V)(E:XK)(ta:TE)(t:TA):TE:=λσ H Q=>ta σ H λx H1=>∃a dx fs,x=.ref a/\H1 a=some (.ins C dx fs)/\fs.lookup m=none/\
 t σ H1 λvs H2=>sp (x::(vs++dvs)) H2 Q E
def qp7(C:Addr)(sp:Sp)(dvs:List V)(E:XK)(t:TA):TE:=λσ H Q=>t σ H λvs H1=>∀x dx,H1 x=none->H1 dx=none->dx≠x->
 sp (.ref x::(vs++dvs)) (upd (upd H1 dx (.own x)) x (.ins C dx [])) (λv H2=>v=.non/\Q (.ref x) H2) E
def Binds(K:FrG)(fd:FuncData)(ps:List Str)(ds:List Value):Prop:=
 ∀(s:Shared) (us:List Value),K.In s.heap->(us++ds).length=ps.length->BindsTo s fd ⟨us,[]⟩ (ps.zip (us++ds))
theorem Binds.all{K:FrG}{fd:FuncData}{ps:List Str}(h:∀us:List Value,us.length=ps.length->bindArgs fd ⟨us,[]⟩=pure (ps.zip us)):Binds K fd ps []:=λs us _ hl=>by rw[List.append_nil]at hl ⊢;exact .of_eq (h us hl)
def q6i(CX:CXT)(X:Cx)(E:XK):Prop:=∀(z9:List (Addr×Obj)) (σ:St) (H:Hp) (s:Shared) (e:Value) (s':Shared),Inv X z9 σ H s->CX X.stack H s E e s'->X.xe e s'
section
variable{X:Cx}{CX:CXT}{k:Nat}{f C:Addr}{fd:FuncData}{ps:List Str}{sp:Sp}{dvs:List V}{ds:List Value}{E:XK}{x m:Str}{p pos zv:Pos}{e o:Expr}{es:List Expr}{ta:TE}{t:TA}
theorem qko{z9:List (Addr×Obj)}{σ:St}{H:Hp}{s:Shared}{Q:VK}{us:List Value}{vs:List V}(F:FnOk X.prog X.w X.K X.mg X.base CX k f fd ps sp)(hr:Room k X.A)(hb:Binds X.K fd ps ds)(hd:Vals dvs ds)(hx:q6i CX X E)
 (I:Inv X z9 σ H s) (r:Vals vs us) (h:sp (vs++dvs) H Q E):wpAny (model X.prog X.w) X.A (call (.ref f) us) (EP X z9 σ Q) X.xe s:=by
 have r2:Vals (vs++dvs) (us++ds):=r.append hd;have hl:(us++ds).length=ps.length:=by rw[<-r2.length];exact F.len _ _ _ _ h
 refine wpAny_call (codeAny_mono (F.run X.A X.stack s H ⟨us,[]⟩ (us++ds) (vs++dvs) Q E hr I.env0 (hb s us I.kIn hl) r2 h) λr s' hq=>?_);cases r with
 |error e=>exact hx z9 σ H s e s' I hq
 | ok fl=>
  cases fl with
  |ret u=>exact I.after hq
  |next=>exact False.elim hq
  |brk=>exact False.elim hq
  |cont=>exact False.elim hq
theorem q0g(F:FnOk X.prog X.w X.K X.mg X.base CX k f fd ps sp)(hr:Room k X.A)(hg:Gl X x)(hm:X.mg x=some (.ref f))(hk:PySem.W.keepIn X.K (.ref f)=true)(hb:Binds X.K fd ps ds)(hd:Vals dvs ds)(hx:q6i CX X E)
 (ha:PA X (e::es) t) (hdb:(x==("__debug__":Str))=false:=by decide) (he:starEach (e::es) X.env=(false,eval e X.env)::starEach es X.env:=by rfl) (hpl:(backTo pos (starEach es X.env)).any (·.1)=false:=by rfl):
 PE X (.Call (.Name x p) (e::es) [] pos) (q6j sp dvs E t):=by
 intro z9 s σ H Q I h;refine xy (q67 I hg hm ?_ hdb);refine PySem.W.callWith_K (h₀:=X.base) I.ok.mod.kin hk (thn (ha pos z9 s σ H _ I h) λus s1 ⟨vs,H1,I1,r,q⟩=>⟨I1.kIn,?_⟩) he hpl;exact qko F hr hb hd hx I1 r q
theorem qaz{pl:Sem Bool}(he:PE X o ta)(c:Cls X.K C)(hm:Meth X.K C m f)(F:FnOk X.prog X.w X.K X.mg X.base CX k f fd ps sp)(hr:Room k X.A)(hb:Binds X.K fd ps ds)(hd:Vals dvs ds)(hx:q6i CX X E)(ha:PA X (e::es) t)
 (hst:starEach (e::es) X.env=(false,eval e X.env)::starEach es X.env:=by rfl) (hpl:(backTo pos (starEach es X.env)).any (·.1)=false:=by rfl)
 (ht:eval (.Call (.Attribute o m zv) (e::es) [] pos) X.env=(do
   let ov <-eval o X.env
   standAt zv.atName
   let (f,first) <-holding [ov] (getMethod ov m pl)
   callWith pos f first (backTo pos (starEach (e::es) X.env)) (backToKw pos (keywordEach [] X.env))):=by rfl):
 PE X (.Call (.Attribute o m zv) (e::es) [] pos) (qp6 C m sp dvs E ta t):=by
 intro z9 s σ H Q I h;refine PySem.W.methodCall_KW (pl:=pl) (thn (he z9 s σ H _ I h) λu s1 ⟨x,H1,I1,rx,a,dx,fs,ex,ea,l,q⟩=>?_) ht;subst ex;obtain rfl:u=Value.ref a:=rx;refine qds I1 ea c hm l ?_;refine PySem.W.callWith_K (first:=[.ref a]) (h₀:=X.base) I.ok.mod.kin hm.kp (thn (ha pos z9 s1 σ H1 _ I1 q) λus s2 ⟨vs,H2,I2,r,q2⟩=>⟨I2.kIn,?_⟩) hst hpl;exact qko (us:=.ref a::us) (vs:=.ref a::vs) F hr hb hd hx I2 (.cons rfl r) q2
structure Mk(K:FrG)(C f:Addr):Prop where
 makes:PySem.W.makesIn K C=true
 init:PySem.W.findIn K (.ref C) "__init__"=some (some (.ref f))
 fn:PySem.W.isFn K (.ref f)=true
 kp:PySem.W.keepIn K (.ref C)=true
theorem qi7{z9:List (Addr×Obj)}{σ:St}{H:Hp}{s:Shared}{Q:VK}{us:List Value}{vs:List V}(M:Mk X.K C f)(F:FnOk X.prog X.w X.K X.mg X.base CX k f fd ps sp)(hr:Room (k+1) X.A)(hb:Binds X.K fd ps ds)(hd:Vals dvs ds)
 (hx:q6i CX X E) (I:Inv X z9 σ H s) (r:Vals vs us)
 (h:∀x dx,H x=none->H dx=none->dx≠x->sp (.ref x::(vs++dvs)) (upd (upd H dx (.own x)) x (.ins C dx [])) (λv H2=>v=.non/\Q (.ref x) H2) E):
 wpAny (model X.prog X.w) X.A (call (.ref C) us) (EP X z9 σ Q) X.xe s:=by
 have hq:=h (s.heap.objs.size+1) s.heap.objs.size (I.hok.fresh (Nat.le_succ _)) (I.hok.fresh (jg _)) (jm (Nat.lt_succ_self _));have I2:=Inv.made (C:=C) I;have r2:Vals (V.ref (s.heap.objs.size+1)::(vs++dvs)) (Value.ref (s.heap.objs.size+1)::(us++ds)):=.cons rfl (r.append hd);have hl:(Value.ref (s.heap.objs.size+1)::us++ds).length=ps.length:=by have e:=r2.length;rw[F.len _ _ _ _ hq]at e;exact e.symm
 refine wpAny_call (qj1 (f:=f) I.kIn M.makes M.init (beq_iff_eq.mp M.fn) (codeAny_mono (F.run _ X.stack _ _ ⟨Value.ref (s.heap.objs.size+1)::us,[]⟩ (Value.ref (s.heap.objs.size+1)::(us++ds)) _ _ E (hr.make C us [])
  (I2.env0.make C us []) (hb _ (Value.ref (s.heap.objs.size+1)::us) I2.kIn hl) r2 hq) λr s' hq'=>?_))
 cases r with
 |error e=>exact hx z9 σ _ _ e s' I2 hq'
 | ok fl=>
  cases fl with
  | ret u=>
   obtain⟨v,H',I3,rv,ev,q3⟩:=I2.after hq';subst ev;exact⟨rv,⟨V.ref (s.heap.objs.size+1),H',I3,rfl,q3⟩⟩
  |next=>exact False.elim hq'
  |brk=>exact False.elim hq'
  |cont=>exact False.elim hq'
theorem qft(M:Mk X.K C f)(F:FnOk X.prog X.w X.K X.mg X.base CX k f fd ps sp)(hr:Room (k+1) X.A)(hg:Gl X x)(hm:X.mg x=some (.ref C))(hb:Binds X.K fd ps ds)(hd:Vals dvs ds)(hx:q6i CX X E)
 (ha:PA X (e::es) t) (hdb:(x==("__debug__":Str))=false:=by decide) (he:starEach (e::es) X.env=(false,eval e X.env)::starEach es X.env:=by rfl) (hpl:(backTo pos (starEach es X.env)).any (·.1)=false:=by rfl):
 PE X (.Call (.Name x p) (e::es) [] pos) (qp7 C sp dvs E t):=by
 intro z9 s σ H Q I h;refine xy (q67 I hg hm ?_ hdb);refine PySem.W.callWith_K (h₀:=X.base) I.ok.mod.kin M.kp (thn (ha pos z9 s σ H _ I h) λus s1 ⟨vs,H1,I1,r,q⟩=>⟨I1.kIn,?_⟩) he hpl;exact qi7 M F hr hb hd hx I1 r q
end
section
variable{X:Cx}{CX:CXT}{k:Nat}{f C:Addr}{fd:FuncData}{ps ks:List Str}{sp:Sp}{E:XK}{x m:Str}{p pos zv kpos:Pos}{e o:Expr}{es:List Expr}{kws:List Keyword}{te ta:TE}{t tk:TA}{nm:Option Str}
variable{g:List Value->List Value->List Value}{gV:List V->List V->List V}
end
structure q0q(N P:List Str)(sc:Scope):Prop where
 kind:sc.kind=.function
 co:sc.isCoroutine=false
 gen:sc.isGenerator=false
 nd:N.Nodup
 pre:N.take P.length=P
 par:∀x∈P,sc.names.lookup x=some .local∨sc.names.lookup x=some .cell
 nofree:∀y∈sc.names,y.2≠.free
theorem qag{kindOf:Str->Option NameKind}{x:Str}:∀{zu:List (Str×Value)} {m:Str->Option Value},(∀v,(x,v)∉zu)->bindL kindOf zu m x=m x
 |[],_,_=>rfl
 | (n,v)::r,m,h=>by
  unfold bindL;rw[qag λw hw=>h w (jj _ hw)];split
  ·have:x≠n:=by rintro rfl;exact h v jk
   simp[this]
  ·rfl
theorem qai{kindOf:Str->Option NameKind}{x:Str}:∀{zu:List (Str×Value)} {m:Str->Option Value},(∀v,(x,v)∉zu)->bindC kindOf zu m x=m x
 |[],_,_=>rfl
 | (n,v)::r,m,h=>by
  unfold bindC;rw[qai λw hw=>h w (jj _ hw)];split
  ·rfl
  ·have:x≠n:=by rintro rfl;exact h v jk
   simp[this]
theorem qah{kindOf:Str->Option NameKind}{x:Str}{v:Value}:∀{P:List Str} {vs:List Value} {i:Nat} {m:Str->Option Value},P.Nodup->P[i]? =some x->vs[i]? =some v->kindOf x=some .local->
 bindL kindOf (P.zip vs) m x=some v
 |[],_,_,_,_,h,_,_=>by simp at h
 |_::_,[],_,_,_,_,h,_=>by simp at h
 | p::P,w::vs,0,m,nd,h1,h2,hk=>by simp at h1 h2;subst h1;subst h2;show bindL kindOf ((p,w)::P.zip vs) m p=_;unfold bindL;rw[qag λv hv=>(List.nodup_cons.mp nd).1 (List.of_mem_zip hv).1,if_pos hk];simp
 | p::P,w::vs,i+1,m,nd,h1,h2,hk=>by show bindL kindOf ((p,w)::P.zip vs) m x=_;unfold bindL;exact qah (i:=i) (List.nodup_cons.mp nd).2 (by simpa using h1) (by simpa using h2) hk
theorem qaj{kindOf:Str->Option NameKind}{x:Str}{v:Value}:∀{P:List Str} {vs:List Value} {i:Nat} {m:Str->Option Value},P.Nodup->P[i]? =some x->vs[i]? =some v->kindOf x≠some .local->
 bindC kindOf (P.zip vs) m x=some v
 |[],_,_,_,_,h,_,_=>by simp at h
 |_::_,[],_,_,_,_,h,_=>by simp at h
 | p::P,w::vs,0,m,nd,h1,h2,hk=>by simp at h1 h2;subst h1;subst h2;show bindC kindOf ((p,w)::P.zip vs) m p=_;unfold bindC;rw[qai λv hv=>(List.nodup_cons.mp nd).1 (List.of_mem_zip hv).1,if_neg hk];simp
 | p::P,w::vs,i+1,m,nd,h1,h2,hk=>by show bindC kindOf ((p,w)::P.zip vs) m x=_;unfold bindC;exact qaj (i:=i) (List.nodup_cons.mp nd).2 (by simpa using h1) (by simpa using h2) hk
def start(N:List Str)(vs:List V):St:=vs.map some++List.replicate (N.length-vs.length) none
def cxOf(CX:CXT)(P:Program)(w:World)(K:FrG)(mg:Str->Option Value)(base:Heap)(N:List Str)(qual:Str)(scope:Scope)(f:Addr)(cd:Value)(A:Around)(outer:List Env)(s:Shared)(H:Hp)(E:XK):Cx where
 prog:=P
 w:=w
 K:=K
 mg:=mg
 base:=base
 A:=A.deeper (envOfC qual scope s.heap.objs.size f cd)
 N:=N
 s₀:=s
 H₀:=H
 env:=envOfC qual scope s.heap.objs.size f cd
 outer:=outer
 stack:=envOfC qual scope s.heap.objs.size f cd::outer
 ex:=[]
 calm:=true
 fn:=λ_=>true
 pn:=[]
 xe:=λe s'=>wpAny (model P w) (A.deeper (envOfC qual scope s.heap.objs.size f cd)) (leaving (envOfC qual scope s.heap.objs.size f cd) e) (λ_ s''=>CX outer H s E e s'') (λe' s''=>CX outer H s E e' s'') s'
theorem qcq{sc:Scope}{n:Nat}{x:Str}(h:sc.names.lookup x=some .cell):∃c,(cellsFrom n sc.names []).lookup x=some c:=by have q:=PySem.W.cellsFrom_some sc.names n [] (.inl h);exact Option.isSome_iff_exists.mp q
theorem qgv{CX:CXT}{P:Program}{w:World}{K:FrG}{mg:Str->Option Value}{base:Heap}{N ps:List Str}{qual:Str}{scope:Scope}{f:Addr}{cd:Value}{A:Around}{outer:List Env}{s s1:Shared}{H:Hp}{E:XK}{us:List Value}{vs:List V}
 (S:q0q N ps scope) (hd:A.handled=none) (e0:Env0 P w K mg base A outer s H) (hl:vs.length=ps.length) (r:Vals vs us)
 (x:InCallC s s.heap.objs.size (bindL (envOfC qual scope s.heap.objs.size f cd).kindOf (ps.zip us) λ_=>none) (cellsFrom (s.heap.objs.size+1) scope.names []) (bindC (envOfC qual scope s.heap.objs.size f cd).kindOf (ps.zip us) λ_=>none) s1):
 Inv (cxOf CX P w K mg base N qual scope f cd A outer s H E) [] (start N vs) H s1:=by
 have hpl:ps.length<=N.length:=by have:=congrArg List.length S.pre;rw[xl]at this;omega
 obtain⟨h1,tk,rfl,hk⟩:=x.done;have noA:∀b:Addr,b∉(cxOf CX P w K mg base N qual scope f cd A outer s H E).ex:=λb z=>absurd (show b∈([]:List Addr)from z) (by simp);refine⟨⟨e0.mod,S.kind,rfl,rfl,jg _,λy z c h1 h2=>?_,λy hy=>?_,λy c _ h=>?_,λ_=>hd,Around.frames_deeper e0.frames,.inr ⟨rfl,rfl⟩,λb z=>absurd z (noA b),e0.bs,e0.bsz,λb _ _=>noA b,λb z=>absurd z (noA b),e0.funs,e0.frf⟩,
  rfl,e0.bare,Un.kept hk,⟨_,x.toInCall.ns,λi y v h1 h2 h3=>?_⟩,λy c h=>⟨_,x.cell y c h⟩,e0.hok.fresh (jg _),λy c h=>?_,λp hp=>absurd (show p∈([]:List (Addr×Obj))from hp) (by simp),e0.hok.kept hk,?_⟩
 ·exact name_of_addr x.apart (PySem.mem_of_lookup h1) (PySem.mem_of_lookup h2)
 ·have hy:scope.names.lookup y=some .cell∨scope.names.lookup y=some .free:=hy;rcases hy with hy|hy
  ·exact qcq hy
  ·exact absurd rfl (S.nofree _ (PySem.mem_of_lookup hy))
 ·exact Nat.le_of_lt (x.above y c (PySem.mem_of_lookup h))
 ·have hi:i<vs.length:=by
   unfold start at h2;by_cases hi:i<vs.length
   ·exact hi
   ·rw[xw (by simpa using hi)]at h2;rw[xr]at h2;split at h2<;>cases h2
  have ha:vs[i]? =some v:=by
   unfold start at h2;rw[kc (by simpa using hi),je]at h2;cases e:vs[i]? with
   |none=>rw[e]at h2;cases h2
   |some a=>rw[e]at h2;cases h2;rfl
  obtain⟨u,hu,rv⟩:=r.get ha;have hp:ps[i]? =some y:=by rw[<-S.pre,List.getElem?_take_of_lt (by omega)];exact h1
  have ndP:ps.Nodup:=by rw[<-S.pre];exact S.nd.sublist (List.take_sublist _ _)
  refine⟨u,rv,?_⟩;rcases S.par y (xm hp)with k|k
  ·exact .inl ⟨k,qah ndP hp hu k⟩
  ·obtain⟨c,e⟩:=qcq (n:=s.heap.objs.size+1) k;refine .inr ⟨.inl k,c,e,?_⟩;have q:=x.cell y c e;rw[qaj ndP hp hu (by show scope.names.lookup y≠_;rw[k];decide)]at q;exact q
 ·exact e0.hok.fresh (Nat.le_of_lt (x.above y c (PySem.mem_of_lookup h)))
 ·unfold start;show _=N.length;rw[jl,j9,jo];omega
theorem qnk{CX:CXT}{P:Program}{w:World}{K:FrG}{mg:Str->Option Value}{base:Heap}{k:Nat}{f:Addr}{name qual:Str}{params:Arguments}{body:List Stmt}{scope:Scope}{dV kV doc pm cdv ct oc:Value}{an od:Option Addr}
 {osl:Array (Option Value)} {N ps:List Str} {sp:Sp} (lk:K.lookup f=some ⟨oc,od,.func (PySem.W.fnOf name qual params body scope dV kV doc pm an cdv ct),osl⟩) (hcd:PySem.W.codeIn K cdv qual=true) (S:q0q N ps scope)
 (len:∀vs H Q E,sp vs H Q E->vs.length=ps.length)
 (zp:∀(A:Around) (outer:List Env) (s:Shared) (H:Hp) (vs:List V) (Q:VK) (E:XK),Room k (A.deeper (envOfC qual scope s.heap.objs.size f cdv))->sp vs H Q E->
   ∃t,PSs (cxOf CX P w K mg base N qual scope f cdv A outer s H E) body t/\t {nx:=λ_ H'=>Q .non H',rt:=Q} (start N vs) H):
 FnOk P w K mg base CX (k+1) f (PySem.W.fnOf name qual params body scope dV kV doc pm an cdv ct) ps sp:=by
 refine⟨len,λA outer s H args us vs Q E hr e0 hb r hsp=>?_⟩;have hl:=len _ _ _ _ hsp;have KX:K.In s.heap:=e0.mod.kin.keeps λb o e=>(e0.bs b o e).1;have lim:s.heap.NoLimit:=e0.mod.nolimit.keeps λb o e=>(e0.bs b o e).1;have hkind:∀y∈ps.zip us,scope.names.lookup y.1=some .local∨(scope.names.lookup y.1=some .cell/\((cellsFrom (s.heap.objs.size+1) scope.names []).lookup y.1).isSome=true):=λ⟨n,v⟩ hy=>by
  rcases S.par n (List.of_mem_zip hy).1 with q|q
  ·exact .inl q
  ·exact .inr ⟨q,PySem.W.cellsFrom_some _ _ _ (.inl q)⟩
 refine codeAny_call_function hr.depth (KX _ _ lk) rfl S.co S.gen rfl (PySem.W.codeRec_of KX hcd) (hb _ _ _ _ ?_);refine wpAny_newFunctionEnv_cells S.kind hkind λenv he s1 x=>?_;subst he;refine⟨lim.keeps x.toInCall.keep,codeAny_func ?_⟩;obtain⟨t,ht,hq⟩:=zp A outer s H vs Q E (hr.deeper _) hsp;have I:Inv (cxOf CX P w K mg base N qual scope f cdv A outer s H E) [] (start N vs) H s1:=qgv S hr.hd e0 hl r x;refine xg (ht [] s1 (start N vs) H _ I hq) (λfl s' hs=>?_) λe s' hs=>hs;have fin:∀{σ':St} {H':Hp} {v:V} {u:Value},Inv (cxOf CX P w K mg base N qual scope f cdv A outer s H E) [] σ' H' s'->RelV v u->Q v H'->CE outer P w H s Q u s':=
  λ{σ' H' v u} J rv q=>⟨v,H',J.os,J.bare,J.base,J.hok,rv,q⟩
 cases fl with
 | ret u=>
  obtain⟨v,σ',H',J,rv,q⟩:=hs;exact fin J rv q
 | next=>
  obtain⟨σ',H',J,q⟩:=hs;exact fin (v:=V.non) (u:=Value.none) J rfl q
 | brk=>
  obtain⟨_,_,_,q⟩:=hs;exact False.elim q
 | cont=>
  obtain⟨_,_,_,q⟩:=hs;exact False.elim q
section
variable{X:Cx}{x:Str}{p pos:Pos}{e:Expr}{es:List Expr}{t:TA}{id T:String}{r:List V->Hp->VK->Prop}
def tCB(r:List V->Hp->VK->Prop)(t:TA):TE:=λσ H Q=>t σ H λvs H1=>r vs H1 Q
theorem q11(hc:q4w X (.builtin id) r)(hg:Gl X x)(hm:X.mg x=none)(hv:bootBuiltins x=some (.builtin id))(ha:PA X (e::es) t)(hn:x≠"__name__":=by decide)(hdb:(x==("__debug__":Str))=false:=by decide)
 (he:starEach (e::es) X.env=(false,eval e X.env)::starEach es X.env:=by rfl) (hpl:(backTo pos (starEach es X.env)).any (·.1)=false:=by rfl):PE X (.Call (.Name x p) (e::es) [] pos) (tCB r t):=by
 intro z9 s σ H Q I h;refine xy (q84 I hg hm hv ?_ hn hdb);exact PyProof.Rows.callWith_builtin1 (thn (ha pos z9 s σ H _ I h) λus s1 ⟨vs,H1,I1,r1,q1⟩=>hc z9 s1 σ H1 vs us Q I1 r1 q1) he hpl
theorem q37(hc:q4w X (.type T) r)(hg:Gl X x)(hm:X.mg x=none)(hv:bootBuiltins x=some (.type T))(ha:PA X (e::es) t)(hn:x≠"__name__":=by decide)(hdb:(x==("__debug__":Str))=false:=by decide)
 (he:starEach (e::es) X.env=(false,eval e X.env)::starEach es X.env:=by rfl) (hpl:(backTo pos (starEach es X.env)).any (·.1)=false:=by rfl):PE X (.Call (.Name x p) (e::es) [] pos) (tCB r t):=by
 intro z9 s σ H Q I h;refine xy (q84 I hg hm hv ?_ hn hdb);exact PyProof.Rows.callWith_type1 (thn (ha pos z9 s σ H _ I h) λus s1 ⟨vs,H1,I1,r1,q1⟩=>hc z9 s1 σ H1 vs us Q I1 r1 q1) he hpl
end
end L2
namespace HT
open PySem PyProof.Rows
def lexLt:List Int->List Int->Bool
 |[],[]=>false
 |[],_::_=>true
 |_::_,[]=>false
 |x::xs,y::ys=>if x=y then lexLt xs ys else decide (x<y)
theorem lexLt_cons(x y:Int)(xs ys:List Int):lexLt (x::xs) (y::ys)=if x=y then lexLt xs ys else decide (x<y):=rfl
theorem eqAt_int(A:Around)(s:Shared)(a:Int)(t:Tok)(c:Int)(u:Tok):∃e,SeqAt.EqAt A s (.int a t) (.int c u) e/\(e=true↔a=c):=
 ⟨(a==c),SeqAt.EqAt.int_int a t c u,by simp⟩
theorem rcLt_int(A:Around)(s:Shared)(a:Int)(t:Tok)(c:Int)(u:Tok)(prog:Program)(w:World)(E:Value->Shared->Prop)(Q:Value->Shared->Prop)(h:Q (.bool (decide (a<c))) s):
 wpAny (model prog w) A (richCompare .Lt (.int a t) (.int c u)) Q E s:=
 (PyProof.Rows.lt_int h:wpAny (model prog w) A (compareOp .Lt (.int a t) (.int c u)) Q E s)
section
open PySem.SeqAt
open PySem.AutoSeq1 (wpAny_loadPart')
open PySem.MeetsSeq PySem.MeetsSeq2 PySem.MeetsSeq3
end
section
variable{prog:Program}{w:World}{A:Around}{E:Value->Shared->Prop}{s:Shared}
def sIx(n d:Nat):Option Int->Nat
 |none=>d
 |some v=>if v<0 then(v+(n:Int)).toNat else min v.toNat n
theorem sIx_none(n d:Nat):sIx n d none=d:=rfl
theorem qpu(n d:Nat)(hd:d<=n)(o:Option Int):sIx n d o<=n:=by
 cases o with
 |none=>exact hd
 | some v=>
  show(if v<0 then(v+(n:Int)).toNat else min v.toNat n)<=n;by_cases hv:v<0
  ·rw[if_pos hv];omega
  ·rw[if_neg hv];exact Nat.min_le_right _ _
theorem qhc(v:Int)(n d:Nat):(if v<0 then max (v+(n:Int)) 0 else min v (n:Int))=((sIx n d (some v):Nat):Int):=by
 show(if v<0 then max (v+(n:Int)) 0 else min v (n:Int))=(((if v<0 then(v+(n:Int)).toNat else min v.toNat n):Nat):Int);by_cases hv:v<0
 ·simp only[if_pos hv];omega
 ·simp only[if_neg hv];omega
theorem qe3(lo hi:Option Int)(n:Nat):Builtin.Slice.sliceAdjust lo hi 1 (n:Int)=(((sIx n 0 lo:Nat):Int),((sIx n n hi:Nat):Int)):=by
 have h1:¬((1:Int)<0):=by omega
 unfold Builtin.Slice.sliceAdjust;simp only[h1,if_false];refine Prod.ext ?_ ?_
 ·cases lo with
  |none=>rfl
  |some v=>exact qhc v n 0
 ·cases hi with
  |none=>rfl
  |some v=>exact qhc v n n
theorem qdf(i j:Nat):Builtin.Slice.slicePlaces (i:Int) (j:Int) 1=j-i:=by
 unfold Builtin.Slice.slicePlaces;have h1:(1:Int)>0:=by omega
 simp only[h1,if_true,Int.ediv_one];split<;>omega
theorem q7z{v:Value}{o:Option Int}{Q:Option Int->Shared->Prop}(p:IsPart v o)(h:Q o s):wpAny (model prog w) A (Builtin.Slice.slicePartIndex v) Q E s:=by
 cases p with
 |none=>exact slicePart_none h
 |int i t=>exact slicePart_int h
theorem q6k{sl:Addr}{vl vu:Value}{lo hi:Option Int}{n:Nat}{Q:Int×Int×Nat->Shared->Prop}(hs:s.heap.IsSliceOf sl vl vu .none)(pl:IsPart vl lo)(pu:IsPart vu hi)
 (h:Q (((sIx n 0 lo:Nat):Int),1,sIx n n hi-sIx n 0 lo) s):wpAny (model prog w) A (Builtin.Slice.sliceApplied (.ref sl) (pure (n:Int))) Q E s:=by
 obtain⟨os,hos,hcs,hds⟩:=id hs;unfold Builtin.Slice.sliceApplied Builtin.Slice.sliceFields;refine j8 (j8 (xc hos hds (x:=vl) rfl (j8 (xc hos hds (x:=vu) rfl (j8 (xc hos hds (x:=.none) rfl (jc ?_)))))));refine j8 (slicePart_none ?_);show wpAny _ _ (if((1:Int)==0)=true then _ else _) _ _ s;rw[if_neg (by decide)];refine j8 (q7z pl (j8 (q7z pu (j8 (jc ?_)))));show wpAny _ _ (match Builtin.Slice.sliceAdjust lo hi 1 (n:Int)with|(lo,hi)=>pure (lo,(1:Int),Builtin.Slice.slicePlaces lo hi 1)) _ _ s;rw[qe3 lo hi n];show wpAny _ _ (pure (((sIx n 0 lo:Nat):Int),(1:Int),Builtin.Slice.slicePlaces ((sIx n 0 lo:Nat):Int) ((sIx n n hi:Nat):Int) 1)) _ _ s;rw[qdf];exact jc h
theorem qie(xs:Array Value)(i k:Nat):((List.range k).filterMap λ(m:Nat)=>xs[((i:Int)+(m:Int)*1).toNat]?).toArray=((xs.toList.drop i).take k).toArray:=by
 have e:(λ(m:Nat)=>xs[((i:Int)+(m:Int)*1).toNat]?)=λm=>xs[i+m]? :=by
  funext m;have:((i:Int)+(m:Int)*1).toNat=i+m:=by omega
  rw[this]
 rw[e];have:=pick_run xs i k;rw[List.filterMap_map]at this;have e2:((λx=>xs[x]?)∘λx=>i+x)=λm=>xs[i+m]? :=rfl;rw[e2]at this;rw[this]
theorem getItem_tuple_cut{t sl:Addr}{zb:Array Value}{vl vu:Value}{lo hi:Option Int}{Q:Value->Shared->Prop}(ht:IsTup s.heap t zb)(hs:s.heap.IsSliceOf sl vl vu .none)(pl:IsPart vl lo)(pu:IsPart vu hi)
 (hw:¬(sIx zb.size 0 lo=0/\sIx zb.size zb.size hi=zb.size))
 (h:Q (.ref s.heap.objs.size) {s with heap:=s.heap.push {cls:=.type "tuple",data:=.seq ((zb.toList.drop (sIx zb.size 0 lo)).take (sIx zb.size zb.size hi-sIx zb.size 0 lo)).toArray}})
 (hsz:zb.size<=sizeLine):wpAny (model prog w) A (getItem (.ref t) (.ref sl)) Q E s:=by
 have htake:sizeOk (.seq ((zb.toList.drop (sIx zb.size 0 lo)).take (sIx zb.size zb.size hi-sIx zb.size 0 lo)).toArray):=by show((zb.toList.drop (sIx zb.size 0 lo)).take (sIx zb.size zb.size hi-sIx zb.size 0 lo)).toArray.size<=sizeLine;rw[xf,xl,k6,Array.length_toList];omega
 have hj:sIx zb.size zb.size hi<=zb.size:=qpu _ _ (jg _) hi;obtain⟨os,hos,hcs,hds⟩:=id hs;have hTs:s.TypeIs (.ref sl) "slice":=⟨os,hos,hcs⟩;unfold getItem
 try with_reducible refine wpAny_holding ?_
 first|refine j8 (jc ?_)|skip
 refine j8 (wpAny_sequenceKey ht.typeIs (by decide) ?_);refine j8 (ko (name:=Str.ofString "__getitem__") ht.typeIs PyProof.Rows.slot_tuple_getitem
  (wpAny_call_entry PyProof.Rows.slot_tuple_getitem ht.typeIs entry_tuple_getitem ?_ (args_tuple_getitem _ _)))
 show wpAny _ _ (Builtin.Tuple.tupleItemsOf (.ref t) >>= _) _ _ s;refine j8 (tupleItemsOf_ ht ?_);refine j8 (wpAny_typeOf hTs ?_);rw[if_pos (by decide)];refine j8 (q6k hs pl pu ?_);have hno:¬((((sIx zb.size 0 lo:Nat):Int)==0&&(1:Int)==1&&(sIx zb.size zb.size hi-sIx zb.size 0 lo)==zb.size)=true):=by intro q;rw[Bool.and_eq_true,Bool.and_eq_true]at q;have q1:((sIx zb.size 0 lo:Nat):Int)=0:=eq_of_beq q.1.1;have q2:sIx zb.size zb.size hi-sIx zb.size 0 lo=zb.size:=eq_of_beq q.2;exact hw ⟨by omega,by omega⟩
 show wpAny _ _ (if(((sIx zb.size 0 lo:Nat):Int)==0&&(1:Int)==1&&(sIx zb.size zb.size hi-sIx zb.size 0 lo)==zb.size)=true then _ else _) _ _ s;rw[if_neg hno,qie]
 first
  |exact j8 (m:=Builtin.Tuple.tupleExact _) (xu (jc ⟨_,rfl,jc h⟩) htake)
  |exact j8 (m:=Builtin.Tuple.tupleExact _) (xu (j8 (jc (jc ⟨_,rfl,jc h⟩))) htake)
  |exact j8 (j8 (m:=Builtin.Tuple.tupleExact _) (xu (jc (jc ⟨_,rfl,jc h⟩)) htake))
  |exact j8 (j8 (m:=Builtin.Tuple.tupleExact _) (xu (jc ⟨_,rfl,jc h⟩) htake))
end
end HT
namespace L2
open PySem PySem.Spec PyProof.Rows
abbrev TO:=St->Hp->(Option Int->Hp->Prop)->Prop
def PO(X:Cx)(e:Option Expr)(t:TO):Prop:=
 ∀(z9:List (Addr×Obj)) (s:Shared) (σ:St) (H:Hp) (Q:Option Int->Hp->Prop),Inv X z9 σ H s->t σ H Q->
   wpAny (model X.prog X.w) X.A (evalPart e X.env) (λu s'=>∃o H',Inv X z9 σ H' s'/\IsPart u o/\Q o H') X.xe s
def qed:TO:=λ_ H Q=>Q none H
def qp4(t:TE):TO:=λσ H Q=>t σ H λx H1=>∃i,x=.int i/\Q (some i) H1
theorem intsAre_of{ns:List Int}:∀{us:List Value},Vals (ns.map V.int) us->IntsAre us ns:=by
 induction ns with
 |nil=>intro us r;rw[List.map_nil]at r;cases r;exact .nil
 | cons n ns ih=>
  intro us r;rw[xk]at r;cases r with
  | cons r1 r2=>
   obtain⟨t,e⟩:=r1;subst e;exact .cons n t (ih r2)
section
variable{X:Cx}{e:Expr}{te:TE}{lo hi:Option Expr}{tl th:TO}{pos p2:Pos}
theorem q4n:PO X none qed:=by intro z9 s σ H Q I h;rw[evalPart_none];exact jc ⟨none,H,I,.none,h⟩
theorem q3r(h:PE X e te):PO X (some e) (qp4 te):=by intro z9 s σ H Q I hw;rw[evalPart_some];refine thn (h z9 s σ H _ I hw) λu s1 ⟨x,H1,I1,r1,q1⟩=>?_;obtain⟨i,rfl,q⟩:=q1;obtain⟨t,rfl⟩:=r1;exact⟨some i,H1,I1,.int i t,q⟩
def SlR(X:Cx)(r:V->Option Int->Option Int->Hp->VK->Prop):Prop:=
 ∀(z9:List (Addr×Obj)) (s:Shared) (σ:St) (H:Hp) (x:V) (v vl vu:Value) (lo hi:Option Int) (sl:Addr) (Q:VK),Inv X z9 σ H s->RelV x v->s.heap.IsSliceOf sl vl vu .none->IsPart vl lo->IsPart vu hi->r x lo hi H Q->
   ∃T id,typeLookup (.type T) "__getitem__"=pure (some (.builtin id))/\s.TypeIs v T/\wpAny (model X.prog X.w) X.A (getItem v (.ref sl)) (EP X z9 σ Q) X.xe s
theorem SlR.or{r r':V->Option Int->Option Int->Hp->VK->Prop}(h:SlR X r)(h':SlR X r'):SlR X (λx lo hi H Q=>r x lo hi H Q∨r' x lo hi H Q):=by
 intro z9 s σ H x v vl vu lo hi sl Q I rx hs pl pu q;rcases q with q|q
 ·exact h z9 s σ H x v vl vu lo hi sl Q I rx hs pl pu q
 ·exact h' z9 s σ H x v vl vu lo hi sl Q I rx hs pl pu q
def tSl(r:V->Option Int->Option Int->Hp->VK->Prop)(te:TE)(tl th:TO):TE:=λσ H Q=>te σ H λx H1=>tl σ H1 λl H2=>th σ H2 λu H3=>r x l u H3 Q
theorem q3e{r:V->Option Int->Option Int->Hp->VK->Prop}(hr:SlR X r)(he:PE X e te)(hl:PO X lo tl)(hu:PO X hi th):PE X (.Subscript e (.Slice lo hi none p2) pos) (tSl r te tl th):=by intro z9 s σ H Q I h;refine Subscript_ (thn (he z9 s σ H _ I h) λv s1 ⟨x,H1,I1,r1,q1⟩=>?_);refine wpAny_Slice (thn (hl z9 s1 σ H1 _ I1 q1) λvl s2 ⟨l,H2,I2,pl,q2⟩=>thn (hu z9 s2 σ H2 _ I2 q2) λvu s3 ⟨u,H3,I3,pu,q3⟩=>?_);rw[evalPart_none];refine jc ?_;have I4:Inv X z9 σ H3 {s3 with heap:=s3.heap.push {cls:=.type "slice",data:=.fields #[vl,vu,.none]}}:=I3.kept (t':=s3.toks) λb ob q=>jh _ q;obtain⟨T,id,hT,ht,hg⟩:=hr z9 {s3 with heap:=s3.heap.push {cls:=.type "slice",data:=.fields #[vl,vu,.none]}} σ H3 x v vl vu l u s3.heap.objs.size Q I4 r1 (Heap.IsSliceOf.new ..) pl pu q3;show wpAny (model X.prog X.w) X.A (subscriptTail e (.Slice lo hi none p2) v (.ref s3.heap.objs.size)) (EP X z9 σ Q) X.xe {s3 with heap:=s3.heap.push {cls:=.type "slice",data:=.fields #[vl,vu,.none]}};exact tail_any (ops:=[.ref s3.heap.objs.size,v]) ht hT hg (by with_unfolding_all rfl)
def cutV(xs:List V)(lo hi:Option Int):List V:=(xs.drop (HT.sIx xs.length 0 lo)).take (HT.sIx xs.length xs.length hi-HT.sIx xs.length 0 lo)
theorem q7o(xs:List V)(lo hi:Option Int):(cutV xs lo hi).length<=xs.length:=by unfold cutV;rw[xl,k6];omega
def rSlT(K:FrG):V->Option Int->Option Int->Hp->VK->Prop:=λx lo hi H Q=>∃a xs,x=.ref a/\SqT K H a xs/\
 ¬(HT.sIx xs.length 0 lo=0/\HT.sIx xs.length xs.length hi=xs.length)/\∀p,H p=none->Q (.ref p) (upd H p (.tup (cutV xs lo hi)))
theorem qpb:SlR X (rSlT X.K):=by
 intro z9 s σ H x v vl vu lo hi sl Q I rx hs pl pu h;obtain⟨a,xs,rfl,hx,hw,q⟩:=h;cases rx;obtain⟨its,r,ht,hz⟩:=I.tuple hx;have zd:its.toArray.size=xs.length:=by rw[xf];exact r.length.symm
 refine⟨"tuple",_,PyProof.Rows.slot_tuple_getitem.lookup,ht.typeIs,?_⟩;refine HT.getItem_tuple_cut ht hs pl pu (by rw[zd];exact hw) ?_ (by rw[zd];exact hz);rw[zd];refine⟨.ref s.heap.objs.size,_,I.laid (t':=s.toks) (o:=.tup (cutV xs lo hi)) (λb ob q=>jh _ q) (jg _) ?_,rfl,q _ (I.hok.fresh (jg _))⟩;exact⟨x9 (q7o xs lo hi) hz,_,(r.drop (HT.sIx xs.length 0 lo)).take (HT.sIx xs.length xs.length hi-HT.sIx xs.length 0 lo),TupN.new _ _⟩
theorem Vals.nil_iff{xs:List V}{us:List Value}(r:Vals xs us):us=[]↔xs=[]:=by
 cases r with
 |nil=>simp
 |cons _ _=>simp
end
def ixN(n:Nat)(i:Int):Option Nat:=if 0<=i then(if i<n then some i.toNat else none)else if -(n:Int)<=i then some (i+n).toNat else none
def atI{α:Type}(xs:List α)(i:Int):Option α:=(ixN xs.length i).bind λj=>xs[j]?
theorem qgq{n:Nat}{i:Int}{j:Nat}(h:ixN n i=some j):seqIndex? i n=some j/\j<n/\ -(n:Int)<=i/\i<n:=by
 unfold ixN at h;by_cases h0:0<=i
 ·rw[if_pos h0]at h;by_cases h1:i<n
  ·rw[if_pos h1]at h;have e:i.toNat=j:=jd h;exact⟨by rw[seqIndex_of h0 h1,e],by omega,by omega,h1⟩
  ·rw[if_neg h1]at h;cases h
 ·rw[if_neg h0]at h;by_cases h1: -(n:Int)<=i
  ·rw[if_pos h1]at h;have e:(i+n).toNat=j:=jd h;exact⟨by rw[seqIndex_neg (by omega) h1,e],by omega,h1,by omega⟩
  ·rw[if_neg h1]at h;cases h
theorem qbi{α:Type}{xs:List α}{i:Int}{v:α}(h:atI xs i=some v):∃j,seqIndex? i xs.length=some j/\xs[j]? =some v/\j<xs.length/\ -(xs.length:Int)<=i/\i<xs.length:=by
 unfold atI at h;cases e:ixN xs.length i with
 |none=>rw[e]at h;cases h
 | some j=>
  rw[e]at h;obtain⟨h1,h2,h3,h4⟩:=qgq e;exact⟨j,h1,h,h2,h3,h4⟩
theorem q5l{α:Type}{xs:List α}{j:Nat}{v:α}(h:xs[j]? =some v):atI xs (j:Int)=some v:=by
 have hj:j<xs.length:=(List.getElem?_eq_some_iff.mp h).1;have e:ixN xs.length (j:Int)=some j:=by unfold ixN;rw[if_pos (by omega),if_pos (by omega)];simp
 unfold atI;rw[e];exact h
def qot(b:Expr):Prop:=∀o i,subscripted b false o i=operate [o,i] (getItem o i)
def IxR(X:Cx)(r:R2):Prop:=
 ∀(value zk:Expr) (z9:List (Addr×Obj)) (s:Shared) (σ:St) (H:Hp) (x y:V) (v u:Value) (Q:VK),Inv X z9 σ H s->RelV x v->RelV y u->r x y H Q->
   subscripted zk false v u=operate [v,u] (getItem v u)->wpAny (model X.prog X.w) X.A (subscriptTail value zk v u) (EP X z9 σ Q) X.xe s
def MtR(X:Cx)(id:String)(r:V->List V->Hp->VK->Prop):Prop:=
 ∀(z9:List (Addr×Obj)) (s:Shared) (σ:St) (H:Hp) (x:V) (xs:List V) (v:Value) (us:List Value) (Q:VK),Inv X z9 σ H s->RelV x v->Vals xs us->r x xs H Q->
   wpAny (model X.prog X.w) X.A (call (.builtin id) (v::us)) (EP X z9 σ Q) X.xe s
section
variable{X:Cx}{a b:Expr}{ta tb:TE}{pos:Pos}
theorem IxR.or{r r':R2}(h:IxR X r)(h':IxR X r'):IxR X (λx y H Q=>r x y H Q∨r' x y H Q):=by
 intro value zk z9 s σ H x y v u Q I rx ry q hs;rcases q with q|q
 ·exact h value zk z9 s σ H x y v u Q I rx ry q hs
 ·exact h' value zk z9 s σ H x y v u Q I rx ry q hs
theorem q1a{r:R2}(hr:IxR X r)(ha:PE X a ta)(hb:PE X b tb)(hs:qot b:=by exact λ_ _=>rfl):PE X (.Subscript a b pos) (tOp r ta tb):=by intro z9 s σ H Q I h;exact Subscript_ (binT ha hb I h λv u s2 x y H2 I2 rx ry q=>hr a b z9 s2 σ H2 x y v u Q I2 rx ry q (hs _ _))
def rIxL(K:FrG):R2:=λx y H Q=>∃p xs i v,x=.ref p/\y=.int i/\SqL K H p xs/\atI xs i=some v/\Q v H
def rIxT(K:FrG):R2:=λx y H Q=>∃p xs i v,x=.ref p/\y=.int i/\SqT K H p xs/\atI xs i=some v/\Q v H
def rIxS:R2:=λx y H Q=>∃z i c,x=.str z/\y=.int i/\z.length<=sizeLine/\atI z.cps.toList i=some c/\Q (.str ⟨#[c]⟩) H
theorem ix_list:IxR X (rIxL X.K):=by
 intro value zk z9 s σ H x y v u Q I rx ry h hs;obtain⟨p,xs,i,z,rfl,rfl,hq,he,q⟩:=h;cases rx;obtain⟨t,rfl⟩:=ry;obtain⟨its,r,pl,hz⟩:=I.list hq;obtain⟨j,h1,h2,h3,h4,h5⟩:=qbi he;obtain⟨w,ew,rw'⟩:=r.get h2;have hl:=r.length;have hn:=qa0;have fin:EP X z9 σ Q w s:=⟨z,H,I,rw',q⟩;by_cases h0:0<=i
 ·have hj:i.toNat=j:=by
   rw[seqIndex_of h0 h5]at h1;exact jd h1
  exact item_listR pl.isList h0 (by omega) (by rw[hj];simpa using ew) fin hs
 ·have hj:(i+(its.toArray.size:Int)).toNat=j:=by
   rw[seqIndex_neg (by omega) h4]at h1;rw[xf,<-hl];exact jd h1
  exact subscriptTail_builtinR (x:=w) pl.isList.typeIs slot_list_getitem.lookup
   (wpAny_getItem_list_neg (Q:=λr s'=>r=w/\EP X z9 σ Q r s') pl.isList (by omega) (by rw[xf]<;>omega) (by omega) (by rw[hj];simpa using ew) ⟨rfl,fin⟩) hs
theorem ix_tup:IxR X (rIxT X.K):=by
 intro value zk z9 s σ H x y v u Q I rx ry h hs;obtain⟨p,xs,i,z,rfl,rfl,hq,he,q⟩:=h;cases rx;obtain⟨t,rfl⟩:=ry;obtain⟨its,r,pl,hz⟩:=I.tuple hq;obtain⟨j,h1,h2,h3,h4,h5⟩:=qbi he;obtain⟨w,ew,rw'⟩:=r.get h2;have hl:=r.length;have hn:=qa0;have fin:EP X z9 σ Q w s:=⟨z,H,I,rw',q⟩;exact subscriptTail_builtinR (x:=w) pl.typeIs slot_tuple_getitem.lookup
  (getItem_tuple (j:=j) (Q:=λr s'=>r=w/\EP X z9 σ Q r s') pl (by omega) (by omega) (by rw[xf,<-hl];exact h1) (by simpa using ew) ⟨rfl,fin⟩) hs
theorem qsb:IxR X rIxS:=by
 intro value zk z9 s σ H x y v u Q I rx ry h hs;obtain⟨z,i,c,rfl,rfl,hz,he,q⟩:=h;obtain⟨t,rfl⟩:=rx;obtain⟨t',rfl⟩:=ry;obtain⟨j,h1,h2,h3,h4,h5⟩:=qbi he;have hl:z.cps.toList.length=z.length:=by simp[Str.length]
 rw[hl]at h1 h4 h5;have hn:=qa0;exact tail_any (typeIs_str s z t) slot_str_getitem.lookup (getItem_str (c:=c) (by have e1:decide (i< -(2^63:Int))=false:=decide_eq_false (by omega);have e2:decide (i≥2^63)=false:=decide_eq_false (by omega);rw[e1,e2,Bool.or_false]) (by rw[h1];simpa using h2) ⟨.str ⟨#[c]⟩,H,I.tok _,⟨_,rfl⟩,q⟩) hs
def rIx(K:FrG):R2:=λx y H Q=>rIxL K x y H Q∨rIxT K x y H Q∨rIxS x y H Q
theorem qsc:IxR X (rIx X.K):=ix_list.or (ix_tup.or qsb)
theorem qdn(its:List Value)(n j:Nat)(u:Value):Obj.mapSeq (·.setIfInBounds j u) {cls:=.type "list",data:=.seq its.toArray n}={cls:=.type "list",data:=.seq (its.set j u).toArray n}:=by simp[Obj.mapSeq]
theorem Inv.lst{z9:List (Addr×Obj)}{σ:St}{H:Hp}{s:Shared}{p:Addr}{xs:List V}(I:Inv X z9 σ H s)(h:H p=some (.lst xs)):
 ∃(its:List Value) (n:Nat),Vals xs its/\s.heap.get? p=some {cls:=.type "list",data:=.seq its.toArray n}/\xs.length<=sizeLine:=by
 obtain⟨z,its,n,r,e⟩:=I.hok p _ h;exact⟨its,n,r,e,z⟩
theorem Inv.lstUpd{z9:List (Addr×Obj)}{σ:St}{H:Hp}{s:Shared}{p:Addr}{xs ys:List V}{its its':List Value}{n n':Nat}{f:Obj->Obj}(I:Inv X z9 σ H s)(h:H p=some (.lst xs))
 (ho:s.heap.get? p=some {cls:=.type "list",data:=.seq its.toArray n}) (hf:f {cls:=.type "list",data:=.seq its.toArray n}={cls:=.type "list",data:=.seq its'.toArray n'}) (r:Vals ys its') (hz:ys.length<=sizeLine) (t:Nat):
 Inv X z9 σ (upd H p (.lst ys)) {s with heap:=s.heap.update p f,toks:=t}:=by
 have e:(s.heap.update p f).get? p=some {cls:=.type "list",data:=.seq its'.toArray n'}:=by rw[kq f ho (by rw[hf]<;>rfl),hf]
 refine I.write (x:=p) (e:=p) (by rw[h];trivial) (.inl rfl) (λb u hb q=>(k7 _ _ (Ne.symm hb)).trans q) ⟨_,e⟩ ?_;exact⟨hz,its',n',r,e⟩
def qfk:V->V->V->Hp->(Hp->Prop)->Prop:=λo i v H Q=>∃p xs k j,o=.ref p/\i=.int k/\H p=some (.lst xs)/\ixN xs.length k=some j/\Q (upd H p (.lst (xs.set j v)))
theorem set_list:PSet X qfk:=by
 intro z9 s σ H o i v ov iv u Q I ro ri rv h;obtain⟨p,xs,k,j,rfl,rfl,hp,hj,q⟩:=h;cases ro;obtain⟨t,rfl⟩:=ri;obtain⟨its,n,r,ho,hz⟩:=I.lst hp;obtain⟨h1,h2,h3,h4⟩:=qgq hj;have hl:=r.length;have hn:=qa0;have I':Inv X z9 σ (upd H p (.lst (xs.set j v))) {s with heap:=s.heap.update p (Obj.mapSeq (·.setIfInBounds j u))}:=
  I.lstUpd hp ho (qdn its n j u) (r.set rv j) (by rw[jw];exact hz) s.toks
 by_cases h0:0<=k
 ·have hk:k.toNat=j:=by
   rw[seqIndex_of h0 h4]at h1;exact jd h1
  exact PySem.W.ki_setAt ho h0 (by omega) (by rw[xf,<-hl];exact h4) (by rw[hk];exact⟨_,I',q⟩)
 ·have hk:(k+(its.toArray.size:Int)).toNat=j:=by
   rw[seqIndex_neg (by omega) h3]at h1;rw[xf,<-hl];exact jd h1
  exact PySem.W.ki_setBack ho (by omega) (by rw[xf,<-hl];exact h3) (by omega) (by rw[hk];exact⟨_,I',q⟩)
theorem q9h(lo hi:Option Int)(n:Nat):(sliceBounds lo hi none n).1=((HT.sIx n 0 lo:Nat):Int)/\(sliceBounds lo hi none n).2.1=((HT.sIx n n hi:Nat):Int)/\(sliceBounds lo hi none n).2.2=1:=by
 refine⟨?_,?_,rfl⟩
 ·cases lo with
  |none=>simp[sliceBounds,HT.sIx]
  | some i=>
   simp only[sliceBounds,HT.sIx,Option.getD_none,show(1:Int)>0 by decide,if_true];by_cases h:i<0
   ·simp only[h,if_true]<;>omega
   ·simp only[h,if_false]<;>omega
 ·cases hi with
  |none=>simp[sliceBounds,HT.sIx]
  | some i=>
   simp only[sliceBounds,HT.sIx,Option.getD_none,show(1:Int)>0 by decide,if_true];by_cases h:i<0
   ·simp only[h,if_true]<;>omega
   ·simp only[h,if_false]<;>omega
theorem q8k(its:List Value)(lo hi:Option Int):slicePick its.toArray lo hi none=((its.drop (HT.sIx its.length 0 lo)).take (HT.sIx its.length its.length hi-HT.sIx its.length 0 lo)).toArray:=by obtain⟨h1,h2,h3⟩:=q9h lo hi its.toArray.size;unfold slicePick;rw[h1,h2,h3];simp only[sliceRange_one,pick_run,List.size_toArray]<;>rfl
def rSlL(K:FrG):V->Option Int->Option Int->Hp->VK->Prop:=λx lo hi H Q=>∃a xs,x=.ref a/\SqL K H a xs/\∀p,H p=none->Q (.ref p) (upd H p (.lst (cutV xs lo hi)))
theorem sl_list:SlR X (rSlL X.K):=by intro z9 s σ H x v vl vu lo hi sl Q I rx hs pl pu h;obtain⟨a,xs,rfl,hx,q⟩:=h;cases rx;obtain⟨its,r,ht,hz⟩:=I.list hx;have zd:=r.length;refine⟨"list",_,slot_list_getitem.lookup,ht.isList.typeIs,?_⟩;refine wpAny_getItem_list_slice ht.isList hs pl pu .none (by simp) ?_ (by rw[List.size_toArray]<;>omega);rw[q8k,<-zd];refine⟨.ref s.heap.objs.size,_,I.laid (t':=s.toks) (o:=.lst (cutV xs lo hi)) (λb ob q=>jh _ q) (jg _) ?_,rfl,q _ (I.hok.fresh (jg _))⟩;exact⟨x9 (q7o xs lo hi) hz,_,0,(r.drop (HT.sIx xs.length 0 lo)).take (HT.sIx xs.length xs.length hi-HT.sIx xs.length 0 lo),jr _ rfl⟩
theorem qae:q4w X (.builtin "len") (λxs H Q=>∃p ys,xs=[.ref p]/\(SqL X.K H p ys∨SqT X.K H p ys)/\Q (.int ys.length) H):=by
 intro z9 s σ H xs us Q I r h;obtain⟨p,ys,rfl,hq,q⟩:=h;obtain⟨u,rfl,rx⟩:=vals1 r;cases rx;have hn:=qa0;rcases hq with hq|hq
 ·obtain⟨its,r',pl,hz⟩:=I.list hq;have zd:=r'.length;exact Calls.call_len_list pl.isList (by simp only[List.size_toArray]<;>omega) ⟨.int ys.length,H,I.tok _,⟨s.toks+1,by rw[xf,zd]⟩,q⟩
 ·obtain⟨its,r',pl,hz⟩:=I.tuple hq;have zd:=r'.length;exact len_tuple pl (by simp only[List.size_toArray]<;>omega) ⟨.int ys.length,H,I.tok _,⟨s.toks+1,by rw[xf,zd]⟩,q⟩
theorem qad:q4w X (.type "list") (λxs H Q=>∃p ys,xs=[.ref p]/\(SqL X.K H p ys∨SqT X.K H p ys)/\∀l,H l=none->Q (.ref l) (upd H l (.lst ys))):=by
 intro z9 s σ H xs us Q I r h;obtain⟨p,ys,rfl,hq,q⟩:=h;obtain⟨u,rfl,rx⟩:=vals1 r;cases rx;have fin:∀(its:List Value),Vals ys its->ys.length<=sizeLine->∀(h':Heap) (c':Nat),(∀b o',s.heap.get? b=some o'->h'.get? b=some o')->
  h'.get? s.heap.objs.size=some {cls:=.type "list",dict:=none,data:=.seq its.toArray c',slots:=#[]}->EP X z9 σ Q (.ref s.heap.objs.size) {s with heap:=h'}:=λits r' hz h' c' kp e=>
  ⟨.ref s.heap.objs.size,_,I.laid (t':=s.toks) kp (jg _) (show ObjOk X.prog X.w _ h' _ (.lst ys)from⟨hz,its,c',r',e⟩),rfl,q _ (I.hok.fresh (jg _))⟩
 rcases hq with hq|hq
 ·obtain⟨its,r',pl,hz⟩:=I.list hq;have zd:=r'.length;obtain⟨o,ho,hc,n,hd⟩:=pl.isList;exact call_list_seq p (.inl rfl) ho hc hd (λh' c' kp e=>fin its r' hz h' c' kp e) (by simp only[List.size_toArray]<;>omega)
 ·obtain⟨its,r',pl,hz⟩:=I.tuple hq;have zd:=r'.length;obtain⟨o,ho,hc,n,hd⟩:=pl;exact call_list_seq p (.inr rfl) ho hc hd (λh' c' kp e=>fin its r' hz h' c' kp e) (by simp only[List.size_toArray]<;>omega)
theorem q98:q4w X (.type "tuple") (λxs H Q=>∃p ys,xs=[.ref p]/\((SqL X.K H p ys/\∀l,H l=none->Q (.ref l) (upd H l (.tup ys)))∨(SqT X.K H p ys/\Q (.ref p) H))):=by
 intro z9 s σ H xs us Q I r h;obtain⟨p,ys,rfl,h⟩:=h;obtain⟨u,rfl,rx⟩:=vals1 r;cases rx;rcases h with⟨hq,q⟩|⟨hq,q⟩
 ·obtain⟨its,r',pl,hz⟩:=I.list hq;have zd:=r'.length;refine call_tuple_list pl.isList (λh' kp=>?_) (by simp only[List.size_toArray]<;>omega);have I1:Inv X z9 σ H {s with heap:=h'}:=I.kept (t':=s.toks) kp;have I2:Inv X z9 σ (upd H h'.objs.size (.tup ys)) {s with heap:=h'.push {cls:=.type "tuple",data:=.seq its.toArray}}:=
   I1.laid (t':=s.toks) (λb o e=>jh _ e) (jg _) (show ObjOk X.prog X.w _ _ _ (.tup ys)from⟨hz,its,r',TupN.new _ _⟩)
  exact⟨.ref h'.objs.size,_,I2,rfl,q _ (I1.hok.fresh (jg _))⟩
 ·obtain⟨its,r',pl,hz⟩:=I.tuple hq;exact call_tuple_same pl ⟨.ref p,H,I,rfl,q⟩
def tyV(K:FrG)(T:String)(x:V)(H:Hp):Prop:=match x with
 |.str _=>T="str"
 |.int _=>T="int"
 |.ref p=>(T="list"/\∃xs,SqL K H p xs)∨(T="tuple"/\∃o,K.lookup p=some o/\o.cls=.type "tuple"/\o.dict=none)∨
  (T="dict"/\((∃kvs,H p=some (.dK kvs))∨∃kvs,H p=some (.dT kvs)))∨(T="set"/\∃S n,H p=some (.set S n))
 |_=>False
theorem qp2{z9:List (Addr×Obj)}{σ:St}{H:Hp}{s:Shared}{T:String}{x:V}{v:Value}(I:Inv X z9 σ H s)(r:RelV x v)(ty:tyV X.K T x H):
 s.TypeIs v T/\∀a,v=.ref a->∃ob,s.heap.get? a=some ob/\ob.dict=none:=by
 cases x with
 | str z=>
  obtain⟨t,rfl⟩:=r;cases(show T="str" from ty);exact⟨typeIs_str s z t,λ_ e=>nomatch e⟩
 | int i=>
  obtain⟨t,rfl⟩:=r;cases(show T="int" from ty);exact⟨typeIs_int s i t,λ_ e=>nomatch e⟩
 | ref p=>
  cases r;rcases ty with⟨rfl,xs,hq⟩|⟨rfl,o,hk,hc,hd⟩|⟨rfl,hk⟩|⟨rfl,S,n,hk⟩
  ·obtain⟨its,_,pl,_⟩:=I.list hq;refine⟨pl.isList.typeIs,λa e=>?_⟩;cases e;obtain⟨o,n,e,c,hd,_⟩:=pl;exact⟨o,e,hd⟩
  ·refine⟨⟨o,I.kIn p o hk,hc⟩,λa e=>?_⟩;cases e;exact⟨o,I.kIn _ o hk,hd⟩
  ·have z:∃o,s.heap.get? p=some o/\o.ExactDict:=by
    rcases hk with⟨kvs,hk⟩|⟨kvs,hk⟩
    ·obtain⟨_,_,_,_,o,_,e,ex,_⟩:=I.hok p _ hk;exact⟨o,e,ex⟩
    ·obtain⟨_,_,_,_,o,_,_,e,ex,_⟩:=I.hok p _ hk;exact⟨o,e,ex⟩
   obtain⟨o,e,ex⟩:=z;refine⟨⟨o,e,ex.1⟩,λa e2=>?_⟩;cases e2;exact⟨o,e,ex.2.1⟩
  ·obtain⟨o,_,_,_,e,ex,_⟩:=I.hok p _ hk;refine⟨⟨o,e,ex.1⟩,λa e2=>?_⟩;cases e2;exact⟨o,e,ex.2.1⟩
 |_=>exact False.elim ty
def tBM(K:FrG)(T:String)(r:V->List V->Hp->VK->Prop)(to:TE)(t:TA):TE:=λσ H Q=>to σ H λx H1=>tyV K T x H1/\t σ H1 λxs H2=>r x xs H2 Q
variable{o e:Expr}{es:List Expr}{to:TE}{t:TA}{name:Str}{zv zi:Pos}{T id:String}{r:V->List V->Hp->VK->Prop}
theorem qb2(pa:PlainAttrs T)(slot:Slot T name id)(hty:typeOf (.builtin id)=pure (.type "method_descriptor"))(hm:MtR X id r)(ho:PE X o to)(ha:PA X (e::es) t)
 (hbase:attributeBase o name X.env (eval o X.env)=eval o X.env:=by rfl)
 (hfew:((backTo zi (starEach (e::es) X.env)).all (λx=>!x.1)&&(backToKw zi (keywordEach [] X.env)).all (λx=>x.1.isSome)
   &&decide ((e::es).length+([]:List Keyword).length+(if([]:List Keyword).isEmpty then 0 else 1)<30))=true:=by rfl)
 (hline:(zv.endLine==zi.line)=true:=by rfl) (hs:starEach (e::es) X.env=(false,eval e X.env)::starEach es X.env:=by rfl) (hplain:(backTo zi (starEach es X.env)).any (·.1)=false:=by rfl):
 PE X (.Call (.Attribute o name zv) (e::es) [] zi) (tBM X.K T r to t):=by
 intro z9 s σ H Q I h;refine wpAny_Call_method_late hbase hfew hline rfl (thn (ho z9 s σ H _ I h) λv s1 ⟨x,H1,I1,r1,ty,q1⟩=>?_);obtain⟨h1,h2⟩:=qp2 I1 r1 ty;refine⟨T,id,pa,slot,hty,h1,h2,?_⟩;have hA:=ha zi z9 s1 σ H1 _ I1 q1;rw[hs]at hA ⊢;refine Calls.callWith_builtin (by show(false||(backTo zi (starEach es X.env)).any (·.1))=false;rw[hplain]<;>rfl) (Calls.evalArgs_plain ?_);exact thn hA λus s2 ⟨vs,H2,I2,r2,q2⟩=>hm z9 s2 σ H2 x vs v us Q I2 r1 r2 q2
end
def MtM(X:Cx)(id:String)(r:V->List V->Hp->VK->Prop):Prop:=
 ∀(z9:List (Addr×Obj)) (s:Shared) (σ:St) (H:Hp) (x:V) (xs:List V) (v:Value) (us:List Value) (Q:VK),Inv X z9 σ H s->RelV x v->Vals xs us->r x xs H Q->
   wpAny (model X.prog X.w) X.A (call (.builtin id) (v::us)) (EP X z9 σ Q) X.xe s
theorem Vals.one:∀{x:V} {us:List Value},Vals [x] us->∃u,us=[u]/\RelV x u
 |_,_,.cons r .nil=>⟨_,rfl,r⟩
theorem Vals.rep{xs:List V}{us:List Value}(h:Vals xs us):∀k:Nat,Vals (List.replicate k xs).flatten (List.replicate k us).flatten
 |0=>.nil
 | k+1=>by rw[List.replicate_succ,List.replicate_succ,List.flatten_cons,List.flatten_cons];exact Vals.append h (Vals.rep h k)
theorem foldl_rep(its:List Value):∀(k:Nat) (acc:List Value),
 List.foldl (λx1 x2=>x1++x2) acc.toArray (List.replicate k its.toArray)=(acc++(List.replicate k its).flatten).toArray
 |0,acc=>by simp
 | k+1,acc=>by
  have e:acc.toArray++its.toArray=(acc++its).toArray:=by simp
  have e2:(acc++its)++(List.replicate k its).flatten=acc++(List.replicate (k+1) its).flatten:=by rw[List.replicate_succ,List.flatten_cons,List.append_assoc]
  rw[<-e2,<-foldl_rep its k (acc++its),<-e,List.replicate_succ,List.foldl_cons]
section
variable{X:Cx}{z9:List (Addr×Obj)}{σ:St}{H:Hp}{s:Shared}{l b:Addr}{xs ys zs:List V}
theorem Inv.lset{its its':List Value}{n:Nat}{f:Array Value->Array Value}{t':Nat}(I:Inv X z9 σ H s)(hH:H l=some (.lst xs))
 (e:s.heap.get? l=some {cls:=.type "list",data:=.seq its.toArray n}) (hf:f its.toArray=its'.toArray) (hv:Vals ys its') (hz:ys.length<=sizeLine):
 Inv X z9 σ (upd H l (.lst ys)) {s with heap:=s.heap.update l (Obj.mapSeq f),toks:=t'}:=by
 have q:=PySem.IsL.update e f;rw[hf]at q;refine I.write (x:=l) (e:=l) (by rw[hH];exact trivial) (.inl rfl) (λb' u hb hu=>(k7 s.heap (Obj.mapSeq f) (Ne.symm hb)).trans hu) ⟨_,q⟩ ?_;exact⟨hz,its',_,hv,q⟩
theorem Inv.lnew{its:List Value}{t':Nat}(I:Inv X z9 σ H s)(hv:Vals ys its)(hz:ys.length<=sizeLine):
 Inv X z9 σ (upd H s.heap.objs.size (.lst ys)) {s with heap:=s.heap.push {cls:=.type "list",data:=.seq its.toArray},toks:=t'}:=
 I.laid (λ_ _ q=>jh _ q) (jg _) ⟨hz,its,0,hv,jr _ rfl⟩
theorem Inv.fresh(I:Inv X z9 σ H s):H s.heap.objs.size=none:=I.hok.fresh (jg _)
theorem Inv.lstM(I:Inv X z9 σ H s)(hH:H l=some (.lst xs)):xs.length<=sizeLine/\∃(its:List Value) (n:Nat),Vals xs its/\xs.length=its.length/\s.heap.get? l=some {cls:=.type "list",data:=.seq its.toArray n}:=by obtain⟨z,its,n,r,e⟩:=I.hok l _ hH;exact⟨z,its,n,r,r.length,e⟩
theorem qc6{n:Nat}(h:n<=sizeLine):Builtin.List.listTooLong n=false:=by unfold Builtin.List.listTooLong;exact decide_eq_false (by omega)
end
section
variable{X:Cx}
def q8o:V->List V->Hp->VK->Prop:=λx vs H Q=>∃l xs y,x=.ref l/\vs=[y]/\H l=some (.lst xs)/\xs.length<sizeLine/\Q .non (upd H l (.lst (xs++[y])))
theorem q3x:MtM X "list.append" q8o:=by intro z9 s σ H x vs v us Q I rx rv h;obtain⟨l,xs,y,rfl,rfl,hH,hz,q⟩:=h;cases rx;obtain⟨u,rfl,ru⟩:=rv.one;obtain⟨z,its,n,r,hl,e⟩:=I.lstM hH;refine call_meets F.slot_list_append ⟨_,e,rfl⟩ F.entry_list_append (F.args_list_append_2 _ _) (PySem.list_append l its.toArray n u (by rw[xf];omega)) ⟨e,?_⟩;refine⟨.non,_,I.lset (its':=its++[u]) hH e (by simp) (r.append (.cons ru .nil)) ?_,rfl,q⟩;rw[jl,List.length_singleton];omega
def qfm:V->List V->Hp->VK->Prop:=λx vs H Q=>∃l b xs zs,x=.ref l/\vs=[.ref b]/\H l=some (.lst xs)/\H b=some (.lst zs)/\xs.length+zs.length<=sizeLine/\Q .non (upd H l (.lst (xs++zs)))
theorem qg6:MtM X "list.extend" qfm:=by
 intro z9 s σ H x vs v us Q I rx rv h;obtain⟨l,b,xs,zs,rfl,rfl,hH,hB,hz,q⟩:=h;cases rx;obtain⟨u,rfl,ru⟩:=rv.one;cases ru;obtain⟨z,its,n,r,hl,e⟩:=I.lstM hH;obtain⟨z2,its2,n2,r2,hl2,e2⟩:=I.lstM hB;have hsz:its.toArray.size+its2.toArray.size<=sizeLine:=by rw[xf,xf];omega
 have hlong:¬(!its.toArray.isEmpty&&Builtin.List.listTooLong (its.toArray.size+its2.toArray.size))=true:=by rw[qc6 hsz,Bool.and_false];exact Bool.false_ne_true
 refine call_meets F.slot_list_extend ⟨_,e,rfl⟩ F.entry_list_extend (F.args_list_extend_2 _ _)
  (AutoSeq1.list_extend_list_list_0 l its.toArray n b its2.toArray n2 hlong (by rw[xf];omega) (by omega)) ⟨e,e2,?_⟩
 refine⟨.non,_,I.lset (its':=its++its2) hH e (by simp) (r.append r2) ?_,rfl,q⟩;rw[jl];omega
def rRep:R2:=λx y H Q=>∃l k xs,x=.ref l/\y=.int k/\H l=some (.lst xs)/\ -(2^63)<=k/\k<2^63/\xs.length*k.toNat<=sizeLine/\
 ∀p,H p=none->Q (.ref p) (upd H p (.lst (List.replicate k.toNat xs).flatten))
theorem len_rep{α:Type}(xs:List α)(k:Nat):(List.replicate k xs).flatten.length=k*xs.length:=by
 induction k with
 |zero=>simp
 |succ k ih=>rw[List.replicate_succ,List.flatten_cons,jl,ih,Nat.succ_mul,Nat.add_comm]
theorem qc1:OpR X (binaryOp .Mult) rRep:=by
 intro z9 s σ H x y v u Q I rx ry h;obtain⟨l,k,xs,rfl,rfl,hH,h1,h2,hz,q⟩:=h;cases rx;obtain⟨t,rfl⟩:=ry;obtain⟨z,its,n,r,hl,e⟩:=I.lstM hH;have zd:its.toArray.size*k.toNat<=sizeLine:=by rw[xf,<-hl];exact hz
 have hcap:¬its.toArray.size*k.toNat>(2^63-1) / 8:=by
  have:(sizeLine:Nat)<=(2^63-1) / 8:=by decide
  omega
 have hfit:¬(!Builtin.List.listFitsIndex k)=true:=by rw[fitsIndex_both h1 h2];exact Bool.false_ne_true
 have hlong:¬Builtin.List.listTooLong (its.toArray.size*k.toNat)=true:=by rw[qc6 zd];exact Bool.false_ne_true
 have hnew:List.foldl (λx1 x2=>x1++x2) #[] (List.replicate (if its.toArray.isEmpty=true then 0 else k.toNat) its.toArray)=(List.replicate k.toNat its).flatten.toArray:=by
  have f0:∀m:Nat,List.foldl (λx1 x2=>x1++x2) #[] (List.replicate m its.toArray)=(List.replicate m its).flatten.toArray:=λm=>by have:=foldl_rep its m [];rw[List.nil_append]at this;exact this
  rw[f0];cases its with
  |nil=>simp
  |cons a r'=>rw[if_neg (by simp)]
 refine wpAny_binaryOp_repeat_ref (T:="list") (U:="int") (by decide) ⟨_,e,rfl⟩ (λs'=>typeIs_int s' k t) noFill_list_mul F.fills_int_mul F.slot_int_rmul repeat_list F.slot_int_index.lookup
  (call_meets F.slot_int_rmul (typeIs_int s k t) F.entry_int_rmul (F.args_int_rmul_2 _ _) (int___rmul___int_list k t l its.toArray n)
    ⟨e,rfl,⟨_,e,rfl⟩,call_meets F.slot_list_mul ⟨_,e,rfl⟩ F.entry_list_mul (F.args_list_mul_2 _ _) (AutoListH.list___mul___list_int_3 l its.toArray n k t hfit hcap hlong) ⟨e,?_⟩⟩)
 rw[hnew];exact⟨.ref _,_,I.lnew (t':=s.toks) (r.rep k.toNat) (by rw[len_rep,Nat.mul_comm];exact hz),rfl,q _ I.fresh⟩
end
section
variable{prog:Program}{w:World}{A:Around}{E:Value->Shared->Prop}{s:Shared}
end
section
variable{X:Cx}
end
end L2
namespace Att
open PySem PySem.W PySem.Calls PyProof.Rows
theorem q7h{P:Params}{h:Heap}:∀(ns:List Int) (vs:List Value),WellAll P h vs (ns.map WData.int)->IntsAre vs ns:=by
 intro ns;induction ns with
 | nil=>
  intro vs w;rw[List.map_nil]at w;cases w;exact .nil
 | cons n ns ih=>
  intro vs w;rw[xk]at w;cases w with
  | cons a b=>
   cases a;exact .cons _ _ (ih _ b)
theorem qem{l:OpenLaw}{n:Nat}(hn:l.most=some n){P:Params}{h:Heap}{args:List WData}{vals:List Value}
 (hpre:l.row.toRowW.claim.pre args=true) (hwl:WellAll P h vals args):
 ∃a vs ns,vals=[Value.ref a]/\args=[WData.list (ns.map WData.int)]/\h.get? a=some {cls:=.type "list",data:=.seq vs.toArray}/\IntsAre vs ns/\ns.length<=n:=by
 have hsh:WShape.hasAll [] args [.list .int]=true:=(pre_splitW hpre).1;have hc:l.pre.holds [] {args:=args}=true:=(pre_splitW hpre).2;obtain⟨d,r,rfl,h1,h2⟩:=hasAllW_cons hsh;obtain rfl:=hasAllW_nil h2;obtain⟨xs,rfl,h3⟩:=hasW_list h1;obtain⟨ns,rfl⟩:=items_int h3;have zd:ns.length<=n:=by
  unfold OpenLaw.pre at hc;have h4:(WTm.not (.lt (.lit (.int (n:Int))) (.len (.arg 0)))).holds [] {args:=[.list (ns.map .int)]}=true:=by have h4:=(holds_andW hc).1;rw[hn]at h4;exact h4
  have h5:=condW_of h4 (w_not (w_lt w_lit (w_len_list (w_arg rfl))));rw[j9]at h5;refine Nat.le_of_not_lt λq=>?_;have q':(n:Int)<((ns.length:Nat):Int):=by omega
  first
   |(rw[decide_eq_true q']at h5;exact absurd h5 (by decide))
   |(simp at h5;omega)
 cases hwl with
 | cons w1 w2=>
  cases w2;cases w1 with
  |list ho hall=>exact⟨_,_,ns,rfl,rfl,ho,q7h ns _ hall,zd⟩
theorem qfr(l:OpenLaw)(args:List WData):l.row.toRowW.claim.post args (.bool true) args=true:=
 postW_of (r:=l.row.toRowW) (X:=(true==true))
  (show WShape.has [] (.bool true) .bool=true by first|rfl|decide|simp[WShape.has,WShape.arms,WShape.armsAll])
  (show(WTm.eq .res (.lit (.bool true))).value [] {args:=args,res:=some (.bool true),after:=args}=some (.bool (true==true))from w_eq_bool (w_res rfl) w_lit) rfl
theorem attach_call{l:OpenLaw}{n:Nat}{q:Program}{loose:List Str}{XP:(Str->Option Value)->Heap->Prop}{YP:World->Heap->Prop}{d:DefRec}
 (hn:l.most=some n) (hdf:d.params.defaults=[])
 (call:∀(w:World) (s₀ s₁:Shared) (mg mb:Str->Option Value) (fa:Addr) (o:Obj) (pm cd doc:Value) (a:Addr) (vs:List Value) (ns:List Int),
   Ground q loose [] XP w s₀ mg mb s₁.heap->YP w s₁.heap->
   s₁.heap.get? fa=some o->o.data=.func (docDef d.name d.params d.body d.scope pm cd doc)->s₁.heap.CodeRec cd d.name->mg d.name=some (.ref fa)->
   s₁.heap.get? a=some {cls:=.type "list",data:=.seq vs.toArray}->IntsAre vs ns->ns.length<=n->s₁.gens=#[]->
   codeAny (model l.prog w) callerA (.call (.ref fa) ⟨[.ref a],[]⟩) (λr s'=>r=.ok (.ret (.bool true))/\OldK s₁.heap s'.heap/\s'.os=s₁.os/\AllBare s'.gens) s₁):
 WalkO q loose XP YP l.row.toRowW d [] (λf vs=>PySem.call f vs):=by
 intro w s₀ s₁ mg mb G Y fa o pm cd doc dV kV ho hd hcd hD hmg hg args vals as hpre hlay hrd hwl hlo;obtain rfl:dV=.none:=Dflts.none hD hdf;obtain rfl:kV=.none:=Dflts.noKw hD;obtain⟨a,vs,ns,rfl,rfl,hobj,j6,zd⟩:=qem hn hpre hwl;refine enter_call (codeAny_mono (call w s₀ s₁ mg mb fa o pm cd doc a vs ns G Y ho (fd_plain hd) hcd hmg hobj j6 zd hg) λr s' hq=>?_);obtain⟨rfl,h2,h3,h4⟩:=hq;exact⟨.inl ⟨.bool true,.bool true,[],rfl,λ_=>rfl,.bool true,qfr l _,λ_=>⟨List.Pairwise.nil,λ_ hm=>(nomatch hm)⟩⟩,h2,h3,h4⟩
section
variable{prog:Program}{w:World}{A:Around}{E:Value->Shared->Prop}{s:Shared}{K:Frag}
end
end Att
namespace L2
open PySem PySem.Spec PyProof.Rows
theorem q9c:∀{vs:List Value} {ns:List Int},IntsAre vs ns->Vals (ns.map V.int) vs
 |_,_,.nil=>.nil
 |_,_,.cons n t h=>.cons ⟨t,rfl⟩ (q9c h)
def Only(H:Hp):Prop:=∀b,H b=none∨∃o xs,H b=some (.frz o (.lst xs))
theorem qj5{P:Program}{w:World}{K:FrG}{mg mb:Str->Option Value}{CX:CXT}{k:Nat}{fa a:Addr}{fd:FuncData}{x:Str}{sp:Sp}{s₁:Shared}{vs:List Value}{ns:List Int}
 (KX:K.In s₁.heap) (hns:s₁.heap.Ns mainGlobals mg) (hb:s₁.heap.Ns builtinsNs mb) (hbb:∀x:Str,x≠"__name__"->mb x=bootBuiltins x) (hlim:s₁.heap.NoLimit) (hg:s₁.gens=#[])
 (ha:s₁.heap.get? a=some {cls:=.type "list",data:=.seq vs.toArray}) (hi:IntsAre vs ns) (hl:ns.length<=sizeLine) (hr:Room k callerA)
 (F:∀base:Heap,K.In base->base.Ns mainGlobals mg->FnOk P w K mg base CX k fa fd [x] sp) (hbind:∀(s:Shared) (u:Value),BindsTo s fd ⟨[u],[]⟩ [(x,u)])
 (hsp:∀H:Hp,Only H->SqL K H a (ns.map V.int)->sp [.ref a] H (λv _=>v=.bl true) λ_ _ _=>False)
 (hCX:∀H e s',CX [] H s₁ (λ_ _ _=>False) e s'->False):
 codeAny (model P w) callerA (.call (.ref fa) ⟨[.ref a],[]⟩) (λr s'=>r=.ok (.ret (.bool true))/\OldK s₁.heap s'.heap/\s'.os=s₁.os/\AllBare s'.gens) s₁:=by
 have rv:=q9c hi;have lenV:=hi.length
 -- from an abstract heap in which nothing but the script may be tracked
 have core:∀H:Hp,Only H->SqL K H a (ns.map V.int)->HOk P w H s₁.heap->(∀b,H b≠none->b=a)->(H a≠none->K.lookup a=none)->
  codeAny (model P w) callerA (.call (.ref fa) ⟨[.ref a],[]⟩) (λr s'=>r=.ok (.ret (.bool true))/\OldK s₁.heap s'.heap/\s'.os=s₁.os/\AllBare s'.gens) s₁:=by
  intro H hO hS hok hA hK;have base_of:∀{b:Addr} {o:Obj},s₁.heap.get? b=some o->H b=none->(hidT s₁.heap H).get? b=some o:=λe n=>qjb e n;have noA:∀{b:Addr} {o:Obj} {es:Array DictEntry} {ep:Nat},s₁.heap.get? b=some o->o.data=.dict es ep->H b=none:=λ{b o es ep} e d=>by
   cases q:H b with
   |none=>rfl
   | some u=>
    have e':b=a:=hA b (by rw[q];simp);subst e';rw[ha]at e;cases e;have d':Data.seq vs.toArray _=Data.dict es ep:=d;cases d'
  have nsK:∀{b:Addr} {m:Str->Option Value},s₁.heap.Ns b m->(hidT s₁.heap H).Ns b m:=λ{b m} ⟨o,es,ep,e,d,r⟩=>⟨o,es,ep,base_of e (noA e d),d,r⟩;have hKb:K.In (hidT s₁.heap H):=λb o e=>base_of (KX b o e) (by
   cases q:H b with
   |none=>rfl
   | some u=>
    have e':b=a:=hA b (by rw[q];simp);subst e';rw[hK (by rw[q];simp)]at e;cases e)
  have hM:Mod K mg (hidT s₁.heap H):=⟨hKb,nsK hns,⟨mb,nsK hb,hbb⟩,let ⟨mc,h1,h2⟩:=hlim;⟨mc,nsK h1,h2⟩⟩;have e0:Env0 P w K mg (hidT s₁.heap H) callerA [] s₁ H:=⟨rfl,hM,λb o e=>qms e,Nat.le_of_eq (qgx _ _),trivial,λb hb=>absurd (show b∈([]:List Addr)from hb) (by simp),hok,.of_eq hg⟩;refine codeAny_mono ((F _ hKb (nsK hns)).run callerA [] s₁ H ⟨[.ref a],[]⟩ [.ref a] [.ref a] _ _ hr e0 (hbind s₁ (.ref a)) (.cons rfl .nil) (hsp H hO hS)) λr s' h=>?_;cases r with
  |error e=>exact(hCX H e s' h).elim
  | ok fl=>
   cases fl with
   |next=>exact False.elim h
   |brk=>exact False.elim h
   |cont=>exact False.elim h
   | ret u=>
    obtain⟨v,H',os,bare,un,hok',r',q⟩:=h;have q':v=.bl true:=q;subst q';obtain rfl:u=Value.bool true:=r';refine⟨rfl,OldK.of_keep λb o e=>?_,os,bare⟩;cases q:H b with
    |none=>exact un.keep b o e q (by intro z;exact absurd (show b∈([]:List Addr)from z) (by simp)) (by simp)
    | some u=>
     rcases hO b with z|⟨ob,xs,z⟩
     ·rw[q]at z;cases z
     ·have z2:=un.frzs b ob _ z;obtain⟨e1,_⟩:=hok b _ z;obtain⟨e2,_⟩:=hok' b _ z2;rw[e]at e1;cases e1;exact e2
 cases hk:K.lookup a with
 | some o=>
  -- the script is one of the module's own objects
  have e:=KX a o hk;rw[ha]at e;cases e;refine core (λ_=>none) (λ_=>.inl rfl) (.inr ⟨_,vs.toArray,_,hk,rfl,rfl,rfl,by rw[xf,lenV];exact hl,by simpa using rv⟩) (λb u z=>by have z':(none:Option HO)=some u:=z;cases z') (λb z=>absurd rfl z) λz=>absurd rfl z
 | none=>
  refine core (λb=>if b=a then some (.frz {cls:=.type "list",data:=.seq vs.toArray} (.lst (ns.map V.int)))else none) (λb=>?_) (.inl (.inr ⟨{cls:=.type "list",data:=.seq vs.toArray},if_pos rfl⟩)) (λb u z=>?_) (λb z=>?_) λ_=>hk
  ·by_cases hb:b=a
   ·exact .inr ⟨_,_,if_pos hb⟩
   ·exact .inl (if_neg hb)
  ·by_cases hb:b=a
   ·have z':=(if_pos hb).symm.trans z;cases z';subst hb;exact⟨ha,by rw[j9];exact hl,vs,_,rv,ha⟩
   ·have z':=(if_neg hb).symm.trans z;cases z'
  ·by_cases hb:b=a
   ·exact hb
   ·exact absurd (if_neg hb) z
theorem walk_of{l:PySem.W.OpenLaw}{n k:Nat}{q:Program}{loose:List Str}{XP:(Str->Option Value)->Heap->Prop}{YP:World->Heap->Prop}{d:DefRec}{K:Params->PySem.W.Frag}{CX:World->CXT}{sp:World->Sp}{x:Str}
 (hn:l.most=some n) (hn2:n<=sizeLine) (hdf:d.params.defaults=[]) (hr:Room k callerA)
 (hY:∀(w:World) (h:Heap),YP w h->(K w.params).In h)
 (F:∀(w:World) (mg:Str->Option Value) (fa:Addr) (h:Heap),(K w.params).In h->h.Ns mainGlobals mg->mg d.name=some (.ref fa)->
   ∃fd:FuncData,(∀(s:Shared) (u:Value),BindsTo s fd ⟨[u],[]⟩ [(x,u)])/\
    ∀base:Heap,(K w.params).In base->base.Ns mainGlobals mg->FnOk l.prog w (K w.params) mg base (CX w) k fa fd [x] (sp w))
 (hsp:∀(w:World) (H:Hp) (a:Addr) (ns:List Int),ns.length<=n->Only H->SqL (K w.params) H a (ns.map V.int)->sp w [.ref a] H (λv _=>v=.bl true) λ_ _ _=>False)
 (hCX:∀(w:World) (H:Hp) (s:Shared) (e:Value) (s':Shared),CX w [] H s (λ_ _ _=>False) e s'->False):
 PySem.W.WalkO q loose XP YP l.row.toRowW d [] (λf vs=>PySem.call f vs):=by
 refine Att.attach_call hn hdf λw s₀ s₁ mg mb fa o pm cd doc a vs ns G Y ho hd hcd hmg hobj j6 zd hg=>?_;have KX:=hY w _ Y;obtain⟨fd,hb,hF⟩:=F w mg fa _ KX G.T.g hmg;exact qj5 KX G.T.g G.T.b G.T.builtins G.T.nolimit hg hobj j6 (x9 zd hn2) hr hF hb (λH hO hS=>hsp w H a ns zd hO hS) λH e s'=>hCX w H s₁ e s'
def inClass(s:Stmt)(j:Nat):Stmt:=match s with
 |.ClassDef _ _ _ body _ _ _ _ _ _ _=>body.getD j (.Pass ⟨0,0,0,0⟩)
 |_=>.Pass ⟨0,0,0,0⟩
def q0r(s:Stmt):Arguments:=match s with
 |.FunctionDef _ a _ _ _ _ _ _ _ _=>a
 |_=>{posonlyargs:=[],args:=[],vararg:=none,kwonlyargs:=[],kw_defaults:=[],kwarg:=none,defaults:=[]}
def q0p(s:Stmt):List Stmt:=match s with
 |.FunctionDef _ _ b _ _ _ _ _ _ _=>b
 |_=>[]
def q04(s:Stmt):Scope:=match s with
 |.FunctionDef _ _ _ _ _ _ sc _ _ _=>sc
 |_=>{kind:=.function,names:=[],isGenerator:=false,isCoroutine:=false}
abbrev CX0:CXT:=λ_ _ _ _ _ _=>False
abbrev E0:XK:=λ_ _ _=>False
theorem q1f{X:Cx}:q6i CX0 X E0:=λ_ _ _ _ _ _ _ h=>h.elim
structure Fun(K:FrG)(x qual:Str)(st:Stmt)(f:Addr)(fd:FuncData):Prop where
 ex:∃(oc:Value) (od:Option Addr) (kV doc pm:Value) (an:Option Addr) (cdv ct:Value) (osl:Array (Option Value)),
  fd=PySem.W.fnOf x qual (q0r st) (q0p st) (q04 st) .none kV doc pm an cdv ct/\K.lookup f=some ⟨oc,od,.func fd,osl⟩/\PySem.W.codeIn K cdv qual=true
 kp:PySem.W.keepIn K (.ref f)=true
section
variable{P:Program}{w:World}{K:FrG}{mg:Str->Option Value}{base:Heap}
theorem Fun.ok{x qual:Str}{st:Stmt}{f:Addr}{fd:FuncData}{N ps:List Str}{k:Nat}{sp:Sp}(F:Fun K x qual st f fd)(S:q0q N ps (q04 st))(len:∀vs H Q E,sp vs H Q E->vs.length=ps.length)
 (zp:∀(cdv:Value) (A:Around) (outer:List Env) (s:Shared) (H:Hp) (vs:List V) (Q:VK) (E:XK),Room k (A.deeper (envOfC qual (q04 st) s.heap.objs.size f cdv))->sp vs H Q E->
   ∃t,PSs (cxOf CX0 P w K mg base N qual (q04 st) f cdv A outer s H E).nox (q0p st) t/\t {nx:=λ_ H'=>Q .non H',rt:=Q} (start N vs) H):FnOk P w K mg base CX0 (k+1) f fd ps sp:=by
 obtain⟨oc,od,kV,doc,pm,an,cdv,ct,osl,rfl,lk,hcd⟩:=F.ex;refine qnk lk hcd S len λA outer s H vs Q E hr hsp=>?_;obtain⟨t,h,q⟩:=zp cdv A outer s H vs Q E hr hsp;exact⟨t,h.nox,q⟩
theorem qsl{x qual:Str}{st:Stmt}{f:Addr}{oc:Value}{od an:Option Addr}{osl:Array (Option Value)}{kV doc pm cdv ct:Value}(l:K.lookup f=some ⟨oc,od,.func (PySem.W.fnOf x qual (q0r st) (q0p st) (q04 st) .none kV doc pm an cdv ct),osl⟩)
 (c:PySem.W.codeIn K cdv qual=true) (k:PySem.W.keepIn K (.ref f)=true):Fun K x qual st f (PySem.W.fnOf x qual (q0r st) (q0p st) (q04 st) .none kV doc pm an cdv ct):=⟨⟨oc,od,kV,doc,pm,an,cdv,ct,osl,rfl,l,c⟩,k⟩
end
section
variable{X:Cx}
theorem pv(i:Nat){x:Str}{pos:Pos}(hN:X.N[i]? =some x:=by rfl)(hv:Vis X.env.scope x:=by first|exact Or.inl rfl|exact Or.inr (Or.inl rfl)|exact Or.inr (Or.inr rfl))(hd:(x==("__debug__":Str))=false:=by decide)
 (hcd:(x==("__classdict__":Str))=false:=by decide):PE X (.Name x pos) (tVar i):=qq4 hN hv hd hcd
end
theorem iteF{A B:Prop}(h:B):if false=true then A else B:=by rw[if_neg Bool.false_ne_true];exact h
theorem iteT{A B:Prop}(h:A):if true=true then A else B:=by rw[if_pos rfl];exact h
def Same(H H':Hp):Prop:=∀b o,H b=some o->H' b=some o
theorem Same.refl(H:Hp):Same H H:=λ_ _ h=>h
theorem Same.trans{H H1 H2:Hp}(a:Same H H1)(b:Same H1 H2):Same H H2:=λc o h=>b c o (a c o h)
theorem Same.free{H H':Hp}(e:Same H H'){l:Addr}(h:H' l=Option.none):H l=Option.none:=by
 cases q:H l with
 |none=>rfl
 | some o=>
  rw[e l o q]at h;cases h
section
variable{X:Cx}{z9:List (Addr×Obj)}{σ:St}{H:Hp}{s:Shared}
theorem Inv.track{d:Addr}{o:HO}(I:Inv X z9 σ H s)(hn:H d=none)(hy:X.s₀.heap.objs.size<=d)(hL:d≠X.env.locals)(hc:∀x c,X.env.cells.lookup x=some c->c≠d)
 (hp:∀p∈X.pn++z9,p.1≠d) (new:ObjOk X.prog X.w (upd H d o) s.heap d o):Inv X z9 σ (upd H d o) s:=by
 have old:∀b ob,X.s₀.heap.get? b=some ob->b≠d:=λb ob e=>jm (jt (jb e) hy);have was:∀b u,H b=some u->b≠d:=λb u e=>q1l e hn;refine⟨I.ok,I.os,I.bare,⟨I.base.keep,I.base.slot,λb ob e n hx=>?_,I.base.there,λb xs e=>?_,λb ob u e=>?_,λb ps e=>?_⟩,I.loc,I.cell,?_,λx c e=>?_,λp z=>?_,λb u e=>?_,I.len⟩
 ·rw[q0j (old b ob e)];exact I.base.free b ob e n hx
 ·have q:=I.base.tups b xs e;rw[q0j (was b _ q)];exact q
 ·have q:=I.base.frzs b ob u e;rw[q0j (was b _ q)];exact q
 ·obtain⟨m,q⟩:=I.base.tbls b ps e;exact⟨m,by rw[q0j (was b _ q)];exact q⟩
 ·rw[q0j (Ne.symm hL)];exact I.free
 ·rw[q0j (hc x c e)];exact I.freeC x c e
 ·obtain⟨e,n,r⟩:=I.pin p z;exact⟨e,by rw[q0j (hp p z)];exact n,r⟩
 ·by_cases hb:b=d
  ·subst hb;rw[q0m]at e;cases e;exact new
  ·rw[q0j hb]at e;refine(I.hok b u e).stay (λc v _ q=>q) (λc q=>?_) λc xs q=>?_
   ·rw[q0j (was c _ q)];exact q
   ·rw[q0j (was c _ q)];exact q
end
theorem q69{env:Env}:∀(names:List (Str×NameKind)) (acc:List (Str×Addr)),(∀y∈names,y.2=.free->∃c,env.cells.lookup y.1=some c)->
 ∃cl,(forIn names acc λ(p:Str×NameKind) (cs:List (Str×Addr))=>(if(p.2==NameKind.free)=true then do let c <-cellOf env p.1;pure (ForInStep.yield ((p.1,c)::cs))else pure (ForInStep.yield cs):Sem (ForInStep (List (Str×Addr)))))=pure cl/\
  (∀x c,cl.lookup x=some c->acc.lookup x=some c∨env.cells.lookup x=some c)/\(∀x c,acc.lookup x=some c->∃c',cl.lookup x=some c')/\∀y∈names,y.2=.free->∃c,cl.lookup y.1=some c
 |[],acc,_=>⟨acc,rfl,λ_ _ h=>.inl h,λ_ c h=>⟨c,h⟩,λ_ h=>nomatch h⟩
 | (n,k)::r,acc,hh=>by
  by_cases hk:k=.free
  ·subst hk;obtain⟨c,hc⟩:=hh (n,.free) jk rfl;obtain⟨cl,e,h1,h2,h3⟩:=q69 (env:=env) r ((n,c)::acc) λy hy=>hh y (jj _ hy);have ec:cellOf env n=pure c:=by
    unfold cellOf;rw[hc]
   have here:∃c',cl.lookup n=some c':=h2 n c (by simp[List.lookup_cons]);refine⟨cl,?_,λx d q=>?_,λx d q=>?_,λy hy hf=>?_⟩
   ·rw[List.forIn_cons];simp only[beq_self_eq_true,if_true,ec,pure_bind];exact e
   ·rcases h1 x d q with z|z
    ·rw[List.lookup_cons]at z;by_cases hx:x=n
     ·subst hx;simp only[beq_self_eq_true]at z;cases z;exact .inr hc
     ·rw[beq_eq_false_iff_ne.mpr hx]at z;exact .inl z
    ·exact .inr z
   ·by_cases hx:x=n
    ·subst hx;exact here
    ·exact h2 x d (by rw[List.lookup_cons,beq_eq_false_iff_ne.mpr hx];exact q)
   ·rcases List.mem_cons.mp hy with rfl|hy
    ·exact here
    ·exact h3 y hy hf
  ·obtain⟨cl,e,h1,h2,h3⟩:=q69 (env:=env) r acc λy hy=>hh y (jj _ hy);refine⟨cl,?_,h1,h2,λy hy hf=>?_⟩
   ·rw[List.forIn_cons];have hb:(k==NameKind.free)=false:=by simpa using hk
    simp only[hb,Bool.false_eq_true,if_false,pure_bind];exact e
   ·rcases List.mem_cons.mp hy with rfl|hy
    ·exact absurd hf hk
    ·exact h3 y hy hf
theorem q6h{env:Env}{scope:Scope}(hh:∀y∈scope.names,y.2=.free->∃c,env.cells.lookup y.1=some c):
 ∃cl,closureFor scope env=pure cl/\(∀x c,cl.lookup x=some c->env.cells.lookup x=some c)/\∀y∈scope.names,y.2=.free->∃c,cl.lookup y.1=some c:=by
 obtain⟨cl,e,h1,_,h3⟩:=q69 (env:=env) scope.names [] hh;refine⟨cl,?_,λx c q=>(h1 x c q).elim (λz=>by simp at z) id,h3⟩;unfold closureFor;simp only[bind_pure];exact e
def cxB(X:Cx)(N:List Str)(scope:Scope)(s:Shared)(H:Hp)(C:Addr)(cl:List (Str×Addr))(fp:List Addr):Cx where
 prog:=X.prog
 w:=X.w
 K:=X.K
 mg:=X.mg
 base:=X.base
 A:=X.A
 N:=N
 s₀:=s
 H₀:=H
 env:=compEnvC scope cl C X.env
 outer:=X.stack
 stack:=X.stack
 ex:=fp
 fn:=λ_=>false
 calm:=X.calm
 pn:=[]
 xe:=λ_ _=>False
def caps(n:Nat)(js:List Nat)(σ:St):St:=List.replicate n none++js.map λj=>(σ[j]?).join
def Own(n:Nat)(g:TG):Prop:=∀v σ H Q,g v σ H Q->g v σ H λσ2 H2=>Q σ2 H2/\σ2.length=σ.length/\∀i,n<=i->σ2[i]? =σ[i]?
theorem q1x{n i:Nat}(h:i<n):Own n (q41 i):=λv σ H Q q=>⟨q,by simp,λj hj=>by rw[List.getElem?_set_ne (by omega)]⟩
theorem q8t{K:FrG}{n i j:Nat}(hi:i<n)(hj:j<n):Own n (gTup K 2 (qjg (q41 i) (qjg (q41 j) gNil))):=λv σ H Q q=>by obtain⟨a,xs,e,h,hl,x,r,e1,y,r2,e2,e3,q⟩:=q;exact⟨a,xs,e,h,hl,x,r,e1,y,r2,e2,e3,q,by simp,λk hk=>by rw[List.getElem?_set_ne (by omega),List.getElem?_set_ne (by omega)]⟩
def PIf(X:Cx)(ifs:List Expr)(t:TT):Prop:=
 ∀(z9:List (Addr×Obj)) (s:Shared) (σ:St) (H:Hp) (Q:Bool->Hp->Prop),Inv X z9 σ H s->t σ H Q->
   wpAny (model X.prog X.w) X.A (forIn ifs true λc r=>if r=true then do let ok <-isTrue c X.env (eval c X.env);pure (ForInStep.yield ok)else pure (ForInStep.yield r)) (TP X z9 σ Q) X.xe s
def tYes:TT:=λ_ H Q=>Q true H
theorem q2p{X:Cx}:PIf X [] tYes:=λ_ _ _ H _ I h=>wpAny_tests_nil ⟨H,I,h⟩
theorem q74{X:Cx}{c:Expr}{t:TT}(hc:PT X c t):PIf X [c] t:=λz9 s σ H Q I h=>wpAny_tests_one (hc z9 s σ H Q I h)
def cGo(g:TG)(tt:TT)(te:TE)(σ0:St)(Fin:List V->Hp->Prop)(J:It)(H1:Hp):Prop:=
 ∃W:Nat->Nat->List V->Hp->Prop,(∃m,W 0 m [] H1)/\∀i m ys H2,W i m ys H2->
  (J.stop i H2/\ys.length<=sizeLine/\Fin ys H2)∨
  (J.go i H2/\ys.length<sizeLine/\∃N:List V->Hp->Prop,(∀ys' H',N ys' H'->∃m',m'<m/\W (i+1) m' ys' H')/\∀x H3,J.yld i H2 x H3->g x σ0 H3 λσ4 H4=>tt σ4 H4 λb H5=>
    if b=true then te σ4 H5 λy H6=>N (ys++[y]) H6 else N ys H5)
def qao(n:Nat)(js:List Nat)(wi:TI)(g:TG)(tt:TT)(te:TE):TE:=λσ H Q=>
 wi σ H (cGo g tt te (caps n js σ) λys H2=>∀D,H2 D=none->Q (.ref D) (upd H2 D (.lst ys)))
def qfd(k n:Nat)(js:List Nat)(wi:TI)(g:TG)(tt:TT)(te:TE):TS:=λE σ H=>
 wi σ H (cGo g tt te (caps n js σ) λys H2=>∀D,H2 D=none->E.nx (σ.set k (some (.ref D))) (upd H2 D (.lst ys)))
theorem qhb{prog:Program}{w:World}{A:Around}{R:Result->Shared->Prop}{s:Shared}{elt zj ze:Expr}{ifs:List Expr}{scope:Scope}{pos:Pos}{it acc:Value}{env:Env}(I:Nat->Shared->Prop)
 (turn:∀n s,I n s->wpAny (model prog w) A (pyNext it) (λr s₁=>(r=none/\R (.ok .next) s₁)∨∃v,r=some v/\wpAny (model prog w) A (letOwnedTupleGo zj it v) (λ_ s₀=>
   wpAny (model prog w) A (assign zj env v) (λ_ s₂=>
    wpAny (model prog w) A (forIn ifs true λc r=>if r=true then do let ok <-isTrue c env (eval c env);pure (ForInStep.yield ok)else pure (ForInStep.yield r)) (λok s₃=>
     if ok=true then wpAny (model prog w) A (eval elt env) (λx s₄=>wpAny (model prog w) A (call (.builtin "list.append") [acc,x]) (λ_ s₅=>∃m,m<n/\I m s₅) (λ_ _=>False) s₄) (λ_ _=>False) s₃
     else∃m,m<n/\I m s₃) (λ_ _=>False) s₂) (λ_ _=>False) s₀) (λ_ _=>False) s₁) (λ_ _=>False) s)
 (n:Nat) (h:I n s):codeAny (model prog w) A (.compLoop (.ListComp elt [⟨zj,ze,ifs,0⟩] scope pos) 0 it acc env) R s:=by
 have no:∀{E:Value->Shared->Prop} (x:Value) (z:Shared),False->E x z:=λ_ _ f=>f.elim;refine codeAny_loop rfl I (λn s hI=>?_) n h;show wpAny _ A ((compTurn (.ListComp elt [⟨zj,ze,ifs,0⟩] scope pos) 0 it acc env).onRaise (λx=>do noteFrame x env;theTreesLotGoes x)) _ _ s;refine wpAny_noted ?_;rw[compTurn_list];refine j8 (wpAny_standAt (j8 (xg (turn n s hI) (λr s₁ h₁=>?_) no)));rcases h₁ with⟨e,h₁⟩|⟨v,e,h₁⟩
 ·subst e;exact jc h₁
 ·subst e;refine j8 (xg h₁ (λ_ s₀ h₀=>j8 (xg h₀ (λ_ s₂ h₂=>j8 (xg h₂ (λok s₃ h₃=>?_) no)) no)) no);cases ok with
  |false=>exact jc ⟨rfl,h₃⟩
  | true=>
   have q:wpAny (model prog w) A (eval elt env) _ _ s₃:=h₃;exact j8 (j8 (xg q (λx s₄ h₄=>j8 (xg h₄ (λ_ s₅ h₅=>jc (jc ⟨rfl,h₅⟩)) no)) no))
def q21(sc:Scope)(N0 N:List Str)(n:Nat)(js:List Nat)(scope:Scope):Bool:=
 decide (scope.kind=.function)&&scope.names.all (λy=>decide (y.2≠.cell))&&scope.names.all (λy=>decide (y.2≠.free)||decide (sc.names.lookup y.1=some .cell)||decide (sc.names.lookup y.1=some .free))&&
 scope.names.all (λy=>decide (y.2≠.local)||decide (scope.names.lookup y.1=some .local))&&decide (js.map (λj=>N0[j]?)=(N.drop n).map some)&&
 (N.drop n).all (λx=>decide (sc.names.lookup x=some .cell)||decide (sc.names.lookup x=some .free))&&(N.drop n).all (λx=>decide (scope.names.lookup x=some .free))&&decide (n+js.length=N.length)
theorem q6c{env:Env}:∀{names:List (Str×NameKind)} {x:Str},(names.map λ(n,k)=>if(k==NameKind.free&&env.scope.kind==.function&&env.kindOf n==some .cell)then(n,NameKind.cell)else(n,k)).lookup x=some .cell∨
 (names.map λ(n,k)=>if(k==NameKind.free&&env.scope.kind==.function&&env.kindOf n==some .cell)then(n,NameKind.cell)else(n,k)).lookup x=some .free->(∀y∈names,y.2≠.cell)->∃y∈names,y.1=x/\y.2=.free
 |[],_,h,_=>by rcases h with h|h<;>simp at h
 | (n,k)::r,x,h,hc=>by
  have ih:=@q6c env r x;by_cases hx:x=n
  ·subst hx;refine⟨(x,k),jk,rfl,?_⟩;have hk:k≠.cell:=hc (x,k) jk;by_cases hf:k=.free
   ·exact hf
   ·exfalso;have hb:(k==NameKind.free)=false:=by simpa using hf
    simp only[List.map_cons,hb,Bool.false_and,Bool.false_eq_true,if_false,List.lookup_cons,beq_self_eq_true]at h;rcases h with h|h
    ·exact hk (jd h)
    ·exact hf (jd h)
  ·have hb:(x==n)=false:=beq_eq_false_iff_ne.mpr hx;have step:∀(q:Str×NameKind) (l:List (Str×NameKind)),q.1=n->List.lookup x (q::l)=List.lookup x l:=λq l e=>by
    obtain⟨a,b⟩:=q;have e':a=n:=e;subst e';rw[List.lookup_cons,hb]
   have nm:(if(k==NameKind.free&&env.scope.kind==.function&&env.kindOf n==some .cell)then(n,NameKind.cell)else(n,k)).1=n:=by split<;>rfl
   rw[xk,step _ _ nm]at h;obtain⟨y,hy,r1,r2⟩:=ih h λy hy=>hc y (jj _ hy);exact⟨y,jj _ hy,r1,r2⟩
theorem mem_of_lookup{x:Str}{k:NameKind}:∀{l:List (Str×NameKind)},l.lookup x=some k->(x,k)∈l
 |[],h=>by simp at h
 | (a,b)::r,h=>by
  rw[List.lookup_cons]at h;by_cases hx:x=a
  ·subst hx;simp only[beq_self_eq_true]at h;cases h;exact jk
  ·rw[beq_eq_false_iff_ne.mpr hx]at h;exact jj _ (mem_of_lookup h)
theorem q4e{env:Env}{x:Str}:∀(l:List (Str×NameKind)),l.lookup x=some .free->(l.map λ(n,k)=>if(k==NameKind.free&&env.scope.kind==.function&&env.kindOf n==some .cell)then(n,NameKind.cell)else(n,k)).lookup x≠some .local
 |[],q=>by simp at q
 | (a,b)::r,q=>λz=>by
  rw[List.lookup_cons]at q;by_cases hx:x=a
  ·subst hx;simp only[beq_self_eq_true]at q;cases q;rw[xk]at z;dsimp only at z;split at z
   ·simp[List.lookup_cons]at z
   ·simp[List.lookup_cons]at z
  ·rw[beq_eq_false_iff_ne.mpr hx]at q;refine q4e (env:=env) r q ?_;by_cases hc:(b==NameKind.free&&env.scope.kind==.function&&env.kindOf a==some .cell)=true
   ·simp only[List.map_cons,if_pos hc,List.lookup_cons,beq_eq_false_iff_ne.mpr hx]at z;exact z
   ·simp only[List.map_cons,if_neg hc,List.lookup_cons,beq_eq_false_iff_ne.mpr hx]at z;exact z
theorem qcs(n:Nat)(js:List Nat)(σ:St):(caps n js σ).length=n+js.length:=by simp[caps]
theorem qcr{n:Nat}{js:List Nat}{σ:St}{i:Nat}(h:i<n):(caps n js σ)[i]? =some none:=by unfold caps;rw[kc (by simpa using h),xr,if_pos h]
theorem qjr{n:Nat}{js:List Nat}{σ:St}{i:Nat}{v:V}(h:n<=i)(e:(caps n js σ)[i]? =some (some v)):∃j,js[i-n]? =some j/\σ[j]? =some (some v):=by
 unfold caps at e;rw[xw (by simpa using h),jo,je]at e;cases q:js[i-n]? with
 |none=>rw[q]at e;cases e
 | some j=>
  rw[q]at e;refine⟨j,rfl,?_⟩;have e':(σ[j]?).join=some v:=jd e;cases z:σ[j]? with
  |none=>rw[z]at e';cases e'
  |some o=>rw[z]at e';exact congrArg some e'
section
variable{X:Cx}{tg elt ze:Expr}{ifs:List Expr}{scope:Scope}{pos:Pos}{N N0:List Str}{n:Nat}{js:List Nat}{sc:Scope}{g:TG}{tt:TT}{te:TE}
theorem q8a{z9:List (Addr×Obj)}{σ:St}{H:Hp}{s:Shared}{it:Addr}{fp:List Addr}{tn:Nat->Heap->Prop}{J:It}{cl:List (Str×Addr)}{Fin:List V->Hp->Prop}{RR:Value->Addr->Result->Shared->Prop}{E:Value->Shared->Prop}
 (hc:X.calm=true) (hsc:X.env.scope=sc) (hN0:X.N=N0) (ok:q21 sc N0 N n js scope=true)
 (hg:∀s H C cl fp,PG (cxB X N scope s H C cl fp) tg g) (hgo:Own n g) (ht:∀s H C cl fp,PIf (cxB X N scope s H C cl fp) ifs tt) (he:∀s H C cl fp,PE (cxB X N scope s H C cl fp) elt te)
 (I:Inv X z9 σ H s) (T:Turn X.prog X.w X.K tg J fp it tn) (st:tn 0 s.heap) (fo:∀b∈fp,FpOk X z9 H b)
 (hcl:∀x c,cl.lookup x=some c->X.env.cells.lookup x=some c) (hcl2:∀y∈scope.names,y.2=.free->∃c,cl.lookup y.1=some c)
 (G:cGo g tt te (caps n js σ) Fin J H)
 (k:∀(D C:Addr) (oC:Obj) (m:Str->Option Value) (ys:List V) (H':Hp) (s':Shared),Inv X (z9++[(C,oC)]) σ (upd H' D (.lst ys)) s'->H' D=none->s'.heap.Ns C m->X.s₀.heap.objs.size<=C->C≠X.env.locals->(∀x c,X.env.cells.lookup x=some c->c≠C)->
   (∀p∈X.pn++z9,p.1≠C)->upd H' D (.lst ys) C=none->Fin ys H'->RR (.ref D) C (.ok .next) s'):
 wpAny (model X.prog X.w) X.A (newList []) (λacc s₃=>wpAny (model X.prog X.w) X.A (newFunctionEnv scope X.env.globals cl [] X.env.qual none .none (some X.env)) (λcenv s₄=>
  codeAny (model X.prog X.w) X.A (.compStart (.ListComp elt [⟨tg,ze,ifs,0⟩] scope pos) 0 (.ref it) acc {cenv with scope:=relabel scope X.env}) (RR acc cenv.locals) s₄) E s₃) E s:=by
 simp only[q21,Bool.and_eq_true,decide_eq_true_eq,List.all_eq_true,Bool.or_eq_true]at ok;obtain⟨⟨⟨⟨⟨⟨⟨kind,cell⟩,free⟩,nms⟩,cap⟩,lc⟩,lf⟩,len⟩:=ok;subst hN0 hsc;refine xu (wpAny_newFunctionEnv cell (by intro y hy;simp at hy) (λh1 ns1 sb1=>?_) kind);dsimp only at ns1 sb1 ⊢;generalize eG:s.heap.push {cls:=.type "list",dict:=none,data:=.seq ([]:List Value).toArray}=G2 at ns1 sb1 ⊢;have eC:G2.objs.size=s.heap.objs.size+1:=by rw[<-eG,xn]
 generalize eCC:G2.objs.size=C at ns1 sb1 eC ⊢;generalize eD:s.heap.objs.size=D at eC ⊢;have ltD:∀b o,s.heap.get? b=some o->b<D:=λb o e=>eD▸jb e;have DC:D≠C:=by rw[eC];exact jm (Nat.lt_succ_self _)
 have bC:∀b:Nat,b<D->b≠C:=λb hb z=>by rw[z,eC]at hb;exact absurd hb (Nat.not_lt.mpr (Nat.le_succ _))
 have old:∀b o,s.heap.get? b=some o->h1.get? b=some o:=λb o e=>by have hb:=ltD b o e;refine sb1.extBut b o (bC b hb) (jh _ ?_);rw[<-eG];exact jh _ e
 have accD:h1.get? D=some {cls:=.type "list",data:=.seq ([]:List Value).toArray 0}:=by refine sb1.extBut _ _ DC (jh _ ?_);rw[<-eG,<-eD];exact jr _ rfl
 have freeD:H D=none:=I.hok.fresh (by rw[eD];exact jg _);have freeC:H C=none:=I.hok.fresh (by rw[eD,eC];exact Nat.le_succ _);have fpD:∀b∈fp,b<D:=λb hb=>let ⟨o,e,_⟩:=T.obj 0 _ st b hb;ltD b o e
 have cellD:∀x c,X.env.cells.lookup x=some c->c<D:=λx c e=>let ⟨v,o,ho,_⟩:=I.cell x c e;ltD c o ho
 have pinD:∀p∈X.pn++z9,p.1<D:=λp hp=>ltD _ _ (I.pin p hp).1;have stkD:∀b∈frs X.stack,b<D:=λb hb=>by
  rcases List.mem_cons.mp (I.stkSub b hb)with e|z
  ·subst e;rw[<-eD];exact I.lt
  ·obtain⟨_,o,ho,_⟩:=I.ok.funs.mem z;rw[<-eD];exact jt (jb ho) I.sz
 have fpS:∀b∈fp,b∉frs X.stack:=λb hb z=>by
  obtain⟨_,f1,f2,_⟩:=fo b hb;rcases List.mem_cons.mp (I.stkSub b z)with e|q
  ·exact f1 e
  ·exact f2 q
 have kindB:(compEnvC scope cl C X.env).scope.kind=.function:=kind;have okB:(cxB X N scope s H C cl fp).Ok:={
  mod:=I.ok.mod
  kind:=kind
  glob:=I.ok.glob
  blt:=I.ok.blt
  above:=by show s.heap.objs.size<=C;rw[eD,eC];exact Nat.le_succ _
  inj:=λx y c e1 e2=>I.ok.inj x y c (hcl x c e1) (hcl y c e2)
  has:=λx hx=>by obtain⟨y,hy,e,f⟩:=q6c (env:=X.env) (names:=scope.names) (x:=x) hx cell;subst e;exact hcl2 y hy f
  cab:=λx c z=>by cases z
  hd:=I.ok.hd
  frames:=I.ok.frames
  stk:=.inl rfl
  exf:=λb hb=>⟨bC b (fpD b hb),λx c e=>(fo b hb).2.2.2.2.1 x c (hcl x c e)⟩
  bs:=λb o e=>I.bs b o e
  bsz:=x9 I.ok.bsz I.sz
  noex:=λb o e hb=>by
   rcases(fo b hb).2.2.2.1 with z|z
   ·exact I.ok.noex b o e z
   ·exact absurd (jt (jb e) (x9 I.ok.bsz z)) (xh _)
  exfs:=fpS
  funs:=I.stack
  frf:=I.stkFree}
 have upH:∀b o,s.heap.get? b=some o->h1.get? b=some o:=old;have IB:Inv (cxB X N scope s H C cl fp) [(D,{cls:=.type "list",data:=.seq ([]:List Value).toArray 0})] (caps n js σ) H {s with heap:=h1,toks:=s.toks+([]:List (Str×Value)).length}:=by
  refine⟨okB,rfl,I.bare,Un.kept old,⟨_,ns1,λi x v e1 e2 e3=>?_⟩,λx c e=>?_,freeC,λx c e=>I.freeC x c (hcl x c e),λp hp=>?_,I.hok.kept old,?_⟩
  ·have hi:n<=i:=by
    by_cases hlt:i<n
    ·rw[qcr hlt]at e2;cases e2
    ·omega
   obtain⟨j,ej,ev⟩:=qjr hi e2;have hxN:(N.drop n)[i-n]? =some x:=by rw[List.getElem?_drop,show n+(i-n)=i by omega];exact e1
   have hxm:x∈N.drop n:=xm hxN;have eN:X.N[j]? =some x:=by
    have q:(js.map λj=>X.N[j]?)[i-n]? =some (X.N[j]?):=by rw[je,ej];rfl
    rw[cap,je,hxN]at q;exact(jd q).symm
   obtain⟨m0,_,hl⟩:=I.loc;have kx:=lc x hxm;have vis:Vis X.env.scope x:=by
    rcases kx with z|z
    ·exact .inr (.inl z)
    ·exact .inr (.inr z)
   obtain⟨u,r,lk⟩:=hl j x v eN ev vis;refine⟨u,r,?_⟩;rcases lk with⟨q,_⟩|⟨_,c,ec,o,ho,hd⟩
   ·exfalso;have q':X.env.scope.names.lookup x=some .local:=q;rcases kx with z|z
    ·rw[z]at q';cases q'
    ·rw[z]at q';cases q'
   ·have fx:scope.names.lookup x=some .free:=lf x hxm;obtain⟨c',ec'⟩:∃c',cl.lookup x=some c':=by
     have hm:(x,NameKind.free)∈scope.names:=mem_of_lookup fx;exact hcl2 _ hm rfl
    have ecc:c'=c:=by have z:=hcl x c' ec';rw[ec]at z;exact(jd z).symm
    subst ecc;refine .inr ⟨?_,c',ec',o,old _ _ ho,hd⟩;rcases e3 with z|z|z
    ·exfalso;have z':(relabel scope X.env).names.lookup x=some .local:=z;exact q4e _ fx z'
    ·exact .inl z
    ·exact .inr z
  ·obtain⟨v,o,ho,hd⟩:=I.cell x c (hcl x c e);exact⟨v,o,old _ _ ho,hd⟩
  ·have e:p=(D,{cls:=.type "list",data:=.seq ([]:List Value).toArray 0}):=by simpa[cxB]using hp
   subst e;exact⟨accD,freeD,DC,λz=>absurd (stkD D z) (xh _),λv=>by intro z;cases z⟩
  ·show(caps n js σ).length=N.length;rw[qcs];exact len
 -- what stays true of the iterator's records
 have stat:∀{H':Hp} {oD:Obj},(∀b∈fp,H' b=none)->∀b∈fp,FpOk (cxB X N scope s H C cl fp) [(D,oD)] H' b:=λ{H' oD} hn b hb=>
  ⟨hn b hb,bC b (fpD b hb),fpS b hb,.inl hb,λx c e=>(fo b hb).2.2.2.2.1 x c (hcl x c e),λp hp=>by
    have e:p=(D,oD):=by simpa[cxB]using hp
    subst e;exact Nat.ne_of_gt (fpD b hb)⟩
 obtain⟨W,⟨m0,w0⟩,turn⟩:=G;have loop:codeAny (model X.prog X.w) X.A (.compLoop (.ListComp elt [⟨tg,ze,ifs,0⟩] scope pos) 0 (.ref it) (.ref D) (compEnvC scope cl C X.env)) (RR (.ref D) C) {s with heap:=h1,toks:=s.toks+([]:List (Str×Value)).length}:=by
  refine qhb (λm s'=>∃(i:Nat) (ys:List V) (its:List Value) (kk:Nat) (σ':St) (H':Hp),Inv (cxB X N scope s H C cl fp) [(D,{cls:=.type "list",data:=.seq its.toArray kk})] σ' H' s'/\Vals ys its/\(σ'.length=(caps n js σ).length/\∀i,n<=i->σ'[i]? =(caps n js σ)[i]?)/\
   tn i s'.heap/\(∀b∈fp,H' b=none)/\W i m ys H') ?_ m0 ⟨0,[],[],0,_,H,IB,.nil,⟨rfl,λ_ _=>rfl⟩,T.keep _ _ _ st λb hb o e=>old b o e,λb hb=>(fo b hb).1,w0⟩
  rintro m s3 ⟨i,ys,its,kk,σ3,H3,I3,r3,⟨l3,a3⟩,st3,fr3,w3⟩;have I3':Inv (cxB X N scope s H C cl fp) [(D,{cls:=.type "list",data:=.seq its.toArray kk})] (caps n js σ) H3 s3:=I3.weak l3.symm λj v e=>by
   by_cases hj:j<n
   ·rw[qcr hj]at e;cases e
   ·rw[a3 j (by omega)];exact e
  rcases turn i m ys H3 w3 with⟨stop,hz,fin⟩|⟨go,hz,Nn,hNn,step⟩
  ·refine xg (T.done (cxB X N scope s H C cl fp) rfl rfl rfl hc i _ s3 _ H3 (λ_ _=>False) I3' (stat fr3) st3 stop) (λr s4 h4=>?_) λ_ _ z=>z;obtain⟨hr,I4⟩:=h4;refine .inl ⟨hr,?_⟩;have pD:=I4.pin (D,{cls:=.type "list",data:=.seq its.toArray kk}) (by simp[cxB]);obtain⟨mC,nsC,_⟩:=I4.loc;obtain⟨oC,es,ep,hoC,dC,rC⟩:=id nsC;have J4:Inv X z9 σ H3 s4:=I.call' (s':=s4) I4.os (ch:=fp) I4.base I4.hok I4.bare λb hb=>by
    obtain⟨_,f1,f2,f3,f4,f5⟩:=fo b hb;exact⟨f3,f1,f4,f5⟩
   have fC:H3 C=none:=I4.free;have ltL:X.env.locals<D:=eD▸I.lt;have cL:C≠X.env.locals:=(bC _ ltL).symm;have cC:∀x c,X.env.cells.lookup x=some c->c≠C:=λx c e=>bC c (cellD x c e);have cP:∀p∈X.pn++z9,p.1≠C:=λp hp=>bC p.1 (pinD p hp);have cS:X.s₀.heap.objs.size<=C:=x9 I.sz (by rw[eD,eC];exact Nat.le_succ _);have dS:X.s₀.heap.objs.size<=D:=by have:=I.sz;rw[eD]at this;exact this
   have cF:C∉X.fs:=λz=>by obtain⟨_,o,ho,_⟩:=I.ok.funs.mem z;exact xh _ (jt (jb ho) cS)
   have J5:Inv X (z9++[(C,oC)]) σ H3 s4:=J4.pins_of λp hp=>(List.mem_append.mp hp).elim (λz=>J4.pin p (xj _ z)) λz=>by
    have e:p=(C,oC):=by simpa using z
    subst e;exact⟨hoC,fC,cL,cF,λv z=>by have z':oC.data=.cell v:=z;rw[dC]at z';cases z'⟩
   refine k D C oC mC ys H3 s4 (J5.track pD.2.1 dS (Nat.ne_of_gt ltL) (λx c e=>jm (cellD x c e)) (λp hp=>?_) ?_) pD.2.1 nsC cS cL cC cP ?_ fin
   ·rcases List.mem_append.mp hp with z|z
    ·exact jm (pinD p (List.mem_append_left _ z))
    ·rcases List.mem_append.mp z with z|z
     ·exact jm (pinD p (xj _ z))
     ·have e:p=(C,oC):=by simpa using z
      subst e;exact Ne.symm DC
   ·exact⟨hz,its,kk,r3,pD.1⟩
   ·rw[q0j (Ne.symm DC)];exact fC
  ·refine xg (T.item (cxB X N scope s H C cl fp) rfl rfl rfl hc i _ s3 _ H3 (λ_ _=>False) I3' (stat fr3) st3 go) (λr s4 h4=>?_) λ_ _ z=>z;obtain⟨u,hr,h4⟩:=h4;refine .inr ⟨u,hr,?_⟩;refine thn h4 λ_ s5 h5=>?_;obtain⟨x,H5,I5,r5,y5,st5,fr5⟩:=h5;have I5':=I5.pinned (stat fr5) (T.obj _ _ st5);refine thn (hg s H C cl fp _ s5 _ H5 x u _ I5' r5 (hgo _ _ _ _ (step x H5 y5))) λ_ s6 h6=>?_;obtain⟨σ6,H6,I6,q6,l6,a6⟩:=h6;refine thn (ht s H C cl fp _ s6 σ6 H6 _ I6 q6) λok s7 h7=>?_;obtain⟨H7,I7,q7⟩:=h7;have stays:∀{H8:Hp} {s8:Shared},Inv (cxB X N scope s H C cl fp) ([(D,{cls:=.type "list",data:=.seq its.toArray kk})]++q9m fp s5.heap) σ6 H8 s8->(∀b∈fp,∀o,s5.heap.get? b=some o->s8.heap.get? b=some o)/\∀b∈fp,H8 b=none:=λ{H8 s8} I8=>
    ⟨λb hb o e=>(I8.pin (b,o) (xj _ (xj _ (q4z hb e)))).1,λb hb=>by obtain⟨o,e,d⟩:=T.obj _ _ st5 b hb;exact(I8.pin (b,o) (xj _ (xj _ (q4z hb e)))).2.1⟩
   cases ok with
   | false=>
    obtain⟨m',hm,w7⟩:=hNn ys H7 (show Nn ys H7 from q7);obtain⟨z1,z2⟩:=stays I7;exact⟨m',hm,i+1,ys,its,kk,σ6,H7,I7.unpinned,r3,⟨l6,a6⟩,T.keep _ _ _ st5 z1,z2,w7⟩
   | true=>
    show wpAny _ _ (eval elt _) _ _ s7;refine thn (he s H C cl fp _ s7 σ6 H7 _ I7 q7) λy s8 h8=>?_;obtain⟨vy,H8,I8,ry,n8⟩:=h8;obtain⟨m',hm,w8⟩:=hNn _ _ n8;obtain⟨z1,z2⟩:=stays I8;have pD:=I8.pin (D,{cls:=.type "list",data:=.seq its.toArray kk}) (by simp[cxB]);have lenits:its.length<sizeLine:=by rw[<-r3.length];exact hz
    refine append_at pD.1 (λh9 hs9 hD9=>?_) (by simpa using Nat.le_of_lt lenits);have keep9:∀b o,b≠D->s8.heap.get? b=some o->h9.get? b=some o:=λb o hb e=>hs9.extBut b o hb e;have I9:Inv (cxB X N scope s H C cl fp) [] σ6 H8 {s8 with heap:=h9}:=(I8.pins_of (pins':=[]) λp hp=>nomatch hp).turned (it:=D) keep9 pD.2.1 DC (.inr (by show s.heap.objs.size<=D;rw[eD];exact jg _))
     (λx c e=>jm (cellD x c (hcl x c e))) λp hp=>by simp[cxB]at hp
    refine⟨m',hm,i+1,ys++[vy],its++[y],kk+1,σ6,H8,I9.pins_of λp hp=>?_,r3.append (.cons ry .nil),⟨l6,a6⟩,T.keep _ _ _ st5 λb hb o e=>keep9 b o (jm (fpD b hb)) (z1 b hb o e),z2,w8⟩;have e:p=(D,{cls:=.type "list",data:=.seq (its++[y]).toArray (kk+1)}):=by simpa using hp
    subst e;refine⟨?_,pD.2.1,DC,λz=>absurd (stkD D z) (xh _),λv z=>by cases z⟩;show h9.get? D=_;rw[hD9,List.push_toArray]
 exact codeAny_compStart_list loop (T.self _ 0 _ _ _ (T.keep _ _ _ st λb hb o e=>old b o e) loop)
end
section
variable{X:Cx}{tg elt ze:Expr}{ifs:List Expr}{scope:Scope}{pos:Pos}{N N0:List Str}{n:Nat}{js:List Nat}{sc:Scope}{wi:TI}{g:TG}{tt:TT}{te:TE}
theorem qcp{z9:List (Addr×Obj)}{σ:St}{H:Hp}{s:Shared}(I:Inv X z9 σ H s)(hsc:X.env.scope=sc)(ok:q21 sc N0 N n js scope=true):∀y∈scope.names,y.2=.free->∃c,X.env.cells.lookup y.1=some c:=by
 simp only[q21,Bool.and_eq_true,decide_eq_true_eq,List.all_eq_true,Bool.or_eq_true]at ok;obtain⟨⟨⟨⟨⟨⟨⟨kind,cell⟩,free⟩,nms⟩,cap⟩,lc⟩,lf⟩,len⟩:=ok;subst hsc;intro y hy hf;rcases free y hy with(z|z)|z
 ·exact absurd hf z
 ·exact I.ok.has y.1 (.inl z)
 ·exact I.ok.has y.1 (.inr z)
theorem q89(ok:q21 sc N0 N n js scope=true):scope.kind=.function/\∀x∈scope.names,x.2=.local->scope.names.lookup x.1=some .local:=by
 simp only[q21,Bool.and_eq_true,decide_eq_true_eq,List.all_eq_true,Bool.or_eq_true]at ok;obtain⟨⟨⟨⟨⟨⟨⟨kind,cell⟩,free⟩,nms⟩,cap⟩,lc⟩,lf⟩,len⟩:=ok;refine⟨kind,λx hx hl=>?_⟩;rcases nms x hx with z|z
 ·exact absurd hl z
 ·exact z
theorem Inv.butC{z9:List (Addr×Obj)}{σ:St}{H:Hp}{s:Shared}{C:Addr}{oC:Obj}{h':Heap}(I:Inv X (z9++[(C,oC)]) σ H s)(hs:Heap.SameBut C s.heap h')(h1:X.s₀.heap.objs.size<=C)(h2:C≠X.env.locals)
 (h3:∀x c,X.env.cells.lookup x=some c->c≠C) (h4:∀p∈X.pn++z9,p.1≠C) (h5:H C=none):Inv X z9 σ H {s with heap:=h'}:=
 I.unpinned.turned (it:=C) (t':=s.toks) (λb o hb e=>hs.extBut b o hb e) h5 h2 (.inr h1) h3 h4
theorem q2v(hc:X.calm=true)(hsc:X.env.scope=sc)(hN0:X.N=N0)(ok:q21 sc N0 N n js scope=true)(hi:PI X tg ze wi)
 (hg:∀s H C cl fp,PG (cxB X N scope s H C cl fp) tg g) (hgo:Own n g) (ht:∀s H C cl fp,PIf (cxB X N scope s H C cl fp) ifs tt) (he:∀s H C cl fp,PE (cxB X N scope s H C cl fp) elt te)
 (hs:∀x,foldedSetIterable ze X.env x=pure x:=by intro _;rfl):PE X (.ListComp elt [⟨tg,ze,ifs,0⟩] scope pos) (qao n js wi g tt te):=by
 intro z9 s σ H Q I h;obtain⟨cl,hclos,c1,c2⟩:=q6h (qcp I hsc ok);obtain⟨kd,nm⟩:=q89 ok;rw[eval_ListComp];refine wpAny_comprehension_free (use:=none) rfl hs hclos kd nm ?_;refine thn (hi z9 s σ H _ I h) λv s1 h1=>thn h1 λitv s2 h2=>?_;obtain⟨it,fp,tn,J,H2,e,I2,T,st2,f2,G⟩:=h2;subst e;refine q8a (RR:=λacc C=>compPost (model X.prog X.w) X.A X.xe none (EP X z9 σ Q) acc C) hc hsc hN0 ok hg hgo ht he I2 T st2 f2 c1 c2 G ?_;intro D C oC m ys H' s' I' hD ns k1 k2 k3 k4 k5 fin;exact⟨m,ns,λh' hs'=>⟨.ref D,_,I'.butC hs' k1 k2 k3 k4 k5,rfl,fin D hD⟩⟩
theorem q61{k:Nat}{y:Str}{py spos:Pos}(hc:X.calm=true)(hsc:X.env.scope=sc)(hN0:X.N=N0)(ok:q21 sc N0 N n js scope=true)(hN:X.N.Nodup)(hk:X.N[k]? =some y)(hy:Loc X.env.scope y)
 (hi:PI X tg ze wi) (hg:∀s H C cl fp,PG (cxB X N scope s H C cl fp) tg g) (hgo:Own n g) (ht:∀s H C cl fp,PIf (cxB X N scope s H C cl fp) ifs tt) (he:∀s H C cl fp,PE (cxB X N scope s H C cl fp) elt te)
 (hsw:swapsWith (.ListComp elt [⟨tg,ze,ifs,0⟩] scope pos) (some (.Name y py)) spos.line X.env=pure true:=by rfl) (hs:∀x,foldedSetIterable ze X.env x=pure x:=by intro _;rfl)
 (hf:X.fn y=true∨X.env.scope.names.lookup y=some .local:=by first|exact .inl rfl|exact .inr rfl):PS X (.Assign [.Name y py] (.ListComp elt [⟨tg,ze,ifs,0⟩] scope pos) spos) (qfd k n js wi g tt te):=by
 intro z9 s σ H D0 I h;obtain⟨cl,hclos,c1,c2⟩:=q6h (qcp I hsc ok);obtain⟨kd,nm⟩:=q89 ok;rw[exec_Assign_Name_used _ _ _ _ hsw];refine j8 (wpAny_standAt (j8 ?_));show wpAny _ X.A (comprehension (.ListComp elt [⟨tg,ze,ifs,0⟩] scope pos) scope X.env _ (newList []) false (eval ze X.env) (some (assign (.Name y py) X.env)) >>= λ_=>pure ()) _ _ s;refine j8 (xg (wpAny_comprehension_free (use:=some (assign (.Name y py) X.env)) (Q:=λ_ s'=>SP X z9 D0 .next s') rfl hs hclos kd nm ?_) (λ_ s' q=>jc (jc q)) λ_ _ z=>z);refine thn (hi z9 s σ H _ I h) λv s1 h1=>thn h1 λitv s2 h2=>?_;obtain⟨it,fp,tn,J,H2,e,I2,T,st2,f2,G⟩:=h2;subst e;refine q8a (RR:=λacc C=>compPost (model X.prog X.w) X.A X.xe (some (assign (.Name y py) X.env)) (λ_ s'=>SP X z9 D0 .next s') acc C) hc hsc hN0 ok hg hgo ht he I2 T st2 f2 c1 c2 G ?_;intro D C oC m ys H' s' I' hD ns k1 k2 k3 k4 k5 fin;show wpAny _ X.A (assign (.Name y py) X.env (.ref D)) _ _ s';refine wpAny_assign_Name (q8h I' hN hk hy (v:=.ref D) rfl (λs'' I''=>?_) hf);have pc:=I''.pin (C,oC) (xj _ (xj _ jk));obtain⟨o,es,ep,ho,r⟩:=ns;have pc':=I'.pin (C,oC) (xj _ (xj _ jk));have eo:o=oC:=by have z:=pc'.1;rw[ho]at z;exact jd z
 subst eo;exact⟨m,⟨o,es,ep,pc.1,r⟩,λh' hs'=>⟨_,_,I''.butC hs' k1 k2 k3 k4 k5,fin D hD⟩⟩
end
theorem Same.new{H:Hp}{l:Addr}{o:HO}(h:H l=none):Same H (upd H l o):=λb u e=>by rw[q0j (q1l e h)];exact e
theorem Same.tup{K:FrG}{H H':Hp}{a:Addr}{xs:List V}(e:Same H H')(h:SqT K H a xs):SqT K H' a xs:=by
 rcases h with(h|⟨o,h⟩)|h
 ·exact .inl (.inl (e _ _ h))
 ·exact .inl (.inr ⟨o,e _ _ h⟩)
 ·exact .inr h
section
variable{X:Cx}{K:FrG}
theorem q0f(h:X.K=K):IxR X (rIx K):=h▸qsc
theorem q1e(h:X.K=K):q4w X (.builtin "len") (λxs H Q=>∃p ys,xs=[.ref p]/\(SqL K H p ys∨SqT K H p ys)/\Q (.int ys.length) H):=by subst h;exact qae
theorem qe0(h:X.K=K):q4w X (.type "list") (λxs H Q=>∃p ys,xs=[.ref p]/\(SqL K H p ys∨SqT K H p ys)/\∀l,H l=none->Q (.ref l) (upd H l (.lst ys))):=by subst h;exact qad
theorem q3n(h:X.K=K):q4w X (.type "tuple") (λxs H Q=>∃p ys,xs=[.ref p]/\((SqL K H p ys/\∀l,H l=none->Q (.ref l) (upd H l (.tup ys)))∨(SqT K H p ys/\Q (.ref p) H))):=by subst h;exact q98
theorem qif{tg l:Expr}{tl:TE}(h:X.K=K)(hl:PE X l tl):PI X tg l (qng K tl):=h▸qm8 hl
theorem qm7{tg l:Expr}{tl:TE}(h:X.K=K)(hl:PE X l tl):PI X tg l (iTup K tl):=h▸qq2 hl
theorem q32{es:List Expr}{k:Nat}{t:TGs}{n:Nat}{pos:Pos}(hK:X.K=K)(hc:X.calm=true)(h:PGs X es t)(hn:(assignEach es X.env).length=n:=by rfl)(hst:(assignEach es X.env).findIdx? (·.1)=none:=by rfl):PG X (.Tuple es k pos) (gTup K n t):=hK▸qq3 hc h hn hst
theorem qb0{e:Expr}{f:Str}{pos:Pos}{ta:TE}(hK:X.K=K)(he:PE X e ta)(hb:attributeBase e f X.env (eval e X.env)=eval e X.env):PE X (.Attribute e f pos) (tFld K ta f):=hK▸qq6 he hb
end
theorem PE.or{X:Cx}{e:Expr}{t u:TE}(h:PE X e t)(k:PE X e u):PE X e λσ H Q=>t σ H Q∨u σ H Q:=λz9 s σ H Q I q=>by
 rcases q with q|q
 ·exact h z9 s σ H Q I q
 ·exact k z9 s σ H Q I q
def clsV:V->Option Value
 |.ref a=>some (.ref a)
 |.ty n=>some (.type n)
 |_=>none
def rIsi(K:FrG):List V->Hp->VK->Prop:=λxs H Q=>∃x y t c b,xs=[x,y]/\clsV y=some c/\TyOf K H x t/\PySem.W.kitOne K t c=some b/\Q (.bl b) H
section
variable{X:Cx}
theorem qju{K:FrG}(hK:X.K=K):q4w X (.builtin "isinstance") (rIsi K):=by
 subst hK;intro z9 s σ H xs us Q I r h;obtain⟨x,y,t,c,b,rfl,hc,ty,e,q⟩:=h;obtain⟨u,w,rfl,ru,rw'⟩:=vals2 r;have ew:w=c:=by
  cases y with
  | ref a=>
   have z:w=Value.ref a:=rw';rw[z];exact jd hc
  | ty n=>
   have z:w=Value.type n:=rw';rw[z];exact jd hc
  |_=>cases hc
 subst ew;exact qgs I ru ty e λtk=>⟨.bl b,H,I.tok tk,rfl,q⟩
theorem q6p{K:FrG}{v:Value}:PySem.W.kitOne K v v=some true:=by unfold PySem.W.kitOne;rw[if_pos (beq_self_eq_true v)]
theorem q2g{K:FrG}{T U:String}{b:Bool}(hm:PySem.W.kitMeta U=true)(h3:PySem.W.subIn K (.type T) (.type U)=some b)(hn:Value.type T≠.type U):PySem.W.kitOne K (.type T) (.type U)=some b:=by unfold PySem.W.kitOne;rw[if_neg (λz=>hn (eq_of_beq z))];unfold PySem.W.kitCls;dsimp only;rw[if_pos hm];exact h3
theorem q7w:∀{bs:List Bool} {us:List Value},Vals (bs.map V.bl) us->us=bs.map Value.bool
 |[],us,r=>by cases r;rfl
 | b::bs,us,r=>by
  cases r with
  | cons h t=>
   have e:_=Value.bool b:=h;rw[e,q7w t];rfl
theorem range_all{α:Type}(l:List α)(f:α->Bool)(tr:Nat->Bool)(h:∀i x,l[i]? =some x->tr i=f x):(List.range l.length).all tr=l.all f:=by
 induction l generalizing tr with
 |nil=>rfl
 | cons a l ih=>
  rw[ju,List.range_succ_eq_map,List.all_cons,List.all_map,List.all_cons,h 0 a rfl];congr 1;exact ih (λi=>tr (i+1)) λi x e=>h (i+1) x (by simpa using e)
theorem qjv{K:FrG}(hK:X.K=K)(hc:X.calm=true):q4w X (.builtin "all") (λxs H Q=>∃(p:Addr) (bs:List Bool),xs=[.ref p]/\SqL K H p (bs.map V.bl)/\Q (.bl (bs.all id)) H):=by
 subst hK;intro z9 s σ H xs us Q I r h;obtain⟨p,bs,rfl,hq,q⟩:=h;obtain⟨u,rfl,ru⟩:=vals1 r;cases ru;obtain⟨its,rv,pl,hz⟩:=I.list hq;have hh:X.A.in1.handled=none:=I.ok.hd hc;have eits:=q7w rv;have hl:=pl.isList;have hlt:p<s.heap.objs.size:=by obtain⟨_,e,_⟩:=hl;exact jb e
 refine call_all_walk (wpAny_pyIter_list hl ?_);refine⟨_,_,_,_,_,_,λi=>bs.getD i false,rfl,Walks.list hh s.heap.objs.size p (jm hlt) its.toArray,⟨⟨_,jr _ rfl,rfl,rfl⟩,hl.push _⟩,λi v s' Q' E' hP hQ=>?_,λh' tk hk=>?_⟩
 ·have e:(bs.map Value.bool)[i]? =some v:=by rw[<-eits];simpa using hP
  rw[je]at e;cases z:bs[i]? with
  |none=>rw[z]at e;cases e
  | some b=>
   rw[z]at e;have e':v=Value.bool b:=(jd e).symm;subst e';refine k8 ?_;have:bs.getD i false=b:=by rw[jz,z];rfl
   dsimp only at hQ;rw[this]at hQ;exact hQ
 ·have len:its.toArray.size=bs.length:=by rw[eits];simp
  refine⟨.bl (bs.all id),H,I.kept (t':=tk) λb o e=>hk b o (λz=>?_) (jh _ e),?_,q⟩
  ·have:=jb e;rw[List.mem_singleton.mp z]at this;exact xh _ this
  ·show Value.bool _=Value.bool _;rw[len,range_all bs id];intro i x e;rw[jz,e];rfl
mutual
inductive DV(K:FrG)(H:Hp):V->PyData->Prop
 |non:DV K H .non .none
 |bl (b:Bool):DV K H (.bl b) (.bool b)
 |int (i:Int):DV K H (.int i) (.int i)
 |str (x:Str):DV K H (.str x) (.str x)
 |lst {a:Addr} {xs:List V} {ds:List PyData}:SqL K H a xs->DVs K H xs ds->DV K H (.ref a) (.list ds)
 |tup {a:Addr} {xs:List V} {ds:List PyData}:SqT K H a xs->DVs K H xs ds->DV K H (.ref a) (.tuple ds)
inductive DVs(K:FrG)(H:Hp):List V->List PyData->Prop
 |nil:DVs K H [] []
 |cons {x:V} {xs:List V} {d:PyData} {ds:List PyData}:DV K H x d->DVs K H xs ds->DVs K H (x::xs) (d::ds)
end
mutual
theorem q5x{z9:List (Addr×Obj)}{σ:St}{H:Hp}{s:Shared}(I:Inv X z9 σ H s):∀{x:V} {d:PyData} {u:Value},DV X.K H x d->RelV x u->∃as,Reads s.heap u d as
 |_,_,u,.non,r=>by cases(show u=Value.none from r);exact⟨_,.none⟩
 |_,_,u,.bl b,r=>by cases(show u=Value.bool b from r);exact⟨_,.bool b⟩
 |_,_,u,.int i,r=>by obtain⟨t,e⟩:=(show∃t,u=Value.int i t from r);cases e;exact⟨_,.int i t⟩
 |_,_,u,.str x,r=>by obtain⟨t,e⟩:=(show∃t,u=Value.str x t from r);cases e;exact⟨_,.str x t⟩
 | _,_,u,.lst (a:=a) hq hs,r=>by cases(show u=Value.ref a from r);obtain⟨its,rv,pl,_⟩:=I.list hq;obtain⟨o,e,c,n,dd⟩:=pl.isList;obtain⟨as,q⟩:=q5j I hs rv;exact⟨_,reads_list_at e c dd (by simpa using q)⟩
 | _,_,u,.tup (a:=a) hq hs,r=>by cases(show u=Value.ref a from r);obtain⟨its,rv,pl,_⟩:=I.tuple hq;obtain⟨o,e,c,n,dd⟩:=pl;obtain⟨as,q⟩:=q5j I hs rv;exact⟨_,reads_tuple_at e c dd (by simpa using q)⟩
theorem q5j{z9:List (Addr×Obj)}{σ:St}{H:Hp}{s:Shared}(I:Inv X z9 σ H s):∀{xs:List V} {ds:List PyData} {us:List Value},DVs X.K H xs ds->Vals xs us->∃as,ReadsAll s.heap us ds as
 |_,_,_,.nil,.nil=>⟨_,.nil⟩
 | _,_,_,.cons h t,.cons r rs=>by obtain⟨as,q⟩:=q5x I h r;obtain⟨bs,p⟩:=q5j I t rs;exact⟨_,.cons q p⟩
end
def rEqD(K:FrG):R2:=λx y H Q=>∃d e,DV K H x d/\DV K H y e/\SeqAt.shaped d=true/\SeqAt.shaped e=true/\Q (.bl (PyData.eqv d e)) H
def rNeD(K:FrG):R2:=λx y H Q=>∃d e,DV K H x d/\DV K H y e/\SeqAt.shaped d=true/\SeqAt.shaped e=true/\Q (.bl (!PyData.eqv d e)) H
theorem q2w{K:FrG}(hK:X.K=K)(hu:X.A.units+64<cLine):OpR X (compareOp .Eq) (rEqD K):=by subst hK;intro z9 s σ H x y v u Q I rx ry h;obtain⟨d,e,hd,he,sd,se,q⟩:=h;obtain⟨as,ra⟩:=q5x I hd rx;obtain⟨bs,rb⟩:=q5x I he ry;exact eq_dataH ra rb sd se hu ⟨.bl _,H,I,rfl,q⟩
theorem q4f{K:FrG}(hK:X.K=K)(hu:X.A.units+64<cLine):OpR X (compareOp .NotEq) (rNeD K):=by subst hK;intro z9 s σ H x y v u Q I rx ry h;obtain⟨d,e,hd,he,sd,se,q⟩:=h;obtain⟨as,ra⟩:=q5x I hd rx;obtain⟨bs,rb⟩:=q5x I he ry;exact ne_dataH ra rb sd se hu ⟨.bl _,H,I,rfl,q⟩
structure MkN(K:FrG)(C:Addr):Prop where
 makes:PySem.W.makesIn K C=true
 init:PySem.W.findIn K (.ref C) "__init__"=some (some (.builtin "object.__init__"))
 kp:PySem.W.keepIn K (.ref C)=true
def qki(C:Addr):TE:=λ_ H Q=>∀x dx,H x=none->H dx=none->dx≠x->Q (.ref x) (upd (upd H dx (.own x)) x (.ins C dx []))
theorem qfe{C:Addr}{z9:List (Addr×Obj)}{σ:St}{H:Hp}{s:Shared}{Q:VK}(M:MkN X.K C)(I:Inv X z9 σ H s)
 (h:∀x dx,H x=none->H dx=none->dx≠x->Q (.ref x) (upd (upd H dx (.own x)) x (.ins C dx []))):wpAny (model X.prog X.w) X.A (call (.ref C) []) (EP X z9 σ Q) X.xe s:=by
 have hq:=h (s.heap.objs.size+1) s.heap.objs.size (I.hok.fresh (Nat.le_succ _)) (I.hok.fresh (jg _)) (jm (Nat.lt_succ_self _));have I2:=Inv.made (C:=C) I;refine wpAny_call (qgg I.kIn M.makes M.init (λself=>PySem.W.Looks.of_pure (PySem.W.oi_bind self)) ?_);have Y:=PySem.W.makes_of (M:=model X.prog X.w) I.kIn M.makes;have g1:((s.heap.push PySem.W.emptyDict).push (PySem.W.instObj C s.heap.objs.size)).get? (s.heap.objs.size+1)=some (PySem.W.instObj C s.heap.objs.size):=by
  have z:=jr (o:=PySem.W.instObj C s.heap.objs.size) (s.heap.push PySem.W.emptyDict) rfl
  rwa [xn]at z
 have t1:PySem.W.Looks (model X.prog X.w) ((s.heap.push PySem.W.emptyDict).push (PySem.W.instObj C s.heap.objs.size)) (typeOf (.ref (s.heap.objs.size+1))) (.ref C):=(PySem.W.Looks.ld g1).andThen .now;have t2:PySem.W.Looks (model X.prog X.w) ((s.heap.push PySem.W.emptyDict).push (PySem.W.instObj C s.heap.objs.size)) (isInstance (.ref (s.heap.objs.size+1)) (.type "object")) true:=
  t1.andThen (Y.top.keeps λb o e=>jh _ (jh _ e))
 refine codeAny_call_builtin PySem.W.oi_plain PySem.W.entry_oi (PySem.W.check_slot PySem.W.oi_kind PySem.W.oi_split t2 (PySem.W.oi_args _) ?_);rw[PySem.W.oi_run];exact jc ⟨rfl,⟨.ref (s.heap.objs.size+1),_,I2,rfl,hq⟩⟩
theorem qig{C:Addr}{x:Str}{p pos:Pos}(M:MkN X.K C)(hg:Gl X x)(hm:X.mg x=some (.ref C))(hdb:(x==("__debug__":Str))=false:=by decide):PE X (.Call (.Name x p) [] [] pos) (qki C):=by intro z9 s σ H Q I h;refine xy (q67 I hg hm ?_ hdb);exact PySem.W.callWith_K0 I.kIn M.kp (qfe M I h)
end
def seqIs(b:Bool)(h:Heap)(l:Addr)(xs:Array Value):Prop:=match b with
 |true=>h.IsList l xs
 |false=>h.IsTuple l xs
def iterIs(b:Bool)(h:Heap)(i l:Addr)(k:Nat):Prop:=match b with
 |true=>h.IsListIter i l k
 |false=>h.IsTupleIter i l k
def q5i(b:Bool)(l:Addr):Obj:={cls:=.type (if b then "list_iterator" else "tuple_iterator"),data:=.fields #[.ref l,.int 0 0]}
theorem seqIs.at_{b:Bool}{h h':Heap}{l:Addr}{xs:Array Value}(q:seqIs b h l xs)(e:∀o,h.get? l=some o->h'.get? l=some o):seqIs b h' l xs:=by
 cases b
 ·obtain⟨o,z,r⟩:=(show h.IsTuple l xs from q);exact(show h'.IsTuple l xs from⟨o,e o z,r⟩)
 ·obtain⟨o,z,r⟩:=(show h.IsList l xs from q);exact(show h'.IsList l xs from⟨o,e o z,r⟩)
theorem iterIs.at_{b:Bool}{h h':Heap}{i l:Addr}{k:Nat}(q:iterIs b h i l k)(e:∀o,h.get? i=some o->h'.get? i=some o):iterIs b h' i l k:=by
 cases b
 ·obtain⟨o,z,r⟩:=(show h.IsTupleIter i l k from q);exact(show h'.IsTupleIter i l k from⟨o,e o z,r⟩)
 ·obtain⟨o,z,r⟩:=(show h.IsListIter i l k from q);exact(show h'.IsListIter i l k from⟨o,e o z,r⟩)
theorem iterIs.obj{b:Bool}{h:Heap}{i l:Addr}{k:Nat}(q:iterIs b h i l k):∃o,h.get? i=some o/\∀v,o.data≠.cell v:=by
 cases b
 ·obtain⟨o,z,_,d⟩:=(show h.IsTupleIter i l k from q);exact⟨o,z,λv e=>by rw[d]at e;cases e⟩
 ·obtain⟨o,z,_,d⟩:=(show h.IsListIter i l k from q);exact⟨o,z,λv e=>by rw[d]at e;cases e⟩
theorem iterIs.mk_{b:Bool}{h:Heap}{i l:Addr}(q:h.get? i=some (q5i b l)):iterIs b h i l 0:=by
 cases b
 ·exact(show h.IsTupleIter i l 0 from⟨_,q,rfl,rfl⟩)
 ·exact(show h.IsListIter i l 0 from⟨_,q,rfl,rfl⟩)
section
variable{prog:Program}{w:World}{A:Around}{E:Value->Shared->Prop}{s:Shared}
theorem q80{b:Bool}{l:Addr}{xs:Array Value}{Q:Value->Shared->Prop}(q:seqIs b s.heap l xs)(h:Q (.ref s.heap.objs.size) {s with heap:=s.heap.push (q5i b l)}):wpAny (model prog w) A (pyIter (.ref l)) Q E s:=by
 cases b
 ·exact wpAny_pyIter_tuple (show s.heap.IsTuple l xs from q) h
 ·exact wpAny_pyIter_list (show s.heap.IsList l xs from q) h
theorem q9s{i l:Addr}{k:Nat}{xs:Array Value}{x:Value}{Q:Value->Shared->Prop}(st:s.heap.IsTupleIter i l k)(tp:s.heap.IsTuple l xs)(e:xs[k]? =some x)
 (h:∀h',h'.IsTupleIter i l (k+1)->Heap.SameBut i s.heap h'->Q x {s with heap:=h'}):wpAny (model prog w) A (Builtin.SmallTypes.nextOf (.ref i)) Q E s:=by
 obtain⟨oi,gi,ci,di⟩:=id st;obtain⟨ot,gt,_,nt,dt⟩:=tp;unfold Builtin.SmallTypes.nextOf;refine j8 (ko (name:=Str.ofString "__next__") st.typeIs ky (wpAny_call_entry ky st.typeIs F.entry_tuple_iterator_next ?_ (F.args_tuple_iterator_next_1 _)));show wpAny _ _ (field (.ref i) 0 >>= _) _ _ s;refine j8 (xc gi di (x:=.ref l) rfl ?_);show wpAny _ _ (if(Value.ref l==Value.none)=true then _ else _) _ _ s;rw[if_neg (by exact Bool.false_ne_true:¬((Value.ref l==Value.none)=true))];show wpAny _ _ (field (.ref i) 1 >>= _) _ _ s;refine j8 (xc gi di (x:=.int k 0) rfl ?_);show wpAny _ _ (seqItems? (.ref l) >>= _) _ _ s;refine j8 (xo gt dt ?_);simp only[Int.toNat_natCast,e];refine j8 (wpAny_setField gi di (by simp) (jc ⟨x,rfl,jc (h _ ?_ (Heap.SameBut.update ..))⟩));refine⟨_,kq _ gi (Obj.isFreed_of_fields (ku di _)),(Obj.cls_mapFields ..).trans ci,?_⟩;rw[ku di];simp[rawInt]
theorem q6n{i l:Addr}{k:Nat}{xs:Array Value}{Q:Value->Shared->Prop}(hh:A.handled=none)(st:s.heap.IsTupleIter i l k)(tp:s.heap.IsTuple l xs)(e:xs[k]? =none)
 (h:∀h' x,Heap.ExtBut i s.heap h'->(∃o,h'.get? x=some o/\o.cls=.type "StopIteration")->E (.ref x) {s with heap:=h'}):wpAny (model prog w) A (Builtin.SmallTypes.nextOf (.ref i)) Q E s:=by
 obtain⟨oi,gi,ci,di⟩:=id st;obtain⟨ot,gt,_,nt,dt⟩:=tp;unfold Builtin.SmallTypes.nextOf;refine j8 (ko (name:=Str.ofString "__next__") st.typeIs ky (wpAny_call_entry ky st.typeIs F.entry_tuple_iterator_next ?_ (F.args_tuple_iterator_next_1 _)));show wpAny _ _ (field (.ref i) 0 >>= _) _ _ s;refine j8 (xc gi di (x:=.ref l) rfl ?_);show wpAny _ _ (if(Value.ref l==Value.none)=true then _ else _) _ _ s;rw[if_neg (by exact Bool.false_ne_true:¬((Value.ref l==Value.none)=true))];show wpAny _ _ (field (.ref i) 1 >>= _) _ _ s;refine j8 (xc gi di (x:=.int k 0) rfl ?_);show wpAny _ _ (seqItems? (.ref l) >>= _) _ _ s;refine j8 (xo gt dt ?_);simp only[Int.toNat_natCast,e];refine j8 (wpAny_rule (j8 (wpAny_setField gi di (by simp) ?_)));show wpAny _ _ (newExc (.type "StopIteration") [] >>= _) _ _ _;refine j8 ?_;simp only[newExc,newTuple];refine j8 (xu ?_ (by size_fits));refine j8 (m:=firstArgMember _ _) (wpAny_of_eq (a:=Value.none) (by first|rfl|(simp only[firstArgMember]<;>rfl)) ?_);refine xu ?_ (by size_fits);simp only[raiseNew];refine j8 (wpAny_handled ?_)
 first|rw[(hh:A.in1.handled=none)]|rw[hh]
 refine j8 (jc (wpAny_throw ?_));exact h _ _ (((Heap.SameBut.update ..).extBut.push _).push _) ⟨_,jr _ rfl,rfl⟩
theorem q64{b:Bool}{i l:Addr}{k:Nat}{xs:Array Value}{x:Value}{Q:Value->Shared->Prop}(st:iterIs b s.heap i l k)(tp:seqIs b s.heap l xs)(e:xs[k]? =some x)
 (h:∀h',iterIs b h' i l (k+1)->Heap.SameBut i s.heap h'->Q x {s with heap:=h'}):wpAny (model prog w) A (Builtin.SmallTypes.nextOf (.ref i)) Q E s:=by
 cases b
 ·exact q9s st tp e h
 ·exact wpAny_nextOf_list_item st tp e h
theorem q58{b:Bool}{i l:Addr}{k:Nat}{xs:Array Value}{Q:Value->Shared->Prop}(hh:A.handled=none)(st:iterIs b s.heap i l k)(tp:seqIs b s.heap l xs)(e:xs[k]? =none)
 (h:∀h' x,Heap.ExtBut i s.heap h'->(∃o,h'.get? x=some o/\o.cls=.type "StopIteration")->E (.ref x) {s with heap:=h'}):wpAny (model prog w) A (Builtin.SmallTypes.nextOf (.ref i)) Q E s:=by
 cases b
 ·exact q6n hh st tp e h
 ·exact wpAny_nextOf_list_end hh st tp e h
theorem qhv{z TI TO i1 i2 l1 l2:Addr}{b1 b2:Bool}{k1 k2:Nat}{xs ys:Array Value}{x y a b:Value}{Q:Option Value->Shared->Prop}(D:ZipApart z TI TO i1 i2 l1 l2)
 (hz:IsZip s.heap z TI TO .none) (hTI:IsPair s.heap TI (.ref i1) (.ref i2)) (hTO:IsPair s.heap TO a b) (h1:iterIs b1 s.heap i1 l1 k1) (h2:iterIs b2 s.heap i2 l2 k2) (q1:seqIs b1 s.heap l1 xs) (q2:seqIs b2 s.heap l2 ys) (hx:xs[k1]? =some x) (hy:ys[k2]? =some y)
 (hQ:∀h',IsZip h' z TI TO (rawInt s.heap.objs.size)->IsPair h' TO x y->iterIs b1 h' i1 l1 (k1+1)->iterIs b2 h' i2 l2 (k2+1)->IsPair h' s.heap.objs.size x y->
   (∀c o,c≠z->c≠TO->c≠i1->c≠i2->s.heap.get? c=some o->h'.get? c=some o)->Q (some (.ref s.heap.objs.size)) {s with heap:=h'}):wpAny (model prog w) A (pyNext (.ref z)) Q E s:=by
 have ty:s.TypeIs (.ref z) "zip":=⟨_,hz,rfl⟩;unfold pyNext;refine j8 (wpAny_attempt (ko (name:=Str.ofString "__next__") ty F.slot_zip_next (wpAny_call_entry F.slot_zip_next ty F.entry_zip_next ?_ (F.args_zip_next_1 _))));show wpAny _ _ (field (.ref z) 2 >>= _) _ _ _;refine j8 (xc hz rfl (x:=.bool false) rfl ?_);show wpAny _ _ (field (.ref z) 3 >>= _) _ _ _;refine j8 (xc hz rfl (x:=.ref TI) rfl (j8 (xo hTI rfl ?_)));show wpAny _ _ (Builtin.SmallTypes.ownedTupleIsFree (.ref z) >>= _) _ _ _;refine j8 ?_;unfold Builtin.SmallTypes.ownedTupleIsFree;refine j8 (xc hz rfl (x:=.none) rfl (jc ?_));simp only[if_true];refine j8 (wpAny_rule (j8 (xc hz rfl (x:=.ref TO) rfl (j8 (kh hz (by simp) λg1 z1 s1=>?_)))));have Z1:IsZip g1 z TI TO .ellipsis:=z1;refine j8 ?_;simp only[List.zipIdx_cons,List.zipIdx_nil,List.forIn_cons,List.forIn_nil];refine j8 (j8 (wpAny_onRaise ?_));show wpAny _ _ (Builtin.SmallTypes.nextOf (.ref i1) >>= _) _ _ _;refine j8 (q64 (h1.at_ λo e=>s1.extBut _ o D.i1z e) (q1.at_ λo e=>s1.extBut _ o D.l1z e) hx λg2 n2 s2=>jc ?_);have P2:IsPair g2 TO a b:=s2.extBut _ _ D.TOi1 (s1.extBut _ _ D.TOz hTO);refine j8 (xo P2 rfl (j8 (wpAny_updateSeq_pair P2 λg3 p3 s3=>j8 (wpAny_letGo (jc ?_)))));have P3:IsPair g3 TO x b:=p3;refine j8 (j8 (wpAny_onRaise ?_));show wpAny _ _ (Builtin.SmallTypes.nextOf (.ref i2) >>= _) _ _ _;refine j8 (q64 (h2.at_ λo e=>s3.extBut _ o D.TOi2.symm (s2.extBut _ o D.i12.symm (s1.extBut _ o D.i2z e))) (q2.at_ λo e=>s3.extBut _ o D.l2TO (s2.extBut _ o D.l2i1 (s1.extBut _ o D.l2z e))) hy λg4 n4 s4=>jc ?_);have P4:IsPair g4 TO x b:=s4.extBut _ _ D.TOi2 P3;refine j8 (xo P4 rfl (j8 (wpAny_updateSeq_pair P4 λg5 p5 s5=>j8 (wpAny_letGo (jc (jc ?_))))));have P5:IsPair g5 TO x y:=p5;refine j8 (xo P5 rfl (j8 (wpAny_newTuple ?_)));have sz:g5.objs.size=s.heap.objs.size:=by rw[s5.1,s4.1,s3.1,s2.1,s1.1]
 have Z5:IsZip g5 z TI TO .ellipsis:=s5.extBut _ _ D.TOz.symm (s4.extBut _ _ D.i2z.symm (s3.extBut _ _ D.TOz.symm (s2.extBut _ _ D.i1z.symm Z1)));have K5:∀c o,c≠z->c≠TO->c≠i1->c≠i2->s.heap.get? c=some o->g5.get? c=some o:=λc o c1 c2 c3 c4 e=>s5.extBut _ _ c2 (s4.extBut _ _ c4 (s3.extBut _ _ c2 (s2.extBut _ _ c3 (s1.extBut _ _ c1 e))));have N1:iterIs b1 g5 i1 l1 (k1+1):=n2.at_ λo e=>s5.extBut _ o D.TOi1.symm (s4.extBut _ o D.i12 (s3.extBut _ o D.TOi1.symm e));have N2:iterIs b2 g5 i2 l2 (k2+1):=n4.at_ λo e=>s5.extBut _ o D.TOi2.symm e;have zlt:z<g5.objs.size:=jb Z5;show wpAny _ _ (Builtin.SmallTypes.ownedTupleHandOut (.ref z) (.ref g5.objs.size) >>= _) _ _ _;refine j8 ?_;unfold Builtin.SmallTypes.ownedTupleHandOut;have Z6:IsZip (g5.push {cls:=.type "tuple",data:=.seq #[x,y]}) z TI TO .ellipsis:=jh _ Z5;refine j8 (kh Z6 (by simp) λg7 z7 s7=>?_);have Z7:IsZip g7 z TI TO (rawInt g5.objs.size):=z7;refine kh Z7 (by simp) λg8 z8 s8=>?_;have Z8:IsZip g8 z TI TO (rawInt g5.objs.size):=z8;have up:∀c o,c≠z->g5.get? c=some o->g8.get? c=some o:=λc o c1 e=>s8.extBut _ _ c1 (s7.extBut _ _ c1 (jh _ e));have T8:IsPair g8 g5.objs.size x y:=s8.extBut _ _ (Nat.ne_of_gt zlt) (s7.extBut _ _ (Nat.ne_of_gt zlt) (jr _ rfl));rw[sz]at Z8 T8;refine jc ⟨_,rfl,jc ?_⟩;show Q (some (.ref g5.objs.size)) _;rw[sz];exact hQ g8 Z8 (up _ _ D.TOz P5) (N1.at_ λo e=>up _ o D.i1z e) (N2.at_ λo e=>up _ o D.i2z e) T8 λc o c1 c2 c3 c4 e=>up c o c1 (K5 c o c1 c2 c3 c4 e)
theorem qlp{z TI TO i1 i2 l1 l2:Addr}{b1 b2:Bool}{k1 k2:Nat}{xs ys:Array Value}{a b:Value}{Q:Option Value->Shared->Prop}(hh:A.handled=none)(D:ZipApart z TI TO i1 i2 l1 l2)
 (hz:IsZip s.heap z TI TO .none) (hTI:IsPair s.heap TI (.ref i1) (.ref i2)) (hTO:IsPair s.heap TO a b) (h1:iterIs b1 s.heap i1 l1 k1) (h2:iterIs b2 s.heap i2 l2 k2) (q1:seqIs b1 s.heap l1 xs) (q2:seqIs b2 s.heap l2 ys) (hend:xs[k1]? =none∨ys[k2]? =none)
 (hQ:∀h',(∀c o,c≠z->c≠TO->c≠i1->c≠i2->s.heap.get? c=some o->h'.get? c=some o)->Q none {s with heap:=h'}):wpAny (model prog w) A (pyNext (.ref z)) Q E s:=by
 have ty:s.TypeIs (.ref z) "zip":=⟨_,hz,rfl⟩;have fin:∀(h':Heap) (e:Addr),(∀c o,c≠z->c≠TO->c≠i1->c≠i2->s.heap.get? c=some o->h'.get? c=some o)->(∃o,h'.get? e=some o/\o.cls=.type "StopIteration")->
  wpAny (model prog w) A (isInstance (.ref e) (.type "StopIteration") >>= λr=>if r=true then pure none else throw (.ref e)) Q E {s with heap:=h'}:=λh' e hk ⟨o,ho,hc⟩=>
  j8 (wpAny_isInstance (T:="StopIteration") (b:=true) ⟨o,ho,hc⟩ isSubtype_stop (jc (hQ _ hk)))
 unfold pyNext;refine j8 (wpAny_attempt (ko (name:=Str.ofString "__next__") ty F.slot_zip_next (wpAny_call_entry F.slot_zip_next ty F.entry_zip_next ?_ (F.args_zip_next_1 _))));show wpAny _ _ (field (.ref z) 2 >>= _) _ _ _;refine j8 (xc hz rfl (x:=.bool false) rfl ?_);show wpAny _ _ (field (.ref z) 3 >>= _) _ _ _;refine j8 (xc hz rfl (x:=.ref TI) rfl (j8 (xo hTI rfl ?_)));show wpAny _ _ (Builtin.SmallTypes.ownedTupleIsFree (.ref z) >>= _) _ _ _;refine j8 ?_;unfold Builtin.SmallTypes.ownedTupleIsFree;refine j8 (xc hz rfl (x:=.none) rfl (jc ?_));simp only[if_true];refine j8 (wpAny_rule (j8 (xc hz rfl (x:=.ref TO) rfl (j8 (kh hz (by simp) λg1 z1 s1=>?_)))));have Z1:IsZip g1 z TI TO .ellipsis:=z1;refine j8 ?_;simp only[List.zipIdx_cons,List.zipIdx_nil,List.forIn_cons,List.forIn_nil];refine j8 (j8 (wpAny_onRaise ?_));show wpAny _ _ (Builtin.SmallTypes.nextOf (.ref i1) >>= _) _ _ _;have I1:iterIs b1 g1 i1 l1 k1:=h1.at_ λo e=>s1.extBut _ o D.i1z e;have L1:seqIs b1 g1 l1 xs:=q1.at_ λo e=>s1.extBut _ o D.l1z e;cases ex:xs[k1]? with
 | none=>
  refine j8 (q58 hh I1 L1 ex λg2 e s2 he=>?_);obtain⟨oe,he,ce⟩:=he;have Z2:IsZip g2 z TI TO .ellipsis:=s2 _ _ D.i1z.symm Z1;have nez:e≠z:=λq=>by subst q;rw[Z2]at he;cases he;simp at ce
  exact kh Z2 (by simp) λg3 _ s3=>fin g3 e (λc o c1 _ c3 _ q=>s3.extBut _ _ c1 (s2 _ _ c3 (s1.extBut _ _ c1 q))) ⟨oe,s3.extBut _ _ nez he,ce⟩
 | some x=>
  have ey:ys[k2]? =none:=by
   rcases hend with q|q
   ·rw[ex]at q;cases q
   ·exact q
  refine j8 (q64 I1 L1 ex λg2 n2 s2=>jc ?_);have P2:IsPair g2 TO a b:=s2.extBut _ _ D.TOi1 (s1.extBut _ _ D.TOz hTO);refine j8 (xo P2 rfl (j8 (wpAny_updateSeq_pair P2 λg3 p3 s3=>j8 (wpAny_letGo (jc ?_)))));refine j8 (j8 (wpAny_onRaise ?_));show wpAny _ _ (Builtin.SmallTypes.nextOf (.ref i2) >>= _) _ _ _;refine j8 (q58 hh (h2.at_ λo e=>s3.extBut _ o D.TOi2.symm (s2.extBut _ o D.i12.symm (s1.extBut _ o D.i2z e))) (q2.at_ λo e=>s3.extBut _ o D.l2TO (s2.extBut _ o D.l2i1 (s1.extBut _ o D.l2z e))) ey λg4 e s4 he=>?_);obtain⟨oe,he,ce⟩:=he;have Z4:IsZip g4 z TI TO .ellipsis:=s4 _ _ D.i2z.symm (s3.extBut _ _ D.TOz.symm (s2.extBut _ _ D.i1z.symm Z1));have nez:e≠z:=λq=>by subst q;rw[Z4]at he;cases he;simp at ce
  exact kh Z4 (by simp) λg5 _ s5=>fin g5 e (λc o c1 c2 c3 c4 q=>s5.extBut _ _ c1 (s4 _ _ c4 (s3.extBut _ _ c2 (s2.extBut _ _ c3 (s1.extBut _ _ c1 q))))) ⟨oe,s5.extBut _ _ nez he,ce⟩
abbrev zo1(b1:Bool)(h:Heap)(l1:Addr):Heap:=h.push (q5i b1 l1)
abbrev zo2(b1 b2:Bool)(h:Heap)(l1 l2:Addr):Heap:=(zo1 b1 h l1).push (q5i b2 l2)
abbrev zo3(b1 b2:Bool)(h:Heap)(l1 l2:Addr):Heap:=(zo2 b1 b2 h l1 l2).push {cls:=.type "tuple",data:=.seq #[.ref h.objs.size,.ref (zo1 b1 h l1).objs.size]}
abbrev zo4(b1 b2:Bool)(h:Heap)(l1 l2:Addr):Heap:=(zo3 b1 b2 h l1 l2).push {cls:=.type "tuple",data:=.seq #[.none,.none]}
abbrev zo5(b1 b2:Bool)(h:Heap)(l1 l2:Addr):Heap:=(zo4 b1 b2 h l1 l2).push {cls:=.type "zip",data:=.fields #[.none,.bool false,.bool false,.ref (zo2 b1 b2 h l1 l2).objs.size,.ref (zo3 b1 b2 h l1 l2).objs.size]}
theorem qlo(b1 b2:Bool)(l1 l2:Addr)(xs ys:Array Value):Meets (Builtin.«zip.__new__» ⟨[.type "zip",.ref l1,.ref l2],[]⟩) (λ_ R s=>seqIs b1 s.heap l1 xs/\seqIs b2 s.heap l2 ys/\
 R (.ok (.ret (.ref (zo4 b1 b2 s.heap l1 l2).objs.size))) {s with heap:=zo5 b1 b2 s.heap l1 l2}):=by
 refine .of_wp λprog w A R s q=>?_;obtain⟨hp,g,d,tk,os⟩:=s;obtain⟨q1,q2,q⟩:=q;have sub:=sub_zip;have L1:seqIs b1 (Shared.heap ⟨hp,g,d,tk,os⟩) l1 xs:=q1;have L2':seqIs b2 (Shared.heap ⟨hp.push (q5i b1 l1),g,d,tk,os⟩) l2 ys:=q2.at_ λo z=>jh _ z
 wp_walk using q80 L1,q80 L2'
 exact⟨_,rfl,q⟩
theorem qjt{b1 b2:Bool}{l1 l2:Addr}{xs ys:Array Value}{Q:Value->Shared->Prop}(q1:seqIs b1 s.heap l1 xs)(q2:seqIs b2 s.heap l2 ys)
 (h:∀h',IsZip h' (s.heap.objs.size+4) (s.heap.objs.size+2) (s.heap.objs.size+3) .none->IsPair h' (s.heap.objs.size+2) (.ref s.heap.objs.size) (.ref (s.heap.objs.size+1))->IsPair h' (s.heap.objs.size+3) .none .none->
   iterIs b1 h' s.heap.objs.size l1 0->iterIs b2 h' (s.heap.objs.size+1) l2 0->(∀c o,s.heap.get? c=some o->h'.get? c=some o)->Q (.ref (s.heap.objs.size+4)) {s with heap:=h'}):
 wpAny (model prog w) A (call (.type "zip") [.ref l1,.ref l2]) Q E s:=by
 refine callType_new F.called_zip (by decide) (F.typeCall_zip_2 _ _) (F.newCall_zip_2 _ _) (λobj=>F.args_object_init_3 obj _ _) F.entry_zip_new (qlo b1 b2 l1 l2 xs ys) ⟨q1,q2,?_⟩;have y1:(zo1 b1 s.heap l1).objs.size=s.heap.objs.size+1:=xn ..;have y2:(zo2 b1 b2 s.heap l1 l2).objs.size=s.heap.objs.size+2:=by rw[xn,y1]
 have y3:(zo3 b1 b2 s.heap l1 l2).objs.size=s.heap.objs.size+3:=by rw[xn,y2]
 have y4:(zo4 b1 b2 s.heap l1 l2).objs.size=s.heap.objs.size+4:=by rw[xn,y3]
 have k5:(zo5 b1 b2 s.heap l1 l2).get? (zo4 b1 b2 s.heap l1 l2).objs.size=some _:=jr _ rfl;have k4:(zo5 b1 b2 s.heap l1 l2).get? (zo3 b1 b2 s.heap l1 l2).objs.size=some _:=jh _ (jr _ rfl);have k3:(zo5 b1 b2 s.heap l1 l2).get? (zo2 b1 b2 s.heap l1 l2).objs.size=some _:=jh _ (jh _ (jr _ rfl));have k2:(zo5 b1 b2 s.heap l1 l2).get? (zo1 b1 s.heap l1).objs.size=some (q5i b2 l2):=jh _ (jh _ (jh _ (jr _ (by cases b2<;>rfl))));have k1:(zo5 b1 b2 s.heap l1 l2).get? s.heap.objs.size=some (q5i b1 l1):=jh _ (jh _ (jh _ (jh _ (jr _ (by cases b1<;>rfl)))));show _/\_;rw[y2,y3,y4]at k5;rw[y1,y2]at k3;rw[y3]at k4;rw[y1]at k2;rw[y4];exact⟨⟨_,k5,rfl⟩,h _ k5 k3 k4 (iterIs.mk_ k1) (iterIs.mk_ k2) λc o x=>jh _ (jh _ (jh _ (jh _ (jh _ x))))⟩
end
def SqB(K:FrG)(b:Bool)(H:Hp)(p:Addr)(xs:List V):Prop:=match b with
 |true=>SqL K H p xs
 |false=>SqT K H p xs
section
variable{X:Cx}{z9:List (Addr×Obj)}{σ:St}{H:Hp}{s:Shared}{b b1 b2:Bool}{p p1 p2:Addr}{xs ys:List V}
theorem Inv.seqB(I:Inv X z9 σ H s)(h:SqB X.K b H p xs):∃its:List Value,Vals xs its/\seqIs b s.heap p its.toArray/\xs.length<=sizeLine:=by
 cases b
 ·obtain⟨its,r,q,hz⟩:=I.tuple (show SqT X.K H p xs from h);exact⟨its,r,(show s.heap.IsTuple p its.toArray from q),hz⟩
 ·obtain⟨its,r,q,hz⟩:=I.list (show SqL X.K H p xs from h);exact⟨its,r,(show s.heap.IsList p its.toArray from q.isList),hz⟩
theorem Inv.seqB_inj(I:Inv X z9 σ H s)(h:SqB X.K b H p xs)(h':SqB X.K b H p ys):xs=ys:=by
 cases b
 ·exact I.tuple_inj h h'
 ·exact I.list_inj h h'
end
def Itz(K:FrG)(b1 b2:Bool)(p1 p2:Addr):It:=
 ⟨λi H=>∃xs ys x y,SqB K b1 H p1 xs/\SqB K b2 H p2 ys/\xs[i]? =some x/\ys[i]? =some y,
  λi H v H'=>∃T x y,v=.ref T/\H T=none/\H'=upd H T (.tup [x,y])/\(∀xs,SqB K b1 H p1 xs->xs[i]? =some x)/\∀ys,SqB K b2 H p2 ys->ys[i]? =some y,
  λi H=>∃xs ys,SqB K b1 H p1 xs/\SqB K b2 H p2 ys/\(xs.length<=i∨ys.length<=i)⟩
def qtk(b1 b2:Bool)(p1 p2 z TI TO i1 i2:Addr)(i:Nat)(h:Heap):Prop:=IsZip h z TI TO .none/\IsPair h TI (.ref i1) (.ref i2)/\(∃a b,IsPair h TO a b)/\iterIs b1 h i1 p1 i/\iterIs b2 h i2 p2 i
theorem qi3{P:Program}{w:World}{K:FrG}{zr:List Expr}{x1:Nat}{pos:Pos}(b1 b2:Bool){p1 p2 z TI TO i1 i2:Addr}(D:ZipApart z TI TO i1 i2 p1 p2):
 Turn P w K (.Tuple zr x1 pos) (Itz K b1 b2 p1 p2) [z,TI,TO,i1,i2] z (qtk b1 b2 p1 p2 z TI TO i1 i2) where
 mem:=by simp
 obj:=λi h st c hc=>by
  obtain⟨hz,hI,⟨a,b,hO⟩,j1,j2⟩:=st;simp only[List.mem_cons,List.not_mem_nil,or_false]at hc;rcases hc with rfl|rfl|rfl|rfl|rfl
  ·exact⟨_,hz,λv e=>by cases e⟩
  ·exact⟨_,hI,λv e=>by cases e⟩
  ·exact⟨_,hO,λv e=>by cases e⟩
  ·exact j1.obj
  ·exact j2.obj
 keep:=λi h h' st k=>by obtain⟨hz,hI,⟨a,b,hO⟩,j1,j2⟩:=st;exact⟨k z (by simp) _ hz,k TI (by simp) _ hI,⟨a,b,k TO (by simp) _ hO⟩,j1.at_ λo e=>k i1 (by simp) o e,j2.at_ λo e=>k i2 (by simp) o e⟩
 item:=by
  intro X hP hw hK hc i z9 s σ H E I hf st hg;subst hP hw hK;obtain⟨xs,ys,x,y,q1,q2,ex,ey⟩:=hg;obtain⟨it1,r1,t1,_⟩:=I.seqB q1;obtain⟨it2,r2,t2,_⟩:=I.seqB q2;obtain⟨u,eu,ru⟩:=r1.get ex;obtain⟨v,ev,rv⟩:=r2.get ey;obtain⟨hz,hI,⟨a,b,hO⟩,j1,j2⟩:=st;refine qhv D hz hI hO j1 j2 t1 t2 (x:=u) (y:=v) (by simpa using eu) (by simpa using ev) λh' z' o' n1 n2 tp kk=>?_;refine⟨_,rfl,?_⟩;refine wpAny_letOwnedTupleGo_zip z' λh'' z'' s''=>?_;have fresh:H s.heap.objs.size=none:=I.hok.fresh (jg _);have zne:s.heap.objs.size≠z:=λe=>by have:=jb hz;rw[<-e]at this;exact xh _ this
  have keep:∀c o,c∉[z,TI,TO,i1,i2]->s.heap.get? c=some o->h''.get? c=some o:=λc o hc e=>by simp only[List.mem_cons,List.not_mem_nil,or_false,not_or]at hc;exact s''.extBut c o hc.1 (kk c o hc.1 hc.2.2.1 hc.2.2.2.1 hc.2.2.2.2 e)
  have tp':h''.get? s.heap.objs.size=some {cls:=.type "tuple",data:=.seq #[u,v]}:=s''.extBut _ _ zne tp;have I':Inv X z9 σ (upd H s.heap.objs.size (.tup [x,y])) {s with heap:=h'',toks:=s.toks}:=by
   refine I.step (g':=s.gens) (d':=s.drawn) (ch:=[z,TI,TO,i1,i2]) (λc hc=>?_) (λc o _ _ hc e _=>keep c o hc e) (λc o _ _ hc e _=>⟨o.slots,keep c o hc e⟩) (λc o _ e n=>?_) (λc o hc e=>⟨o,keep c o hc e⟩)
    (λc zs e=>?_) (λc o w' e=>?_) (λc ps e=>⟨#[],?_⟩) (λm hm=>?_) (λc o e=>?_) I.bare
   ·obtain⟨_,f1,f2,f3,f4,f5⟩:=hf c hc;exact⟨f3,f1,f4,f5⟩
   ·rw[q0j (jm (jb e))];exact n
   ·rw[q0j (q1l e fresh)];exact e
   ·rw[q0j (q1l e fresh)];exact e
   ·rw[q0j (q1l e fresh),e];simp
   ·obtain⟨o,es,ep,ho,r⟩:=hm;exact⟨o,es,ep,keep _ o (λq=>(hf _ q).2.1 rfl) ho,r⟩
   ·by_cases hb:c=s.heap.objs.size
    ·subst hb;rw[q0m]at e;cases e;exact⟨by show 2<=sizeLine;decide,[u,v],.cons ru (.cons rv .nil),⟨_,tp',⟨rfl,_,rfl⟩,rfl⟩⟩
    ·rw[q0j hb]at e;refine(I.hok c o e).stay (λd w' hd q=>keep d w' (λm=>?_) q) (λd q=>?_) λd zs q=>?_
     ·have n:=(hf d m).1;rcases hd with rfl|hd
      ·rw[n]at e;cases e
      ·rw[n]at hd;cases hd
     ·rw[q0j (q1l q fresh)];exact q
     ·rw[q0j (q1l q fresh)];exact q
  refine⟨.ref s.heap.objs.size,_,I',rfl,⟨_,x,y,rfl,fresh,rfl,λzs q=>by rw[I.seqB_inj q q1];exact ex,λzs q=>by rw[I.seqB_inj q q2];exact ey⟩,?_,λc hc=>?_⟩
  ·refine⟨z'',s''.extBut _ _ D.TIz (kk _ _ D.TIz D.TITO D.TIi1 D.TIi2 hI),⟨u,v,s''.extBut _ _ D.TOz o'⟩,n1.at_ λo e=>s''.extBut _ o D.i1z e,n2.at_ λo e=>s''.extBut _ o D.i2z e⟩
  ·have lt:c<s.heap.objs.size:=by
    simp only[List.mem_cons,List.not_mem_nil,or_false]at hc;rcases hc with rfl|rfl|rfl|rfl|rfl
    ·exact jb hz
    ·exact jb hI
    ·exact jb hO
    ·obtain⟨o,e,_⟩:=j1.obj;exact jb e
    ·obtain⟨o,e,_⟩:=j2.obj;exact jb e
   rw[q0j (jm lt)];exact(hf c hc).1
 done:=by
  intro X hP hw hK hc i z9 s σ H E I hf st hg;subst hP hw hK;obtain⟨xs,ys,q1,q2,hl⟩:=hg;obtain⟨it1,r1,t1,_⟩:=I.seqB q1;obtain⟨it2,r2,t2,_⟩:=I.seqB q2;obtain⟨hz,hI,⟨a,b,hO⟩,j1,j2⟩:=st;have l1:=r1.length;have l2:=r2.length;refine qlp (I.ok.hd hc) D hz hI hO j1 j2 t1 t2 (by rcases hl with h|h;exact .inl (by simp;omega);exact .inr (by simp;omega)) λh' kk=>⟨rfl,?_⟩;have keep:∀c o,c∉[z,TI,TO,i1,i2]->s.heap.get? c=some o->h'.get? c=some o:=λc o hc e=>by simp only[List.mem_cons,List.not_mem_nil,or_false,not_or]at hc;exact kk c o hc.1 hc.2.2.1 hc.2.2.2.1 hc.2.2.2.2 e
  show Inv X z9 σ H {s with heap:=h',toks:=s.toks};refine I.step (g':=s.gens) (d':=s.drawn) (ch:=[z,TI,TO,i1,i2]) (λc hc=>?_) (λc o _ _ hc e _=>keep c o hc e) (λc o _ _ hc e _=>⟨o.slots,keep c o hc e⟩) (λc o _ e n=>n) (λc o hc e=>⟨o,keep c o hc e⟩)
   (λc zs e=>e) (λc o w' e=>e) (λc ps e=>⟨#[],by rw[e];simp⟩) (λm hm=>?_) (λc o e=>?_) I.bare
  ·obtain⟨_,f1,f2,f3,f4,f5⟩:=hf c hc;exact⟨f3,f1,f4,f5⟩
  ·obtain⟨o,es,ep,ho,r⟩:=hm;exact⟨o,es,ep,keep _ o (λq=>(hf _ q).2.1 rfl) ho,r⟩
  ·refine(I.hok c o e).stay (λd w' hd q=>keep d w' (λm=>?_) q) (λd q=>q) λd zs q=>q;have n:=(hf d m).1;rcases hd with rfl|hd
   ·rw[n]at e;cases e
   ·rw[n]at hd;cases hd
 self:=λ_ _ _ _ _ st h=>wpAny_pyIter_zip st.1 h
section
variable{X:Cx}{a b:Expr}{ta:TA}{p pos:Pos}{zr:List Expr}{x1:Nat}{tp:Pos}
def iZip(K:FrG)(b1 b2:Bool)(ta:TA):TI:=λσ H R=>ta σ H λvs H1=>∃p1 p2,vs=[.ref p1,.ref p2]/\(∃xs,SqB K b1 H1 p1 xs)/\(∃ys,SqB K b2 H1 p2 ys)/\R (Itz K b1 b2 p1 p2) H1
theorem qby{K:FrG}(b1 b2:Bool)(hK:X.K=K)(hg:Gl X "zip")(hm:X.mg "zip"=none)(ha:PA X [a,b] ta)(he:starEach [a,b] X.env=(false,eval a X.env)::starEach [b] X.env:=by rfl)(hpl:(backTo pos (starEach [b] X.env)).any (·.1)=false:=by rfl):
 PI X (.Tuple zr x1 tp) (.Call (.Name "zip" p) [a,b] [] pos) (iZip K b1 b2 ta):=by
 subst hK;intro z9 s σ H R I h;refine xy (q84 I hg hm (u:=.type "zip") (by rfl) ?_);refine PyProof.Rows.callWith_type1 (thn (ha pos z9 s σ H _ I h) λus s1 h1=>?_) he hpl;obtain⟨vs,H1,I1,r1,p1,p2,rfl,⟨xs,q1⟩,⟨ys,q2⟩,k⟩:=h1;obtain⟨u,w',rfl,ru,rw'⟩:=vals2 r1;cases(show u=Value.ref p1 from ru);cases(show w'=Value.ref p2 from rw');obtain⟨it1,r1,t1,_⟩:=I1.seqB q1;obtain⟨it2,r2,t2,_⟩:=I1.seqB q2;have lt:∀{c:Addr} {b:Bool} {zs:Array Value},seqIs b s1.heap c zs->c<s1.heap.objs.size:=λ{c b zs} q=>by
  cases b
  ·obtain⟨o,e,_⟩:=(show s1.heap.IsTuple c zs from q);exact jb e
  ·obtain⟨o,e,_⟩:=(show s1.heap.IsList c zs from q);exact jb e
 refine qjt t1 t2 λh' hz hI hO j1 j2 kk=>wpAny_pyIter_zip hz ?_;have D:=zipApart_new (lt t1) (lt t2);have I2:Inv X z9 σ H1 {s1 with heap:=h',toks:=s1.toks}:=I1.kept kk;refine⟨_,_,_,_,H1,rfl,I2,qi3 b1 b2 D,⟨hz,hI,⟨_,_,hO⟩,j1,j2⟩,λc hc=>?_,k⟩;have le:s1.heap.objs.size<=c:=by simp only[List.mem_cons,List.not_mem_nil,or_false]at hc;rcases hc with rfl|rfl|rfl|rfl|rfl<;>first|exact jg _|exact Nat.le_add_right _ _
 exact I1.fpOk le (I1.hok.fresh le)
end
theorem qd2{xs:List PyData}(h:PyData.canLayAll0 xs=true)(d:PyData.depthAll xs<=60):SeqAt.shaped (.list xs)=true:=by
 unfold SeqAt.shaped;rw[Bool.and_eq_true];refine⟨?_,decide_eq_true ?_⟩
 ·simpa only[PyData.canLay0]using h
 ·simp only[PyData.depth];omega
theorem qcf:∀xs:List Int,PyData.canLayAll0 (xs.map PyData.int)=true
 |[]=>by simp[PyData.canLayAll0]
 |x::xs=>by simp[PyData.canLayAll0,PyData.canLay0,qcf xs]
theorem qa9:∀xs:List Int,PyData.depthAll (xs.map PyData.int)<=60
 |[]=>by simp[PyData.depthAll]
 | x::xs=>by have:=qa9 xs;simp[PyData.depthAll,PyData.depth];omega
theorem q6y(xs:List Int):SeqAt.shaped (.list (xs.map PyData.int))=true:=qd2 (qcf xs) (qa9 xs)
section
variable{X:Cx}
theorem q5c:∀(ns:List Int) (k:Nat),k<=ns.length->preSum (λi=>ns.getD i 0) k=(ns.take k).sum
 |ns,0,_=>by simp[preSum]
 | ns,k+1,h=>by
  have hk:k<ns.length:=h;rw[preSum,q5c ns k (Nat.le_of_lt hk),List.take_add_one,jf hk,List.sum_append];have e:ns.getD k 0=ns[k]:=by rw[jz,jf hk];rfl
  rw[e];simp
theorem q45:∀{ns:List Int} {us:List Value} {i:Nat} {v:Value},Vals (ns.map V.int) us->us[i]? =some v->∃t,v=.int (ns.getD i 0) t
 |[],us,i,v,r,e=>by cases r;simp at e
 | n::ns,us,0,v,r,e=>by
  cases r with
  | cons h t=>
   obtain⟨tk,q⟩:=h;simp at e;exact⟨tk,by rw[<-e,q];rfl⟩
 | n::ns,us,i+1,v,r,e=>by
  cases r with
  | cons h t=>
   obtain⟨tk,q⟩:=q45 (i:=i) t (by simpa using e);exact⟨tk,by rw[q];rfl⟩
theorem qct{K:FrG}(hK:X.K=K)(hc:X.calm=true):q4w X (.builtin "sum") (λxs H Q=>∃(p:Addr) (ns:List Int),xs=[.ref p]/\SqL K H p (ns.map V.int)/\Q (.int ns.sum) H):=by
 subst hK;intro z9 s σ H xs us Q I r h;obtain⟨p,ns,rfl,hq,q⟩:=h;obtain⟨u,rfl,ru⟩:=vals1 r;cases ru;obtain⟨its,rv,pl,hz⟩:=I.list hq;have hh:X.A.in1.handled=none:=I.ok.hd hc;have hl:=pl.isList;have hlt:p<s.heap.objs.size:=by obtain⟨_,e,_⟩:=hl;exact jb e
 refine call_sum_walkG (wpAny_pyIter_list hl ?_);refine⟨_,_,_,_,_,_,λi=>ns.getD i 0,rfl,Walks.list hh s.heap.objs.size p (jm hlt) its.toArray,⟨⟨_,jr _ rfl,rfl,rfl⟩,hl.push _⟩,λb hb=>?_,λi v hP=>q45 rv (by simpa using hP),λh' tk t' hk=>?_⟩
 ·show b<(s.heap.push _).objs.size;rw[xn];rcases List.mem_cons.mp hb with rfl|hb
  ·exact Nat.lt_succ_self _
  ·rw[List.mem_singleton.mp hb];exact Nat.lt_succ_of_lt hlt
 ·have len:its.toArray.size=ns.length:=by have:=rv.length;simp at this;simp;omega
  refine⟨.int ns.sum,H,I.kept (t':=tk) λb o e=>hk b o (λz=>?_) (jh _ e),⟨t',?_⟩,q⟩
  ·have:=jb e;rw[List.mem_singleton.mp z]at this;exact xh _ this
  ·rw[len,q5c ns _ (jg _),List.take_length]
end
def Exc(B:Heap)(e:Addr)(cls fl:Value)(h:Heap):Prop:=
 ∃oe vs T oT ts,h.get? e=some oe/\oe.cls=cls/\oe.dict=none/\oe.data=.fields vs/\vs[1]? =some (.ref T)/\B.get? T=none/\T≠e/\h.get? T=some oT/\oT.data=.fields ts/\ts[3]? =some fl
structure FlyD(B:Heap)(l:List Env)(e:Addr)(cls fl:Value)(h:Heap):Prop where
 st:B.StaysIn h
 new:B.get? e=none
 fr:h.FunFrames B l
 ex:Exc B e cls fl h
section
variable{M:Model}{A:Around}{E:Value->Shared->Prop}{s:Shared}{B:Heap}{env:Env}{outer l:List Env}{L e:Addr}{cls fl:Value}{Q:Unit->Shared->Prop}
theorem qsm{h:Heap}(hl:h.FunFrames B l){b:Addr}{o:Obj}{vs:Array Value}(ho:h.get? b=some o)(hd:o.data=.fields vs):b∉l.filterMap (·.frame):=λhb=>by obtain⟨_,o1,e1,d1⟩:=hl.mem hb;rw[ho]at e1;cases e1;exact d1 vs hd
theorem q8i{h:Heap}{b:Addr}{o:Obj}{vs:Array Value}{g:Array Value->Array Value}(st:B.StaysIn h)(hl:h.FunFrames B l)(hn:B.get? b=none)(ho:h.get? b=some o)(hd:o.data=.fields vs):
 B.StaysIn (h.update b (Obj.mapFields g))/\(h.update b (Obj.mapFields g)).FunFrames B l/\h.UpToSlots (h.update b (Obj.mapFields g))/\(h.update b (Obj.mapFields g)).get? b=some (Obj.mapFields g o)/\∀c,c≠b->(h.update b (Obj.mapFields g)).get? c=h.get? c:=by
 have oth:∀c,c≠b->(h.update b (Obj.mapFields g)).get? c=h.get? c:=λc hc=>k7 _ _ (Ne.symm hc);have nrec:∀c u,h.get? c=some u->(∀ws,u.data≠.fields ws)->c≠b:=λc u q nf z=>by rw[z,ho]at q;cases q;exact nf vs hd
 refine⟨λc u q=>(oth c λz=>by rw[z,hn]at q;cases q).trans (st c u q),hl.of_keeps λc u q nf=>⟨u,(oth c (nrec c u q nf)).trans q,rfl⟩,λc u q nf=>⟨u.slots,(oth c (nrec c u q nf)).trans q⟩,?_,oth⟩;exact kq _ ho (Obj.isFreed_of_fields (ku hd g))
theorem q6r(F:FlyD B l e cls fl s.heap)(k:∀h',FlyD B l e cls .none h'->s.heap.UpToSlots h'->Q () {s with heap:=h'}):wpAny M A (setFlight (.ref e) none) Q E s:=by obtain⟨oe,vs,T,oT,ts,he,hc,hdn,hd,h1,hnT,hTe,hT,hdT,h3⟩:=F.ex;obtain⟨k1,k2,k3,k4,k5⟩:=q8i (g:=(·.setIfInBounds 3 ((none:Option Addr).elim Value.none λf=>rawInt f))) F.st F.fr hnT hT hdT;unfold setFlight;refine j8 (xc he hd h1 ?_);rw[if_pos (by simp:(Value.ref T !=Value.none)=true)];refine wpAny_setField hT hdT (Array.getElem?_eq_some_iff.mp h3).1 (k _ ⟨k1,F.new,k2,?_⟩ k3);have sz:=(Array.getElem?_eq_some_iff.mp h3).1;exact⟨oe,vs,T,_,_,(k5 e (Ne.symm hTe)).trans he,hc,hdn,hd,h1,hnT,hTe,k4,ku hdT _,by simp[sz]⟩
theorem qa4{oe:Obj}{vs:Array Value}{head:Value}{hn:Bool}(hfr:A.frames=some (env::outer))(hf:env.frame=some L)(st:B.StaysIn s.heap)(hl:s.heap.FunFrames B (env::outer))(new:B.get? e=none)
 (he:s.heap.get? e=some oe) (hd:oe.data=.fields vs) (hdn:oe.dict=none) (sz:1<vs.size)
 (k:∀h',FlyD B (env::outer) e oe.cls (rawInt L) h'->s.heap.UpToSlots h'->Q () {s with heap:=h'}):
 wpAny M A (do let a <-frameOf env;let pl <-entryPlaceOf L hn;let b <-EntryCells.newEntry head a .none (rawInt L) .none pl;setField (.ref e) 1 b) Q E s:=by
 have nef:=qsm hl he hd;refine j8 (wpAny_frameOf_fun hfr hl hf λh1 so=>j8 (wpAny_entryPlaceOf λpl hpl=>?_));have st1:B.StaysIn h1:=λb o q=>(so.2.1 b λz=>by rw[(hl.mem z).1]at q;cases q).trans (st b o q);have fr1:h1.FunFrames B (env::outer):=hl.of_keeps λb o q nf=>by obtain⟨sl,z⟩:=so.2.2 b o q;exact⟨_,z,rfl⟩
 have e1:h1.get? e=some oe:=(so.2.1 e nef).trans he;unfold EntryCells.newEntry newFields;refine j8 (xu ?_ (hpl.sizeOk5 _ _ _ _ _));generalize hO:({cls:=.type "traceback",dict:=none,data:=.fields ([head,.ref L,.none,rawInt L,.none]++(if pl.isEmpty then List.replicate 6 Value.none else pl)).toArray}:Obj)=oT;have dT:oT.data=.fields ([head,.ref L,.none,rawInt L,.none]++(if pl.isEmpty then List.replicate 6 Value.none else pl)).toArray:=by rw[<-hO]
 have nfT:oT.isFreed=false:=by rw[<-hO];rfl
 have kp:∀b o,h1.get? b=some o->(h1.push oT).get? b=some o:=λb o q=>jh oT q;have fr2:(h1.push oT).FunFrames B (env::outer):=fr1.of_keeps λb o q nf=>⟨o,kp b o q,rfl⟩;obtain⟨k1,k2,k3,k4,k5⟩:=q8i (g:=(·.setIfInBounds 1 (Value.ref h1.objs.size))) (λb o q=>kp b o (st1 b o q)) fr2 new (kp _ _ e1) hd;have neT:h1.objs.size≠e:=Nat.ne_of_gt (jb e1);refine wpAny_setField (kp _ _ e1) hd sz (k _ ⟨k1,new,k2,_,_,h1.objs.size,oT,_,k4,Obj.cls_mapFields _ _,?_,ku hd _,by simp[sz],st1.fresh,neT,(k5 _ neT).trans (jr h1 nfT),dT,?_⟩ ?_)
 ·obtain⟨c,d,dt,sl⟩:=oe;cases dt<;>exact hdn
 ·simp
 ·refine Heap.UpToSlots.trans (λb o q nf=>?_) k3;obtain⟨sl,z⟩:=so.2.2 b o q;exact⟨sl,kp _ _ z⟩
theorem qir{oe:Obj}{vs:Array Value}(hfr:A.frames=some (env::outer))(hf:env.frame=some L)(st:B.StaysIn s.heap)(hl:s.heap.FunFrames B (env::outer))(new:B.get? e=none)
 (he:s.heap.get? e=some oe) (hd:oe.data=.fields vs) (hdn:oe.dict=none) (h1:vs[1]? =some .none)
 (k:∀h',FlyD B (env::outer) e oe.cls (rawInt L) h'->s.heap.UpToSlots h'->Q () {s with heap:=h'}):wpAny M A (noteFrame (.ref e) env) Q E s:=by
 unfold noteFrame;simp only[hf];refine j8 (xc he hd h1 ?_);rw[if_neg (by decide)];exact qa4 hfr hf st hl new he hd hdn (Array.getElem?_eq_some_iff.mp h1).1 k
theorem qg3(hfr:A.frames=some (env::outer))(hf:env.frame=some L)(F:FlyD B (env::outer) e cls .none s.heap)
 (k:∀h',FlyD B (env::outer) e cls (rawInt L) h'->s.heap.UpToSlots h'->Q () {s with heap:=h'}):wpAny M A (noteFrame (.ref e) env) Q E s:=by
 obtain⟨oe,vs,T,oT,ts,he,hc,hdn,hd,h1,hnT,hTe,hT,hdT,h3⟩:=F.ex;subst hc;obtain⟨k1,k2,k3,k4,k5⟩:=q8i (g:=(·.setIfInBounds 3 Value.none)) F.st F.fr hnT hT hdT;unfold noteFrame;simp only[hf];refine j8 (xc he hd h1 ?_);rw[if_pos (by simp:(Value.ref T !=Value.none)=true)];refine j8 (xc hT hdT h3 ?_);rw[if_neg (by simp[rawInt]:¬((Value.none==rawInt L)=true))];refine j8 (wpAny_setField hT hdT (Array.getElem?_eq_some_iff.mp h3).1 ?_);exact qa4 hfr hf k1 k2 F.new ((k5 e (Ne.symm hTe)).trans he) hd hdn (Array.getElem?_eq_some_iff.mp h1).1 λh' F' up=>k h' F' (k3.trans up)
theorem FlyD.less{fl:Value}{h:Heap}(F:FlyD B (env::outer) e cls fl h):FlyD B outer e cls fl h:=⟨F.st,F.new,F.fr.2.2,F.ex⟩
theorem qrz{oe:Obj}{vs:Array Value}(hfr:A.frames=some (env::outer))(hf:env.frame=some L)(st:B.StaysIn s.heap)(hl:s.heap.FunFrames B (env::outer))(new:B.get? e=none)
 (he:s.heap.get? e=some oe) (hd:oe.data=.fields vs) (hdn:oe.dict=none) (h1:vs[1]? =some .none)
 (k:∀h',FlyD B outer e oe.cls .none h'->s.heap.UpToSlots h'->Q () {s with heap:=h'}):wpAny M A (leaving env (.ref e)) Q E s:=by
 unfold leaving;exact j8 (qir hfr hf st hl new he hd hdn h1 λh' F up=>q6r (s:={s with heap:=h'}) F λh2 F2 up2=>k h2 F2.less (up.trans up2))
theorem qus(hfr:A.frames=some (env::outer))(hf:env.frame=some L)(F:FlyD B (env::outer) e cls .none s.heap)
 (k:∀h',FlyD B outer e cls .none h'->s.heap.UpToSlots h'->Q () {s with heap:=h'}):wpAny M A (leaving env (.ref e)) Q E s:=by
 unfold leaving;exact j8 (qg3 hfr hf F λh' F up=>q6r (s:={s with heap:=h'}) F λh2 F2 up2=>k h2 F2.less (up.trans up2))
end
structure Flies(P:Program)(w:World)(l:List Env)(H:Hp)(s:Shared)(cls:Value)(e:Addr)(H':Hp)(s':Shared):Prop where
 os:s'.os=s.os
 bare:AllBare s'.gens
 un:Un (frs l) [] H H' s.heap s'.heap
 hok:HOk P w H' s'.heap
 fly:∃B,FlyD B l e cls .none s'.heap/\∀b o,s'.heap.get? b=some o->b∉frs l->(H' b≠none∨∃o',s.heap.get? b=some o')->B.get? b=some o
def CX1(P:Program)(w:World):CXT:=λouter H s E e s'=>∃ea cls H',e=.ref ea/\Flies P w outer H s cls ea H' s'/\E cls none H'
theorem ObjOk.there{P:Program}{w:World}{H:Hp}{h:Heap}{a:Addr}{o:HO}(x:ObjOk P w H h a o):∃u,h.get? a=some u:=by
 cases o with
 |lst xs=>obtain⟨_,_,_,_,e⟩:=x;exact⟨_,e⟩
 |tup xs=>obtain⟨_,_,_,ob,e,_⟩:=x;exact⟨_,e⟩
 |dK kvs=>obtain⟨_,_,_,_,o,_,e,_⟩:=x;exact⟨_,e⟩
 |dT kvs=>obtain⟨_,_,_,_,o,_,_,e,_⟩:=x;exact⟨_,e⟩
 |set S n=>obtain⟨o,_,_,_,e,_⟩:=x;exact⟨_,e⟩
 |ins C dx fs=>obtain⟨_,_,_,e,_⟩:=x;exact⟨_,e⟩
 |own y=>exact x
 |xd fs=>obtain⟨_,⟨_,_,_,e,_⟩,_⟩:=x;exact⟨_,e⟩
 |rng lo hi=>obtain⟨_,_,_,e⟩:=x;exact⟨_,e⟩
 |frz ob u=>obtain⟨e,_⟩:=x;exact⟨_,e⟩
 |tbl ps=>exact⟨_,(show h.get? a=some _ from x)⟩
 |met f y=>exact⟨_,(show h.get? a=some _ from x)⟩
 |ext φ=>obtain⟨_,⟨_,e⟩,_⟩:=x;exact⟨_,e⟩
section
variable{X:Cx}{z9:List (Addr×Obj)}{σ:St}{H H':Hp}{s:Shared}
theorem qa5{hm:Heap}{s2:Shared}{B:Heap}{e:Addr}{cls:Value}(I:Inv X z9 σ H s)(zt:X.stack=X.env::X.outer)(hfr:X.env.frame=some X.env.locals)(hex:X.ex=[])(os:s2.os=s.os)(bare:AllBare s2.gens)(U:Un (frs X.stack) [] H H' s.heap hm)
 (hok:HOk X.prog X.w H' hm) (cond:∀b o,hm.get? b=some o->b∉frs X.stack->(H' b≠none∨∃o',s.heap.get? b=some o')->B.get? b=some o)
 (fl:FlyD B X.outer e cls .none s2.heap) (up:hm.UpToSlots s2.heap):Flies X.prog X.w X.outer X.H₀ X.s₀ cls e H' s2:=by
 have fsub:∀b,b∉X.fs->b≠X.env.locals->b∉frs X.stack:=λb h1 h2 z=>(List.mem_cons.mp (I.stkSub b z)).elim h2 h1;have fin:∀b∈X.fs,b∈frs X.stack:=λb hb=>by rw[zt];show b∈(X.env::X.outer).filterMap (·.frame);rw[List.filterMap_cons,hfr];exact jj _ hb
 have neL:∀b o,X.s₀.heap.get? b=some o->b≠X.env.locals:=λb o e z=>by have q:=I.ok.above;rw[<-z]at q;exact absurd (jt (jb e) q) (xh _)
 have fr_data:∀b∈frs X.stack,∀o,hm.get? b=some o->∀vs,o.data≠.fields vs:=λb hb o eo vs q=>by obtain⟨_,o1,e1,d1⟩:=I.stack.mem hb;obtain⟨sl,e2⟩:=U.slot b o1 e1 (I.stkFree b hb) hb (by simp);rw[eo]at e2;cases e2;exact d1 vs q
 have free_fr:∀b∈frs X.stack,H' b=none:=λb hb=>by obtain⟨_,o1,e1,d1⟩:=I.stack.mem hb;exact U.free b o1 e1 (I.stkFree b hb) (by simp)
 have at_b:∀b o o0,s.heap.get? b=some o0->hm.get? b=some o->b∉frs X.stack->s2.heap.get? b=some o:=λb o o0 e0 e1 nb=>fl.st b o (cond b o e1 nb (.inr ⟨o0,e0⟩));have base:=I.base;rw[hex]at base;have nx:∀b:Addr,b∉([]:List Addr):=λb=>by simp
 have tracked:∀b u,H' b≠none->hm.get? b=some u->s2.heap.get? b=some u:=λb u hb e=>fl.st b u (cond b u e (λz=>hb (free_fr b z)) (.inl hb));refine⟨os.trans I.os,bare,⟨λb o e n hf _=>?_,λb o e n hf _=>?_,λb o e n _=>?_,λb o e _=>?_,λb xs e=>U.tups b xs (base.tups b xs e),λb o u e=>U.frzs b o u (base.frzs b o u e),λb ps e=>?_⟩,λa o e=>?_,B,fl,λb o e nf h=>?_⟩
 ·have e1:=base.keep b o e n hf (nx b);have nb:=fsub b hf (neL b o e);exact at_b b o o e1 (U.keep b o e1 (base.free b o e n (nx b)) nb (nx b)) nb
 ·obtain⟨sl1,e1⟩:=base.slot b o e n hf (nx b);obtain⟨sl2,e2⟩:=U.slot b _ e1 (base.free b o e n (nx b)) (fin b hf) (nx b);obtain⟨sl3,e3⟩:=up b _ e2 (fr_data b (fin b hf) _ e2);exact⟨sl3,e3⟩
 ·obtain⟨o1,e1⟩:=base.there b o e (nx b);exact U.free b o1 e1 (base.free b o e n (nx b)) (nx b)
 ·obtain⟨o1,e1⟩:=base.there b o e (nx b);obtain⟨o2,e2⟩:=U.there b o1 e1 (nx b);by_cases hb:b∈frs X.stack
  ·obtain⟨sl3,e3⟩:=up b _ e2 (fr_data b hb _ e2);exact⟨_,e3⟩
  ·exact⟨_,at_b b o2 o1 e1 e2 hb⟩
 ·obtain⟨m1,e1⟩:=base.tbls b ps e;obtain⟨m2,e2⟩:=U.tbls b _ e1;exact⟨m1++m2,by rw[e2,Array.append_assoc]⟩
 ·refine(hok a o e).stay (λb u hb q=>tracked b u ?_ q) (λ_ q=>q) λ_ _ q=>q;rcases hb with rfl|hb
  ·rw[e];exact λz=>nomatch z
  ·rw[hb];exact λz=>nomatch z
 ·rcases h with h|⟨o0,e0⟩
  ·cases q:H' b with
   |none=>exact absurd q h
   | some u=>
    obtain⟨o1,e1⟩:=(hok b u q).there;have e2:=tracked b o1 h e1;rw[e]at e2;cases e2;exact cond b o e1 (λz=>h (free_fr b z)) (.inl h)
  ·have nb:=fsub b nf (neL b o0 e0);obtain⟨o1,e1⟩:=base.there b o0 e0 (nx b);obtain⟨o2,e2⟩:=U.there b o1 e1 (nx b);have e3:=at_b b o2 o1 e1 e2 nb;rw[e]at e3;cases e3;exact cond b o e2 nb (.inr ⟨o1,e1⟩)
end
section
variable{P:Program}{w:World}{K:FrG}{mg:Str->Option Value}{base:Heap}{N:List Str}{qual:Str}{scope:Scope}{f:Addr}{cd:Value}{A:Around}{outer:List Env}{s₀:Shared}{H₀:Hp}{E:XK}
abbrev cxX(P:Program)(w:World)(K:FrG)(mg:Str->Option Value)(base:Heap)(N:List Str)(qual:Str)(scope:Scope)(f:Addr)(cd:Value)(A:Around)(outer:List Env)(s₀:Shared)(H₀:Hp)(E:XK):Cx:=cxOf (CX1 P w) P w K mg base N qual scope f cd A outer s₀ H₀ E
theorem qdh:q6i (CX1 P w) (cxX P w K mg base N qual scope f cd A outer s₀ H₀ E) E:=by intro z9 σ H s e s' I h;obtain⟨ea,cls,H',rfl,F,hE⟩:=h;obtain⟨B,fl,cond⟩:=F.fly;show wpAny (model P w) _ (leaving _ (.ref ea)) _ _ s';refine qus (L:=s₀.heap.objs.size) I.ok.frames rfl fl λh' fl' up=>?_;exact⟨ea,cls,H',rfl,qa5 (s2:={s' with heap:=h'}) I rfl rfl rfl F.os F.bare F.un F.hok cond fl' up,hE⟩
def NewX(X:Cx)(E:XK):Prop:=∀(z9:List (Addr×Obj)) (σ:St) (H:Hp) (s:Shared) (h':Heap) (e:Addr) (cls:Value) (vs:List Value),Inv X z9 σ H s->Heap.MadeExcOf s.heap h' e cls vs->E cls none H->X.xe (.ref e) {s with heap:=h'}
theorem newX:NewX (cxX P w K mg base N qual scope f cd A outer s₀ H₀ E) E:=by
 intro z9 σ H s h' e cls vs I hx hE;show wpAny (model P w) _ (leaving _ (.ref e)) _ _ _;have hin:∀env∈(cxX P w K mg base N qual scope f cd A outer s₀ H₀ E).stack,∀a,env.frame=some a->a∈frs (cxX P w K mg base N qual scope f cd A outer s₀ H₀ E).stack:=λenv he a hb=>List.mem_filterMap.mpr ⟨env,he,hb⟩;obtain⟨t,he,_,_⟩:=hx.there;refine qrz (L:=s₀.heap.objs.size) (B:=PySem.W.hideAll s.heap (frs (cxX P w K mg base N qual scope f cd A outer s₀ H₀ E).stack)) I.ok.frames rfl (λb o q=>hx.keeps b o (PySem.W.of_hideAll _ q)) ((PySem.W.funFrames_hide I.stack hin).of_keeps λb o q _=>⟨o,hx.keeps b o q,rfl⟩) ?_ he rfl rfl rfl λh2 fl up=>?_
 ·cases q:(PySem.W.hideAll s.heap (frs (cxX P w K mg base N qual scope f cd A outer s₀ H₀ E).stack)).get? e with
  |none=>rfl
  | some o=>
   have z:=PySem.W.of_hideAll _ q;rw[hx.new]at z;cases z
 refine⟨e,cls,H,rfl,qa5 (s2:={s with heap:=h2}) (hm:=s.heap) I rfl rfl rfl rfl I.bare Un.refl I.hok (λb o e1 nb _=>PySem.W.hideAll_get _ e1 nb) fl ((Heap.UpToSlots.of_keeps hx.keeps).trans up),hE⟩
end
def qou(h:Heap)(C:Addr)(bmB:List Value)(zo:String):Prop:=
 ∃bm N nm q bs hdct sn sub ab col dd k0 k1 k2 k3 k5 mN,h.get? C=some (excClassObj nm q C N bs bm hdct sn sub ab col dd k0 k1 k2 k3 k5 zo)/\h.Ns N mN/\mN "__init__"=none/\OwnTail h bmB bm
theorem qjj{K:FrG}{h:Heap}{C:Addr}{bmB:List Value}{zo:String}(kin:K.In h)(q:PySem.W.excIn K C bmB zo=true):qou h C bmB zo:=by
 rw[PySem.W.excIn]at q;split at q
 case h_2=>cases q
 case h_1 dd cd sl eC=>
  split at q
  case h_2=>cases q
  case h_1 C1 bm k0 k1 k2 k3 n k5 hm hs=>
   obtain⟨sl⟩:=sl;obtain⟨nm,bs,mro,ns,qn,hd,sn,sub,ab,col,del⟩:=cd;simp only[Bool.and_eq_true,beq_iff_eq,Bool.not_eq_true']at q hm hs;obtain⟨⟨⟨⟨⟨q1,q2⟩,q3⟩,q4⟩,q5⟩,q6⟩:=q;subst hm hs q1 q2 q3;exact⟨bm,ns,nm,qn,bs,hd,sn,sub,ab,col,dd,k0,k1,k2,k3,k5,h.nsMap ns,kin _ _ eC,Heap.Ns.of_isNs (PySem.W.isNs_of_in kin q5),PySem.W.nsMap_none_of_in kin q5 q6,PySem.W.tail_of_in kin q4⟩
section
variable{X:Cx}{x:Str}{C:Addr}{bmB:List Value}{B zo initId:String}{np zi pos:Pos}{e:Expr}{es:List Expr}{t:TA}{E:XK}
def qec(C:Addr)(E:XK)(t:TA):TS:=λ_ σ H=>t σ H λvs H1=>vs.length<=sizeLine/\E (.ref C) none H1
theorem qbv(new:NewX X E)(hc:X.calm=true)(hg:Gl X x)(hm:X.mg x=some (.ref C))(q:PySem.W.excIn X.K C bmB zo=true)(FB:ExcBaseFacts B zo initId bmB)(ha:PA X (e::es) t)
 (he:starEach (e::es) X.env=(false,eval e X.env)::starEach es X.env:=by rfl) (hpl:(backTo zi (starEach es X.env)).any (·.1)=false:=by rfl) (hd:(x==("__debug__":Str))=false:=by decide):
 PS X (.Raise (some (.Call (.Name x np) (e::es) [] zi)) none pos) (qec C E t):=by
 intro z9 s σ H D I h;obtain⟨bm,N,nm,qn,bs,hdct,sn,sub,ab,col,dd,k0,k1,k2,k3,k5,mN,hC,hN,hni,T⟩:=qjj I.ok.mod.kin q;refine wpAny_Raise_call_subT (C:=C) (nm:=nm) (q:=qn) (N:=N) (bs:=bs) (bm:=bm) (hdct:=hdct) (sn:=sn) (sub:=sub) (ab:=ab) (col:=col) (dd:=dd) (k0:=k0) (k1:=k1) (k2:=k2) (k3:=k3) (k5:=k5)
  FB (mN:=mN) (T.hasType FB.hasBase) (I.ok.hd hc) (by rw[he];show(false||(backTo zi (starEach es X.env)).any (·.1))=false;rw[hpl];rfl) hni (q67 I hg hm ⟨rfl,?_⟩ hd)
 have ha':=ha zi z9 s σ H _ I h;rw[he]at ha' ⊢;refine Calls.evalArgs_plain (thn ha' λus s1 ⟨vs,H1,I1,r,hl,hE⟩=>?_);exact⟨rfl,by rw[<-r.length];exact hl,I1.bk _ _ hC,hN.keeps I1.bk,T.keeps I1.bk,λh' ea hx=>new z9 σ H1 s1 h' ea (.ref C) us I1 hx hE⟩
end
abbrev Cx.suite(X:Cx)(e:Addr):Cx:={X with A:=X.A.mark (some (.ref e)),calm:=false,xe:=λ_ _=>False}
def excO(e:Addr)(cls:Value):HO:=.ext λh=>∃oe vs,h.get? e=some oe/\oe.cls=cls/\oe.dict=none/\oe.data=.fields vs
section
variable{X:Cx}{z9:List (Addr×Obj)}{σ:St}{H H':Hp}{s s1:Shared}{e:Addr}{cls fl:Value}
theorem Cx.Ok.suite(ok:X.Ok)(e:Addr):(X.suite e).Ok:=
 ⟨ok.mod,ok.kind,ok.glob,ok.blt,ok.above,ok.inj,ok.has,ok.cab,(λz=>nomatch z),ok.frames,ok.stk,ok.exf,ok.bs,ok.bsz,ok.noex,ok.exfs,ok.funs,ok.frf⟩
theorem Inv.suite(I:Inv X z9 σ H s)(e:Addr):Inv (X.suite e) z9 σ H s:=⟨I.ok.suite e,I.os,I.bare,I.base,I.loc,I.cell,I.free,I.freeC,I.pin,I.hok,I.len⟩
theorem Inv.unsuite(ok:X.Ok)(I:Inv (X.suite e) z9 σ H s):Inv X z9 σ H s:=⟨ok,I.os,I.bare,I.base,I.loc,I.cell,I.free,I.freeC,I.pin,I.hok,I.len⟩
theorem Flies.fresh{l:List Env}{P:Program}{w:World}(F:Flies P w l H s cls e H' s1):s.heap.get? e=none/\H' e=none:=by
 obtain⟨B,fl,cond⟩:=F.fly;obtain⟨oe,vs,T,oT,ts,he,hc,hdn,hd,_⟩:=fl.ex;have nf:=qsm fl.fr he hd;have no:¬(H' e≠none∨∃o',s.heap.get? e=some o'):=λz=>by have q:=cond e oe he nf z;rw[fl.new]at q;cases q
 constructor
 ·cases q:s.heap.get? e with
  |none=>rfl
  |some o=>exact absurd (.inr ⟨o,q⟩) no
 ·cases q:H' e with
  |none=>rfl
  |some o=>exact absurd (.inl (by rw[q];exact λz=>nomatch z)) no
theorem qck{h2 B:Heap}(I:Inv X z9 σ H s)(F:Flies X.prog X.w X.stack H s cls e H' s1)(fl:FlyD B X.stack e cls fl h2)(cond:∀b o,s1.heap.get? b=some o->b∉frs X.stack->(H' b≠none∨∃o',s.heap.get? b=some o')->B.get? b=some o)
 (up:s1.heap.UpToSlots h2):Inv X z9 σ H' {s1 with heap:=h2}:=by
 have free_fr:∀b∈frs X.stack,H' b=none:=λb hb=>by obtain⟨_,o1,e1,d1⟩:=I.stack.mem hb;exact F.un.free b o1 e1 (I.stkFree b hb) (by simp)
 have fr_data:∀b∈frs X.stack,∀o,s1.heap.get? b=some o->∀vs,o.data≠.fields vs:=λb hb o eo vs q=>by obtain⟨_,o1,e1,d1⟩:=I.stack.mem hb;obtain⟨sl,e2⟩:=F.un.slot b o1 e1 (I.stkFree b hb) hb (by simp);rw[eo]at e2;cases e2;exact d1 vs q
 refine I.call' (s':={s1 with heap:=h2}) (ch:=[]) F.os ⟨λb o e n hf _=>?_,λb o e n hf _=>?_,F.un.free,λb o e _=>?_,F.un.tups,F.un.frzs,F.un.tbls⟩ (λa o q=>?_) F.bare (λb hb=>absurd hb (by simp))
 ·exact fl.st b o (cond b o (F.un.keep b o e n hf (by simp)) hf (.inr ⟨o,e⟩))
 ·obtain⟨sl,e1⟩:=F.un.slot b o e n hf (by simp);obtain⟨sl2,e2⟩:=up b _ e1 (fr_data b hf _ e1);exact⟨sl2,e2⟩
 ·obtain⟨o1,e1⟩:=F.un.there b o e (by simp);by_cases hb:b∈frs X.stack
  ·obtain⟨sl2,e2⟩:=up b _ e1 (fr_data b hb _ e1);exact⟨_,e2⟩
  ·exact⟨o1,fl.st b o1 (cond b o1 e1 hb (.inr ⟨o,e⟩))⟩
 ·refine(F.hok a o q).stay (λb u hb z=>?_) (λ_ q=>q) λ_ _ q=>q;have nb:H' b≠none:=by
   rcases hb with rfl|hb
   ·rw[q];exact λz=>nomatch z
   ·rw[hb];exact λz=>nomatch z
  exact fl.st b u (cond b u z (λy=>nb (free_fr b y)) (.inl nb))
end
section
variable{X:Cx}{z9:List (Addr×Obj)}{σ:St}{H H':Hp}{s s1:Shared}{e:Addr}{cls c:Value}{i:Nat}{x n:Str}{np pos hpos:Pos}{b₀:Stmt}{suite:List Stmt}{ts:TS}{D:Ends}
theorem qgl{M:Model}{h:Heap}{oe:Obj}(he:h.get? e=some oe)(hc:oe.cls=cls):PySem.W.Looks M h (typeOf (.ref e)) cls:=hc▸(PySem.W.Looks.ld he).andThen .now
theorem SP.unsuite{f:Flow}(ok:X.Ok)(h:SP (X.suite e) z9 D f s):SP X z9 D f s:=by
 cases f with
 |next=>obtain⟨σ',H',I,q⟩:=h;exact⟨σ',H',I.unsuite ok,q⟩
 |brk=>obtain⟨σ',H',I,q⟩:=h;exact⟨σ',H',I.unsuite ok,q⟩
 |cont=>obtain⟨σ',H',I,q⟩:=h;exact⟨σ',H',I.unsuite ok,q⟩
 |ret u=>obtain⟨v,σ',H',I,r,q⟩:=h;exact⟨v,σ',H',I.unsuite ok,r,q⟩
theorem qgy(I:Inv X z9 σ H s)(zt:X.stack=X.env::X.outer)(hfr:X.env.frame=some X.env.locals)(hg:Gl X x)(hm:X.mg x=some c)
 (hd:(x==("__debug__":Str))=false) (F:Flies X.prog X.w X.stack H s cls e H' s1) (hx:PySem.W.exmOne X.K cls c=some true) (hs:PSs (X.suite e) (b₀::suite) ts) (h:ts D σ H'):
 wpAny (model X.prog X.w) X.A (noteFrame (.ref e) X.env) (λ_ s2=>wpAny (model X.prog X.w) X.A (setFlight (.ref e) none) (λ_ s3=>
  wpAny (model X.prog X.w) X.A (handleBy (.ref e) X.env [.ExceptHandler (some (.Name x np)) none (b₀::suite) hpos]) (SP X z9 D) X.xe s3) X.xe s2) X.xe s1:=by
 obtain⟨B,fl,cond⟩:=F.fly;have hfs:X.A.frames=some (X.env::X.outer):=by rw[<-zt];exact I.ok.frames
 rw[zt]at fl;refine qg3 hfs hfr fl λh4 fl4 up4=>?_;refine q6r (s:={s1 with heap:=h4}) fl4 λh5 fl5 up5=>?_;have fl5':=fl5;rw[<-zt]at fl5';have I5:=(qck I F fl5' cond (up4.trans up5)).suite e;refine wpAny_handleBy_cons (codeAny_handlers_test (q67 I5 hg hm ?_ hd)) (λq=>nomatch q);obtain⟨oe,vs,T,oT,ts',he,hc,_⟩:=fl5.ex;refine(PySem.W.exm_one I5.kIn (qgl he hc) hx).here ?_;show codeAny _ _ _ _ _;refine codeAny_handlers_suite ?_;refine q6r (s:={s1 with heap:=h5}) fl5 λh6 fl6 up6=>?_;have fl6':=fl6;rw[<-zt]at fl6';have I6:=(qck I F fl6' cond ((up4.trans up5).trans up6)).suite e;refine xg (hs z9 {s1 with heap:=h6} _ _ _ I6 h) (λf s9 q=>?_) λ_ _ z=>z.elim;exact q.unsuite I.ok
end
def PEat(X:Cx)(z9:List (Addr×Obj))(σ:St)(e:Expr)(t:TE):Prop:=∀(s:Shared) (H:Hp) (Q:VK),Inv X z9 σ H s->t σ H Q->wpAny (model X.prog X.w) X.A (eval e X.env) (EP X z9 σ Q) X.xe s
def PSat(X:Cx)(z9:List (Addr×Obj))(σ:St)(st:Stmt)(t:TS):Prop:=∀(s:Shared) (H:Hp) (D:Ends),Inv X z9 σ H s->t D σ H->wpAny (model X.prog X.w) X.A (exec st X.env) (SP X z9 D) X.xe s
def qkg(X:Cx)(z9:List (Addr×Obj))(σ:St)(st:List Stmt)(t:TS):Prop:=∀(s:Shared) (H:Hp) (D:Ends),Inv X z9 σ H s->t D σ H->wpAny (model X.prog X.w) X.A (execs st X.env) (SP X z9 D) X.xe s
def qcw(CX:CXT)(X:Cx)(z9:List (Addr×Obj))(σ:St)(E:XK):Prop:=∀(H:Hp) (s:Shared) (e:Value) (s':Shared),Inv X z9 σ H s->CX X.stack H s E e s'->X.xe e s'
section
variable{X:Cx}{z9:List (Addr×Obj)}{σ:St}{CX:CXT}{k:Nat}{f:Addr}{fd:FuncData}{ps:List Str}{sp:Sp}{dvs:List V}{ds:List Value}{E:XK}{x:Str}{p pos zi:Pos}{e c:Expr}{es:List Expr}{t:TA}{te:TE}{tc:TT}{st:Stmt}{a b:List Stmt}{ta tb u:TS}
theorem qhr(F:FnOk X.prog X.w X.K X.mg X.base CX k f fd ps sp)(hr:Room k X.A)(hg:Gl X x)(hm:X.mg x=some (.ref f))(hk:PySem.W.keepIn X.K (.ref f)=true)(hb:Binds X.K fd ps ds)(hd:Vals dvs ds)(hx:qcw CX X z9 σ E)
 (ha:PA X (e::es) t) (hdb:(x==("__debug__":Str))=false:=by decide) (he:starEach (e::es) X.env=(false,eval e X.env)::starEach es X.env:=by rfl) (hpl:(backTo pos (starEach es X.env)).any (·.1)=false:=by rfl):
 PEat X z9 σ (.Call (.Name x p) (e::es) [] pos) (q6j sp dvs E t):=by
 intro s H Q I h;refine xy (q67 I hg hm ?_ hdb);refine PySem.W.callWith_K (h₀:=X.base) I.ok.mod.kin hk (thn (ha pos z9 s σ H _ I h) λus s1 ⟨vs,H1,I1,r,q⟩=>⟨I1.kIn,?_⟩) he hpl;have r2:Vals (vs++dvs) (us++ds):=r.append hd;have hl:(us++ds).length=ps.length:=by rw[<-r2.length];exact F.len _ _ _ _ q
 refine wpAny_call (codeAny_mono (F.run X.A X.stack s1 H1 ⟨us,[]⟩ (us++ds) (vs++dvs) Q E hr I1.env0 (hb s1 us I1.kIn hl) r2 q) λr s' hq=>?_);cases r with
 |error e=>exact hx H1 s1 e s' I1 hq
 | ok fl=>
  cases fl with
  |ret u=>exact I1.after hq
  |next=>exact False.elim hq
  |brk=>exact False.elim hq
  |cont=>exact False.elim hq
theorem qhq(he:PEat X z9 σ e te)(hs:swapsWith e none pos.line X.env=pure false:=by rfl):PSat X z9 σ (.Expr e pos) (q9g te):=by intro s H D I h;exact wpAny_Expr_any (thn (he s H _ I h) λv s1 ⟨x,H1,I1,r1,q1⟩=>⟨σ,H1,I1,q1⟩) I.quiet hs
theorem qhp(h1:PSat X z9 σ st ta):qkg X z9 σ [st] ta:=by
 intro s H D I h;refine wpAny_execs_cons (thn (h1 s H D I h) λf s1 q=>?_);cases f with
 |next=>exact kg q
 |ret v=>exact q
 |brk=>exact q
 |cont=>exact q
theorem qv8(hc:PT X c tc)(ha:qkg X z9 σ a ta)(hb:qkg X z9 σ b tb):PSat X z9 σ (.If c a b pos) (tIfS tc ta tb):=by
 intro s H D I h;refine wpAny_If (thn (hc z9 s σ H _ I h) λd s1 ⟨H1,I1,q1⟩=>?_);cases d with
 |true=>exact ha s1 H1 D I1 q1
 |false=>exact hb s1 H1 D I1 q1
end
section
variable{X:Cx}{c:Value}{i:Nat}{x n:Str}{np pos hpos:Pos}{body:List Stmt}{b₀:Stmt}{suite:List Stmt}{ts:TS}{tb:XK->TS}
def tTry(K:FrG)(c:Value)(tb:XK->TS)(ts:TS):TS:=λD σ H=>tb (λcls _ H'=>PySem.W.exmOne K cls c=some true/\ts D σ H') D σ H
theorem qq0(zt:X.stack=X.env::X.outer)(hfr:X.env.frame=some X.env.locals)(hg:Gl X x)(hm:X.mg x=some c)
 (hb:∀xe z9 σ E,qcw (CX1 X.prog X.w) (X.wish xe) z9 σ E->qkg (X.wish xe) z9 σ body (tb E)) (hs:∀e,PSs (X.suite e) (b₀::suite) ts) (hd:(x==("__debug__":Str))=false:=by decide):
 PS X (.Try body [.ExceptHandler (some (.Name x np)) none (b₀::suite) hpos] [] [] pos) (tTry X.K c tb ts):=by
 intro z9 s σ H D I h;refine wpAny_Try_except ?_;refine xg (hb (λe s1=>wpAny (model X.prog X.w) X.A (noteFrame e X.env) (λ_ s2=>wpAny (model X.prog X.w) X.A (setFlight e none) (λ_ s3=>
  wpAny (model X.prog X.w) X.A (handleBy e X.env [.ExceptHandler (some (.Name x np)) none (b₀::suite) hpos]) (SP X z9 D) X.xe s3) X.xe s2) X.xe s1) z9 σ _ (λH1 s1 e s' I1 q=>?_) s H D (I.wish _) h) (λf s1 q=>?_) λ_ _ z=>z
 ·obtain⟨ea,cls,H',rfl,F,hx,hE⟩:=q;exact qgy I1.unwish zt hfr hg hm hd F hx (hs ea) hE
 ·have q:=q.unwish;cases f with
  |next=>exact kg q
  |ret v=>exact q
  |brk=>exact q
  |cont=>exact q
end
section
variable{P:Program}{w:World}{K:FrG}{mg:Str->Option Value}{base:Heap}
theorem Fun.okX{x qual:Str}{st:Stmt}{f:Addr}{fd:FuncData}{N ps:List Str}{k:Nat}{sp:Sp}(F:Fun K x qual st f fd)(S:q0q N ps (q04 st))(len:∀vs H Q E,sp vs H Q E->vs.length=ps.length)
 (zp:∀(cdv:Value) (A:Around) (outer:List Env) (s:Shared) (H:Hp) (vs:List V) (Q:VK) (E:XK),Room k (A.deeper (envOfC qual (q04 st) s.heap.objs.size f cdv))->sp vs H Q E->
   ∃t,PSs (cxX P w K mg base N qual (q04 st) f cdv A outer s H E) (q0p st) t/\t {nx:=λ_ H'=>Q .non H',rt:=Q} (start N vs) H):FnOk P w K mg base (CX1 P w) (k+1) f fd ps sp:=by
 obtain⟨oc,od,kV,doc,pm,an,cdv,ct,osl,rfl,lk,hcd⟩:=F.ex;exact qnk lk hcd S len λA outer s H vs Q E hr hsp=>zp cdv A outer s H vs Q E hr hsp
end
section
variable{prog:Program}{w:World}{A:Around}{E:Value->Shared->Prop}{s:Shared}{K:FrG}{e C:Addr}{oe:Obj}
end
structure ExcK(K:FrG)(C:Addr):Prop where
 cls:PySem.W.isClsIn K C=true
 ty:PySem.W.typeIn K (.ref C)=some (.type "type")
 sf:PySem.W.subIn K (.ref C) (.ref C)=some true
 ga:PySem.W.findIn K (.ref C) "__getattribute__"=some (some (.builtin "BaseException.__getattribute__"))
 gt:PySem.W.findIn K (.ref C) "__getattr__"=some none
 bs:PySem.W.subIn K (.ref C) (.type "BaseException")=some true
 ha:PySem.W.findIn K (.ref C) "__class__"=some (some (.builtin "object.__class__"))
 hn:PySem.W.specialIn K (.builtin "object.__class__") "__get__"=some (some (.builtin "getset_descriptor.__get__"))
 tk:PySem.W.takesIn K (.builtin "object.__class__")=some true
 hm:PySem.W.mroIn K C (.type "object")=some true
section
variable{X:Cx}{z9:List (Addr×Obj)}{σ:St}{H:Hp}{s:Shared}{A:Around}{E:Value->Shared->Prop}{Q:Value->Shared->Prop}{c:Value}{b:Bool}{a C:Addr}
end
inductive D where
 |non
 |bl (b:Bool)
 |int (i:Int)
 |str (x:Str)
 |lst (xs:List D)
 |tup (xs:List D)
 |obj (x:Str) (fs:List (Str×D))
 |dct (kvs:List (Key×D))
 |dit (kvs:List (List Key×D))
 |exc (x:Str)
 |fn (x:Str)
mutual
inductive Rp(K:FrG)(R:Hp):V->D->Prop
 |non:Rp K R .non .non
 |bl (b:Bool):Rp K R (.bl b) (.bl b)
 |int (i:Int):Rp K R (.int i) (.int i)
 |str (x:Str):Rp K R (.str x) (.str x)
 |lst {a:Addr} {xs:List V} {ds:List D}:SqL K R a xs->Rps K R xs ds->Rp K R (.ref a) (.lst ds)
 |tup {a:Addr} {xs:List V} {ds:List D}:R a=some (.tup xs)->Rps K R xs ds->Rp K R (.ref a) (.tup ds)
 |obj {a C dx:Addr} {x:Str} {fs:List (Str×V)} {gs:List (Str×D)}:PySem.W.nsIn K mainGlobals x=some (some (.ref C))->R a=some (.ins C dx fs)->Rfs K R fs gs->Rp K R (.ref a) (.obj x gs)
 |dct {a:Addr} {kvs:List (Key×V)} {gs:List (Key×D)}:R a=some (.dK kvs)->Rkk K R kvs gs->Rp K R (.ref a) (.dct gs)
 |dit {a:Addr} {kvs:List (List Key×V)} {gs:List (List Key×D)}:R a=some (.dT kvs)->Rkt K R kvs gs->Rp K R (.ref a) (.dit gs)
 |exc {a C:Addr} {x:Str}:PySem.W.nsIn K mainGlobals x=some (some (.ref C))->ExcK K C->R a=some (excO a (.ref C))->Rp K R (.ref a) (.exc x)
 |fn {l:Addr} {x:Str}:PySem.W.nsIn K mainGlobals x=some (some (.ref l))->Rp K R (.ref l) (.fn x)
inductive Rps(K:FrG)(R:Hp):List V->List D->Prop
 |nil:Rps K R [] []
 |cons {x:V} {xs:List V} {d:D} {ds:List D}:Rp K R x d->Rps K R xs ds->Rps K R (x::xs) (d::ds)
inductive Rfs(K:FrG)(R:Hp):List (Str×V)->List (Str×D)->Prop
 |nil:Rfs K R [] []
 |cons {f:Str} {x:V} {xs:List (Str×V)} {d:D} {ds:List (Str×D)}:Rp K R x d->Rfs K R xs ds->Rfs K R ((f,x)::xs) ((f,d)::ds)
inductive Rkk(K:FrG)(R:Hp):List (Key×V)->List (Key×D)->Prop
 |nil:Rkk K R [] []
 |cons {f:Key} {x:V} {xs:List (Key×V)} {d:D} {ds:List (Key×D)}:Rp K R x d->Rkk K R xs ds->Rkk K R ((f,x)::xs) ((f,d)::ds)
inductive Rkt(K:FrG)(R:Hp):List (List Key×V)->List (List Key×D)->Prop
 |nil:Rkt K R [] []
 |cons {f:List Key} {x:V} {xs:List (List Key×V)} {d:D} {ds:List (List Key×D)}:Rp K R x d->Rkt K R xs ds->Rkt K R ((f,x)::xs) ((f,d)::ds)
end
section
variable{K:FrG}{R:Hp}
theorem Rp.isI{x:V}{i:Int}(h:Rp K R x (.int i)):x=.int i:=by cases h;rfl
theorem Rp.isS{x:V}{i:Str}(h:Rp K R x (.str i)):x=.str i:=by cases h;rfl
theorem Rp.isB{x:V}{i:Bool}(h:Rp K R x (.bl i)):x=.bl i:=by cases h;rfl
theorem Rp.isN{x:V}(h:Rp K R x .non):x=.non:=by cases h;rfl
def qv7:D->Option V
 |.int i=>some (.int i)
 |.str i=>some (.str i)
 |.bl i=>some (.bl i)
 |.non=>some .non
 |_=>none
theorem Rp.isA{x v:V}:{d:D}->Rp K R x d->qv7 d=some v->x=v
 |.int _,h,e=>h.isI.trans (jd e)
 |.str _,h,e=>h.isS.trans (jd e)
 |.bl _,h,e=>h.isB.trans (jd e)
 |.non,h,e=>h.isN.trans (jd e)
theorem Rp.isL{x:V}{ds:List D}(h:Rp K R x (.lst ds)):∃a xs,x=.ref a/\SqL K R a xs/\Rps K R xs ds:=by
 cases h with
 |@lst a xs ds h r=>exact⟨a,xs,rfl,h,r⟩
theorem Rp.isT{x:V}{ds:List D}(h:Rp K R x (.tup ds)):∃a xs,x=.ref a/\R a=some (.tup xs)/\Rps K R xs ds:=by
 cases h with
 |@tup a xs ds h r=>exact⟨a,xs,rfl,h,r⟩
theorem Rps.isC{xs:List V}{d:D}{ds:List D}(h:Rps K R xs (d::ds)):∃x ys,xs=x::ys/\Rp K R x d/\Rps K R ys ds:=by
 cases h with
 |@cons x ys d ds h r=>exact⟨x,ys,rfl,h,r⟩
end
abbrev Rho:=List (Option D)
abbrev RhL:=Rho->Option (List D×Rho)
abbrev RhD:=Rho->Option (D×Rho)
abbrev RhB:=Rho->Option (Bool×Rho)
abbrev RhG:=D->Rho->Option Rho
theorem Same.sqL{K:FrG}{H H':Hp}{a:Addr}{xs:List V}(e:Same H H')(h:SqL K H a xs):SqL K H' a xs:=by
 rcases h with(h|⟨o,h⟩)|h
 ·exact .inl (.inl (e _ _ h))
 ·exact .inl (.inr ⟨o,e _ _ h⟩)
 ·exact .inr h
section
variable{K:FrG}{R R':Hp}
theorem Rp.mono(s:Same R R'){v:V}{d:D}(h:Rp K R v d):Rp K R' v d:=
 Rp.rec (motive_1:=λv d _=>Rp K R' v d) (motive_2:=λxs ds _=>Rps K R' xs ds) (motive_3:=λxs ds _=>Rfs K R' xs ds) (motive_4:=λxs ds _=>Rkk K R' xs ds) (motive_5:=λxs ds _=>Rkt K R' xs ds)
  .non .bl .int .str (λh _ r=>.lst (s.sqL h) r) (λh _ r=>.tup (s _ _ h) r) (λn h _ r=>.obj n (s _ _ h) r) (λh _ r=>.dct (s _ _ h) r) (λh _ r=>.dit (s _ _ h) r) (λn k h=>.exc n k (s _ _ h)) (λn=>.fn n)
  .nil (λ_ _ h r=>.cons h r) .nil (λ_ _ h r=>.cons h r) .nil (λ_ _ h r=>.cons h r) .nil (λ_ _ h r=>.cons h r) h
theorem Rps.mono(s:Same R R'){xs:List V}{ds:List D}(h:Rps K R xs ds):Rps K R' xs ds:=
 Rps.rec (motive_1:=λv d _=>Rp K R' v d) (motive_2:=λxs ds _=>Rps K R' xs ds) (motive_3:=λxs ds _=>Rfs K R' xs ds) (motive_4:=λxs ds _=>Rkk K R' xs ds) (motive_5:=λxs ds _=>Rkt K R' xs ds)
  .non .bl .int .str (λh _ r=>.lst (s.sqL h) r) (λh _ r=>.tup (s _ _ h) r) (λn h _ r=>.obj n (s _ _ h) r) (λh _ r=>.dct (s _ _ h) r) (λh _ r=>.dit (s _ _ h) r) (λn k h=>.exc n k (s _ _ h)) (λn=>.fn n)
  .nil (λ_ _ h r=>.cons h r) .nil (λ_ _ h r=>.cons h r) .nil (λ_ _ h r=>.cons h r) .nil (λ_ _ h r=>.cons h r) h
theorem Rfs.mono(s:Same R R'){xs:List (Str×V)}{ds:List (Str×D)}(h:Rfs K R xs ds):Rfs K R' xs ds:=
 Rfs.rec (motive_1:=λv d _=>Rp K R' v d) (motive_2:=λxs ds _=>Rps K R' xs ds) (motive_3:=λxs ds _=>Rfs K R' xs ds) (motive_4:=λxs ds _=>Rkk K R' xs ds) (motive_5:=λxs ds _=>Rkt K R' xs ds)
  .non .bl .int .str (λh _ r=>.lst (s.sqL h) r) (λh _ r=>.tup (s _ _ h) r) (λn h _ r=>.obj n (s _ _ h) r) (λh _ r=>.dct (s _ _ h) r) (λh _ r=>.dit (s _ _ h) r) (λn k h=>.exc n k (s _ _ h)) (λn=>.fn n)
  .nil (λ_ _ h r=>.cons h r) .nil (λ_ _ h r=>.cons h r) .nil (λ_ _ h r=>.cons h r) .nil (λ_ _ h r=>.cons h r) h
theorem Rkk.mono(s:Same R R'){xs:List (Key×V)}{ds:List (Key×D)}(h:Rkk K R xs ds):Rkk K R' xs ds:=
 Rkk.rec (motive_1:=λv d _=>Rp K R' v d) (motive_2:=λxs ds _=>Rps K R' xs ds) (motive_3:=λxs ds _=>Rfs K R' xs ds) (motive_4:=λxs ds _=>Rkk K R' xs ds) (motive_5:=λxs ds _=>Rkt K R' xs ds)
  .non .bl .int .str (λh _ r=>.lst (s.sqL h) r) (λh _ r=>.tup (s _ _ h) r) (λn h _ r=>.obj n (s _ _ h) r) (λh _ r=>.dct (s _ _ h) r) (λh _ r=>.dit (s _ _ h) r) (λn k h=>.exc n k (s _ _ h)) (λn=>.fn n)
  .nil (λ_ _ h r=>.cons h r) .nil (λ_ _ h r=>.cons h r) .nil (λ_ _ h r=>.cons h r) .nil (λ_ _ h r=>.cons h r) h
theorem Rkt.mono(s:Same R R'){xs:List (List Key×V)}{ds:List (List Key×D)}(h:Rkt K R xs ds):Rkt K R' xs ds:=
 Rkt.rec (motive_1:=λv d _=>Rp K R' v d) (motive_2:=λxs ds _=>Rps K R' xs ds) (motive_3:=λxs ds _=>Rfs K R' xs ds) (motive_4:=λxs ds _=>Rkk K R' xs ds) (motive_5:=λxs ds _=>Rkt K R' xs ds)
  .non .bl .int .str (λh _ r=>.lst (s.sqL h) r) (λh _ r=>.tup (s _ _ h) r) (λn h _ r=>.obj n (s _ _ h) r) (λh _ r=>.dct (s _ _ h) r) (λh _ r=>.dit (s _ _ h) r) (λn k h=>.exc n k (s _ _ h)) (λn=>.fn n)
  .nil (λ_ _ h r=>.cons h r) .nil (λ_ _ h r=>.cons h r) .nil (λ_ _ h r=>.cons h r) .nil (λ_ _ h r=>.cons h r) h
theorem Rps.length:∀{xs:List V} {ds:List D},Rps K R xs ds->xs.length=ds.length
 |_,_,.nil=>rfl
 |_,_,.cons _ r=>by rw[ju,ju,Rps.length r]
theorem Rps.get:∀{xs:List V} {ds:List D} {i:Nat} {d:D},Rps K R xs ds->ds[i]? =some d->∃v,xs[i]? =some v/\Rp K R v d
 |_,_,_,_,.nil,e=>by simp at e
 |_,_,0,_,.cons h _,e=>by simp at e;subst e;exact⟨_,rfl,h⟩
 | _,_,i+1,d,.cons _ r,e=>by obtain⟨v,h1,h2⟩:=Rps.get (i:=i) (d:=d) r (by simpa using e);exact⟨v,by simpa using h1,h2⟩
theorem Rps.append:∀{xs ys:List V} {ds es:List D},Rps K R xs ds->Rps K R ys es->Rps K R (xs++ys) (ds++es)
 |_,_,_,_,.nil,s=>s
 |_,_,_,_,.cons r t,s=>.cons r (Rps.append t s)
theorem Rps.take:∀{xs:List V} {ds:List D} (n:Nat),Rps K R xs ds->Rps K R (xs.take n) (ds.take n)
 |_,_,0,_=>.nil
 |_,_,_+1,.nil=>.nil
 |_,_,n+1,.cons r t=>.cons r (Rps.take n t)
theorem Rps.drop:∀{xs:List V} {ds:List D} (n:Nat),Rps K R xs ds->Rps K R (xs.drop n) (ds.drop n)
 |_,_,0,r=>r
 |_,_,_+1,.nil=>.nil
 |_,_,n+1,.cons _ t=>Rps.drop n t
theorem Rps.set{x:V}{d:D}(r:Rp K R x d):∀{xs:List V} {ds:List D} (i:Nat),Rps K R xs ds->Rps K R (xs.set i x) (ds.set i d)
 |_,_,_,.nil=>.nil
 |_,_,0,.cons _ t=>.cons r t
 |_,_,i+1,.cons q t=>.cons q (Rps.set r i t)
theorem Rps.one{x:V}{d:D}(r:Rp K R x d):Rps K R [x] [d]:=.cons r .nil
theorem Rps.ints:∀ns:List Int,Rps K R (ns.map V.int) (ns.map D.int)
 |[]=>.nil
 |n::ns=>.cons (.int n) (Rps.ints ns)
theorem Rps.snoc{xs:List V}{ds:List D}{x:V}{d:D}(h:Rps K R xs ds)(r:Rp K R x d):Rps K R (xs++[x]) (ds++[d]):=h.append (.one r)
end
inductive Sc:V->D->Prop
 |non:Sc .non .non
 |bl (b:Bool):Sc (.bl b) (.bl b)
 |int (i:Int):Sc (.int i) (.int i)
 |str (x:Str):Sc (.str x) (.str x)
theorem Sc.rp{K:FrG}{R:Hp}{v:V}{d:D}(h:Sc v d):Rp K R v d:=by
 cases h with
 |non=>exact .non
 |bl b=>exact .bl b
 |int i=>exact .int i
 |str x=>exact .str x
def Frh(H:Hp)(a:Addr):Prop:=H a=none∨∃xs,H a=some (.tup xs)
def Liv(H H':Hp)(a:Addr):Prop:=H' a≠none/\∀xs,H' a=some (.tup xs)->H a=some (.tup xs)
theorem Liv.refl{H:Hp}{a:Addr}(h:H a≠none):Liv H H a:=⟨h,λ_ e=>e⟩
theorem Liv.trans{H H1 H2:Hp}{a:Addr}(x:Liv H H1 a)(y:Liv H1 H2 a):Liv H H2 a:=⟨y.1,λxs e=>x.2 xs (y.2 xs e)⟩
theorem Frh.back{H H1:Hp}{a:Addr}(h:H a≠none->Liv H H1 a)(z:Frh H1 a):Frh H a:=by
 cases q:H a with
 |none=>exact .inl q
 | some o=>
  have v:=h (by rw[q];exact λz=>nomatch z);rcases z with z|⟨xs,z⟩
  ·exact absurd z v.1
  ·exact .inr ⟨xs,v.2 xs z⟩
structure Ext(H R H' R':Hp):Prop where
 h:Same H H'
 r:Same R R'
 s:∀a o,R' a=some o->H' a=some o
 n:∀a,R' a≠none->R a≠none∨Frh H a
theorem Ext.refl{H R:Hp}(s:∀a o,R a=some o->H a=some o):Ext H R H R:=⟨Same.refl _,Same.refl _,s,λ_ h=>.inl h⟩
theorem Same.some{H H':Hp}(s:Same H H'){a:Addr}(h:H a≠none):H' a≠none:=by
 cases q:H a with
 |none=>exact absurd q h
 |some o=>rw[s a o q];exact λz=>nomatch z
theorem Same.liv{H H':Hp}(s:Same H H'){a:Addr}(h:H a≠none):Liv H H' a:=⟨s.some h,λxs e=>by
 cases q:H a with
 |none=>exact absurd q h
 |some o=>rw[s a o q]at e;exact e⟩
theorem Ext.trans{H R H1 R1 H2 R2:Hp}(x:Ext H R H1 R1)(y:Ext H1 R1 H2 R2):Ext H R H2 R2:=by
 refine⟨x.h.trans y.h,x.r.trans y.r,y.s,λa h=>?_⟩;rcases y.n a h with z|z
 ·exact x.n a z
 ·exact .inr (z.back x.h.liv)
theorem Ext.new{H R:Hp}{a:Addr}{o:HO}(s:∀a o,R a=some o->H a=some o)(h:H a=none):Ext H R (upd H a o) (upd R a o):=by
 have hr:R a=none:=by
  cases q:R a with
  |none=>rfl
  |some u=>rw[s a u q]at h;cases h
 refine⟨Same.new h,Same.new hr,λb u e=>?_,λb e=>?_⟩
 ·by_cases hb:b=a
  ·subst hb;rw[q0m]at e ⊢;exact e
  ·rw[q0j hb]at e ⊢;exact s b u e
 ·by_cases hb:b=a
  ·subst hb;exact .inr (.inl h)
  ·rw[q0j hb]at e;exact .inl e
theorem Ext.hid{H R:Hp}{a:Addr}{o:HO}(s:∀a o,R a=some o->H a=some o)(h:H a=none):Ext H R (upd H a o) R:=
 ⟨Same.new h,Same.refl _,λb u e=>Same.new h _ _ (s b u e),λ_ e=>.inl e⟩
structure Anc where
 H0:Hp
 R0:Hp
 L:Addr->Prop
 P:List Nat
inductive Ob(K:FrG)(R:Hp):HO->D->Prop
 |lst {vs:List V} {ds:List D}:Rps K R vs ds->Ob K R (.lst vs) (.lst ds)
 |dct {kvs:List (Key×V)} {gs:List (Key×D)}:Rkk K R kvs gs->Ob K R (.dK kvs) (.dct gs)
 |dit {kvs:List (List Key×V)} {gs:List (List Key×D)}:Rkt K R kvs gs->Ob K R (.dT kvs) (.dit gs)
theorem Ob.isL{K:FrG}{R:Hp}{o:HO}{ds:List D}(h:Ob K R o (.lst ds)):∃vs,o=.lst vs/\Rps K R vs ds:=by
 cases h with
 |lst r=>exact⟨_,rfl,r⟩
theorem Ob.mono{K:FrG}{R R':Hp}{o:HO}{d:D}(s:Same R R')(h:Ob K R o d):Ob K R' o d:=by
 cases h with
 |lst r=>exact .lst (r.mono s)
 |dct r=>exact .dct (r.mono s)
 |dit r=>exact .dit (r.mono s)
theorem Ob.noF{K:FrG}{H R:Hp}{o:HO}{d:D}{l:Addr}(h:Ob K R o d)(e:H l=some o)(z:Frh H l):False:=by
 rcases z with z|⟨xs,z⟩
 ·rw[e]at z;cases z
 ·rw[e]at z;cases z;cases h
theorem Ob.rp{K:FrG}{R:Hp}{o:HO}{d:D}{l:Addr}(h:Ob K R o d)(e:R l=some o):Rp K R (.ref l) d:=by
 cases h with
 |lst r=>exact .lst (SqL.of e) r
 |dct r=>exact .dct e r
 |dit r=>exact .dit e r
structure StR(K:FrG)(Z:Anc)(O:List Nat)(σ:St)(H R:Hp)(ρ:Rho):Prop where
 sub:∀a o,R a=some o->H a=some o
 len:σ.length=ρ.length
 env:∀i d,i∉O->ρ[i]? =some (some d)->∃v,σ[i]? =some (some v)/\Rp K R v d
 own:∀i,i∈O->∃l vs ds,ρ[i]? =some (some ds)/\σ[i]? =some (some (.ref l))/\H l=some vs/\R l=none/\Ob K R vs ds
 dis:∀i j,i∈O->j∈O->i≠j->∀l,σ[i]? =some (some (.ref l))->σ[j]? ≠some (some (.ref l))
 ah:∀a o,Z.H0 a=some o->¬Z.L a->H a=some o
 ar:Same Z.R0 R
 an:∀a,R a≠none->Z.R0 a≠none∨Frh Z.H0 a
 ad:∀a,Z.H0 a≠none->Liv Z.H0 H a
 ao:∀i,i∈O->i∉Z.P->∀l,σ[i]? =some (some (.ref l))->Z.H0 l=none
 ap:∀i,i∈O->i∈Z.P->∀l,σ[i]? =some (some (.ref l))->Z.L l
structure Stp(O:List Nat)(σ:St)(H R H' R':Hp):Prop where
 r:Same R R'
 h:∀a o,H a=some o->(∀i,i∈O->σ[i]? ≠some (some (.ref a)))->H' a=some o
 n:∀a,R' a≠none->R a≠none∨Frh H a
 d:∀a,H a≠none->Liv H H' a
theorem Stp.refl(O:List Nat)(σ:St)(H R:Hp):Stp O σ H R H R:=⟨Same.refl _,λ_ _ e _=>e,λ_ h=>.inl h,λ_ h=>.refl h⟩
theorem Stp.trans{O:List Nat}{σ:St}{H R H1 R1 H2 R2:Hp}(x:Stp O σ H R H1 R1)(y:Stp O σ H1 R1 H2 R2):Stp O σ H R H2 R2:=by
 refine⟨x.r.trans y.r,λa o e n=>y.h a o (x.h a o e n) n,λa h=>?_,λa h=>(x.d a h).trans (y.d a (x.d a h).1)⟩;rcases y.n a h with z|z
 ·exact x.n a z
 ·exact .inr (z.back (x.d a))
theorem Ext.stp{O:List Nat}{σ:St}{H R H' R':Hp}(x:Ext H R H' R'):Stp O σ H R H' R':=⟨x.r,λa o e _=>x.h a o e,x.n,λ_ h=>x.h.liv h⟩
section
variable{K:FrG}{Z:Anc}{O O':List Nat}{σ σ':St}{H R H' R':Hp}{ρ ρ':Rho}
theorem StR.ext(S:StR K Z O σ H R ρ)(x:Ext H R H' R'):StR K Z O σ H' R' ρ:=by
 refine⟨x.s,S.len,λi d hi e=>?_,λi hi=>?_,S.dis,λa o e n=>x.h a o (S.ah a o e n),S.ar.trans x.r,λa h=>?_,λa h=>(S.ad a h).trans (x.h.liv (S.ad a h).1),S.ao,S.ap⟩
 ·obtain⟨v,h1,h2⟩:=S.env i d hi e;exact⟨v,h1,h2.mono x.r⟩
 ·obtain⟨l,vs,ds,h1,h2,h3,h4,h5⟩:=S.own i hi;refine⟨l,vs,ds,h1,h2,x.h _ _ h3,?_,h5.mono x.r⟩;cases q:R' l with
  |none=>rfl
  | some o=>
   rcases x.n l (by rw[q];exact λz=>nomatch z)with z|z
   ·exact absurd h4 z
   ·exact(h5.noF h3 z).elim
 ·rcases x.n a h with z|z
  ·exact S.an a z
  ·exact .inr (z.back (S.ad a))
noncomputable def frzR(O O':List Nat)(σ:St)(H R:Hp):Hp:=λa=>open Classical in if∃i,i∈O/\i∉O'/\σ[i]? =some (some (.ref a))then H a else R a
theorem StR.freeze(S:StR K Z O σ H R ρ)(hs:∀i,i∈O'->i∈O)(hp:∀i,i∈Z.P->i∈O->i∈O'):StR K Z O' σ H (frzR O O' σ H R) ρ/\Same R (frzR O O' σ H R):=by
 have same:Same R (frzR O O' σ H R):=λa o e=>by
  unfold frzR;split
  ·exact S.sub a o e
  ·exact e
 refine⟨⟨λa o e=>?_,S.len,λi d hi e=>?_,λi hi=>?_,λi j hi hj=>S.dis i j (hs i hi) (hs j hj),S.ah,S.ar.trans same,λa h=>?_,S.ad,λi hi=>S.ao i (hs i hi),λi hi=>S.ap i (hs i hi)⟩,same⟩
 ·unfold frzR at e;split at e
  ·exact e
  ·exact S.sub a o e
 ·by_cases hO:i∈O
  ·obtain⟨l,vs,ds,h1,h2,h3,h4,h5⟩:=S.own i hO;rw[e]at h1;have ed:d=ds:=jd (jd h1);subst ed;refine⟨.ref l,h2,(h5.mono same).rp ?_⟩;unfold frzR;rw[if_pos ⟨i,hO,hi,h2⟩];exact h3
  ·obtain⟨v,h1,h2⟩:=S.env i d hO e;exact⟨v,h1,h2.mono same⟩
 ·obtain⟨l,vs,ds,h1,h2,h3,h4,h5⟩:=S.own i (hs i hi);refine⟨l,vs,ds,h1,h2,h3,?_,h5.mono same⟩;unfold frzR;rw[if_neg ?_]
  ·exact h4
  ·rintro⟨j,hj,hj',e⟩;exact S.dis j i hj (hs i hi) (λz=>hj' (z▸hi)) l e h2
 ·unfold frzR at h;split at h
  ·rename_i z;obtain⟨j,hj,hj',e⟩:=z;exact .inr (.inl (S.ao j hj (λz=>hj' (hp j z hj)) a e))
  ·exact S.an a h
theorem StR.set(S:StR K Z O σ H R ρ){i:Nat}{v:V}{d:D}(hi:i∉O)(r:Rp K R v d):StR K Z O (σ.set i (some v)) H R (ρ.set i (some d)):=by
 have ne:∀j,j∈O->i≠j:=λj hj z=>hi (z▸hj);refine⟨S.sub,by rw[jw,jw];exact S.len,λj e hj q=>?_,λj hj=>?_,λj k hj hk n l e=>?_,S.ah,S.ar,S.an,S.ad,λj hj hp l e=>?_,λj hj hp l e=>?_⟩
 ·by_cases hij:i=j
  ·subst hij;have hl:i<ρ.length:=by
    have:=(List.getElem?_eq_some_iff.mp q).1
    rwa [jw]at this
   rw[jn hl]at q;have e':d=e:=jd (jd q);subst e';exact⟨v,by rw[jn (by rw[S.len];exact hl)],r⟩
  ·rw[ji hij]at q;obtain⟨w,h1,h2⟩:=S.env j e hj q;exact⟨w,by rw[ji hij];exact h1,h2⟩
 ·obtain⟨l,vs,ds,h1,h2,h3,h4,h5⟩:=S.own j hj;exact⟨l,vs,ds,by rw[ji (ne j hj)];exact h1,by rw[ji (ne j hj)];exact h2,h3,h4,h5⟩
 ·rw[ji (ne j hj)]at e;rw[ji (ne k hk)];exact S.dis j k hj hk n l e
 ·rw[ji (ne j hj)]at e;exact S.ao j hj hp l e
 ·rw[ji (ne j hj)]at e;exact S.ap j hj hp l e
theorem StR.write(S:StR K Z O σ H R ρ){i:Nat}{l:Addr}{vs:HO}{ds:D}(hi:i∈O)(hl:σ[i]? =some (some (.ref l)))(r:Ob K R vs ds):StR K Z O σ (upd H l vs) R (ρ.set i (some ds)):=by
 obtain⟨l0,vs0,ds0,h1,h2,h3,h4,h5⟩:=S.own i hi;rw[hl]at h2;cases h2;have other:∀j,j∈O->i≠j->∀k,σ[j]? =some (some (.ref k))->k≠l:=λj hj n k e z=>by subst z;exact S.dis i j hi hj n k hl e
 refine⟨λa o e=>?_,by rw[jw];exact S.len,λj d hj q=>?_,λj hj=>?_,S.dis,λa o e n=>?_,S.ar,S.an,λa h=>?_,S.ao,S.ap⟩
 ·have ne:a≠l:=λz=>by subst z;rw[h4]at e;cases e
  rw[q0j ne];exact S.sub a o e
 ·have n:i≠j:=λz=>hj (z▸hi);rw[ji n]at q;exact S.env j d hj q
 ·by_cases n:i=j
  ·subst n;have zd:i<ρ.length:=(List.getElem?_eq_some_iff.mp h1).1;exact⟨l,vs,ds,by rw[jn zd],hl,q0m,h4,r⟩
  ·obtain⟨k,vs',ds',g1,g2,g3,g4,g5⟩:=S.own j hj;exact⟨k,vs',ds',by rw[ji n];exact g1,g2,by rw[q0j (other j hj n k g2)];exact g3,g4,g5⟩
 ·have ne:a≠l:=λz=>by
   subst z;by_cases hp:i∈Z.P
   ·exact n (S.ap i hi hp a hl)
   ·rw[S.ao i hi hp a hl]at e;cases e
  rw[q0j ne];exact S.ah a o e n
 ·by_cases ha:a=l
  ·subst ha;exact⟨by rw[q0m];exact(λz=>(nomatch z)),λxs e=>by rw[q0m]at e;cases e;cases r⟩
  ·exact⟨by rw[q0j ha];exact(S.ad a h).1,λxs e=>by rw[q0j ha]at e;exact(S.ad a h).2 xs e⟩
theorem StR.take(S:StR K Z O σ H R ρ){i:Nat}{l:Addr}{vs:HO}{ds:D}(hi:i∉O)(hin:i∈O')(hO:∀j,j∈O'->j=i∨j∈O)(hp:i∉Z.P)(zd:i<ρ.length)(h0:Z.H0 l=none)(hH:H l=some vs)(hR:R l=none)(hn:∀j,j∈O->σ[j]? ≠some (some (.ref l)))(hs:∀j,j∈O->j∈O')(r:Ob K R vs ds):
 StR K Z O' (σ.set i (some (.ref l))) H R (ρ.set i (some ds)):=by
 have ne:∀j,j∈O->i≠j:=λj hj z=>hi (z▸hj);have hl:i<σ.length:=by rw[S.len];exact zd
 refine⟨S.sub,by rw[jw,jw];exact S.len,λj e hj q=>?_,λj hj=>?_,λj k hj hk n m e=>?_,S.ah,S.ar,S.an,S.ad,λj hj hp l e=>?_,λj hj hp' l e=>?_⟩
 ·by_cases hij:i=j
  ·subst hij;rw[jn zd]at q;have e':ds=e:=jd (jd q);subst e';exact absurd hin hj
  ·rw[ji hij]at q;obtain⟨w,h1,h2⟩:=S.env j e (λz=>hj (hs j z)) q;exact⟨w,by rw[ji hij];exact h1,h2⟩
 ·rcases hO j hj with rfl|hj'
  ·exact⟨l,vs,ds,by rw[jn zd],by rw[jn hl],hH,hR,r⟩
  ·obtain⟨k,vs',ds',g1,g2,g3,g4,g5⟩:=S.own j hj';exact⟨k,vs',ds',by rw[ji (ne j hj')];exact g1,by rw[ji (ne j hj')];exact g2,g3,g4,g5⟩
 ·rcases hO j hj with rfl|hj'
  ·rw[jn hl]at e;cases e;rcases hO k hk with rfl|hk'
   ·exact absurd rfl n
   ·rw[ji (ne k hk')];exact hn k hk'
  ·rw[ji (ne j hj')]at e;rcases hO k hk with rfl|hk'
   ·rw[jn hl];intro z;cases z;exact hn j hj' e
   ·rw[ji (ne k hk')];exact S.dis j k hj' hk' n m e
 ·rcases hO j hj with rfl|hj'
  ·rw[jn hl]at e;cases e;exact h0
  ·rw[ji (ne j hj')]at e;exact S.ao j hj' hp l e
 ·rcases hO j hj with rfl|hj'
  ·exact absurd hp' hp
  ·rw[ji (ne j hj')]at e;exact S.ap j hj' hp' l e
end
def q1r{α β:Type}(a:Rho->Option (α×Rho))(k:α->Rho->Option (β×Rho)):Rho->Option (β×Rho):=λρ=>match a ρ with
 |none=>none
 |some (x,ρ1)=>k x ρ1
def mRet{α:Type}(x:α):Rho->Option (α×Rho):=λρ=>some (x,ρ)
def q2q{α:Type}(o:Option α):Rho->Option (α×Rho):=λρ=>match o with
 |none=>none
 |some x=>some (x,ρ)
theorem q0a{α β:Type}{a:Rho->Option (α×Rho)}{k:α->Rho->Option (β×Rho)}{ρ:Rho}{r:β×Rho}(h:q1r a k ρ=some r):∃x ρ1,a ρ=some (x,ρ1)/\k x ρ1=some r:=by
 unfold q1r at h;cases e:a ρ with
 |none=>rw[e]at h;cases h
 |some p=>rw[e]at h;exact⟨p.1,p.2,rfl,h⟩
theorem q0k{α:Type}{o:Option α}{ρ:Rho}{x:α}{ρ':Rho}(h:q2q o ρ=some (x,ρ')):o=some x/\ρ'=ρ:=by
 unfold q2q at h;cases o with
 |none=>cases h
 |some y=>cases h;exact⟨rfl,rfl⟩
def mVar(i:Nat):RhD:=λρ=>match ρ[i]? with
 |some (some d)=>some (d,ρ)
 |_=>none
theorem q7d{i:Nat}{ρ ρ':Rho}{d:D}(h:mVar i ρ=some (d,ρ')):ρ[i]? =some (some d)/\ρ'=ρ:=by
 unfold mVar at h;cases e:ρ[i]? with
 |none=>rw[e]at h;cases h
 | some o=>
  rw[e]at h;cases o with
  |none=>cases h
  |some y=>cases h;exact⟨rfl,rfl⟩
section
variable(K:FrG)(O:List Nat)
def ME(t:TE)(f:RhD):Prop:=∀(Z:Anc) (σ:St) (H R:Hp) (ρ:Rho) (d:D) (ρ':Rho) (Q:VK),StR K Z O σ H R ρ->f ρ=some (d,ρ')->(∀v H' R',StR K Z O σ H' R' ρ'->Stp O σ H R H' R'->Rp K R' v d->Q v H')->t σ H Q
def MB(t:TE)(f:RhD):Prop:=∀(Z:Anc) (σ:St) (H R:Hp) (ρ:Rho) (d:D) (ρ':Rho) (Q:VK),StR K Z O σ H R ρ->f ρ=some (d,ρ')->(∀v H' R',StR K Z O σ H' R' ρ'->Stp O σ H R H' R'->Rp K H' v d->Q v H')->t σ H Q
def MT(t:TT)(f:RhB):Prop:=∀(Z:Anc) (σ:St) (H R:Hp) (ρ:Rho) (b:Bool) (ρ':Rho) (Q:Bool->Hp->Prop),StR K Z O σ H R ρ->f ρ=some (b,ρ')->(∀H' R',StR K Z O σ H' R' ρ'->Stp O σ H R H' R'->Q b H')->t σ H Q
def MA(t:TA)(f:RhL):Prop:=∀(Z:Anc) (σ:St) (H R:Hp) (ρ:Rho) (ds:List D) (ρ':Rho) (Q:List V->Hp->Prop),StR K Z O σ H R ρ->f ρ=some (ds,ρ')->(∀vs H' R',StR K Z O σ H' R' ρ'->Stp O σ H R H' R'->Rps K R' vs ds->Q vs H')->t σ H Q
def MN(t:TE)(f:RhL):Prop:=∀(Z:Anc) (σ:St) (H R:Hp) (ρ:Rho) (ds:List D) (ρ':Rho) (Q:VK),StR K Z O σ H R ρ->f ρ=some (ds,ρ')->(∀l vs H' R',StR K Z O σ H' R' ρ'->Stp O σ H R H' R'->H l=none->H' l=some (.lst vs)->R' l=none->Rps K R' vs ds->Q (.ref l) H')->t σ H Q
end
section
variable{K:FrG}{Z:Anc}{O:List Nat}{t ta tb tc:TE}{tA tB':TT}{tr:TA}
theorem StR.same{σ:St}{H R:Hp}{ρ:Rho}(S:StR K Z O σ H R ρ):Same R H:=S.sub
theorem ME.mb{f:RhD}(h:ME K O t f):MB K O t f:=λZ σ H R ρ d ρ' Q S e k=>h Z σ H R ρ d ρ' Q S e λv H' R' S' st r=>k v H' R' S' st (r.mono S'.same)
theorem StR.notnew{σ:St}{H R:Hp}{ρ:Rho}(S:StR K Z O σ H R ρ){l:Addr}(h:H l=none):∀j,j∈O->σ[j]? ≠some (some (.ref l)):=λj hj e=>by
 obtain⟨k,vs,ds,_,h2,h3,_⟩:=S.own j hj;rw[e]at h2
 (first|obtain rfl:=h2.isA rfl|cases h2)
 rw[h]at h3
 (first|obtain rfl:=h3.isA rfl|cases h3)
theorem StR.know{σ:St}{H R:Hp}{ρ:Rho}{l:Addr}{vs:HO}(S:StR K Z O σ H R ρ)(h0:Z.H0 l=none)(hH:H l=some vs)(hR:R l=none)(hn:∀j,j∈O->σ[j]? ≠some (some (.ref l))):StR K Z O σ H (upd R l vs) ρ:=by
 have same:Same R (upd R l vs):=Same.new hR;refine⟨λa o e=>?_,S.len,λi d hi e=>?_,λi hi=>?_,S.dis,S.ah,S.ar.trans same,λa h=>?_,S.ad,S.ao,S.ap⟩
 ·by_cases ha:a=l
  ·subst ha;rw[q0m]at e;rw[hH,e]
  ·rw[q0j ha]at e;exact S.sub a o e
 ·obtain⟨v,h1,h2⟩:=S.env i d hi e;exact⟨v,h1,h2.mono same⟩
 ·obtain⟨k,ws,ds,h1,h2,h3,h4,h5⟩:=S.own i hi;refine⟨k,ws,ds,h1,h2,h3,?_,h5.mono same⟩;rw[q0j (λz=>hn i hi (by rw[<-z];exact h2))];exact h4
 ·by_cases ha:a=l
  ·subst ha;exact .inr (.inl h0)
  ·rw[q0j ha]at h;exact S.an a h
theorem StR.new0{σ:St}{H R:Hp}{ρ:Rho}{l:Addr}(S:StR K Z O σ H R ρ)(h:H l=none):Z.H0 l=none:=by
 cases q:Z.H0 l with
 |none=>rfl
 |some o=>exact absurd h (S.ad l (by rw[q];exact λz=>nomatch z)).1
theorem Stp.know{σ:St}{H R H' R':Hp}{l:Addr}{o:HO}(x:Stp O σ H R H' R')(h:H l=none)(hr:R' l=none):Stp O σ H R H' (upd R' l o):=by
 refine⟨x.r.trans (Same.new hr),x.h,λb e=>?_,x.d⟩;by_cases hb:b=l
 ·subst hb;exact .inr (.inl h)
 ·rw[q0j hb]at e;exact x.n b e
theorem MN.me{f:RhL}(h:MN K O t f):ME K O t (q1r f λds=>mRet (.lst ds)):=λZ σ H R ρ d ρ' Q S e k=>by obtain⟨ds,ρ1,e1,e2⟩:=q0a e;cases e2;refine h Z σ H R ρ ds _ Q S e1 λl vs H' R' S' st h0 hH hR r=>?_;refine k _ H' (upd R' l (.lst vs)) (S'.know (S.new0 h0) hH hR ?_) (st.know h0 hR) (.lst (SqL.of q0m) (r.mono (Same.new hR)));exact S.notnew h0
theorem q03{i:Nat}(hi:i∉O:=by decide):ME K O (tVar i) (mVar i):=λZ σ H R ρ d ρ' Q S e k=>by obtain⟨e1,rfl⟩:=q7d e;obtain⟨v,h1,h2⟩:=S.env i d hi e1;exact⟨v,h1,k v H R S (Stp.refl _ _ _ _) h2⟩
theorem q1z{i:Nat}:MB K O (tVar i) (mVar i):=λZ σ H R ρ d ρ' Q S e k=>by
 obtain⟨e1,rfl⟩:=q7d e;by_cases hi:i∈O
 ·obtain⟨l,vs,ds,h1,h2,h3,h4,h5⟩:=S.own i hi;rw[e1]at h1
  (first|obtain rfl:=h1.isA rfl|cases h1)
  exact⟨.ref l,h2,k _ H R S (Stp.refl _ _ _ _) ((h5.mono S.same).rp h3)⟩
 ·obtain⟨v,h1,h2⟩:=S.env i d hi e1;exact⟨v,h1,k v H R S (Stp.refl _ _ _ _) (h2.mono S.same)⟩
theorem me_c{v:V}{d:D}(h:Sc v d):ME K O (tC v) (mRet d):=λZ σ H R ρ e ρ' Q S q k=>by
 (first|obtain rfl:=q.isA rfl|cases q)
 exact k v H R S (Stp.refl _ _ _ _) h.rp
theorem me_int{i:Int}:ME K O (tC (.int i)) (mRet (.int i)):=me_c (.int i)
theorem me_str{x:Str}:ME K O (tC (.str x)) (mRet (.str x)):=me_c (.str x)
theorem q7c{b:Bool}:ME K O (tC (.bl b)) (mRet (.bl b)):=me_c (.bl b)
theorem me_non:ME K O (tC .non) (mRet .non):=me_c .non
def mOp2(g:D->D->Option D)(fa fb:RhD):RhD:=q1r fa λx=>q1r fb λy=>q2q (g x y)
def OpS(K:FrG)(r:R2)(g:D->D->Option D):Prop:=∀(H:Hp) (x y:V) (d e u:D) (Q:VK),Rp K H x d->Rp K H y e->g d e=some u->(∀v,Sc v u->Q v H)->r x y H Q
def OpG(K:FrG)(r:R2)(g:D->D->Option D):Prop:=∀(H R:Hp) (x y:V) (d e u:D) (Q:VK),(∀a o,R a=some o->H a=some o)->Rp K R x d->Rp K R y e->g d e=some u->(∀v H' R',Ext H R H' R'->Rp K R' v u->Q v H')->r x y H Q
theorem OpS.g{r:R2}{g:D->D->Option D}(h:OpS K r g):OpG K r g:=λH R x y d e u Q s rx ry q k=>
 h H x y d e u Q (rx.mono s) (ry.mono s) q λv z=>k v H R (Ext.refl s) z.rp
theorem q0e{r:R2}{g:D->D->Option D}{fa fb:RhD}(h:OpG K r g)(ha:ME K O ta fa)(hb:ME K O tb fb):ME K O (tOp r ta tb) (mOp2 g fa fb):=λZ σ H R ρ d ρ' Q S e k=>by obtain⟨x,ρ1,e1,e⟩:=q0a e;obtain⟨y,ρ2,e2,e⟩:=q0a e;obtain⟨e3,rfl⟩:=q0k e;refine ha Z σ H R ρ x ρ1 _ S e1 λv H1 R1 S1 st1 r1=>hb Z σ H1 R1 ρ1 y _ _ S1 e2 λw H2 R2 S2 st2 r2=>?_;exact h H2 R2 v w x y d Q S2.sub (r1.mono st2.r) r2 e3 λz H3 R3 x3 r3=>k z H3 R3 (S2.ext x3) ((st1.trans st2).trans x3.stp) r3
theorem q15{r:R2}{g:D->D->Option D}{fa fb:RhD}(h:OpS K r g)(ha:ME K O ta fa)(hb:MB K O tb fb):ME K O (tOp r ta tb) (mOp2 g fa fb):=λZ σ H R ρ d ρ' Q S e k=>by obtain⟨x,ρ1,e1,e⟩:=q0a e;obtain⟨y,ρ2,e2,e⟩:=q0a e;obtain⟨e3,rfl⟩:=q0k e;refine ha Z σ H R ρ x ρ1 _ S e1 λv H1 R1 S1 st1 r1=>hb Z σ H1 R1 ρ1 y _ _ S1 e2 λw H2 R2 S2 st2 r2=>?_;exact h H2 v w x y d Q ((r1.mono st2.r).mono S2.same) r2 e3 λz q=>k z H2 R2 S2 (st1.trans st2) q.rp
def mIxO(i:Nat)(fb:RhD):RhD:=q1r fb λy=>q1r (mVar i) λx=>q2q (match x,y with
 |.lst xs,.int j=>atI xs j
 |_,_=>none)
theorem qbh{R:Hp}{xs:List V}{ds:List D}{i:Int}{d:D}(r:Rps K R xs ds)(h:atI ds i=some d):∃v,atI xs i=some v/\Rp K R v d:=by
 unfold atI at h ⊢;rw[r.length];cases e:ixN ds.length i with
 |none=>rw[e]at h;cases h
 | some j=>
  rw[e]at h;exact r.get h
theorem q9w{i:Nat}{fb:RhD}(hi:i∈O)(hb:ME K O tb fb):ME K O (tOp (rIx K) (tVar i) tb) (mIxO i fb):=λZ σ H R ρ d ρ' Q S e k=>by
 obtain⟨y,ρ1,e1,e⟩:=q0a e;obtain⟨x,ρ2,e2,e⟩:=q0a e;obtain⟨e3,rfl⟩:=q0k e;obtain⟨e4,rfl⟩:=q7d e2;obtain⟨l,vs,ds,h1,h2,h3,_⟩:=S.own i hi;refine⟨.ref l,h2,hb Z σ H R ρ y _ _ S e1 λw H1 R1 S1 st1 r1=>?_⟩;obtain⟨l',vs',ds',g1,g2,g3,g4,g5⟩:=S1.own i hi;rw[h2]at g2;cases g2;rw[e4]at g1;cases g1;split at e3
 ·obtain rfl:=r1.isA rfl;obtain⟨us,rfl,q5⟩:=g5.isL;obtain⟨v,q1,q2⟩:=qbh q5 e3;exact .inl ⟨l,_,_,v,rfl,rfl,SqL.of g3,q1,k v H1 R1 S1 st1 q2⟩
 ·cases e3
def dIx:D->D->Option D
 |.lst xs,.int i=>atI xs i
 |.tup xs,.int i=>atI xs i
 |.str z,.int i=>if z.length<=sizeLine then(atI z.cps.toList i).map λc=>.str ⟨#[c]⟩else none
 |_,_=>none
theorem q1b:OpG K (rIx K) dIx:=λH R x y d e u Q s rx ry q k=>by
 unfold dIx at q;split at q
 ·rename_i xs i
  (first|obtain rfl:=ry.isA rfl|cases ry)
  obtain⟨_,_,rfl,h,r⟩:=rx.isL;obtain⟨v,q1,q2⟩:=qbh r q;exact .inl ⟨_,_,i,v,rfl,rfl,Same.sqL s h,q1,k v H R (Ext.refl s) q2⟩
 ·rename_i xs i
  (first|obtain rfl:=ry.isA rfl|cases ry)
  obtain⟨_,_,rfl,h,r⟩:=rx.isT;obtain⟨v,q1,q2⟩:=qbh r q;exact .inr (.inl ⟨_,_,i,v,rfl,rfl,SqT.of (s _ _ h),q1,k v H R (Ext.refl s) q2⟩)
 ·rename_i z i
  (first|obtain rfl:=ry.isA rfl|cases ry)
  (first|obtain rfl:=rx.isA rfl|cases rx)
  split at q
  ·rename_i hz;cases e':atI z.cps.toList i with
   |none=>rw[e']at q;cases q
   | some c=>
    rw[e']at q
    (first|obtain rfl:=q.isA rfl|cases q)
    exact .inr (.inr ⟨z,i,c,rfl,rfl,hz,e',k _ H R (Ext.refl s) (.str _)⟩)
  ·(first|obtain rfl:=q.isA rfl|cases q)
 ·(first|obtain rfl:=q.isA rfl|cases q)
def dI2(C:Int->Int->Bool)(g:Int->Int->Int):D->D->Option D
 |.int i,.int j=>if C i j=true then some (.int (g i j))else none
 |_,_=>none
theorem op_i{C:Int->Int->Bool}{P:Int->Int->Prop}{g:Int->Int->Int}(hc:∀i j,C i j=true->P i j):OpG K (rI P λi j=>.int (g i j)) (dI2 C g):=λH R x y d e u Q s rx ry q k=>by
 unfold dI2 at q;split at q
 ·rename_i i j;split at q
  ·rename_i h
   (first|obtain rfl:=q.isA rfl|cases q)
   (first|obtain rfl:=rx.isA rfl|cases rx)
   (first|obtain rfl:=ry.isA rfl|cases ry)
   exact⟨i,j,rfl,rfl,hc i j h,k _ H R (Ext.refl s) (.int _)⟩
  ·(first|obtain rfl:=q.isA rfl|cases q)
 ·(first|obtain rfl:=q.isA rfl|cases q)
def dI0(g:Int->Int->Int):D->D->Option D
 |.int i,.int j=>some (.int (g i j))
 |_,_=>none
theorem qmg{g:Int->Int->Int}:OpG K (rI0 λi j=>.int (g i j)) (dI0 g):=λH R x y d e u Q s rx ry q k=>by
 unfold dI0 at q;split at q
 ·rename_i i j
  (first|obtain rfl:=q.isA rfl|cases q)
  (first|obtain rfl:=rx.isA rfl|cases rx)
  (first|obtain rfl:=ry.isA rfl|cases ry)
  exact⟨i,j,rfl,rfl,k _ H R (Ext.refl s) (.int _)⟩
 ·(first|obtain rfl:=q.isA rfl|cases q)
def dB0(g:Int->Int->Bool):D->D->Option D
 |.int i,.int j=>some (.bl (g i j))
 |_,_=>none
end
section
variable{K:FrG}{Z:Anc}{O:List Nat}{t ta tb tc:TE}{tA tB':TT}{tr:TA}{fa fb fc:RhD}{ga gb:RhB}{fs:RhL}
def q0b(f:RhD):RhB:=q1r f λd=>q2q (match d with
 |.bl b=>some b
 |_=>none)
theorem q0s(h:ME K O t fa):MT K O (qlv t) (q0b fa):=λZ σ H R ρ b ρ' Q S e k=>by
 obtain⟨d,ρ1,e1,e⟩:=q0a e;obtain⟨e2,rfl⟩:=q0k e;refine h Z σ H R ρ d _ _ S e1 λv H' R' S' st r=>?_
 (first|split at e2)
 ·obtain rfl:=r.isA rfl;cases e2;exact⟨_,rfl,k H' R' S' st⟩
 ·cases e2
theorem q4q(h:ME K O t fa):MT K O (tB t) (q0b fa):=λZ σ H R ρ b ρ' Q S e k=>by
 obtain⟨d,ρ1,e1,e⟩:=q0a e;obtain⟨e2,rfl⟩:=q0k e;refine h Z σ H R ρ d _ _ S e1 λv H' R' S' st r=>?_
 (first|split at e2)
 ·obtain rfl:=r.isA rfl;cases e2;exact⟨_,rfl,k H' R' S' st⟩
 ·cases e2
def mNot(f:RhB):RhB:=q1r f λb=>mRet (!b)
theorem q5p(h:MT K O tA ga):MT K O (tNot tA) (mNot ga):=λZ σ H R ρ b ρ' Q S e k=>by obtain⟨c,ρ1,e1,e⟩:=q0a e;cases e;exact h Z σ H R ρ c _ _ S e1 λH' R' S' st=>k H' R' S' st
def mAnd(f g:RhB):RhB:=q1r f λb=>if b=true then g else mRet false
def mOr(f g:RhB):RhB:=q1r f λb=>if b=true then mRet true else g
theorem qg7(h:MT K O tA ga)(h2:MT K O tB' gb):MT K O (tAnd tA tB') (mAnd ga gb):=λZ σ H R ρ b ρ' Q S e k=>by
 obtain⟨c,ρ1,e1,e⟩:=q0a e;refine h Z σ H R ρ c _ _ S e1 λH' R' S' st=>?_;cases c with
 |true=>exact iteT (h2 Z σ H' R' ρ1 b ρ' Q S' e λH2 R2 S2 st2=>k H2 R2 S2 (st.trans st2))
 |false=>cases e;exact iteF (k H' R' S' st)
theorem q9u(h:MT K O tA ga)(h2:MT K O tB' gb):MT K O (tOr tA tB') (mOr ga gb):=λZ σ H R ρ b ρ' Q S e k=>by
 obtain⟨c,ρ1,e1,e⟩:=q0a e;refine h Z σ H R ρ c _ _ S e1 λH' R' S' st=>?_;cases c with
 |true=>cases e;exact iteT (k H' R' S' st)
 |false=>exact iteF (h2 Z σ H' R' ρ1 b ρ' Q S' e λH2 R2 S2 st2=>k H2 R2 S2 (st.trans st2))
def qbb(f g:RhD):RhD:=q1r (q0b f) λb=>if b=true then g else mRet (.bl false)
def qj2(f:RhD):RhD:=q1r (q0b f) λb=>mRet (.bl (!b))
theorem qlc(h:ME K O ta fa)(h2:ME K O tb fb):ME K O (qp9 ta tb) (qbb fa fb):=λZ σ H R ρ d ρ' Q S e k=>by
 obtain⟨c,ρ1,e1,e⟩:=q0a e;obtain⟨x,ρ2,e1,e2⟩:=q0a e1;obtain⟨e2,rfl⟩:=q0k e2;refine h Z σ H R ρ x _ _ S e1 λv H' R' S' st r=>?_
 (first|split at e2)
 ·obtain rfl:=r.isA rfl;cases e2;refine⟨_,rfl,?_⟩;cases c with
  |true=>exact iteT (h2 Z σ H' R' _ d ρ' Q S' e λv H2 R2 S2 st2 r2=>k v H2 R2 S2 (st.trans st2) r2)
  |false=>cases e;exact iteF (k _ H' R' S' st (.bl false))
 ·cases e2
theorem qrx(h:ME K O ta fa):ME K O (qp5 ta) (qj2 fa):=λZ σ H R ρ d ρ' Q S e k=>by
 obtain⟨c,ρ1,e1,e⟩:=q0a e;obtain⟨x,ρ2,e1,e2⟩:=q0a e1;obtain⟨e2,rfl⟩:=q0k e2;refine h Z σ H R ρ x _ _ S e1 λv H' R' S' st r=>?_
 (first|split at e2)
 ·obtain rfl:=r.isA rfl;cases e2;cases e;exact⟨_,rfl,k _ H' R' S' st (.bl _)⟩
 ·cases e2
def mIf(f:RhB)(g h:RhD):RhD:=q1r f λb=>if b=true then g else h
theorem qdm(h:MT K O tA ga)(h1:ME K O ta fa)(h2:ME K O tb fb):ME K O (tIf tA ta tb) (mIf ga fa fb):=λZ σ H R ρ d ρ' Q S e k=>by
 obtain⟨c,ρ1,e1,e⟩:=q0a e;refine h Z σ H R ρ c _ _ S e1 λH' R' S' st=>?_;cases c with
 |true=>exact iteT (h1 Z σ H' R' ρ1 d ρ' Q S' e λv H2 R2 S2 st2 r2=>k v H2 R2 S2 (st.trans st2) r2)
 |false=>exact iteF (h2 Z σ H' R' ρ1 d ρ' Q S' e λv H2 R2 S2 st2 r2=>k v H2 R2 S2 (st.trans st2) r2)
def mNil:RhL:=mRet []
def q00(f:RhD)(g:RhL):RhL:=q1r f λx=>q1r g λxs=>mRet (x::xs)
theorem q08:MA K O tNil mNil:=λZ σ H R ρ ds ρ' Q S e k=>by cases e;exact k [] H R S (Stp.refl _ _ _ _) .nil
theorem q02(h:ME K O t fa)(h2:MA K O tr fs):MA K O (q35 t tr) (q00 fa fs):=λZ σ H R ρ ds ρ' Q S e k=>by obtain⟨x,ρ1,e1,e⟩:=q0a e;obtain⟨xs,ρ2,e2,e⟩:=q0a e;cases e;refine h Z σ H R ρ x _ _ S e1 λv H1 R1 S1 st1 r1=>h2 Z σ H1 R1 ρ1 xs _ _ S1 e2 λvs H2 R2 S2 st2 r2=>?_;exact k (v::vs) H2 R2 S2 (st1.trans st2) (.cons (r1.mono st2.r) r2)
def mTup(f:RhL):RhD:=q1r f λxs=>q2q (if xs.length<=sizeLine then some (.tup xs)else none)
theorem q39(h:MA K O tr fs):ME K O (tTup tr) (mTup fs):=λZ σ H R ρ d ρ' Q S e k=>by
 obtain⟨xs,ρ1,e1,e⟩:=q0a e;obtain⟨e2,rfl⟩:=q0k e;refine h Z σ H R ρ xs _ _ S e1 λvs H1 R1 S1 st1 r1=>?_;split at e2
 ·rename_i hz;cases e2;refine⟨by rw[r1.length];exact hz,λp np=>?_⟩;have x:=Ext.new (o:=.tup vs) S1.sub np;exact k _ _ _ (S1.ext x) (st1.trans x.stp) (.tup q0m (r1.mono x.r))
 ·cases e2
def mLst(f:RhL):RhL:=q1r f λxs=>q2q (if xs.length<=sizeLine then some xs else none)
theorem StR.out{σ:St}{H R:Hp}{ρ:Rho}{l:Addr}(S:StR K Z O σ H R ρ)(h:H l=none):R l=none:=by
 cases q:R l with
 |none=>rfl
 |some o=>rw[S.sub l o q]at h;cases h
theorem Stp.new{σ:St}{H R H' R':Hp}{l:Addr}(x:Stp O σ H R H' R')(h:H' l=none):H l=none:=by
 cases q:H l with
 |none=>rfl
 |some o=>exact absurd h (x.d l (by rw[q];exact λz=>nomatch z)).1
theorem q2f(h:MA K O tr fs):MN K O (tLst tr) (mLst fs):=λZ σ H R ρ ds ρ' Q S e k=>by
 obtain⟨xs,ρ1,e1,e⟩:=q0a e;obtain⟨e2,rfl⟩:=q0k e;refine h Z σ H R ρ xs _ _ S e1 λvs H1 R1 S1 st1 r1=>?_;split at e2
 ·rename_i hz;cases e2;refine⟨by rw[r1.length];exact hz,λp np=>?_⟩;have x:=Ext.hid (o:=.lst vs) S1.sub np;exact k p vs _ _ (S1.ext x) (st1.trans x.stp) (st1.new np) q0m (S1.out np) r1
 ·cases e2
def qe4(K:FrG)(r:List V->Hp->VK->Prop)(g:D->Option D):Prop:=∀(H:Hp) (x:V) (d u:D) (Q:VK),Rp K H x d->g d=some u->(∀v,Sc v u->Q v H)->r [x] H Q
def mOp1(g:D->Option D)(f:RhD):RhD:=q1r f λx=>q2q (g x)
theorem q19{r:List V->Hp->VK->Prop}{g:D->Option D}(h:qe4 K r g)(ha:MB K O t fa):ME K O (tCB r (q35 t tNil)) (mOp1 g fa):=λZ σ H R ρ d ρ' Q S e k=>by obtain⟨x,ρ1,e1,e⟩:=q0a e;obtain⟨e2,rfl⟩:=q0k e;refine ha Z σ H R ρ x _ _ S e1 λv H1 R1 S1 st1 r1=>?_;exact h H1 v x d Q r1 e2 λw z=>k w H1 R1 S1 st1 z.rp
def dLen:D->Option D
 |.lst xs=>some (.int xs.length)
 |.tup xs=>some (.int xs.length)
 |_=>none
theorem q2j:qe4 K (λxs H Q=>∃p ys,xs=[.ref p]/\(SqL K H p ys∨SqT K H p ys)/\Q (.int ys.length) H) dLen:=λH x d u Q r e k=>by
 (first|split at e|(unfold dLen at e;split at e))
 ·obtain⟨_,_,rfl,h,q⟩:=r.isL;cases e;refine⟨_,_,rfl,.inl h,?_⟩;rw[q.length];exact k _ (.int _)
 ·obtain⟨_,_,rfl,h,q⟩:=r.isT;cases e;refine⟨_,_,rfl,.inr (SqT.of h),?_⟩;rw[q.length];exact k _ (.int _)
 ·cases e
def dInt:D->Option D
 |.int i=>some (.int i)
 |.bl b=>some (.int (if b then 1 else 0))
 |_=>none
theorem qln:qe4 K (λxs H Q=>(∃i,xs=[.int i]/\Q (.int i) H)∨∃k,xs=[.bl k]/\Q (.int (if k then 1 else 0)) H) dInt:=λH x d u Q r e k=>by
 (first|split at e|(unfold dInt at e;split at e))
 ·rename_i i;obtain rfl:=r.isA rfl;cases e;exact .inl ⟨i,rfl,k _ (.int _)⟩
 ·rename_i b;obtain rfl:=r.isA rfl;cases e;exact .inr ⟨b,rfl,k _ (.int _)⟩
 ·cases e
def q2s:List D->Option (List Int)
 |[]=>some []
 |.int i::r=>(q2s r).map (i:: ·)
 |_=>none
def q4u:List D->Option (List Bool)
 |[]=>some []
 |.bl i::r=>(q4u r).map (i:: ·)
 |_=>none
theorem q5u{R:Hp}:∀{xs:List V} {ds:List D} {ns:List Int},Rps K R xs ds->q2s ds=some ns->xs=ns.map V.int
 |_,_,ns,.nil,e=>by cases e;rfl
 | _,_,ns,.cons (d:=d) h r,e=>by
  cases h with
  | int i=>
   unfold q2s at e;cases q:q2s _ with
   |none=>rw[q]at e;cases e
   |some ms=>rw[q]at e;cases e;rw[q5u r q];rfl
  |_=>cases e
theorem q8b{R:Hp}:∀{xs:List V} {ds:List D} {ns:List Bool},Rps K R xs ds->q4u ds=some ns->xs=ns.map V.bl
 |_,_,ns,.nil,e=>by cases e;rfl
 | _,_,ns,.cons (d:=d) h r,e=>by
  cases h with
  | bl i=>
   unfold q4u at e;cases q:q4u _ with
   |none=>rw[q]at e;cases e
   |some ms=>rw[q]at e;cases e;rw[q8b r q];rfl
  |_=>cases e
theorem q2n:∀ns:List Int,q2s (ns.map D.int)=some ns
 |[]=>rfl
 |n::ns=>by rw[xk,q2s,q2n ns];rfl
theorem q8c:∀ns:List Bool,q4u (ns.map D.bl)=some ns
 |[]=>rfl
 |n::ns=>by rw[xk,q4u,q8c ns];rfl
def dSum:D->Option D
 |.lst xs=>(q2s xs).map λns=>.int ns.sum
 |_=>none
theorem qlm:qe4 K (λxs H Q=>∃(p:Addr) (ns:List Int),xs=[.ref p]/\SqL K H p (ns.map V.int)/\Q (.int ns.sum) H) dSum:=λH x d u Q r e k=>by
 cases r with
 | lst h q=>
  rename_i ds;have e':(q2s ds).map (λns=>D.int ns.sum)=some u:=e;cases z:q2s ds with
  |none=>rw[z]at e';cases e'
  | some ns=>
   rw[z]at e';cases e';have ex:=q5u q z;subst ex;exact⟨_,ns,rfl,h,k _ (.int _)⟩
 |_=>cases e
def dAll:D->Option D
 |.lst xs=>(q4u xs).map λbs=>.bl (bs.all id)
 |_=>none
theorem qtc:qe4 K (λxs H Q=>∃(p:Addr) (bs:List Bool),xs=[.ref p]/\SqL K H p (bs.map V.bl)/\Q (.bl (bs.all id)) H) dAll:=λH x d u Q r e k=>by
 cases r with
 | lst h q=>
  rename_i ds;have e':(q4u ds).map (λbs=>D.bl (bs.all id))=some u:=e;cases z:q4u ds with
  |none=>rw[z]at e';cases e'
  | some ns=>
   rw[z]at e';cases e';have ex:=q8b q z;subst ex;exact⟨_,ns,rfl,h,k _ (.bl _)⟩
 |_=>cases e
end
def ItOk(K:FrG)(J:It)(R:Hp)(ds:List D):Prop:=∀(H' R':Hp),Same R R'->(∀a o,R' a=some o->H' a=some o)->∀i:Nat,(i=ds.length->J.stop i H')/\∀d,ds[i]? =some d->J.go i H'/\∀x H'',J.yld i H' x H''->∃R'',Ext H' R' H'' R''/\Rp K R'' x d
theorem ItOk.mono{K:FrG}{J:It}{R R1:Hp}{ds:List D}(h:ItOk K J R ds)(s:Same R R1):ItOk K J R1 ds:=λH' R' s' b=>h H' R' (s.trans s') b
def MI(K:FrG)(O:List Nat)(wi:TI)(f:RhL):Prop:=∀(Z:Anc) (σ:St) (H R:Hp) (ρ:Rho) (ds:List D) (ρ':Rho) (Q:It->Hp->Prop),StR K Z O σ H R ρ->f ρ=some (ds,ρ')->(∀J H' R',StR K Z O σ H' R' ρ'->Stp O σ H R H' R'->ItOk K J R' ds->Q J H')->wi σ H Q
def iSeq(K:FrG)(tl:TE):TI:=λσ H R=>qng K tl σ H R∨iTup K tl σ H R
theorem q2k{X:Cx}{K:FrG}{tg l:Expr}{tl:TE}(h:X.K=K)(hl:PE X l tl):PI X tg l (iSeq K tl):=λz9 s σ H R I q=>by
 rcases q with q|q
 ·exact qif h hl z9 s σ H R I q
 ·exact qm7 h hl z9 s σ H R I q
def mSeq(f:RhD):RhL:=q1r f λd=>q2q (match d with
 |.lst xs=>some xs
 |.tup xs=>some xs
 |_=>none)
section
variable{K:FrG}{O:List Nat}{t:TE}{tr:TA}{fa:RhD}{fs:RhL}
theorem qnd{R:Hp}{a:Addr}{xs:List V}{ds:List D}(h:SqL K R a xs)(r:Rps K R xs ds):ItOk K (Itl K a) R ds:=λH' R' s b i=>by have q:SqL K H' a xs:=Same.sqL b (Same.sqL s h);refine⟨λe=>⟨xs,q,by rw[r.length];omega⟩,λd e=>?_⟩;obtain⟨v,h1,h2⟩:=r.get e;refine⟨⟨xs,v,q,h1⟩,λx H'' y=>?_⟩;obtain⟨rfl,y⟩:=y;have ex:=y xs q;rw[h1]at ex;cases ex;exact⟨R',Ext.refl b,h2.mono s⟩
theorem qsf{R:Hp}{a:Addr}{xs:List V}{ds:List D}(h:SqT K R a xs)(r:Rps K R xs ds):ItOk K (Itt K a) R ds:=λH' R' s b i=>by have q:SqT K H' a xs:=Same.tup b (Same.tup s h);refine⟨λe=>⟨xs,q,by rw[r.length];omega⟩,λd e=>?_⟩;obtain⟨v,h1,h2⟩:=r.get e;refine⟨⟨xs,v,q,h1⟩,λx H'' y=>?_⟩;obtain⟨rfl,y⟩:=y;have ex:=y xs q;rw[h1]at ex;cases ex;exact⟨R',Ext.refl b,h2.mono s⟩
theorem q38(h:ME K O t fa):MI K O (iSeq K t) (mSeq fa):=λZ σ H R ρ ds ρ' Q S e k=>by
 obtain⟨d,ρ1,e1,e⟩:=q0a e;obtain⟨e2,rfl⟩:=q0k e;cases d with
 | lst xs=>
  cases e2;refine .inl (h Z σ H R ρ _ _ _ S e1 λv H1 R1 S1 st1 r1=>?_);obtain⟨_,_,rfl,q,r⟩:=r1.isL;exact⟨_,rfl,⟨_,Same.sqL S1.same q⟩,k _ H1 R1 S1 st1 (qnd q r)⟩
 | tup xs=>
  cases e2;refine .inr (h Z σ H R ρ _ _ _ S e1 λv H1 R1 S1 st1 r1=>?_);obtain⟨_,_,rfl,q,r⟩:=r1.isT;exact⟨_,rfl,⟨_,SqT.of (S1.same _ _ q)⟩,k _ H1 R1 S1 st1 (qsf (SqT.of q) r)⟩
 |_=>cases e2
def q1k(lo:Int)(n:Nat):List D:=(List.range n).map λ(k:Nat)=>D.int (lo+(k:Int))
theorem qj7{R:Hp}(lo:Int)(n:Nat):ItOk K (Itr lo n) R (q1k lo n):=λH' R' s b i=>by
 have len:(q1k lo n).length=n:=by simp[q1k]
 refine⟨λe=>by show n<=i;omega,λd e=>?_⟩;have hi:i<n:=by have:=(List.getElem?_eq_some_iff.mp e).1;omega
 have ed:d=D.int (lo+(i:Int)):=by unfold q1k at e;rw[je,xp hi]at e;exact(jd e).symm
 subst ed;refine⟨hi,λx H'' y=>?_⟩;obtain⟨rfl,rfl⟩:=y;exact⟨R',Ext.refl b,.int _⟩
def big(j:Int):Bool:=decide (-(2^62)<=j)&&decide (j<2^62)
def q3c(f:RhL):RhL:=q1r f λds=>q2q (match ds with
 |[.int j]=>if big j=true then some (q1k 0 j.toNat)else none
 |_=>none)
theorem q1v(h:MA K O tr fs):MI K O (qja tr) (q3c fs):=λZ σ H R ρ ds ρ' Q S e k=>by
 obtain⟨xs,ρ1,e1,e⟩:=q0a e;obtain⟨e2,rfl⟩:=q0k e;split at e2
 ·rename_i j;split at e2
  ·rename_i hb;cases e2;refine h Z σ H R ρ _ _ _ S e1 λvs H1 R1 S1 st1 r1=>?_;obtain⟨_,_,rfl,q,r⟩:=r1.isC
   (first|obtain rfl:=r.isA rfl|cases r)
   (first|obtain rfl:=q.isA rfl|cases q)
   unfold big at hb;rw[Bool.and_eq_true]at hb;exact⟨j,rfl,of_decide_eq_true hb.1,of_decide_eq_true hb.2,k _ H1 R1 S1 st1 (qj7 0 _)⟩
  ·cases e2
 ·cases e2
end
def MG(K:FrG)(O T:List Nat)(g:TG)(f:RhG):Prop:=∀(Z:Anc) (σ:St) (H R:Hp) (ρ:Rho) (x:V) (d:D) (ρ':Rho) (Q:St->Hp->Prop),StR K Z O σ H R ρ->Rp K R x d->f d ρ=some ρ'->(∀σ',StR K Z O σ' H R ρ'->(∀j,j∉T->σ'[j]? =σ[j]?)->Q σ' H)->g x σ H Q
def MGs(K:FrG)(O T:List Nat)(g:TGs)(f:List D->Rho->Option Rho):Prop:=∀(Z:Anc) (σ:St) (H R:Hp) (ρ:Rho) (xs:List V) (ds:List D) (ρ':Rho) (Q:St->Hp->Prop),StR K Z O σ H R ρ->Rps K R xs ds->f ds ρ=some ρ'->(∀σ',StR K Z O σ' H R ρ'->(∀j,j∉T->σ'[j]? =σ[j]?)->Q σ' H)->g xs σ H Q
def gSet(i:Nat):RhG:=λd ρ=>some (ρ.set i (some d))
def q1o:List D->Rho->Option Rho:=λds ρ=>match ds with
 |[]=>some ρ
 |_=>none
def q0c(f:RhG)(g:List D->Rho->Option Rho):List D->Rho->Option Rho:=λds ρ=>match ds with
 | d::r=>match f d ρ with
  |some ρ1=>g r ρ1
  |none=>none
 |[]=>none
def q1n(n:Nat)(f:List D->Rho->Option Rho):RhG:=λd ρ=>match d with
 |.tup ds=>if ds.length=n then f ds ρ else none
 |_=>none
section
variable{K:FrG}{O T T':List Nat}{g:TG}{gs:TGs}{f:RhG}{fs:List D->Rho->Option Rho}
theorem q0o{i:Nat}(hi:i∉O:=by decide):MG K O [i] (q41 i) (gSet i):=λZ σ H R ρ x d ρ' Q S r e k=>by cases e;exact k _ (S.set hi r) λj hj=>ji (λ(z:i=j)=>hj (by rw[z];exact List.mem_singleton_self j))
theorem q34:MGs K O [] gNil q1o:=λZ σ H R ρ xs ds ρ' Q S r e k=>by
 cases r with
 |nil=>cases e;exact⟨rfl,k σ S λ_ _=>rfl⟩
 |cons _ _=>cases e
theorem q1d(h:MG K O T g f)(h2:MGs K O T' gs fs):MGs K O (T++T') (qjg g gs) (q0c f fs):=λZ σ H R ρ xs ds ρ' Q S r e k=>by
 cases r with
 |nil=>cases e
 | cons q r=>
  rename_i x xs d ds;unfold q0c at e;cases e1:f d ρ with
  |none=>simp only[e1]at e;cases e
  | some ρ1=>
   simp only[e1]at e;refine⟨x,xs,rfl,h Z σ H R ρ x d ρ1 _ S q e1 λσ1 S1 n1=>h2 Z σ1 H R ρ1 xs ds ρ' _ S1 r e λσ2 S2 n2=>?_⟩;refine k σ2 S2 λj hj=>?_;rw[List.mem_append,not_or]at hj;rw[n2 j hj.2,n1 j hj.1]
theorem q3y{n:Nat}(h:MGs K O T gs fs):MG K O T (gTup K n gs) (q1n n fs):=λZ σ H R ρ x d ρ' Q S r e k=>by
 cases r with
 | tup q rs=>
  unfold q1n at e;simp only at e;split at e
  ·rename_i hn;exact⟨_,_,rfl,SqT.of (S.same _ _ q),by rw[rs.length];exact hn,h Z σ H R ρ _ _ ρ' Q S rs e k⟩
  ·cases e
 |_=>cases e
end
def q5k(n:Nat)(js:List Nat)(ρ:Rho):Rho:=List.replicate n none++js.map λj=>(ρ[j]?).join
def bwO:Option (Nat×Nat)->List Nat
 |none=>[]
 |some p=>[p.2]
def q56(bw:Option (Nat×Nat))(ρ ρb:Rho):Rho:=match bw with
 |none=>ρ
 | some p=>match ρb[p.2]? with
  |some x=>ρ.set p.1 x
  |none=>ρ
def bwOk(n:Nat)(js O:List Nat)(bw:Option (Nat×Nat)):Bool:=match bw with
 |none=>js.all λj=>!O.contains j
 |some p=>O.contains p.1&&decide (n<=p.2)&&decide (js[p.2-n]? =some p.1)&&(List.range js.length).all λk=>decide (n+k=p.2)|| !O.contains (js.getD k 0)
def q14(n:Nat)(js:List Nat)(bw:Option (Nat×Nat))(fg:RhG)(ft:RhB)(fe:RhD):List D->RhL
 |[],ρ=>some ([],ρ)
 | d::r,ρ=>match fg d (q5k n js ρ)with
  |none=>none
  | some ρ1=>match ft ρ1 with
   |none=>none
   |some (false,ρ2)=>q14 n js bw fg ft fe r (q56 bw ρ ρ2)
   | some (true,ρ2)=>match fe ρ2 with
    |none=>none
    | some (y,ρ3)=>match q14 n js bw fg ft fe r (q56 bw ρ ρ3)with
     |none=>none
     |some (ys,ρ4)=>some (y::ys,ρ4)
section
variable{K:FrG}{Z Z':Anc}{O:List Nat}{σ σ4:St}{H R H6 R6:Hp}{ρ ρ3:Rho}{n:Nat}{js:List Nat}{bw:Option (Nat×Nat)}
theorem qhd:(q5k n js ρ).length=n+js.length:=by simp[q5k]
theorem qhe{i:Nat}{d:D}(e:(q5k n js ρ)[i]? =some (some d)):n<=i/\∃j,js[i-n]? =some j/\ρ[j]? =some (some d):=by
 unfold q5k at e;by_cases h:i<n
 ·rw[kc (by simpa using h),xr,if_pos h]at e;cases e
 ·refine⟨by omega,?_⟩;rw[xw (by simp;omega),jo,je]at e;cases q:js[i-n]? with
  |none=>rw[q]at e;cases e
  | some j=>
   rw[q]at e;refine⟨j,rfl,?_⟩;have e':(ρ[j]?).join=some d:=jd e;cases z:ρ[j]? with
   |none=>rw[z]at e';cases e'
   |some o=>rw[z]at e';have:o=some d:=e';rw[this]
theorem qjs{i j:Nat}(h:n<=i)(e:js[i-n]? =some j){d:D}(q:ρ[j]? =some (some d)):(q5k n js ρ)[i]? =some (some d):=by unfold q5k;rw[xw (by simp;omega),jo,je,e];show some ((ρ[j]?).join)=_;rw[q];rfl
theorem q97{i j:Nat}(h:n<=i)(e:js[i-n]? =some j){v:V}(q:σ[j]? =some (some v)):(caps n js σ)[i]? =some (some v):=by unfold caps;rw[xw (by simp;omega),jo,je,e];show some ((σ[j]?).join)=_;rw[q];rfl
def bwL(bw:Option (Nat×Nat))(σ:St):Addr->Prop:=match bw with
 |none=>λ_=>False
 |some p=>λl=>σ[p.1]? =some (some (.ref l))
theorem StR.block(S:StR K Z O σ H R ρ)(hb:bwOk n js O bw=true):StR K ⟨H,R,bwL bw σ,bwO bw⟩ (bwO bw) (caps n js σ) H R (q5k n js ρ):=by
 have noO:∀i j,n<=i->js[i-n]? =some j->i∉bwO bw->j∉O:=λi j hi hj hn hO=>by
  cases bw with
  | none=>
   unfold bwOk at hb;have z:=List.all_eq_true.mp hb j (xm hj);simp at z;exact z hO
  | some p=>
   unfold bwOk at hb;simp only[Bool.and_eq_true]at hb;have hk:i-n<js.length:=(List.getElem?_eq_some_iff.mp hj).1;have z:=List.all_eq_true.mp hb.2 (i-n) (List.mem_range.mpr hk);have ej:js.getD (i-n) 0=j:=by rw[jz,hj];rfl
   rw[ej]at z;simp only[Bool.or_eq_true,decide_eq_true_eq]at z;rcases z with z|z
   ·exact hn (by show i∈[p.2];rw[List.mem_singleton];omega)
   ·simp at z;exact z hO
 have inO:∀p,bw=some p->p.1∈O/\n<=p.2/\js[p.2-n]? =some p.1:=λp e=>by subst e;unfold bwOk at hb;simp only[Bool.and_eq_true,decide_eq_true_eq]at hb;exact⟨by simpa using hb.1.1.1,hb.1.1.2,hb.1.2⟩
 have only:∀i,i∈bwO bw->∃p,bw=some p/\i=p.2:=λi hi=>by
  cases bw with
  |none=>exact absurd hi (by simp[bwO])
  |some p=>exact⟨p,rfl,by simpa[bwO]using hi⟩
 refine⟨S.sub,by rw[qhd,qcs],λi d hi e=>?_,λi hi=>?_,λi j hi hj hn=>?_,λa o e _=>e,Same.refl _,λa h=>.inl h,λa h=>.refl h,λi hi hp=>absurd hi hp,λi hi _ l e=>?_⟩
 ·obtain⟨h1,j,h2,h3⟩:=qhe e;obtain⟨v,q1,q2⟩:=S.env j d (noO i j h1 h2 hi) h3;exact⟨v,q97 h1 h2 q1,q2⟩
 ·obtain⟨p,rfl,rfl⟩:=only i hi;obtain⟨h1,h2,h3⟩:=inO p rfl;obtain⟨l,vs,ds,q1,q2,q3⟩:=S.own p.1 h1;exact⟨l,vs,ds,qjs h2 h3 q1,q97 h2 h3 q2,q3⟩
 ·obtain⟨p,rfl,rfl⟩:=only i hi;obtain⟨p',e,rfl⟩:=only j hj;cases e;exact absurd rfl hn
 ·obtain⟨p,rfl,rfl⟩:=only i hi;obtain⟨h1,h2,h3⟩:=inO p rfl;obtain⟨l',vs,ds,q1,q2,q3⟩:=S.own p.1 h1;rw[q97 h2 h3 q2]at e;cases e;exact q2
theorem StR.back(S:StR K Z O σ H R ρ)(hb:bwOk n js O bw=true)(Sb:StR K Z' (bwO bw) σ4 H6 R6 ρ3)(st:Stp (bwO bw) σ4 H R H6 R6)(hσ:∀p,bw=some p->σ4[p.2]? =σ[p.1]?):
 StR K Z O σ H6 R6 (q56 bw ρ ρ3)/\Stp O σ H R H6 R6:=by
 have inO:∀p,bw=some p->p.1∈O:=λp e=>by subst e;unfold bwOk at hb;simp only[Bool.and_eq_true,decide_eq_true_eq]at hb;simpa using hb.1.1.1
 have only:∀i,i∈bwO bw->∃p,bw=some p/\i=p.2:=λi hi=>by
  cases bw with
  |none=>exact absurd hi (by simp[bwO])
  |some p=>exact⟨p,rfl,by simpa[bwO]using hi⟩
 have st':Stp O σ H R H6 R6:=⟨st.r,λa o e n=>st.h a o e λi hi z=>by obtain⟨p,e1,rfl⟩:=only i hi;rw[hσ p e1]at z;exact n p.1 (inO p e1) z,st.n,st.d⟩
 have keepH0:∀a o,Z.H0 a=some o->¬Z.L a->H6 a=some o:=λa o e n=>by
  refine st'.h a o (S.ah a o e n) λi hi z=>?_;by_cases hp:i∈Z.P
  ·exact n (S.ap i hi hp a z)
  ·rw[S.ao i hi hp a z]at e;cases e
 have len:(q56 bw ρ ρ3).length=ρ.length:=by
  unfold q56;cases bw with
  |none=>rfl
  | some p=>
   dsimp only;split
   ·rw[jw]
   ·rfl
 have other:∀i,(∀p,bw=some p->p.1≠i)->(q56 bw ρ ρ3)[i]? =ρ[i]? :=λi h=>by
  unfold q56;cases bw with
  |none=>rfl
  | some p=>
   dsimp only;split
   ·rw[ji (h p rfl)]
   ·rfl
 refine⟨⟨Sb.sub,by rw[len];exact S.len,λi d hi e=>?_,λi hi=>?_,S.dis,keepH0,S.ar.trans st.r,λa h=>?_,λa h=>(S.ad a h).trans (st.d a (S.ad a h).1),S.ao,S.ap⟩,st'⟩
 ·rw[other i λp e1 z=>hi (z▸inO p e1)]at e;obtain⟨v,h1,h2⟩:=S.env i d hi e;exact⟨v,h1,h2.mono st.r⟩
 ·by_cases hp:∃p,bw=some p/\p.1=i
  ·obtain⟨p,rfl,rfl⟩:=hp;obtain⟨l,vs,ds,q1,q2,q3,q4,q5⟩:=Sb.own p.2 (by simp[bwO]);rw[hσ p rfl]at q2;obtain⟨_,_,_,g1,_⟩:=S.own p.1 hi;have zd:p.1<ρ.length:=(List.getElem?_eq_some_iff.mp g1).1;refine⟨l,vs,ds,?_,q2,q3,q4,q5⟩;unfold q56;dsimp only;rw[q1];exact jn zd
  ·have hne:∀p,bw=some p->p.1≠i:=λp e z=>hp ⟨p,e,z⟩;obtain⟨l,vs,ds,q1,q2,q3,q4,q5⟩:=S.own i hi;have nob:∀j,j∈bwO bw->σ4[j]? ≠some (some (.ref l)):=λj hj z=>by
    obtain⟨p,e1,rfl⟩:=only j hj;rw[hσ p e1]at z;exact S.dis p.1 i (inO p e1) hi (hne p e1) l z q2
   refine⟨l,vs,ds,by rw[other i hne];exact q1,q2,st.h l _ q3 nob,?_,q5.mono st.r⟩;cases q:R6 l with
   |none=>rfl
   | some o=>
    rcases st.n l (by rw[q];exact λz=>nomatch z)with z|z
    ·exact absurd q4 z
    ·exact(q5.noF q3 z).elim
 ·rcases st.n a h with z|z
  ·exact S.an a z
  ·exact .inr (z.back (S.ad a))
end
theorem qdy{K:FrG}{Z:Anc}{O T:List Nat}{σ:St}{H R:Hp}{ρ ρ':Rho}{n:Nat}{js:List Nat}{bw:Option (Nat×Nat)}{g:TG}{tt:TT}{te:TE}{fg:RhG}{ft:RhB}{fe:RhD}{J:It}{ds ys:List D}{Fin:List V->Hp->Prop}
 (hb:bwOk n js O bw=true) (hg:MG K (bwO bw) T g fg) (hT:∀p,bw=some p->p.2∉T) (ht:MT K (bwO bw) tt ft) (he:ME K (bwO bw) te fe) (S:StR K Z O σ H R ρ) (ok:ItOk K J R ds) (e:q14 n js bw fg ft fe ds ρ=some (ys,ρ')) (hz:ds.length<=sizeLine)
 (fin:∀vs H' R',StR K Z O σ H' R' ρ'->Stp O σ H R H' R'->Rps K R' vs ys->vs.length<=sizeLine->Fin vs H'):cGo g tt te (caps n js σ) Fin J H:=by
 refine⟨λi m vs H2=>m=ds.length-i/\i<=ds.length/\vs.length<=i/\∃R2 ρ2 ys1 ys2,StR K Z O σ H2 R2 ρ2/\Stp O σ H R H2 R2/\Rps K R2 vs ys1/\q14 n js bw fg ft fe (ds.drop i) ρ2=some (ys2,ρ')/\ys1++ys2=ys,
  ⟨ds.length,by simp,Nat.zero_le _,Nat.zero_le _,R,ρ,[],ys,S,Stp.refl _ _ _ _,.nil,by rw[List.drop_zero];exact e,rfl⟩,?_⟩
 rintro i m vs H2 ⟨rfl,hi,hv,R2,ρ2,ys1,ys2,S2,st2,r2,e2,ey⟩;obtain⟨o1,o2⟩:=ok H2 R2 st2.r S2.sub i;by_cases hlt:i<ds.length
 ·obtain⟨g1,g2⟩:=o2 ds[i] (jf hlt);rw[xx hlt]at e2;refine .inr ⟨g1,by omega,λvs' H'=>∃R' ρ2 ys1 ys2,vs'.length<=i+1/\StR K Z O σ H' R' ρ2/\Stp O σ H R H' R'/\Rps K R' vs' ys1/\q14 n js bw fg ft fe (ds.drop (i+1)) ρ2=some (ys2,ρ')/\ys1++ys2=ys,?_,λx H3 y=>?_⟩
  ·rintro vs' H' ⟨R',ρ3,zs1,zs2,q0,q1,q2,q3,q4,q5⟩;exact⟨ds.length-(i+1),by omega,rfl,hlt,q0,R',ρ3,zs1,zs2,q1,q2,q3,q4,q5⟩
  ·obtain⟨R3,x3,r3⟩:=g2 x H3 y;have S3:=S2.ext x3;have B3:=S3.block hb;unfold q14 at e2;cases e3:fg ds[i] (q5k n js ρ2)with
   |none=>rw[e3]at e2;cases e2
   | some ρb1=>
    rw[e3]at e2;dsimp only at e2;refine hg _ _ _ _ _ x _ ρb1 _ B3 r3 e3 λσ4 S4 n4=>?_;have cap:∀p,bw=some p->σ4[p.2]? =σ[p.1]? :=λp e1=>by rw[n4 p.2 (hT p e1)];subst e1;unfold bwOk at hb;simp only[Bool.and_eq_true,decide_eq_true_eq]at hb;obtain⟨l,_,_,_,q2,_⟩:=S3.own p.1 (by simpa using hb.1.1.1);rw[q97 hb.1.1.2 hb.1.2 q2,q2]
    cases e4:ft ρb1 with
    |none=>rw[e4]at e2;cases e2
    | some c=>
     obtain⟨b,ρb2⟩:=c;rw[e4]at e2;refine ht _ σ4 H3 R3 ρb1 b ρb2 _ S4 e4 λH5 R5 S5 st5=>?_;cases b with
     | false=>
      dsimp only at e2;obtain⟨T1,T2⟩:=S3.back hb S5 st5 cap;exact iteF ⟨R5,_,ys1,ys2,by omega,T1,(st2.trans x3.stp).trans T2,(r2.mono x3.r).mono st5.r,e2,ey⟩
     | true=>
      dsimp only at e2;cases e5:fe ρb2 with
      |none=>rw[e5]at e2;cases e2
      | some c=>
       obtain⟨y0,ρb3⟩:=c;rw[e5]at e2;dsimp only at e2;cases e6:q14 n js bw fg ft fe (ds.drop (i+1)) (q56 bw ρ2 ρb3)with
       |none=>rw[e6]at e2;cases e2
       | some c=>
        obtain⟨zs,ρ6⟩:=c;rw[e6]at e2;dsimp only at e2;cases e2;refine iteT (he _ σ4 H5 R5 ρb2 y0 ρb3 _ S5 e5 λw H6 R6 S6 st6 r6=>?_);obtain⟨T1,T2⟩:=S3.back hb S6 (st5.trans st6) cap;refine⟨R6,_,ys1++[y0],zs,by rw[jl];show vs.length+1<=i+1;omega,T1,(st2.trans x3.stp).trans T2,(((r2.mono x3.r).mono st5.r).mono st6.r).snoc r6,e6,?_⟩;rw[<-ey,List.append_assoc];rfl
 ·have ei:i=ds.length:=by omega
  subst ei;rw[List.drop_length]at e2;unfold q14 at e2;cases e2;rw[List.append_nil]at ey;subst ey;exact .inl ⟨o1 rfl,by omega,fin vs H2 R2 S2 st2 r2 (by omega)⟩
def q20(n:Nat)(js:List Nat)(bw:Option (Nat×Nat))(fi:RhL)(fg:RhG)(ft:RhB)(fe:RhD):RhL:=q1r fi λds ρ=>if ds.length<=sizeLine then q14 n js bw fg ft fe ds ρ else none
theorem q3w{K:FrG}{O:List Nat}:MT K O tYes (mRet true):=λZ σ H R ρ b ρ' Q S e k=>by cases e;exact k H R S (Stp.refl _ _ _ _)
theorem q28{K:FrG}{O T:List Nat}{n:Nat}{js:List Nat}{bw:Option (Nat×Nat)}{wi:TI}{g:TG}{tt:TT}{te:TE}{fi:RhL}{fg:RhG}{ft:RhB}{fe:RhD}
 (hi:MI K O wi fi) (hg:MG K (bwO bw) T g fg) (ht:MT K (bwO bw) tt ft) (he:ME K (bwO bw) te fe) (hb:bwOk n js O bw=true:=by decide) (hT:∀p,bw=some p->p.2∉T:=by decide):MN K O (qao n js wi g tt te) (q20 n js bw fi fg ft fe):=λZ σ H R ρ ds ρ' Q S e k=>by
 obtain⟨xs,ρ1,e1,e⟩:=q0a e;split at e
 ·rename_i hz;refine hi Z σ H R ρ xs ρ1 _ S e1 λJ H1 R1 S1 st1 ok=>?_;refine qdy hb hg hT ht he S1 ok e hz λvs H2 R2 S2 st2 r2 l2 D nD=>?_;have x:=Ext.hid (o:=.lst vs) S2.sub nD;exact k D vs _ _ (S2.ext x) ((st1.trans st2).trans x.stp) ((st1.trans st2).new nD) q0m (S2.out nD) r2
 ·cases e
inductive Out where
 |nx (ρ:Rho)
 |rt (d:D) (ρ:Rho)
 |bk (ρ:Rho)
 |ct (ρ:Rho)
abbrev RhO:=Rho->Option Out
structure MC where
 K:PySem.W.Frag
 fr:Bool
 P:List Nat
 Ol:List Nat
def Res(K:FrG)(fr:Bool)(H:Hp)(v:V)(d:D)(H' R':Hp):Prop:=match fr with
 |false=>Rp K R' v d
 |true=>∃l vs ds,v=.ref l/\d=.lst ds/\H l=none/\H' l=some (.lst vs)/\R' l=none/\Rps K R' vs ds
def Ends.ok(c:MC)(Z:Anc)(O':List Nat)(R:Hp)(E:Ends):Out->Prop
 |.nx ρ'=>∀σ' H' R',StR c.K Z O' σ' H' R' ρ'->Same R R'->E.nx σ' H'
 |.bk ρ'=>∀σ' H' R',StR c.K Z c.Ol σ' H' R' ρ'->Same R R'->E.bk σ' H'
 |.ct ρ'=>∀σ' H' R',StR c.K Z c.Ol σ' H' R' ρ'->Same R R'->E.ct σ' H'
 |.rt d ρ'=>∀v σ' H' R',StR c.K Z c.P σ' H' R' ρ'->Res c.K c.fr Z.H0 v d H' R'->E.rt v H'
def MS(c:MC)(O O':List Nat)(t:TS)(f:RhO):Prop:=∀(Z:Anc) (E:Ends) (σ:St) (H R:Hp) (ρ:Rho) (o:Out),Z.P=c.P->StR c.K Z O σ H R ρ->f ρ=some o->E.ok c Z O' R o->t E σ H
def subO(c:MC)(O O':List Nat):Bool:=O'.all (λi=>O.contains i)&&c.P.all λi=>!O.contains i||O'.contains i
section
variable{c:MC}{O O' O1:List Nat}{t u:TS}{te:TE}{tt:TT}{g:TG}{f h:RhO}{fe:RhD}{fn:RhL}{ft:RhB}{fg:RhG}
theorem StR.sub'{Z:Anc}{σ:St}{H R:Hp}{ρ:Rho}(S:StR c.K Z O σ H R ρ)(hP:Z.P=c.P)(hs:subO c O O'=true):StR c.K Z O' σ H (frzR O O' σ H R) ρ/\Same R (frzR O O' σ H R):=by
 unfold subO at hs;simp only[Bool.and_eq_true,List.all_eq_true]at hs;refine S.freeze (λi hi=>by simpa using hs.1 i hi) λi hi hO=>?_;rw[hP]at hi;have z:=hs.2 i hi;simp only[Bool.or_eq_true]at z;rcases z with z|z
 ·simp at z;exact absurd hO z
 ·simpa using z
def sNil:RhO:=λρ=>some (.nx ρ)
theorem q27(hs:subO c O O'=true):MS c O O' qan sNil:=λZ E σ H R ρ o hP S e k=>by cases e;obtain⟨S',s⟩:=S.sub' hP hs;exact k σ H _ S' s
def sSeq(f h:RhO):RhO:=λρ=>match f ρ with
 |none=>none
 |some (.nx ρ1)=>h ρ1
 |some o=>some o
theorem q0h(h1:MS c O O1 t f)(h2:MS c O1 O' u h):MS c O O' (tSeq t u) (sSeq f h):=λZ E σ H R ρ o hP S e k=>by
 unfold sSeq at e;cases e1:f ρ with
 |none=>rw[e1]at e;cases e
 | some o1=>
  rw[e1]at e;cases o1 with
  | nx ρ1=>
   refine h1 Z _ σ H R ρ _ hP S e1 λσ' H' R' S' s'=>?_;refine h2 Z E σ' H' R' ρ1 o hP S' e ?_;cases o with
   |nx ρ'=>exact λσ2 H2 R2 S2 s2=>k σ2 H2 R2 S2 (s'.trans s2)
   |bk ρ'=>exact λσ2 H2 R2 S2 s2=>k σ2 H2 R2 S2 (s'.trans s2)
   |ct ρ'=>exact λσ2 H2 R2 S2 s2=>k σ2 H2 R2 S2 (s'.trans s2)
   |rt d ρ'=>exact k
  |bk ρ1=>cases e;exact h1 Z _ σ H R ρ _ hP S e1 k
  |ct ρ1=>cases e;exact h1 Z _ σ H R ρ _ hP S e1 k
  |rt d ρ1=>cases e;exact h1 Z _ σ H R ρ _ hP S e1 k
def sSet(i:Nat)(fe:RhD):RhO:=λρ=>match fe ρ with
 |none=>none
 |some (d,ρ1)=>some (.nx (ρ1.set i (some d)))
theorem q16{i:Nat}(he:ME c.K O te fe)(hs:subO c O O'=true:=by rfl)(hi:i∉O':=by decide):MS c O O' (tAsg te (q41 i)) (sSet i fe):=λZ E σ H R ρ o hP S e k=>by
 unfold sSet at e;cases e1:fe ρ with
 |none=>rw[e1]at e;cases e
 | some p=>
  obtain⟨d,ρ1⟩:=p;rw[e1]at e;cases e;refine he Z σ H R ρ d ρ1 _ S e1 λv H1 R1 S1 st1 r1=>?_;obtain⟨S2,s2⟩:=S1.sub' hP hs;exact k _ H1 _ (S2.set hi (r1.mono s2)) (st1.r.trans s2)
def sOwn(i:Nat)(fn:RhL):RhO:=λρ=>match fn ρ with
 |none=>none
 |some (ds,ρ1)=>if i<ρ1.length then some (.nx (ρ1.set i (some (.lst ds))))else none
def ownO(c:MC)(i:Nat)(O O':List Nat):Bool:=subO c O (O'.filter λj=>decide (j≠i))&&O'.contains i&& !c.P.contains i
theorem q4g{i:Nat}(he:MN c.K O te fn)(hs:ownO c i O O'=true):MS c O O' (tAsg te (q41 i)) (sOwn i fn):=λZ E σ H R ρ o hP S e k=>by
 unfold sOwn at e;unfold ownO at hs;simp only[Bool.and_eq_true]at hs;cases e1:fn ρ with
 |none=>rw[e1]at e;cases e
 | some p=>
  obtain⟨ds,ρ1⟩:=p;rw[e1]at e;dsimp only at e;split at e
  ·rename_i zd;cases e;refine he Z σ H R ρ ds ρ1 _ S e1 λl vs H1 R1 S1 st1 h0 hH hR r1=>?_;obtain⟨S2,s2⟩:=S1.sub' hP hs.1.1;have notown:∀j,j∈O->σ[j]? ≠some (some (.ref l)):=S.notnew h0;have hO':∀j,j∈O'.filter (λj=>decide (j≠i))->j∈O:=λj hj=>by
    have z:=hs.1.1;unfold subO at z;simp only[Bool.and_eq_true,List.all_eq_true]at z;simpa using z.1 j hj
   refine k _ H1 _ (S2.take (i:=i) (l:=l) (vs:=.lst vs) (ds:=.lst ds) (by simp) (by simpa using hs.1.2) (λj hj=>?_) (by rw[hP];simpa using hs.2) zd (S.new0 h0) hH ?_ (λj hj=>notown j (hO' j hj)) (λj hj=>(List.mem_filter.mp hj).1) (.lst (r1.mono s2))) (st1.r.trans s2)
   ·by_cases z:j=i
    ·exact .inl z
    ·exact .inr (List.mem_filter.mpr ⟨hj,by simpa using z⟩)
   ·unfold frzR;rw[if_neg ?_]
    ·exact hR
    ·rintro⟨j,hj,_,z⟩;exact notown j hj z
  ·cases e
def sAsg(fe:RhD)(fg:RhG):RhO:=λρ=>match fe ρ with
 |none=>none
 | some (d,ρ1)=>match fg d ρ1 with
  |none=>none
  |some ρ2=>some (.nx ρ2)
theorem qla{T:List Nat}(he:ME c.K O te fe)(hs:subO c O O'=true)(hg:MG c.K O' T g fg):MS c O O' (tAsg te g) (sAsg fe fg):=λZ E σ H R ρ o hP S e k=>by
 unfold sAsg at e;cases e1:fe ρ with
 |none=>rw[e1]at e;cases e
 | some p=>
  obtain⟨d,ρ1⟩:=p;rw[e1]at e;dsimp only at e;cases e2:fg d ρ1 with
  |none=>rw[e2]at e;cases e
  | some ρ2=>
   rw[e2]at e;cases e;refine he Z σ H R ρ d ρ1 _ S e1 λv H1 R1 S1 st1 r1=>?_;obtain⟨S2,s2⟩:=S1.sub' hP hs;exact hg Z σ H1 _ ρ1 v d ρ2 _ S2 (r1.mono s2) e2 λσ' S3 _=>k σ' H1 _ S3 (st1.r.trans s2)
def sIf(ft:RhB)(f h:RhO):RhO:=λρ=>match ft ρ with
 |none=>none
 |some (b,ρ1)=>if b=true then f ρ1 else h ρ1
theorem q33(ht:MT c.K O tt ft)(h1:MS c O O' t f)(h2:MS c O O' u h):MS c O O' (tIfS tt t u) (sIf ft f h):=λZ E σ H R ρ o hP S e k=>by
 unfold sIf at e;cases e1:ft ρ with
 |none=>rw[e1]at e;cases e
 | some p=>
  obtain⟨b,ρ1⟩:=p;rw[e1]at e;dsimp only at e;refine ht Z σ H R ρ b ρ1 _ S e1 λH1 R1 S1 st1=>?_;have k':E.ok c Z O' R1 o:=by
   cases o with
   |nx ρ'=>exact λσ2 H2 R2 S2 s2=>k σ2 H2 R2 S2 (st1.r.trans s2)
   |bk ρ'=>exact λσ2 H2 R2 S2 s2=>k σ2 H2 R2 S2 (st1.r.trans s2)
   |ct ρ'=>exact λσ2 H2 R2 S2 s2=>k σ2 H2 R2 S2 (st1.r.trans s2)
   |rt d ρ'=>exact k
  cases b with
  |true=>exact iteT (h1 Z E σ H1 R1 ρ1 o hP S1 e k')
  |false=>exact iteF (h2 Z E σ H1 R1 ρ1 o hP S1 e k')
def sRet(fe:RhD):RhO:=λρ=>match fe ρ with
 |none=>none
 |some (d,ρ1)=>some (.rt d ρ1)
theorem q17(hf:c.fr=false)(he:ME c.K O te fe)(hs:subO c O c.P=true):MS c O O' (tRet te) (sRet fe):=λZ E σ H R ρ o hP S e k=>by
 unfold sRet at e;cases e1:fe ρ with
 |none=>rw[e1]at e;cases e
 | some p=>
  obtain⟨d,ρ1⟩:=p;rw[e1]at e;cases e;refine he Z σ H R ρ d ρ1 _ S e1 λv H1 R1 S1 st1 r1=>?_;obtain⟨S2,s2⟩:=S1.sub' hP hs;refine k v σ H1 _ S2 ?_;unfold Res;rw[hf];exact r1.mono s2
def qfc(fn:RhL):RhO:=λρ=>match fn ρ with
 |none=>none
 |some (ds,ρ1)=>some (.rt (.lst ds) ρ1)
theorem qn6(hf:c.fr=true)(he:MN c.K O te fn)(hs:subO c O c.P=true):MS c O O' (tRet te) (qfc fn):=λZ E σ H R ρ o hP S e k=>by
 unfold qfc at e;cases e1:fn ρ with
 |none=>rw[e1]at e;cases e
 | some p=>
  obtain⟨ds,ρ1⟩:=p;rw[e1]at e;cases e;refine he Z σ H R ρ ds ρ1 _ S e1 λl vs H1 R1 S1 st1 h0 hH hR r1=>?_;obtain⟨S2,s2⟩:=S1.sub' hP hs;refine k _ σ H1 _ S2 ?_;unfold Res;rw[hf];refine⟨l,vs,ds,rfl,rfl,S.new0 h0,hH,?_,r1.mono s2⟩;unfold frzR;rw[if_neg ?_]
  ·exact hR
  ·rintro⟨j,hj,_,z⟩;exact S.notnew h0 j hj z
theorem StR.drop{K:FrG}{Z:Anc}{σ:St}{H R:Hp}{ρ:Rho}{i:Nat}(S:StR K Z O σ H R ρ)(hO:∀j,j∈O'->j∈O/\j≠i)(hc:∀j,j∈O->j≠i->j∈O'):StR K Z O' σ H R (ρ.set i none):=by
 refine⟨S.sub,by rw[jw];exact S.len,λj d hj e=>?_,λj hj=>?_,λj k hj hk=>S.dis j k (hO j hj).1 (hO k hk).1,S.ah,S.ar,S.an,S.ad,λj hj=>S.ao j (hO j hj).1,λj hj=>S.ap j (hO j hj).1⟩
 ·by_cases z:i=j
  ·subst z;have hl:i<ρ.length:=by
    have:=(List.getElem?_eq_some_iff.mp e).1
    rwa [jw]at this
   rw[jn hl]at e;cases e
  ·rw[ji z]at e;exact S.env j d (λq=>hj (hc j q (Ne.symm z))) e
 ·obtain⟨l,vs,ds,h1,h2⟩:=S.own j (hO j hj).1;exact⟨l,vs,ds,by rw[ji (Ne.symm (hO j hj).2)];exact h1,h2⟩
def q5b(i:Nat):RhO:=λρ=>match ρ[i]? with
 |some (some (.lst xs))=>some (.rt (.lst xs) (ρ.set i none))
 |_=>none
theorem q65{i:Nat}(hf:c.fr=true)(hi:i∈O)(hs:subO c O (i::c.P)=true)(hp:i∉c.P):MS c O O' (tRet (tVar i)) (q5b i):=λZ E σ H R ρ o hP S e k=>by
 obtain⟨S2,s2⟩:=S.sub' hP hs;obtain⟨l,vs,ds,h1,h2,h3,h4,h5⟩:=S2.own i jk;unfold q5b at e;rw[h1]at e;have hd:∃xs,ds=.lst xs:=by
  cases h5 with
  |lst _=>exact⟨_,rfl⟩
  |_=>cases e
 obtain⟨xs,rfl⟩:=hd;cases e;refine⟨.ref l,h2,k _ σ H _ (S2.drop (i:=i) (O':=c.P) (λj hj=>⟨jj _ hj,λz=>hp (z▸hj)⟩) λj hj n=>?_) ?_⟩
 ·rcases List.mem_cons.mp hj with z|z
  ·exact absurd z n
  ·exact z
 ·unfold Res;rw[hf];cases h5 with
  |lst h5=>exact⟨l,_,_,rfl,rfl,S2.ao i jk (by rw[hP];exact hp) l h2,h3,h4,h5⟩
def sBk:RhO:=λρ=>some (.bk ρ)
theorem qiw(hs:subO c O c.Ol=true):MS c O O' qkl sBk:=λZ E σ H R ρ o hP S e k=>by cases e;obtain⟨S2,s2⟩:=S.sub' hP hs;exact k σ H _ S2 s2
def q1q(fg:RhG)(fb:RhO):List D->RhO
 |[],ρ=>some (.nx ρ)
 | d::r,ρ=>match fg d ρ with
  |none=>none
  | some ρ1=>match fb ρ1 with
   |none=>none
   |some (.nx ρ2)=>q1q fg fb r ρ2
   |some (.ct ρ2)=>q1q fg fb r ρ2
   |some (.bk ρ2)=>some (.nx ρ2)
   |some (.rt d ρ2)=>some (.rt d ρ2)
def sFor(fi:RhL)(fg:RhG)(fb:RhO):RhO:=λρ=>match fi ρ with
 |none=>none
 |some (ds,ρ1)=>q1q fg fb ds ρ1
theorem q2y{T:List Nat}{wi:TI}{fi:RhL}{tb:TS}{fb:RhO}(hi:MI c.K O wi fi)(hs:subO c O O'=true)(hg:MG c.K O' T g fg)(hb:MS {c with Ol:=O'} O' O' tb fb):MS c O O' (tFor wi g tb) (sFor fi fg fb):=λZ E σ H R ρ o hP S e k=>by
 unfold sFor at e;cases e1:fi ρ with
 |none=>rw[e1]at e;cases e
 | some p=>
  obtain⟨ds,ρ1⟩:=p;rw[e1]at e;dsimp only at e;refine hi Z σ H R ρ ds ρ1 _ S e1 λJ H1 R1 S1 st1 ok=>?_;obtain⟨S2,s2⟩:=S1.sub' hP hs;have ok2:=ok.mono s2;refine⟨λi m σ' H'=>m=ds.length-i/\i<=ds.length/\∃R' ρ',StR c.K Z O' σ' H' R' ρ'/\Same (frzR O O' σ H1 R1) R'/\q1q fg fb (ds.drop i) ρ'=some o,⟨ds.length,by simp,Nat.zero_le _,_,ρ1,S2,Same.refl _,by rw[List.drop_zero];exact e⟩,?_⟩;rintro i m σ' H' ⟨rfl,hi',R',ρ',S',s',e'⟩;obtain⟨o1,o2⟩:=ok2 H' R' s' S'.sub i;by_cases hlt:i<ds.length
  ·obtain⟨g1,g2⟩:=o2 ds[i] (jf hlt);rw[xx hlt]at e';refine .inr ⟨g1,λσ3 H3=>∃R3 ρ3,StR c.K Z O' σ3 H3 R3 ρ3/\Same (frzR O O' σ H1 R1) R3/\q1q fg fb (ds.drop (i+1)) ρ3=some o,?_,λx H3 y=>?_⟩
   ·rintro σ3 H3 ⟨R3,ρ3,q1,q2,q3⟩;exact⟨ds.length-(i+1),by omega,rfl,hlt,R3,ρ3,q1,q2,q3⟩
   ·obtain⟨R3,x3,r3⟩:=g2 x H3 y;have S3:=S'.ext x3;unfold q1q at e';cases e3:fg ds[i] ρ' with
    |none=>rw[e3]at e';cases e'
    | some ρ4=>
     rw[e3]at e';dsimp only at e';refine hg Z σ' H3 R3 ρ' x _ ρ4 _ S3 r3 e3 λσ4 S4 _=>?_;cases e4:fb ρ4 with
     |none=>rw[e4]at e';cases e'
     | some o4=>
           rw[e4]at e';refine hb Z _ σ4 H3 R3 ρ4 o4 hP S4 e4 ?_;cases o4 with
           |nx ρ5=>exact λσ5 H5 R5 S5 s5=>⟨R5,ρ5,S5,(s'.trans x3.r).trans s5,e'⟩
           |ct ρ5=>exact λσ5 H5 R5 S5 s5=>⟨R5,ρ5,S5,(s'.trans x3.r).trans s5,e'⟩
           | bk ρ5=>
            cases e';exact λσ5 H5 R5 S5 s5=>k σ5 H5 R5 S5 (((st1.r.trans s2).trans s').trans (x3.r.trans s5))
           | rt d ρ5=>
            cases e';exact k
  ·have ei:i=ds.length:=by omega
   subst ei;rw[List.drop_length]at e';unfold q1q at e';cases e';exact .inl ⟨o1 rfl,k σ' H' R' S' ((st1.r.trans s2).trans s')⟩
def q2b(ft:RhB)(fb:RhO):Nat->RhO
 |0,_=>none
 | n+1,ρ=>match ft ρ with
  |none=>none
  |some (false,ρ1)=>some (.nx ρ1)
  | some (true,ρ1)=>match fb ρ1 with
   |none=>none
   |some (.nx ρ2)=>q2b ft fb n ρ2
   |some (.ct ρ2)=>q2b ft fb n ρ2
   |some (.bk ρ2)=>some (.nx ρ2)
   |some (.rt d ρ2)=>some (.rt d ρ2)
theorem qca{n:Nat}{tb:TS}{fb:RhO}(ht:MT c.K O' tt ft)(hs:subO c O O'=true)(hb:MS {c with Ol:=O'} O' O' tb fb):MS c O O' (qkh tt tb) (q2b ft fb n):=λZ E σ H R ρ o hP S e k=>by
 obtain⟨S2,s2⟩:=S.sub' hP hs;refine⟨λm σ' H'=>∃R' ρ',StR c.K Z O' σ' H' R' ρ'/\Same (frzR O O' σ H R) R'/\q2b ft fb m ρ'=some o,⟨n,_,ρ,S2,Same.refl _,e⟩,?_⟩;rintro m σ' H' ⟨R',ρ',S',s',e'⟩;cases m with
 |zero=>cases e'
 | succ m=>
  unfold q2b at e';cases e1:ft ρ' with
  |none=>rw[e1]at e';cases e'
  | some p=>
   obtain⟨b,ρ1⟩:=p;rw[e1]at e';refine ht Z σ' H' R' ρ' b ρ1 _ S' e1 λH1 R1 S1 st1=>?_;cases b with
   | false=>
    dsimp only at e';cases e';exact iteF (k σ' H1 R1 S1 ((s2.trans s').trans st1.r))
   | true=>
    dsimp only at e';refine iteT ⟨λσ3 H3=>∃R3 ρ3,StR c.K Z O' σ3 H3 R3 ρ3/\Same (frzR O O' σ H R) R3/\q2b ft fb m ρ3=some o,λσ3 H3 q=>⟨m,Nat.lt_succ_self _,q⟩,?_⟩;cases e4:fb ρ1 with
    |none=>rw[e4]at e';cases e'
    | some o4=>
     rw[e4]at e';refine hb Z _ σ' H1 R1 ρ1 o4 hP S1 e4 ?_;cases o4 with
     |nx ρ5=>exact λσ5 H5 R5 S5 s5=>⟨R5,ρ5,S5,(s'.trans st1.r).trans s5,e'⟩
     |ct ρ5=>exact λσ5 H5 R5 S5 s5=>⟨R5,ρ5,S5,(s'.trans st1.r).trans s5,e'⟩
     | bk ρ5=>
           cases e';exact λσ5 H5 R5 S5 s5=>k σ5 H5 R5 S5 ((s2.trans s').trans (st1.r.trans s5))
     | rt d ρ5=>
           cases e';exact k
end
section
variable{c:MC}{O O':List Nat}{te ti:TE}{fe fi:RhD}{tr:TA}{fs:RhL}
def isL(ρ:Rho)(i:Nat):Bool:=match ρ[i]? with
 |some (some (.lst _))=>true
 |_=>false
theorem qlg{K:FrG}{R:Hp}{ρ:Rho}{i:Nat}{o:HO}{d:D}(h:isL ρ i=true)(e:ρ[i]? =some (some d))(b:Ob K R o d):∃vs ds,o=.lst vs/\d=.lst ds/\Rps K R vs ds:=by
 unfold isL at h;rw[e]at h;cases b with
 |lst r=>exact⟨_,_,rfl,rfl,r⟩
 |_=>cases h
def sMut(g:List D->List D->Option (List D))(i:Nat)(fs:RhL):RhO:=λρ=>if isL ρ i=true then(match fs ρ with
 |none=>none
 | some (as,ρ1)=>match ρ1[i]? with
  | some (some (.lst xs))=>match g xs as with
   |some ys=>some (.nx (ρ1.set i (some (.lst ys))))
   |none=>none
  |_=>none)else none
def qtg(K:FrG)(r:V->List V->Hp->VK->Prop)(g:List D->List D->Option (List D)):Prop:=∀(H R:Hp) (l:Addr) (xs:List V) (ds:List D) (vs:List V) (as bs:List D) (Q:VK),(∀a o,R a=some o->H a=some o)->H l=some (.lst xs)->R l=none->Rps K R xs ds->Rps K R vs as->g ds as=some bs->(∀ys,Rps K R ys bs->Q .non (upd H l (.lst ys)))->r (.ref l) vs H Q
theorem qcd{r:V->List V->Hp->VK->Prop}{g:List D->List D->Option (List D)}{i:Nat}(hm:qtg c.K r g)(hi:i∈O)(ha:MA c.K O tr fs)(hs:subO c O O'=true):MS c O O' (q9g (tBM c.K "list" r (tVar i) tr)) (sMut g i fs):=λZ E σ H R ρ o hP S e k=>by
 unfold sMut at e;split at e
 case isFalse=>cases e
 rename_i hL;cases e1:fs ρ with
 |none=>rw[e1]at e;cases e
 | some p=>
  obtain⟨as,ρ1⟩:=p;rw[e1]at e;dsimp only at e;obtain⟨l,vs,ds,h1,h2,h3,h4,h5⟩:=S.own i hi;obtain⟨us,_,rfl,rfl,_⟩:=qlg hL h1 h5;refine⟨.ref l,h2,.inl ⟨rfl,us,SqL.of h3⟩,ha Z σ H R ρ as ρ1 _ S e1 λws H1 R1 S1 st1 r1=>?_⟩;obtain⟨l',vs',ds',g1,g2,g3,g4,g5⟩:=S1.own i hi;rw[h2]at g2;cases g2;rw[g1]at e;cases g5 with
  |dct _=>cases e
  |dit _=>cases e
  |lst g5=>
  rename_i vs' ds';dsimp only at e;cases e2:g ds' as with
  |none=>rw[e2]at e;cases e
  | some ys=>
   rw[e2]at e;cases e;refine hm H1 R1 l vs' ds' ws as ys _ S1.sub g3 g4 g5 r1 e2 λzs rz=>?_;obtain⟨S2,s2⟩:=(S1.write hi h2 (.lst rz)).sub' hP hs;exact k σ _ _ S2 (st1.r.trans s2)
def q2l:List D->List D->Option (List D):=λxs as=>match as with
 |[d]=>if xs.length<sizeLine then some (xs++[d])else none
 |_=>none
theorem q5o{K:FrG}:qtg K q8o q2l:=λH R l xs ds vs as bs Q s h hr r ra e k=>by
 cases ra with
 |nil=>cases e
 | cons q t=>
  cases t with
  |cons _ _=>cases e
  | nil=>
   rename_i x d;have e':(if ds.length<sizeLine then some (ds++[d])else none)=some bs:=e;split at e'
   ·rename_i hz;cases e';exact⟨l,xs,x,rfl,rfl,h,by rw[r.length];exact hz,k _ (r.snoc q)⟩
   ·cases e'
def qtj:List D->List D->Option (List D):=λxs as=>match as with
 |[.int 0,d]=>if xs.length<sizeLine then some (d::xs)else none
 |_=>none
def q48(i:Nat)(fe fi:RhD):RhO:=λρ=>match fe ρ with
 |none=>none
 | some (d,ρ1)=>match fi ρ1 with
  | some (.int k,ρ2)=>match ρ2[i]? with
   | some (some (.lst xs))=>match ixN xs.length k with
    |some j=>some (.nx (ρ2.set i (some (.lst (xs.set j d)))))
    |none=>none
   |_=>none
  |_=>none
theorem q8u{i:Nat}(hi:i∈O)(he:ME c.K O te fe)(hx:ME c.K O ti fi)(hs:subO c O O'=true):MS c O O' (tAsg te (gSub (tVar i) ti qfk)) (q48 i fe fi):=λZ E σ H R ρ o hP S e k=>by
 unfold q48 at e;cases e1:fe ρ with
 |none=>rw[e1]at e;cases e
 | some p=>
  obtain⟨d,ρ1⟩:=p;rw[e1]at e;dsimp only at e;cases e2:fi ρ1 with
  |none=>rw[e2]at e;cases e
  | some p=>
   obtain⟨x,ρ2⟩:=p;rw[e2]at e;refine he Z σ H R ρ d ρ1 _ S e1 λv H1 R1 S1 st1 r1=>?_;obtain⟨l,vs,ds,h1,h2,h3,h4,h5⟩:=S1.own i hi;refine⟨.ref l,h2,hx Z σ H1 R1 ρ1 x ρ2 _ S1 e2 λw H2 R2 S2 st2 r2=>?_⟩;obtain⟨l',vs',ds',g1,g2,g3,g4,g5⟩:=S2.own i hi;rw[h2]at g2;cases g2;cases r2 with
   | int j=>
    dsimp only at e;rw[g1]at e;cases g5 with
    |dct _=>cases e
    |dit _=>cases e
    |lst g5=>
    rename_i vs' ds';dsimp only at e;cases e3:ixN ds'.length j with
    |none=>rw[e3]at e;cases e
    | some m=>
     rw[e3]at e;cases e;refine⟨l,vs',j,m,rfl,rfl,g3,by rw[g5.length];exact e3,?_⟩;obtain⟨S3,s3⟩:=(S2.write hi h2 (.lst (g5.set (r1.mono st2.r) m))).sub' hP hs;exact k σ _ _ S3 ((st1.r.trans st2.r).trans s3)
   |_=>cases e
end
def runP(fr:Bool)(n N:Nat)(f:RhO)(ds:List D):Option D:=if ds.length=n then match f (ds.map some++List.replicate (N-n) none)with
 |some (.rt d _)=>some d
 |some (.nx _)=>if fr=true then none else some .non
 |_=>none
 else none
def spP(K:FrG)(fr:Bool)(n:Nat)(f:List D->Option D):Sp:=λvs H Q _=>vs.length=n/\∃R ds d,(∀a o,R a=some o->H a=some o)/\Rps K R vs ds/\f ds=some d/\∀v H' R',Ext H R H' R'->Res K fr H v d H' R'->Q v H'
theorem q4i{N:List Str}{vs:List V}{i:Nat}{v:V}(h:vs[i]? =some v):(start N vs)[i]? =some (some v):=by unfold start;have hi:i<vs.length:=(List.getElem?_eq_some_iff.mp h).1;rw[kc (by simpa using hi),je,h];rfl
theorem q4j{ds:List D}{m i:Nat}{d:D}(h:(ds.map some++List.replicate m none)[i]? =some (some d)):ds[i]? =some d:=by
 by_cases hi:i<ds.length
 ·rw[kc (by simpa using hi),je]at h;cases q:ds[i]? with
  |none=>rw[q]at h;cases h
  |some e=>rw[q]at h;cases h;rfl
 ·rw[xw (by simpa using hi),xr]at h;split at h<;>cases h
theorem q0x{K:FrG}{fr:Bool}{n:Nat}{Nms:List Str}{O':List Nat}{t:TS}{f:RhO}{vs:List V}{H:Hp}{Q:VK}{E:XK}(hm:MS ⟨K,fr,[],[]⟩ [] O' t f)(h:spP K fr n (runP fr n Nms.length f) vs H Q E):t {nx:=λ_ H'=>Q .non H',rt:=Q} (start Nms vs) H:=by
 obtain⟨hn,R,ds,d,sub,r,e,k⟩:=h;unfold runP at e;split at e
 ·rename_i hl;have S:StR K ⟨H,R,λ_=>False,[]⟩ [] (start Nms vs) H R (ds.map some++List.replicate (Nms.length-n) none):=by
   refine⟨sub,?_,λi d _ q=>?_,λi hi=>absurd hi (by simp),λi j hi=>absurd hi (by simp),λa o q _=>q,Same.refl _,λa q=>.inl q,λa q=>.refl q,λi hi=>absurd hi (by simp),λi hi=>absurd hi (by simp)⟩
   ·unfold start;rw[jl,jl,j9,j9,jo,jo,hn,hl]
   ·obtain⟨v,h1,h2⟩:=r.get (q4j q);exact⟨v,q4i h1,h2⟩
  have ext:∀{O1:List Nat} {σ':St} {H' R':Hp} {ρ':Rho},StR K ⟨H,R,λ_=>False,[]⟩ O1 σ' H' R' ρ'->Ext H R H' R':=λS'=>⟨λa o q=>S'.ah a o q (λz=>z),S'.ar,S'.sub,S'.an⟩;cases e1:f (ds.map some++List.replicate (Nms.length-n) none)with
  |none=>rw[e1]at e;cases e
  | some o=>
   rw[e1]at e;refine hm _ _ _ _ _ _ o rfl S e1 ?_;cases o with
   | nx ρ'=>
    dsimp only at e;split at e
    ·cases e
    ·rename_i hf;cases e;refine λσ' H' R' S' _=>k .non H' R' (ext S') ?_;cases fr with
     |false=>exact .non
     |true=>exact absurd rfl hf
   |bk ρ'=>cases e
   |ct ρ'=>cases e
   | rt d' ρ'=>
    cases e;exact λv σ' H' R' S' q=>k v H' R' (ext S') q
 ·cases e
def runS(fr:Bool)(n N:Nat)(f:RhO)(xs ds:List D):Option (D×List D):=if ds.length+1=n then match f (some (.lst xs)::(ds.map some++List.replicate (N-n) none))with
 | some (.rt d ρ)=>(match (ρ[0]? :Option (Option D))with
  |some (some (D.lst ys))=>some (d,ys)
  |_=>none)
 | some (.nx ρ)=>if fr=true then none else(match (ρ[0]? :Option (Option D))with
  |some (some (D.lst ys))=>some (.non,ys)
  |_=>none)
 |_=>none
 else none
structure ExtS(l:Addr)(H R H' R':Hp):Prop where
 h:∀a o,a≠l->H a=some o->H' a=some o
 r:Same R R'
 s:∀a o,R' a=some o->H' a=some o
 n:∀a,R' a≠none->R a≠none∨Frh H a
 d:∀a,H a≠none->Liv H H' a
def spS(K:FrG)(fr:Bool)(n:Nat)(f:List D->List D->Option (D×List D)):Sp:=λvs H Q _=>vs.length=n/\∃l ws R us xs ds d ys,vs=.ref l::ws/\H l=some (.lst us)/\R l=none/\(∀a o,R a=some o->H a=some o)/\Rps K R us xs/\Rps K R ws ds/\f xs ds=some (d,ys)/\
 ∀v H' R' us',ExtS l H R H' R'->H' l=some (.lst us')->R' l=none->Rps K R' us' ys->Res K fr H v d H' R'->Q v H'
theorem qbm{K:FrG}{fr:Bool}{n:Nat}{Nms:List Str}{O':List Nat}{t:TS}{f:RhO}{vs:List V}{H:Hp}{Q:VK}{E:XK}(hm:MS ⟨K,fr,[0],[]⟩ [0] [0] t f)(h:spS K fr n (runS fr n Nms.length f) vs H Q E):t {nx:=λ_ H'=>Q .non H',rt:=Q} (start Nms vs) H:=by
 obtain⟨hn,l,ws,R,us,xs,ds,d,ys,rfl,hH,hR,sub,ru,r,e,k⟩:=h;unfold runS at e;split at e
 ·rename_i hl;have ln:ws.length+1=n:=by simpa using hn
  have S:StR K ⟨H,R,λa=>a=l,[0]⟩ [0] (start Nms (.ref l::ws)) H R (some (.lst xs)::(ds.map some++List.replicate (Nms.length-n) none)):=by
   have one:∀i,i∈[0]->i=0:=λi hi=>by simpa using hi
   refine⟨sub,?_,λi d hi q=>?_,λi hi=>?_,λi j hi hj z=>absurd ((one i hi).trans (one j hj).symm) z,λa o q _=>q,Same.refl _,λa q=>.inl q,λa q=>.refl q,λi hi z=>absurd hi z,λi hi _ a q=>?_⟩
   ·unfold start;simp only[List.map_cons,List.cons_append,List.length_cons,List.length_append,List.length_map,List.length_replicate];omega
   ·cases i with
    |zero=>exact absurd (by simp) hi
    | succ i=>
     rw[List.getElem?_cons_succ]at q;obtain⟨v,h1,h2⟩:=r.get (q4j q);exact⟨v,q4i (by rw[List.getElem?_cons_succ];exact h1),h2⟩
   ·cases one i hi;exact⟨l,.lst us,.lst xs,rfl,rfl,hH,hR,.lst ru⟩
   ·cases one i hi;have q':some (some (V.ref l))=some (some (V.ref a)):=q;cases q';rfl
  have ext:∀{σ':St} {H' R':Hp} {ρ':Rho},StR K ⟨H,R,λa=>a=l,[0]⟩ [0] σ' H' R' ρ'->ExtS l H R H' R'/\∃us' zs,ρ'[0]? =some (some zs)/\H' l=some us'/\R' l=none/\Ob K R' us' zs:=λ{σ' H' R' ρ'} S'=>by refine⟨⟨λa o n q=>S'.ah a o q n,S'.ar,S'.sub,S'.an,S'.ad⟩,?_⟩;obtain⟨l',us',zs,h1,h2,h3,h4,h5⟩:=S'.own 0 (by simp);have el:l'=l:=S'.ap 0 (by simp) (by simp) l' h2;subst el;exact⟨us',zs,h1,h3,h4,h5⟩
  cases e1:f (some (.lst xs)::(ds.map some++List.replicate (Nms.length-n) none))with
  |none=>rw[e1]at e;cases e
  | some o=>
   rw[e1]at e;refine hm _ _ _ _ _ _ o rfl S e1 ?_;cases o with
   | nx ρ'=>
    dsimp only at e;split at e
    ·cases e
    ·rename_i hf;refine λσ' H' R' S' _=>?_;obtain⟨x,us',zs,q1,q2,q3,q4⟩:=ext S';rw[q1]at e;cases q4 with
     |dct _=>cases e
     |dit _=>cases e
     |lst q4=>
     cases e;refine k .non H' R' _ x q2 q3 q4 ?_;cases fr with
     |false=>exact .non
     |true=>exact absurd rfl hf
   |bk ρ'=>cases e
   |ct ρ'=>cases e
   | rt d' ρ'=>
    dsimp only at e;refine λv σ' H' R' S' q=>?_;obtain⟨x,us',zs,q1,q2,q3,q4⟩:=ext S';rw[q1]at e;cases q4 with
    |dct _=>cases e
    |dit _=>cases e
    |lst q4=>
    cases e;exact k v H' R' _ x q2 q3 q4 q
 ·cases e
section
variable{K:FrG}{O:List Nat}{tr:TA}{fs:RhL}{E:XK}{n:Nat}
def q0i(f:List D->Option D)(fs:RhL):RhD:=q1r fs λds=>q2q (f ds)
def q1t(n:Nat)(f:List D->Option D):Prop:=∀ds d,f ds=some d->ds.length=n
theorem q1i{fr:Bool}{n N:Nat}{f:RhO}:q1t n (runP fr n N f):=λds d e=>by
 unfold runP at e;split at e
 ·assumption
 ·cases e
theorem q0n{f:List D->Option D}(hf:q1t n f)(h:MA K O tr fs):ME K O (q6j (spP K false n f) [] E tr) (q0i f fs):=λZ σ H R ρ d ρ' Q S e k=>by obtain⟨ds,ρ1,e1,e⟩:=q0a e;obtain⟨e2,rfl⟩:=q0k e;refine h Z σ H R ρ ds _ _ S e1 λvs H1 R1 S1 st1 r1=>?_;show spP K false n f (vs++[]) H1 Q E;rw[List.append_nil];exact⟨by rw[r1.length];exact hf ds d e2,R1,ds,d,S1.sub,r1,e2,λv H2 R2 x q=>k v H2 R2 (S1.ext x) (st1.trans x.stp) q⟩
def qgk(o:Option D):Option (List D):=match o with
 |some (.lst ds)=>some ds
 |_=>none
def q25(f:List D->Option D)(fs:RhL):RhL:=q1r fs λds=>q2q (qgk (f ds))
theorem q83{o:Option D}{ds:List D}(h:qgk o=some ds):o=some (.lst ds):=by
 unfold qgk at h;split at h
 ·cases h;rfl
 ·(first|obtain rfl:=h.isA rfl|cases h)
theorem q3p{f:List D->Option D}(hf:q1t n f)(h:MA K O tr fs):MN K O (q6j (spP K true n f) [] E tr) (q25 f fs):=λZ σ H R ρ d ρ' Q S e k=>by obtain⟨ds,ρ1,e1,e⟩:=q0a e;obtain⟨e2,rfl⟩:=q0k e;have e3:=q83 e2;refine h Z σ H R ρ ds _ _ S e1 λvs H1 R1 S1 st1 r1=>?_;show spP K true n f (vs++[]) H1 Q E;rw[List.append_nil];refine⟨by rw[r1.length];exact hf ds _ e3,R1,ds,_,S1.sub,r1,e3,λv H2 R2 x q=>?_⟩;obtain⟨l,us,gs,rfl,e4,h0,hH,hR,r⟩:=q;cases e4;exact k l us H2 R2 (S1.ext x) (st1.trans x.stp) (st1.new h0) hH hR r
def q1w(f:List D->List D->Option (D×List D))(i:Nat)(fs:RhL):RhD:=q1r fs λds ρ=>match ρ[i]? with
 | some (some (.lst xs))=>match f xs ds with
  |some (d,ys)=>some (d,ρ.set i (some (.lst ys)))
  |none=>none
 |_=>none
def qi6(n:Nat)(f:List D->List D->Option (D×List D)):Prop:=∀xs ds r,f xs ds=some r->ds.length+1=n
theorem qkp{fr:Bool}{n N:Nat}{f:RhO}:qi6 n (runS fr n N f):=λxs ds r e=>by
 unfold runS at e;split at e
 ·assumption
 ·cases e
theorem q3g{f:List D->List D->Option (D×List D)}{i:Nat}(hf:qi6 n f)(hi:i∈O)(h:MA K O tr fs):ME K O (q6j (spS K false n f) [] E (q35 (tVar i) tr)) (q1w f i fs):=λZ σ H R ρ d ρ' Q S e k=>by
 obtain⟨ds,ρ1,e1,e⟩:=q0a e;obtain⟨l,vs0,ds0,h1,h2,h3,h4,h5⟩:=S.own i hi;refine⟨.ref l,h2,h Z σ H R ρ ds ρ1 _ S e1 λvs H1 R1 S1 st1 r1=>?_⟩;obtain⟨l',us,xs,g1,g2,g3,g4,g5⟩:=S1.own i hi;rw[h2]at g2;cases g2;rw[g1]at e;cases g5 with
 |dct _=>cases e
 |dit _=>cases e
 |lst g5=>
 rename_i us xs;dsimp only at e;cases e2:f xs ds with
 |none=>rw[e2]at e;cases e
 | some p=>
  obtain⟨d',ys⟩:=p;rw[e2]at e;cases e;show spS K false n f (.ref l::vs++[]) H1 Q E;rw[List.append_nil];refine⟨by rw[ju,r1.length];exact hf _ _ _ e2,l,vs,R1,us,xs,ds,d,ys,rfl,g3,g4,S1.sub,g5,r1,e2,λv H2 R2 us' x hH hR ru q=>?_⟩;have zd:i<ρ1.length:=(List.getElem?_eq_some_iff.mp g1).1;have st2:Stp O σ H1 R1 H2 R2:=⟨x.r,λa o e n=>x.h a o (λz=>by subst z;exact n i hi h2) e,x.n,x.d⟩;have other:∀j,j∈O->i≠j->∀m,σ[j]? =some (some (.ref m))->m≠l:=λj hj n m e z=>by subst z;exact S1.dis i j hi hj n m h2 e
  refine k v H2 R2 ⟨x.s,by rw[jw];exact S1.len,λj e hj q=>?_,λj hj=>?_,S1.dis,λa o e n=>?_,S1.ar.trans x.r,λa h=>?_,λa h=>(S1.ad a h).trans (x.d a (S1.ad a h).1),S1.ao,S1.ap⟩ (st1.trans st2) q
  ·have n:i≠j:=λz=>hj (z▸hi);rw[ji n]at q;obtain⟨w,q1,q2⟩:=S1.env j e hj q;exact⟨w,q1,q2.mono x.r⟩
  ·by_cases n:i=j
   ·subst n;exact⟨l,.lst us',.lst ys,by rw[jn zd],h2,hH,hR,.lst ru⟩
   ·obtain⟨m,vs',ds',q1,q2,q3,q4,q5⟩:=S1.own j hj;refine⟨m,vs',ds',by rw[ji n];exact q1,q2,x.h _ _ (other j hj n m q2) q3,?_,q5.mono x.r⟩;cases z:R2 m with
    |none=>rfl
    | some o=>
     rcases x.n m (by rw[z];exact λy=>nomatch y)with y|y
     ·exact absurd q4 y
     ·exact(q5.noF q3 y).elim
  ·have ne:a≠l:=λz=>by
    subst z;by_cases hp:i∈Z.P
    ·exact n (S1.ap i hi hp a h2)
    ·rw[S1.ao i hi hp a h2]at e;cases e
   exact x.h a o ne (S1.ah a o e n)
  ·rcases x.n a h with z|z
   ·exact S1.an a z
   ·exact .inr (z.back (S1.ad a))
end
def qpy(K:FrG):R2:=λx y H Q=>∃l b xs zs,x=.ref l/\y=.ref b/\SqL K H l xs/\SqL K H b zs/\xs.length+zs.length<=sizeLine/\∀p,H p=none->Q (.ref p) (upd H p (.lst (xs++zs)))
def qpx(K:FrG):R2:=λx y H Q=>∃a b xs ys,x=.ref a/\y=.ref b/\SqT K H a xs/\SqT K H b ys/\xs.length+ys.length<=sizeLine/\
 (xs=[]->Q (.ref b) H)/\(xs≠[]->ys=[]->Q (.ref a) H)/\(xs≠[]->ys≠[]->∀p,H p=none->Q (.ref p) (upd H p (.tup (xs++ys))))
section
variable{X:Cx}{K:FrG}
theorem qmj(hK:X.K=K):OpR X (binaryOp .Add) (qpy K):=by
 subst hK;intro z9 s σ H x y v u Q I rx ry h;obtain⟨l,b,xs,zs,rfl,rfl,hH,hB,hz,q⟩:=h
 (first|obtain rfl:=rx.isA rfl|cases rx)
 (first|obtain rfl:=ry.isA rfl|cases ry)
 obtain⟨its,r,pl,z⟩:=I.list hH;obtain⟨its2,r2,pl2,z2⟩:=I.list hB;obtain⟨⟨cls,dd,data,sl⟩,ho,hc,n,hd⟩:=pl.isList;obtain⟨⟨cls2,dd2,data2,sl2⟩,ho2,hc2,n2,hd2⟩:=pl2.isList;simp only at hc hd hc2 hd2;subst hc hd hc2 hd2;have e:its.toArray++its2.toArray=(its++its2).toArray:=by simp
 refine concat_meets ⟨_,ho,rfl⟩ ⟨_,ho2,rfl⟩ noFill_list_add seq_list_add PySem.F.slot_list_add PySem.F.entry_list_add (PySem.F.args_list_add_2 _ _) (list_addW l b its.toArray its2.toArray n n2 dd dd2 sl sl2 (by rw[xf,xf,<-r.length,<-r2.length];exact hz)) ⟨ho,ho2,?_⟩;rw[e];exact⟨.ref _,_,I.lnew (t':=s.toks) (r.append r2) (by rw[jl];omega),rfl,q _ I.fresh⟩
theorem qmi(hK:X.K=K):OpR X (binaryOp .Add) (qpx K):=by
 subst hK;intro z9 s σ H x y v u Q I rx ry h;obtain⟨a,b,xs,ys,rfl,rfl,ha,hb,hz,q0,q1,q2⟩:=h
 (first|obtain rfl:=rx.isA rfl|cases rx)
 (first|obtain rfl:=ry.isA rfl|cases ry)
 obtain⟨its,r1,p1,_⟩:=I.tuple ha;obtain⟨its2,r2,p2,_⟩:=I.tuple hb;obtain⟨⟨cls,dd,data,sl⟩,ho,hc,n,hd⟩:=id p1;obtain⟨⟨cls2,dd2,data2,sl2⟩,ho2,hc2,n2,hd2⟩:=id p2;simp only at hc hd hc2 hd2;subst hc hd hc2 hd2;have e:its.toArray++its2.toArray=(its++its2).toArray:=by simp
 by_cases hv:its=[]
 ·exact concat_meets ⟨_,ho,rfl⟩ ⟨_,ho2,rfl⟩ noFill_tuple_add seq_tuple_add PySem.F.slot_tuple_add PySem.F.entry_tuple_add (PySem.F.args_tuple_add_2 _ _)
   (tuple_addW0 a b its.toArray its2.toArray n n2 dd dd2 sl sl2 (by simp[hv])) ⟨ho,ho2,⟨.ref b,H,I,rfl,q0 (r1.nil_iff.mp hv)⟩⟩
 ·have hx:xs≠[]:=λz=>hv (r1.nil_iff.mpr z);by_cases hw:its2=[]
  ·exact concat_meets ⟨_,ho,rfl⟩ ⟨_,ho2,rfl⟩ noFill_tuple_add seq_tuple_add PySem.F.slot_tuple_add PySem.F.entry_tuple_add (PySem.F.args_tuple_add_2 _ _)
    (tuple_addW1 a b its.toArray its2.toArray n n2 dd dd2 sl sl2 (by simpa using hv) (by simp[hw])) ⟨ho,ho2,⟨.ref a,H,I,rfl,q1 hx (r2.nil_iff.mp hw)⟩⟩
  ·refine concat_meets ⟨_,ho,rfl⟩ ⟨_,ho2,rfl⟩ noFill_tuple_add seq_tuple_add PySem.F.slot_tuple_add PySem.F.entry_tuple_add (PySem.F.args_tuple_add_2 _ _)
    (tuple_addW2 a b its.toArray its2.toArray n n2 dd dd2 sl sl2 (by simpa using hv) (by simpa using hw) (by rw[List.size_toArray,List.size_toArray,<-r1.length,<-r2.length];exact hz)) ⟨ho,ho2,?_⟩
   rw[e];refine⟨.ref s.heap.objs.size,_,I.laid (t':=s.toks) (o:=.tup (xs++ys)) (λb ob q=>jh _ q) (jg _) ?_,rfl,q2 hx (λw=>hw (r2.nil_iff.mpr w)) _ (I.hok.fresh (jg _))⟩;exact⟨by rw[jl];exact hz,_,r1.append r2,TupN.new _ _⟩
def qm5(K:FrG):R2:=λx y H Q=>rI0 (λi j=>.int (i+j)) x y H Q∨qpy K x y H Q∨qpx K x y H Q∨∃i j,x=.str i/\y=.str j/\i.length+j.length<=sizeLine/\Q (.str (i++j)) H
theorem q1g(hK:X.K=K):OpR X (binaryOp .Add) (qm5 K):=op_add.or ((qmj hK).or ((qmi hK).or qdi))
end
section
variable{K:FrG}{O:List Nat}
def dAdd:D->D->Option D
 |.int i,.int j=>some (.int (i+j))
 |.lst xs,.lst ys=>if xs.length+ys.length<=sizeLine then some (.lst (xs++ys))else none
 |.tup xs,.tup ys=>if xs.length+ys.length<=sizeLine then some (.tup (xs++ys))else none
 |.str x,.str y=>if x.length+y.length<=sizeLine then some (.str (x++y))else none
 |_,_=>none
theorem q1y:OpG K (qm5 K) dAdd:=λH R x y d e u Q s rx ry q k=>by
 unfold dAdd at q;split at q
 ·rename_i i j
  (first|obtain rfl:=q.isA rfl|cases q)
  (first|obtain rfl:=rx.isA rfl|cases rx)
  (first|obtain rfl:=ry.isA rfl|cases ry)
  exact .inl ⟨i,j,rfl,rfl,k _ H R (Ext.refl s) (.int _)⟩
 ·split at q
  ·rename_i hz
   (first|obtain rfl:=q.isA rfl|cases q)
   obtain⟨a1,xs,rfl,h,r⟩:=rx.isL;obtain⟨a2,ys,rfl,h2,r2⟩:=ry.isL;refine .inr (.inl ⟨_,_,_,_,rfl,rfl,Same.sqL s h,Same.sqL s h2,by rw[r.length,r2.length];exact hz,λp np=>?_⟩);have x:=Ext.new (o:=.lst (xs++ys)) s np;exact k _ _ _ x (.lst (SqL.of q0m) ((r.append r2).mono x.r))
  ·(first|obtain rfl:=q.isA rfl|cases q)
 ·split at q
  ·rename_i hz
   (first|obtain rfl:=q.isA rfl|cases q)
   obtain⟨a1,xs,rfl,h,r⟩:=rx.isT;obtain⟨a2,ys,rfl,h2,r2⟩:=ry.isT;refine .inr (.inr (.inl ⟨_,_,_,_,rfl,rfl,SqT.of (s _ _ h),SqT.of (s _ _ h2),by rw[r.length,r2.length];exact hz,λz=>?_,λ_ z=>?_,λ_ _ p np=>?_⟩))
   ·subst z
    (first|obtain rfl:=r.isA rfl|cases r)
    exact k _ H R (Ext.refl s) (.tup h2 r2)
   ·subst z
    (first|obtain rfl:=r2.isA rfl|cases r2)
    rw[List.append_nil]at k;exact k _ H R (Ext.refl s) (.tup h r)
   ·have x:=Ext.new (o:=.tup (xs++ys)) s np;exact k _ _ _ x (.tup q0m ((r.append r2).mono x.r))
  ·(first|obtain rfl:=q.isA rfl|cases q)
 ·rename_i i j;split at q
  ·rename_i hz
   (first|obtain rfl:=q.isA rfl|cases q)
   (first|obtain rfl:=rx.isA rfl|cases rx)
   (first|obtain rfl:=ry.isA rfl|cases ry)
   exact .inr (.inr (.inr ⟨i,j,rfl,rfl,hz,k _ H R (Ext.refl s) (.str _)⟩))
  ·(first|obtain rfl:=q.isA rfl|cases q)
 ·(first|obtain rfl:=q.isA rfl|cases q)
def OpN(K:FrG)(r:R2)(g:D->D->Option (List D)):Prop:=∀(H R:Hp) (x y:V) (d e:D) (us:List D) (Q:VK),(∀a o,R a=some o->H a=some o)->Rp K R x d->Rp K R y e->g d e=some us->(∀l vs,H l=none->Rps K R vs us->Q (.ref l) (upd H l (.lst vs)))->r x y H Q
def q9y(g:D->D->Option (List D))(fa fb:RhD):RhL:=q1r fa λx=>q1r fb λy=>q2q (g x y)
theorem qru{ta tb:TE}{r:R2}{g:D->D->Option (List D)}{fa fb:RhD}(h:OpN K r g)(ha:ME K O ta fa)(hb:ME K O tb fb):MN K O (tOp r ta tb) (q9y g fa fb):=λZ σ H R ρ d ρ' Q S e k=>by obtain⟨x,ρ1,e1,e⟩:=q0a e;obtain⟨y,ρ2,e2,e⟩:=q0a e;obtain⟨e3,rfl⟩:=q0k e;refine ha Z σ H R ρ x ρ1 _ S e1 λv H1 R1 S1 st1 r1=>hb Z σ H1 R1 ρ1 y _ _ S1 e2 λw H2 R2 S2 st2 r2=>?_;refine h H2 R2 v w x y d Q S2.sub (r1.mono st2.r) r2 e3 λl vs hl rv=>?_;have x:=Ext.hid (o:=.lst vs) S2.sub hl;exact k l vs _ _ (S2.ext x) ((st1.trans st2).trans x.stp) ((st1.trans st2).new hl) q0m (S2.out hl) rv
def qac:D->D->Option (List D)
 |.lst xs,.lst ys=>if xs.length+ys.length<=sizeLine then some (xs++ys)else none
 |_,_=>none
theorem qkw:OpN K (qm5 K) qac:=λH R x y d e u Q s rx ry q k=>by
 unfold qac at q;split at q
 ·split at q
  ·rename_i hz
   (first|obtain rfl:=q.isA rfl|cases q)
   obtain⟨_,_,rfl,h,r⟩:=rx.isL;obtain⟨_,_,rfl,h2,r2⟩:=ry.isL;exact .inr (.inl ⟨_,_,_,_,rfl,rfl,Same.sqL s h,Same.sqL s h2,by rw[r.length,r2.length];exact hz,λp np=>k p _ np (r.append r2)⟩)
  ·(first|obtain rfl:=q.isA rfl|cases q)
 ·(first|obtain rfl:=q.isA rfl|cases q)
end
mutual
def D.toP:D->Option PyData
 |.non=>some .none
 |.bl b=>some (.bool b)
 |.int i=>some (.int i)
 |.str x=>some (.str x)
 |.lst xs=>(D.toPs xs).map PyData.list
 |.tup xs=>(D.toPs xs).map PyData.tuple
 |.obj _ _=>none
 |.dct _=>none
 |.exc _=>none
 |.fn _=>none
 |.dit _=>none
def D.toPs:List D->Option (List PyData)
 |[]=>some []
 | d::r=>match D.toP d,D.toPs r with
  |some p,some ps=>some (p::ps)
  |_,_=>none
end
section
variable{K:FrG}{O:List Nat}{R:Hp}
theorem qt7(p:PyData)(e:D.toP .non=some p):DV K R .non p:=by simp only[D.toP]at e;cases e;exact .non
theorem qv5(b:Bool)(p:PyData)(e:D.toP (.bl b)=some p):DV K R (.bl b) p:=by simp only[D.toP]at e;cases e;exact .bl b
theorem qt9(b:Int)(p:PyData)(e:D.toP (.int b)=some p):DV K R (.int b) p:=by simp only[D.toP]at e;cases e;exact .int b
theorem qt6(b:Str)(p:PyData)(e:D.toP (.str b)=some p):DV K R (.str b) p:=by simp only[D.toP]at e;cases e;exact .str b
theorem qt8{a:Addr}{xs:List V}{ds:List D}{p:PyData}(h:SqL K R a xs)(r:∀ps,D.toPs ds=some ps->DVs K R xs ps)(e:D.toP (.lst ds)=some p):DV K R (.ref a) p:=by
 simp only[D.toP]at e;cases z:D.toPs ds with
 |none=>rw[z]at e;cases e
 |some ps=>rw[z]at e;cases e;exact .lst h (r _ z)
theorem qt5{a:Addr}{xs:List V}{ds:List D}{p:PyData}(h:R a=some (.tup xs))(r:∀ps,D.toPs ds=some ps->DVs K R xs ps)(e:D.toP (.tup ds)=some p):DV K R (.ref a) p:=by
 simp only[D.toP]at e;cases z:D.toPs ds with
 |none=>rw[z]at e;cases e
 |some ps=>rw[z]at e;cases e;exact .tup (SqT.of h) (r _ z)
theorem qo8(ps:List PyData)(e:D.toPs []=some ps):DVs K R [] ps:=by simp only[D.toPs]at e;cases e;exact .nil
theorem qjq{x:V}{xs:List V}{d:D}{ds:List D}{ps:List PyData}(h:∀p,d.toP=some p->DV K R x p)(r:∀ps,D.toPs ds=some ps->DVs K R xs ps)(e:D.toPs (d::ds)=some ps):DVs K R (x::xs) ps:=by
 simp only[D.toPs]at e;cases z:d.toP with
 |none=>rw[z]at e;cases e
 | some p=>
  cases w:D.toPs ds with
  |none=>rw[z,w]at e;cases e
  |some qs=>rw[z,w]at e;cases e;exact .cons (h _ z) (r _ w)
theorem Rp.dv{v:V}{d:D}{p:PyData}(h:Rp K R v d)(e:d.toP=some p):DV K R v p:=
 Rp.rec (motive_1:=λv d _=>∀p,d.toP=some p->DV K R v p) (motive_2:=λxs ds _=>∀ps,D.toPs ds=some ps->DVs K R xs ps) (motive_3:=λ_ _ _=>True) (motive_4:=λ_ _ _=>True) (motive_5:=λ_ _ _=>True)
  qt7 qv5 qt9 qt6 (λh _ r _=>qt8 h r) (λh _ r _=>qt5 h r) (λ_ _ _ _ _ e=>by simp only[D.toP]at e;cases e) (λ_ _ _ _ e=>by simp only[D.toP]at e;cases e) (λ_ _ _ _ e=>by simp only[D.toP]at e;cases e) (λ_ _ _ _ e=>by simp only[D.toP]at e;cases e) (λ_ _ e=>by simp only[D.toP]at e;cases e)
  qo8 (λ_ _ h r _=>qjq h r) trivial (λ_ _ _ _=>trivial) trivial (λ_ _ _ _=>trivial) trivial (λ_ _ _ _=>trivial) h _ e
def eqD(d e:D):Option Bool:=match d.toP,e.toP with
 |some p,some q=>if SeqAt.shaped p=true/\SeqAt.shaped q=true then some (PyData.eqv p q)else none
 |_,_=>none
def dEq(d e:D):Option D:=(eqD d e).map .bl
def dNe(d e:D):Option D:=(eqD d e).map λb=>.bl (!b)
theorem qcn{d e:D}{b:Bool}(h:eqD d e=some b):∃p q,d.toP=some p/\e.toP=some q/\SeqAt.shaped p=true/\SeqAt.shaped q=true/\PyData.eqv p q=b:=by
 unfold eqD at h;cases h1:d.toP with
 |none=>rw[h1]at h;cases h
 | some p=>
  cases h2:e.toP with
  |none=>rw[h1,h2]at h;cases h
  | some q=>
   rw[h1,h2]at h;dsimp only at h;split at h
   ·rename_i z;exact⟨p,q,rfl,rfl,z.1,z.2,jd h⟩
   ·(first|obtain rfl:=h.isA rfl|cases h)
theorem os_eq:OpS K (rEqD K) dEq:=λH x y d e u Q rx ry q k=>by
 unfold dEq at q;cases h:eqD d e with
 |none=>rw[h]at q;cases q
 | some b=>
  rw[h]at q
  (first|obtain rfl:=q.isA rfl|cases q)
  obtain⟨p,r,h1,h2,h3,h4,h5⟩:=qcn h;refine⟨p,r,rx.dv h1,ry.dv h2,h3,h4,?_⟩;rw[h5];exact k _ (.bl _)
theorem q63:OpS K (rNeD K) dNe:=λH x y d e u Q rx ry q k=>by
 unfold dNe at q;cases h:eqD d e with
 |none=>rw[h]at q;cases q
 | some b=>
  rw[h]at q
  (first|obtain rfl:=q.isA rfl|cases q)
  obtain⟨p,r,h1,h2,h3,h4,h5⟩:=qcn h;refine⟨p,r,rx.dv h1,ry.dv h2,h3,h4,?_⟩;rw[h5];exact k _ (.bl _)
def dIsN(d e:D):Option D:=match e with
 |.non=>some (.bl (match d with|.non=>true|_=>false))
 |_=>none
def q2i(d e:D):Option D:=match e with
 |.non=>some (.bl (match d with|.non=>false|_=>true))
 |_=>none
theorem qkv:OpS K (λx y H Q=>y=.non/\Q (.bl (decide (x=.non))) H) dIsN:=λH x y d e u Q rx ry q k=>by
 (first|split at q|(unfold dIsN at q;split at q))
 ·obtain rfl:=ry.isA rfl;refine⟨rfl,?_⟩;cases rx<;>(cases q;exact k _ (.bl _))
 ·cases q
theorem q4o:OpS K (λx y H Q=>y=.non/\Q (.bl (!decide (x=.non))) H) q2i:=λH x y d e u Q rx ry q k=>by
 (first|split at q|(unfold q2i at q;split at q))
 ·obtain rfl:=ry.isA rfl;refine⟨rfl,?_⟩;cases rx<;>(cases q;exact k _ (.bl _))
 ·cases q
end
section
variable{K:FrG}{O:List Nat}{t ta tb tc:TE}{tr:TA}{fa fb fc:RhD}{fs:RhL}
def qti(K:FrG)(r:List V->Hp->VK->Prop)(g:D->Option D):Prop:=∀(H R:Hp) (x:V) (d u:D) (Q:VK),(∀a o,R a=some o->H a=some o)->Rp K R x d->g d=some u->(∀v H' R',Ext H R H' R'->Rp K R' v u->Q v H')->r [x] H Q
theorem q5r{r:List V->Hp->VK->Prop}{g:D->Option D}(h:qti K r g)(ha:ME K O t fa):ME K O (tCB r (q35 t tNil)) (mOp1 g fa):=λZ σ H R ρ d ρ' Q S e k=>by obtain⟨x,ρ1,e1,e⟩:=q0a e;obtain⟨e2,rfl⟩:=q0k e;refine ha Z σ H R ρ x _ _ S e1 λv H1 R1 S1 st1 r1=>?_;exact h H1 R1 v x d Q S1.sub r1 e2 λw H2 R2 x2 r2=>k w H2 R2 (S1.ext x2) (st1.trans x2.stp) r2
def qth(K:FrG)(r:List V->Hp->VK->Prop)(g:D->Option (List D)):Prop:=∀(H R:Hp) (x:V) (d:D) (us:List D) (Q:VK),(∀a o,R a=some o->H a=some o)->Rp K R x d->g d=some us->(∀l vs,H l=none->Rps K R vs us->Q (.ref l) (upd H l (.lst vs)))->r [x] H Q
def qgh(g:D->Option (List D))(f:RhD):RhL:=q1r f λx=>q2q (g x)
theorem qix{r:List V->Hp->VK->Prop}{g:D->Option (List D)}(h:qth K r g)(ha:ME K O t fa):MN K O (tCB r (q35 t tNil)) (qgh g fa):=λZ σ H R ρ d ρ' Q S e k=>by obtain⟨x,ρ1,e1,e⟩:=q0a e;obtain⟨e2,rfl⟩:=q0k e;refine ha Z σ H R ρ x _ _ S e1 λv H1 R1 S1 st1 r1=>?_;refine h H1 R1 v x d Q S1.sub r1 e2 λl vs hl rv=>?_;have y:=Ext.hid (o:=.lst vs) S1.sub hl;exact k l vs _ _ (S1.ext y) (st1.trans y.stp) (st1.new hl) q0m (S1.out hl) rv
def dSeq:D->Option (List D)
 |.lst xs=>some xs
 |.tup xs=>some xs
 |_=>none
theorem qoc:qth K (λxs H Q=>∃p ys,xs=[.ref p]/\(SqL K H p ys∨SqT K H p ys)/\∀l,H l=none->Q (.ref l) (upd H l (.lst ys))) dSeq:=λH R x d us Q s r e k=>by
 (first|split at e|(unfold dSeq at e;split at e))
 ·obtain⟨_,_,rfl,h,q⟩:=r.isL;cases e;exact⟨_,_,rfl,.inl (Same.sqL s h),λl hl=>k l _ hl q⟩
 ·obtain⟨_,_,rfl,h,q⟩:=r.isT;cases e;exact⟨_,_,rfl,.inr (SqT.of (s _ _ h)),λl hl=>k l _ hl q⟩
 ·cases e
def q4h:D->Option D
 |.lst xs=>some (.tup xs)
 |.tup xs=>some (.tup xs)
 |_=>none
theorem q5z:qti K (λxs H Q=>∃p ys,xs=[.ref p]/\((SqL K H p ys/\∀l,H l=none->Q (.ref l) (upd H l (.tup ys)))∨(SqT K H p ys/\Q (.ref p) H))) q4h:=λH R x d u Q s r e k=>by
 cases r with
 | lst h q=>
  cases e;refine⟨_,_,rfl,.inl ⟨Same.sqL s h,λl hl=>?_⟩⟩;rename_i a xs ds;have y:=Ext.new (o:=.tup xs) s hl;exact k _ _ _ y (.tup q0m (q.mono y.r))
 |tup h q=>cases e;exact⟨_,_,rfl,.inr ⟨SqT.of (s _ _ h),k _ H R (Ext.refl s) (.tup h q)⟩⟩
 |_=>cases e
def MO(K:FrG)(O:List Nat)(t:TO)(f:Rho->Option (Option Int×Rho)):Prop:=∀(Z:Anc) (σ:St) (H R:Hp) (ρ:Rho) (o:Option Int) (ρ':Rho) (Q:Option Int->Hp->Prop),StR K Z O σ H R ρ->f ρ=some (o,ρ')->(∀H' R',StR K Z O σ H' R' ρ'->Stp O σ H R H' R'->Q o H')->t σ H Q
theorem q4r:MO K O qed (mRet none):=λZ σ H R ρ o ρ' Q S e k=>by cases e;exact k H R S (Stp.refl _ _ _ _)
def q22(f:RhD):Rho->Option (Option Int×Rho):=q1r f λd=>q2q (match d with
 |.int i=>some (some i)
 |_=>none)
theorem q3s(h:ME K O t fa):MO K O (qp4 t) (q22 fa):=λZ σ H R ρ o ρ' Q S e k=>by
 obtain⟨x,ρ1,e1,e⟩:=q0a e;obtain⟨e2,rfl⟩:=q0k e;refine h Z σ H R ρ x _ _ S e1 λv H1 R1 S1 st1 r1=>?_
 (first|split at e2)
 ·rename_i i;obtain rfl:=r1.isA rfl;cases e2;exact⟨i,rfl,k H1 R1 S1 st1⟩
 ·cases e2
def cutD(xs:List D)(lo hi:Option Int):List D:=(xs.drop (HT.sIx xs.length 0 lo)).take (HT.sIx xs.length xs.length hi-HT.sIx xs.length 0 lo)
theorem Rps.cut{R:Hp}{xs:List V}{ds:List D}(r:Rps K R xs ds)(lo hi:Option Int):Rps K R (cutV xs lo hi) (cutD ds lo hi):=by unfold cutV cutD;rw[r.length];exact(r.drop _).take _
def rSlG(K:FrG):V->Option Int->Option Int->Hp->VK->Prop:=λx lo hi H Q=>rSlL K x lo hi H Q∨rSlT K x lo hi H Q
theorem q47{X:Cx}(h:X.K=K):SlR X (rSlG K):=by subst h;exact sl_list.or qpb
def dSl(d:D)(lo hi:Option Int):Option D:=match d with
 |.lst xs=>some (.lst (cutD xs lo hi))
 |.tup xs=>if HT.sIx xs.length 0 lo=0/\HT.sIx xs.length xs.length hi=xs.length then none else some (.tup (cutD xs lo hi))
 |_=>none
def mSl(f:RhD)(fl fh:Rho->Option (Option Int×Rho)):RhD:=q1r f λd=>q1r fl λlo=>q1r fh λhi=>q2q (dSl d lo hi)
theorem q3f{tl th:TO}{fl fh:Rho->Option (Option Int×Rho)}(h:ME K O t fa)(hl:MO K O tl fl)(hh:MO K O th fh):ME K O (tSl (rSlG K) t tl th) (mSl fa fl fh):=λZ σ H R ρ d ρ' Q S e k=>by
 obtain⟨x,ρ1,e1,e⟩:=q0a e;obtain⟨lo,ρ2,e2,e⟩:=q0a e;obtain⟨hi,ρ3,e3,e⟩:=q0a e;obtain⟨e4,rfl⟩:=q0k e;refine h Z σ H R ρ x _ _ S e1 λv H1 R1 S1 st1 r1=>hl Z σ H1 R1 ρ1 lo _ _ S1 e2 λH2 R2 S2 st2=>hh Z σ H2 R2 ρ2 hi _ _ S2 e3 λH3 R3 S3 st3=>?_;have r3:=(r1.mono st2.r).mono st3.r;have st:=(st1.trans st2).trans st3;cases r3 with
 | @lst a xs ds q r=>
  cases e4;refine .inl ⟨a,xs,rfl,Same.sqL S3.same q,λp np=>?_⟩;have y:=Ext.new (o:=.lst (cutV xs lo hi)) S3.sub np;exact k _ _ _ (S3.ext y) (st.trans y.stp) (.lst (SqL.of q0m) ((r.cut lo hi).mono y.r))
 | @tup a xs ds q r=>
  have e5:(if HT.sIx ds.length 0 lo=0/\HT.sIx ds.length ds.length hi=ds.length then none else some (D.tup (cutD ds lo hi)))=some d:=e4;split at e5
  ·cases e5
  ·rename_i hn;cases e5;refine .inr ⟨a,xs,rfl,SqT.of (S3.same _ _ q),by rw[r.length];exact hn,λp np=>?_⟩;have y:=Ext.new (o:=.tup (cutV xs lo hi)) S3.sub np;exact k _ _ _ (S3.ext y) (st.trans y.stp) (.tup q0m ((r.cut lo hi).mono y.r))
 |_=>cases e4
def q82(g g':D->D->Option D)(fa fb fc:RhD):RhD:=q1r fa λx=>q1r fb λy=>q1r (q0b (q2q (g x y))) λb=>if b=true then q1r fc λz=>q2q (g' y z)else mRet (.bl false)
theorem qj0{r r':R2}{g g':D->D->Option D}(h:OpS K r g)(h':OpS K r' g')(ha:ME K O ta fa)(hb:ME K O tb fb)(hc:ME K O tc fc):ME K O (qkk r r' ta tb tc) (q82 g g' fa fb fc):=λZ σ H R ρ d ρ' Q S e k=>by
 obtain⟨x,ρ1,e1,e⟩:=q0a e;obtain⟨y,ρ2,e2,e⟩:=q0a e;obtain⟨b,ρ3,e3,e⟩:=q0a e;obtain⟨u,ρ4,f3,e4⟩:=q0a e3;obtain⟨g3,rfl⟩:=q0k f3;obtain⟨g4,rfl⟩:=q0k e4;refine ha Z σ H R ρ x _ _ S e1 λv H1 R1 S1 st1 r1=>hb Z σ H1 R1 ρ1 y _ _ S1 e2 λw H2 R2 S2 st2 r2=>?_;refine h H2 v w x y u _ ((r1.mono st2.r).mono S2.same) (r2.mono S2.same) g3 λz q=>?_;cases q with
 | bl c=>
  cases g4;refine⟨_,rfl,?_⟩;cases b with
  | true=>
   obtain⟨z,ρ5,e5,f⟩:=q0a e;obtain⟨e6,rfl⟩:=q0k f;refine iteT (hc Z σ H2 R2 _ z _ _ S2 e5 λw' H3 R3 S3 st3 r3=>?_);exact h' H3 w w' y z d Q ((r2.mono st3.r).mono S3.same) (r3.mono S3.same) e6 λv' q'=>k v' H3 R3 S3 ((st1.trans st2).trans st3) q'.rp
  |false=>cases e;exact iteF (k _ H2 R2 S2 (st1.trans st2) (.bl false))
 |_=>cases g4
theorem q7s{g:Int->Int->Bool}:OpS K (rI0 λi j=>.bl (g i j)) (dB0 g):=λH x y d e u Q rx ry q k=>by
 unfold dB0 at q;split at q
 ·rename_i i j
  (first|obtain rfl:=q.isA rfl|cases q)
  (first|obtain rfl:=rx.isA rfl|cases rx)
  (first|obtain rfl:=ry.isA rfl|cases ry)
  exact⟨i,j,rfl,rfl,k _ (.bl _)⟩
 ·(first|obtain rfl:=q.isA rfl|cases q)
def qur(f:RhL):RhD:=q1r f λds=>q2q (match ds with
 |[.int i,.int j]=>if 0<j/\j<1073741824 then some (.tup [.int (i / j),.int (i % j)])else none
 |_=>none)
def mMM(g:Int->Int->Int)(f:RhL):RhD:=q1r f λds=>q2q (match ds with
 |[.int i,.int j]=>some (.int (g i j))
 |_=>none)
theorem qry{g:Int->Int->Int}(h:MA K O tr fs):ME K O (tCB (λxs H Q=>∃i j,xs=[.int i,.int j]/\Q (.int (g i j)) H) tr) (mMM g fs):=λZ σ H R ρ d ρ' Q S e k=>by
 obtain⟨xs,ρ1,e1,e⟩:=q0a e;obtain⟨e2,rfl⟩:=q0k e;refine h Z σ H R ρ xs _ _ S e1 λvs H1 R1 S1 st1 r1=>?_;split at e2
 ·rename_i i j;cases e2;obtain⟨_,_,rfl,q,r⟩:=r1.isC
  (first|obtain rfl:=q.isA rfl|cases q)
  cases r with
  | cons q r=>
   (first|obtain rfl:=q.isA rfl|cases q)
   (first|obtain rfl:=r.isA rfl|cases r)
   exact⟨i,j,rfl,k _ H1 R1 S1 st1 (.int _)⟩
 ·cases e2
def qsi(K:FrG)(ta:TA):TI:=λσ H R=>(iZip K true true ta σ H R∨iZip K true false ta σ H R)∨(iZip K false true ta σ H R∨iZip K false false ta σ H R)
theorem q5d{X:Cx}{a b:Expr}{ta:TA}{p pos:Pos}{zr:List Expr}{x1:Nat}{tp:Pos}(hK:X.K=K)(hg:Gl X "zip")(hm:X.mg "zip"=none)(ha:PA X [a,b] ta)(he:starEach [a,b] X.env=(false,eval a X.env)::starEach [b] X.env:=by rfl)(hpl:(backTo pos (starEach [b] X.env)).any (·.1)=false:=by rfl):
 PI X (.Tuple zr x1 tp) (.Call (.Name "zip" p) [a,b] [] pos) (qsi K ta):=λz9 s σ H R I q=>by
 rcases q with(q|q)|(q|q)
 ·exact qby true true hK hg hm ha he hpl z9 s σ H R I q
 ·exact qby true false hK hg hm ha he hpl z9 s σ H R I q
 ·exact qby false true hK hg hm ha he hpl z9 s σ H R I q
 ·exact qby false false hK hg hm ha he hpl z9 s σ H R I q
def zipD(xs ys:List D):List D:=List.zipWith (λx y=>D.tup [x,y]) xs ys
def mZip(f:RhL):RhL:=q1r f λds=>q2q (match ds with
 | [x,y]=>match dSeq x,dSeq y with
  |some xs,some ys=>some (zipD xs ys)
  |_,_=>none
 |_=>none)
theorem SqB.inj_same{K:FrG}{b:Bool}{R H:Hp}{p:Addr}{xs:List V}(s:Same R H)(h:SqB K b R p xs):SqB K b H p xs:=by
 cases b
 ·exact Same.tup s h
 ·exact Same.sqL s h
theorem qse{R:Hp}{b1 b2:Bool}{p1 p2:Addr}{xs ys:List V}{ds es:List D}(h1:SqB K b1 R p1 xs)(h2:SqB K b2 R p2 ys)(r1:Rps K R xs ds)(r2:Rps K R ys es):ItOk K (Itz K b1 b2 p1 p2) R (zipD ds es):=λH' R' s b i=>by
 have q1:=(SqB.inj_same s h1);have q2:=(SqB.inj_same s h2);have g1:=(SqB.inj_same b q1);have g2:=(SqB.inj_same b q2);have len:(zipD ds es).length=min ds.length es.length:=by simp[zipD]
 have l1:=r1.length;have l2:=r2.length;refine⟨λe=>⟨xs,ys,g1,g2,by omega⟩,λd e=>?_⟩;unfold zipD at e;rw[List.getElem?_zipWith]at e;cases e1:ds[i]? with
 |none=>rw[e1]at e;cases e
 | some d1=>
  cases e2:es[i]? with
  |none=>rw[e1,e2]at e;cases e
  | some d2=>
   rw[e1,e2]at e;cases e;obtain⟨v1,a1,a2⟩:=r1.get e1;obtain⟨v2,c1,c2⟩:=r2.get e2;refine⟨⟨xs,ys,v1,v2,g1,g2,a1,c1⟩,λx H'' y=>?_⟩;obtain⟨T,x1,y1,rfl,hT,rfl,z1,z2⟩:=y;have w1:=z1 xs g1;have w2:=z2 ys g2;rw[a1]at w1;rw[c1]at w2;cases w1;cases w2;have y:=Ext.new (o:=.tup [v1,v2]) b hT;exact⟨_,y,.tup q0m (.cons ((a2.mono s).mono y.r) (.cons ((c2.mono s).mono y.r) .nil))⟩
theorem qab{x:D}{ds:List D}(h:dSeq x=some ds):x=.lst ds∨x=.tup ds:=by
 unfold dSeq at h;split at h
 ·cases h;exact .inl rfl
 ·cases h;exact .inr rfl
 ·(first|obtain rfl:=h.isA rfl|cases h)
theorem q7a(h:MA K O tr fs):MI K O (qsi K tr) (mZip fs):=λZ σ H R ρ ds ρ' Q S e k=>by
 obtain⟨xs,ρ1,e1,e⟩:=q0a e;obtain⟨e2,rfl⟩:=q0k e;have go:∀(b1 b2:Bool) (x y:D) (as bs:List D),xs=[x,y]->ds=zipD as bs->(∀(R1:Hp) (v:V),Rp K R1 v x->∃p vs,v=.ref p/\SqB K b1 R1 p vs/\Rps K R1 vs as)->(∀(R1:Hp) (v:V),Rp K R1 v y->∃p vs,v=.ref p/\SqB K b2 R1 p vs/\Rps K R1 vs bs)->iZip K b1 b2 tr σ H Q:=λb1 b2 x y as bs hx hd g1 g2=>by
  subst hx hd;refine h Z σ H R ρ _ _ _ S e1 λvs H1 R1 S1 st1 r1=>?_;obtain⟨_,_,rfl,q,r⟩:=r1.isC;obtain⟨_,_,rfl,q',r⟩:=r.isC
  (first|obtain rfl:=r.isA rfl|cases r)
  obtain⟨p1,us,rfl,s1,t1⟩:=g1 _ _ q;obtain⟨p2,ws,rfl,s2,t2⟩:=g2 _ _ q';exact⟨p1,p2,rfl,⟨us,SqB.inj_same S1.same s1⟩,⟨ws,SqB.inj_same S1.same s2⟩,k _ H1 R1 S1 st1 (qse s1 s2 t1 t2)⟩
 have gl:∀(as:List D) (R1:Hp) (v:V),Rp K R1 v (.lst as)->∃p vs,v=.ref p/\SqB K true R1 p vs/\Rps K R1 vs as:=λas R1 v r=>by obtain⟨_,_,rfl,h,q⟩:=r.isL;exact⟨_,_,rfl,h,q⟩
 have gt:∀(as:List D) (R1:Hp) (v:V),Rp K R1 v (.tup as)->∃p vs,v=.ref p/\SqB K false R1 p vs/\Rps K R1 vs as:=λas R1 v r=>by obtain⟨_,_,rfl,h,q⟩:=r.isT;exact⟨_,_,rfl,SqT.of h,q⟩
 split at e2
 ·rename_i x y;split at e2
  ·rename_i as bs h1 h2;cases e2;rcases qab h1 with rfl|rfl<;>rcases qab h2 with rfl|rfl
   ·exact .inl (.inl (go true true _ _ as bs rfl rfl (gl as) (gl bs)))
   ·exact .inl (.inr (go true false _ _ as bs rfl rfl (gl as) (gt bs)))
   ·exact .inr (.inl (go false true _ _ as bs rfl rfl (gt as) (gl bs)))
   ·exact .inr (.inr (go false false _ _ as bs rfl rfl (gt as) (gt bs)))
  ·cases e2
 ·cases e2
end
inductive TyO(K:FrG)(H:Hp):V->Value->Prop where
 |of {x:V} {t:Value} (h:TyOf K H x t):TyO K H x t
 |sl {a:Addr} {xs:List V} (h:SqL K H a xs):TyO K H (.ref a) (.type "list")
 |st {a:Addr} {xs:List V} (h:SqT K H a xs):TyO K H (.ref a) (.type "tuple")
def rIsO(K:FrG):List V->Hp->VK->Prop:=λxs H Q=>∃x y t c b,xs=[x,y]/\clsV y=some c/\TyO K H x t/\PySem.W.kitOne K t c=some b/\Q (.bl b) H
section
variable{X:Cx}{K:FrG}{O:List Nat}{t:TE}{fa:RhD}
theorem q60(hK:X.K=K):q4w X (.builtin "isinstance") (rIsO K):=by
 subst hK;intro z9 s σ H xs us Q I r h;obtain⟨x,y,t,c,b,rfl,hc,ty,e,q⟩:=h;cases ty with
 |of h=>exact qju rfl z9 s σ H [x,y] us Q I r ⟨x,y,t,c,b,rfl,hc,h,e,q⟩
 | sl h=>
  obtain⟨u,w,rfl,ru,rw'⟩:=vals2 r
  (first|obtain rfl:=ru.isA rfl|cases ru)
  have ew:w=c:=by
   cases y with
   |ref a=>exact(show w=Value.ref a from rw').trans (jd hc)
   |ty n=>exact(show w=Value.type n from rw').trans (jd hc)
   |_=>cases hc
  subst ew;obtain⟨its,rv,pl,_⟩:=I.list h;obtain⟨o,e1,c1,_⟩:=pl.isList;exact PySem.W.kia_one PySem.W.kitx_list I.kIn ⟨o,e1,c1⟩ e (λz=>nomatch z) λtk=>⟨.bl b,H,I.tok tk,rfl,q⟩
 | st h=>
  obtain⟨u,w,rfl,ru,rw'⟩:=vals2 r
  (first|obtain rfl:=ru.isA rfl|cases ru)
  have ew:w=c:=by
   cases y with
   |ref a=>exact(show w=Value.ref a from rw').trans (jd hc)
   |ty n=>exact(show w=Value.type n from rw').trans (jd hc)
   |_=>cases hc
  subst ew;obtain⟨its,rv,pl,_⟩:=I.tuple h;obtain⟨o,e1,c1,_⟩:=pl;exact PySem.W.kia_one PySem.W.kitx_tuple I.kIn ⟨o,e1,c1⟩ e (λz=>nomatch z) λtk=>⟨.bl b,H,I.tok tk,rfl,q⟩
def tyN:D->Option String
 |.non=>some "NoneType"
 |.bl _=>some "bool"
 |.int _=>some "int"
 |.str _=>some "str"
 |.lst _=>some "list"
 |.tup _=>some "tuple"
 |.dct _=>some "dict"
 |.exc _=>none
 |.fn _=>none
 |.dit _=>some "dict"
 |.obj _ _=>none
theorem qp3{H:Hp}{v:V}{d:D}{n:String}(r:Rp K H v d)(e:tyN d=some n):TyO K H v (.type n):=by
 cases r with
 |non=>cases e;exact .of .non
 |bl b=>cases e;exact .of (.bl b)
 |int i=>cases e;exact .of (.int i)
 |str x=>cases e;exact .of (.str x)
 |lst h _=>cases e;exact .sl h
 |tup h _=>cases e;exact .st (SqT.of h)
 |dct h _=>cases e;exact .of (.dK h)
 |dit h _=>cases e;exact .of (.dT h)
 |obj _ _=>cases e
 |exc _ _ _=>cases e
 |fn _=>cases e
def KitB(K:FrG)(Y:String)(f:String->Option Bool):Prop:=∀s b,f s=some b->PySem.W.kitOne K (.type s) (.type Y)=some b
def q54(Y:String):String->Option Bool:=λs=>
 if s="NoneType" then some (decide (Y="NoneType"))else if s="bool" then some (decide (Y="bool")||decide (Y="int"))else if s="int" then some (decide (Y="int"))else if s="str" then some (decide (Y="str"))
 else if s="list" then some (decide (Y="list"))else if s="tuple" then some (decide (Y="tuple"))else if s="dict" then some (decide (Y="dict"))else none
theorem q90{Y:String}(h1:PySem.W.kitOne K (.type "NoneType") (.type Y)=some (decide (Y="NoneType")))(h2:PySem.W.kitOne K (.type "bool") (.type Y)=some (decide (Y="bool")||decide (Y="int")))(h3:PySem.W.kitOne K (.type "int") (.type Y)=some (decide (Y="int")))
 (h4:PySem.W.kitOne K (.type "str") (.type Y)=some (decide (Y="str"))) (h5:PySem.W.kitOne K (.type "list") (.type Y)=some (decide (Y="list"))) (h6:PySem.W.kitOne K (.type "tuple") (.type Y)=some (decide (Y="tuple"))) (h7:PySem.W.kitOne K (.type "dict") (.type Y)=some (decide (Y="dict"))):KitB K Y (q54 Y):=λs b e=>by
 unfold q54 at e;split at e
 ·rename_i z;subst z;rw[<-e];exact h1
 split at e
 ·rename_i z;subst z;rw[<-e];exact h2
 split at e
 ·rename_i z;subst z;rw[<-e];exact h3
 split at e
 ·rename_i z;subst z;rw[<-e];exact h4
 split at e
 ·rename_i z;subst z;rw[<-e];exact h5
 split at e
 ·rename_i z;subst z;rw[<-e];exact h6
 split at e
 ·rename_i z;subst z;rw[<-e];exact h7
 ·cases e
def dIsi(f:String->Option Bool)(d:D):Option D:=match tyN d with
 |some s=>(f s).map .bl
 |none=>none
theorem q9x{Y:String}{f:String->Option Bool}(hk:KitB K Y f)(ha:MB K O t fa):ME K O (tCB (rIsO K) (q35 t (q35 (tC (.ty Y)) tNil))) (mOp1 (dIsi f) fa):=λZ σ H R ρ d ρ' Q S e k=>by
 obtain⟨x,ρ1,e1,e⟩:=q0a e;obtain⟨e2,rfl⟩:=q0k e;refine ha Z σ H R ρ x _ _ S e1 λv H1 R1 S1 st1 r1=>?_;unfold dIsi at e2;cases e3:tyN x with
 |none=>rw[e3]at e2;cases e2
 | some s=>
  rw[e3]at e2;dsimp only at e2;cases e4:f s with
  |none=>rw[e4]at e2;cases e2
  | some b=>
   rw[e4]at e2;cases e2;exact⟨v,.ty Y,.type s,.type Y,b,rfl,rfl,qp3 r1 e3,hk s b e4,k _ H1 R1 S1 st1 (.bl b)⟩
end
def mOf(f:RhL):RhD:=q1r f λds=>mRet (D.lst ds)
section
variable{K:FrG}{O O1 O':List Nat}{t:TE}{c:MC}{u:TS}{f:RhO}{fn:RhL}
theorem q1p(h:MN K O t fn):ME K O t (mOf fn):=h.me
theorem qg8(h:MS c O O1 u f)(hs:subO c O1 O'=true):MS c O O' u f:=λZ E σ H R ρ o hP S e k=>by
 refine h Z E σ H R ρ o hP S e ?_;cases o with
 | nx ρ'=>
  intro σ' H' R' S' s';obtain⟨S2,s2⟩:=S'.sub' hP hs;exact k σ' H' _ S2 (s'.trans s2)
 |bk ρ'=>exact k
 |ct ρ'=>exact k
 |rt d ρ'=>exact k
theorem qga{k n:Nat}{js:List Nat}{wi:TI}{g:TG}{tt:TT}{te:TE}(he:MN c.K O (qao n js wi g tt te) fn)(hs:ownO c k O O'=true):MS c O O' (qfd k n js wi g tt te) (sOwn k fn):=
 show MS c O O' (tAsg (qao n js wi g tt te) (q41 k)) (sOwn k fn)from q4g he hs
theorem q8v{k n:Nat}{js:List Nat}{wi:TI}{g:TG}{tt:TT}{te:TE}(he:MN c.K O (qao n js wi g tt te) fn)(hs:subO c O O'=true)(hi:k∉O'):MS c O O' (qfd k n js wi g tt te) (sSet k (mOf fn)):=
 show MS c O O' (tAsg (qao n js wi g tt te) (q41 k)) (sSet k (mOf fn))from q16 (q1p he) hs hi
def q6z(fe:RhD):RhO:=λρ=>match fe ρ with
 |none=>none
 |some (_,ρ1)=>some (.nx ρ1)
theorem q66{fe:RhD}(he:ME c.K O t fe)(hs:subO c O O'=true):MS c O O' (q9g t) (q6z fe):=λZ E σ H R ρ o hP S e k=>by
 unfold q6z at e;cases e1:fe ρ with
 |none=>rw[e1]at e;cases e
 | some p=>
  obtain⟨d,ρ1⟩:=p;rw[e1]at e;cases e;refine he Z σ H R ρ d ρ1 _ S e1 λv H1 R1 S1 st1 r1=>?_;obtain⟨S2,s2⟩:=S1.sub' hP hs;exact k σ H1 _ S2 (st1.r.trans s2)
end
def qml(i j:Int):Bool:=(decide (-(2^64)<i)&&decide (i<2^64))||(decide (-(2^64)<j)&&decide (j<2^64))
def qmm(_ j:Int):Bool:=decide (0<j)&&decide (j<1073741824)
def qr9(_ j:Int):Bool:=decide (0<j)
def qb9(i j:Int):Bool:=decide (0<=j)&&decide (j<=1000000)&&decide (i.natAbs<2^64)
abbrev dDiv:D->D->Option D:=dI2 qmm λi j=>i / j
abbrev dMod:D->D->Option D:=dI2 qr9 λi j=>i % j
abbrev dPow:D->D->Option D:=dI2 qb9 λi j=>i^j.toNat
abbrev dShl:D->D->Option D:=dI2 qb9 λi j=>i*2^j.toNat
abbrev dSub:D->D->Option D:=dI0 λi j=>i-j
abbrev dAnd:D->D->Option D:=dI0 λi j=>Builtin.bitAnd i j
abbrev dXor:D->D->Option D:=dI0 λi j=>Builtin.bitXor i j
abbrev dLt:D->D->Option D:=dB0 λi j=>decide (i<j)
abbrev dLe:D->D->Option D:=dB0 λi j=>decide (i<=j)
abbrev dGt:D->D->Option D:=dB0 λi j=>decide (j<i)
section
variable{K:FrG}
theorem q79:OpG K (rI CDiv λi j=>.int (i / j)) dDiv:=op_i λi j h=>by unfold qmm at h;simp only[Bool.and_eq_true,decide_eq_true_eq]at h;exact h
theorem q2e:OpG K (rI (λ_ j=>0<j) λi j=>.int (i % j)) dMod:=op_i λi j h=>of_decide_eq_true h
theorem qc5:OpG K (rI CPow λi j=>.int (i^j.toNat)) dPow:=op_i λi j h=>by unfold qb9 at h;simp only[Bool.and_eq_true,decide_eq_true_eq]at h;exact⟨h.1.1,h.1.2,h.2⟩
theorem q9r:OpG K (rI CPow λi j=>.int (i*2^j.toNat)) dShl:=op_i λi j h=>by unfold qb9 at h;simp only[Bool.and_eq_true,decide_eq_true_eq]at h;exact⟨h.1.1,h.1.2,h.2⟩
theorem q9q:OpG K (rI0 λi j=>.int (i-j)) dSub:=qmg
theorem qg0:OpG K (rI0 λi j=>.int (Builtin.bitAnd i j)) dAnd:=qmg
theorem qra:OpG K (rI0 λi j=>.int (Builtin.bitXor i j)) dXor:=qmg
def qly(K:FrG)(n:Nat):Sp:=λvs H Q _=>∃(b:Addr) (ns:List Int),vs=[.ref b]/\SqL K H b (ns.map V.int)/\ns.length<=n/\∀H',Q (.bl true) H'
theorem qs1{P:Program}{w:World}{mg:Str->Option Value}{base:Heap}{CX:CXT}{k n:Nat}{fa:Addr}{fd:FuncData}{x:Str}{f:List D->Option D}(F:FnOk P w K mg base CX k fa fd [x] (spP K false 1 f))(h:∀ns:List Int,ns.length<=n->f [.lst (ns.map D.int)]=some (.bl true)):FnOk P w K mg base CX k fa fd [x] (qly K n):=
 F.imp λvs H Q E q=>by obtain⟨b,ns,rfl,hb,hl,k⟩:=q;refine⟨rfl,H,[.lst (ns.map D.int)],.bl true,λ_ _ e=>e,.cons (.lst hb (Rps.ints ns)) .nil,h ns hl,λv H' R' _ r=>?_⟩;have r':Rp K R' v (.bl true):=r;cases r';exact k H'
end
section
variable{K:FrG}{O O':List Nat}{t ta tb:TE}{fa fb:RhD}{fn:RhL}{c:MC}
def dNeg:D->Option D
 |.int i=>some (.int (-i))
 |_=>none
def dAny:D->Option D
 |.lst xs=>(q4u xs).map λbs=>.bl (bs.any id)
 |_=>none
def sExt(i:Nat)(fn:RhL):RhO:=λρ=>if isL ρ i=true then(match fn ρ with
 |none=>none
 | some (ys,ρ1)=>match ρ1[i]? with
  |some (some (.lst xs))=>if xs.length+ys.length<=sizeLine then some (.nx (ρ1.set i (some (.lst (xs++ys)))))else none
  |_=>none)else none
theorem ql9{i:Nat}(hi:i∈O)(ha:MN c.K O ta fn)(hs:subO c O O'=true):MS c O O' (q9g (tBM c.K "list" qfm (tVar i) (q35 ta tNil))) (sExt i fn):=λZ E σ H R ρ o hP S e k=>by
 unfold sExt at e;split at e
 case isFalse=>cases e
 rename_i hL;cases e1:fn ρ with
 |none=>rw[e1]at e;cases e
 | some p=>
  obtain⟨ys,ρ1⟩:=p;rw[e1]at e;dsimp only at e;obtain⟨l,vs,ds,h1,h2,h3,h4,h5⟩:=S.own i hi;obtain⟨us,_,rfl,rfl,_⟩:=qlg hL h1 h5;refine⟨.ref l,h2,.inl ⟨rfl,us,SqL.of h3⟩,ha Z σ H R ρ ys ρ1 _ S e1 λb zs H1 R1 S1 st1 b0 bH bR r1=>?_⟩;obtain⟨l',vs',ds',g1,g2,g3,g4,g5⟩:=S1.own i hi;rw[h2]at g2;cases g2;rw[g1]at e;cases g5 with
  |dct _=>cases e
  |dit _=>cases e
  |lst g5=>
  rename_i vs' ds';dsimp only at e;split at e
  ·rename_i hz;cases e;refine⟨l,b,vs',zs,rfl,rfl,g3,bH,by rw[g5.length,r1.length];exact hz,?_⟩;obtain⟨S2,s2⟩:=(S1.write hi h2 (.lst (g5.append r1))).sub' hP hs;exact k σ _ _ S2 (st1.r.trans s2)
  ·cases e
def mRep(fn:RhL)(fb:RhD):RhL:=q1r fn λxs=>q1r fb λy=>q2q (match y with
 |.int k=>if -(2^63)<=k/\k<2^63/\xs.length*k.toNat<=sizeLine then some (List.replicate k.toNat xs).flatten else none
 |_=>none)
theorem Rps.rep{R:Hp}{xs:List V}{ds:List D}(r:Rps K R xs ds):∀k:Nat,Rps K R (List.replicate k xs).flatten (List.replicate k ds).flatten
 |0=>.nil
 | k+1=>by rw[List.replicate_succ,List.replicate_succ,List.flatten_cons,List.flatten_cons];exact r.append (Rps.rep r k)
theorem q9v(ha:MN K O ta fn)(hb:ME K O tb fb):MN K O (tOp rRep ta tb) (mRep fn fb):=λZ σ H R ρ d ρ' Q S e k=>by
 obtain⟨xs,ρ1,e1,e⟩:=q0a e;obtain⟨y,ρ2,e2,e⟩:=q0a e;obtain⟨e3,rfl⟩:=q0k e;refine ha Z σ H R ρ xs ρ1 _ S e1 λl vs H1 R1 S1 st1 h0 hH hR r1=>hb Z σ H1 R1 ρ1 y _ _ S1 e2 λw H2 R2 S2 st2 r2=>?_
 (first|split at e3)
 ·rename_i j;obtain rfl:=r2.isA rfl;have e4:(if -(2^63)<=j/\j<2^63/\xs.length*j.toNat<=sizeLine then some (List.replicate j.toNat xs).flatten else none)=some d:=e3;split at e4
  ·rename_i hz;cases e4;refine⟨l,j,vs,rfl,rfl,st2.h l _ hH (λi hi=>S.notnew h0 i hi),hz.1,hz.2.1,by rw[r1.length];exact hz.2.2,λp np=>?_⟩;have y:=Ext.hid (o:=.lst (List.replicate j.toNat vs).flatten) S2.sub np;exact k p _ _ _ (S2.ext y) ((st1.trans st2).trans y.stp) ((st1.trans st2).new np) q0m (S2.out np) ((r1.mono st2.r).rep _)
  ·cases e4
 ·cases e3
end
section
variable{M:Model}{A:Around}{E:Value->Shared->Prop}{s:Shared}
end
section
variable{X:Cx}{K:FrG}
end
section
variable{c:MC}{O O':List Nat}{te:TE}{fn:RhL}
end
theorem foldl_size{α:Type}(a:Array α):∀(k:Nat) (acc:Array α),(List.foldl (λx1 x2=>x1++x2) acc (List.replicate k a)).size=acc.size+k*a.size
 |0,acc=>by simp
 | k+1,acc=>by rw[List.replicate_succ,List.foldl_cons,foldl_size a k,Array.size_append,Nat.succ_mul];omega
theorem q6m:fillsNumberSlot (.type "tuple") "mul"=pure false:=
 PySem.fillsNumberSlot_seq (id:="tuple.__mul__") (r:=some (.builtin "tuple.__rmul__")) F.slot_tuple_mul.lookup (by decide+kernel) F.slot_tuple_rmul.lookup (by decide+kernel)
theorem q9k:seqRepeat? (.type "tuple")=pure (some (.builtin "tuple.__mul__")):=by unfold seqRepeat?;rw[PySem.seqSlot_of (T:="tuple") (name:="__mul__") (id:="tuple.__mul__") F.slot_tuple_mul.lookup (by decide+kernel),PySem.seqSlot_of (T:="tuple") (name:="__rmul__") (id:="tuple.__rmul__") F.slot_tuple_rmul.lookup (by decide+kernel)];rfl
theorem q7u(a:Int)(t:Tok)(l:Addr)(zb:Array Value)(n:Nat)(dd:Option Addr)(sl:Array (Option Value)):
 Meets (Builtin.«int.__rmul__» ⟨[.int a t,.ref l],[]⟩) (λ_ R s=>s.heap.get? l=some {cls:=.type "tuple",dict:=dd,data:=.seq zb n,slots:=sl}/\R (.ok (.ret Value.notImplemented)) s):=
 .of_wp λprog w A R s h=>by obtain⟨hp,g,d,tk,os⟩:=s;obtain⟨hl,h⟩:=h;wp_walk;exact⟨_,rfl,h⟩
theorem qd0(l:Addr)(zb:Array Value)(n:Nat)(dd:Option Addr)(sl:Array (Option Value))(x:Int)(u:Tok)(h1:1<x)(h2:x<=1000)(he:zb.isEmpty=false)(hz:zb.size<=1000):
 Meets (Builtin.«tuple.__mul__» ⟨[.ref l,.int x u],[]⟩) (λ_ R s=>s.heap.get? l=some {cls:=.type "tuple",dict:=dd,data:=.seq zb n,slots:=sl}/\R (.ok (.ret (Value.ref s.heap.objs.size))) {s with heap:=s.heap.push {cls:=Value.type "tuple",data:=Data.seq (List.foldl (λx1 x2=>x1++x2) #[] (List.replicate x.toNat zb))},toks:=s.toks}):=
 .of_wp λprog w A R s h=>by
  obtain⟨hp,g,d,tk,os⟩:=s;obtain⟨hl,h⟩:=h;have f1:=AutoSeq1.idx_int;have f2:=AutoSeq1.sub_tuple_tuple;have hc0:¬(decide (x< -2^63)||decide (x≥2^63))=true:=by simp only[Bool.or_eq_true,decide_eq_true_eq];omega
  have hc1:¬(zb.isEmpty||x==1)=true:=by rw[he,Bool.false_or];simp;omega
  have hc2:¬(decide (x<=0)||zb.isEmpty)=true:=by rw[he,Bool.or_false];simp;omega
  have hm:(zb.size:Int)*x<=1000*1000:=Int.le_trans (Int.mul_le_mul_of_nonneg_left h2 (Int.natCast_nonneg _)) (Int.mul_le_mul_of_nonneg_right (by omega) (by decide));have hc3:¬(zb.size:Int)*x>(2^63-1) / 8:=by omega
  have hc4:¬Builtin.Tuple.tupleTooMany ((zb.size:Int)*x)=true:=by
   unfold Builtin.Tuple.tupleTooMany;have:(sizeLine:Int)≥1000*1000:=by decide
   simp;omega
  wp_walk using ki hl
  rw[if_neg hc0]
  wp_walk using ki hl
  rw[if_neg hc1];rw[if_neg hc2];rw[if_neg hc3];rw[if_neg hc4]
  wp_walk using ki hl
  have hc5:¬(List.foldl (λx1 x2=>x1++x2) #[] (List.replicate x.toNat zb)).size>sizeLine:=by
   rw[foldl_size];have h7:x.toNat*zb.size<=1000*1000:=Nat.mul_le_mul (by omega) hz;have h8:(sizeLine:Nat)≥1000*1000:=by decide
   simp;omega
  rw[if_neg hc5]
  wp_walk using ki hl
  exact⟨_,rfl,h⟩
def qpv(K:FrG):R2:=λx y H Q=>∃l k xs,x=.ref l/\y=.int k/\SqT K H l xs/\1<k/\k<=1000/\xs≠[]/\xs.length<=1000/\∀p,H p=none->Q (.ref p) (upd H p (.tup (List.replicate k.toNat xs).flatten))
section
variable{X:Cx}{K:FrG}
theorem qmf(hK:X.K=K):OpR X (binaryOp .Mult) (qpv K):=by
 subst hK;intro z9 s σ H x y v u Q I rx ry h;obtain⟨l,k,xs,rfl,rfl,hH,h1,h2,hx,hz,q⟩:=h
 (first|obtain rfl:=rx.isA rfl|cases rx)
 obtain⟨t,rfl⟩:=ry;obtain⟨its,r1,p1,_⟩:=I.tuple hH;obtain⟨⟨cls,dd,data,sl⟩,ho,hc,n,hd⟩:=id p1;simp only at hc hd;subst hc hd;have zd:=r1.length;have he:its.toArray.isEmpty=false:=by
  cases its with
  |nil=>exact absurd (r1.nil_iff.mp rfl) hx
  |cons a r=>rfl
 have f0:List.foldl (λx1 x2=>x1++x2) #[] (List.replicate k.toNat its.toArray)=(List.replicate k.toNat its).flatten.toArray:=by have:=foldl_rep its k.toNat [];rw[List.nil_append]at this;exact this
 refine wpAny_binaryOp_repeat_ref (T:="tuple") (U:="int") (by decide) ⟨_,ho,rfl⟩ (λs'=>typeIs_int s' k t) q6m F.fills_int_mul F.slot_int_rmul q9k F.slot_int_index.lookup
  (call_meets F.slot_int_rmul (typeIs_int s k t) F.entry_int_rmul (F.args_int_rmul_2 _ _) (q7u k t l its.toArray n dd sl)
    ⟨ho,rfl,⟨_,ho,rfl⟩,call_meets F.slot_tuple_mul ⟨_,ho,rfl⟩ F.entry_tuple_mul (F.args_tuple_mul_2 _ _) (qd0 l its.toArray n dd sl k t h1 h2 he (by rw[xf];omega)) ⟨ho,?_⟩⟩)
 rw[f0];have hsz:(List.replicate k.toNat xs).flatten.length<=sizeLine:=by rw[len_rep];exact x9 (Nat.mul_le_mul (by omega:k.toNat<=1000) hz) (by decide)
 refine⟨.ref s.heap.objs.size,_,I.laid (t':=s.toks) (o:=.tup (List.replicate k.toNat xs).flatten) (λb ob q=>jh _ q) (jg _) ?_,rfl,q _ (I.hok.fresh (jg _))⟩;exact⟨hsz,_,r1.rep k.toNat,TupN.new _ _⟩
def qbl(z:Str)(k:Int):Str:=if(k==1||z.length==0)=true then z else⟨List.foldl (λx1 x2=>x1++x2) #[] (List.replicate k.toNat z.cps)⟩
theorem qfv:OpR X (binaryOp .Mult) (λx y H Q=>∃z k,x=.str z/\y=.int k/\0<k/\k<=1000/\0<z.length/\z.length<=1000/\Q (.str (qbl z k)) H):=by
 intro z9 s σ H x y v u Q I rx ry h;obtain⟨z,k,rfl,rfl,h1,h2,h3,h4,q⟩:=h;obtain⟨t,rfl⟩:=rx;obtain⟨t',rfl⟩:=ry;have hm:z.length*k.toNat<=1000*1000:=Nat.mul_le_mul h4 (by omega);refine PySem.P.mul_str (by simp;omega) (λ_ _=>?_) (λ_ _=>?_) ?_
 ·intro hgt;have h5:((2:Int)^63-1) / 1000<=(2^63-1) / k:=by
   refine Int.le_ediv_of_mul_le h1 ?_;have:((2:Int)^63-1) / 1000*k<=(2^63-1) / 1000*1000:=Int.mul_le_mul_of_nonneg_left h2 (by decide);exact Int.le_trans this (by decide)
  have h6:(1000:Int)<(2^63-1) / 1000:=by decide
  omega
 ·unfold Builtin.Str.tooLong;have:(sizeLine:Nat)≥1000*1000:=by decide
  simp;omega
 ·rw[if_neg (by omega)];unfold qbl at q;split
  ·rename_i hh;rw[if_pos hh]at q;exact⟨.str z,H,I,⟨t,rfl⟩,q⟩
  ·rename_i hh;rw[if_neg hh]at q;refine⟨?_,⟨.str _,H,I.tok _,⟨_,rfl⟩,q⟩⟩;show(List.foldl (λx1 x2=>x1++x2) #[] (List.replicate k.toNat z.cps)).size<=sizeLine;rw[foldl_size];have h7:k.toNat*z.cps.size<=1000*1000:=Nat.mul_le_mul (by omega) h4;have h8:(sizeLine:Nat)≥1000*1000:=by decide
   simp;omega
def CMul2(i j:Int):Prop:=CMul i j∨(i.natAbs<2^250/\j.natAbs<2^250)
theorem qhk{k:Int}(h:k.natAbs<2^250):Builtin.Int.intBits k<=250:=by
 unfold Builtin.Int.intBits;split
 ·exact Nat.zero_le _
 ·rename_i h0;have hk:k.natAbs≠0:=λz=>h0 (by simpa using z);have:k.natAbs.log2<250:=(Nat.log2_lt hk).mpr h;omega
theorem CMul2.ok{i j:Int}(h:CMul2 i j):IntMulOk i j:=by
 rcases h with h|⟨h1,h2⟩
 ·exact h.ok
 ·exact IntMulOk.of_le (qhk h1) (qhk h2) (by decide)
theorem op_mul2:OpR X (binaryOp .Mult) (rI CMul2 λi j=>.int (i*j)):=opI λ_ _ _ _ _ _ _ hc q=>mul_int q hc.ok
def bigM(i:Int):Bool:=decide (i.natAbs<2^250)
def qc4(i j:Int):Bool:=qml i j||(bigM i&&bigM j)
theorem qfz{i j:Int}(h:qc4 i j=true):CMul2 i j:=by
 unfold qc4 qml bigM at h;simp only[Bool.or_eq_true,Bool.and_eq_true,decide_eq_true_eq]at h;rcases h with h|h
 ·exact .inl h
 ·exact .inr h
def qpw(K:FrG):R2:=λx y H Q=>rI CMul2 (λi j=>.int (i*j)) x y H Q∨qpv K x y H Q∨∃z k,x=.str z/\y=.int k/\0<k/\k<=1000/\0<z.length/\z.length<=1000/\Q (.str (qbl z k)) H
theorem q3k(hK:X.K=K):OpR X (binaryOp .Mult) (qpw K):=op_mul2.or ((qmf hK).or qfv)
end
def q42:D->D->Option D
 |.int i,.int j=>if qc4 i j=true then some (.int (i*j))else none
 |.tup xs,.int k=>if 1<k/\k<=1000/\xs≠[]/\xs.length<=1000 then some (.tup (List.replicate k.toNat xs).flatten)else none
 |.str z,.int k=>if 0<k/\k<=1000/\0<z.length/\z.length<=1000 then some (.str (qbl z k))else none
 |_,_=>none
theorem q3l{K:FrG}:OpG K (qpw K) q42:=λH R x y d e u Q s rx ry q k=>by
 unfold q42 at q;split at q
 ·rename_i i j;split at q
  ·rename_i h
   (first|obtain rfl:=q.isA rfl|cases q)
   (first|obtain rfl:=rx.isA rfl|cases rx)
   (first|obtain rfl:=ry.isA rfl|cases ry)
   exact .inl ⟨i,j,rfl,rfl,qfz h,k _ H R (Ext.refl s) (.int _)⟩
  ·(first|obtain rfl:=q.isA rfl|cases q)
 ·rename_i ds j;split at q
  ·rename_i hc
   (first|obtain rfl:=q.isA rfl|cases q)
   (first|obtain rfl:=ry.isA rfl|cases ry)
   obtain⟨a,xs,rfl,h,r⟩:=rx.isT;refine .inr (.inl ⟨a,j,xs,rfl,rfl,SqT.of (s _ _ h),hc.1,hc.2.1,λz=>?_,by rw[r.length];exact hc.2.2.2,λp np=>?_⟩)
   ·subst z
    (first|obtain rfl:=r.isA rfl|cases r)
    exact hc.2.2.1 rfl
   ·have y:=Ext.new (o:=.tup (List.replicate j.toNat xs).flatten) s np;exact k _ _ _ y (.tup q0m ((r.rep _).mono y.r))
  ·(first|obtain rfl:=q.isA rfl|cases q)
 ·rename_i z j;split at q
  ·rename_i hc
   (first|obtain rfl:=q.isA rfl|cases q)
   (first|obtain rfl:=ry.isA rfl|cases ry)
   (first|obtain rfl:=rx.isA rfl|cases rx)
   exact .inr (.inr ⟨z,j,rfl,rfl,hc.1,hc.2.1,hc.2.2.1,hc.2.2.2,k _ H R (Ext.refl s) (.str _)⟩)
  ·(first|obtain rfl:=q.isA rfl|cases q)
 ·(first|obtain rfl:=q.isA rfl|cases q)
section
variable{X:Cx}{K:FrG}{O:List Nat}{pos:Pos}
end
inductive TyX(K:FrG)(H:Hp):V->Value->Prop where
 |exc {a C:Addr} (h:H a=some (excO a (.ref C))) (k:ExcK K C):TyX K H (.ref a) (.ref C)
 |non:TyX K H .non (.type "NoneType")
section
variable{X:Cx}{K:FrG}{O:List Nat}{t:TE}{fa:RhD}
structure KitE(K:FrG)(c:Value)(sub:Str->Option Bool):Prop where
 exc:∀x C b,PySem.W.nsIn K mainGlobals x=some (some (.ref C))->sub x=some b->PySem.W.kitOne K (.ref C) c=some b
 non:PySem.W.kitOne K (.type "NoneType") c=some false
structure qve(K:FrG)(cs:List Value)(sub:Str->Option Bool):Prop where
 exc:∀x C b,PySem.W.nsIn K mainGlobals x=some (some (.ref C))->sub x=some b->PySem.W.kitAny K (.ref C) cs=some b
 non:PySem.W.kitAny K (.type "NoneType") cs=some false
end
abbrev Xr:=Rho->Option (Str×Rho)
def ExE(K:FrG)(E:XK)(C:Str)(H:Hp):Prop:=∀v,PySem.W.nsIn K mainGlobals C=some (some v)->E v none H
section
variable(K:FrG)(O:List Nat)
def MX(t:TE)(E:XK)(fx:Xr):Prop:=∀(Z:Anc) (σ:St) (H R:Hp) (ρ:Rho) (C:Str) (ρ':Rho) (Q:VK),StR K Z O σ H R ρ->fx ρ=some (C,ρ')->(∀H' R',StR K Z O σ H' R' ρ'->Stp O σ H R H' R'->ExE K E C H')->t σ H Q
def MTX(t:TT)(E:XK)(fx:Xr):Prop:=∀(Z:Anc) (σ:St) (H R:Hp) (ρ:Rho) (C:Str) (ρ':Rho) (Q:Bool->Hp->Prop),StR K Z O σ H R ρ->fx ρ=some (C,ρ')->(∀H' R',StR K Z O σ H' R' ρ'->Stp O σ H R H' R'->ExE K E C H')->t σ H Q
def MAX(t:TA)(E:XK)(fx:Xr):Prop:=∀(Z:Anc) (σ:St) (H R:Hp) (ρ:Rho) (C:Str) (ρ':Rho) (Q:List V->Hp->Prop),StR K Z O σ H R ρ->fx ρ=some (C,ρ')->(∀H' R',StR K Z O σ H' R' ρ'->Stp O σ H R H' R'->ExE K E C H')->t σ H Q
def MIX(t:TI)(E:XK)(fx:Xr):Prop:=∀(Z:Anc) (σ:St) (H R:Hp) (ρ:Rho) (C:Str) (ρ':Rho) (Q:It->Hp->Prop),StR K Z O σ H R ρ->fx ρ=some (C,ρ')->(∀H' R',StR K Z O σ H' R' ρ'->Stp O σ H R H' R'->ExE K E C H')->t σ H Q
end
def xNo:Xr:=λ_=>none
def qe5{α:Type}(fa:Rho->Option (α×Rho))(xa xb:Xr):Xr:=λρ=>match xa ρ with
 |some r=>some r
 | none=>match fa ρ with
  |some (_,ρ1)=>xb ρ1
  |none=>none
theorem qcx{α:Type}{fa:Rho->Option (α×Rho)}{xa xb:Xr}{ρ:Rho}{r:Str×Rho}(h:qe5 fa xa xb ρ=some r):xa ρ=some r∨∃a ρ1,fa ρ=some (a,ρ1)/\xb ρ1=some r:=by
 unfold qe5 at h;cases e:xa ρ with
 |some q=>rw[e]at h;cases h;exact .inl rfl
 | none=>
  rw[e]at h;cases e2:fa ρ with
  |none=>rw[e2]at h;cases h
  |some p=>rw[e2]at h;exact .inr ⟨p.1,p.2,rfl,h⟩
section
variable{K:FrG}{O:List Nat}{E:XK}{t ta tb:TE}{tr:TA}{tt:TT}{fa fb:RhD}{fs:RhL}{xa xb xs:Xr}
theorem qg5:MTX K O tt E xNo:=λ_ _ _ _ _ _ _ _ _ e=>by cases e
theorem q5s:MAX K O tr E xNo:=λ_ _ _ _ _ _ _ _ _ e=>by cases e
theorem max_cons(ha:ME K O ta fa)(ka:MX K O ta E xa)(kr:MAX K O tr E xs):MAX K O (q35 ta tr) E (qe5 fa xa xs):=λZ σ H R ρ C ρ' Q S e k=>by
 rcases qcx e with e|⟨a,ρ1,e1,e2⟩
 ·exact ka Z σ H R ρ C ρ' _ S e k
 ·exact ha Z σ H R ρ a ρ1 _ S e1 λv H1 R1 S1 st1 r1=>kr Z σ H1 R1 ρ1 C ρ' _ S1 e2 λH2 R2 S2 st2=>k H2 R2 S2 (st1.trans st2)
def spPX(K:FrG)(fr:Bool)(n:Nat)(f:List D->Option D)(fx:List D->Option Str):Sp:=λvs H Q E=>spP K fr n f vs H Q E∨
 (vs.length=n/\∃R ds C,(∀a o,R a=some o->H a=some o)/\Rps K R vs ds/\fx ds=some C/\∀H' R',Ext H R H' R'->ExE K E C H')
theorem q46{fr:Bool}{n:Nat}{f:List D->Option D}{fx:List D->Option Str}{vs:List V}{H:Hp}{Q:VK}(h:spPX K fr n f fx vs H Q E):vs.length=n:=by
 rcases h with h|h
 ·exact h.1
 ·exact h.1
def q6w(fx:List D->Option Str)(fs:RhL)(xs:Xr):Xr:=λρ=>match xs ρ with
 |some r=>some r
 | none=>match fs ρ with
  |some (ds,ρ1)=>(fx ds).map λC=>(C,ρ1)
  |none=>none
def q8m(n:Nat)(fx:List D->Option Str):Prop:=∀ds C,fx ds=some C->ds.length=n
theorem q4p{n:Nat}{fr:Bool}{f:List D->Option D}{fx:List D->Option Str}(hf:q8m n fx)(h:MA K O tr fs)(hx:MAX K O tr E xs):MX K O (q6j (spPX K fr n f fx) [] E tr) E (q6w fx fs xs):=λZ σ H R ρ C ρ' Q S e k=>by
 unfold q6w at e;cases e1:xs ρ with
 |some r=>rw[e1]at e;cases e;exact hx Z σ H R ρ C ρ' _ S e1 k
 | none=>
  rw[e1]at e;cases e2:fs ρ with
  |none=>rw[e2]at e;cases e
  | some p=>
   obtain⟨ds,ρ1⟩:=p;rw[e2]at e;dsimp only at e;cases e3:fx ds with
   |none=>rw[e3]at e;cases e
   | some C1=>
    rw[e3]at e;cases e;refine h Z σ H R ρ ds _ _ S e2 λvs H1 R1 S1 st1 r1=>?_;show spPX K fr n f fx (vs++[]) H1 Q E;rw[List.append_nil];exact .inr ⟨by rw[r1.length];exact hf ds C e3,R1,ds,C,S1.sub,r1,e3,λH2 R2 x=>k H2 R2 (S1.ext x) (st1.trans x.stp)⟩
theorem q23{n:Nat}{f:List D->Option D}{fx:List D->Option Str}(hf:q1t n f)(h:MA K O tr fs):ME K O (q6j (spPX K false n f fx) [] E tr) (q0i f fs):=λZ σ H R ρ d ρ' Q S e k=>by obtain⟨ds,ρ1,e1,e⟩:=q0a e;obtain⟨e2,rfl⟩:=q0k e;refine h Z σ H R ρ ds _ _ S e1 λvs H1 R1 S1 st1 r1=>?_;show spPX K false n f fx (vs++[]) H1 Q E;rw[List.append_nil];exact .inl ⟨by rw[r1.length];exact hf ds d e2,R1,ds,d,S1.sub,r1,e2,λv H2 R2 x q=>k v H2 R2 (S1.ext x) (st1.trans x.stp) q⟩
end
def MSX(c:MC)(O:List Nat)(t:TS)(E:XK)(fx:Xr):Prop:=∀(Z:Anc) (D:Ends) (σ:St) (H R:Hp) (ρ:Rho) (C:Str) (ρ':Rho),Z.P=c.P->StR c.K Z O σ H R ρ->fx ρ=some (C,ρ')->(∀O' σ' H' R',StR c.K Z O' σ' H' R' ρ'->ExE c.K E C H')->t D σ H
def MSXa(c:MC)(O:List Nat)(t:TS)(E:XK)(fx:Xr):Prop:=∀(Z:Anc) (D:Ends) (σ:St) (H R:Hp) (ρ:Rho) (C:Str) (ρ':Rho),Z.P=c.P->StR c.K Z O σ H R ρ->fx ρ=some (C,ρ')->(∀H' R',StR c.K Z O σ H' R' ρ'->Same R R'->ExE c.K E C H')->t D σ H
theorem MSXa.g{c:MC}{O:List Nat}{t:TS}{E:XK}{fx:Xr}(h:MSXa c O t E fx):MSX c O t E fx:=λZ D σ H R ρ C ρ' hP S e k=>h Z D σ H R ρ C ρ' hP S e λH' R' S' _=>k O σ H' R' S'
section
variable{c:MC}{O O' O1:List Nat}{t u:TS}{te:TE}{tt:TT}{tr:TA}{g:TG}{f h:RhO}{fe:RhD}{fs:RhL}{ft:RhB}{E:XK}{xe xt fx hx:Xr}
theorem q59:MSX c O t E xNo:=λ_ _ _ _ _ _ _ _ _ _ e=>by cases e
theorem q5q(h:MX c.K O te E xe):MSXa c O (q9g te) E xe:=λZ D σ H R ρ C ρ' hP S e k=>h Z σ H R ρ C ρ' _ S e λH' R' S' st=>k H' R' S' st.r
theorem qiu(h:MX c.K O te E xe):MSXa c O (tAsg te g) E xe:=λZ D σ H R ρ C ρ' hP S e k=>h Z σ H R ρ C ρ' _ S e λH' R' S' st=>k H' R' S' st.r
def q9b(C:Str)(fs:RhL):Xr:=λρ=>match fs ρ with
 |some (ds,ρ1)=>if ds.length<=sizeLine then some (C,ρ1)else none
 |none=>none
theorem q81{x:Str}{a:Addr}(hx:PySem.W.nsIn c.K mainGlobals x=some (some (.ref a)))(h:MA c.K O tr fs):MSXa c O (qec a E tr) E (q9b x fs):=λZ D σ H R ρ C ρ' hP S e k=>by
 unfold q9b at e;cases e1:fs ρ with
 |none=>rw[e1]at e;cases e
 | some p=>
  obtain⟨ds,ρ1⟩:=p;rw[e1]at e;dsimp only at e;split at e
  ·rename_i hl;cases e;refine h Z σ H R ρ ds _ _ S e1 λvs H1 R1 S1 st1 r1=>⟨by rw[r1.length];exact hl,k H1 R1 S1 st1.r _ hx⟩
  ·cases e
theorem qcb{a:Addr}:MS c O O' (qec a E tr) (λ_=>none):=λ_ _ _ _ _ _ _ _ _ e=>by cases e
def xIf(ft:RhB)(xt fx hx:Xr):Xr:=λρ=>match xt ρ with
 |some r=>some r
 | none=>match ft ρ with
  |some (true,ρ1)=>fx ρ1
  |some (false,ρ1)=>hx ρ1
  |none=>none
theorem qbj{ρ:Rho}{r:Str×Rho}(e:xIf ft xt fx hx ρ=some r):xt ρ=some r∨(∃ρ1,ft ρ=some (true,ρ1)/\fx ρ1=some r)∨∃ρ1,ft ρ=some (false,ρ1)/\hx ρ1=some r:=by
 unfold xIf at e;cases e1:xt ρ with
 |some q=>rw[e1]at e;cases e;exact .inl rfl
 | none=>
  rw[e1]at e;cases e2:ft ρ with
  |none=>rw[e2]at e;cases e
  | some p=>
   obtain⟨b,ρ1⟩:=p;rw[e2]at e;cases b with
   |true=>exact .inr (.inl ⟨ρ1,rfl,e⟩)
   |false=>exact .inr (.inr ⟨ρ1,rfl,e⟩)
theorem qn1(ht:MT c.K O tt ft)(kt:MTX c.K O tt E xt)(k1:MSXa c O t E fx)(k2:MSXa c O u E hx):MSXa c O (tIfS tt t u) E (xIf ft xt fx hx):=λZ D σ H R ρ C ρ' hP S e k=>by
 rcases qbj e with e|⟨ρ1,e1,e2⟩|⟨ρ1,e1,e2⟩
 ·exact kt Z σ H R ρ C ρ' _ S e λH' R' S' st=>k H' R' S' st.r
 ·exact ht Z σ H R ρ true ρ1 _ S e1 λH1 R1 S1 st1=>iteT (k1 Z D σ H1 R1 ρ1 C ρ' hP S1 e2 λH2 R2 S2 s2=>k H2 R2 S2 (st1.r.trans s2))
 ·exact ht Z σ H R ρ false ρ1 _ S e1 λH1 R1 S1 st1=>iteF (k2 Z D σ H1 R1 ρ1 C ρ' hP S1 e2 λH2 R2 S2 s2=>k H2 R2 S2 (st1.r.trans s2))
theorem ql8(ht:MT c.K O tt ft)(kt:MTX c.K O tt E xt)(k1:MSX c O t E fx)(k2:MSX c O u E hx):MSX c O (tIfS tt t u) E (xIf ft xt fx hx):=λZ D σ H R ρ C ρ' hP S e k=>by
 rcases qbj e with e|⟨ρ1,e1,e2⟩|⟨ρ1,e1,e2⟩
 ·exact kt Z σ H R ρ C ρ' _ S e λH' R' S' st=>k O σ H' R' S'
 ·exact ht Z σ H R ρ true ρ1 _ S e1 λH1 R1 S1 st1=>iteT (k1 Z D σ H1 R1 ρ1 C ρ' hP S1 e2 k)
 ·exact ht Z σ H R ρ false ρ1 _ S e1 λH1 R1 S1 st1=>iteF (k2 Z D σ H1 R1 ρ1 C ρ' hP S1 e2 k)
def xSeq(f:RhO)(fx hx:Xr):Xr:=λρ=>match fx ρ with
 |some r=>some r
 | none=>match f ρ with
  |some (.nx ρ1)=>hx ρ1
  |_=>none
theorem q4c(h1:MS c O O1 t f)(k1:MSX c O t E fx)(k2:MSX c O1 u E hx):MSX c O (tSeq t u) E (xSeq f fx hx):=λZ D σ H R ρ C ρ' hP S e k=>by
 unfold xSeq at e;cases e1:fx ρ with
 |some q=>rw[e1]at e;cases e;exact k1 Z _ σ H R ρ C ρ' hP S e1 k
 | none=>
  rw[e1]at e;cases e2:f ρ with
  |none=>rw[e2]at e;cases e
  | some o=>
   rw[e2]at e;cases o with
   |nx ρ1=>exact h1 Z _ σ H R ρ _ hP S e2 λσ1 H1 R1 S1 _=>k2 Z D σ1 H1 R1 ρ1 C ρ' hP S1 e k
   |_=>cases e
end
def qme(i:Nat):Out->Out
 |.nx ρ=>.nx (ρ.set i none)
 |.bk ρ=>.bk (ρ.set i none)
 |.ct ρ=>.ct (ρ.set i none)
 |.rt d ρ=>.rt d (ρ.set i none)
def qvc(i:Nat)(sub:Str->Bool)(fb:RhO)(xb:Xr)(fh:RhO):RhO:=λρ=>match xb ρ with
 |some (C,ρ1)=>if sub C=true then(fh (ρ1.set i (some (.exc C)))).map (qme i)else none
 |none=>fb ρ
def sTry(sub:Str->Bool)(fb:RhO)(xb:Xr)(fh:RhO):RhO:=λρ=>match xb ρ with
 |some (C,ρ1)=>if sub C=true then fh ρ1 else none
 |none=>fb ρ
def KitM(K:FrG)(c:Value)(sub:Str->Bool):Prop:=∀C v,PySem.W.nsIn K mainGlobals C=some (some v)->sub C=true->PySem.W.exmOne K v c=some true/\∃a,v=.ref a/\ExcK K a
section
variable{c:MC}{O O':List Nat}{cv:Value}{i:Nat}{sub:Str->Bool}{tb:XK->TS}{ts:TS}{fb fh:RhO}{xb:Xr}
theorem qrt(km:KitM c.K cv sub)(hb:∀E,MS c O O' (tb E) fb)(kb:∀E,MSXa c O (tb E) E xb)(hs:MS c O O' ts fh):
 MS c O O' (tTry c.K cv tb ts) (sTry sub fb xb fh):=λZ D σ H R ρ o hP S e k=>by
 unfold sTry at e;cases e1:xb ρ with
 |none=>rw[e1]at e;exact hb _ Z D σ H R ρ o hP S e k
 | some p=>
  obtain⟨C,ρ1⟩:=p;rw[e1]at e;dsimp only at e;split at e
  ·rename_i hsub;refine kb _ Z D σ H R ρ C ρ1 hP S e1 λH' R' S' s' v hv=>?_;obtain⟨q1,_⟩:=km C v hv hsub;refine⟨q1,hs Z D _ _ _ _ o hP S' e ?_⟩;cases o with
   |nx ρ2=>exact λσ3 H3 R3 S3 s3=>k _ H3 R3 S3 (s'.trans s3)
   |bk ρ2=>exact λσ3 H3 R3 S3 s3=>k _ H3 R3 S3 (s'.trans s3)
   |ct ρ2=>exact λσ3 H3 R3 S3 s3=>k _ H3 R3 S3 (s'.trans s3)
   |rt d ρ2=>exact k
  ·cases e
end
def runX(n N:Nat)(fx:Xr)(ds:List D):Option Str:=if ds.length=n then(fx (ds.map some++List.replicate (N-n) none)).map (·.1)else none
theorem q70{n N:Nat}{fx:Xr}:q8m n (runX n N fx):=λds C e=>by
 unfold runX at e;split at e
 ·assumption
 ·cases e
theorem q3i{K:FrG}{fr:Bool}{n:Nat}{Nms:List Str}{O':List Nat}{t:TS}{f:RhO}{fx:Xr}{vs:List V}{H:Hp}{Q:VK}{E:XK}(hm:MS ⟨K,fr,[],[]⟩ [] O' t f)(hx:MSX ⟨K,fr,[],[]⟩ [] t E fx)
 (h:spPX K fr n (runP fr n Nms.length f) (runX n Nms.length fx) vs H Q E):t {nx:=λ_ H'=>Q .non H',rt:=Q} (start Nms vs) H:=by
 rcases h with h|⟨hn,R,ds,C,sub,r,e,k⟩
 ·exact q0x hm h
 ·unfold runX at e;split at e
  ·rename_i hl;have S:StR K ⟨H,R,λ_=>False,[]⟩ [] (start Nms vs) H R (ds.map some++List.replicate (Nms.length-n) none):=by
    refine⟨sub,?_,λi d _ q=>?_,λi hi=>absurd hi (by simp),λi j hi=>absurd hi (by simp),λa o q _=>q,Same.refl _,λa q=>.inl q,λa q=>.refl q,λi hi=>absurd hi (by simp),λi hi=>absurd hi (by simp)⟩
    ·unfold start;rw[jl,jl,j9,j9,jo,jo,hn,hl]
    ·obtain⟨v,h1,h2⟩:=r.get (q4j q);exact⟨v,q4i h1,h2⟩
   cases e1:fx (ds.map some++List.replicate (Nms.length-n) none)with
   |none=>rw[e1]at e;cases e
   | some p=>
    obtain⟨C1,ρ1⟩:=p;rw[e1]at e;cases e;exact hx _ _ _ _ _ _ _ ρ1 rfl S e1 λO2 σ' H' R' S'=>k H' R' ⟨λa o q=>S'.ah a o q (λz=>z),S'.ar,S'.sub,S'.an⟩
  ·cases e
theorem qb3{X:Cx}{P:Program}{w:World}:q6i (CX1 P w) X E0:=λ_ _ _ _ _ _ _ h=>by obtain⟨_,_,_,_,_,z⟩:=h;exact z.elim
section
variable{K:FrG}{O:List Nat}{tr:TA}{fs:RhL}{E:XK}{n:Nat}
theorem q8w{f:List D->Option D}{fx:List D->Option Str}(hf:q1t n f)(h:MA K O tr fs):MN K O (q6j (spPX K true n f fx) [] E tr) (q25 f fs):=λZ σ H R ρ ds ρ' Q S e k=>by obtain⟨as,ρ1,e1,e⟩:=q0a e;obtain⟨e2,rfl⟩:=q0k e;have e3:=q83 e2;refine h Z σ H R ρ as _ _ S e1 λvs H1 R1 S1 st1 r1=>?_;show spPX K true n f fx (vs++[]) H1 Q E;rw[List.append_nil];refine .inl ⟨by rw[r1.length];exact hf as _ e3,R1,as,_,S1.sub,r1,e3,λv H2 R2 x q=>?_⟩;obtain⟨l,us,gs,rfl,e4,h0,hH,hR,r⟩:=q;cases e4;exact k l us H2 R2 (S1.ext x) (st1.trans x.stp) (st1.new h0) hH hR r
end
section
variable{K:FrG}
theorem qsn{t:Value}{d:Addr}{b:Bool}(h0:PySem.W.subIn K (.ref d) (.type "BaseException")=some true)(h1:PySem.W.isClsIn K d=true)(h2:PySem.W.typeIn K (.ref d)=some (.type "type"))(h3:PySem.W.subIn K t (.ref d)=some b):PySem.W.exmOne K t (.ref d)=some b:=by
 unfold PySem.W.exmOne;rw[h0,if_pos (beq_self_eq_true _)];unfold PySem.W.kitCls;have e:((PySem.W.clsIn K d).isSome&&PySem.W.typeIn K (.ref d)==some (.type "type"))=true:=by rw[h2,beq_self_eq_true,Bool.and_true];exact h1
 dsimp only;rw[if_pos e];exact h3
theorem qna{c:Value}{tab:List Str}(h:∀x∈tab,∃a,PySem.W.nsIn K mainGlobals x=some (some (.ref a))/\PySem.W.exmOne K (.ref a) c=some true/\ExcK K a):KitM K c (λx=>tab.contains x):=λC v e q=>by obtain⟨a,e2,k,x⟩:=h C (by simpa using q);rw[e]at e2;cases e2;exact⟨k,a,rfl,x⟩
end
theorem PS.nox{X:Cx}{st:Stmt}{t:TS}(h:PS X.nox st t):PS X st t:=λz9 s σ H D I hw=>
 xg (h z9 s σ H D (I.wish _) hw) (λ_ _ q=>q.unwish) λ_ _ z=>False.elim z
theorem PS.or{X:Cx}{st:Stmt}{t u:TS}(h1:PS X st t)(h2:PS X st u):PS X st (λD σ H=>t D σ H∨u D σ H):=λz9 s σ H D I h=>by
 rcases h with h|h
 ·exact h1 z9 s σ H D I h
 ·exact h2 z9 s σ H D I h
def qp8(wi:TI):TS:=λ_ σ H=>wi σ H λ_ _=>False
theorem qfp{X:Cx}{tg ze:Expr}{body:List Stmt}{wi:TI}{pos:Pos}(hi:PI X tg ze wi)(hs:∀x,foldedSetIterable ze X.env x=pure x:=by intro _;rfl):PS X (.For tg ze body [] pos) (qp8 wi):=by intro z9 s σ H D I h;refine wpAny_For (thn (hi z9 s σ H _ I h) λv s1 h1=>thn h1 λitv s2 h2=>?_) hs;obtain⟨_,_,_,_,_,_,_,_,_,_,z⟩:=h2;exact z.elim
theorem qcc{c:MC}{O O':List Nat}{t u:TS}{f:RhO}(h:MS c O O' t f):MS c O O' (λD σ H=>t D σ H∨u D σ H) f:=λZ E σ H R ρ o hP S e k=>.inl (h Z E σ H R ρ o hP S e k)
theorem qc8{c:MC}{O:List Nat}{t:TS}{wi:TI}{E:XK}{xi:Xr}(h:MIX c.K O wi E xi):MSX c O (λD σ H=>t D σ H∨qp8 wi D σ H) E xi:=λZ D σ H R ρ C ρ' hP S e k=>.inr (h Z σ H R ρ C ρ' _ S e λH' R' S' _=>k O σ H' R' S')
theorem qgb{K:FrG}{O:List Nat}{tl:TE}{E:XK}{xa:Xr}(h:MX K O tl E xa):MIX K O (iSeq K tl) E xa:=λZ σ H R ρ C ρ' Q S e k=>.inl (h Z σ H R ρ C ρ' _ S e k)
theorem qiy{K:FrG}{O:List Nat}{ta:TA}{E:XK}{xs:Xr}(h:MAX K O ta E xs):MIX K O (qja ta) E xs:=λZ σ H R ρ C ρ' Q S e k=>h Z σ H R ρ C ρ' _ S e k
section
variable(K:FrG)(O:List Nat)
end
section
variable{K:FrG}{O:List Nat}{ta:TE}{tr:TA}{fa:RhD}{fs:RhL}{E:XK}{n:Nat}
end
theorem qci{α:Type}{o:Option (α×Rho)}{x:α}(h:o.map (·.1)=some x):∃ρ,o=some (x,ρ):=by
 cases o with
 |none=>cases h
 |some p=>cases h;exact⟨p.2,rfl⟩
theorem q5y{n:Nat}{js:List Nat}{fg:RhG}{fe:RhD}{ρ:Rho}(g:D->D):∀(xs:List D),(∀x∈xs,∃ρ1,fg x (q5k n js ρ)=some ρ1/\(fe ρ1).map (·.1)=some (g x))->q14 n js none fg (mRet true) fe xs ρ=some (xs.map g,ρ)
 |[],_=>rfl
 | x::xs,h=>by obtain⟨ρ1,h1,h2⟩:=h x jk;obtain⟨ρ2,h2⟩:=qci h2;have ih:=q5y (n:=n) (js:=js) (fg:=fg) (fe:=fe) (ρ:=ρ) g xs λy hy=>h y (jj _ hy);simp only[q14,h1,mRet,h2,q56];rw[ih];rfl
theorem q43{n:Nat}{js:List Nat}{fg:RhG}{ft:RhB}{fe:RhD}{ρ:Rho}(p:D->Bool)(g:D->D):∀(xs:List D),(∀x∈xs,∃ρ1,fg x (q5k n js ρ)=some ρ1/\ft ρ1=some (p x,ρ1)/\(p x=true->(fe ρ1).map (·.1)=some (g x)))->q14 n js none fg ft fe xs ρ=some ((xs.filter p).map g,ρ)
 |[],_=>rfl
 | x::xs,h=>by
  obtain⟨ρ1,h1,h2,h3⟩:=h x jk;have ih:=q43 (n:=n) (js:=js) (fg:=fg) (ft:=ft) (fe:=fe) (ρ:=ρ) p g xs λy hy=>h y (jj _ hy);cases hp:p x with
  | false=>
   rw[hp]at h2;simp only[q14,h1,h2,q56];rw[ih,List.filter_cons_of_neg (by rw[hp];exact Bool.false_ne_true)]
  | true=>
   rw[hp]at h2;obtain⟨ρ3,h4⟩:=qci (h3 hp);simp only[q14,h1,h2,h4,q56];rw[ih,List.filter_cons_of_pos hp];rfl
theorem q6u{n p q:Nat}{js:List Nat}{fg:RhG}{fe:RhD}{S:Type}(ρ:S->Rho)(G:D->Prop):∀(xs:List D),(∀x∈xs,∀s,∃ρ1 ρ2 y s',fg x (q5k n js (ρ s))=some ρ1/\fe ρ1=some (y,ρ2)/\q56 (some (p,q)) (ρ s) ρ2=ρ s'/\G y)->∀s,∃ys s',q14 n js (some (p,q)) fg (mRet true) fe xs (ρ s)=some (ys,ρ s')/\ys.length=xs.length/\∀y∈ys,G y
 |[],_,s=>⟨[],s,rfl,rfl,λ_ h=>nomatch h⟩
 | x::xs,h,s=>by
  obtain⟨ρ1,ρ2,y,s1,h1,h2,h3,h4⟩:=h x jk s;obtain⟨ys,s2,g1,g2,g3⟩:=q6u ρ G xs (λy hy=>h y (jj _ hy)) s1;refine⟨y::ys,s2,?_,by rw[ju,ju,g2],λz hz=>?_⟩
  ·simp only[q14,h1,mRet,h2,h3];rw[g1]
  ·rcases List.mem_cons.mp hz with rfl|hz
   ·exact h4
   ·exact g3 z hz
theorem q2x{fg:RhG}{fb:RhO}(I:Nat->Rho->Prop):∀(xs:List D) (k:Nat) (ρ:Rho),I k ρ->(∀i x ρ,xs[i]? =some x->I (k+i) ρ->∃ρ1 ρ2,fg x ρ=some ρ1/\(fb ρ1=some (.nx ρ2)∨fb ρ1=some (.ct ρ2))/\I (k+i+1) ρ2)->∃ρ',q1q fg fb xs ρ=some (.nx ρ')/\I (k+xs.length) ρ'
 |[],k,ρ,h0,_=>⟨ρ,rfl,h0⟩
 | x::xs,k,ρ,h0,hs=>by
  obtain⟨ρ1,ρ2,h1,h2,h3⟩:=hs 0 x ρ rfl h0;obtain⟨ρ',g1,g2⟩:=q2x I xs (k+1) ρ2 h3 λi y ρ e hi=>by
   have e1:k+1+i=k+(i+1):=by omega
   rw[e1]at hi ⊢;exact hs (i+1) y ρ (by simpa using e) hi
  refine ⟨ρ', ?_, by rw[ju];have e1:k+(xs.length+1)=k+1+xs.length:=by omega
                     rw[e1];exact g2⟩
  simp only[q1q,h1];rcases h2 with h2|h2
  ·rw[h2];exact g1
  ·rw[h2];exact g1
theorem qnj{fg:RhG}{fb:RhO}(I:Rho->Prop):∀(xs:List D) (ρ:Rho),I ρ->(∀x ρ,x∈xs->I ρ->∃ρ1 ρ2,fg x ρ=some ρ1/\(fb ρ1=some (.nx ρ2)∨fb ρ1=some (.ct ρ2))/\I ρ2)->∃ρ',q1q fg fb xs ρ=some (.nx ρ')/\I ρ':=λxs ρ h0 hs=>by obtain⟨ρ',h1,h2⟩:=q2x (fg:=fg) (fb:=fb) (λ_=>I) xs 0 ρ h0 λi x ρ e hi=>hs x ρ (xm e) hi;exact⟨ρ',h1,h2⟩
theorem at0{α:Type}(x:α)(xs:List α):atI (x::xs) 0=some x:=by unfold atI ixN;simp
theorem at1{α:Type}(x y:α)(xs:List α):atI (x::y::xs) 1=some y:=q5l (j:=1) rfl
theorem at2{α:Type}(x y z:α)(xs:List α):atI (x::y::z::xs) 2=some z:=q5l (j:=2) rfl
theorem at3{α:Type}(x y z u:α)(xs:List α):atI (x::y::z::u::xs) 3=some u:=q5l (j:=3) rfl
theorem q8d{α:Type}{xs:List α}{i:Int}(h0:0<=i)(h:i<xs.length):atI xs i=xs[i.toNat]? :=by unfold atI ixN;rw[if_pos h0,if_pos h];rfl
theorem q1h{n:Nat}(h:n<=1000000):n<=sizeLine:=x9 h (by decide)
theorem q1j(lo:Int)(n:Nat):(q1k lo n).length=n:=by simp[q1k]
theorem q24{lo:Int}{n i:Nat}{d:D}(h:(q1k lo n)[i]? =some d):i<n/\d=.int (lo+(i:Int)):=by
 have hi:i<n:=by
  have:=(List.getElem?_eq_some_iff.mp h).1
  rwa [q1j]at this
 refine⟨hi,?_⟩;unfold q1k at h;rw[je,xp hi]at h;exact(jd h).symm
def nx(s:Int):Int:=(s*1181783497276652981+12345678910987) % (2^61-1)
theorem qo7(i j:Int):eqD (.int i) (.int j)=some (i==j):=by simp[eqD,D.toP,SeqAt.shaped,PyData.canLay0,PyData.depth,PyData.eqv]
theorem q3m{i j:Str}(hi:PyData.strOk i=true)(hj:PyData.strOk j=true):eqD (.str i) (.str j)=some (i==j):=by simp[eqD,D.toP,SeqAt.shaped,PyData.canLay0,PyData.depth,PyData.eqv,hi,hj]
theorem q9f:∀xs:List Int,D.toPs (xs.map D.int)=some (xs.map PyData.int)
 |[]=>by simp[D.toPs]
 |x::xs=>by simp[D.toPs,D.toP,q9f xs]
theorem q7j:∀xs ys:List Int,PyData.eqvAll (xs.map PyData.int) (ys.map PyData.int)=decide (xs=ys)
 |[],[]=>by simp[PyData.eqvAll]
 |[],y::ys=>by simp[PyData.eqvAll]
 |x::xs,[]=>by simp[PyData.eqvAll]
 | x::xs,y::ys=>by
  simp only[List.map_cons,PyData.eqvAll,PyData.eqv,q7j xs ys,List.cons.injEq];by_cases h:x=y
  ·subst h;simp
  ·have:(x==y)=false:=beq_eq_false_iff_ne.mpr h;rw[this];simp[h]
theorem qco(xs ys:List Int):eqD (.lst (xs.map D.int)) (.lst (ys.map D.int))=some (decide (xs=ys)):=by have h1:SeqAt.shaped (.list (xs.map PyData.int))=true:=q6y xs;have h2:SeqAt.shaped (.list (ys.map PyData.int))=true:=q6y ys;simp only[eqD,D.toP,q9f,Option.map_some];rw[if_pos ⟨h1,h2⟩];simp only[PyData.eqv,q7j]
section
variable{α β:Type}{a:Rho->Option (α×Rho)}{k:α->Rho->Option (β×Rho)}{ρ:Rho}{fa fb fc:RhD}{ga gb:RhB}{fs:RhL}{g g':D->D->Option D}{g1:D->Option D}{gl:D->Option (List D)}{g2:D->D->Option (List D)}{fl fh:Rho->Option (Option Int×Rho)}
theorem q0z:q1r a k ρ=(a ρ).bind λp=>k p.1 p.2:=by unfold q1r;cases a ρ<;>rfl
theorem qlj{x:α}:mRet x ρ=some (x,ρ):=rfl
theorem q1u{o:Option α}:q2q o ρ=o.map λx=>(x,ρ):=by cases o<;>rfl
theorem qh6{i:Nat}:mVar i ρ=(ρ[i]?).join.map λd=>(d,ρ):=by
 unfold mVar;cases h:ρ[i]? with
 |none=>rfl
 |some o=>cases o<;>rfl
theorem qll:mOp2 g fa fb ρ=(fa ρ).bind λp=>(fb p.2).bind λq=>(g p.1 q.1).map λx=>(x,q.2):=by unfold mOp2;rw[q0z];congr 1;funext p;rw[q0z];congr 1;funext q;rw[q1u]
theorem qsu:mOp1 g1 fa ρ=(fa ρ).bind λp=>(g1 p.1).map λx=>(x,p.2):=by unfold mOp1;rw[q0z];congr 1;funext p;rw[q1u]
theorem qnw:qgh gl fa ρ=(fa ρ).bind λp=>(gl p.1).map λx=>(x,p.2):=by unfold qgh;rw[q0z];congr 1;funext p;rw[q1u]
theorem qnv:q9y g2 fa fb ρ=(fa ρ).bind λp=>(fb p.2).bind λq=>(g2 p.1 q.1).map λx=>(x,q.2):=by unfold q9y;rw[q0z];congr 1;funext p;rw[q0z];congr 1;funext q;rw[q1u]
def ixO:D->D->Option D
 |.lst xs,.int j=>atI xs j
 |_,_=>none
theorem qsy{i:Nat}:mIxO i fb ρ=(fb ρ).bind λq=>((q.2[i]?).join).bind λx=>(ixO x q.1).map λz=>(z,q.2):=by
 unfold mIxO;rw[q0z];congr 1;funext q;rw[q0z,qh6];cases(q.2[i]?).join with
 |none=>rfl
 |some x=>show q2q _ _=_;rw[q1u];first|rfl|(cases x<;>(cases q.1<;>rfl))
def blO:D->Option Bool
 |.bl b=>some b
 |_=>none
theorem qbe:q0b fa ρ=(fa ρ).bind λp=>(blO p.1).map λx=>(x,p.2):=by
 unfold q0b;rw[q0z];congr 1;funext p;rw[q1u]
 first|rfl|(cases p.1<;>rfl)
theorem qsv:mNot ga ρ=(ga ρ).map λp=>(!p.1,p.2):=by unfold mNot;rw[q0z];cases ga ρ<;>rfl
theorem qt0:mAnd ga gb ρ=(ga ρ).bind λp=>if p.1=true then gb p.2 else some (false,p.2):=by unfold mAnd;rw[q0z];congr 1;funext p;split<;>rfl
theorem qv2:mOr ga gb ρ=(ga ρ).bind λp=>if p.1=true then some (true,p.2)else gb p.2:=by unfold mOr;rw[q0z];congr 1;funext p;split<;>rfl
theorem qo6:qbb fa fb ρ=(q0b fa ρ).bind λp=>if p.1=true then fb p.2 else some (.bl false,p.2):=by unfold qbb;rw[q0z];congr 1;funext p;split<;>rfl
theorem qnx:qj2 fa ρ=(q0b fa ρ).map λp=>(.bl (!p.1),p.2):=by unfold qj2;rw[q0z];cases q0b fa ρ<;>rfl
theorem qv4:mIf ga fa fb ρ=(ga ρ).bind λp=>if p.1=true then fa p.2 else fb p.2:=by unfold mIf;rw[q0z];congr 1;funext p;split<;>rfl
theorem qsw:mNil ρ=some ([],ρ):=rfl
theorem qo3:q00 fa fs ρ=(fa ρ).bind λp=>(fs p.2).map λq=>(p.1::q.1,q.2):=by unfold q00;rw[q0z];congr 1;funext p;rw[q0z];cases fs p.2<;>rfl
theorem qsp:mTup fs ρ=(fs ρ).bind λp=>if p.1.length<=sizeLine then some (.tup p.1,p.2)else none:=by unfold mTup;rw[q0z];congr 1;funext p;rw[q1u];split<;>rfl
theorem qsx:mLst fs ρ=(fs ρ).bind λp=>if p.1.length<=sizeLine then some (p.1,p.2)else none:=by unfold mLst;rw[q0z];congr 1;funext p;rw[q1u];split<;>rfl
theorem qv3:mOf fs ρ=(fs ρ).map λp=>(.lst p.1,p.2):=by unfold mOf;rw[q0z];cases fs ρ<;>rfl
theorem qo5{f:List D->Option D}:q0i f fs ρ=(fs ρ).bind λp=>(f p.1).map λx=>(x,p.2):=by unfold q0i;rw[q0z];congr 1;funext p;rw[q1u]
theorem qjp{f:List D->Option D}:q25 f fs ρ=(fs ρ).bind λp=>(qgk (f p.1)).map λx=>(x,p.2):=by unfold q25;rw[q0z];congr 1;funext p;rw[q1u]
def lsO:D->Option (List D)
 |.lst xs=>some xs
 |_=>none
theorem qjo{f:List D->List D->Option (D×List D)}{i:Nat}:q1w f i fs ρ=(fs ρ).bind λp=>((p.2[i]?).join.bind lsO).bind λxs=>(f xs p.1).map λr=>(r.1,p.2.set i (some (.lst r.2))):=by
 unfold q1w;rw[q0z];congr 1;funext p;cases h:p.2[i]? with
 |none=>rfl
 | some o=>
  cases o with
  |none=>rfl
  | some d=>
   cases d with
   | lst xs=>
    show(match f xs p.1 with|some (d,ys)=>some (d,p.2.set i (some (.lst ys)))|none=>none)=_;show _=(f xs p.1).map _;cases f xs p.1<;>rfl
   |_=>rfl
theorem qo4{n:Nat}{js:List Nat}{bw:Option (Nat×Nat)}{fg:RhG}:q20 n js bw fs fg ga fa ρ=(fs ρ).bind λp=>if p.1.length<=sizeLine then q14 n js bw fg ga fa p.1 p.2 else none:=by unfold q20;rw[q0z]
theorem qsr:mSeq fa ρ=(fa ρ).bind λp=>(dSeq p.1).map λx=>(x,p.2):=by unfold mSeq;rw[q0z];congr 1;funext p;rw[q1u];cases p.1<;>rfl
def rng1:List D->Option (List D)
 |[.int j]=>if big j=true then some (q1k 0 j.toNat)else none
 |_=>none
theorem qh7:q3c fs ρ=(fs ρ).bind λp=>(rng1 p.1).map λx=>(x,p.2):=by unfold q3c;rw[q0z];congr 1;funext p;rw[q1u];rfl
def zip2:List D->Option (List D)
 | [x,y]=>match dSeq x,dSeq y with
  |some xs,some ys=>some (zipD xs ys)
  |_,_=>none
 |_=>none
theorem qso:mZip fs ρ=(fs ρ).bind λp=>(zip2 p.1).map λx=>(x,p.2):=by unfold mZip;rw[q0z];congr 1;funext p;rw[q1u];rfl
def inO:D->Option (Option Int)
 |.int i=>some (some i)
 |_=>none
theorem qnu:q22 fa ρ=(fa ρ).bind λp=>(inO p.1).map λx=>(x,p.2):=by unfold q22;rw[q0z];congr 1;funext p;rw[q1u];cases p.1<;>rfl
theorem qv1:mSl fa fl fh ρ=(fa ρ).bind λp=>(fl p.2).bind λq=>(fh q.2).bind λr=>(dSl p.1 q.1 r.1).map λx=>(x,r.2):=by unfold mSl;rw[q0z];congr 1;funext p;rw[q0z];congr 1;funext q;rw[q0z];congr 1;funext r;rw[q1u]
theorem qjn:q82 g g' fa fb fc ρ=(fa ρ).bind λp=>(fb p.2).bind λq=>((g p.1 q.1).bind blO).bind λb=>if b=true then(fc q.2).bind λr=>(g' q.1 r.1).map λx=>(x,r.2)else some (.bl false,q.2):=by
 unfold q82;rw[q0z];congr 1;funext p;rw[q0z];congr 1;funext q;rw[q0z,qbe,q1u];cases g p.1 q.1 with
 |none=>rfl
 | some d=>
  cases d with
  | bl b=>
   cases b with
   | true=>
    show q1r fc (λz=>q2q (g' q.1 z)) q.2=_;rw[q0z];show _=(fc q.2).bind _;congr 1;funext r;rw[q1u]
   |false=>rfl
  |_=>rfl
theorem qbf{f h:RhO}:sSeq f h ρ=(f ρ).bind λo=>match o with
 |.nx ρ1=>h ρ1
 |o=>some o:=by
 unfold sSeq;cases f ρ with
 |none=>rfl
 |some o=>cases o<;>rfl
theorem qnm{i:Nat}:sSet i fa ρ=(fa ρ).map λp=>.nx (p.2.set i (some p.1)):=by unfold sSet;cases fa ρ<;>rfl
theorem qno{i:Nat}:sOwn i fs ρ=(fs ρ).bind λp=>if i<p.2.length then some (.nx (p.2.set i (some (.lst p.1))))else none:=by unfold sOwn;cases fs ρ<;>rfl
theorem qnt{fg:RhG}:sAsg fa fg ρ=(fa ρ).bind λp=>(fg p.1 p.2).map .nx:=by
 unfold sAsg;cases fa ρ with
 |none=>rfl
 | some p=>
  obtain⟨d,ρ1⟩:=p;show(match fg d ρ1 with|none=>none|some ρ2=>some (Out.nx ρ2))=(fg d ρ1).map _;cases fg d ρ1<;>rfl
theorem qsq{f h:RhO}:sIf ga f h ρ=(ga ρ).bind λp=>if p.1=true then f p.2 else h p.2:=by unfold sIf;cases ga ρ<;>rfl
theorem qnn:sRet fa ρ=(fa ρ).map λp=>.rt p.1 p.2:=by unfold sRet;cases fa ρ<;>rfl
theorem qjl:qfc fs ρ=(fs ρ).map λp=>.rt (.lst p.1) p.2:=by unfold qfc;cases fs ρ<;>rfl
theorem qjk{i:Nat}:q5b i ρ=((ρ[i]?).join.bind lsO).map λd=>.rt (.lst d) (ρ.set i none):=by
 unfold q5b;cases h:ρ[i]? with
 |none=>rfl
 | some o=>
  cases o with
  |none=>rfl
  |some d=>cases d<;>rfl
theorem qch{α:Type}(i:Nat)(x:Option α):(if isL ρ i=true then x else none)=((ρ[i]?).join.bind lsO).bind λ_=>x:=by
 unfold isL;cases h:ρ[i]? with
 |none=>rfl
 | some o=>
  cases o with
  |none=>rfl
  |some d=>cases d<;>rfl
theorem qnp:sNil ρ=some (.nx ρ):=rfl
theorem qss:sBk ρ=some (.bk ρ):=rfl
theorem qjm:q6z fa ρ=(fa ρ).map λp=>.nx p.2:=by unfold q6z;cases fa ρ<;>rfl
theorem qnq{gm:List D->List D->Option (List D)}{i:Nat}:sMut gm i fs ρ=((ρ[i]?).join.bind lsO).bind λ_=>(fs ρ).bind λp=>((p.2[i]?).join.bind lsO).bind λxs=>(gm xs p.1).map λys=>.nx (p.2.set i (some (.lst ys))):=by
 refine Eq.trans ?_ (qch _ _);unfold sMut;congr 1;cases fs ρ with
 |none=>rfl
 | some p=>
  show(match p.2[i]? with|some (some (.lst xs))=>_|_=>none)=_;show _=((p.2[i]?).join.bind lsO).bind _;cases h:p.2[i]? with
  |none=>rfl
  | some o=>
   cases o with
   |none=>rfl
   | some d=>
    cases d with
    | lst xs=>
     show(match gm xs p.1 with|some ys=>some (Out.nx _)|none=>none)=(gm xs p.1).map _;cases gm xs p.1<;>rfl
    |_=>rfl
theorem qns{i:Nat}:sExt i fs ρ=((ρ[i]?).join.bind lsO).bind λ_=>(fs ρ).bind λp=>((p.2[i]?).join.bind lsO).bind λxs=>if xs.length+p.1.length<=sizeLine then some (.nx (p.2.set i (some (.lst (xs++p.1)))))else none:=by
 refine Eq.trans ?_ (qch _ _);unfold sExt;congr 1;cases fs ρ with
 |none=>rfl
 | some p=>
  show(match p.2[i]? with|some (some (.lst xs))=>_|_=>none)=_;show _=((p.2[i]?).join.bind lsO).bind _;cases h:p.2[i]? with
  |none=>rfl
  | some o=>
   cases o with
   |none=>rfl
   |some d=>cases d<;>rfl
def setI(x d k:D):Option D:=match x,k with
 |.lst xs,.int j=>(ixN xs.length j).map λm=>.lst (xs.set m d)
 |_,_=>none
theorem q6t{i:Nat}:q48 i fa fb ρ=(fa ρ).bind λp=>(fb p.2).bind λq=>((q.2[i]?).join).bind λx=>(setI x p.1 q.1).map λy=>.nx (q.2.set i (some y)):=by
 unfold q48;cases fa ρ with
 |none=>rfl
 | some p=>
  show(match fb p.2 with|some (.int k,ρ2)=>_|_=>none)=(fb p.2).bind _;cases fb p.2 with
  |none=>rfl
  | some q=>
   obtain⟨y,ρ2⟩:=q;cases y with
   | int j=>
    show(match ρ2[i]? with|some (some (.lst xs))=>_|_=>none)=((ρ2[i]?).join).bind _;cases h:ρ2[i]? with
    |none=>rfl
    | some o=>
     cases o with
     |none=>rfl
     | some d=>
           cases d with
           | lst xs=>
            show(match ixN xs.length j with|some m=>some (Out.nx _)|none=>none)=((ixN xs.length j).map _).map _;cases ixN xs.length j<;>rfl
           |_=>rfl
   | _=>
    show none=((ρ2[i]?).join).bind _;cases h:(ρ2[i]?).join with
    |none=>rfl
    |some x=>cases x<;>rfl
theorem qnr{fg:RhG}{f:RhO}:sFor fs fg f ρ=(fs ρ).bind λp=>q1q fg f p.1 p.2:=by unfold sFor;cases fs ρ<;>rfl
theorem qo1{i:Nat}{d:D}:gSet i d ρ=some (ρ.set i (some d)):=rfl
end
theorem qn9{n:Nat}(h:n<=1000000):(n<=sizeLine)=True:=eq_true (q1h h)
theorem q8l{n d:Nat}{k:Int}(h:0<=k):HT.sIx n d (some k)=min k.toNat n:=by show(if k<0 then(k+(n:Int)).toNat else min k.toNat n)=_;rw[if_neg (by omega)]
theorem qoa(xs:List D){k:Int}(h:0<=k):cutD xs none (some k)=xs.take k.toNat:=by unfold cutD;rw[q8l h,HT.sIx_none,List.drop_zero,Nat.sub_zero];exact List.take_eq_take_min.symm
theorem qha(xs:List D){k:Int}(h:0<=k):cutD xs (some k) none=xs.drop k.toNat:=by
 unfold cutD;rw[q8l h,HT.sIx_none];by_cases hk:k.toNat<=xs.length
 ·rw[Nat.min_eq_left hk];exact List.take_of_length_le (by rw[k6];exact jg _)
 ·rw[Nat.min_eq_right (by omega),List.drop_eq_nil_of_le (jg _),List.drop_eq_nil_of_le (by omega)];simp
theorem q96{xs:List D}{k:Int}(h0:0<=k):dSl (.lst xs) none (some k)=some (.lst (xs.take k.toNat)):=by show some (D.lst (cutD xs none (some k)))=_;rw[qoa xs h0]
theorem q7m{xs:List D}{k:Int}(h0:0<=k):dSl (.lst xs) (some k) none=some (.lst (xs.drop k.toNat)):=by show some (D.lst (cutD xs (some k) none))=_;rw[qha xs h0]
def Ite(K:FrG)(p:Addr):It:=
 ⟨λi H=>∃xs x,SqL K H p xs/\xs[i]? =some x,
  λi H v H'=>∃T x,v=.ref T/\H T=none/\H'=upd H T (.tup [.int (i:Int),x])/\∀xs,SqL K H p xs->xs[i]? =some x,
  λi H=>∃xs,SqL K H p xs/\xs.length<=i⟩
def qt3(p e it:Addr)(i:Nat)(h:Heap):Prop:=(∃old,IsEnum h e it (i:Int) old)/\h.IsListIter it p i
theorem qeb{P:Program}{w:World}{K:FrG}{zr:List Expr}{x1:Nat}{pos:Pos}{p e it:Addr}(hei:e≠it):
 Turn P w K (.Tuple zr x1 pos) (Ite K p) [e,it] e (qt3 p e it) where
 mem:=by simp
 obj:=λi h st c hc=>by
  obtain⟨⟨old,he⟩,o,go,_,gd⟩:=st;simp only[List.mem_cons,List.not_mem_nil,or_false]at hc;rcases hc with rfl|rfl
  ·exact⟨_,he,λv e=>by cases e⟩
  ·exact⟨o,go,λv e=>by rw[gd]at e;cases e⟩
 keep:=λi h h' st k=>by obtain⟨⟨old,he⟩,o,go,r⟩:=st;exact⟨⟨old,k e (by simp) _ he⟩,o,k it (by simp) _ go,r⟩
 item:=by
  intro X hP hw hK hc i z9 s σ H E I hf st hg;subst hP hw hK;obtain⟨xs,x,q1,ex⟩:=hg;obtain⟨it1,r1,t1,_⟩:=I.list q1;obtain⟨u,eu,ru⟩:=r1.get ex;obtain⟨⟨old,he⟩,j1⟩:=st;refine wpAny_pyNext_enum_item he j1 t1.isList (x:=u) (by simpa using eu) hei λh' ho n1 tp sz kk=>?_;refine⟨_,rfl,?_⟩;refine wpAny_letOwnedTupleGo_enum ho λh'' z'' s''=>?_;have fresh:H s.heap.objs.size=none:=I.hok.fresh (jg _);have zne:s.heap.objs.size≠e:=λq=>by have:=jb he;rw[<-q]at this;exact xh _ this
  have keep:∀c o,c∉[e,it]->s.heap.get? c=some o->h''.get? c=some o:=λc o hc q=>by simp only[List.mem_cons,List.not_mem_nil,or_false,not_or]at hc;exact s''.extBut c o hc.1 (kk c o hc.1 hc.2 q)
  have tp':h''.get? s.heap.objs.size=some {cls:=.type "tuple",data:=.seq #[.int i s.toks,u]}:=s''.extBut _ _ zne tp;have I':Inv X z9 σ (upd H s.heap.objs.size (.tup [.int (i:Int),x])) {s with heap:=h'',toks:=s.toks+1}:=by
   refine I.step (g':=s.gens) (d':=s.drawn) (ch:=[e,it]) (λc hc=>?_) (λc o _ _ hc e _=>keep c o hc e) (λc o _ _ hc e _=>⟨o.slots,keep c o hc e⟩) (λc o _ e n=>?_) (λc o hc e=>⟨o,keep c o hc e⟩)
    (λc zs e=>?_) (λc o w' e=>?_) (λc ps e=>⟨#[],?_⟩) (λm hm=>?_) (λc o e=>?_) I.bare
   ·obtain⟨_,f1,f2,f3,f4,f5⟩:=hf c hc;exact⟨f3,f1,f4,f5⟩
   ·rw[q0j (jm (jb e))];exact n
   ·rw[q0j (q1l e fresh)];exact e
   ·rw[q0j (q1l e fresh)];exact e
   ·rw[q0j (q1l e fresh),e];simp
   ·obtain⟨o,es,ep,ho,r⟩:=hm;exact⟨o,es,ep,keep _ o (λq=>(hf _ q).2.1 rfl) ho,r⟩
   ·by_cases hb:c=s.heap.objs.size
    ·subst hb;rw[q0m]at e;cases e;exact⟨by show 2<=sizeLine;decide,[.int i s.toks,u],.cons ⟨_,rfl⟩ (.cons ru .nil),⟨_,tp',⟨rfl,_,rfl⟩,rfl⟩⟩
    ·rw[q0j hb]at e;refine(I.hok c o e).stay (λd w' hd q=>keep d w' (λm=>?_) q) (λd q=>?_) λd zs q=>?_
     ·have n:=(hf d m).1;rcases hd with rfl|hd
      ·rw[n]at e;cases e
      ·rw[n]at hd;cases hd
     ·rw[q0j (q1l q fresh)];exact q
     ·rw[q0j (q1l q fresh)];exact q
  have lt:∀c∈[e,it],c<s.heap.objs.size:=λc hc=>by
   simp only[List.mem_cons,List.not_mem_nil,or_false]at hc;rcases hc with rfl|rfl
   ·exact jb he
   ·obtain⟨o,e,_⟩:=j1;exact jb e
  refine⟨.ref s.heap.objs.size,_,I',rfl,⟨_,x,rfl,fresh,rfl,λzs q=>by rw[I.list_inj q q1];exact ex⟩,?_,λc hc=>?_⟩
  ·obtain⟨o,go,r⟩:=n1;exact⟨⟨u,by simpa using z''⟩,o,s''.extBut _ _ hei.symm go,r⟩
  ·rw[q0j (jm (lt c hc))];exact(hf c hc).1
 done:=by
  intro X hP hw hK hc i z9 s σ H E I hf st hg;subst hP hw hK;obtain⟨xs,q1,hl⟩:=hg;obtain⟨it1,r1,t1,_⟩:=I.list q1;obtain⟨⟨old,he⟩,j1⟩:=st;have l1:=r1.length;refine wpAny_pyNext_enum_end (I.ok.hd hc) he j1 t1.isList (by simp;omega) λh' kk=>⟨rfl,?_⟩;have keep:∀c o,c∉[e,it]->s.heap.get? c=some o->h'.get? c=some o:=λc o hc q=>by simp only[List.mem_cons,List.not_mem_nil,or_false,not_or]at hc;exact kk c o hc.2 q
  show Inv X z9 σ H {s with heap:=h',toks:=s.toks};refine I.step (g':=s.gens) (d':=s.drawn) (ch:=[e,it]) (λc hc=>?_) (λc o _ _ hc e _=>keep c o hc e) (λc o _ _ hc e _=>⟨o.slots,keep c o hc e⟩) (λc o _ e n=>n) (λc o hc e=>⟨o,keep c o hc e⟩)
   (λc zs e=>e) (λc o w' e=>e) (λc ps e=>⟨#[],by rw[e];simp⟩) (λm hm=>?_) (λc o e=>?_) I.bare
  ·obtain⟨_,f1,f2,f3,f4,f5⟩:=hf c hc;exact⟨f3,f1,f4,f5⟩
  ·obtain⟨o,es,ep,ho,r⟩:=hm;exact⟨o,es,ep,keep _ o (λq=>(hf _ q).2.1 rfl) ho,r⟩
  ·refine(I.hok c o e).stay (λd w' hd q=>keep d w' (λm=>?_) q) (λd q=>q) λd zs q=>q;have n:=(hf d m).1;rcases hd with rfl|hd
   ·rw[n]at e;cases e
   ·rw[n]at hd;cases hd
 self:=λ_ _ _ _ _ st h=>by obtain⟨⟨old,he⟩,_⟩:=st;exact wpAny_pyIter_enum he h
section
variable{X:Cx}{a:Expr}{ta:TE}{p pos:Pos}{zr:List Expr}{x1:Nat}{tp:Pos}
def qsj(K:FrG)(ta:TE):TI:=λσ H R=>ta σ H λv H1=>∃p1,[v]=[V.ref p1]/\(∃xs,SqL K H1 p1 xs)/\R (Ite K p1) H1
theorem q8r{K:FrG}(hK:X.K=K)(hg:Gl X "enumerate")(hm:X.mg "enumerate"=none)(ha:PE X a ta)(he:starEach [a] X.env=(false,eval a X.env)::starEach [] X.env:=by rfl)(hpl:(backTo pos (starEach [] X.env)).any (·.1)=false:=by rfl):
 PI X (.Tuple zr x1 tp) (.Call (.Name "enumerate" p) [a] [] pos) (qsj K ta):=by
 subst hK;intro z9 s σ H R I h;refine xy (q84 I hg hm (u:=.type "enumerate") (by rfl) ?_);refine PyProof.Rows.callWith_type1 (thn ((q01 ha q05 he) pos z9 s σ H (λvs H1=>∃p1,vs=[.ref p1]/\(∃xs,SqL X.K H1 p1 xs)/\R (Ite X.K p1) H1) I h) λus s1 h1=>?_) he hpl;obtain⟨vs,H1,I1,r1,p1,rfl,⟨xs,q1⟩,k⟩:=h1;obtain⟨u,rfl,ru⟩:=vals1 r1;cases(show u=Value.ref p1 from ru);obtain⟨it1,r1,t1,_⟩:=I1.list q1;have lt:p1<s1.heap.objs.size:=by obtain⟨o,e,_⟩:=t1.isList;exact jb e
 refine call_enumerate_list t1.isList λh' hz j1 sz kk=>wpAny_pyIter_enum hz ?_;have I2:Inv X z9 σ H1 {s1 with heap:=h',toks:=s1.toks}:=I1.kept kk;refine⟨_,_,_,_,H1,rfl,I2,qeb (p:=p1) (e:=s1.heap.objs.size+1) (it:=s1.heap.objs.size) (Nat.ne_of_gt (Nat.lt_succ_self _)),⟨⟨_,hz⟩,j1⟩,λc hc=>?_,k⟩;have le:s1.heap.objs.size<=c:=by simp only[List.mem_cons,List.not_mem_nil,or_false]at hc;rcases hc with rfl|rfl<;>first|exact jg _|exact Nat.le_add_right _ _
 exact I1.fpOk le (I1.hok.fresh le)
end
def q3h(xs:List D):List D:=xs.zipIdx.map λq=>D.tup [.int (q.2:Int),q.1]
section
variable{K:FrG}{O:List Nat}{t:TE}{fa:RhD}
theorem q4s{xs:List D}{i:Nat}:(q3h xs)[i]? =(xs[i]?).map λx=>D.tup [.int (i:Int),x]:=by
 unfold q3h;rw[je,List.getElem?_zipIdx];cases xs[i]? with
 |none=>rfl
 |some x=>simp
theorem qne{R:Hp}{p:Addr}{xs:List V}{ds:List D}(h:SqL K R p xs)(r:Rps K R xs ds):ItOk K (Ite K p) R (q3h ds):=λH' R' s b i=>by
 have g1:=Same.sqL b (Same.sqL s h);have l1:=r.length;have len:(q3h ds).length=ds.length:=by simp[q3h]
 refine⟨λe=>⟨xs,g1,by omega⟩,λd e=>?_⟩;rw[q4s]at e;cases e1:ds[i]? with
 |none=>rw[e1]at e;cases e
 | some d1=>
  rw[e1]at e;cases e;obtain⟨v1,a1,a2⟩:=r.get e1;refine⟨⟨xs,v1,g1,a1⟩,λx H'' y=>?_⟩;obtain⟨T,x1,rfl,hT,rfl,z1⟩:=y;have w1:=z1 xs g1;rw[a1]at w1;cases w1;have y:=Ext.new (o:=.tup [.int (i:Int),v1]) b hT;exact⟨_,y,.tup q0m (.cons (.int _) (.cons ((a2.mono s).mono y.r) .nil))⟩
def q5t(f:RhD):RhL:=q1r f λd=>q2q (match d with
 |.lst xs=>some (q3h xs)
 |_=>none)
theorem q8x(h:ME K O t fa):MI K O (qsj K t) (q5t fa):=λZ σ H R ρ ds ρ' Q S e k=>by
 obtain⟨d,ρ1,e1,e⟩:=q0a e;obtain⟨e2,rfl⟩:=q0k e;cases d with
 | lst xs=>
  cases e2;refine h Z σ H R ρ _ _ _ S e1 λv H1 R1 S1 st1 r1=>?_;obtain⟨_,_,rfl,q,r⟩:=r1.isL;exact⟨_,rfl,⟨_,Same.sqL S1.same q⟩,k _ H1 R1 S1 st1 (qne q r)⟩
 |_=>cases e2
def qt2:D->Option (List D)
 |.lst xs=>some (q3h xs)
 |_=>none
theorem qo2{ρ:Rho}:q5t fa ρ=(fa ρ).bind λp=>(qt2 p.1).map λx=>(x,p.2):=by unfold q5t;rw[q0z];congr 1;funext p;rw[q1u];cases p.1<;>rfl
end
section
variable{X:Cx}{K:FrG}{c:MC}{O O':List Nat}{t:TE}{fa:RhD}
end
section
variable{ρ:Rho}{fa fb:RhD}{fs:RhL}
def repO(xs:List D):D->Option (List D)
 |.int k=>if -(2^63)<=k/\k<2^63/\xs.length*k.toNat<=sizeLine then some (List.replicate k.toNat xs).flatten else none
 |_=>none
theorem qlk:mRep fs fb ρ=(fs ρ).bind λp=>(fb p.2).bind λq=>(repO p.1 q.1).map λx=>(x,q.2):=by unfold mRep;rw[q0z];congr 1;funext p;rw[q0z];congr 1;funext q;rw[q1u];cases q.1<;>rfl
theorem qbq{ρ1 ρ2:Rho}{xs zs:List D}{y:D}(h1:fs ρ=some (xs,ρ1))(h2:fb ρ1=some (y,ρ2))(h3:repO xs y=some zs):mRep fs fb ρ=some (zs,ρ2):=by rw[qlk,h1];show(fb ρ1).bind _=_;rw[h2];show(repO xs y).map _=_;rw[h3];rfl
theorem qfi(x:D){k:Int}(h0:0<=k)(h:k<=1000000):repO [x] (.int k)=some (List.replicate k.toNat x):=by
 have hz:[x].length*k.toNat<=sizeLine:=by rw[List.length_singleton,Nat.one_mul];exact q1h (by omega)
 show(if -(2^63)<=k/\k<2^63/\[x].length*k.toNat<=sizeLine then some (List.replicate k.toNat [x]).flatten else none)=_;rw[if_pos ⟨by omega,by omega,hz⟩,List.flatten_replicate_singleton]
theorem q9a(xs ys:List Int):zipD (xs.map D.int) (ys.map D.int)=(xs.zip ys).map λq=>D.tup [.int q.1,.int q.2]:=by unfold zipD;rw[List.zipWith_map,List.zip,List.map_zipWith]
end
def qej(C:Addr)(names:List Str):Sp:=λvs H Q _=>∃(x dx:Addr) (args:List V),vs=.ref x::args/\args.length=names.length/\H x=some (.ins C dx [])/\Q .non (upd H x (.ins C dx (names.zip args)))
section
variable{K:FrG}{R:Hp}{O:List Nat}{t ta:TE}{tr:TA}{fa fb:RhD}{fs:RhL}{E:XK}{C:Addr}{x m f:Str}
theorem Rfs.zip:∀{names:List Str} {vs:List V} {ds:List D},Rps K R vs ds->Rfs K R (names.zip vs) (names.zip ds)
 |[],_,_,_=>.nil
 |_::_,_,_,.nil=>.nil
 |_::_,_,_,.cons h r=>.cons h (Rfs.zip r)
theorem Rfs.lookup:∀{fs:List (Str×V)} {gs:List (Str×D)} {d:D},Rfs K R fs gs->gs.lookup f=some d->∃v,fs.lookup f=some v/\Rp K R v d
 |_,_,_,.nil,e=>by cases e
 | _,_,d,.cons (f:=g) (x:=v) (d:=d') h r,e=>by
  rw[List.lookup_cons]at e ⊢;cases q:f==g with
  | true=>
   rw[q]at e;cases e;exact⟨v,rfl,h⟩
  | false=>
   rw[q]at e;exact Rfs.lookup r e
theorem Rfs.lookup_none:∀{fs:List (Str×V)} {gs:List (Str×D)},Rfs K R fs gs->gs.lookup f=none->fs.lookup f=none
 |_,_,.nil,_=>rfl
 | _,_,.cons (f:=g) h r,e=>by
  rw[List.lookup_cons]at e ⊢;cases q:f==g with
  |true=>rw[q]at e;cases e
  | false=>
   rw[q]at e;exact Rfs.lookup_none r e
def qgj(x:Str)(names:List Str)(fs:RhL):RhD:=q1r fs λds=>q2q (if ds.length=names.length then some (.obj x (names.zip ds))else none)
theorem qge{names:List Str}(n:PySem.W.nsIn K mainGlobals x=some (some (.ref C)))(h:MA K O tr fs):ME K O (qp7 C (qej C names) [] E tr) (qgj x names fs):=λZ σ H R ρ d ρ' Q S e k=>by
 obtain⟨ds,ρ1,e1,e⟩:=q0a e;obtain⟨e2,rfl⟩:=q0k e;split at e2
 ·rename_i hl;cases e2;refine h Z σ H R ρ ds _ _ S e1 λvs H1 R1 S1 st1 r1=>?_;intro a dx ha hdx hne;refine⟨a,dx,vs,by rw[List.append_nil],by rw[r1.length,hl],q0m,rfl,?_⟩;rw[qe8];have y1:=Ext.hid (o:=.own a) S1.sub hdx;have ha2:(upd H1 dx (HO.own a)) a=none:=by rw[q0j (Ne.symm hne)];exact ha
  have y2:=Ext.new (o:=.ins C dx (names.zip vs)) y1.s ha2;exact k _ _ _ ((S1.ext y1).ext y2) ((st1.trans y1.stp).trans y2.stp) (.obj n q0m (Rfs.zip (r1.mono y2.r)))
 ·cases e2
def qgi(x:Str):RhD:=mRet (.obj x [])
theorem qiz(n:PySem.W.nsIn K mainGlobals x=some (some (.ref C))):ME K O (qki C) (qgi x):=λZ σ H R ρ d ρ' Q S e k=>by
 cases e;intro a dx ha hdx hne;have y1:=Ext.hid (o:=.own a) S.sub hdx;have ha2:(upd H dx (HO.own a)) a=none:=by rw[q0j (Ne.symm hne)];exact ha
 have y2:=Ext.new (o:=.ins C dx []) y1.s ha2;exact k _ _ _ ((S.ext y1).ext y2) (y1.stp.trans y2.stp) (.obj n q0m .nil)
def fldO(x f:Str):D->Option D
 |.obj y gs=>if y=x then gs.lookup f else none
 |_=>none
def mFld(x f:Str)(fa:RhD):RhD:=q1r fa λd=>q2q (fldO x f d)
theorem ql6{C':Addr}(n:PySem.W.nsIn K mainGlobals x=some (some (.ref C)))(n':PySem.W.nsIn K mainGlobals x=some (some (.ref C'))):C'=C:=by rw[n]at n';cases n';rfl
theorem qgf(n:PySem.W.nsIn K mainGlobals x=some (some (.ref C)))(c:Cls K C)(na:NoAttr K C f)(h:ME K O ta fa):ME K O (tFld K ta f) (mFld x f fa):=λZ σ H R ρ d ρ' Q S e k=>by
 obtain⟨d0,ρ1,e1,e⟩:=q0a e;obtain⟨e2,rfl⟩:=q0k e;refine h Z σ H R ρ _ _ _ S e1 λv H1 R1 S1 st1 r1=>?_;cases d0 with
 | obj y gs=>
  have e3:(if y=x then gs.lookup f else none)=some d:=e2;split at e3
  ·rename_i hy;subst hy;cases r1 with
   | obj n' hR rf=>
    have hC:=ql6 n n';subst hC;obtain⟨v',hl,rv⟩:=rf.lookup e3;exact⟨_,_,_,_,v',rfl,S1.sub _ _ hR,c,na,hl,k v' H1 R1 S1 st1 rv⟩
  ·cases e3
 |_=>cases e2
def q7t(x m:Str)(f:List D->Option D)(d:D)(ds:List D):Option D:=match d with
 |.obj y gs=>if y=x/\gs.lookup m=none then f (d::ds)else none
 |_=>none
def q5h(x m:Str)(f:List D->Option D)(fa:RhD)(fs:RhL):RhD:=q1r fa λd=>q1r fs λds=>q2q (q7t x m f d ds)
theorem qba{k0:Nat}{g:List D->Option D}(n:PySem.W.nsIn K mainGlobals x=some (some (.ref C)))(hg:q1t k0 g)(h:ME K O ta fa)(ha:MA K O tr fs):ME K O (qp6 C m (spP K false k0 g) [] E ta tr) (q5h x m g fa fs):=λZ σ H R ρ d ρ' Q S e k=>by
 obtain⟨d0,ρ1,e1,e⟩:=q0a e;obtain⟨ds,ρ2,e2,e⟩:=q0a e;obtain⟨e3,rfl⟩:=q0k e;refine h Z σ H R ρ _ _ _ S e1 λv H1 R1 S1 st1 r1=>?_;cases d0 with
 | obj y gs=>
  have e4:(if y=x/\gs.lookup m=none then g (.obj y gs::ds)else none)=some d:=e3;split at e4
  ·rename_i hy;obtain⟨hy,hm⟩:=hy;subst hy;have r1':=r1;cases r1 with
   | obj n' hR rf=>
    have hC:=ql6 n n';subst hC;refine⟨_,_,_,rfl,S1.sub _ _ hR,rf.lookup_none hm,?_⟩;refine ha Z σ H1 R1 ρ1 ds _ _ S1 e2 λvs H2 R2 S2 st2 r2=>?_;rw[List.append_nil];have r3:=Rps.cons (r1'.mono st2.r) r2;exact⟨by rw[r3.length];exact hg _ d e4,R2,_,d,S2.sub,r3,e4,λv H3 R3 y q=>k v H3 R3 (S2.ext y) ((st1.trans st2).trans y.stp) q⟩
  ·cases e4
 |_=>cases e3
def mOrE(f g:RhD):RhD:=λρ=>match f ρ with
 |some r=>some r
 |none=>g ρ
theorem qlb{t1 t2:TE}(h1:ME K O t1 fa)(h2:ME K O t2 fb):ME K O (λσ H Q=>t1 σ H Q∨t2 σ H Q) (mOrE fa fb):=λZ σ H R ρ d ρ' Q S e k=>by
 unfold mOrE at e;cases e1:fa ρ with
 | some q=>
  rw[e1]at e;cases e;exact .inl (h1 Z σ H R ρ d ρ' Q S e1 k)
 | none=>
  rw[e1]at e;exact .inr (h2 Z σ H R ρ d ρ' Q S e k)
theorem qo0{ρ:Rho}{names:List Str}:qgj x names fs ρ=(fs ρ).bind λp=>(if p.1.length=names.length then some (D.obj x (names.zip p.1))else none).map λy=>(y,p.2):=by unfold qgj;rw[q0z];congr 1;funext p;rw[q1u]
theorem qsz{ρ:Rho}:mFld x f fa ρ=(fa ρ).bind λp=>(fldO x f p.1).map λy=>(y,p.2):=by unfold mFld;rw[q0z];congr 1;funext p;rw[q1u]
theorem qnz{ρ:Rho}{g:List D->Option D}:q5h x m g fa fs ρ=(fa ρ).bind λp=>(fs p.2).bind λq=>(q7t x m g p.1 q.1).map λy=>(y,q.2):=by unfold q5h;rw[q0z];congr 1;funext p;rw[q0z];congr 1;funext q;rw[q1u]
theorem qst{ρ:Rho}:mOrE fa fb ρ=(fa ρ).or (fb ρ):=by unfold mOrE;cases fa ρ<;>rfl
end
section
variable{X:Cx}{tg elt ze:Expr}{ifs:List Expr}{scope:Scope}{pos:Pos}{N N0:List Str}{js:List Nat}{sc:Scope}{wi:TI}{g:TG}{tt:TT}{te:TE}
end
end L2
namespace L2
def Bits(w:List Int):Prop:=∀b∈w,b=0∨b=1
def endR(m a:Int)(bs:List Int):Int:=bs.foldl (λx b=>(x+x+b) % m) a
theorem qa8(m a:Int)(bs:List Int)(b:Int):endR m a (bs++[b])=(endR m a bs+endR m a bs+b) % m:=by unfold endR;rw[List.foldl_append];rfl
theorem take_snoc{α:Type}{u:List α}{i:Nat}{b:α}(q:u[i]? =some b):u.take (i+1)=u.take i++[b]:=List.take_add_one.trans (by rw[q];rfl)
theorem qh9{m:Int}(hm:0<m):∀(w:List Int) (a:Int),(0<=a/\a<m)->0<=endR m a w/\endR m a w<m
 |[],a,h=>h
 |b::bs,a,h=>qh9 hm bs ((a+a+b) % m) ⟨Int.emod_nonneg _ (by omega),Int.emod_lt_of_pos _ hm⟩
def parF:Nat->Nat->Nat
 |0,_=>0
 |f+1,n=>(n % 2+parF f (n / 2)) % 2
theorem q77:∀f,parF f 0=0
 |0=>rfl
 |f+1=>by unfold parF;rw[show(0:Nat) / 2=0 from rfl,q77 f]
theorem qb4:∀f n,parF f n<2
 |0,_=>Nat.zero_lt_two
 |f+1,n=>Nat.mod_lt _ (by decide)
def sgn(win tap:Int):Int:=(parF 5 (win.toNat &&& tap.toNat):Nat)
theorem qm1(a t:Int):sgn a t=0∨sgn a t=1:=by have:=qb4 5 (a.toNat &&& t.toNat);unfold sgn;omega
def q3v(row:List Int)(signs:List Int):List Int:=((signs.zip row).filter λq=>q.2==1).map (·.1)
theorem q75(row taps:List Int)(g:Int->Int):q3v row (taps.map g)=((taps.zip row).filter λq=>q.2==1).map λq=>g q.1:=by unfold q3v;rw[List.zip_map_left,List.filter_map,jv];rfl
def rowAt(rows:List (List Int))(k:Nat):List Int:=(rows[k % rows.length]?).getD []
def qd7(n:Nat)(taps:List Int)(rows:List (List Int))(a:Int)(u:List Int)(k:Nat):List Int:=
 q3v (rowAt rows k) (taps.map (sgn (2*endR (2^n) a (u.take k)+u.getD k 0)))
theorem q5v{α:Type}(f:Nat->List α)(k:Nat):(List.range (k+1)).flatMap f=(List.range k).flatMap f++f k:=by rw[List.range_succ,List.flatMap_append];simp
theorem q6s{α:Type}(f:Nat->List α)(m:Nat)(h:∀k,(f k).length<=m):∀n,((List.range n).flatMap f).length<=n*m
 |0=>by simp
 | n+1=>by rw[q5v,jl];have:=q6s f m h n;have:=h n;rw[Nat.succ_mul];omega
theorem qcu{u v:List Int}(hu:Bits u)(hv:Bits v):Bits (u++v):=λb h=>by
 rcases List.mem_append.mp h with h|h
 ·exact hu b h
 ·exact hv b h
theorem q99(z:Nat):Bits (List.replicate z 0):=λb h=>.inl (List.eq_of_mem_replicate h)
def selK(taps:List Int)(rows:List (List Int))(k:Nat):List (Int×Int):=(taps.zip (rowAt rows k)).filter λq=>q.2==1
end L2
namespace L2
open PySem
def rowD(row:List Int):D:=.tup (row.map D.int)
def schD(r:Int)(taps:List Int)(rows:List (List Int))(e:Str):D:=.tup [.int r,.tup (taps.map D.int),.tup (rows.map rowD),.str e]
structure q26(r:Int)(taps:List Int)(rows:List (List Int))(e:Str):Prop where
 r0:0<=r
 r4:r<=4
 t1:1<=taps.length
 t4:taps.length<=4
 tb:∀t∈taps,0<=t/\t<2*2^r.toNat
 m1:1<=rows.length
 m6:rows.length<=6
 rw:∀row∈rows,row.length=taps.length/\∀b∈row,b=0∨b=1
 en:e="open"∨e="ended"∨e="ring"
theorem q92{P:Int->Prop}:∀{ys:List D},(∀y∈ys,∃t,y=.int t/\P t)->∃ts:List Int,ys=ts.map D.int/\∀t∈ts,P t
 |[],_=>⟨[],rfl,λ_ h=>nomatch h⟩
 | y::ys,h=>by
  obtain⟨t,rfl,ht⟩:=h y jk;obtain⟨ts,rfl,hs⟩:=q92 (P:=P) λz hz=>h z (jj _ hz);refine⟨t::ts,rfl,λu hu=>?_⟩;rcases List.mem_cons.mp hu with rfl|hu
  ·exact ht
  ·exact hs u hu
theorem s_or:eqD (.str "open") (.str "ring")=some false:=by rw[q3m (by decide+kernel) (by decide+kernel)];decide+kernel
theorem s_er:eqD (.str "ended") (.str "ring")=some false:=by rw[q3m (by decide+kernel) (by decide+kernel)];decide+kernel
theorem s_rr:eqD (.str "ring") (.str "ring")=some true:=by rw[q3m (by decide+kernel) (by decide+kernel)];decide+kernel
theorem s_oe:eqD (.str "open") (.str "ended")=some false:=by rw[q3m (by decide+kernel) (by decide+kernel)];decide+kernel
theorem s_ee:eqD (.str "ended") (.str "ended")=some true:=by rw[q3m (by decide+kernel) (by decide+kernel)];decide+kernel
theorem s_re:eqD (.str "ring") (.str "ended")=some false:=by rw[q3m (by decide+kernel) (by decide+kernel)];decide+kernel
def isRing(e:Str):Bool:=decide (e="ring")
def q12(r:Int)(e:Str):Nat:=if e="ended" then r.toNat else 0
theorem qos{x:Int}(h:0<=x):Builtin.bitAnd x 1=x % 2:=by unfold Builtin.bitAnd;rw[decide_eq_true h,decide_eq_true (by decide:(0:Int)<=1)];show((x.toNat &&& 1:Nat):Int)=x % 2;rw[Nat.and_one_is_mod];omega
theorem qht{x y:Int}(h:0<=x)(g:0<=y):Builtin.bitAnd x y=((x.toNat &&& y.toNat:Nat):Int):=by unfold Builtin.bitAnd;rw[decide_eq_true h,decide_eq_true g]
theorem qhw{x y:Int}(h:x=0∨x=1)(g:y=0∨y=1):Builtin.bitXor x y=(x+y) % 2:=by rcases h with rfl|rfl<;>rcases g with rfl|rfl<;>decide
theorem q30{r:Int}(r0:0<=r)(r4:r<=4):(1:Int)<=2^r.toNat/\(2:Int)^r.toNat<=16:=by rcases(by omega:r=0∨r=1∨r=2∨r=3∨r=4)with rfl|rfl|rfl|rfl|rfl<;>decide
end L2
namespace L2
open PySem PySem.Spec PyProof.Rows
section
variable{prog:Program}{w:World}{A:Around}{E:Value->Shared->Prop}{s:Shared}{a₀:Array Keyed}
end
section
variable{X:Cx}{K:FrG}
end
section
variable{K:FrG}{O:List Nat}{t tb:TE}{fa fb:RhD}
end
section
variable{X:Cx}
end
section
variable{X:Cx}
end
section
variable{K:FrG}{O:List Nat}{t tb:TE}{fa fb:RhD}
end
section
variable{c:MC}{O O':List Nat}{te:TE}{fe:RhD}
end
section
variable{K:FrG}{O:List Nat}{tr:TA}{fs:RhL}{E:XK}{n:Nat}
end
section
variable{X:Cx}{K:FrG}{o e:Expr}{es:List Expr}{to:TE}{t:TA}{name:Str}{zv zi:Pos}{T id:String}{r:V->List V->Hp->VK->Prop}
end
end L2
namespace L2
open PySem PySem.NumText
end L2
namespace L2
open PySem PySem.NumText
end L2
namespace L2
open PySem PySem.Spec
section
variable{fa:RhD}{fl fh:Rho->Option (Option Int×Rho)}{ρ:Rho}
end
end L2
namespace L2
open PySem PySem.Spec
def DOk(n:Nat)(d:D):Prop:=∃p,d.toP=some p/\p.canLay0=true/\p.depth<=n
def DOks(n:Nat)(ds:List D):Prop:=∃ps,D.toPs ds=some ps/\PyData.canLayAll0 ps=true/\PyData.depthAll ps<=n
theorem DOk.int(n:Nat)(i:Int):DOk n (.int i):=⟨.int i,by simp only[D.toP],by simp only[PyData.canLay0],by simp only[PyData.depth];exact Nat.zero_le _⟩
theorem DOk.bl(n:Nat)(i:Bool):DOk n (.bl i):=⟨.bool i,by simp only[D.toP],by simp only[PyData.canLay0],by simp only[PyData.depth];exact Nat.zero_le _⟩
theorem DOk.str(n:Nat){x:Str}(h:PyData.strOk x=true):DOk n (.str x):=⟨.str x,by simp only[D.toP],by simp only[PyData.canLay0];exact h,by simp only[PyData.depth];exact Nat.zero_le _⟩
theorem DOks.nil(n:Nat):DOks n []:=⟨[],by simp only[D.toPs],by simp only[PyData.canLayAll0],by simp only[PyData.depthAll];exact Nat.zero_le _⟩
theorem DOks.cons{n:Nat}{d:D}{ds:List D}(h:DOk n d)(r:DOks n ds):DOks n (d::ds):=by obtain⟨p,h1,h2,h3⟩:=h;obtain⟨ps,g1,g2,g3⟩:=r;refine⟨p::ps,by simp only[D.toPs,h1,g1],by simp only[PyData.canLayAll0,h2,g2];rfl,?_⟩;simp only[PyData.depthAll];exact Nat.max_le.mpr ⟨h3,g3⟩
theorem DOks.all{n:Nat}:∀{ds:List D},(∀d∈ds,DOk n d)->DOks n ds
 |[],_=>DOks.nil n
 |d::ds,h=>DOks.cons (h d jk) (DOks.all λx hx=>h x (jj _ hx))
theorem DOks.lst{n:Nat}{ds:List D}(h:DOks n ds):DOk (n+1) (.lst ds):=by obtain⟨ps,g1,g2,g3⟩:=h;exact⟨.list ps,by simp only[D.toP,g1];rfl,by simp only[PyData.canLay0];exact g2,by simp only[PyData.depth];omega⟩
theorem DOks.tup{n:Nat}{ds:List D}(h:DOks n ds):DOk (n+1) (.tup ds):=by obtain⟨ps,g1,g2,g3⟩:=h;exact⟨.tuple ps,by simp only[D.toP,g1];rfl,by simp only[PyData.canLay0];exact g2,by simp only[PyData.depth];omega⟩
theorem q94{n:Nat}{d:D}(h:DOk n d)(hn:n<=64):eqD d d=some true:=by
 obtain⟨p,h1,h2,h3⟩:=h;have hs:SeqAt.shaped p=true:=by unfold SeqAt.shaped;rw[h2,decide_eq_true (by omega:p.depth<=64)];rfl
 unfold eqD;rw[h1];show(if SeqAt.shaped p=true/\SeqAt.shaped p=true then some (PyData.eqv p p)else none)=some true;rw[if_pos ⟨hs,hs⟩,SeqAt.eqv_refl p h2]
theorem DOk.ints(xs:List Int):DOk 1 (.lst (xs.map D.int)):=DOks.lst (.all λd hd=>by obtain⟨i,_,rfl⟩:=List.mem_map.mp hd;exact .int _ i)
theorem DOk.le{n m:Nat}{d:D}(h:DOk n d)(hn:n<=m):DOk m d:=by obtain⟨p,h1,h2,h3⟩:=h;exact⟨p,h1,h2,by omega⟩
end L2
namespace L2
open PySem PySem.Spec
end L2
namespace L2
open PySem
inductive Told where
 |clear (b:Int)
 |gap
 |soft (z o:Int)
def q10:Told->D
 |.clear b=>.tup [.str "clear",.int b]
 |.gap=>.tup [.str "gap"]
 |.soft z o=>.tup [.str "soft",.int z,.int o]
def objD:Told->D
 |.clear b=>.obj "Clear" [("bit",.int b)]
 |.gap=>.obj "Gap" []
 |.soft z o=>.obj "Soft" [("zero",.int z),("one",.int o)]
def q4m:Told->Int->Int
 |.clear b,x=>if x=b then 0 else 1
 |.gap,_=>0
 |.soft z o,x=>if x=1 then o else z
def q55(ts:List Told)(bits:List Int):Int:=((ts.zip bits).map λq=>q4m q.1 q.2).sum
theorem q8y{x m:Str}{f:List D->Option D}{gs:List (Str×D)}{ds:List D}(h:gs.lookup m=none):q7t x m f (.obj x gs) ds=f (.obj x gs::ds):=if_pos ⟨rfl,h⟩
theorem q7b{x y m:Str}{f:List D->Option D}{gs:List (Str×D)}{ds:List D}(h:¬y=x):q7t x m f (.obj y gs) ds=none:=if_neg λq=>h q.1
theorem qbc{x f:Str}{gs:List (Str×D)}{d:D}(h:gs.lookup f=some d):fldO x f (.obj x gs)=some d:=(if_pos rfl).trans h
def q0d(taps:List Int)(rows:List (List Int))(N:Nat):List Int:=(List.range N).flatMap λk=>List.replicate (selK taps rows k).length (k:Int)
theorem q5m(xs ys:List D):zipD xs ys=(xs.zip ys).map λq=>D.tup [q.1,q.2]:=by unfold zipD;rw[List.zip,List.map_zipWith]
theorem q4x{α β γ δ:Type}(f:α->γ)(g:β->δ):∀(xs:List α) (ys:List β),(xs.map f).zip (ys.map g)=(xs.zip ys).map λq=>(f q.1,g q.2)
 |[],_=>rfl
 |_::_,[]=>rfl
 | x::xs,y::ys=>by show(f x,g y)::(xs.map f).zip (ys.map g)=(f x,g y)::(xs.zip ys).map _;rw[q4x f g xs ys]
theorem t_cg:eqD (.str "gap") (.str "clear")=some false:=by rw[q3m (by decide+kernel) (by decide+kernel)];decide+kernel
theorem t_cs:eqD (.str "soft") (.str "clear")=some false:=by rw[q3m (by decide+kernel) (by decide+kernel)];decide+kernel
theorem t_gs:eqD (.str "soft") (.str "gap")=some false:=by rw[q3m (by decide+kernel) (by decide+kernel)];decide+kernel
theorem t_cc:eqD (.str "clear") (.str "clear")=some true:=by rw[q3m (by decide+kernel) (by decide+kernel)];decide+kernel
theorem t_gg:eqD (.str "gap") (.str "gap")=some true:=by rw[q3m (by decide+kernel) (by decide+kernel)];decide+kernel
theorem q6v(f:RhO)(fx:Xr):xSeq f fx xNo=fx:=by
 funext ρ;unfold xSeq;cases h:fx ρ with
 |some q=>rfl
 | none=>
  cases f ρ with
  |none=>rfl
  |some o=>cases o<;>rfl
theorem DOk.told(t:Told):DOk 1 (q10 t):=by
 cases t with
 |clear b=>exact DOks.tup (.cons (.str _ (by decide+kernel)) (.cons (.int _ _) (.nil _)))
 |gap=>exact DOks.tup (.cons (.str _ (by decide+kernel)) (.nil _))
 |soft z o=>exact DOks.tup (.cons (.str _ (by decide+kernel)) (.cons (.int _ _) (.cons (.int _ _) (.nil _))))
theorem DOk.tolds(ts:List Told):DOk 2 (.lst (ts.map q10)):=DOks.lst (.all λd hd=>by obtain⟨i,_,rfl⟩:=List.mem_map.mp hd;exact .told i)
end L2
namespace L2
open PySem PySem.Spec PyProof.Rows
section
variable{X:Cx}
end
section
variable{K:FrG}{O:List Nat}{t tb:TE}{fa fb:RhD}
end
end L2
namespace L2
open PySem PySem.Spec
end L2
namespace L2
open PySem PySem.Spec PyProof.Rows
section
variable{X:Cx}
end
section
variable{K:FrG}{O:List Nat}{t tb:TE}{fa fb:RhD}
end
section
variable{X:Cx}{z9:List (Addr×Obj)}{σ:St}{CX:CXT}{k:Nat}{f:Addr}{fd:FuncData}{ps:List Str}{sp:Sp}{dvs:List V}{ds:List Value}{E:XK}{x:Str}{p pos:Pos}{e:Expr}{es:List Expr}{t:TA}{i:Nat}
end
section
variable{K:FrG}{O:List Nat}{tr:TA}{fs:RhL}{E:XK}{n:Nat}
end
section
variable{prog:Program}{w:World}{A:Around}{E:Value->Shared->Prop}{s:Shared}
end
section
variable{X:Cx}{a b:Expr}{ta:TA}{p pos:Pos}{zr:List Expr}{x1:Nat}{tp:Pos}
end
section
variable{K:FrG}{O:List Nat}{tr:TA}{fs:RhL}
end
end L2
namespace L2
open PySem PySem.Spec PySem.NumText
section
variable{K:FrG}{O:List Nat}{E:XK}
end
end L2
namespace L2
open PySem PySem.Spec PyProof.Rows
section
variable{c:MC}{O O':List Nat}{te:TE}{fa:RhD}
end
section
variable{M:Model}{A:Around}{E:Value->Shared->Prop}{s:Shared}{B:Heap}{env:Env}{outer l:List Env}{L e:Addr}{cls fl:Value}{Q:Unit->Shared->Prop}
end
section
variable{X:Cx}{z9:List (Addr×Obj)}{σ:St}{H H':Hp}{s:Shared}
end
section
variable{P:Program}{w:World}{K:FrG}{mg:Str->Option Value}{base:Heap}{N:List Str}{qual:Str}{scope:Scope}{f:Addr}{cd:Value}{A:Around}{outer:List Env}{s₀:Shared}{H₀:Hp}{E:XK}
end
section
variable{X:Cx}{tg elt ze:Expr}{ifs:List Expr}{scope:Scope}{pos:Pos}{N N0:List Str}{n:Nat}{js:List Nat}{sc:Scope}{wi:TI}{g:TG}{tt:TT}{te:TE}
end
section
variable{X:Cx}{tg elt ze:Expr}{ifs:List Expr}{scope:Scope}{pos:Pos}{N N0:List Str}{n:Nat}{js:List Nat}{sc:Scope}{wi:TI}{g:TG}{tt:TT}{te:TE}
end
@[irreducible] def QSs(X:Cx)(st:List Stmt)(t:TS):Prop:=PSs X st t
section
variable{X:Cx}{st:Stmt}{sts a b:List Stmt}{t u:TS}{tc:TT}{c tg ze:Expr}{wi:TI}{g:TG}{pos:Pos}
end
inductive Inn(K:FrG)(H R:Hp):List Addr->List (List D)->Prop
 |nil:Inn K H R [] []
 |cons {a:Addr} {as:List Addr} {vs:List V} {ds:List D} {dss:List (List D)}:H a=some (.lst vs)->R a=none->Rps K R vs ds->Inn K H R as dss->Inn K H R (a::as) (ds::dss)
structure Deep(K:FrG)(H R:Hp)(l:Addr)(as:List Addr)(dss:List (List D)):Prop where
 top:H l=some (.lst (as.map V.ref))
 rl:R l=none
 inn:Inn K H R as dss
 nd:(l::as).Nodup
theorem StR.put{K:FrG}{Z:Anc}{O:List Nat}{σ:St}{H R:Hp}{ρ:Rho}{a:Addr}{o:HO}(S:StR K Z O σ H R ρ)(hr:R a=none)(n:∀i,i∈O->σ[i]? ≠some (some (.ref a)))(z:Z.H0 a=none):StR K Z O σ (upd H a o) R ρ:=by
 have ne:∀b u,Z.H0 b=some u->b≠a:=λb u e q=>by rw[q,z]at e;cases e
 refine⟨λb u e=>?_,S.len,S.env,λi hi=>?_,S.dis,λb u e nl=>?_,S.ar,S.an,λb h=>?_,S.ao,S.ap⟩
 ·have q:b≠a:=λq=>by rw[q,hr]at e;cases e
  rw[q0j q];exact S.sub b u e
 ·obtain⟨l,vs,ds,h1,h2,h3,h4,h5⟩:=S.own i hi;have q:l≠a:=λq=>n i hi (by rw[h2,q]);exact⟨l,vs,ds,h1,h2,by rw[q0j q];exact h3,h4,h5⟩
 ·rw[q0j (ne b u e)];exact S.ah b u e nl
 ·have q:b≠a:=λq=>h (by rw[q];exact z);have l:=S.ad b h;unfold Liv at l ⊢;rw[q0j q];exact l
theorem Inn.has{K:FrG}{H R:Hp}{as:List Addr}{dss:List (List D)}(h:Inn K H R as dss):∀a∈as,∃vs,H a=some (.lst vs):=by
 induction h with
 |nil=>exact λ_ h=>nomatch h
 | cons h1 _ _ _ ih=>
  intro a ha;rcases List.mem_cons.mp ha with rfl|ha
  ·exact⟨_,h1⟩
  ·exact ih a ha
theorem Inn.wr{K:FrG}{H R:Hp}{as:List Addr}{dss:List (List D)}{b:Addr}{o:HO}(h:Inn K H R as dss)(n:b∉as):Inn K (upd H b o) R as dss:=by
 induction h with
 |nil=>exact .nil
 | cons h1 h2 h3 _ ih=>
  exact .cons (by rw[q0j λq=>n (by rw[q];exact jk)];exact h1) h2 h3 (ih λq=>n (jj _ q))
theorem Inn.len{K:FrG}{H R:Hp}{as:List Addr}{dss:List (List D)}(h:Inn K H R as dss):as.length=dss.length:=by
 induction h with
 |nil=>rfl
 |cons _ _ _ _ ih=>rw[ju,ju,ih]
theorem Inn.at{K:FrG}{H R:Hp}{as:List Addr}{dss:List (List D)}(h:Inn K H R as dss):∀{k:Nat} {a:Addr},as[k]? =some a->∃vs ds,dss[k]? =some ds/\H a=some (.lst vs)/\R a=none/\Rps K R vs ds:=by
 induction h with
 |nil=>intro k a e;simp at e
 | cons h1 h2 h3 _ ih=>
  intro k a e;cases k with
  | zero=>
   cases e;exact⟨_,_,rfl,h1,h2,h3⟩
  |succ k=>exact ih e
theorem Inn.setAt{K:FrG}{H R:Hp}{as:List Addr}{dss:List (List D)}{vs:List V}{ds:List D}(h:Inn K H R as dss)(r:Rps K R vs ds):∀{k:Nat} {a:Addr},as.Nodup->as[k]? =some a->Inn K (upd H a (.lst vs)) R as (dss.set k ds):=by
 induction h with
 |nil=>intro k a _ e;simp at e
 | @cons b _ _ _ _ h1 h2 h3 t ih=>
  intro k a nd e;obtain⟨n1,n2⟩:=List.nodup_cons.mp nd;cases k with
  | zero=>
   cases e;exact .cons q0m h2 r (t.wr n1)
  | succ k=>
   rw[List.getElem?_cons_succ]at e;have m:=xm e;have ne:b≠a:=λq=>n1 (by rw[q];exact m);exact .cons (by rw[q0j ne];exact h1) h2 h3 (ih n2 e)
theorem Deep.setAt{K:FrG}{H R:Hp}{l a:Addr}{as:List Addr}{dss:List (List D)}{vs:List V}{ds:List D}{k:Nat}(h:Deep K H R l as dss)(e:as[k]? =some a)(r:Rps K R vs ds):Deep K (upd H a (.lst vs)) R l as (dss.set k ds):=by obtain⟨n1,n2⟩:=List.nodup_cons.mp h.nd;have ne:l≠a:=λq=>n1 (by rw[q];exact xm e);exact⟨by rw[q0j ne];exact h.top,h.rl,h.inn.setAt r n2 e,h.nd⟩
theorem Inn.other{K:FrG}{H R:Hp}{as:List Addr}{dss:List (List D)}{b:Addr}{o:HO}(h:Inn K H R as dss)(n:b∉as)(hb:R b=none):Inn K H (upd R b o) as dss:=by
 have s:Same R (upd R b o):=λa u e=>by
  have q:a≠b:=λq=>by rw[q,hb]at e;cases e
  rw[q0j q];exact e
 induction h with
 |nil=>exact .nil
 | cons h1 h2 h3 _ ih=>
  exact .cons h1 (by rw[q0j λq=>n (by rw[q];exact jk)];exact h2) (h3.mono s) (ih λq=>n (jj _ q))
theorem StR.knowAll{K:FrG}{Z:Anc}{O:List Nat}{σ:St}{H:Hp}{ρ:Rho}:∀{as:List Addr} {dss:List (List D)} {R:Hp},StR K Z O σ H R ρ->Inn K H R as dss->as.Nodup->(∀a∈as,Z.H0 a=none/\∀j,j∈O->σ[j]? ≠some (some (.ref a)))->∃R1,StR K Z O σ H R1 ρ/\Same R R1/\Rps K R1 (as.map V.ref) (dss.map D.lst)/\∀b,b∉as->R1 b=R b
 | [],dss,R,S,h,_,_=>by
  have l:=h.len;cases dss with
  |cons x r=>simp at l
  |nil=>exact⟨R,S,Same.refl _,.nil,λ_ _=>rfl⟩
 | a::as,dss,R,S,h,nd,hz=>by
  cases h with
  | @cons _ _ vs ds dss h1 h2 h3 h4=>
   obtain⟨na,nd'⟩:=List.nodup_cons.mp nd;obtain⟨z1,z2⟩:=hz a jk;have s:Same R (upd R a (.lst vs)):=λb u e=>by
    have q:b≠a:=λq=>by rw[q,h2]at e;cases e
    rw[q0j q];exact e
   obtain⟨R1,S1,s1,r1,o1⟩:=StR.knowAll (S.know z1 h1 h2 z2) (h4.other na h2) nd' λb hb=>hz b (jj _ hb);refine⟨R1,S1,s.trans s1,.cons (.lst (SqL.of (s1 _ _ q0m)) ((h3.mono s).mono s1)) r1,λb hb=>?_⟩;have hb1:b≠a:=λq=>hb (by rw[q];exact jk);rw[o1 b λq=>hb (jj _ q),q0j hb1]
theorem Inn.stp{K:FrG}{O:List Nat}{σ:St}{H R H' R':Hp}{as:List Addr}{dss:List (List D)}(h:Inn K H R as dss)(s:Stp O σ H R H' R')(ow:∀a∈as,∀j,j∈O->σ[j]? ≠some (some (.ref a))):Inn K H' R' as dss:=by
 induction h with
 |nil=>exact .nil
 | @cons a as vs ds dss h1 h2 h3 _ ih=>
  refine .cons (s.h _ _ h1 (ow a jk)) ?_ (h3.mono s.r) (ih λb hb=>ow b (jj _ hb));cases q:R' a with
  |none=>rfl
  | some o=>
   rcases s.n a (by rw[q];exact λz=>nomatch z)with z|z
   ·exact absurd h2 z
   ·rcases z with z|⟨xs,z⟩<;>(rw[h1]at z;cases z)
structure StD(K:FrG)(Z:Anc)(O:List Nat)(i:Nat)(σ:St)(H R:Hp)(ρ:Rho)(l:Addr)(as:List Addr)(dss:List (List D)):Prop where
 st:StR K Z O σ H R ρ
 hi:i∉O
 no:ρ[i]? =some none
 at':σ[i]? =some (some (.ref l))
 dp:Deep K H R l as dss
 z0:∀a∈l::as,Z.H0 a=none
 ow:∀a∈l::as,∀j,j∈O->σ[j]? ≠some (some (.ref a))
section
variable{K:FrG}{Z:Anc}{O:List Nat}{i j:Nat}{σ:St}{H R H' R':Hp}{ρ ρ':Rho}{l:Addr}{as:List Addr}{dss:List (List D)}
theorem StD.stp(S:StD K Z O i σ H R ρ l as dss)(T:StR K Z O σ H' R' ρ')(s:Stp O σ H R H' R')(no:ρ'[i]? =some none):StD K Z O i σ H' R' ρ' l as dss:=by
 refine⟨T,S.hi,no,S.at',⟨s.h _ _ S.dp.top (S.ow l jk),?_,S.dp.inn.stp s λa ha=>S.ow a (jj _ ha),S.dp.nd⟩,S.z0,S.ow⟩;cases q:R' l with
 |none=>rfl
 | some o=>
  rcases s.n l (by rw[q];exact λz=>nomatch z)with z|z
  ·exact absurd S.dp.rl z
  ·rcases z with z|⟨xs,z⟩<;>(rw[S.dp.top]at z;cases z)
theorem StD.set(S:StD K Z O i σ H R ρ l as dss){v:V}{d:D}(hj:j∉O)(ij:j≠i)(r:Rp K R v d):StD K Z O i (σ.set j (some v)) H R (ρ.set j (some d)) l as dss:=
 ⟨S.st.set hj r,S.hi,by rw[ji ij];exact S.no,by rw[ji ij];exact S.at',S.dp,S.z0,λa ha k hk=>by rw[ji λ(q:j=k)=>hj (q▸hk)];exact S.ow a ha k hk⟩
theorem StR.weak(S:StR K Z O σ H R ρ)(hl:ρ'.length=ρ.length)(he:∀j d,j∉O->ρ'[j]? =some (some d)->ρ[j]? =some (some d))(ho:∀j,j∈O->ρ'[j]? =ρ[j]?):StR K Z O σ H R ρ':=
 ⟨S.sub,by rw[hl];exact S.len,λj d hj e=>S.env j d hj (he j d hj e),λj hj=>by rw[ho j hj];exact S.own j hj,S.dis,S.ah,S.ar,S.an,S.ad,S.ao,S.ap⟩
theorem StR.blind{v:V}(S:StR K Z O σ H R ρ)(hj:j∉O):StR K Z O (σ.set j (some v)) H R (ρ.set j none):=by
 have ne:∀k,k∈O->j≠k:=λk hk z=>hj (z▸hk);refine⟨S.sub,by rw[jw,jw];exact S.len,λk e hk q=>?_,λk hk=>?_,λk m hk hm n l e=>?_,S.ah,S.ar,S.an,S.ad,λk hk hp l e=>?_,λk hk hp l e=>?_⟩
 ·by_cases hij:j=k
  ·subst hij;have hl:j<ρ.length:=by
    have:=(List.getElem?_eq_some_iff.mp q).1
    rwa [jw]at this
   rw[jn hl]at q;cases q
  ·rw[ji hij]at q ⊢;exact S.env k e hk q
 ·rw[ji (ne k hk),ji (ne k hk)];exact S.own k hk
 ·rw[ji (ne k hk)]at e;rw[ji (ne m hm)];exact S.dis k m hk hm n l e
 ·rw[ji (ne k hk)]at e;exact S.ao k hk hp l e
 ·rw[ji (ne k hk)]at e;exact S.ap k hk hp l e
theorem StD.wrAt{k:Nat}{a:Addr}{vs:List V}{ds:List D}(S:StD K Z O i σ H R ρ l as dss)(e:as[k]? =some a)(r:Rps K R vs ds):StD K Z O i σ (upd H a (.lst vs)) R ρ l as (dss.set k ds):=by have m:a∈l::as:=jj _ (xm e);obtain⟨_,_,_,_,hr,_⟩:=S.dp.inn.at e;exact⟨S.st.put hr (λj hj=>S.ow a m j hj) (S.z0 a m),S.hi,S.no,S.at',S.dp.setAt e r,S.z0,S.ow⟩
end
abbrev Fd:=Rho->List (List D)->Option (Rho×List (List D))
def MSD(K:FrG)(O:List Nat)(i:Nat)(t:TS)(f:Fd):Prop:=∀(Z:Anc) (E:Ends) (σ:St) (H R:Hp) (ρ:Rho) (l:Addr) (as:List Addr) (dss:List (List D)) (ρ':Rho) (zx:List (List D)),StD K Z O i σ H R ρ l as dss->f ρ dss=some (ρ',zx)->
 (∀σ' H' R' as',StD K Z O i σ' H' R' ρ' l as' zx->Same R R'->E.nx σ' H')->t E σ H
section
variable{K:FrG}{O:List Nat}{i j:Nat}{t u:TS}{te:TE}{tt:TT}{tr:TA}{f h:Fd}{fe:RhD}{fs:RhL}{ft:RhB}
def isFree(ρ:Rho)(i:Nat):Bool:=match ρ[i]? with
 |some none=>true
 |_=>false
theorem q2a{ρ:Rho}{i:Nat}(h:isFree ρ i=true):ρ[i]? =some none:=by
 unfold isFree at h;split at h
 ·assumption
 ·cases h
end
def spD(K:FrG)(n:Nat)(f:List D->Option (List (List D))):Sp:=λvs H Q _=>vs.length=n/\∃R ds dss,(∀a o,R a=some o->H a=some o)/\Rps K R vs ds/\f ds=some dss/\
 ∀l as H' R',Ext H R H' R'->(∀a∈l::as,H a=none)->Deep K H' R' l as dss->Q (.ref l) H'
def qdw(o:Option (List (List D))):Option D:=o.map λdss=>.lst (dss.map D.lst)
theorem Deep.known{K:FrG}{H R H' R':Hp}{l:Addr}{as:List Addr}{dss:List (List D)}(x:Ext H R H' R')(z:∀a∈l::as,H a=none)(h:Deep K H' R' l as dss):∃R1,Ext H R H' R1/\Rp K R1 (.ref l) (.lst (dss.map D.lst)):=by
 have S:StR K ⟨H,R,λ_=>False,[]⟩ [] [] H' R' []:=⟨x.s,rfl,λi d _ q=>by simp at q,λi hi=>(nomatch hi),λi j hi=>(nomatch hi),λa o q _=>x.h a o q,x.r,x.n,λa q=>x.h.liv q,λi hi=>(nomatch hi),λi hi=>(nomatch hi)⟩;obtain⟨nl,nd⟩:=List.nodup_cons.mp h.nd;obtain⟨R1,S1,s1,r1,o1⟩:=S.knowAll h.inn nd λa ha=>⟨z a (jj _ ha),λj hj=>(nomatch hj)⟩;have e1:R1 l=none:=by rw[o1 l nl];exact h.rl
 have S2:=S1.know (z l jk) h.top e1 λj hj=>(nomatch hj);exact⟨_,⟨λa o q=>S2.ah a o q (λz=>z),S2.ar,S2.sub,S2.an⟩,.lst (SqL.of q0m) (r1.mono (Same.new e1))⟩
theorem qtn{K:FrG}{n:Nat}{f:List D->Option (List (List D))}{vs:List V}{H:Hp}{Q:VK}{E:XK}(h:spP K false n (λds=>qdw (f ds)) vs H Q E):spD K n f vs H Q E:=by
 obtain⟨hn,R,ds,d,sub,r,e,k⟩:=h;have e:qdw (f ds)=some d:=e;cases q:f ds with
 |none=>rw[q]at e;cases e
 | some dss=>
  rw[q]at e;cases e;refine⟨hn,R,ds,dss,sub,r,q,λl as H' R' x z dp=>?_⟩;obtain⟨R1,x1,r1⟩:=dp.known x z;exact k _ H' R1 x1 r1
theorem qji{K:FrG}{Nms:List Str}{n:Nat}{H R:Hp}{vs:List V}{ds:List D}(hn:vs.length=n)(hl:ds.length=n)(sub:∀a o,R a=some o->H a=some o)(r:Rps K R vs ds):StR K ⟨H,R,λ_=>False,[]⟩ [] (start Nms vs) H R (ds.map some++List.replicate (Nms.length-n) none):=by
 refine⟨sub,?_,λi d _ q=>?_,λi hi=>absurd hi (by simp),λi j hi=>absurd hi (by simp),λa o q _=>q,Same.refl _,λa q=>.inl q,λa q=>.refl q,λi hi=>absurd hi (by simp),λi hi=>absurd hi (by simp)⟩
 ·unfold start;rw[jl,jl,j9,j9,jo,jo,hn,hl]
 ·obtain⟨v,h1,h2⟩:=r.get (q4j q);exact⟨v,q4i h1,h2⟩
theorem qhg{X:Cx}{K:FrG}(hK:X.K=K)(hc:X.calm=true):q4w X (.builtin "sum") (λxs H Q=>∃(p:Addr) (ns:List Int),xs=[.ref p]/\SqT K H p (ns.map V.int)/\Q (.int ns.sum) H):=by
 subst hK;intro z9 s σ H xs us Q I r h;obtain⟨p,ns,rfl,hq,q⟩:=h;obtain⟨u,rfl,ru⟩:=vals1 r;cases ru;obtain⟨its,rv,pl,hz⟩:=I.tuple hq;have hh:X.A.in1.handled=none:=I.ok.hd hc;have hl:s.heap.IsTuple p its.toArray:=pl;have hlt:p<s.heap.objs.size:=by obtain⟨_,e,_⟩:=hl;exact jb e
 refine call_sum_walkG (wpAny_pyIter_tuple hl ?_);refine⟨_,_,_,_,_,_,λi=>ns.getD i 0,rfl,Walks.tuple hh s.heap.objs.size p (jm hlt) its.toArray,⟨⟨_,jr _ rfl,rfl,rfl⟩,hl.push _⟩,λb hb=>?_,λi v hP=>q45 rv (by simpa using hP),λh' tk t' hk=>?_⟩
 ·show b<(s.heap.push _).objs.size;rw[xn];rcases List.mem_cons.mp hb with rfl|hb
  ·exact Nat.lt_succ_self _
  ·rw[List.mem_singleton.mp hb];exact Nat.lt_succ_of_lt hlt
 ·have len:its.toArray.size=ns.length:=by have:=rv.length;simp at this;simp;omega
  refine⟨.int ns.sum,H,I.kept (t':=tk) λb o e=>hk b o (λz=>?_) (jh _ e),⟨t',?_⟩,q⟩
  ·have:=jb e;rw[List.mem_singleton.mp z]at this;exact xh _ this
  ·rw[len,q5c ns _ (jg _),List.take_length]
def qaa:D->Option D
 |.tup xs=>(q2s xs).map λns=>.int ns.sum
 |_=>none
theorem qob{K:FrG}:qe4 K (λxs H Q=>∃(p:Addr) (ns:List Int),xs=[.ref p]/\SqT K H p (ns.map V.int)/\Q (.int ns.sum) H) qaa:=λH x d u Q r e k=>by
 unfold qaa at e;split at e
 ·rename_i ds;obtain⟨a,xs,rfl,h,q⟩:=r.isT;cases z:q2s ds with
  |none=>rw[z]at e;cases e
  | some ns=>
   rw[z]at e;cases e;have ex:=q5u q z;subst ex;exact⟨_,ns,rfl,SqT.of h,k _ (.int _)⟩
 ·cases e
section
variable{K:FrG}{O T:List Nat}{i:Nat}{t:TS}{te:TE}{tr:TA}{g:TG}{f:Fd}{fe:RhD}{fs:RhL}{fg:RhG}
def q5w(i:Nat)(fg:RhG)(f:Fd):List D->Fd
 |[],ρ,dss=>some (ρ,dss)
 | d::r,ρ,dss=>match fg d ρ with
  | some ρ1=>if isFree ρ1 i=true then(match f ρ1 dss with
   |some p=>q5w i fg f r p.1 p.2
   |none=>none)else none
  |none=>none
def qcl(i:Nat)(fg:RhG)(fi:RhL)(f:Fd):Fd:=λρ dss=>match fi ρ with
 |some (ds,ρ1)=>if isFree ρ1 i=true then q5w i fg f ds ρ1 dss else none
 |none=>none
theorem StD.tgt{Z:Anc}{σ σ':St}{H R:Hp}{ρ ρ':Rho}{l:Addr}{as:List Addr}{dss:List (List D)}(S:StD K Z O i σ H R ρ l as dss)(S':StR K Z O σ' H R ρ')(n:∀j,j∉T->σ'[j]? =σ[j]?)(hT:∀k∈i::O,k∉T)(no:ρ'[i]? =some none):StD K Z O i σ' H R ρ' l as dss:=
 ⟨S',S.hi,no,by rw[n i (hT i jk)];exact S.at',S.dp,S.z0,λa ha k hk=>by rw[n k (hT k (jj _ hk))];exact S.ow a ha k hk⟩
theorem qiv{wi:TI}{fi:RhL}{tb:TS}(hi:MI K O wi fi)(hg:MG K O T g fg)(hT:∀k∈i::O,k∉T)(hb:MSD K O i tb f):MSD K O i (tFor wi g tb) (qcl i fg fi f):=λZ E σ H R ρ l as dss ρ' zx S e k=>by
 unfold qcl at e;split at e
 ·rename_i ds ρ1 q;split at e
  ·rename_i z;have no:=q2a z;refine hi Z σ H R ρ ds ρ1 _ S.st q λJ H1 R1 S1 st1 ok=>?_;have S2:=S.stp S1 st1 no;refine⟨λn m σ' H'=>m=ds.length-n/\n<=ds.length/\∃R2 ρ2 as2 dss2,StD K Z O i σ' H' R2 ρ2 l as2 dss2/\Same R1 R2/\q5w i fg f (ds.drop n) ρ2 dss2=some (ρ',zx),⟨ds.length,by simp,Nat.zero_le _,R1,ρ1,as,dss,S2,Same.refl _,by rw[List.drop_zero];exact e⟩,?_⟩;rintro n m σ' H' ⟨rfl,hn,R2,ρ2,as2,dss2,S3,s3,e3⟩;obtain⟨o1,o2⟩:=ok H' R2 s3 S3.st.sub n;by_cases hlt:n<ds.length
   ·obtain⟨g1,g2⟩:=o2 ds[n] (jf hlt);rw[xx hlt]at e3;refine .inr ⟨g1,λσ3 H3=>∃R2 ρ2 as2 dss2,StD K Z O i σ3 H3 R2 ρ2 l as2 dss2/\Same R1 R2/\q5w i fg f (ds.drop (n+1)) ρ2 dss2=some (ρ',zx),?_,λx H3 y=>?_⟩
    ·rintro σ3 H3 ⟨R3,ρ3,as3,dss3,q1,q2,q3⟩;exact⟨ds.length-(n+1),by omega,rfl,hlt,R3,ρ3,as3,dss3,q1,q2,q3⟩
    ·obtain⟨R3,x3,r3⟩:=g2 x H3 y;have S4:=S3.stp (S3.st.ext x3) x3.stp S3.no;unfold q5w at e3;split at e3
     ·rename_i ρ4 e4;split at e3
      ·rename_i z4;have no4:=q2a z4;refine hg Z σ' H3 R3 ρ2 x ds[n] ρ4 _ S4.st r3 e4 λσ4 S5 n5=>?_;have S6:=S4.tgt S5 n5 hT no4;split at e3
       ·rename_i p e5;exact hb Z _ _ H3 R3 _ l as2 dss2 p.1 p.2 S6 e5 λσ5 H5 R5 as5 S7 s5=>⟨R5,p.1,as5,p.2,S7,(s3.trans x3.r).trans s5,e3⟩
       ·cases e3
      ·cases e3
     ·cases e3
   ·have en:n=ds.length:=by omega
    subst en;rw[List.drop_length]at e3;unfold q5w at e3;cases e3;exact .inl ⟨o1 rfl,k σ' H' R2 as2 S3 (st1.r.trans s3)⟩
  ·cases e
 ·cases e
def q7n(dss:List (List D))(n:Int)(d:D):Option (List (List D)):=if 0<=n then(match dss[n.toNat]? with
 |some ds=>if ds.length<sizeLine then some (dss.set n.toNat (ds++[d]))else none
 |none=>none)else none
def q53(i:Nat)(fe:RhD)(fs:RhL):Fd:=λρ dss=>match fe ρ with
 | some (.int n,ρ0)=>if isFree ρ0 i=true then(match fs ρ0 with
  |some ([d],ρ1)=>if isFree ρ1 i=true then(q7n dss n d).map λx=>(ρ1,x)else none
  |_=>none)else none
 |_=>none
theorem qdk(he:ME K O te fe)(ha:MA K O tr fs):MSD K O i (q9g (tBM K "list" q8o (tOp (rIx K) (tVar i) te) tr)) (q53 i fe fs):=λZ E σ H R ρ l as dss ρ' zx S e k=>by
 unfold q53 at e;split at e
 ·rename_i n ρ0 q0;split at e
  ·rename_i z0;have no0:=q2a z0;split at e
   ·rename_i d ρ1 q;split at e
    ·rename_i z;have no:=q2a z;cases w:q7n dss n d with
     |none=>rw[w]at e;cases e
     | some x=>
      rw[w]at e;cases e;unfold q7n at w;split at w
      ·rename_i hn0;split at w
       ·rename_i ds w1;split at w
        ·rename_i w2;cases w;refine⟨.ref l,S.at',he Z σ H R ρ (.int n) ρ0 _ S.st q0 λv0 H0 R0 S0 st0 r0=>?_⟩;cases r0;have T0:=S.stp S0 st0 no0;have ln:=T0.dp.inn.len;have hk:n.toNat<as.length:=by rw[ln];exact(List.getElem?_eq_some_iff.mp w1).1
         have ea:as[n.toNat]? =some as[n.toNat]:=jf hk;obtain⟨vs,ds2,g1,g2,g3,g4⟩:=T0.dp.inn.at ea;rw[w1]at g1;cases g1;refine .inl ⟨l,_,n,.ref as[n.toNat],rfl,rfl,SqL.of T0.dp.top,?_,?_⟩
         ·unfold atI;have e1:ixN (as.map V.ref).length n=some n.toNat:=by
           rw[j9];unfold ixN;rw[if_pos hn0,if_pos (by omega)]
          rw[e1];show(as.map V.ref)[n.toNat]? =_;rw[je,ea];rfl
         ·refine⟨.inl ⟨rfl,vs,SqL.of g2⟩,ha Z σ H0 R0 ρ0 [d] _ _ T0.st q λws H1 R1 S1 st1 r1=>?_⟩;obtain⟨v,_,rfl,rv,rn⟩:=r1.isC;cases rn;have S2:=T0.stp S1 st1 no;obtain⟨vs2,ds3,g1,g2,g3,g4⟩:=S2.dp.inn.at ea;rw[w1]at g1;cases g1;exact⟨_,vs2,v,rfl,rfl,g2,by rw[g4.length];exact w2,k σ _ R1 as (S2.wrAt ea (g4.snoc rv)) (st0.r.trans st1.r)⟩
        ·cases w
       ·cases w
      ·cases w
    ·cases e
   ·cases e
  ·cases e
 ·cases e
end
def qkj(i n:Nat)(js:List Nat)(wi:TI)(t:TS):TS:=tSeq (qfd i n js wi (q41 0) tYes (tLst tNil)) (tSeq t (tRet (tVar i)))
theorem Inn.empty{K:FrG}{H R:Hp}:∀{as:List Addr},(∀a∈as,H a=some (.lst []))->(∀a∈as,R a=none)->Inn K H R as (List.replicate as.length [])
 |[],_,_=>.nil
 |a::as,h,r=>.cons (h a jk) (r a jk) .nil (Inn.empty (λb hb=>h b (jj _ hb)) λb hb=>r b (jj _ hb))
theorem qdv{K:FrG}{i n:Nat}{js:List Nat}{wi:TI}{fi:RhL}{t:TS}{f:Fd}{H R H1 R1:Hp}{σ:St}{ρ ρ1:Rho}{ds:List D}{dss:List (List D)}{Q:VK}(hw:MI K [] wi fi)(hm:MSD K [] i t f)(S:StR K ⟨H,R,λ_=>False,[]⟩ [] σ H1 R1 ρ)(e1:fi ρ=some (ds,ρ1))(hl:i<ρ1.length)(hz:ds.length<=sizeLine){ρ':Rho}(e:f (ρ1.set i none) (List.replicate ds.length [])=some (ρ',dss))
 (k:∀l as H' R',Ext H R H' R'->(∀a∈l::as,H a=none)->Deep K H' R' l as dss->Q (.ref l) H'):qkj i n js wi t {nx:=λ_ H'=>Q .non H',rt:=Q} σ H1:=by
 refine hw _ σ H1 R1 ρ ds ρ1 _ S e1 λJ H2 R2 S2 st2 ok=>?_;refine⟨λc m ys H3=>m=ds.length-c/\c<=ds.length/\∃(R3:Hp) (as:List Addr),ys=as.map V.ref/\as.length=c/\as.Nodup/\(∀a∈as,H a=none)/\(∀a∈as,H3 a=some (.lst []))/\(∀a∈as,R3 a=none)/\Same R2 R3/\StR K ⟨H,R,λ_=>False,[]⟩ [] σ H3 R3 ρ1,
  ⟨ds.length,by simp,Nat.zero_le _,R2,[],rfl,rfl,List.nodup_nil,λ_ h=>(nomatch h),λ_ h=>(nomatch h),λ_ h=>(nomatch h),Same.refl _,S2⟩,?_⟩
 rintro c m ys H3 ⟨rfl,hc,R3,as,rfl,la,nd,a1,a2,a3,s3,S3⟩;obtain⟨o1,o2⟩:=ok H3 R3 s3 S3.sub c;by_cases hlt:c<ds.length
 ·obtain⟨g1,g2⟩:=o2 ds[c] (jf hlt);refine .inr ⟨g1,by rw[j9];omega,λys' H'=>∃(R3:Hp) (as:List Addr),ys'=as.map V.ref/\as.length=c+1/\as.Nodup/\(∀a∈as,H a=none)/\(∀a∈as,H' a=some (.lst []))/\(∀a∈as,R3 a=none)/\Same R2 R3/\StR K ⟨H,R,λ_=>False,[]⟩ [] σ H' R3 ρ1,?_,λx H4 y=>?_⟩
  ·rintro ys' H' ⟨R4,as4,q⟩;exact⟨ds.length-(c+1),by omega,rfl,hlt,R4,as4,q⟩
  ·obtain⟨R4,x4,r4⟩:=g2 x H4 y;have S4:=S3.ext x4;dsimp only[q41,tYes];rw[if_pos rfl];refine⟨by show 0<=sizeLine;exact Nat.zero_le _,λp hp=>?_⟩;have b2:∀a∈as,H4 a=some (.lst []):=λa ha=>x4.h a _ (a2 a ha);have np:p∉as:=λq=>by have:=b2 p q;rw[hp]at this;cases this
   have b3:∀a∈as,R4 a=none:=λa ha=>by
    cases q:R4 a with
    |none=>rfl
    | some o=>
     rcases x4.n a (by rw[q];exact λz=>nomatch z)with z|z
     ·exact absurd (a3 a ha) z
     ·rcases z with z|⟨xs,z⟩<;>(rw[a2 a ha]at z;cases z)
   refine⟨R4,as++[p],by rw[x8];rfl,by rw[jl,la];rfl,List.nodup_append.mpr ⟨nd,by simp,λu hu v hv q=>np (by rw[List.mem_singleton.mp hv]at q;exact q▸hu)⟩,λa ha=>?_,λa ha=>?_,λa ha=>?_,s3.trans x4.r,S4.ext (Ext.hid S4.sub hp)⟩
   ·rcases List.mem_append.mp ha with ha|ha
    ·exact a1 a ha
    ·rw[List.mem_singleton.mp ha];exact S4.new0 hp
   ·rcases List.mem_append.mp ha with ha|ha
    ·rw[q0j λq=>np (by rw[<-q];exact ha)];exact b2 a ha
    ·rw[List.mem_singleton.mp ha];exact q0m
   ·rcases List.mem_append.mp ha with ha|ha
    ·exact b3 a ha
    ·rw[List.mem_singleton.mp ha];exact S4.out hp
 ·have ec:c=ds.length:=by omega
  subst ec;refine .inl ⟨o1 rfl,by rw[j9,la];exact hz,λp hp=>?_⟩;have np:p∉as:=λq=>by have:=a2 p q;rw[hp]at this;cases this
  have x:=Ext.hid (o:=.lst (as.map V.ref)) S3.sub hp;have S4:=S3.ext x;have T:StD K ⟨H,R,λ_=>False,[]⟩ [] i (σ.set i (some (.ref p))) (upd H3 p (.lst (as.map V.ref))) R3 (ρ1.set i none) p as (List.replicate ds.length []):=by
   refine⟨S4.blind (by simp),by simp,List.getElem?_set_self hl,List.getElem?_set_self (by rw[S3.len];exact hl),⟨q0m,S3.out hp,?_,List.nodup_cons.mpr ⟨np,nd⟩⟩,λa ha=>?_,λa ha j hj=>(nomatch hj)⟩
   ·rw[<-la];exact Inn.empty (λa ha=>by rw[q0j λq=>np (by rw[<-q];exact ha)];exact a2 a ha) a3
   ·rcases List.mem_cons.mp ha with ha|ha
    ·rw[ha];exact S3.new0 hp
    ·exact a1 a ha
  refine hm _ _ _ _ R3 _ p as _ ρ' dss T e λσ' H' R' as' S' s'=>?_;exact⟨.ref p,S'.at',k p as' H' R' ⟨λa o q=>S'.st.ah a o q (λz=>z),S'.st.ar,S'.st.sub,S'.st.an⟩ S'.z0 S'.dp⟩
def qax(n N i:Nat)(fi:RhL)(f:Fd)(ds:List D):Option (List (List D)):=if ds.length=n then match fi (ds.map some++List.replicate (N-n) none)with
 | some (xs,ρ1)=>if i<ρ1.length/\xs.length<=sizeLine then(match f (ρ1.set i none) (List.replicate xs.length [])with
  |some p=>some p.2
  |none=>none)else none
 |none=>none
 else none
theorem qm4{n N i:Nat}{fi:RhL}{f:Fd}:q1t n (λds=>qdw (qax n N i fi f ds)):=λds d e=>by
 have e:qdw (qax n N i fi f ds)=some d:=e;unfold qax at e;split at e
 ·assumption
 ·cases e
theorem qek{K:FrG}{n i m:Nat}{js:List Nat}{Nms:List Str}{wi:TI}{fi:RhL}{t:TS}{f:Fd}{vs:List V}{H:Hp}{Q:VK}{E:XK}(hw:MI K [] wi fi)(hm:MSD K [] i t f)(h:spD K n (qax n Nms.length i fi f) vs H Q E):qkj i m js wi t {nx:=λ_ H'=>Q .non H',rt:=Q} (start Nms vs) H:=by
 obtain⟨hn,R,ds,dss,sub,r,e,k⟩:=h;unfold qax at e;split at e
 ·rename_i hl;split at e
  ·rename_i xs ρ1 e1;split at e
   ·rename_i hz;split at e
    ·rename_i p e2;cases e;exact qdv hw hm (qji hn hl sub r) e1 hz.1 hz.2 e2 k
    ·cases e
   ·cases e
  ·cases e
 ·cases e
section
variable{X:Cx}{K:FrG}{a tg:Expr}{ta:TE}{p pos:Pos}
end
section
variable{X:Cx}{K:FrG}{O:List Nat}{a:Expr}{ta:TE}{p p2 pos zz:Pos}{fa:RhD}
end
structure Kp(I S:Addr)(s0 s:Shared):Prop where
 heap:∀b o,b≠I->b≠S->s0.heap.get? b=some o->s.heap.get? b=some o
 gens:s.gens=s0.gens
 drawn:s.drawn=s0.drawn
 os:s.os=s0.os
structure Kq(s s':Shared):Prop where
 heap:∀b o,s.heap.get? b=some o->s'.heap.get? b=some o
 gens:s'.gens=s.gens
 drawn:s'.drawn=s.drawn
 os:s'.os=s.os
theorem Kp.on{I S:Addr}{s0 s s':Shared}(x:Kp I S s0 s)(heap:∀b o,b≠I->b≠S->s.heap.get? b=some o->s'.heap.get? b=some o)(g:s'.gens=s.gens)(d:s'.drawn=s.drawn)(o:s'.os=s.os):Kp I S s0 s':=
 ⟨λb u h1 h2 e=>heap b u h1 h2 (x.heap b u h1 h2 e),g.trans x.gens,d.trans x.drawn,o.trans x.os⟩
def CmpK(prog:Program)(w:World)(A:Around)(I S:Addr)(s0:Shared)(its:Array Value)(bt:Nat->Nat->Bool):Prop:=
 ∀(i j:Nat) (vi vj:Value) (s:Shared) (Q:Value->Shared->Prop) (E:Value->Shared->Prop),its[i]? =some vi->its[j]? =some vj->Kp I S s0 s->(∀s',Kq s s'->Q (.bool (bt i j)) s')->wpAny (model prog w) A (richCompare .Lt vi vj) Q E s
section
variable{prog:Program}{w:World}{A:Around}{R:Result->Shared->Prop}{I S l:Addr}{its:Array Value}{s0:Shared}{bt:Nat->Nat->Bool}{kw:List (Str×Value)}
abbrev StL(I l:Addr)(its:Array Value)(i:Nat)(h:Heap):Prop:=h.IsListIter I l i/\h.IsList l its
theorem StL.keep{i:Nat}{h h':Heap}(st:StL I l its i h)(k:∀b o,b=I∨b=l->h.get? b=some o->h'.get? b=some o):StL I l its i h':=by obtain⟨⟨o,e,c⟩,⟨o2,e2,c2⟩⟩:=st;exact⟨⟨o,k I o (.inl rfl) e,c⟩,⟨o2,k l o2 (.inr rfl) e2,c2⟩⟩
end
section
open PySem.SeqAt PySem.MeetsSeq PySem.MeetsSeq2 PySem.MeetsSeq3
theorem q3q{M:Model}{A:Around}{E:Value->Shared->Prop}{s:Shared}{l:Addr}{zb:Array Value}{n:Nat}{dd:Option Addr}{sl:Array (Option Value)}{Q:Array Value->Shared->Prop}(h:s.heap.get? l=some {cls:=.type "list",dict:=dd,data:=.seq zb n,slots:=sl})(q:Q zb s):wpAny M A (Builtin.List.listItems (.ref l)) Q E s:=by unfold Builtin.List.listItems;exact j8 (xo h rfl (jc q))
theorem q68:∀{vs:List Value} {ns:List Int},IntsAre vs ns->∀{i:Nat} {a:Int},ns[i]? =some a->∃t,vs[i]? =some (.int a t):=by
 intro vs ns h;induction h with
 |nil=>intro i a e;simp at e
 | cons a t _ ih=>
  intro i b e;cases i with
  |zero=>cases e;exact⟨t,rfl⟩
  |succ i=>exact ih e
theorem qn8(l b:Addr)(zb zc:Array Value)(n n2:Nat)(dd dd2:Option Addr)(sl sl2:Array (Option Value))(ns ms:List Int)(hi:IntsAre zb.toList ns)(hj:IntsAre zc.toList ms)(hl:ns.length=ms.length):
 ∀(k i:Nat),ns.length-i=k->i<=ns.length->Meets (Builtin.«list.__eq__.loop» ⟨[.ref l,.ref b,rawInt i,rawInt 0],[]⟩)
   (λ_ R s=>s.heap.get? l=some {cls:=.type "list",dict:=dd,data:=.seq zb n,slots:=sl}/\s.heap.get? b=some {cls:=.type "list",dict:=dd2,data:=.seq zc n2,slots:=sl2}/\
     R (.ok (.ret (.bool (HT.lexLt (ns.drop i) (ms.drop i))))) s):=by
 have z1:zb.size=ns.length:=by rw[<-hi.length];simp
 have z2:zc.size=ms.length:=by rw[<-hj.length];simp
 intro k;induction k with
 | zero=>
  intro i hk hle prog w A R s h;obtain⟨h1,h2,h⟩:=h;have e1:zb[i]? =none:=Array.getElem?_eq_none (by omega);rw[List.drop_eq_nil_of_le (as:=ns) (by omega),List.drop_eq_nil_of_le (as:=ms) (by omega)]at h;show wpAny _ _ (Builtin.List.listItems (.ref l) >>= _) _ _ s;refine j8 (q3q h1 (j8 (q3q h2 ?_)));simp only[Int.toNat_natCast,e1];refine j8 (q3q h1 (j8 (q3q h2 (jc ?_))));have ez:zb.size=zc.size:=by omega
  show R (.ok (.ret (.bool (decide (zb.size<zc.size))))) s;rw[ez,decide_eq_false (xh _)];exact h
 | succ k ih=>
  intro i hk hle prog w A R s h;obtain⟨h1,h2,h⟩:=h;have lt1:i<ns.length:=by omega
  have lt2:i<ms.length:=by omega
  obtain⟨t,e1⟩:=q68 hi (jf lt1);obtain⟨u,e2⟩:=q68 hj (jf lt2);have e1:zb[i]? =some (.int ns[i] t):=by simpa using e1
  have e2:zc[i]? =some (.int ms[i] u):=by simpa using e2
  rw[xx lt1,xx lt2,HT.lexLt_cons]at h;show wpAny _ _ (Builtin.List.listItems (.ref l) >>= _) _ _ s;refine j8 (q3q h1 (j8 (q3q h2 ?_)));simp only[Int.toNat_natCast,e1,e2];obtain⟨e,he,hiff⟩:=HT.eqAt_int A.in1 s ns[i] t ms[i] u;refine j8 (he prog w _ _ ?_);cases e with
  | true=>
   rw[if_pos (hiff.mp rfl)]at h;simp only[if_true];refine jc ⟨plainId_quiet plain_eq_loop _,?_⟩;refine codeAny_builtin entry_eq_loop ?_;rw[kv plain_eq_loop];have ei:rawInt ((i:Int)+1)=rawInt ((i+1:Nat):Int):=by rw[Int.natCast_add];rfl
   rw[ei];exact ih (i+1) (by omega) (by omega) prog w A R s ⟨h1,h2,h⟩
  | false=>
   rw[if_neg (λq=>absurd (hiff.mpr q) Bool.false_ne_true)]at h;simp only[Bool.false_eq_true,if_false];refine j8 (q3q h1 (j8 (q3q h2 ?_)));simp only[e1,e2];refine j8 (HT.rcLt_int A.in1 s _ t _ u prog w _ _ ?_);exact jc h
theorem q9z(l b:Addr)(zb zc:Array Value)(n n2:Nat)(dd dd2:Option Addr)(sl sl2:Array (Option Value))(ns ms:List Int)(hi:IntsAre zb.toList ns)(hj:IntsAre zc.toList ms)(hl:ns.length=ms.length):
 Meets (Builtin.«list.__lt__» ⟨[.ref l,.ref b],[]⟩)
  (λ_ R s=>s.heap.get? l=some {cls:=.type "list",dict:=dd,data:=.seq zb n,slots:=sl}/\s.heap.get? b=some {cls:=.type "list",dict:=dd2,data:=.seq zc n2,slots:=sl2}/\
    R (.ok (.ret (.bool (HT.lexLt ns ms)))) s):=λprog w A R s h=>by
 obtain⟨h1,h2,h⟩:=h;have ty:s.TypeIs (.ref b) "list":=⟨_,h2,rfl⟩;show wpAny _ _ (isInstance (.ref b) (.type "list") >>= _) _ _ s;refine j8 (wpAny_isInstance ty (b:=true) sub_list_self ?_);show wpAny _ _ (again (.builtin "list.__eq__.loop" ⟨[.ref l,.ref b,rawInt 0,rawInt 0],[]⟩)) _ _ s;refine jc ⟨plainId_quiet plain_eq_loop _,?_⟩;refine codeAny_builtin entry_eq_loop ?_;rw[kv plain_eq_loop];exact qn8 l b zb zc n n2 dd dd2 sl sl2 ns ms hi hj hl _ 0 rfl (Nat.zero_le _) prog w A R s ⟨h1,h2,h⟩
end
section
variable{prog:Program}{w:World}{A:Around}{E:Value->Shared->Prop}{s:Shared}
theorem qfj{l b:Addr}{zb zc:Array Value}{ns ms:List Int}{Q:Value->Shared->Prop}(hl:s.heap.IsList l zb)(hb:s.heap.IsList b zc)(hi:IntsAre zb.toList ns)(hj:IntsAre zc.toList ms)(hn:ns.length=ms.length)
 (hu:A.units<cLine) (h:Q (.bool (HT.lexLt ns ms)) s):wpAny (model prog w) A (richCompare .Lt (.ref l) (.ref b)) Q E s:=by
 obtain⟨⟨cls,dd,data,sl⟩,ho,hc,n,hd⟩:=id hl;obtain⟨⟨cls2,dd2,data2,sl2⟩,ho2,hc2,n2,hd2⟩:=id hb;simp only at hc hd hc2 hd2;subst hc hd hc2 hd2;exact richCompare_meets_room (op:=.Lt) ⟨_,ho,rfl⟩ ⟨_,ho2,rfl⟩ PySem.F.slot_list_lt PySem.F.entry_list_lt (PySem.F.args_list_lt_2 _ _) (q9z l b zb zc n n2 dd dd2 sl sl2 ns ms hi hj hn)
  ⟨ho,ho2,show Value.bool (HT.lexLt ns ms)≠Value.notImplemented/\Q (.bool (HT.lexLt ns ms)) s from⟨(λx=>nomatch x),h⟩⟩ hu
end
inductive Cmps(A:Around)(s:Shared):List Value->List Value->Bool->Prop
 |nil:Cmps A s [] [] false
 |eq {x y:Value} {vs ws:List Value} {r:Bool}:SeqAt.EqAt A s x y true->Cmps A s vs ws r->Cmps A s (x::vs) (y::ws) r
 |ne {x y:Value} {vs ws:List Value} {r:Bool}:SeqAt.EqAt A s x y false->(∀(prog:Program) (w:World) (E Q:Value->Shared->Prop),Q (.bool r) s->wpAny (model prog w) A (richCompare .Lt x y) Q E s)->vs.length=ws.length->Cmps A s (x::vs) (y::ws) r
theorem Cmps.len{A:Around}{s:Shared}{vs ws:List Value}{r:Bool}(h:Cmps A s vs ws r):vs.length=ws.length:=by
 induction h with
 |nil=>rfl
 |eq _ _ ih=>rw[ju,ju,ih]
 |ne _ _ e=>rw[ju,ju,e]
section
open PySem.SeqAt
open PySem.AutoSeq1 (wpAny_loadPart')
open PySem.MeetsSeq PySem.MeetsSeq2 PySem.MeetsSeq3
theorem q9e(l b:Addr)(zb zc:Array Value)(n n2:Nat)(dd dd2:Option Addr)(sl sl2:Array (Option Value))(r:Bool):
 Meets (Builtin.«tuple.__lt__» ⟨[.ref l,.ref b],[]⟩)
  (λA R s=>s.heap.get? l=some {cls:=.type "tuple",dict:=dd,data:=.seq zb n,slots:=sl}/\s.heap.get? b=some {cls:=.type "tuple",dict:=dd2,data:=.seq zc n2,slots:=sl2}/\
    Cmps A.in1 s zb.toList zc.toList r/\R (.ok (.ret (.bool r))) s):=
 .of_wp λprog w A R s h=>by
  obtain⟨hp,g,d,tk,os⟩:=s;obtain⟨hl,hb,hC,h⟩:=h;have f2:=AutoSeq1.sub_tuple_tuple;have z:zb.size=zc.size:=by have:=hC.len;simpa using this
  wp_walk using ki hl,ki hb,wpAny_forIn_list _ (λzm b s'=>b.1=none/\s'=⟨hp,g,d,tk,os⟩/\∃(vs ws:List Value),zm=vs.zip ws/\
   Cmps A.in1 ⟨hp,g,d,tk,os⟩ vs ws r) _
  case turn=>
   rintro⟨y,x⟩ zm b s' ⟨hb',rfl,vs,ws,hz,hv⟩;cases hv with
   |nil=>cases hz
   | eq he hr=>
    rw[List.zip_cons_cons]at hz;injection hz with hyx hrest;injection hyx with hy hx;subst hy hx;refine j8 (he prog w _ _ ?_)
    wp_walk
    exact⟨rfl,rfl,_,_,hrest,hr⟩
   | ne he hc hl'=>
    rw[List.zip_cons_cons]at hz;injection hz with hyx hrest;injection hyx with hy hx;subst hy hx;refine j8 (he prog w _ _ ?_);have hri:=hc prog w
    wp_walk using hri
    exact⟨_,rfl,by simpa using h⟩
  case fin=>
   rintro⟨b1,b2⟩ s' ⟨hb',rfl,vs,ws,hz,hv⟩;simp only at hb';subst hb';cases hv with
   | nil=>
    wp_walk
    exact⟨_,rfl,by simpa[Builtin.Tuple.tupleCompareSizes,z]using h⟩
   |eq he hr=>rw[List.zip_cons_cons]at hz;cases hz
   |ne he hc hl'=>rw[List.zip_cons_cons]at hz;cases hz
  case h=>
   exact⟨rfl,rfl,zb.toList,zc.toList,rfl,hC⟩
end
section
variable{prog:Program}{w:World}{A:Around}{E:Value->Shared->Prop}{s:Shared}
theorem qi9{l b:Addr}{zb zc:Array Value}{r:Bool}{Q:Value->Shared->Prop}(hl:IsTup s.heap l zb)(hb:IsTup s.heap b zc)(hC:Cmps A.in1 s zb.toList zc.toList r)
 (hu:A.units<cLine) (h:Q (.bool r) s):wpAny (model prog w) A (richCompare .Lt (.ref l) (.ref b)) Q E s:=by
 obtain⟨⟨cls,dd,data,sl⟩,ho,hc,n,hd⟩:=id hl;obtain⟨⟨cls2,dd2,data2,sl2⟩,ho2,hc2,n2,hd2⟩:=id hb;simp only at hc hd hc2 hd2;subst hc hd hc2 hd2;exact richCompare_meets_room (op:=.Lt) ⟨_,ho,rfl⟩ ⟨_,ho2,rfl⟩ PySem.F.slot_tuple_lt PySem.F.entry_tuple_lt (PySem.F.args_tuple_lt_2 _ _) (q9e l b zb zc n n2 dd dd2 sl sl2 r)
  ⟨ho,ho2,hC,show Value.bool r≠Value.notImplemented/\Q (.bool r) s from⟨(λx=>nomatch x),h⟩⟩ hu
end
theorem q50:∀ns:List Int,HT.lexLt ns ns=false
 |[]=>rfl
 |n::ns=>by rw[HT.lexLt_cons,if_pos rfl,q50 ns]
theorem qgw{A:Around}{s:Shared}{l b:Addr}{vs ws:List Value}{ns ms:List Int}(hl:s.heap.IsList l vs.toArray)(hb:s.heap.IsList b ws.toArray)(hi:IntsAre vs ns)(hj:IntsAre ws ms)(hn:ns.length=ms.length)(hu:A.units<cLine):SeqAt.EqAt A s (.ref l) (.ref b) (decide (ns=ms)):=by
 by_cases q:l=b
 ·subst q;have e:vs=ws:=by
   obtain⟨o,e1,c1,n1,d1⟩:=hl;obtain⟨o2,e2,c2,n2,d2⟩:=hb;rw[e1]at e2;cases e2;rw[d1]at d2;injection d2 with d3 _;simpa using d3
  subst e;have en:ns=ms:=by
   apply List.ext_getElem?;intro i;by_cases h:i<ns.length
   ·obtain⟨t,e1⟩:=q68 hi (jf h);obtain⟨u,e2⟩:=q68 hj (jf (show i<ms.length by omega));rw[e1]at e2;injection e2 with e3;injection e3 with e4 _;rw[jf h,jf (show i<ms.length by omega),e4]
   ·rw[xq (by omega),xq (by omega)]
  rw[decide_eq_true en];exact SeqAt.EqAt.same _
 ·have lv:vs.length=ns.length:=hi.length;have lw:ws.length=ms.length:=hj.length;have h:=SeqAt.RcAt.lists (A:=A) (e:=λj=>decide (ns[j]? =ms[j]?)) hl hb (by simp;omega) hu λj h1 h2=>by
   have h1':j<ns.length:=by simp at h1;omega
   have h2':j<ms.length:=by omega
   obtain⟨t,e1⟩:=q68 hi (jf h1');obtain⟨u,e2⟩:=q68 hj (jf h2');obtain⟨e,he,hiff⟩:=HT.eqAt_int A.in1 s ns[j] t ms[j] u;have g1:vs.toArray[j]=.int ns[j] t:=by have:=(List.getElem?_eq_some_iff.mp e1).2;simpa using this
   have g2:ws.toArray[j]=.int ms[j] u:=by have:=(List.getElem?_eq_some_iff.mp e2).2;simpa using this
   rw[g1,g2];have ee:decide (ns[j]? =ms[j]?)=e:=by
    rw[jf h1',jf h2'];cases e with
    |true=>simp[hiff.mp rfl]
    | false=>
     have:¬ns[j]=ms[j]:=λz=>absurd (hiff.mpr z) (by decide);simp[this]
   rw[ee];exact he
  have ea:(List.range vs.toArray.size).all (λj=>decide (ns[j]? =ms[j]?))=decide (ns=ms):=by
   rw[Bool.eq_iff_iff];simp only[List.all_eq_true,decide_eq_true_eq,List.mem_range,List.size_toArray];constructor
   ·intro z;apply List.ext_getElem?;intro i;by_cases hi:i<ns.length
    ·exact z i (by omega)
    ·rw[xq (by omega),xq (by omega)]
   ·intro z i _;rw[z]
  rw[ea]at h;exact SeqAt.EqAt.of_refs q h
def q6d(a c:Int)(ns ms:List Int):Bool:=if a=c then HT.lexLt ns ms else decide (a<c)
theorem q4l{prog:Program}{w:World}{A:Around}{E:Value->Shared->Prop}{s:Shared}{l b p q:Addr}{a c:Int}{t u:Tok}{vs ws:List Value}{ns ms:List Int}{Q:Value->Shared->Prop}(hl:IsTup s.heap l #[.int a t,.ref p])(hb:IsTup s.heap b #[.int c u,.ref q])(hp:s.heap.IsList p vs.toArray)(hq:s.heap.IsList q ws.toArray)(hi:IntsAre vs ns)(hj:IntsAre ws ms)(hn:ns.length=ms.length)
 (hu:A.units+1<cLine) (h:Q (.bool (q6d a c ns ms)) s):wpAny (model prog w) A (richCompare .Lt (.ref l) (.ref b)) Q E s:=by
 have hu1:A.in1.units<cLine:=hu;refine qi9 (r:=q6d a c ns ms) hl hb ?_ (by omega) h;obtain⟨e,he,hiff⟩:=HT.eqAt_int A.in1 s a t c u;unfold q6d;cases e with
 | true=>
  have eac:=hiff.mp rfl;rw[if_pos eac];refine .eq he ?_;have ee:=qgw (A:=A.in1) hp hq hi hj hn hu1;by_cases z:ns=ms
  ·rw[decide_eq_true z]at ee;subst z;rw[q50];exact .eq ee .nil
  ·rw[decide_eq_false z]at ee;exact .ne ee (λprog w E Q h=>qfj hp hq (by simpa using hi) (by simpa using hj) hn hu1 h) rfl
 | false=>
  rw[if_neg λz=>absurd (hiff.mpr z) (by decide)];exact .ne he (λprog w E Q h=>HT.rcLt_int A.in1 s a t c u prog w E Q h) rfl
section
variable{prog:Program}{w:World}{A:Around}{E:Value->Shared->Prop}{s:Shared}{Q:Value->Shared->Prop}{p:Addr}{its:Array Value}{bt:Nat->Nat->Bool}
end
theorem qld{X:Cx}{z9:List (Addr×Obj)}{σ:St}{H:Hp}{s s':Shared}(I:Inv X z9 σ H s)(k:Kq s s'):Inv X z9 σ H s':=by
 have es:s'={s with heap:=s'.heap,toks:=s'.toks}:=by obtain⟨h2,g2,d2,t2,o2⟩:=s';obtain⟨_,eg,ed,eo⟩:=k;cases eg;cases ed;cases eo;rfl
 rw[es];exact I.kept k.heap
def btI(ns:List Int):Nat->Nat->Bool:=λi j=>decide (ns.getD i 0<ns.getD j 0)
def minI(ns:List Int):Option Int:=match ns with
 |[]=>none
 |_=>some (ns.getD (argBest (btI ns) (ns.length-1)) 0)
section
variable{X:Cx}{K:FrG}{O:List Nat}{e:Expr}{d:Expr}{te:TE}{p kp pos:Pos}{fe:RhD}
def optI:Option Int->D
 |none=>.non
 |some m=>.int m
def qvd:D->Option D
 |.lst xs=>(q2s xs).map λns=>optI (minI ns)
 |_=>none
end
theorem qa1:∀a b c:List Int,HT.lexLt a b=true->HT.lexLt c b=false->HT.lexLt c a=false
 |[],[],_,h,_=>by cases h
 |[],_::_,[],_,g=>by cases g
 |[],_::_,_::_,_,_=>rfl
 |_::_,[],_,h,_=>by cases h
 |_::_,_::_,[],_,g=>by cases g
 | x::xs,y::ys,z::zs,h,g=>by
  rw[HT.lexLt_cons]at h g ⊢;by_cases q:x=y
  ·rw[if_pos q]at h;subst q;by_cases r:z=x
   ·rw[if_pos r]at g ⊢;exact qa1 xs ys zs h g
   ·rw[if_neg r]at g ⊢;exact g
  ·rw[if_neg q]at h;simp only[decide_eq_true_eq]at h;by_cases r:z=y
   ·rw[if_neg (by omega)];simp;omega
   ·rw[if_neg r]at g;simp only[decide_eq_false_iff_not]at g;rw[if_neg (by omega)];simp;omega
def qLt(x y:Int×List Int):Bool:=q6d x.1 y.1 x.2 y.2
theorem q4a(x:Int×List Int):qLt x x=false:=by unfold qLt q6d;rw[if_pos rfl,q50]
theorem qfn(a b c:Int×List Int)(h:qLt a b=true)(g:qLt c b=false):qLt c a=false:=by
 unfold qLt q6d at h g ⊢;by_cases q:a.1=b.1
 ·rw[if_pos q]at h;rw[q];by_cases r:c.1=b.1
  ·rw[if_pos r]at g ⊢;exact qa1 _ _ _ h g
  ·rw[if_neg r]at g ⊢;exact g
 ·rw[if_neg q]at h;simp only[decide_eq_true_eq]at h;by_cases r:c.1=b.1
  ·rw[if_neg (by omega)];simp;omega
  ·rw[if_neg r]at g;simp only[decide_eq_false_iff_not]at g;rw[if_neg (by omega)];simp;omega
section
variable{X:Cx}{K:FrG}{O:List Nat}
def PrV(K:FrG)(H:Hp)(v:V)(q:Int×List Int):Prop:=∃a b,v=.ref a/\SqT K H a [.int q.1,.ref b]/\SqL K H b (q.2.map V.int)
theorem qbw{X:Cx}{z9:List (Addr×Obj)}{σ:St}{H:Hp}{s:Shared}{v:V}{q:Int×List Int}{u:Value}(I:Inv X z9 σ H s)(h:PrV X.K H v q)(r:RelV v u):∃a b t vs,u=.ref a/\IsTup s.heap a #[.int q.1 t,.ref b]/\s.heap.IsList b vs.toArray/\IntsAre vs q.2:=by
 obtain⟨a,b,rfl,h1,h2⟩:=h;cases r;obtain⟨its,rv,p,_⟩:=I.tuple h1;obtain⟨its2,rv2,p2,_⟩:=I.list h2;cases rv with
 | cons r1 r2=>
  cases r2 with
  | cons r2 r3=>
   cases r3;obtain⟨t,rfl⟩:=r1;cases r2;exact⟨a,b,t,its2,rfl,p,p2.isList,intsAre_of rv2⟩
def qb6:D->Option (Int×List Int)
 |.tup [.int a,.lst xs]=>(q2s xs).map λns=>(a,ns)
 |_=>none
def pairD(q:Int×List Int):D:=.tup [.int q.1,.lst (q.2.map D.int)]
theorem q6q:∀{xs:List D} {ns:List Int},q2s xs=some ns->xs=ns.map D.int
 |[],ns,h=>by cases h;rfl
 | d::r,ns,h=>by
  cases d with
  | int i=>
   have h:(q2s r).map (λx=>i::x)=some ns:=h;cases q:q2s r with
   |none=>rw[q]at h;cases h
   | some ms=>
    rw[q]at h;cases h;rw[q6q q];rfl
  |_=>cases h
theorem q6o{R:Hp}{v:V}{d:D}{q:Int×List Int}(r:Rp K R v d)(e:qb6 d=some q):PrV K R v q/\d=pairD q:=by
 unfold qb6 at e;split at e
 ·rename_i a xs;cases z:q2s xs with
  |none=>rw[z]at e;cases e
  | some ns=>
   rw[z]at e;cases e;obtain⟨l,vs,rfl,h,r⟩:=r.isT;obtain⟨v1,_,rfl,r1,r⟩:=r.isC;obtain⟨v2,_,rfl,r2,r⟩:=r.isC;cases r;obtain rfl:=r1.isI;obtain⟨b,ws,rfl,h2,r3⟩:=r2.isL;have ex:=q5u r3 z;subst ex;refine⟨⟨l,b,rfl,SqT.of h,h2⟩,?_⟩;unfold pairD;rw[q6q z]
 ·cases e
theorem PrV.mono{H R:Hp}{v:V}{q:Int×List Int}(s:Same R H)(h:PrV K R v q):PrV K H v q:=by obtain⟨a,b,e,h1,h2⟩:=h;exact⟨a,b,e,Same.tup s h1,Same.sqL s h2⟩
end
section
variable{prog:Program}{w:World}{A:Around}{E:Value->Shared->Prop}{s:Shared}
end
section
variable{prog:Program}{w:World}{κ:Type}[DecidableEq κ]{knd:KeyKind prog w κ}{A:Around}{E:Value->Shared->Prop}{s:Shared}
end
theorem KV.len{κ:Type}{kvs:List (κ×V)}{vs:List (κ×Value)}(r:KV kvs vs):kvs.length=vs.length:=Paired.length r
section
variable{X:Cx}{K:FrG}
def getK(kvs:List (Key×V))(k:Int):Option V:=(kvs.find? λp=>decide (p.1=Sum.inl k)).map (·.2)
end
section
variable{K:FrG}{O O':List Nat}{R:Hp}
theorem Rkk.length:∀{kvs:List (Key×V)} {gs:List (Key×D)},Rkk K R kvs gs->kvs.length=gs.length
 |_,_,.nil=>rfl
 |_,_,.cons _ r=>by rw[ju,ju,Rkk.length r]
def qni(gs:List (Key×D))(k:Int):Option D:=(gs.find? λp=>decide (p.1=Sum.inl k)).map (·.2)
theorem Rkk.val{k:Int}{d:D}:∀{kvs:List (Key×V)} {gs:List (Key×D)},Rkk K R kvs gs->qni gs k=some d->∃v,getK kvs k=some v/\Rp K R v d
 |_,_,.nil,e=>by cases e
 | _,_,@Rkk.cons _ _ f x xs d' ds h t,e=>by
  unfold qni at e;by_cases z:f=Sum.inl k
  ·simp[List.find?_cons,z]at e;subst e;exact⟨x,by simp[getK,List.find?_cons,z],h⟩
  ·simp[List.find?_cons,z]at e;obtain⟨v,h1,h2⟩:=Rkk.val (k:=k) (d:=d) t (by unfold qni;simpa using e);exact⟨v,by rw[<-h1];simp[getK,List.find?_cons,z],h2⟩
end
section
variable{c:MC}{O O':List Nat}{te ti:TE}{fe fi:RhD}
end
section
variable{X:Cx}{K:FrG}{O:List Nat}{a:Expr}{ta:TE}{p p2 pos zz:Pos}{fa:RhD}
end
end L2
namespace L2
open PySem
abbrev Mv:=Int×Int
abbrev Sx:=List (List Mv)
end L2
namespace L2
open PySem
theorem q8z:∀a b:List Int,HT.lexLt a b=false->HT.lexLt b a=false->a=b
 |[],[],_,_=>rfl
 |[],_::_,h,_=>by cases h
 |_::_,[],_,h=>by cases h
 | x::xs,y::ys,h,g=>by
  rw[HT.lexLt_cons]at h g;by_cases q:x=y
  ·rw[if_pos q]at h;rw[if_pos q.symm]at g;rw[q,q8z xs ys h g]
  ·rw[if_neg q]at h;rw[if_neg λz=>q z.symm]at g;simp only[decide_eq_false_iff_not]at h g;omega
theorem qpz{x y:Int×List Int}(h:qLt x y=false)(g:qLt y x=false):x=y:=by
 unfold qLt q6d at h g;by_cases q:x.1=y.1
 ·rw[if_pos q]at h;rw[if_pos q.symm]at g;exact Prod.ext q (q8z _ _ h g)
 ·rw[if_neg q]at h;rw[if_neg λz=>q z.symm]at g;simp only[decide_eq_false_iff_not]at h g;omega
theorem q71{x y z:Int×List Int}(h:qLt x y=false)(g:qLt y z=false):qLt x z=false:=by
 cases q:qLt x z with
 |false=>rfl
 | true=>
  have e:=qpz h (qfn x z y q g);rw[e,g]at q;cases q
structure Near(n:Nat)(cost:List Int->Int)(x:Int×List Int):Prop where
 bits:Bits x.2
 len:x.2.length=n
 val:x.1=cost x.2
 least:∀w,Bits w->w.length=n->qLt (cost w,w) x=false
section
variable(r:Int)(taps:List Int)(rows:List (List Int))(e:Str)(ts:List Told)(n:Nat)
def chunk(k:Nat):List Told:=(ts.drop (q0d taps rows k).length).take (selK taps rows k).length
def mvK(k:Nat)(za bit:Int):Mv:=((2*za+bit) % 2^r.toNat,q55 (chunk taps rows ts k) (q3v (rowAt rows k) (taps.map (sgn (2*za+bit)))))
def q44(k:Nat):List Int:=if k<n then [0,1]else [0]
def stepK(k:Nat):Sx:=(List.range (2^r.toNat)).map λ(za:Nat)=>(q44 n k).map λb=>mvK r taps rows ts k (za:Int) b
def q13(k len:Nat):List Sx:=(List.range' k len).map (stepK r taps rows ts n)
end
section
variable{r:Int}{taps:List Int}{rows:List (List Int)}{e:Str}{ts:List Told}{n:Nat}
theorem qap(k len:Nat):q13 r taps rows ts n k (len+1)=stepK r taps rows ts n k::q13 r taps rows ts n (k+1) len:=by unfold q13;rw[List.range'_succ];rfl
theorem q3j:((2^r.toNat:Nat):Int)=(2:Int)^r.toNat:=by rw[Int.natCast_pow];rfl
theorem q36(N:Nat):(q0d taps rows (N+1)).length=(q0d taps rows N).length+(selK taps rows N).length:=by unfold q0d;rw[q5v,jl,jo]
section
variable(r:Int)(taps:List Int)(rows:List (List Int))(e:Str)(ts:List Told)(n:Nat)
end
end
end L2
namespace L2
open PySem
def mvD(q:Mv):D:=.tup [.int q.1,.int q.2]
def chD(ch:List Mv):D:=.lst (ch.map mvD)
def sxD(st:Sx):D:=.lst (st.map chD)
def stD(zh:List Sx):D:=.lst (zh.map sxD)
def q6l{α:Type}(c:List (List α))(q:Int×α):List (List α):=c.set q.1.toNat (c.getD q.1.toNat []++[q.2])
theorem qbs{α:Type}(j:Nat):∀(xs:List α) (c:List (List α)),j<c.length->((List.replicate xs.length (j:Int)).zip xs).foldl q6l c=c.set j (c.getD j []++xs)
 | [],c,h=>by
  have e:c.set j (c.getD j []++[])=c:=by rw[List.append_nil,jz,jf h];exact List.set_getElem_self h
  rw[e];rfl
 | x::xs,c,h=>by
  have e1:((List.replicate (x::xs).length (j:Int)).zip (x::xs))=((j:Int),x)::(List.replicate xs.length (j:Int)).zip xs:=rfl;rw[e1,List.foldl_cons];have e2:q6l c ((j:Int),x)=c.set j (c.getD j []++[x]):=by unfold q6l;simp only[Int.toNat_natCast]
  rw[e2,qbs j xs _ (by rw[jw];exact h),List.set_set];congr 1;rw[jz,jn h];simp
theorem q8f{α β:Type}:∀{xs:List α} {ys zs:List β},xs.length=ys.length->xs.zip (ys++zs)=xs.zip ys
 |[],[],_,_=>rfl
 | x::xs,y::ys,zs,h=>by rw[List.cons_append,List.zip_cons_cons,List.zip_cons_cons,q8f (by simpa using h)]
 |[],_::_,_,h=>by simp at h
 |_::_,[],_,h=>by simp at h
section
variable{taps:List Int}{rows:List (List Int)}{ts:List Told}
theorem qbt(N:Nat):∀j,j<=N->(q0d taps rows j).length<=ts.length->((q0d taps rows j).zip ts).foldl q6l (List.replicate N [])=(List.range N).map λk=>if k<j then chunk taps rows ts k else []
 | 0,_,_=>by
  show List.replicate N []=_;apply List.ext_getElem?;intro i;by_cases h:i<N
  ·rw[je,xp h,xr,if_pos h];simp
  ·rw[xq (by simp;omega),xq (by simp;omega)]
 | j+1,hj,hl=>by
  rw[q36]at hl;have eP:q0d taps rows (j+1)=q0d taps rows j++List.replicate (selK taps rows j).length (j:Int):=q5v _ _;have lc:(chunk taps rows ts j).length=(selK taps rows j).length:=by unfold chunk;rw[xl,k6];omega
  have eT:ts=ts.take (q0d taps rows j).length++(chunk taps rows ts j++(ts.drop (q0d taps rows j).length).drop (selK taps rows j).length):=by unfold chunk;rw[List.take_append_drop,List.take_append_drop]
  have ez:(q0d taps rows (j+1)).zip ts=(q0d taps rows j).zip ts++(List.replicate (selK taps rows j).length (j:Int)).zip (chunk taps rows ts j):=by
   have h1:(q0d taps rows j).length=(ts.take (q0d taps rows j).length).length:=by rw[xl];omega
   have e1:(q0d taps rows j).zip ts=(q0d taps rows j).zip (ts.take (q0d taps rows j).length):=by have:=q8f (zs:=chunk taps rows ts j++(ts.drop (q0d taps rows j).length).drop (selK taps rows j).length) h1;rw[<-eT]at this;exact this
   rw[e1,eP];have:=List.zip_append (r₁:=List.replicate (selK taps rows j).length (j:Int)) (r₂:=chunk taps rows ts j++(ts.drop (q0d taps rows j).length).drop (selK taps rows j).length) h1;rw[<-eT]at this;rw[this,q8f (by rw[jo,lc])]
  rw[ez,List.foldl_append,qbt N j (by omega) (by omega),<-lc,qbs j _ _ (by simp;omega)];apply List.ext_getElem?;intro i;by_cases h:i<N
  ·rw[je,xp h];by_cases q:j=i
   ·subst q;rw[jn (by simp;omega)];rw[jz,je,xp h];simp
   ·rw[ji q,je,xp h];simp only[Option.map_some];congr 1;by_cases z:i<j
    ·rw[if_pos z,if_pos (by omega)]
    ·rw[if_neg z,if_neg (by omega)]
  ·rw[xq (by simp;omega),xq (by simp;omega)]
theorem qfo(N:Nat)(hl:(q0d taps rows N).length<=ts.length):((q0d taps rows N).zip ts).foldl q6l (List.replicate N [])=(List.range N).map (chunk taps rows ts):=by rw[qbt N N (jg _) hl];refine List.map_congr_left λk hk=>?_;rw[if_pos (List.mem_range.mp hk)]
end
theorem qbd{i:Nat}{fg:RhG}{f:Fd}(d:D)(r:List D)(ρ:Rho)(dss:List (List D)):q5w i fg f (d::r) ρ dss=match fg d ρ with
 | some ρ1=>if isFree ρ1 i=true then(match f ρ1 dss with
  |some p=>q5w i fg f r p.1 p.2
  |none=>none)else none
 |none=>none:=rfl
theorem qbr{i a b:Nat}{fe:RhD}{fs:RhL}{α:Type}(dat obj:α->D)(ρ0:Option D->Option D->Rho)(hf:∀u v,isFree (ρ0 u v) i=true)
 (hg:∀(k:Int) (t:α) (u v:Option D),(q1n 2 (q0c (gSet a) (q0c (gSet b) q1o))) (.tup [.int k,dat t]) (ρ0 u v)=some (ρ0 (some (.int k)) (some (dat t))))
 (he:∀(k:Int) (t:α),fe (ρ0 (some (.int k)) (some (dat t)))=some (.int k,ρ0 (some (.int k)) (some (dat t)))) (hs:∀(k:Int) (t:α),fs (ρ0 (some (.int k)) (some (dat t)))=some ([obj t],ρ0 (some (.int k)) (some (dat t)))):
 ∀(zs:List (Int×α)) (c:List (List α)) (u v:Option D),(∀q∈zs,0<=q.1/\q.1.toNat<c.length)->(∀g∈c,g.length+zs.length<sizeLine)->∃u' v',q5w i (q1n 2 (q0c (gSet a) (q0c (gSet b) q1o))) (q53 i fe fs) (zs.map λq=>D.tup [.int q.1,dat q.2]) (ρ0 u v) (c.map λg=>g.map obj)=some (ρ0 u' v',(zs.foldl q6l c).map λg=>g.map obj)
 |[],c,u,v,_,_=>⟨u,v,rfl⟩
 | q::zs,c,u,v,hz,hc=>by
  obtain⟨z0,z1⟩:=hz q jk;have hq:c[q.1.toNat]? =some c[q.1.toNat]:=jf z1;have hp:q7n (c.map λg=>g.map obj) q.1 (obj q.2)=some ((q6l c q).map λg=>g.map obj):=by unfold q7n;rw[if_pos z0,je,hq];simp only[Option.map_some];rw[if_pos (by rw[j9];have:=hc _ (kl z1);simp at this;omega)];unfold q6l;rw[List.map_set,jz,hq];simp
  obtain⟨u',v',h⟩:=qbr (i:=i) (a:=a) (b:=b) (fe:=fe) (fs:=fs) dat obj ρ0 hf hg he hs zs (q6l c q) (some (.int q.1)) (some (dat q.2)) (λp hp=>by
   have:=hz p (jj _ hp);refine⟨this.1,?_⟩;unfold q6l;rw[jw];exact this.2) (λg hg=>by
   unfold q6l at hg;rcases List.mem_or_eq_of_mem_set hg with h1|h1
   ·have:=hc g h1;simp at this;omega
   ·rw[h1,jz,hq];have:=hc _ (kl z1);simp at this ⊢;omega)
  refine⟨u',v',?_⟩;have step:q53 i fe fs (ρ0 (some (.int q.1)) (some (dat q.2))) (c.map λg=>g.map obj)=some (ρ0 (some (.int q.1)) (some (dat q.2)),(q6l c q).map λg=>g.map obj):=by unfold q53;rw[he q.1 q.2];simp only[hf,if_true];rw[hs q.1 q.2];simp only[hf,if_true,hp,Option.map_some]
  rw[xk,List.foldl_cons,<-h,qbd,hg q.1 q.2 u v];simp only[hf,if_true,step]
end L2
namespace L2
open PySem PySem.Spec PyProof.Rows
section
variable{X:Cx}{K:FrG}
def rLtP(K:FrG):R2:=λx y H Q=>∃p q,PrV K H x p/\PrV K H y q/\p.2.length=q.2.length/\Q (.bl (qLt p q)) H
theorem qqa(hK:X.K=K)(hu:X.A.units+64<cLine):OpR X (compareOp .Lt) (rLtP K):=by subst hK;intro z9 s σ H x y v u Q I rx ry h;obtain⟨p,q,hp,hq,hl,k⟩:=h;obtain⟨a,b,t,us,rfl,g1,g2,g3⟩:=qbw I hp rx;obtain⟨a',b',t',us',rfl,g1',g2',g3'⟩:=qbw I hq ry;exact q4l g1 g1' g2 g2' g3 g3' hl (by omega) ⟨.bl _,H,I,rfl,k⟩
def dLtP(d e:D):Option D:=match qb6 d,qb6 e with
 |some p,some q=>if p.2.length=q.2.length then some (.bl (qLt p q))else none
 |_,_=>none
theorem qq8:OpS K (rLtP K) dLtP:=λH x y d e u Q rx ry q k=>by
 unfold dLtP at q;split at q
 ·rename_i p p' e1 e2;split at q
  ·rename_i hl;cases q;exact⟨p,p',(q6o rx e1).1,(q6o ry e2).1,hl,k _ (.bl _)⟩
  ·cases q
 ·cases q
theorem qb5(x:Int×List Int):qb6 (pairD x)=some x:=by show(q2s (x.2.map D.int)).map _=_;rw[q2n];rfl
theorem qtb{x y:Int×List Int}(h:x.2.length=y.2.length):dLtP (pairD x) (pairD y)=some (.bl (qLt x y)):=by unfold dLtP;rw[qb5,qb5];show(if x.2.length=y.2.length then some (D.bl (qLt x y))else none)=_;rw[if_pos h]
end
structure FunD(K:FrG)(x qual:Str)(st:Stmt)(f:Addr)(fd:FuncData):Prop where
 ex:∃(oc:Value) (od:Option Addr) (dV kV doc pm:Value) (an:Option Addr) (cdv ct:Value) (osl:Array (Option Value)),
  fd=PySem.W.fnOf x qual (q0r st) (q0p st) (q04 st) dV kV doc pm an cdv ct/\K.lookup f=some ⟨oc,od,.func fd,osl⟩/\PySem.W.codeIn K cdv qual=true
 kp:PySem.W.keepIn K (.ref f)=true
section
variable{P:Program}{w:World}{K:FrG}{mg:Str->Option Value}{base:Heap}
theorem FunD.ok{x qual:Str}{st:Stmt}{f:Addr}{fd:FuncData}{N ps:List Str}{k:Nat}{sp:Sp}(F:FunD K x qual st f fd)(S:q0q N ps (q04 st))(len:∀vs H Q E,sp vs H Q E->vs.length=ps.length)
 (zp:∀(cdv:Value) (A:Around) (outer:List Env) (s:Shared) (H:Hp) (vs:List V) (Q:VK) (E:XK),Room k (A.deeper (envOfC qual (q04 st) s.heap.objs.size f cdv))->sp vs H Q E->
   ∃t,PSs (cxOf CX0 P w K mg base N qual (q04 st) f cdv A outer s H E).nox (q0p st) t/\t {nx:=λ_ H'=>Q .non H',rt:=Q} (start N vs) H):FnOk P w K mg base CX0 (k+1) f fd ps sp:=by
 obtain⟨oc,od,dV,kV,doc,pm,an,cdv,ct,osl,rfl,lk,hcd⟩:=F.ex;refine qnk lk hcd S len λA outer s H vs Q E hr hsp=>?_;obtain⟨t,h,q⟩:=zp cdv A outer s H vs Q E hr hsp;exact⟨t,h.nox,q⟩
end
section
variable{prog:Program}{w:World}{A:Around}{R:Result->Shared->Prop}{I S l:Addr}{its:Array Value}{s0:Shared}{bt:Nat->Nat->Bool}{kw:List (Str×Value)}
abbrev StT(I l:Addr)(its:Array Value)(i:Nat)(h:Heap):Prop:=h.IsTupleIter I l i/\h.IsTuple l its
theorem StT.keep{i:Nat}{h h':Heap}(st:StT I l its i h)(k:∀b o,b=I∨b=l->h.get? b=some o->h'.get? b=some o):StT I l its i h':=by obtain⟨⟨o,e,c⟩,⟨o2,e2,c2⟩⟩:=st;exact⟨⟨o,k I o (.inl rfl) e,c⟩,⟨o2,k l o2 (.inr rfl) e2,c2⟩⟩
theorem qgd(hh:A.in1.handled=none)(lI:l≠I)(SI:S≠I)(Sl:S≠l)(j7:CmpK prog w A.in1 I S s0 its bt)(hR:∀v s',its[argBest bt (its.size-1)]? =some v->Kp I S s0 s'->R (.ok (.ret v)) s'):
 ∀(k j:Nat) (s:Shared) (vb:Value) (c:Nat),its.size-(j+1)=k->j+1<=its.size->StT I l its (j+1) s.heap->its[argBest bt j]? =some vb->s.heap.get? S=some {cls:=.type "list",data:=.seq #[vb,vb] c}->Kp I S s0 s->
   codeAny (model prog w) A (.builtin "min.loop" ⟨[.ref I,.none,.ref S],kw⟩) R s:=by
 intro k;induction k with
 | zero=>
  intro j s vb c hk hj st hb hS K;have en:j+1=its.size:=by omega
  refine codeAny_builtin F.entry_min_loop ?_;rw[kv ke];show wpAny _ _ (seqItems? (.ref S) >>= _) _ _ s;refine j8 (xo hS rfl ?_);refine j8 (wpAny_tryCatch ?_);refine wpAny_pyNext_tuple_end hh st.1 st.2 (Array.getElem?_eq_none (by omega)) λh' eb=>?_;have hS2:h'.get? S=some {cls:=.type "list",data:=.seq #[vb,vb] c}:=eb S _ SI hS;show wpAny _ _ (updateSeq S (λ_=>#[]) >>= _) _ _ {s with heap:=h'};refine j8 (wpAny_updateSeq (s:={s with heap:=h'}) hS2 rfl ?_ (by simp[sizeLine_eq]) (by simp[sizeLine_eq]));refine j8 (wpAny_letGo ?_);refine jc ?_;have ej:its.size-1=j:=by omega
  refine hR vb _ (by rw[ej];exact hb) (K.on (λb o h1 h2 e=>?_) rfl rfl rfl);exact(k7 h' _ (Ne.symm h2)).trans (eb b o h1 e)
 | succ k ih=>
  intro j s vb c hk hj st hb hS K;have lt:j+1<its.size:=by omega
  refine codeAny_builtin F.entry_min_loop ?_;rw[kv ke];show wpAny _ _ (seqItems? (.ref S) >>= _) _ _ s;refine j8 (xo hS rfl ?_);refine j8 (wpAny_tryCatch ?_);have hx:its[j+1]? =some its[j+1]:=Array.getElem?_eq_getElem lt;refine wpAny_pyNext_tuple_item st.1 st.2 (x:=its[j+1]) hx λh' st' sb=>?_;have kI:∀b o,b≠I->s.heap.get? b=some o->h'.get? b=some o:=λb o hb e=>(sb.2 b hb).trans e;have hS2:h'.get? S=some {cls:=.type "list",data:=.seq #[vb,vb] c}:=kI S _ SI hS;have L2:h'.IsTuple l its:=by obtain⟨o,e,q⟩:=st.2;exact⟨o,kI l o lI e,q⟩
  have K2:Kp I S s0 {s with heap:=h'}:=K.on (λb o h1 _ e=>kI b o h1 e) rfl rfl rfl;show wpAny _ _ (pure its[j+1] >>= _) _ _ {s with heap:=h'};refine j8 (jc ?_);show wpAny _ _ (Sem.tryCatch _ _ >>= _) _ _ {s with heap:=h'};refine j8 (wpAny_tryCatch (wpAny_holding ?_));refine j8 (j7 (j+1) (argBest bt j) _ vb _ _ _ hx hb K2 λs3 q3=>?_);refine j8 (wpAny_holding (k8 ?_));refine j8 (wpAny_letGo ?_);refine jc ?_;have hS3:=q3.heap S _ hS2;have st3:StT I l its (j+1+1) s3.heap:=StT.keep ⟨st',L2⟩ λb o _ e=>q3.heap b o e;have K3:Kp I S s0 s3:=K2.on (λb o _ _ e=>q3.heap b o e) q3.gens q3.drawn q3.os;have eb:argBest bt (j+1)=if bt (j+1) (argBest bt j)=true then j+1 else argBest bt j:=by rw[argBest]
  cases q:bt (j+1) (argBest bt j)with
  | true=>
   rw[q,if_pos rfl]at eb;show wpAny _ _ (updateSeq S _ >>= _) _ _ s3;refine j8 (wpAny_updateSeq hS3 rfl ?_ (by simp[sizeLine_eq]) (by simp[sizeLine_eq]));refine j8 (wpAny_letGo ?_);refine jc ⟨plainId_quiet ke _,?_⟩;have hS4:=kq (Obj.mapSeq λ_=>#[its[j+1],its[j+1]]) hS3 rfl;refine ih (j+1) _ its[j+1] _ (by omega) lt (st3.keep λb o hb e=>?_) (by rw[eb];exact hx) hS4 (K3.on (λb o h1 h2 e=>(k7 s3.heap _ (Ne.symm h2)).trans e) rfl rfl rfl);refine(k7 s3.heap _ ?_).trans e;rcases hb with rfl|rfl
   ·exact SI
   ·exact Sl
  | false=>
   rw[q,if_neg (by decide)]at eb;show wpAny _ _ (letGo _ >>= _) _ _ s3;refine j8 (wpAny_letGo ?_);refine jc ⟨plainId_quiet ke _,?_⟩;exact ih (j+1) s3 vb c (by omega) lt st3 (by rw[eb];exact hb) hS3 K3
theorem qdl(hh:A.in1.handled=none)(lI:l≠I)(SI:S≠I)(Sl:S≠l)(j7:CmpK prog w A.in1 I S s0 its bt)(hR:∀v s',its[argBest bt (its.size-1)]? =some v->Kp I S s0 s'->R (.ok (.ret v)) s')
 (lt:0<its.size)
 {s:Shared} {c:Nat} (st:StT I l its 0 s.heap) (hS:s.heap.get? S=some {cls:=.type "list",data:=.seq #[] c}) (K:Kp I S s0 s):codeAny (model prog w) A (.builtin "min.loop" ⟨[.ref I,.none,.ref S],kw⟩) R s:=by
 refine codeAny_builtin F.entry_min_loop ?_;rw[kv ke];show wpAny _ _ (seqItems? (.ref S) >>= _) _ _ s;refine j8 (xo hS rfl ?_);refine j8 (wpAny_tryCatch ?_);have hx:its[0]? =some its[0]:=Array.getElem?_eq_getElem lt;refine wpAny_pyNext_tuple_item st.1 st.2 (x:=its[0]) hx λh' st' sb=>?_;have kI:∀b o,b≠I->s.heap.get? b=some o->h'.get? b=some o:=λb o hb e=>(sb.2 b hb).trans e;have hS2:h'.get? S=some {cls:=.type "list",data:=.seq #[] c}:=kI S _ SI hS;have L2:h'.IsTuple l its:=by obtain⟨o,e,q⟩:=st.2;exact⟨o,kI l o lI e,q⟩
 show wpAny _ _ (pure its[0] >>= _) _ _ {s with heap:=h'};refine j8 (jc ?_);show wpAny _ _ (updateSeq S _ >>= _) _ _ {s with heap:=h'};refine j8 (wpAny_updateSeq (s:={s with heap:=h'}) hS2 rfl ?_ (by simp[sizeLine_eq]) (by simp[sizeLine_eq]));refine jc ⟨plainId_quiet ke _,?_⟩;have hS4:=kq (Obj.mapSeq λ_=>#[its[0],its[0]]) hS2 rfl;refine qgd hh lI SI Sl j7 hR (its.size-1) 0 _ its[0] _ rfl lt (StT.keep ⟨st',L2⟩ λb o hb e=>?_) hx hS4 (K.on (λb o h1 h2 e=>(k7 h' _ (Ne.symm h2)).trans (kI b o h1 e)) rfl rfl rfl);refine(k7 h' _ ?_).trans e;rcases hb with rfl|rfl
 ·exact SI
 ·exact Sl
theorem qdz(hh:A.in1.handled=none){a b:Value}{Q:Value->Shared->Prop}{E:Value->Shared->Prop}{s:Shared}(j7:CmpK prog w A.in1 (s.heap.objs.size+1) (s.heap.objs.size+2) {s with heap:=s.heap.push {cls:=.type "tuple",data:=.seq #[a,b]}} #[a,b] bt)
 (hQ:∀v s',#[a,b][argBest bt 1]? =some v->Kq s s'->Q v s'):wpAny (model prog w) A (call (.builtin "min") [a,b]) Q E s:=by
 refine kmk_tree F.kind_min F.plain_min F.entry_min (F.args_min2 _ _) ?_;show wpAny _ A.in1 (Builtin.Builtins.bindParams "min" ["key","default"] 0 ⟨[],[]⟩ >>= _) _ _ s;refine j8 (wpAny_of_eq (show Builtin.Builtins.bindParams "min" ["key","default"] 0 ⟨[],[]⟩=pure [none,none]from rfl) ?_);show wpAny _ A.in1 (newTuple [a,b] >>= _) _ _ s;refine j8 (xu ?_);have hT:(s.heap.push {cls:=.type "tuple",data:=.seq #[a,b]}).IsTuple s.heap.objs.size #[a,b]:=⟨_,jr _ rfl,rfl,0,rfl⟩;have sz1:(s.heap.push {cls:=.type "tuple",data:=.seq #[a,b]}).objs.size=s.heap.objs.size+1:=xn _ _;refine j8 (wpAny_pyIter_tuple hT ?_);refine j8 (xu ?_);rw[show(toString "min"++toString ".loop")="min.loop" from by decide];refine jc ⟨plainId_quiet ke _,?_⟩;dsimp only;have sz2:((s.heap.push {cls:=.type "tuple",data:=.seq #[a,b]}).push {cls:=.type "tuple_iterator",data:=.fields #[.ref s.heap.objs.size,.int 0 0]}).objs.size=s.heap.objs.size+2:=by rw[xn,sz1]
 have push2:∀c o,(s.heap.push {cls:=.type "tuple",data:=.seq #[a,b]}).get? c=some o->(((s.heap.push {cls:=.type "tuple",data:=.seq #[a,b]}).push {cls:=.type "tuple_iterator",data:=.fields #[.ref s.heap.objs.size,.int 0 0]}).push {cls:=.type "list",data:=.seq #[]}).get? c=some o:=λc o e=>jh _ (jh _ e);have g1:=jr (s.heap.push {cls:=.type "tuple",data:=.seq #[a,b]}) (o:={cls:=.type "tuple_iterator",data:=.fields #[.ref s.heap.objs.size,.int 0 0]}) rfl;have g2:=jr ((s.heap.push {cls:=.type "tuple",data:=.seq #[a,b]}).push {cls:=.type "tuple_iterator",data:=.fields #[.ref s.heap.objs.size,.int 0 0]}) (o:={cls:=.type "list",data:=.seq #[]}) rfl;rw[sz2]at g2;rw[sz1]at g1;rw[sz2,sz1];refine qdl (l:=s.heap.objs.size) (its:=#[a,b]) hh (jm (Nat.lt_succ_self _)) (Nat.ne_of_gt (Nat.lt_succ_self _)) (Nat.ne_of_gt (Nat.lt_succ_of_lt (Nat.lt_succ_self _))) j7 (λv s' e k=>hQ v s' e ?_) (by simp) (c:=0) ⟨⟨_,jh _ g1,rfl,rfl⟩,?_⟩ g2 ⟨λc o _ _ e=>push2 c o e,rfl,rfl,rfl⟩
 ·exact⟨λc o e=>k.heap c o (jm (Nat.lt_succ_of_lt (jb e))) (jm (Nat.lt_succ_of_lt (Nat.lt_succ_of_lt (jb e)))) (jh _ e),k.gens,k.drawn,k.os⟩
 ·obtain⟨o,e,c⟩:=hT;exact⟨o,push2 _ o e,c⟩
end
section
variable{X:Cx}{K:FrG}{O:List Nat}{tr:TA}{fs:RhL}
def qfl(K:FrG):List V->Hp->VK->Prop:=λxs H Q=>∃x y p q,xs=[x,y]/\PrV K H x p/\PrV K H y q/\p.2.length=q.2.length/\Q (if qLt q p=true then y else x) H
theorem q7p(hK:X.K=K)(hc:X.calm=true)(hu:X.A.units+64<cLine):q4w X (.builtin "min") (qfl K):=by
 subst hK;intro z9 s σ H xs us Q I r h;obtain⟨x,y,p,q,rfl,hp,hq,hl,k⟩:=h;obtain⟨u,u',rfl,ru,ru'⟩:=vals2 r;have hh:X.A.in1.handled=none:=I.ok.hd hc;obtain⟨a,b,t,vs,rfl,g1,g2,g3⟩:=qbw I hp ru;obtain⟨a',b',t',vs',rfl,g1',g2',g3'⟩:=qbw I hq ru';have old:∀s',Kp (s.heap.objs.size+1) (s.heap.objs.size+2) {s with heap:=s.heap.push {cls:=.type "tuple",data:=.seq #[.ref a,.ref a']}} s'->∀c o,s.heap.get? c=some o->s'.heap.get? c=some o:=λs' k c o e=>k.heap c o (jm (Nat.lt_succ_of_lt (jb e))) (jm (Nat.lt_succ_of_lt (Nat.lt_succ_of_lt (jb e)))) (jh _ e);have tup:∀{c:Addr} {its:Array Value} {h:Heap},(∀c o,s.heap.get? c=some o->h.get? c=some o)->IsTup s.heap c its->IsTup h c its:=λup g=>by obtain⟨o,e,c⟩:=g;exact⟨o,up _ o e,c⟩
 have lst:∀{c:Addr} {its:Array Value} {h:Heap},(∀c o,s.heap.get? c=some o->h.get? c=some o)->s.heap.IsList c its->h.IsList c its:=λup g=>by obtain⟨o,e,c⟩:=g;exact⟨o,up _ o e,c⟩
 refine qdz (bt:=λi j=>qLt (if i=0 then p else q) (if j=0 then p else q)) hh (λi j vi vj s1 Q1 E1 hi hj kp hQ1=>?_) λv s' ev k'=>?_
 ·have up:=old s1 kp;have two:∀{i:Nat} {v:Value},#[Value.ref a,.ref a'][i]? =some v->(i=0/\v=.ref a)∨(i=1/\v=.ref a'):=λ{i v} e=>by
   match i,e with
   |0,e=>exact .inl ⟨rfl,by simpa using e.symm⟩
   |1,e=>exact .inr ⟨rfl,by simpa using e.symm⟩
   |n+2,e=>simp at e
  have un:X.A.in1.units+1<cLine:=by show X.A.units+1+1<cLine;omega
  rcases two hi with⟨rfl,rfl⟩|⟨rfl,rfl⟩<;>rcases two hj with⟨rfl,rfl⟩|⟨rfl,rfl⟩
  ·exact q4l (tup up g1) (tup up g1) (lst up g2) (lst up g2) g3 g3 rfl un (hQ1 s1 ⟨λ_ _ e=>e,rfl,rfl,rfl⟩)
  ·exact q4l (tup up g1) (tup up g1') (lst up g2) (lst up g2') g3 g3' hl un (hQ1 s1 ⟨λ_ _ e=>e,rfl,rfl,rfl⟩)
  ·exact q4l (tup up g1') (tup up g1) (lst up g2') (lst up g2) g3' g3 hl.symm un (hQ1 s1 ⟨λ_ _ e=>e,rfl,rfl,rfl⟩)
  ·exact q4l (tup up g1') (tup up g1') (lst up g2') (lst up g2') g3' g3' rfl un (hQ1 s1 ⟨λ_ _ e=>e,rfl,rfl,rfl⟩)
 ·have eb:argBest (λi j=>qLt (if i=0 then p else q) (if j=0 then p else q)) 1=if qLt q p=true then 1 else 0:=by
   rw[argBest,argBest];rfl
  rw[eb]at ev;cases z:qLt q p with
  | true=>
   rw[z,if_pos rfl]at ev k;have ev:Value.ref a'=v:=by simpa using ev
   subst ev;exact⟨y,H,qld I k',ru',k⟩
  | false=>
   rw[z,if_neg (by decide)]at ev k;have ev:Value.ref a=v:=by simpa using ev
   subst ev;exact⟨x,H,qld I k',ru,k⟩
def qj3(f:RhL):RhD:=q1r f λds=>q2q (match ds with
 | [d,e]=>(match qb6 d,qb6 e with
  |some p,some q=>if p.2.length=q.2.length then some (if qLt q p=true then e else d)else none
  |_,_=>none)
 |_=>none)
theorem qn7(h:MA K O tr fs):ME K O (tCB (qfl K) tr) (qj3 fs):=λZ σ H R ρ d ρ' Q S e k=>by
 obtain⟨xs,ρ1,e1,e⟩:=q0a e;obtain⟨e2,rfl⟩:=q0k e;refine h Z σ H R ρ xs _ _ S e1 λvs H1 R1 S1 st1 r1=>?_;split at e2
 ·rename_i d1 d2;split at e2
  ·rename_i p q h1 h2;split at e2
   ·rename_i hl;cases e2;obtain⟨v1,_,rfl,q1,r⟩:=r1.isC;obtain⟨v2,_,rfl,q2,r⟩:=r.isC;cases r;refine⟨v1,v2,p,q,rfl,(q6o q1 h1).1.mono S1.sub,(q6o q2 h2).1.mono S1.sub,hl,?_⟩;cases z:qLt q p with
    | true=>
     rw[z]at k;exact k _ H1 R1 S1 st1 q2
    | false=>
     rw[z]at k;exact k _ H1 R1 S1 st1 q1
   ·cases e2
  ·cases e2
 ·cases e2
theorem qny{ρ ρ1:Rho}{p q:Int×List Int}(h:fs ρ=some ([pairD p,pairD q],ρ1))(hl:p.2.length=q.2.length):qj3 fs ρ=some (pairD (if qLt q p=true then q else p),ρ1):=by unfold qj3;rw[q0z,h];show q2q _ ρ1=_;rw[q1u];simp only[qb5,hl,if_true];cases qLt q p<;>rfl
end
end L2
namespace L2
open PySem
theorem qce:∀a b:List Int,HT.lexLt a b=true->HT.lexLt b a=false
 |[],[],h=>by cases h
 |[],_::_,_=>rfl
 |_::_,[],h=>by cases h
 | x::xs,y::ys,h=>by
  rw[HT.lexLt_cons]at h ⊢;by_cases q:x=y
  ·rw[if_pos q]at h;rw[if_pos q.symm];exact qce xs ys h
  ·rw[if_neg q]at h;rw[if_neg λz=>q z.symm];simp only[decide_eq_true_eq,decide_eq_false_iff_not]at h ⊢;omega
theorem qgn:∀(a b x y:List Int),a.length=b.length->HT.lexLt a b=true->HT.lexLt (a++x) (b++y)=true
 |[],[],_,_,_,h=>by cases h
 |[],_::_,_,_,h,_=>by cases h
 |_::_,[],_,_,h,_=>by cases h
 | a::as,b::bs,x,y,hl,h=>by
  rw[List.cons_append,List.cons_append,HT.lexLt_cons];rw[HT.lexLt_cons]at h;by_cases q:a=b
  ·rw[if_pos q]at h ⊢;exact qgn as bs x y (Nat.succ.inj hl) h
  ·rw[if_neg q]at h ⊢;exact h
theorem qj4{a b x:List Int}(hl:a.length=b.length)(h:HT.lexLt a b=false):HT.lexLt (a++x) (b++x)=false:=by
 cases q:HT.lexLt b a with
 |true=>exact qce _ _ (qgn b a x x hl.symm q)
 | false=>
  rw[q8z a b h q];exact q50 _
theorem qLt_le{c d:Int}{u w:List Int}:qLt (c,u) (d,w)=false↔d<c∨(c=d/\HT.lexLt u w=false):=by
 unfold qLt q6d;simp only;by_cases z:c=d
 ·rw[if_pos z];constructor
  ·exact λh=>.inr ⟨z,h⟩
  ·rintro(h|h)
   ·omega
   ·exact h.2
 ·rw[if_neg z];simp;omega
theorem qib{a b:Int×List Int}(h:qLt a b=true):qLt b a=false:=qfn a b b h (q4a b)
abbrev Kr:=List (Option (Int×List Int))
def betP(o:Option (Int×List Int))(p:Int×List Int):Int×List Int:=match o with
 |none=>p
 |some q=>if qLt p q=true then p else q
def putK(l:Kr)(x:Int×(Int×List Int)):Kr:=l.set x.1.toNat (some (betP (l.getD x.1.toNat none) x.2))
def qbg(row:Kr)(st:Sx):List (Int×(Int×List Int)):=(row.zip st).flatMap λq=>match q.1 with
 |none=>[]
 |some p=>q.2.zipIdx.map λm=>(m.1.1,(p.1+m.1.2,p.2++[(m.2:Int)]))
def q3a(row:Kr)(st:Sx):Kr:=(qbg row st).foldl putK (List.replicate row.length none)
def q40(M:Nat):Kr:=(List.range M).map λk=>if k=0 then some (0,[])else none
def q3z(M:Nat)(zh:List Sx):Kr:=zh.foldl q3a (q40 M)
theorem qhl(o:Option (Int×List Int))(p:Int×List Int):(betP o p=p∨o=some (betP o p))/\qLt p (betP o p)=false/\∀q,o=some q->qLt q (betP o p)=false:=by
 cases o with
 |none=>exact⟨.inl rfl,q4a p,λq h=>nomatch h⟩
 | some q=>
  show((if qLt p q=true then p else q)=p∨some q=some (if qLt p q=true then p else q))/\qLt p (if qLt p q=true then p else q)=false/\∀q',some q=some q'->qLt q' (if qLt p q=true then p else q)=false;cases z:qLt p q with
  | true=>
   rw[if_pos rfl];exact⟨.inl rfl,q4a p,λq' h=>by cases h;exact qib z⟩
  | false=>
   rw[if_neg (by decide)];exact⟨.inr rfl,z,λq' h=>by cases h;exact q4a q⟩
theorem q8q(l:Kr)(x:Int×(Int×List Int)):(putK l x).length=l.length:=jw ..
theorem q8p{l:Kr}{x:Int×(Int×List Int)}(h:x.1.toNat<l.length):(putK l x)[x.1.toNat]? =some (some (betP (l.getD x.1.toNat none) x.2)):=jn h
theorem q9l{l:Kr}{x:Int×(Int×List Int)}{q:Nat}(h:x.1.toNat≠q):(putK l x)[q]? =l[q]? :=ji h
theorem q4d:∀(xs:List (Int×(Int×List Int))) (l:Kr),(xs.foldl putK l).length=l.length
 |[],_=>rfl
 |x::xs,l=>by rw[List.foldl_cons,q4d xs,q8q]
theorem q3b:∀(xs:List (Int×(Int×List Int))) (l:Kr) (q:Nat) (p:Int×List Int),(xs.foldl putK l)[q]? =some (some p)->l[q]? =some (some p)∨∃x∈xs,x.1.toNat=q/\x.2=p
 |[],_,_,_,h=>.inl h
 | x::xs,l,q,p,h=>by
  rw[List.foldl_cons]at h;rcases q3b xs _ q p h with g|⟨y,hy,g⟩
  ·by_cases z:x.1.toNat=q
   ·have lt:x.1.toNat<l.length:=by
     have:=(List.getElem?_eq_some_iff.mp g).1;rw[q8q]at this;omega
    rw[<-z,q8p lt]at g;have g:betP (l.getD x.1.toNat none) x.2=p:=by simpa using g
    rcases(qhl (l.getD x.1.toNat none) x.2).1 with e|e
    ·exact .inr ⟨x,jk,z,by rw[<-g,e]⟩
    ·rw[g,jz]at e;cases w:l[x.1.toNat]? with
     |none=>rw[w]at e;cases e
     | some o=>
      rw[w]at e;have e:o=some p:=e;exact .inl (by rw[<-z,w,e])
   ·rw[q9l z]at g;exact .inl g
  ·exact .inr ⟨y,jj _ hy,g⟩
theorem qic{l:Kr}{x:Int×(Int×List Int)}{q:Nat}{p0:Int×List Int}(h:l[q]? =some (some p0)):∃p,(putK l x)[q]? =some (some p)/\qLt p0 p=false:=by
 by_cases z:x.1.toNat=q
 ·have lt:x.1.toNat<l.length:=by rw[z];exact(List.getElem?_eq_some_iff.mp h).1
  refine⟨betP (l.getD x.1.toNat none) x.2,by rw[<-z,q8p lt],(qhl _ _).2.2 p0 ?_⟩;rw[jz,z,h];rfl
 ·exact⟨p0,by rw[q9l z,h],q4a p0⟩
theorem qa3:∀(xs:List (Int×(Int×List Int))) (l:Kr) (q:Nat) (p0:Int×List Int),l[q]? =some (some p0)->∃p,(xs.foldl putK l)[q]? =some (some p)/\qLt p0 p=false
 |[],_,_,p0,h=>⟨p0,h,q4a p0⟩
 | x::xs,l,q,p0,h=>by obtain⟨p1,h1,h2⟩:=qic (x:=x) h;obtain⟨p,g1,g2⟩:=qa3 xs _ q p1 h1;exact⟨p,g1,q71 h2 g2⟩
theorem qh2:∀(xs:List (Int×(Int×List Int))) (l:Kr) (x:Int×(Int×List Int)),x∈xs->x.1.toNat<l.length->∃p,(xs.foldl putK l)[x.1.toNat]? =some (some p)/\qLt x.2 p=false
 | y::xs,l,x,h,lt=>by
  rw[List.foldl_cons];rcases List.mem_cons.mp h with rfl|h
  ·obtain⟨p,g1,g2⟩:=qa3 xs _ _ _ (q8p lt);exact⟨p,g1,q71 (qhl _ _).2.1 g2⟩
  ·exact qh2 xs _ x h (by rw[q8q];exact lt)
theorem cand_iff{row:Kr}{st:Sx}{x:Int×(Int×List Int)}:x∈qbg row st↔∃(q:Nat) (p:Int×List Int) (ch:List Mv) (j:Nat) (mv:Mv),row[q]? =some (some p)/\st[q]? =some ch/\ch[j]? =some mv/\x=(mv.1,(p.1+mv.2,p.2++[(j:Int)])):=by
 unfold qbg;rw[List.mem_flatMap];constructor
 ·rintro⟨⟨o,ch⟩,hm,hx⟩;obtain⟨q,hq⟩:=List.mem_iff_getElem?.mp hm;obtain⟨h1,h2⟩:=List.getElem?_zip_eq_some.mp hq;cases o with
  |none=>cases hx
  | some p=>
   obtain⟨⟨mv,j⟩,hj,rfl⟩:=List.mem_map.mp hx;obtain⟨i,hi⟩:=List.mem_iff_getElem?.mp hj;rw[List.getElem?_zipIdx]at hi;cases w:ch[i]? with
   |none=>rw[w]at hi;cases hi
   | some mv'=>
    rw[w]at hi;have hi:(mv',0+i)=(mv,j):=jd hi;obtain⟨rfl,rfl⟩:=Prod.mk.inj hi;exact⟨q,p,ch,0+i,_,h1,h2,by rw[jq];exact w,rfl⟩
 ·rintro⟨q,p,ch,j,mv,h1,h2,h3,rfl⟩;refine⟨(some p,ch),List.mem_iff_getElem?.mpr ⟨q,List.getElem?_zip_eq_some.mpr ⟨h1,h2⟩⟩,List.mem_map.mpr ⟨(mv,j),List.mem_iff_getElem?.mpr ⟨j,?_⟩,rfl⟩⟩;rw[List.getElem?_zipIdx,h3];simp
section
variable(r:Int)(taps:List Int)(rows:List (List Int))(ts:List Told)
def pcK(k:Nat)(u:List Int):Int:=((List.range' 0 k).map λj=>q55 (chunk taps rows ts j) (qd7 r.toNat taps rows 0 u j)).sum
end
section
variable{r:Int}{taps:List Int}{rows:List (List Int)}{ts:List Told}{n:Nat}
theorem qii(k:Nat)(u:List Int):pcK r taps rows ts (k+1) u=pcK r taps rows ts k u+q55 (chunk taps rows ts k) (qd7 r.toNat taps rows 0 u k):=by unfold pcK;rw[List.range'_concat,x8,List.sum_append];simp
theorem qel{m:Nat}{a:Int}{u v:List Int}{j:Nat}(h:j<u.length):qd7 m taps rows a (u++v) j=qd7 m taps rows a u j:=by unfold qd7;rw[List.take_append_of_le_length (by omega),jz,kc h,<-jz]
theorem qm9{k:Nat}{u v:List Int}(h:k<=u.length):pcK r taps rows ts k (u++v)=pcK r taps rows ts k u:=by unfold pcK;congr 1;refine List.map_congr_left λj hj=>?_;have:=List.mem_range'_1.mp hj;rw[qel (by omega)]
theorem qbz(u:List Int)(b:Int):pcK r taps rows ts (u.length+1) (u++[b])=pcK r taps rows ts u.length u+(mvK r taps rows ts u.length (endR (2^r.toNat) 0 u) b).2:=by rw[qii,qm9 (jg _)];congr 1;unfold qd7;rw[List.take_left,jz,xw (jg _),Nat.sub_self];rfl
structure q4v(k:Nat)(row:Kr):Prop where
 len:row.length=2^r.toNat
 is:∀(q:Nat) (p:Int×List Int),row[q]? =some (some p)->Bits p.2/\p.2.length=k/\endR (2^r.toNat) 0 p.2=(q:Int)/\p.1=pcK r taps rows ts k p.2
 best:∀u:List Int,Bits u->u.length=k->∃p,row[(endR (2^r.toNat) 0 u).toNat]? =some (some p)/\qLt (pcK r taps rows ts k u,u) p=false
theorem q51:q4v (r:=r) (taps:=taps) (rows:=rows) (ts:=ts) 0 (q40 (2^r.toNat)):=by
 have mp:0<2^r.toNat:=Nat.pow_pos (by decide);refine⟨by unfold q40;simp,λq p h=>?_,λu hu lu=>?_⟩
 ·unfold q40 at h;rw[je]at h;by_cases lt:q<2^r.toNat
  ·rw[xp lt]at h;by_cases z:q=0
   ·subst z;have h:((0:Int),([]:List Int))=p:=by simpa using h
    subst h;exact⟨λb h=>(nomatch h),rfl,rfl,rfl⟩
   ·simp[z]at h
  ·rw[xq (by simp;omega)]at h;cases h
 ·have e:=List.eq_nil_of_length_eq_zero lu;subst e;refine⟨(0,[]),?_,q4a _⟩;unfold q40;rw[je];show(List.range (2^r.toNat))[(0:Int).toNat]?.map _=_;rw[show(0:Int).toNat=0 from rfl,xp mp];rfl
theorem qa2{k:Nat}{row:Kr}(hk:k<n)(h:q4v (r:=r) (taps:=taps) (rows:=rows) (ts:=ts) k row):q4v (r:=r) (taps:=taps) (rows:=rows) (ts:=ts) (k+1) (q3a row (stepK r taps rows ts n k)):=by
 have mp:(0:Int)<2^r.toNat:=Int.pow_pos (by decide);have pn:=q3j (r:=r);have eb:q44 n k=[0,1]:=by unfold q44;rw[if_pos hk]
 have hst:∀(q:Nat),q<2^r.toNat->(stepK r taps rows ts n k)[q]? =some [mvK r taps rows ts k (q:Int) 0,mvK r taps rows ts k (q:Int) 1]:=λq lt=>by unfold L2.stepK;rw[je,xp lt,eb];rfl
 have two:∀{q j:Nat} {mv:Mv},[mvK r taps rows ts k (q:Int) 0,mvK r taps rows ts k (q:Int) 1][j]? =some mv->((j:Int)=0∨(j:Int)=1)/\mv=mvK r taps rows ts k (q:Int) (j:Int):=λ{q j mv} e=>by
  match j,e with
  |0,e=>exact⟨.inl rfl,(jd e).symm⟩
  |1,e=>exact⟨.inr rfl,(jd e).symm⟩
 have led:∀(q:Nat) (b:Int),0<=(mvK r taps rows ts k (q:Int) b).1/\(mvK r taps rows ts k (q:Int) b).1<2^r.toNat:=λq b=>⟨Int.emod_nonneg _ (by omega),Int.emod_lt_of_pos _ mp⟩;have lr:(List.replicate row.length (none:Option (Int×List Int))).length=2^r.toNat:=by rw[jo,h.len]
 refine⟨by unfold q3a;rw[q4d,lr],λq' p' hp=>?_,λu' hu' lu'=>?_⟩
 ·unfold q3a at hp;rcases q3b _ _ _ _ hp with g|⟨x,hx,g1,g2⟩
  ·rw[xr]at g;split at g<;>cases g
  ·obtain⟨q,p,ch,j,mv,h1,h2,h3,rfl⟩:=cand_iff.mp hx;have lt:q<2^r.toNat:=by rw[<-h.len];exact(List.getElem?_eq_some_iff.mp h1).1
   rw[hst q lt]at h2;cases h2;obtain⟨hj,rfl⟩:=two h3;obtain⟨b1,b2,b3,b4⟩:=h.is q p h1;have g2:(p.1+(mvK r taps rows ts k (q:Int) (j:Int)).2,p.2++[(j:Int)])=p':=g2;have g1:(mvK r taps rows ts k (q:Int) (j:Int)).1.toNat=q':=g1;subst g2;have hl:=led q (j:Int);refine⟨qcu b1 λc hc=>by rw[List.mem_singleton.mp hc];exact hj,by rw[jl,b2];rfl,?_,?_⟩
   ·show endR (2^r.toNat) 0 (p.2++[(j:Int)])=_;rw[qa8,b3,<-g1,Int.toNat_of_nonneg hl.1];show _=(2*(q:Int)+(j:Int)) % 2^r.toNat;congr 1;omega
   ·show p.1+_=pcK r taps rows ts (k+1) (p.2++[(j:Int)]);have e:=qbz (r:=r) (taps:=taps) (rows:=rows) (ts:=ts) p.2 (j:Int);rw[b2,b3]at e;rw[e,b4]
 ·have lt:k<u'.length:=by omega
  have e1:u'=u'.take k++[u'[k]]:=by have:=take_snoc (jf lt);rw[List.take_of_length_le (by omega)]at this;exact this
  have hb:=hu' _ (kl lt);have hu:Bits (u'.take k):=λb hb=>hu' b (List.mem_of_mem_take hb);have lu:(u'.take k).length=k:=by rw[xl];omega
  generalize u'.take k=u at e1 hu lu;generalize u'[k]=b at e1 hb;subst e1;obtain⟨p,h1,h2⟩:=h.best u hu lu;have er:=qh9 mp u 0 ⟨Int.le_refl _,mp⟩;obtain⟨b1,b2,b3,b4⟩:=h.is _ p h1;rw[Int.toNat_of_nonneg er.1]at b3;have hq:(endR (2^r.toNat) 0 u).toNat<2^r.toNat:=by omega
  have hx:((mvK r taps rows ts k (endR (2^r.toNat) 0 u) b).1,(p.1+(mvK r taps rows ts k (endR (2^r.toNat) 0 u) b).2,p.2++[b]))∈qbg row (stepK r taps rows ts n k):=by
   have hs:=hst _ hq;rw[Int.toNat_of_nonneg er.1]at hs;rcases hb with z|z
   ·subst z;exact cand_iff.mpr ⟨_,p,_,0,_,h1,hs,rfl,rfl⟩
   ·subst z;exact cand_iff.mpr ⟨_,p,_,1,_,h1,hs,rfl,rfl⟩
  have hl:0<=(mvK r taps rows ts k (endR (2^r.toNat) 0 u) b).1/\(mvK r taps rows ts k (endR (2^r.toNat) 0 u) b).1<2^r.toNat:=⟨Int.emod_nonneg _ (by omega),Int.emod_lt_of_pos _ mp⟩;obtain⟨p',g1,g2⟩:=qh2 _ (List.replicate row.length none) _ hx (by rw[lr];show(mvK r taps rows ts k (endR (2^r.toNat) 0 u) b).1.toNat<_;omega);have ee:endR (2^r.toNat) 0 (u++[b])=(mvK r taps rows ts k (endR (2^r.toNat) 0 u) b).1:=by rw[qa8];show _=(2*endR (2^r.toNat) 0 u+b) % 2^r.toNat;congr 1;omega
  refine⟨p',by rw[ee];exact g1,q71 (y:=(p.1+(mvK r taps rows ts k (endR (2^r.toNat) 0 u) b).2,p.2++[b])) ?_ g2⟩;have e:=qbz (r:=r) (taps:=taps) (rows:=rows) (ts:=ts) u b;rw[lu]at e;rw[e];rcases qLt_le.mp h2 with z|z
  ·exact qLt_le.mpr (.inl (by omega))
  ·exact qLt_le.mpr (.inr ⟨by omega,qj4 (by rw[lu,b2]) z.2⟩)
theorem q91:∀(len k:Nat) (row:Kr),k+len<=n->q4v (r:=r) (taps:=taps) (rows:=rows) (ts:=ts) k row->q4v (r:=r) (taps:=taps) (rows:=rows) (ts:=ts) (k+len) ((q13 r taps rows ts n k len).foldl q3a row)
 |0,k,row,_,h=>h
 | len+1,k,row,hk,h=>by rw[qap,List.foldl_cons];have:=q91 len (k+1) _ (by omega) (qa2 (n:=n) (by omega) h);rw[show k+(len+1)=k+1+len from by omega];exact this
end
def q2h:List Int->List Int->List Int
 |a::as,b::bs=>if a=b then a::q2h as bs else []
 |_,_=>[]
theorem q8e:∀a b:List Int,q2h a b<+:a
 |[],[]=>List.prefix_refl _
 |[],_::_=>List.prefix_refl _
 |_::_,[]=>List.nil_prefix
 | a::as,b::bs=>by
  show(if a=b then a::q2h as bs else [])<+:_;by_cases z:a=b
  ·rw[if_pos z];exact(List.prefix_cons_inj a).mpr (q8e as bs)
  ·rw[if_neg z];exact List.nil_prefix
theorem q7r:∀a b:List Int,q2h a b<+:b
 |[],[]=>List.prefix_refl _
 |[],_::_=>List.nil_prefix
 |_::_,[]=>List.nil_prefix
 | a::as,b::bs=>by
  show(if a=b then a::q2h as bs else [])<+:_;by_cases z:a=b
  ·rw[if_pos z,z];exact(List.prefix_cons_inj b).mpr (q7r as bs)
  ·rw[if_neg z];exact List.nil_prefix
theorem qak:∀c a b:List Int,c<+:a->c<+:b->c<+:q2h a b
 |[],_,_,_,_=>List.nil_prefix
 | x::c,a,b,ha,hb=>by obtain⟨s,rfl⟩:=ha;obtain⟨t,rfl⟩:=hb;show _<+:(if x=x then x::q2h (c++s) (c++t)else []);rw[if_pos rfl];exact(List.prefix_cons_inj x).mpr (qak c _ _ (List.prefix_append _ _) (List.prefix_append _ _))
theorem q52:∀(ws:List (List Int)) (a:List Int),ws.foldl q2h a<+:a/\∀w∈ws,ws.foldl q2h a<+:w
 |[],a=>⟨List.prefix_refl _,λ_ h=>nomatch h⟩
 | v::ws,a=>by
  obtain⟨h1,h2⟩:=q52 ws (q2h a v);refine⟨h1.trans (q8e _ _),λw hw=>?_⟩;rcases List.mem_cons.mp hw with rfl|hw
  ·exact h1.trans (q7r _ _)
  ·exact h2 w hw
theorem fold_max:∀(ws:List (List Int)) (a c:List Int),c<+:a->(∀w∈ws,c<+:w)->c<+:ws.foldl q2h a
 |[],_,_,h,_=>h
 |v::ws,a,c,h,hw=>fold_max ws _ c (qak c a v h (hw v jk)) λw h=>hw w (jj _ h)
end L2
namespace L2
open PySem PySem.Spec PyProof.Rows
theorem qdj{c:MC}{O:List Nat}{k n:Nat}{js:List Nat}{wi:TI}{g:TG}{tt:TT}{te:TE}{E:XK}{xi:Xr}(h:MIX c.K O wi E xi):MSXa c O (qfd k n js wi g tt te) E xi:=λZ D σ H R ρ C ρ' hP S e k=>h Z σ H R ρ C ρ' _ S e λH' R' S' st=>k H' R' S' st.r
def koD:Option (Int×List Int)->D
 |none=>.non
 |some p=>pairD p
def krD(row:Kr):D:=.lst (row.map koD)
abbrev Ent:=Addr×Addr×Int×List Int
def entV:Option Ent->V
 |none=>.non
 |some e=>.ref e.1
def entO:Option Ent->Option (Int×List Int)
 |none=>none
 |some e=>some (e.2.2.1,e.2.2.2)
structure Prs(H:Hp)(l:Addr)(es:List (Option Ent)):Prop where
 top:H l=some (.lst (es.map entV))
 ent:∀(k:Nat) (e:Ent),es[k]? =some (some e)->H e.1=some (.tup [.int e.2.2.1,.ref e.2.1])/\H e.2.1=some (.lst (e.2.2.2.map V.int))
 nd:∀(k j:Nat) (e e':Ent),es[k]? =some (some e)->es[j]? =some (some e')->k≠j->e.2.1≠e'.2.1
 nl:∀(k:Nat) (e:Ent),es[k]? =some (some e)->e.2.1≠l
section
variable{K:FrG}{Z:Anc}{O:List Nat}{i j:Nat}{σ:St}{H R H' R':Hp}{ρ ρ':Rho}{l:Addr}{es:List (Option Ent)}
theorem Prs.same(h:Prs H l es)(s:Same H H'):Prs H' l es:=⟨s _ _ h.top,λk e he=>⟨s _ _ (h.ent k e he).1,s _ _ (h.ent k e he).2⟩,h.nd,h.nl⟩
theorem qj9(b:List Int):Rps K H (b.map V.int) (b.map D.int):=by
 induction b with
 |nil=>exact .nil
 |cons a b ih=>exact .cons (.int a) ih
theorem qt4{e:Ent}(h1:H e.1=some (.tup [.int e.2.2.1,.ref e.2.1]))(h2:H e.2.1=some (.lst (e.2.2.2.map V.int))):Rp K H (.ref e.1) (pairD (e.2.2.1,e.2.2.2)):=
 .tup h1 (.cons (.int _) (.cons (.lst (SqL.of h2) (qj9 _)) .nil))
theorem q95:∀{es:List (Option Ent)},(∀(k:Nat) (e:Ent),es[k]? =some (some e)->H e.1=some (.tup [.int e.2.2.1,.ref e.2.1])/\H e.2.1=some (.lst (e.2.2.2.map V.int)))->Rps K H (es.map entV) ((es.map entO).map koD)
 |[],_=>.nil
 |none::es,h=>.cons .non (q95 λk e he=>h (k+1) e he)
 |some x::es,h=>.cons (qt4 (h 0 x rfl).1 (h 0 x rfl).2) (q95 λk e he=>h (k+1) e he)
theorem Prs.rp(h:Prs H l es):Rp K H (.ref l) (krD (es.map entO)):=.lst (SqL.of h.top) (q95 h.ent)
structure StK(K:FrG)(Z:Anc)(i:Nat)(σ:St)(H R:Hp)(ρ:Rho)(l:Addr)(es:List (Option Ent)):Prop where
 st:StR K Z [] σ H R ρ
 no:ρ[i]? =some none
 at':σ[i]? =some (some (.ref l))
 pr:Prs H l es
 zl:Z.H0 l=none/\R l=none
 zw:∀(k:Nat) (e:Ent),es[k]? =some (some e)->Z.H0 e.2.1=none/\R e.2.1=none
theorem qee{a:Addr}{vs:List V}(s:Stp [] σ H R H' R')(h:H a=some (.lst vs))(r:R a=none):R' a=none:=by
 cases q:R' a with
 |none=>rfl
 | some o=>
  rcases s.n a (by rw[q];exact λz=>nomatch z)with z|z
  ·exact absurd r z
  ·rcases z with z|⟨xs,z⟩<;>(rw[h]at z;cases z)
theorem StK.stp(S:StK K Z i σ H R ρ l es)(T:StR K Z [] σ H' R' ρ')(s:Stp [] σ H R H' R')(no:ρ'[i]? =some none):StK K Z i σ H' R' ρ' l es:=
 ⟨T,no,S.at',S.pr.same λa o z=>s.h a o z λi hi=>(nomatch hi),⟨S.zl.1,qee s S.pr.top S.zl.2⟩,λk e he=>⟨(S.zw k e he).1,qee s (S.pr.ent k e he).2 (S.zw k e he).2⟩⟩
theorem StK.grown(S:StK K Z i σ H R ρ l es)(s:Same H H'):StK K Z i σ H' R ρ l es:=
 have y:Ext H R H' R:=⟨s,Same.refl _,λa o z=>s _ _ (S.st.sub a o z),λ_ z=>.inl z⟩
 S.stp (S.st.ext y) y.stp S.no
theorem StK.set{v:V}{d:D}(S:StK K Z i σ H R ρ l es)(ij:j≠i)(r:Rp K R v d):StK K Z i (σ.set j (some v)) H R (ρ.set j (some d)) l es:=
 ⟨S.st.set (λh=>nomatch h) r,by rw[ji ij];exact S.no,by rw[ji ij];exact S.at',S.pr,S.zl,S.zw⟩
theorem StK.tgt{T:List Nat}{σ':St}(S:StK K Z i σ H R ρ l es)(S':StR K Z [] σ' H R ρ')(n:∀j,j∉T->σ'[j]? =σ[j]?)(hT:i∉T)(no:ρ'[i]? =some none):StK K Z i σ' H R ρ' l es:=
 ⟨S',no,by rw[n i hT];exact S.at',S.pr,S.zl,S.zw⟩
abbrev Fk:=Rho->Kr->Option (Rho×Kr)
def MSK(K:FrG)(i:Nat)(t:TS)(f:Fk):Prop:=∀(Z:Anc) (E:Ends) (σ:St) (H R:Hp) (ρ:Rho) (l:Addr) (es:List (Option Ent)) (ρ':Rho) (zf:Kr),StK K Z i σ H R ρ l es->f ρ (es.map entO)=some (ρ',zf)->
 (∀σ' H' R' es',StK K Z i σ' H' R' ρ' l es'->es'.map entO=zf->Same R R'->E.nx σ' H')->t E σ H
end
section
variable{K:FrG}{i j:Nat}{t u:TS}{te:TE}{tt:TT}{f h:Fk}{fe:RhD}{ft:RhB}
def qnl:Fk:=λρ row=>some (ρ,row)
theorem qn5:MSK K i qan qnl:=λZ E σ H R ρ l es ρ' zf S e k=>by cases e;exact k σ H R es S rfl (Same.refl _)
def qjh(f h:Fk):Fk:=λρ row=>match f ρ row with
 |some p=>h p.1 p.2
 |none=>none
theorem qn3(h1:MSK K i t f)(h2:MSK K i u h):MSK K i (tSeq t u) (qjh f h):=λZ E σ H R ρ l es ρ' zf S e k=>by
 unfold qjh at e;cases q:f ρ (es.map entO)with
 |none=>rw[q]at e;cases e
 | some p=>
  rw[q]at e;refine h1 Z _ σ H R ρ l es p.1 p.2 S q λσ1 H1 R1 es1 S1 e1 s1=>?_;exact h2 Z E σ1 H1 R1 p.1 l es1 ρ' zf S1 (by rw[e1];exact e) λσ2 H2 R2 es2 S2 e2 s2=>k σ2 H2 R2 es2 S2 e2 (s1.trans s2)
def fkIf(i:Nat)(ft:RhB)(f h:Fk):Fk:=λρ row=>match ft ρ with
 |some (b,ρ1)=>if isFree ρ1 i=true then(if b=true then f ρ1 row else h ρ1 row)else none
 |none=>none
theorem qrs(ht:MT K [] tt ft)(h1:MSK K i t f)(h2:MSK K i u h):MSK K i (tIfS tt t u) (fkIf i ft f h):=λZ E σ H R ρ l es ρ' zf S e k=>by
 unfold fkIf at e;cases q:ft ρ with
 |none=>rw[q]at e;cases e
 | some p=>
  obtain⟨b,ρ1⟩:=p;rw[q]at e;dsimp only at e;by_cases z:isFree ρ1 i=true
  ·rw[if_pos z]at e;refine ht Z σ H R ρ b ρ1 _ S.st q λH1 R1 S1 st1=>?_;have S2:=S.stp S1 st1 (q2a z);cases b with
   |true=>exact iteT (h1 Z E σ H1 R1 ρ1 l es ρ' zf S2 e λσ2 H2 R2 es2 S2 e2 s2=>k σ2 H2 R2 es2 S2 e2 (st1.r.trans s2))
   |false=>exact iteF (h2 Z E σ H1 R1 ρ1 l es ρ' zf S2 e λσ2 H2 R2 es2 S2 e2 s2=>k σ2 H2 R2 es2 S2 e2 (st1.r.trans s2))
  ·rw[if_neg z]at e;cases e
def qh4(i j:Nat)(fe:RhD):Fk:=λρ row=>match fe ρ with
 |some (d,ρ1)=>if isFree ρ1 i=true then some (ρ1.set j (some d),row)else none
 |none=>none
theorem qn2(he:ME K [] te fe)(ij:j≠i):MSK K i (tAsg te (q41 j)) (qh4 i j fe):=λZ E σ H R ρ l es ρ' zf S e k=>by
 unfold qh4 at e;cases q:fe ρ with
 |none=>rw[q]at e;cases e
 | some p=>
  obtain⟨d,ρ1⟩:=p;rw[q]at e;dsimp only at e;by_cases z:isFree ρ1 i=true
  ·rw[if_pos z]at e;cases e;exact he Z σ H R ρ d ρ1 _ S.st q λv H1 R1 S1 st1 r1=>k _ H1 R1 es ((S.stp S1 st1 (q2a z)).set ij r1) rfl st1.r
  ·rw[if_neg z]at e;cases e
def q6f(i:Nat)(fg:RhG)(f:Fk):List D->Fk
 |[],ρ,row=>some (ρ,row)
 | d::r,ρ,row=>match fg d ρ with
  | some ρ1=>if isFree ρ1 i=true then(match f ρ1 row with
   |some p=>q6f i fg f r p.1 p.2
   |none=>none)else none
  |none=>none
def q6g(i:Nat)(fg:RhG)(fi:RhL)(f:Fk):Fk:=λρ row=>match fi ρ with
 |some (ds,ρ1)=>if isFree ρ1 i=true then q6f i fg f ds ρ1 row else none
 |none=>none
theorem qc9{wi:TI}{g:TG}{T:List Nat}{fg:RhG}{fi:RhL}{tb:TS}(hi:MI K [] wi fi)(hg:MG K [] T g fg)(hT:i∉T)(hb:MSK K i tb f):MSK K i (tFor wi g tb) (q6g i fg fi f):=λZ E σ H R ρ l es ρ' zf S e k=>by
 unfold q6g at e;cases q:fi ρ with
 |none=>rw[q]at e;cases e
 | some p=>
  obtain⟨ds,ρ1⟩:=p;rw[q]at e;dsimp only at e;by_cases z:isFree ρ1 i=true
  ·rw[if_pos z]at e;refine hi Z σ H R ρ ds ρ1 _ S.st q λJ H1 R1 S1 st1 ok=>?_;have S2:=S.stp S1 st1 (q2a z);refine⟨λn m σ' H'=>m=ds.length-n/\n<=ds.length/\∃R2 ρ2 es2,StK K Z i σ' H' R2 ρ2 l es2/\Same R1 R2/\q6f i fg f (ds.drop n) ρ2 (es2.map entO)=some (ρ',zf),⟨ds.length,by simp,Nat.zero_le _,R1,ρ1,es,S2,Same.refl _,by rw[List.drop_zero];exact e⟩,?_⟩;rintro n m σ' H' ⟨rfl,hn,R2,ρ2,es2,S3,s3,e3⟩;obtain⟨o1,o2⟩:=ok H' R2 s3 S3.st.sub n;by_cases hlt:n<ds.length
   ·obtain⟨g1,g2⟩:=o2 ds[n] (jf hlt);rw[xx hlt]at e3;refine .inr ⟨g1,λσ3 H3=>∃R2 ρ2 es2,StK K Z i σ3 H3 R2 ρ2 l es2/\Same R1 R2/\q6f i fg f (ds.drop (n+1)) ρ2 (es2.map entO)=some (ρ',zf),?_,λx H3 y=>?_⟩
    ·rintro σ3 H3 ⟨R3,ρ3,es3,q1,q2,q3⟩;exact⟨ds.length-(n+1),by omega,rfl,hlt,R3,ρ3,es3,q1,q2,q3⟩
    ·obtain⟨R3,x3,r3⟩:=g2 x H3 y;have S4:=S3.stp (S3.st.ext x3) x3.stp S3.no;unfold q6f at e3;cases e4:fg ds[n] ρ2 with
     |none=>rw[e4]at e3;cases e3
     | some ρ4=>
           rw[e4]at e3;dsimp only at e3;by_cases z4:isFree ρ4 i=true
           ·rw[if_pos z4]at e3;refine hg Z σ' H3 R3 ρ2 x ds[n] ρ4 _ S4.st r3 e4 λσ4 S5 n5=>?_;have S6:=S4.tgt S5 n5 hT (q2a z4);cases e5:f ρ4 (es2.map entO)with
            |none=>rw[e5]at e3;cases e3
            | some p=>
             rw[e5]at e3;exact hb Z _ _ H3 R3 _ l es2 p.1 p.2 S6 e5 λσ5 H5 R5 es5 S7 q5 s5=>⟨R5,p.1,es5,S7,(s3.trans x3.r).trans s5,by rw[q5];exact e3⟩
           ·rw[if_neg z4]at e3;cases e3
   ·have en:n=ds.length:=by omega
    subst en;rw[List.drop_length]at e3;unfold q6f at e3;cases e3;exact .inl ⟨o1 rfl,k σ' H' R2 es2 S3 rfl (st1.r.trans s3)⟩
  ·rw[if_neg z]at e;cases e
def qlz(K:FrG):Sp:=λvs H Q _=>∃v0 v1 p,vs=[v0,v1]/\PrV K H v1 p/\((v0=.non/\Q v1 H)∨∃q,PrV K H v0 q/\q.2.length=p.2.length/\Q (if qLt p q=true then v1 else v0) H)
theorem qd1{Nms:List Str}{H:Hp}{vs:List V}{Q:VK}{E:XK}(hN:Nms.length=2)(h:qlz K vs H Q E):
 (tRet (tIf (qlv (tOp (λx y H Q=>y=.non/\Q (.bl (decide (x=.non))) H) (tVar 0) (tC .non))) (tVar 1) (tCB (qfl K) (q35 (tVar 0) (q35 (tVar 1) tNil))))) {nx:=λ_ H'=>Q .non H',rt:=Q} (start Nms vs) H:=by
 obtain⟨v0,v1,p,rfl,r1,k⟩:=h;have es:start Nms [v0,v1]=[some v0,some v1]:=by unfold start;show [some v0,some v1]++List.replicate (Nms.length-2) none=_;rw[hN];rfl
 rw[es];refine⟨v0,rfl,rfl,_,rfl,?_⟩;rcases k with⟨rfl,k⟩|⟨q,r0,hl,k⟩
 ·exact iteT ⟨v1,rfl,k⟩
 ·obtain⟨a,b,rfl,_⟩:=r0;exact iteF ⟨.ref a,rfl,v1,rfl,.ref a,v1,q,p,rfl,⟨a,b,rfl,‹_›⟩,r1,hl,k⟩
theorem qbp{R:Hp}:∀{w:List Int} {us:List V},Rps K R us (w.map D.int)->us=w.map V.int
 |[],_,.nil=>rfl
 | a::w,_,.cons h t=>by cases h;rw[qbp t];rfl
theorem qbo{R:Hp}:∀{n:Nat} {us:List V},Rps K R us (List.replicate n .non)->us=List.replicate n .non
 |0,_,h=>by cases h;rfl
 | n+1,_,h=>by
  rw[List.replicate_succ]at h;cases h with
  | cons h t=>
   cases h;rw[qbo t];rfl
theorem q5g(es:List (Option Ent))(n:Nat)(e:Option Ent):(es.set n e).map entV=(es.map entV).set n (entV e):=List.map_set ..
theorem StK.put{Z:Anc}{σ:St}{H R:Hp}{ρ:Rho}{l:Addr}{es:List (Option Ent)}{e:Ent}{n:Nat}(S:StK K Z i σ H R ρ l es)(h1:H e.1=some (.tup [.int e.2.2.1,.ref e.2.1]))(h2:H e.2.1=some (.lst (e.2.2.2.map V.int)))(nw:∀(k:Nat) (x:Ent),es[k]? =some (some x)->x.2.1≠e.2.1)(nl:e.2.1≠l)(z:Z.H0 e.2.1=none)(r:R e.2.1=none):
 StK K Z i σ (upd H l (.lst ((es.set n (some e)).map entV))) R ρ l (es.set n (some e)):=by
 have tl:∀{a:Addr} {xs:List V},H a=some (.tup xs)->a≠l:=λh q=>by rw[q,S.pr.top]at h;cases h
 have at':∀(k:Nat) (x:Ent),(es.set n (some e))[k]? =some (some x)->(k=n/\x=e)∨(k≠n/\es[k]? =some (some x)):=λk x h=>by
  by_cases q:n=k
  ·subst q;have hl:n<es.length:=by
    have:=(List.getElem?_eq_some_iff.mp h).1
    rwa [jw]at this
   rw[jn hl]at h;cases h;exact .inl ⟨rfl,rfl⟩
  ·rw[ji q]at h;exact .inr ⟨λz=>q z.symm,h⟩
 refine⟨S.st.put S.zl.2 (λi hi=>nomatch hi) S.zl.1,S.no,S.at',⟨q0m,λk x h=>?_,λk j x y h g kj=>?_,λk x h=>?_⟩,S.zl,λk x h=>?_⟩
 ·rcases at' k x h with⟨_,rfl⟩|⟨_,h⟩
  ·rw[q0j (tl h1),q0j nl];exact⟨h1,h2⟩
  ·rw[q0j (tl (S.pr.ent k x h).1),q0j (S.pr.nl k x h)];exact S.pr.ent k x h
 ·rcases at' k x h with⟨ka,xe⟩|⟨ka,hk⟩<;>rcases at' j y g with⟨ja,ye⟩|⟨ja,hj⟩
  ·exact absurd (ka.trans ja.symm) kj
  ·rw[xe];exact λq=>nw j y hj q.symm
  ·rw[ye];exact nw k x hk
  ·exact S.pr.nd k j x y hk hj kj
 ·rcases at' k x h with⟨_,rfl⟩|⟨_,h⟩
  ·exact nl
  ·exact S.pr.nl k x h
 ·rcases at' k x h with⟨_,rfl⟩|⟨_,h⟩
  ·exact⟨z,r⟩
  ·exact S.zw k x h
theorem qlu{H:Hp}{a:Addr}{o:HO}(h:H a=some o):upd H a o=H:=by
 funext b;by_cases q:b=a
 ·rw[q,q0m,h]
 ·rw[q0j q]
def qh5(i j:Nat)(fa:RhD)(fw:RhL):Fk:=λρ row=>match ρ[j]?,fa ρ with
 | some (some (.int k)),some (.int c,ρ1)=>(match fw ρ1 with
  | some (ws,ρ2)=>(match q2s ws,row[k.toNat]?,ρ2[j]? with
   |some w,some o,some (some (.int k'))=>if isFree ρ1 i=true/\isFree ρ2 i=true/\k'=k/\0<=k/\(∀q∈o,q.2.length=w.length)then some (ρ2,putK row (k,c,w))else none
   |_,_,_=>none)
  |none=>none)
 |_,_=>none
theorem qhs{α:Type}{xs:List α}{k:Int}{x:α}(h0:0<=k)(h:xs[k.toNat]? =some x):atI xs k=some x:=by
 unfold atI;have e1:ixN xs.length k=some k.toNat:=by have:=(List.getElem?_eq_some_iff.mp h).1;unfold ixN;rw[if_pos h0,if_pos (by omega)]
 rw[e1];exact h
theorem qgr{n:Nat}{k:Int}(h0:0<=k)(h:k.toNat<n):ixN n k=some k.toNat:=by unfold ixN;rw[if_pos h0,if_pos (by omega)]
theorem qn4{ta tw:TE}{EX:XK}{fa:RhD}{fw:RhL}(ha:ME K [] ta fa)(hw:MN K [] tw fw):
 MSK K i (tAsg (q6j (qlz K) [] EX (q35 (tOp (rIx K) (tVar i) (tVar j)) (q35 (tTup (q35 ta (q35 tw tNil))) tNil))) (gSub (tVar i) (tVar j) qfk)) (qh5 i j fa fw):=λZ E σ H R ρ l es ρ' zf S e k=>by
 unfold qh5 at e;split at e
 ·rename_i kk c ρ1 e0 e1;split at e
  ·rename_i ws ρ2 e2;split at e
   ·rename_i w o kk' q1 q2 q3;split at e
    ·rename_i z;obtain⟨z1,z2,rfl,z4,z5⟩:=z;obtain⟨rfl,rfl⟩:=Prod.mk.inj (jd e);rw[q6q q1]at e2;have hx:=q2;rw[je]at hx;cases y:es[kk'.toNat]? with
     |none=>rw[y]at hx;cases hx
     | some eo=>
      rw[y]at hx;cases hx;have hlt:kk'.toNat<es.length:=(List.getElem?_eq_some_iff.mp y).1;obtain⟨vj,j1,j2⟩:=S.st.env j _ (λh=>nomatch h) e0;cases j2;have ev:(es.map entV)[kk'.toNat]? =some (entV eo):=by rw[je,y];rfl
      refine⟨.ref l,S.at',.int kk',j1,.inl ⟨l,_,kk',entV eo,rfl,rfl,SqL.of S.pr.top,qhs z4 ev,?_⟩⟩;refine ha Z σ H R ρ (.int c) ρ1 _ S.st e1 λv1 H1 R1 S1 st1 r1=>?_;cases r1;have T1:=S.stp S1 st1 (q2a z1);refine hw Z σ H1 R1 ρ1 _ ρ2 _ S1 e2 λb us H2 R2 S2 st2 hb hb2 rb2 rv=>?_;have T2:=T1.stp S2 st2 (q2a z2);rw[qbp rv]at hb2;refine⟨by show 2<=sizeLine;decide,λp hp=>?_⟩;have T3:=T2.grown (Same.new (o:=.tup [.int c,.ref b]) hp);have pb:b≠p:=λq=>by rw[<-q,hb2]at hp;cases hp
      have hb3:upd H2 p (.tup [.int c,.ref b]) b=some (.lst (w.map V.int)):=by rw[q0j pb];exact hb2
      have P1:PrV K (upd H2 p (.tup [.int c,.ref b])) (.ref p) (c,w):=⟨p,b,rfl,SqT.of q0m,SqL.of hb3⟩;obtain⟨vj2,j3,j4⟩:=S2.env j _ (λh=>nomatch h) q3;cases j4;have len:(es.map entV).length=es.length:=j9 ..;have nl:b≠l:=λq=>by have:=T1.pr.top;rw[<-q,hb]at this;cases this
      have nw:∀(k:Nat) (x:Ent),es[k]? =some (some x)->x.2.1≠b:=λk x h q=>by have:=(T1.pr.ent k x h).2;rw[q,hb]at this;cases this
      have T4:=T3.put (e:=(p,b,c,w)) (n:=kk'.toNat) q0m hb3 nw nl (S1.new0 hb) rb2;have fin:∀(v:V) (es':List (Option Ent)),(es.map entV).set kk'.toNat v=es'.map entV->es'.map entO=putK (es.map entO) (kk',c,w)->StK K Z i σ (upd (upd H2 p (.tup [.int c,.ref b])) l (.lst (es'.map entV))) R2 ρ2 l es'->gSub (tVar i) (tVar j) qfk v σ (upd H2 p (.tup [.int c,.ref b])) E.nx:=λv es' g1 g2 g3=>by refine⟨.ref l,S.at',.int kk',j3,l,_,kk',kk'.toNat,rfl,rfl,T3.pr.top,qgr z4 (by rw[len];exact hlt),?_⟩;rw[g1];exact k σ _ R2 es' g3 g2 (st1.r.trans st2.r)
      have gD:(es.map entO).getD kk'.toNat none=entO eo:=by rw[jz,je,y];rfl
      have new:betP (entO eo) (c,w)=(c,w)->gSub (tVar i) (tVar j) qfk (.ref p) σ (upd H2 p (.tup [.int c,.ref b])) E.nx:=λhbt=>by refine fin (.ref p) (es.set kk'.toNat (some (p,b,c,w))) (q5g es kk'.toNat (some (p,b,c,w))).symm ?_ T4;show _=(es.map entO).set kk'.toNat (some (betP ((es.map entO).getD kk'.toNat none) (c,w)));rw[gD,hbt];exact List.map_set ..
      cases eo with
      |none=>exact⟨.non,.ref p,(c,w),rfl,P1,.inl ⟨rfl,new rfl⟩⟩
      | some x=>
       have h3:=T3.pr.ent _ x y;refine⟨.ref x.1,.ref p,(c,w),rfl,P1,.inr ⟨(x.2.2.1,x.2.2.2),⟨x.1,x.2.1,rfl,SqT.of h3.1,SqL.of h3.2⟩,z5 _ rfl,?_⟩⟩;by_cases hq:qLt (c,w) (x.2.2.1,x.2.2.2)=true
       ·rw[if_pos hq];exact new (if_pos hq)
       ·rw[if_neg hq];have s1:es.set kk'.toNat (some x)=es:=by
         have h4:es[kk'.toNat]=some x:=by have:=jf hlt;rw[y]at this;exact(jd this).symm
         rw[<-h4];exact List.set_getElem_self hlt
        refine fin (.ref x.1) es ?_ ?_ ?_
        ·have:=q5g es kk'.toNat (some x);rw[s1]at this;exact this.symm
        ·show _=(es.map entO).set kk'.toNat (some (betP ((es.map entO).getD kk'.toNat none) (c,w)));rw[gD];have eb:betP (entO (some x)) (c,w)=(x.2.2.1,x.2.2.2):=if_neg hq;rw[eb];have:(es.set kk'.toNat (some x)).map entO=(es.map entO).set kk'.toNat (entO (some x)):=List.map_set ..;rw[s1]at this;exact this
        ·rw[qlu T3.pr.top];exact T3
    ·cases e
   ·cases e
  ·cases e
 ·cases e
end
section
variable{K:FrG}{Z:Anc}{i j q:Nat}{σ:St}{H R H' R':Hp}{ρ ρ':Rho}{l:Addr}{es:List (Option Ent)}
def spK(K:FrG)(n:Nat)(g:List D->Option Kr):Sp:=λvs H Q _=>vs.length=n/\∃ds row,Rps K H vs ds/\g ds=some row/\
 ∀l es H',Same H H'->Prs H' l es->H l=none->(∀(k:Nat) (e:Ent),es[k]? =some (some e)->H e.2.1=none)->es.map entO=row->Q (.ref l) H'
theorem q8j{Nms:List Str}{vs:List V}{ds:List D}(r:Rps K H vs ds):StR K ⟨H,H,λ_=>False,[]⟩ [] (start Nms vs) H H (ds.map some++List.replicate (Nms.length-ds.length) none):=by
 refine⟨λ_ _ q=>q,?_,λi d _ q=>?_,λi hi=>(nomatch hi),λi j hi=>(nomatch hi),λa o q _=>q,Same.refl _,λa q=>.inl q,λa q=>.refl q,λi hi=>(nomatch hi),λi hi=>(nomatch hi)⟩
 ·unfold start;rw[jl,jl,j9,j9,jo,jo,r.length]
 ·obtain⟨v,h1,h2⟩:=r.get (q4j q);exact⟨v,q4i h1,h2⟩
theorem StK.end'{H0:Hp}{Q:VK}{row:Kr}(S:StK K ⟨H0,H0,λ_=>False,[]⟩ i σ H R ρ l es)(k:∀l es H',Same H0 H'->Prs H' l es->H0 l=none->(∀(k:Nat) (e:Ent),es[k]? =some (some e)->H0 e.2.1=none)->es.map entO=row->Q (.ref l) H')(e:es.map entO=row):Q (.ref l) H:=
 k l es H (λa o z=>S.st.ah a o z λz=>z) S.pr S.zl.1 (λk e he=>(S.zw k e he).1) e
def qgu:D->Bool
 |.non=>true
 |_=>false
theorem qg4:∀{xs:List D},xs.all qgu=true->xs=List.replicate xs.length .non
 |[],_=>rfl
 | d::r,h=>by rw[List.all_cons,Bool.and_eq_true]at h;rw[ju,List.replicate_succ,<-qg4 h.2];cases d<;>first|rfl|cases h.1
def gKO(N:Nat)(f0:RhL)(f:Fk)(ds:List D):Option Kr:=if ds.length=2 then(match f0 (ds.map some++List.replicate (N-ds.length) none)with
 | some (xs,ρ1)=>if 2<ρ1.length/\xs.all qgu=true then(match f (ρ1.set 2 none) (List.replicate xs.length none)with
  |some p=>some p.2
  |none=>none)else none
 |none=>none)else none
theorem qeg{Nms:List Str}{t0:TE}{t:TS}{f0:RhL}{f:Fk}{vs:List V}{Q:VK}{E:XK}(h0:MN K [] t0 f0)(ht:MSK K 2 t f)(h:spK K 2 (gKO Nms.length f0 f) vs H Q E):
 (tSeq (tAsg t0 (q41 2)) (tSeq t (tRet (tVar 2)))) {nx:=λ_ H'=>Q .non H',rt:=Q} (start Nms vs) H:=by
 obtain⟨hn,ds,row,r,e,k⟩:=h;have S:=q8j (Nms:=Nms) r;unfold gKO at e;split at e
 ·split at e
  ·rename_i xs ρ1 e0;split at e
   ·rename_i z;obtain⟨z1,z2⟩:=z;cases e1:f (ρ1.set 2 none) (List.replicate xs.length none)with
    |none=>rw[e1]at e;cases e
    | some p=>
     rw[e1]at e;cases e;refine h0 _ _ _ _ _ xs ρ1 _ S e0 λl us H1 R1 S1 st1 hl hl1 rl ru=>?_;rw[qg4 z2]at ru;rw[qbo ru]at hl1;have nn:∀(k:Nat) (e:Ent),(List.replicate xs.length (none:Option Ent))[k]? ≠some (some e):=λk e q=>by rw[xr]at q;split at q<;>cases q
     have T:StK K ⟨H,H,λ_=>False,[]⟩ 2 ((start Nms vs).set 2 (some (.ref l))) H1 R1 (ρ1.set 2 none) l (List.replicate xs.length none):=
      ⟨S1.blind (λh=>nomatch h),jn z1,jn (by rw[S1.len];exact z1),⟨by rw[hl1,List.map_replicate];rfl,λk e q=>absurd q (nn k e),λk j e e' q=>absurd q (nn k e),λk e q=>absurd q (nn k e)⟩,⟨hl,rl⟩,λk e q=>absurd q (nn k e)⟩
     refine ht _ _ _ H1 R1 _ l _ p.1 p.2 T (by rw[List.map_replicate];exact e1) λσ2 H2 R2 es2 T2 e2 s2=>?_;exact⟨.ref l,T2.at',T2.end' k e2⟩
   ·cases e
  ·cases e
 ·cases e
def ko0(k:Int):Option (Int×List Int):=if k=0 then some (0,[])else none
def gKF(N:Nat)(fi:RhL)(ds:List D):Option Kr:=if ds.length=1 then(match fi (ds.map some++List.replicate (N-ds.length) none)with
 | some (xs,_)=>if xs.length<sizeLine then(match q2s xs with
  |some ks=>some (ks.map ko0)
  |none=>none)else none
 |none=>none)else none
theorem qeh{Nms:List Str}{wi:TI}{tt:TT}{fi:RhL}{ft:RhB}{vs:List V}{Q:VK}{E:XK}(hi:MI K [] wi fi)(ht:MT K [] tt ft)(hf:∀k:Int,ft [some (.int k)]=some (decide (k=0),[some (.int k)]))(h:spK K 1 (gKF Nms.length fi) vs H Q E):
 (tRet (qao 1 [] wi (q41 0) tYes (tIf tt (tTup (q35 (tC (.int 0)) (q35 (tLst tNil) tNil))) (tC .non)))) {nx:=λ_ H'=>Q .non H',rt:=Q} (start Nms vs) H:=by
 obtain⟨hn,ds,row,r,e,k⟩:=h;have S:=q8j (Nms:=Nms) r;unfold gKF at e;split at e
 ·split at e
  ·rename_i xs ρ1 e0;split at e
   ·rename_i z;cases e1:q2s xs with
    |none=>rw[e1]at e;cases e
    | some ks=>
     rw[e1]at e;cases e;have ex:=q6q e1;subst ex;rw[j9]at z;refine hi _ _ _ _ _ _ ρ1 _ S e0 λJ H1 R1 S1 st1 ok=>?_;have sH:Same H H1:=λa o z=>st1.h a o z λi hi=>(nomatch hi);refine⟨λn m ys H2=>m=ks.length-n/\n<=ks.length/\∃(es:List (Option Ent)) (R2:Hp),ys=es.map entV/\es.map entO=(ks.take n).map ko0/\Same H1 H2/\Same R1 R2/\(∀a o,R2 a=some o->H2 a=some o)/\(∀(k:Nat) (e:Ent),es[k]? =some (some e)->H2 e.1=some (.tup [.int e.2.2.1,.ref e.2.1])/\H2 e.2.1=some (.lst (e.2.2.2.map V.int))/\H1 e.2.1=none)/\(∀(k j:Nat) (e e':Ent),es[k]? =some (some e)->es[j]? =some (some e')->k≠j->e.2.1≠e'.2.1),
      ⟨ks.length,by simp,Nat.zero_le _,[],R1,rfl,rfl,Same.refl _,Same.refl _,S1.sub,λk e h=>(by cases h),λk j e e' h=>(by cases h)⟩,?_⟩
     rintro n m ys H2 ⟨rfl,hn2,es,R2,rfl,eo,s1,s2,sub,en,nd⟩;have le:es.length=n:=by have:=congrArg List.length eo;rw[j9,j9,xl]at this;omega
     obtain⟨o1,o2⟩:=ok H2 R2 s2 sub n;by_cases hlt:n<ks.length
     ·obtain⟨g1,g2⟩:=o2 (.int ks[n]) (by rw[je,jf hlt];rfl);refine .inr ⟨g1,by rw[j9,le];omega,λys' H'=>∃(es:List (Option Ent)) (R2:Hp),ys'=es.map entV/\es.map entO=(ks.take (n+1)).map ko0/\Same H1 H'/\Same R1 R2/\(∀a o,R2 a=some o->H' a=some o)/\(∀(k:Nat) (e:Ent),es[k]? =some (some e)->H' e.1=some (.tup [.int e.2.2.1,.ref e.2.1])/\H' e.2.1=some (.lst (e.2.2.2.map V.int))/\H1 e.2.1=none)/\(∀(k j:Nat) (e e':Ent),es[k]? =some (some e)->es[j]? =some (some e')->k≠j->e.2.1≠e'.2.1),?_,λx H3 y=>?_⟩
      ·rintro ys' H' ⟨es',R2',h⟩;exact⟨ks.length-(n+1),by omega,rfl,hlt,es',R2',h⟩
      ·obtain⟨R3,x3,r3⟩:=g2 x H3 y;cases r3;have SC:StR K ⟨H3,H3,λ_=>False,[]⟩ [] [some (.int ks[n])] H3 H3 [some (.int ks[n])]:=
        ⟨λ_ _ q=>q,rfl,λi d _ q=>(by
          cases i with
          |zero=>cases q;exact⟨_,rfl,.int _⟩
          |succ i=>cases q),λi hi=>(nomatch hi),λi j hi=>(nomatch hi),λa o q _=>q,Same.refl _,λa q=>.inl q,λa q=>.refl q,λi hi=>(nomatch hi),λi hi=>(nomatch hi)⟩
       show(tIf tt (tTup (q35 (tC (.int 0)) (q35 (tLst tNil) tNil))) (tC .non)) [some (.int ks[n])] H3 _;refine ht _ _ _ _ _ _ _ _ SC (hf ks[n]) λH4 R4 S4 st4=>?_;have s34:Same H3 H4:=λa o z=>st4.h a o z λi hi=>(nomatch hi);have s14:Same H1 H4:=(s1.trans x3.h).trans s34;have en4:∀(k:Nat) (e:Ent),es[k]? =some (some e)->H4 e.1=some (.tup [.int e.2.2.1,.ref e.2.1])/\H4 e.2.1=some (.lst (e.2.2.2.map V.int))/\H1 e.2.1=none:=λk e h=>⟨s34 _ _ (x3.h _ _ (en k e h).1),s34 _ _ (x3.h _ _ (en k e h).2.1),(en k e h).2.2⟩;have tk:(ks.take (n+1)).map ko0=(ks.take n).map ko0++[ko0 ks[n]]:=by rw[List.take_succ_eq_append_getElem hlt,x8];rfl
       have snoc:∀(e:Option Ent) (k:Nat) (x:Ent),(es++[e])[k]? =some (some x)->(es[k]? =some (some x)/\k<n)∨(k=n/\e=some x):=λe k x h=>by
        by_cases q:k<es.length
        ·rw[kc q]at h;exact .inl ⟨h,by omega⟩
        ·rw[xw (by omega)]at h;by_cases q2:k-es.length=0
         ·rw[q2]at h;exact .inr ⟨by omega,by simpa using h⟩
         ·rw[show k-es.length=(k-es.length-1)+1 from by omega]at h;cases h
       by_cases hz:ks[n]=0
       ·rw[decide_eq_true hz];refine iteT ⟨by show 0<=sizeLine;decide,λb hb=>⟨by show 2<=sizeLine;decide,λp hp=>?_⟩⟩;have bp:b≠p:=λq=>by rw[<-q,q0m]at hp;cases hp
        have x5:=Same.new (o:=.lst []) hb;have x6:=Same.new (o:=.tup [.int 0,.ref b]) hp;refine⟨es++[some (p,b,0,[])],R3,by rw[x8];rfl,by rw[x8,tk,eo];show _=_++[ko0 ks[n]];rw[hz];rfl,(s14.trans x5).trans x6,s2.trans x3.r,λa o h=>x6 _ _ (x5 _ _ (s34 _ _ (x3.s _ _ h))),λk e h=>?_,λk j e e' h g kj=>?_⟩
        ·rcases snoc _ k e h with⟨h,_⟩|⟨_,h⟩
         ·exact⟨x6 _ _ (x5 _ _ (en4 k e h).1),x6 _ _ (x5 _ _ (en4 k e h).2.1),(en4 k e h).2.2⟩
         ·cases h;refine⟨q0m,by rw[q0j bp];exact q0m,?_⟩;cases z:H1 b with
          |none=>rfl
          |some o=>rw[s14 b o z]at hb;cases hb
        ·have old:∀(k:Nat) (e:Ent),es[k]? =some (some e)->e.2.1≠b:=λk e h q=>by
          have:=(en4 k e h).2.1;rw[q,hb]at this;cases this
         rcases snoc _ k e h with⟨h,_⟩|⟨hk,h⟩<;>rcases snoc _ j e' g with⟨g,_⟩|⟨hj,g⟩
         ·exact nd k j e e' h g kj
         ·cases g;exact old k e h
         ·cases h;exact(old j e' g).symm
         ·omega
       ·rw[decide_eq_false hz];refine iteF ⟨es++[none],R3,by rw[x8];rfl,by rw[x8,tk,eo];show _=_++[ko0 ks[n]];unfold ko0;rw[if_neg hz];rfl,s14,s2.trans x3.r,λa o h=>s34 _ _ (x3.s _ _ h),λk e h=>?_,λk j e e' h g kj=>?_⟩
        ·rcases snoc _ k e h with⟨h,_⟩|⟨_,h⟩
         ·exact en4 k e h
         ·cases h
        ·rcases snoc _ k e h with⟨h,_⟩|⟨_,h⟩
         ·rcases snoc _ j e' g with⟨g,_⟩|⟨_,g⟩
          ·exact nd k j e e' h g kj
          ·cases g
         ·cases h
     ·have en':n=ks.length:=by omega
      refine .inl ⟨o1 (by rw[j9];exact en'),by rw[j9,le];omega,λp hp=>?_⟩;have x6:=Same.new (o:=.lst (es.map entV)) hp;have h1p:H1 p=none:=by
       cases z:H1 p with
       |none=>rfl
       |some o=>rw[s1 p o z]at hp;cases hp
      have h0:∀a,H1 a=none->H a=none:=λa ha=>by
       cases z:H a with
       |none=>rfl
       |some o=>rw[sH a o z]at ha;cases ha
      refine k p es _ ((sH.trans s1).trans x6) ⟨q0m,λk e h=>⟨x6 _ _ (en k e h).1,x6 _ _ (en k e h).2.1⟩,nd,λk e h q=>?_⟩ (h0 p h1p) (λk e h=>h0 _ (en k e h).2.2) (by rw[eo,en',List.take_length]);have:=(en k e h).2.1;rw[q,hp]at this;cases this
   ·cases e
  ·cases e
 ·cases e
def q7v(g:List D->Option Kr):List D->Kr->Option Kr
 |[],row=>some row
 | x::xs,row=>match g [krD row,x]with
  |some zf=>q7v g xs zf
  |none=>none
def gKD(N:Nat)(gF gO:List D->Option Kr)(fi:RhL)(ds:List D):Option Kr:=match ds with
 | [d0,d1,d2]=>(match gF [d0]with
  | some row=>(match fi ((ds.map some++List.replicate (N-ds.length) none).set 3 none)with
   |some (xs,ρ1)=>if isFree ρ1 3=true/\4<ρ1.length then q7v gO xs row else none
   |none=>none)
  |none=>none)
 |_=>none
theorem StK.next{es':List (Option Ent)}{l':Addr}(S:StK K Z i σ H R ρ l es)(s:Same H H')(p:Prs H' l' es')(n1:H l'=none)(n2:∀(k:Nat) (e:Ent),es'[k]? =some (some e)->H e.2.1=none):StK K Z i (σ.set i (some (.ref l'))) H' R ρ l' es':=by
 have T:=(S.grown s).st;have il:i<ρ.length:=(List.getElem?_eq_some_iff.mp S.no).1;refine⟨?_,S.no,jn (by rw[S.st.len];exact il),p,⟨S.st.new0 n1,S.st.out n1⟩,λk e h=>⟨S.st.new0 (n2 k e h),S.st.out (n2 k e h)⟩⟩;have B:=T.blind (v:=.ref l') (j:=i) (λh=>nomatch h);have er:ρ.set i none=ρ:=by have h4:=S.no;rw[jf il]at h4;have h5:ρ[i]=none:=jd h4;rw[<-h5];exact List.set_getElem_self il
 rw[er]at B;exact B
theorem qei{Nms:List Str}{wi:TI}{gF gO:List D->Option Kr}{fi:RhL}{vs:List V}{Q:VK}{E EX1 EX2:XK}(hN:Nms.length=5)(hi:MI K [] wi fi)(h:spK K 3 (gKD Nms.length gF gO fi) vs H Q E):
 (tSeq (tAsg (q6j (spK K 1 gF) [] EX1 (q35 (tVar 0) tNil)) (q41 3)) (tSeq (tFor wi (q41 4) (tAsg (q6j (spK K 2 gO) [] EX2 (q35 (tVar 3) (q35 (tVar 4) tNil))) (q41 3))) (tRet (tVar 3)))) {nx:=λ_ H'=>Q .non H',rt:=Q} (start Nms vs) H:=by
 obtain⟨hn,ds,row,r,e,k⟩:=h;have S:=q8j (Nms:=Nms) r;unfold gKD at e;split at e
 ·rename_i d0 d1 d2;cases e1:gF [d0]with
  |none=>rw[e1]at e;cases e
  | some zy=>
   rw[e1]at e;dsimp only at e;rw[hN]at e S;cases e2:fi ((([d0,d1,d2]:List D).map some++List.replicate (5-([d0,d1,d2]:List D).length) none).set 3 none)with
   |none=>rw[e2]at e;cases e
   | some p=>
    obtain⟨xs,ρ1⟩:=p;rw[e2]at e;dsimp only at e;split at e
    ·rename_i z;obtain⟨z1,z2⟩:=z;obtain⟨v0,a1,a2⟩:=S.env 0 d0 (λh=>nomatch h) rfl;refine⟨v0,a1,rfl,[d0],zy,.cons a2 .nil,e1,λl es H1 sm pr n1 n2 eo=>?_⟩;have y:Ext H H H1 H:=⟨sm,Same.refl _,sm,λ_ z=>.inl z⟩;have SB:=(S.ext y).blind (v:=.ref l) (j:=3) (λh=>nomatch h);have T:StK K ⟨H,H,λ_=>False,[]⟩ 3 ((start Nms vs).set 3 (some (.ref l))) H1 H _ l es:=⟨SB,rfl,jn (by rw[S.len];exact(show 3<5 by decide)),pr,⟨n1,n1⟩,λk e h=>⟨n2 k e h,n2 k e h⟩⟩;refine hi _ _ H1 H _ xs ρ1 _ SB e2 λJ H2 R2 S2 st2 ok=>?_;have T2:=T.stp S2 st2 (q2a z1);have z3:=q2a z1;refine⟨λn m σ' H'=>m=xs.length-n/\n<=xs.length/\∃R3 ρ3 l3 es3,StK K ⟨H,H,λ_=>False,[]⟩ 3 σ' H' R3 ρ3 l3 es3/\4<ρ3.length/\Same R2 R3/\q7v gO (xs.drop n) (es3.map entO)=some row,⟨xs.length,by simp,Nat.zero_le _,R2,ρ1,l,es,T2,z2,Same.refl _,by rw[List.drop_zero,eo];exact e⟩,?_⟩;rintro n m σ' H' ⟨rfl,hn3,R3,ρ3,l3,es3,T3,z4,s3,e3⟩;obtain⟨o1,o2⟩:=ok H' R3 s3 T3.st.sub n;by_cases hlt:n<xs.length
     ·obtain⟨g1,g2⟩:=o2 xs[n] (jf hlt);rw[xx hlt]at e3;unfold q7v at e3;refine .inr ⟨g1,λσ4 H4=>∃R3 ρ3 l3 es3,StK K ⟨H,H,λ_=>False,[]⟩ 3 σ4 H4 R3 ρ3 l3 es3/\4<ρ3.length/\Same R2 R3/\q7v gO (xs.drop (n+1)) (es3.map entO)=some row,?_,λx H4 y=>?_⟩
      ·rintro σ4 H4 ⟨R4,ρ4,l4,es4,h⟩;exact⟨xs.length-(n+1),by omega,rfl,hlt,R4,ρ4,l4,es4,h⟩
      ·obtain⟨R4,x4,r4⟩:=g2 x H4 y;have T4:=(T3.stp (T3.st.ext x4) x4.stp T3.no).set (j:=4) (by decide) r4;cases e4:gO [krD (es3.map entO),xs[n]]with
       |none=>rw[e4]at e3;cases e3
       | some zf=>
             rw[e4]at e3;refine⟨.ref l3,T4.at',x,jn (by rw[T3.st.len];exact z4),rfl,[_,_],zf,.cons T4.pr.rp (.cons (r4.mono T4.st.sub) .nil),e4,λl5 es5 H5 s5 p5 n5 m5 eo5=>?_⟩;refine⟨R4,_,l5,es5,T4.next s5 p5 n5 m5,by rw[jw];exact z4,s3.trans x4.r,by rw[eo5];exact e3⟩
     ·have en:n=xs.length:=by omega
      subst en;rw[List.drop_length]at e3;unfold q7v at e3;exact .inl ⟨o1 rfl,.ref l3,T3.at',T3.end' k (jd e3)⟩
    ·cases e
 ·cases e
end
section
variable{K:FrG}{Z:Anc}{i j q:Nat}{σ:St}{H R H' R':Hp}{ρ ρ':Rho}{l:Addr}{es:List (Option Ent)}
theorem StR.whole(S:StR K Z [] σ H R ρ):StR K ⟨H,H,λ_=>False,[]⟩ [] σ H H ρ:=
 ⟨λ_ _ z=>z,S.len,λj d hj z=>by obtain⟨v,h1,h2⟩:=S.env j d hj z;exact⟨v,h1,h2.mono S.sub⟩,λi hi=>(nomatch hi),λi j hi _=>(nomatch hi),λ_ _ z _=>z,Same.refl _,λ_ z=>.inl z,λ_ z=>.refl z,λi hi _=>(nomatch hi),λi hi _=>(nomatch hi)⟩
theorem StR.lend{v:V}{d:D}(S:StR K Z [] σ H R ρ)(e:σ[j]? =some (some v))(r:Rp K R v d):StR K Z [] σ H R (ρ.set j (some d)):=
 ⟨S.sub,by rw[jw];exact S.len,λk d' hk z=>by
   by_cases q:j=k
   ·subst q;have hl:j<ρ.length:=by rw[<-S.len];exact(List.getElem?_eq_some_iff.mp e).1
    rw[jn hl]at z;cases z;exact⟨v,e,r⟩
   ·rw[ji q]at z;exact S.env k d' hk z,λi hi=>(nomatch hi),λi j hi _=>(nomatch hi),S.ah,S.ar,S.an,S.ad,λi hi _=>(nomatch hi),λi hi _=>(nomatch hi)⟩
theorem StK.lent(S:StK K Z i σ H R ρ l es):StR K ⟨H,H,λ_=>False,[]⟩ [] σ H H (ρ.set i (some (krD (es.map entO)))):=S.st.whole.lend S.at' S.pr.rp
theorem StK.test{tt:TT}{f:RhB}{b:Bool}{Q:Bool->Hp->Prop}(S:StK K Z i σ H R ρ l es)(h:MT K [] tt f)(e:(f (ρ.set i (some (krD (es.map entO))))).map (·.1)=some b)(k:∀H',StK K Z i σ H' R ρ l es->Q b H'):tt σ H Q:=by
 cases z:f (ρ.set i (some (krD (es.map entO))))with
 |none=>rw[z]at e;cases e
 | some p=>
  rw[z]at e;have e':p=(b,p.2):=by rw[<-jd e]
  rw[e']at z;exact h _ σ H H _ b p.2 Q S.lent z λH' R' S' st=>k H' (S.grown λa o z=>st.h a o z λi hi=>(nomatch hi))
theorem StK.forget(S:StK K Z i σ H R ρ l es)(qi:q≠i):StK K Z i σ H R (ρ.set q none) l es:=
 ⟨S.st.weak (jw ..) (λj d _ h=>by
   by_cases z:q=j
   ·subst z;have hl:=(List.getElem?_eq_some_iff.mp h).1;rw[jw]at hl;rw[jn hl]at h;cases h
   ·rwa [ji z]at h) (λj hj=>nomatch hj),by rw[ji qi];exact S.no,S.at',S.pr,S.zl,S.zw⟩
theorem StK.push{n:Nat}{e:Ent}(S:StK K Z i σ H R ρ l es)(he:es[n]? =some (some e))(c:Int):
 StK K Z i σ (upd H e.2.1 (.lst ((e.2.2.2++[c]).map V.int))) R ρ l (es.set n (some (e.1,e.2.1,e.2.2.1,e.2.2.2++[c]))):=by
 have hn:n<es.length:=(List.getElem?_eq_some_iff.mp he).1;have he2:=S.pr.ent n e he;have at':∀(k:Nat) (x:Ent),(es.set n (some (e.1,e.2.1,e.2.2.1,e.2.2.2++[c])))[k]? =some (some x)->(k=n/\x=(e.1,e.2.1,e.2.2.1,e.2.2.2++[c]))∨(k≠n/\es[k]? =some (some x)):=λk x h=>by
  by_cases q:n=k
  ·subst q;rw[jn hn]at h;cases h;exact .inl ⟨rfl,rfl⟩
  ·rw[ji q]at h;exact .inr ⟨λz=>q z.symm,h⟩
 have tl:∀{a:Addr} {xs:List V},H a=some (.tup xs)->a≠e.2.1:=λh q=>by rw[q,he2.2]at h;cases h
 have wd:∀(k:Nat) (x:Ent),(es.set n (some (e.1,e.2.1,e.2.2.1,e.2.2.2++[c])))[k]? =some (some x)->∃x':Ent,es[k]? =some (some x')/\x'.2.1=x.2.1:=λk x h=>by
  rcases at' k x h with⟨rfl,rfl⟩|⟨_,h⟩
  ·exact⟨e,he,rfl⟩
  ·exact⟨x,h,rfl⟩
 refine⟨S.st.put (S.zw n e he).2 (λi hi=>nomatch hi) (S.zw n e he).1,S.no,S.at',⟨?_,λk x h=>?_,λk j x y h g kj=>?_,λk x h=>?_⟩,S.zl,λk x h=>?_⟩
 ·rw[q0j (S.pr.nl n e he).symm,S.pr.top];have:(es.set n (some (e.1,e.2.1,e.2.2.1,e.2.2.2++[c]))).map entV=es.map entV:=by
   have h1:(es.set n (some (e.1,e.2.1,e.2.2.1,e.2.2.2++[c]))).map entV=(es.map entV).set n (.ref e.1):=q5g ..;rw[h1];have h2:(es.map entV)[n]'(by rw[j9];exact hn)=.ref e.1:=by rw[List.getElem_map];have:=jf hn;rw[he]at this;rw[<-jd this];rfl
   rw[<-h2];exact List.set_getElem_self _
  rw[this]
 ·rcases at' k x h with⟨rfl,rfl⟩|⟨kn,h⟩
  ·exact⟨by rw[q0j (tl he2.1)];exact he2.1,q0m⟩
  ·have h3:=S.pr.ent k x h;exact⟨by rw[q0j (tl h3.1)];exact h3.1,by rw[q0j (S.pr.nd k n x e h he kn)];exact h3.2⟩
 ·obtain⟨x',h1,h2⟩:=wd k x h;obtain⟨y',g1,g2⟩:=wd j y g;rw[<-h2,<-g2];exact S.pr.nd k j x' y' h1 g1 kj
 ·obtain⟨x',h1,h2⟩:=wd k x h;rw[<-h2];exact S.pr.nl k x' h1
 ·obtain⟨x',h1,h2⟩:=wd k x h;rw[<-h2];exact S.zw k x' h1
def row7(n:Nat)(row:Kr):Kr:=(row.take n).map (Option.map λp=>(p.1,p.2++[7]))++row.drop n
theorem q9j{n:Nat}{row:Kr}(h:n<row.length):row7 (n+1) row=(row7 n row).set n (row[n].map λp=>(p.1,p.2++[7]))/\(row7 n row)[n]? =some row[n]:=by
 unfold row7;have ll:((row.take n).map (Option.map λp:Int×List Int=>(p.1,p.2++[7]))).length=n:=by rw[j9,xl];omega
 constructor
 ·rw[List.set_append_right _ _ (by omega),ll,Nat.sub_self,xx h,List.set_cons_zero,List.take_succ_eq_append_getElem h,x8,List.append_assoc];rfl
 ·rw[xw (by omega),ll,Nat.sub_self,xx h];rfl
theorem q8n(n:Nat)(row:Kr):(row7 n row).length=row.length:=by unfold row7;rw[jl,j9,xl,k6];omega
def okW(row:Kr):Bool:=row.all λo=>match o with
 |none=>true
 |some p=>decide (p.2.length<sizeLine)
theorem qv0{N:Nat}{gF gO:List D->Option Kr}{fi:RhL}{ds:List D}{row:Kr}(h:gKD N gF gO fi ds=some row):ds.length=3:=by
 unfold gKD at h;split at h
 ·rfl
 ·cases h
theorem qnb(k:Int):(q0b (mOp2 dEq (mVar 0) (mRet (.int 0)))) [some (.int k)]=some (decide (k=0),[some (.int k)]):=by
 by_cases h:k=0
 ·subst h;rfl
 ·have e:eqD (.int k) (.int 0)=some false:=by
   show some (k==0)=some false;rw[beq_eq_false_iff_ne.mpr h]
  simp[qbe,qll,qh6,qlj,dEq,e,h,blO]
def q5a(i q:Nat)(g:List D->Option Kr)(fs:RhL)(ft1 ft0 ft2:RhB)(fr:RhO):RhO:=λρ=>match fs ρ with
 | some (ds,ρ1)=>(match g ds with
  |some row=>if i<ρ1.length/\q<ρ1.length/\okW row=true/\row.length<1000000/\(ft1 (((ρ1.set i none).set q none).set i (some (krD row)))).map (·.1)=some false/\
   (∀n<row.length,(ft0 ((((ρ1.set i none).set q none).set q (some (.int n))).set i (some (krD (row7 n row))))).map (·.1)=some (decide (row[n]? ≠some none))/\(ft2 ((((ρ1.set i none).set q none).set q (some (.int n))).set i (some (krD (row7 (n+1) row))))).map (·.1)=some false)then fr ((ρ1.set i none).set q none)else none
  |none=>none)
 |none=>none
theorem qmk{c:MC}{Z:Anc}{O':List Nat}{R R1:Hp}{E:Ends}{o:Out}(s:Same R R1)(k:E.ok c Z O' R o):E.ok c Z O' R1 o:=by
 cases o with
 |nx ρ'=>exact λσ2 H2 R2 S2 s2=>k σ2 H2 R2 S2 (s.trans s2)
 |bk ρ'=>exact λσ2 H2 R2 S2 s2=>k σ2 H2 R2 S2 (s.trans s2)
 |ct ρ'=>exact λσ2 H2 R2 S2 s2=>k σ2 H2 R2 S2 (s.trans s2)
 |rt d ρ'=>exact k
theorem qg9{c:MC}{O':List Nat}{n3:Nat}{g:List D->Option Kr}{fs:RhL}{ft1 ft0 ft2:RhB}{fr:RhO}{tr:TA}{tt1 tt0 tt2:TT}{tf tf2 tu:TS}{EX:XK}(hg:∀ds row,g ds=some row->ds.length=n3)(ha:MA c.K [] tr fs)(qi:q≠i)(h1:MT c.K [] tt1 ft1)(h0:MT c.K [] tt0 ft0)(h2:MT c.K [] tt2 ft2)(hr:MS c [] O' tu fr):
 MS c [] O' (tSeq (tAsg (q6j (spK c.K n3 g) [] EX tr) (q41 i)) (tSeq (tIfS tt1 tf qan) (tSeq (tFor (qja (q35 (tCB (λxs H Q=>∃p ys,xs=[.ref p]/\(SqL c.K H p ys∨SqT c.K H p ys)/\Q (.int ys.length) H) (q35 (tVar i) tNil)) tNil)) (q41 q)
  (tSeq (tIfS tt0 (q9g (tBM c.K "list" q8o (tOp (rIx c.K) (tOp (rIx c.K) (tVar i) (tVar q)) (tC (.int 1))) (q35 (tC (.int 7)) tNil))) qan) (tIfS tt2 tf2 qan))) tu)))
  (q5a i q g fs ft1 ft0 ft2 fr):=λZ E σ H R ρ o hP S e k=>by
 unfold q5a at e;cases e0:fs ρ with
 |none=>rw[e0]at e;cases e
 | some p=>
  obtain⟨ds,ρ1⟩:=p;rw[e0]at e;dsimp only at e;cases e1:g ds with
  |none=>rw[e1]at e;cases e
  | some row=>
   rw[e1]at e;dsimp only at e;split at e
   ·rename_i z;obtain⟨z1,z2,z3,z4,z5,z6⟩:=z;refine ha Z σ H R ρ ds ρ1 _ S e0 λvs H1 R1 S1 st1 r1=>?_;show spK c.K n3 g (vs++[]) H1 _ EX;rw[List.append_nil];refine⟨by rw[r1.length];exact hg ds row e1,ds,row,r1.mono S1.sub,e1,λl es H2 sm pr n1 n2 eo=>?_⟩;have y:Ext H1 R1 H2 R1:=⟨sm,Same.refl _,λa o z=>sm _ _ (S1.sub a o z),λ_ z=>.inl z⟩;have T0:StK c.K Z i (σ.set i (some (.ref l))) H2 R1 (ρ1.set i none) l es:=
     ⟨(S1.ext y).blind (λh=>nomatch h),jn z1,jn (by rw[S1.len];exact z1),pr,⟨S1.new0 n1,S1.out n1⟩,λk e h=>⟨S1.new0 (n2 k e h),S1.out (n2 k e h)⟩⟩
    have T:=T0.forget qi;refine T.test h1 (by rw[eo];exact z5) λH3 T3=>iteF ?_;have le:es.length=row.length:=by rw[<-eo,j9]
    have zd:(((es.map entV).length:Nat):Int)=(row.length:Nat):=by rw[j9,le]
    have big:(row.length:Int)<2^62:=by omega
    refine⟨.ref l,T3.at',l,_,rfl,.inl (SqL.of T3.pr.top),_,rfl,by omega,by rw[zd];omega,λn m σ' H'=>m=row.length-n/\n<=row.length/\∃es',StK c.K Z i σ' H' R1 ((ρ1.set i none).set q none) l es'/\es'.map entO=row7 n row,⟨row.length,by simp,Nat.zero_le _,es,T3,eo⟩,?_⟩;rintro n m σ' H' ⟨rfl,hn,es',T4,eo4⟩;rw[zd,jx];by_cases hlt:n<row.length
    ·refine .inr ⟨hlt,λσ3 H3=>∃es',StK c.K Z i σ3 H3 R1 ((ρ1.set i none).set q none) l es'/\es'.map entO=row7 (n+1) row,λσ3 H3 T3=>⟨row.length-(n+1),by omega,rfl,hlt,T3⟩,λx H5 y=>?_⟩;obtain⟨rfl,rfl⟩:=y;rw[Int.zero_add];have T5:=T4.set (j:=q) (v:=.int (n:Int)) (d:=.int n) qi (.int _);have hq:(σ'.set q (some (.int (n:Int))))[q]? =some (some (.int (n:Int))):=jn (by rw[T4.st.len,jw,jw];exact z2);obtain⟨r1',r2'⟩:=q9j hlt;obtain⟨q1,q2⟩:=z6 n hlt;have er:∀x:D,(((ρ1.set i none).set q none).set q (some x)).set q none=(ρ1.set i none).set q none:=λx=>by rw[List.set_set,List.set_set]
     have fin:∀H6 es6,StK c.K Z i (σ'.set q (some (.int (n:Int)))) H6 R1 (((ρ1.set i none).set q none).set q (some (.int n))) l es6->es6.map entO=row7 (n+1) row->tIfS tt2 tf2 qan {E with nx:=λσ3 H3=>∃es',StK c.K Z i σ3 H3 R1 ((ρ1.set i none).set q none) l es'/\es'.map entO=row7 (n+1) row,ct:=λσ3 H3=>∃es',StK c.K Z i σ3 H3 R1 ((ρ1.set i none).set q none) l es'/\es'.map entO=row7 (n+1) row,bk:=tu E} (σ'.set q (some (.int (n:Int)))) H6:=λH6 es6 T6 eo6=>
           T6.test h2 (by rw[eo6];exact q2) λH7 T7=>iteF ⟨es6,by have:=T7.forget (q:=q) qi;rw[er]at this;exact this,eo6⟩
     refine T5.test h0 (by rw[eo4];exact q1) λH6 T6=>?_;have le4:es'.length=row.length:=by
           have:=congrArg List.length eo4
           rwa [j9,q8n]at this
     have hes:es'[n]? =some es'[n]:=jf (by omega);have ho:entO es'[n]=row[n]:=by have:=r2';rw[<-eo4,je,hes]at this;exact jd this
     generalize es'[n]=eo' at hes ho;cases eo' with
     | none=>
           have hr0:row[n]=none:=ho.symm;rw[jf hlt,hr0,decide_eq_false (λh=>h rfl)];refine iteF (fin H6 es' T6 ?_);rw[eo4,r1',hr0];show row7 n row=(row7 n row).set n none;have h5:(row7 n row)[n]'(by rw[q8n];exact hlt)=none:=by have:=jf (l:=row7 n row) (i:=n) (by rw[q8n];exact hlt);rw[r2',hr0]at this;exact(jd this).symm
           rw[<-h5,List.set_getElem_self]
     | some x=>
           have hr0:row[n]=some (x.2.2.1,x.2.2.2):=ho.symm;rw[jf hlt,hr0,decide_eq_true (by simp)];have hp:=T6.pr.ent n x hes;have ev:(es'.map entV)[n]? =some (.ref x.1):=by rw[je,hes];rfl
           have hw:x.2.2.2.length<sizeLine:=by have:=List.all_eq_true.mp z3 (some (x.2.2.1,x.2.2.2)) (by rw[<-hr0];exact kl hlt);exact of_decide_eq_true this
           refine iteT ⟨.ref l,T6.at',.int n,hq,.inl ⟨l,_,n,.ref x.1,rfl,rfl,SqL.of T6.pr.top,q5l ev,.inr (.inl ⟨x.1,_,1,.ref x.2.1,rfl,rfl,SqT.of hp.1,rfl,.inl ⟨rfl,_,SqL.of hp.2⟩,x.2.1,_,.int 7,rfl,rfl,hp.2,by rw[j9];exact hw,?_⟩)⟩⟩;have T8:=T6.push hes 7;rw[x8]at T8;refine fin _ _ T8 ?_;have:(es'.set n (some (x.1,x.2.1,x.2.2.1,x.2.2.2++[7]))).map entO=(es'.map entO).set n (some (x.2.2.1,x.2.2.2++[7])):=List.map_set ..;rw[this,eo4,r1',hr0];rfl
    ·have en:n=row.length:=by omega
     exact .inl ⟨by show _<=n;omega,hr Z E σ' H' R1 _ o hP T4.st e (qmk st1.r k)⟩
   ·cases e
end
theorem qjd{N:Nat}{f0:RhL}{f:Fk}{a b:D}{xs:List D}{ρ1 ρ2:Rho}{row:Kr}(e0:f0 (some a::some b::List.replicate (N-2) none)=some (xs,ρ1))(h:2<ρ1.length/\xs.all qgu=true)(e1:f (ρ1.set 2 none) (List.replicate xs.length none)=some (ρ2,row)):gKO N f0 f [a,b]=some row:=by
 unfold gKO;rw[if_pos (show [a,b].length=2 from rfl)];show(match f0 (some a::some b::List.replicate (N-2) none)with
  | some (xs,ρ1)=>if 2<ρ1.length/\xs.all qgu=true then(match f (ρ1.set 2 none) (List.replicate xs.length none)with
   |some p=>some p.2
   |none=>none)else none
  |none=>none)=_
 rw[e0];dsimp only;rw[if_pos h,e1]
theorem qje{N:Nat}{fi:RhL}{a:D}{ks:List Int}{ρ1:Rho}(e0:fi (some a::List.replicate (N-1) none)=some (ks.map D.int,ρ1))(h:ks.length<sizeLine):gKF N fi [a]=some (ks.map ko0):=by
 unfold gKF;rw[if_pos (show [a].length=1 from rfl)];show(match fi (some a::List.replicate (N-1) none)with
  | some (xs,_)=>if xs.length<sizeLine then(match q2s xs with
   |some ks=>some (ks.map ko0)
   |none=>none)else none
  |none=>none)=_
 rw[e0];dsimp only;rw[if_pos (by rw[j9];exact h),q2n]
theorem qjf{N:Nat}{gF gO:List D->Option Kr}{fi:RhL}{a b c:D}{xs:List D}{ρ1:Rho}{zy row:Kr}(e0:gF [a]=some zy)(e1:fi ((some a::some b::some c::List.replicate (N-3) none).set 3 none)=some (xs,ρ1))(h:isFree ρ1 3=true/\4<ρ1.length)(e2:q7v gO xs zy=some row):gKD N gF gO fi [a,b,c]=some row:=by
 unfold gKD;dsimp only;rw[e0];show(match fi ((some a::some b::some c::List.replicate (N-3) none).set 3 none)with
  |some (xs,ρ1)=>if isFree ρ1 3=true/\4<ρ1.length then q7v gO xs zy else none
  |none=>none)=_
 rw[e1];dsimp only;rw[if_pos h,e2]
theorem qam{i q:Nat}{g:List D->Option Kr}{fs:RhL}{ft1 ft0 ft2:RhB}{fr:RhO}{ρ ρ1:Rho}{ds:List D}{row:Kr}{o:Option Out}(e0:fs ρ=some (ds,ρ1))(e1:g ds=some row)(h:i<ρ1.length/\q<ρ1.length/\okW row=true/\row.length<1000000)(t1:(ft1 (((ρ1.set i none).set q none).set i (some (krD row)))).map (·.1)=some false)
 (t2:∀n<row.length,(ft0 ((((ρ1.set i none).set q none).set q (some (.int n))).set i (some (krD (row7 n row))))).map (·.1)=some (decide (row[n]? ≠some none))/\(ft2 ((((ρ1.set i none).set q none).set q (some (.int n))).set i (some (krD (row7 (n+1) row))))).map (·.1)=some false) (e2:fr ((ρ1.set i none).set q none)=o):q5a i q g fs ft1 ft0 ft2 fr ρ=o:=by
 unfold q5a;rw[e0];dsimp only;rw[e1];dsimp only;rw[if_pos ⟨h.1,h.2.1,h.2.2.1,h.2.2.2,t1,t2⟩];exact e2
theorem qfh(n:Nat)(row:Kr):(row7 n row).drop n=row.drop n:=by
 unfold row7;by_cases h:n<=row.length
 ·have ll:((row.take n).map (Option.map λp:Int×List Int=>(p.1,p.2++[7]))).length=n:=by rw[j9,xl];omega
  rw[List.drop_append,ll,Nat.sub_self,List.drop_zero,List.drop_eq_nil_of_le (by omega)];rfl
 ·rw[List.drop_eq_nil_of_le (by rw[jl,j9,xl,k6];omega),List.drop_eq_nil_of_le (by omega)]
theorem qo9(n:Nat):DOk n .non:=⟨.none,by simp only[D.toP],by simp only[PyData.canLay0],by simp only[PyData.depth];exact Nat.zero_le _⟩
theorem qta(o:Option (Int×List Int)):DOk 2 (koD o):=by
 cases o with
 |none=>exact qo9 2
 |some p=>exact DOks.tup (.cons (DOk.int 1 _) (.cons (DOk.ints _) (.nil _)))
theorem qt1(row:Kr):eqD (krD row) (krD row)=some true:=q94 (DOks.lst (.all λd hd=>by obtain⟨o,_,rfl⟩:=List.mem_map.mp hd;exact qta o)) (by decide)
end L2
namespace K24
open PySem L2
local macro_rules|`(tactic|walk_at "ev")=>`(tactic|simp[runS,runP,q0z,qlj,q1u,qh6,qll,qsu,qnw,qnv,qsy,qbe,qsv,qt0,qv2,qo6,qnx,qv4,qsw,qo3,qsp,qsx,qv3,qo5,qjp,qjo,qo4,qsr,qh7,qso,qnu,qv1,qjn,qbf,qnm,qno,qnt,qsq,qnn,qjl,qjk,qnp,qss,qjm,qnq,qns,q6t,qnr,qo1,q1q,ixO,blO,lsO,qgk,rng1,zip2,inO,setI,q1o,q0c,q1n,dI2,dI0,dB0,dAdd,q42,dIx,dLen,dInt,dSum,dAll,q4h,dSeq,q96,q7m,dIsN,q2i,dIsi,tyN,q54,q2l,qml,qc4,qr9,qmm,qb9,at0,at1,at2,at3,ixN,dEq,dNe,qo7,qn9,sTry,xIf,q6w,qe5,xNo,xSeq,q9b,mMM,qo2,qt2,qlk,qac,runX,qo0,qsz,qnz,qst,qgi, *])
local macro_rules|`(tactic|walk_at "sc")=>`(tactic|exact⟨rfl,rfl,rfl,by decide+kernel,rfl,by decide+kernel,by decide+kernel⟩)
local macro_rules|`(tactic|walk_at "lr")=>`(tactic|first|exact Or.inl rfl|exact Or.inr rfl)
def top(i:Nat):Stmt:=PySem.Challenge.pw_trellisway_k24_kept_ways.main.body.getD i (.Pass ⟨0,0,0,0⟩)
abbrev s_y0:Stmt:=top 5
theorem qtt:q0q ["reach"] ["reach"] (q04 s_y0):=by walk_at "sc"
abbrev s_y1:Stmt:=top 6
theorem qts:q0q ["scheme"] ["scheme"] (q04 s_y1):=by walk_at "sc"
abbrev s_y2:Stmt:=top 7
theorem sc_y2:q0q ["number","left","odd"] ["number"] (q04 s_y2):=by walk_at "sc"
abbrev s_y3:Stmt:=top 8
abbrev w30:List Str:=["scheme","room","bit","window","signs"]
theorem sc_y3:q0q w30 ["scheme","room","bit"] (q04 s_y3):=by walk_at "sc"
abbrev s_y4:Stmt:=top 9
abbrev w31:List Str:=["scheme","number","signs","rows","row"]
abbrev w3j:List Str:=["scheme","number","signs"]
theorem sc_y4:q0q w31 w3j (q04 s_y4):=by walk_at "sc"
abbrev s_y5:Stmt:=top 11
theorem qtr:q0q ["scheme"] ["scheme"] (q04 s_y5):=by walk_at "sc"
abbrev s_y6:Stmt:=top 12
theorem qtq:q0q ["scheme","size"] ["scheme","size"] (q04 s_y6):=by walk_at "sc"
abbrev s_y7:Stmt:=top 13
theorem qtp:q0q ["scheme"] ["scheme"] (q04 s_y7):=by walk_at "sc"
abbrev s_y8:Stmt:=top 14
theorem qto:q0q ["scheme","size"] ["scheme","size"] (q04 s_y8):=by walk_at "sc"
abbrev s_y9:Stmt:=top 15
abbrev w3t:List Str:=["scheme","size","signs","places","number"]
theorem sc_y9:q0q w3t ["scheme","size"] (q04 s_y9):=by walk_at "sc"
abbrev qfb:Stmt:=inClass (top 18) 0
theorem qpr:q0q ["self","bit"] ["self","bit"] (q04 qfb):=by walk_at "sc"
abbrev qfa:Stmt:=inClass (top 18) 2
theorem qpq:q0q ["self","bit"] ["self","bit"] (q04 qfa):=by walk_at "sc"
abbrev qf9:Stmt:=inClass (top 19) 1
theorem qpp:q0q ["self","bit"] ["self","bit"] (q04 qf9):=by walk_at "sc"
abbrev qf8:Stmt:=inClass (top 20) 0
theorem qpo:q0q ["self","zero","one"] ["self","zero","one"] (q04 qf8):=by walk_at "sc"
abbrev qf7:Stmt:=inClass (top 20) 2
theorem qpn:q0q ["self","bit"] ["self","bit"] (q04 qf7):=by walk_at "sc"
abbrev qf6:Stmt:=top 21
theorem qpm:q0q ["told"] ["told"] (q04 qf6):=by walk_at "sc"
abbrev qf5:Stmt:=top 23
abbrev w19:List Str:=["scheme","size","heard"]
theorem sc_y19:q0q ["scheme","size","heard","places"] w19 (q04 qf5):=by walk_at "sc"
abbrev qdd:Stmt:=top 24
theorem qpl:q0q ["signs","bits"] ["signs","bits"] (q04 qdd):=by walk_at "sc"
abbrev qdc:Stmt:=top 25
abbrev w2l:List Str:=["scheme","size","heard","found","number","told"]
theorem sc_y21:q0q w2l w19 (q04 qdc):=by walk_at "sc"
abbrev qf4:Stmt:=top 26
abbrev w32:List Str:=["scheme","number","signs","room","bit"]
abbrev w3q:List Str:=["scheme","number","signs","room","bit","led"]
theorem sc_y22:q0q w3q w32 (q04 qf4):=by walk_at "sc"
abbrev qdb:Stmt:=top 27
abbrev w1a:List Str:=["scheme","number","signs","room","bits"]
theorem qpk:q0q w1a w1a (q04 qdb):=by walk_at "sc"
abbrev qda:Stmt:=top 28
abbrev w26:List Str:=["scheme","size","heard","found","number","signs","bits"]
theorem sc_y24:q0q w26 w19 (q04 qda):=by walk_at "sc"
abbrev qf3:Stmt:=top 30
theorem qpj:q0q ["scheme"] ["scheme"] (q04 qf3):=by walk_at "sc"
abbrev qau:Stmt:=top 31
theorem qkn:q0q ["scheme"] ["scheme"] (q04 qau):=by walk_at "sc"
abbrev qf2:Stmt:=top 32
theorem qkm:q0q ["found","other"] ["found","other"] (q04 qf2):=by walk_at "sc"
abbrev qf1:Stmt:=top 33
abbrev w1o:List Str:=["known","choices_by_room","longer","found","choices","bit","taken","led"]
abbrev w34:List Str:=["known","choices_by_room"]
theorem sc_y28:q0q w1o w34 (q04 qf1):=by walk_at "sc"
abbrev qf0:Stmt:=top 34
abbrev w1p:List Str:=["scheme","steps","heard"]
abbrev w2g:List Str:=["scheme","steps","heard","known","choices_by_room"]
theorem sc_y29:q0q w2g w1p (q04 qf0):=by walk_at "sc"
abbrev qez:Stmt:=top 35
abbrev w44:List Str:=["word","other","found","bit","beside"]
theorem sc_y30:q0q w44 ["word","other"] (q04 qez):=by walk_at "sc"
abbrev qd9:Stmt:=top 36
abbrev w2k:List Str:=["scheme","steps","heard","words","alike","word"]
theorem sc_y31:q0q w2k w1p (q04 qd9):=by walk_at "sc"
abbrev qey:Stmt:=top 38
theorem qpi:q0q ["_law_script","_law_k"] ["_law_script","_law_k"] (q04 qey):=by walk_at "sc"
abbrev qex:Stmt:=top 39
theorem qph:q0q ["_law_cell","_law_k"] ["_law_cell","_law_k"] (q04 qex):=by walk_at "sc"
abbrev qew:Stmt:=top 40
abbrev w24:List Str:=["_law_state_here","_law_many"]
theorem qpg:q0q w24 w24 (q04 qew):=by walk_at "sc"
abbrev qat:Stmt:=top 41
abbrev w0q:List Str:=["_law_state_here","_law_most","_law_endings","_law_reach","_law_taps","_law_lines","_law_k"]
abbrev w2n:List Str:=["_law_state_here","_law_most","_law_endings"]
theorem sc_y35:q0q w0q w2n (q04 qat):=by walk_at "sc"
abbrev qev:Stmt:=top 42
theorem sc_y36:q0q ["_law_number","_law_odd_here"] ["_law_number"] (q04 qev):=by walk_at "sc"
abbrev qas:Stmt:=top 43
abbrev w0o:List Str:=["_law_scheme_here","_law_number","_law_room","_law_bit","_law_both","_law_signs","_law_line"]
abbrev w27:List Str:=["_law_scheme_here","_law_number","_law_room","_law_bit"]
theorem sc_y37:q0q w0o w27 (q04 qas):=by walk_at "sc"
abbrev qeu:Stmt:=top 44
abbrev w1l:List Str:=["_law_scheme_here","_law_word"]
abbrev w3h:List Str:=["_law_scheme_here","_law_word","_law_room","_law_bit"]
theorem sc_y38:q0q w3h w1l (q04 qeu):=by walk_at "sc"
abbrev qet:Stmt:=top 45
abbrev w2j:List Str:=["_law_scheme_here","_law_word","_law_bits","_law_room","_law_found","_law_number","_law_signs"]
theorem sc_y39:q0q w2j w1l (q04 qet):=by walk_at "sc"
abbrev qes:Stmt:=top 46
abbrev w3f:List Str:=["_law_cell","_law_k","_law_bit","_law_mixed","_law_way"]
abbrev w3c:List Str:=["_law_cell","_law_k","_law_bit"]
theorem sc_y40:q0q w3f w3c (q04 qes):=by walk_at "sc"
abbrev qer:Stmt:=top 47
abbrev w2v:List Str:=["_law_script","_law_scheme_here","_law_word","_law_found","_law_k","_law_bit"]
abbrev w2o:List Str:=["_law_script","_law_scheme_here","_law_word"]
theorem sc_y41:q0q w2v w2o (q04 qer):=by walk_at "sc"
abbrev qeq:Stmt:=top 48
theorem qpf:q0q ["_law_told","_law_bit"] ["_law_told","_law_bit"] (q04 qeq):=by walk_at "sc"
abbrev qep:Stmt:=top 49
theorem qpe:q0q ["_law_found"] ["_law_found"] (q04 qep):=by walk_at "sc"
abbrev qd8:Stmt:=top 50
abbrev w23:List Str:=["_law_found","_law_size"]
theorem qpd:q0q w23 w23 (q04 qd8):=by walk_at "sc"
abbrev qar:Stmt:=top 51
abbrev w07:List Str:=["_law_scheme_here","_law_number","_law_signs","_law_row","_law_found","_law_room","_law_bit","_law_there","_law_made","_law_price_here","_law_other"]
abbrev w25:List Str:=["_law_scheme_here","_law_number","_law_signs","_law_row"]
theorem sc_y45:q0q w07 w25 (q04 qar):=by walk_at "sc"
abbrev qeo:Stmt:=top 52
abbrev w37:List Str:=["_law_found","_law_many","_law_size"]
abbrev w3k:List Str:=["_law_found","_law_many","_law_size","_law_entry"]
theorem sc_y46:q0q w3k w37 (q04 qeo):=by walk_at "sc"
abbrev qaq:Stmt:=top 53
abbrev w1u:List Str:=["_law_row","_law_words","_law_many","_law_k"]
theorem sc_y47:q0q w1u ["_law_row"] (q04 qaq):=by walk_at "sc"
abbrev qen:Stmt:=top 54
abbrev w2t:List Str:=["_law_way","_law_scheme_here","_law_steps","_law_heard_here","_law_refused_here"]
abbrev w1z:List Str:=["_law_way","_law_scheme_here","_law_steps","_law_heard_here"]
theorem sc_y48:q0q w2t w1z (q04 qen):=by walk_at "sc"
abbrev qav:Stmt:=top 55
abbrev w03:List Str:=["_law_script","_law_first","_law_scheme_here","_law_second","_law_size","_law_heard_here","_law_due","_law_spot","_law_number","_law_handed","_law_found","_law_room","_law_told","_law_many"]
theorem sc_law:q0q w03 ["_law_script"] (q04 qav):=by walk_at "sc"
structure Ad where
 c_Clear:Addr
 c_Gap:Addr
 c_Soft:Addr
 c_WayError:Addr
 c_NoWord:Addr
 c_NoSigns:Addr
 f_y0:Addr
 fd_y0:FuncData
 f_y1:Addr
 fd_y1:FuncData
 f_y2:Addr
 fd_y2:FuncData
 f_y3:Addr
 fd_y3:FuncData
 f_y4:Addr
 fd_y4:FuncData
 f_y5:Addr
 fd_y5:FuncData
 f_y6:Addr
 fd_y6:FuncData
 f_y7:Addr
 fd_y7:FuncData
 f_y8:Addr
 fd_y8:FuncData
 f_y9:Addr
 fd_y9:FuncData
 f_y10:Addr
 fd_y10:FuncData
 f_y12:Addr
 fd_y12:FuncData
 f_y14:Addr
 fd_y14:FuncData
 f_y15:Addr
 fd_y15:FuncData
 f_y17:Addr
 fd_y17:FuncData
 f_y18:Addr
 fd_y18:FuncData
 f_y19:Addr
 fd_y19:FuncData
 f_y20:Addr
 fd_y20:FuncData
 f_y21:Addr
 fd_y21:FuncData
 f_y22:Addr
 fd_y22:FuncData
 f_y23:Addr
 fd_y23:FuncData
 f_y24:Addr
 fd_y24:FuncData
 f_y25:Addr
 fd_y25:FuncData
 f_y26:Addr
 fd_y26:FuncData
 f_y27:Addr
 fd_y27:FuncData
 f_y28:Addr
 fd_y28:FuncData
 f_y29:Addr
 fd_y29:FuncData
 f_y30:Addr
 fd_y30:FuncData
 f_y31:Addr
 fd_y31:FuncData
 f_y32:Addr
 fd_y32:FuncData
 f_y33:Addr
 fd_y33:FuncData
 f_y34:Addr
 fd_y34:FuncData
 f_y35:Addr
 fd_y35:FuncData
 f_y36:Addr
 fd_y36:FuncData
 f_y37:Addr
 fd_y37:FuncData
 f_y38:Addr
 fd_y38:FuncData
 f_y39:Addr
 fd_y39:FuncData
 f_y40:Addr
 fd_y40:FuncData
 f_y41:Addr
 fd_y41:FuncData
 f_y42:Addr
 fd_y42:FuncData
 f_y43:Addr
 fd_y43:FuncData
 f_y44:Addr
 fd_y44:FuncData
 f_y45:Addr
 fd_y45:FuncData
 f_y46:Addr
 fd_y46:FuncData
 f_y47:Addr
 fd_y47:FuncData
 f_y48:Addr
 fd_y48:FuncData
 f_law:Addr
 fd_law:FuncData
structure Txt(K:FrG)(mg:Str->Option Value)(a:Ad):Prop where
 mg_Clear:mg "Clear"=some (.ref a.c_Clear)
 ns_Clear:PySem.W.nsIn K mainGlobals "Clear"=some (some (.ref a.c_Clear))
 cl_Clear:Cls K a.c_Clear
 no_Clear_bit:NoAttr K a.c_Clear "bit"
 mg_Gap:mg "Gap"=some (.ref a.c_Gap)
 ns_Gap:PySem.W.nsIn K mainGlobals "Gap"=some (some (.ref a.c_Gap))
 cl_Gap:Cls K a.c_Gap
 mg_Soft:mg "Soft"=some (.ref a.c_Soft)
 ns_Soft:PySem.W.nsIn K mainGlobals "Soft"=some (some (.ref a.c_Soft))
 cl_Soft:Cls K a.c_Soft
 no_Soft_zero:NoAttr K a.c_Soft "zero"
 no_Soft_one:NoAttr K a.c_Soft "one"
 mg_WayError:mg "WayError"=some (.ref a.c_WayError)
 ns_WayError:PySem.W.nsIn K mainGlobals "WayError"=some (some (.ref a.c_WayError))
 ek_WayError:ExcK K a.c_WayError
 mg_NoWord:mg "NoWord"=some (.ref a.c_NoWord)
 ns_NoWord:PySem.W.nsIn K mainGlobals "NoWord"=some (some (.ref a.c_NoWord))
 ek_NoWord:ExcK K a.c_NoWord
 ex_NoWord:PySem.W.excIn K a.c_NoWord [.type "ValueError",.type "Exception",.type "BaseException",.type "object"] "ValueError.__new__"=true
 mg_NoSigns:mg "NoSigns"=some (.ref a.c_NoSigns)
 ns_NoSigns:PySem.W.nsIn K mainGlobals "NoSigns"=some (some (.ref a.c_NoSigns))
 ek_NoSigns:ExcK K a.c_NoSigns
 ex_NoSigns:PySem.W.excIn K a.c_NoSigns [.type "ValueError",.type "Exception",.type "BaseException",.type "object"] "ValueError.__new__"=true
 em_NoSigns_NoSigns:PySem.W.exmOne K (.ref a.c_NoSigns) (.ref a.c_NoSigns)=some true
 F_y0:Fun K "rooms_at" "rooms_at" s_y0 a.f_y0 a.fd_y0
 B_y0:Binds K a.fd_y0 ["reach"] []
 mg_y0:mg "rooms_at"=some (.ref a.f_y0)
 F_y1:Fun K "rooms" "rooms" s_y1 a.f_y1 a.fd_y1
 B_y1:Binds K a.fd_y1 ["scheme"] []
 mg_y1:mg "rooms"=some (.ref a.f_y1)
 F_y2:Fun K "parity" "parity" s_y2 a.f_y2 a.fd_y2
 B_y2:Binds K a.fd_y2 ["number"] []
 mg_y2:mg "parity"=some (.ref a.f_y2)
 F_y3:Fun K "step" "step" s_y3 a.f_y3 a.fd_y3
 B_y3:Binds K a.fd_y3 ["scheme","room","bit"] []
 mg_y3:mg "step"=some (.ref a.f_y3)
 F_y4:Fun K "sent_at" "sent_at" s_y4 a.f_y4 a.fd_y4
 B_y4:Binds K a.fd_y4 w3j []
 mg_y4:mg "sent_at"=some (.ref a.f_y4)
 F_y5:Fun K "is_ring" "is_ring" s_y5 a.f_y5 a.fd_y5
 B_y5:Binds K a.fd_y5 ["scheme"] []
 mg_y5:mg "is_ring"=some (.ref a.f_y5)
 F_y6:Fun K "check_size" "check_size" s_y6 a.f_y6 a.fd_y6
 B_y6:Binds K a.fd_y6 ["scheme","size"] []
 mg_y6:mg "check_size"=some (.ref a.f_y6)
 F_y7:Fun K "bits_behind" "bits_behind" s_y7 a.f_y7 a.fd_y7
 B_y7:Binds K a.fd_y7 ["scheme"] []
 mg_y7:mg "bits_behind"=some (.ref a.f_y7)
 F_y8:Fun K "steps_of" "steps_of" s_y8 a.f_y8 a.fd_y8
 B_y8:Binds K a.fd_y8 ["scheme","size"] []
 mg_y8:mg "steps_of"=some (.ref a.f_y8)
 F_y9:Fun K "places_of" "places_of" s_y9 a.f_y9 a.fd_y9
 B_y9:Binds K a.fd_y9 ["scheme","size"] []
 mg_y9:mg "places_of"=some (.ref a.f_y9)
 F_y10:Fun K "__init__" "Clear.__init__" qfb a.f_y10 a.fd_y10
 B_y10:Binds K a.fd_y10 ["self","bit"] []
 F_y12:Fun K "cost" "Clear.cost" qfa a.f_y12 a.fd_y12
 B_y12:Binds K a.fd_y12 ["self","bit"] []
 m_y12:Meth K a.c_Clear "cost" a.f_y12
 F_y14:Fun K "cost" "Gap.cost" qf9 a.f_y14 a.fd_y14
 B_y14:Binds K a.fd_y14 ["self","bit"] []
 m_y14:Meth K a.c_Gap "cost" a.f_y14
 F_y15:Fun K "__init__" "Soft.__init__" qf8 a.f_y15 a.fd_y15
 B_y15:Binds K a.fd_y15 ["self","zero","one"] []
 F_y17:Fun K "cost" "Soft.cost" qf7 a.f_y17 a.fd_y17
 B_y17:Binds K a.fd_y17 ["self","bit"] []
 m_y17:Meth K a.c_Soft "cost" a.f_y17
 F_y18:Fun K "sign_of" "sign_of" qf6 a.f_y18 a.fd_y18
 B_y18:Binds K a.fd_y18 ["told"] []
 mg_y18:mg "sign_of"=some (.ref a.f_y18)
 F_y19:Fun K "check_heard" "check_heard" qf5 a.f_y19 a.fd_y19
 B_y19:Binds K a.fd_y19 w19 []
 mg_y19:mg "check_heard"=some (.ref a.f_y19)
 F_y20:Fun K "signs_cost" "signs_cost" qdd a.f_y20 a.fd_y20
 B_y20:Binds K a.fd_y20 ["signs","bits"] []
 mg_y20:mg "signs_cost"=some (.ref a.f_y20)
 F_y21:Fun K "signs_by_step" "signs_by_step" qdc a.f_y21 a.fd_y21
 B_y21:Binds K a.fd_y21 w19 []
 mg_y21:mg "signs_by_step"=some (.ref a.f_y21)
 F_y22:Fun K "move" "move" qf4 a.f_y22 a.fd_y22
 B_y22:Binds K a.fd_y22 w32 []
 mg_y22:mg "move"=some (.ref a.f_y22)
 F_y23:Fun K "moves_from" "moves_from" qdb a.f_y23 a.fd_y23
 B_y23:Binds K a.fd_y23 w1a []
 mg_y23:mg "moves_from"=some (.ref a.f_y23)
 F_y24:Fun K "moves" "moves" qda a.f_y24 a.fd_y24
 B_y24:Binds K a.fd_y24 w19 []
 mg_y24:mg "moves"=some (.ref a.f_y24)
 F_y25:Fun K "opened" "opened" qf3 a.f_y25 a.fd_y25
 B_y25:Binds K a.fd_y25 ["scheme"] []
 mg_y25:mg "opened"=some (.ref a.f_y25)
 F_y26:Fun K "kept_at_first" "kept_at_first" qau a.f_y26 a.fd_y26
 B_y26:Binds K a.fd_y26 ["scheme"] []
 mg_y26:mg "kept_at_first"=some (.ref a.f_y26)
 F_y27:Fun K "better" "better" qf2 a.f_y27 a.fd_y27
 B_y27:Binds K a.fd_y27 ["found","other"] []
 mg_y27:mg "better"=some (.ref a.f_y27)
 F_y28:Fun K "kept_on" "kept_on" qf1 a.f_y28 a.fd_y28
 B_y28:Binds K a.fd_y28 w34 []
 mg_y28:mg "kept_on"=some (.ref a.f_y28)
 F_y29:Fun K "kept" "kept" qf0 a.f_y29 a.fd_y29
 B_y29:Binds K a.fd_y29 w1p []
 mg_y29:mg "kept"=some (.ref a.f_y29)
 F_y30:Fun K "begun_alike" "begun_alike" qez a.f_y30 a.fd_y30
 B_y30:Binds K a.fd_y30 ["word","other"] []
 mg_y30:mg "begun_alike"=some (.ref a.f_y30)
 F_y31:Fun K "settled" "settled" qd9 a.f_y31 a.fd_y31
 B_y31:Binds K a.fd_y31 w1p []
 mg_y31:mg "settled"=some (.ref a.f_y31)
 F_y32:Fun K "_law_cell_at" "_law_cell_at" qey a.f_y32 a.fd_y32
 B_y32:Binds K a.fd_y32 ["_law_script","_law_k"] []
 mg_y32:mg "_law_cell_at"=some (.ref a.f_y32)
 F_y33:Fun K "_law_state" "_law_state" qex a.f_y33 a.fd_y33
 B_y33:Binds K a.fd_y33 ["_law_cell","_law_k"] []
 mg_y33:mg "_law_state"=some (.ref a.f_y33)
 F_y34:Fun K "_law_next" "_law_next" qew a.f_y34 a.fd_y34
 B_y34:Binds K a.fd_y34 w24 []
 mg_y34:mg "_law_next"=some (.ref a.f_y34)
 F_y35:Fun K "_law_scheme" "_law_scheme" qat a.f_y35 a.fd_y35
 B_y35:Binds K a.fd_y35 w2n []
 mg_y35:mg "_law_scheme"=some (.ref a.f_y35)
 F_y36:Fun K "_law_odd" "_law_odd" qev a.f_y36 a.fd_y36
 B_y36:Binds K a.fd_y36 ["_law_number"] []
 mg_y36:mg "_law_odd"=some (.ref a.f_y36)
 F_y37:Fun K "_law_step" "_law_step" qas a.f_y37 a.fd_y37
 B_y37:Binds K a.fd_y37 w27 []
 mg_y37:mg "_law_step"=some (.ref a.f_y37)
 F_y38:Fun K "_law_start" "_law_start" qeu a.f_y38 a.fd_y38
 B_y38:Binds K a.fd_y38 w1l []
 mg_y38:mg "_law_start"=some (.ref a.f_y38)
 F_y39:Fun K "_law_sent" "_law_sent" qet a.f_y39 a.fd_y39
 B_y39:Binds K a.fd_y39 w1l []
 mg_y39:mg "_law_sent"=some (.ref a.f_y39)
 F_y40:Fun K "_law_sign" "_law_sign" qes a.f_y40 a.fd_y40
 B_y40:Binds K a.fd_y40 w3c []
 mg_y40:mg "_law_sign"=some (.ref a.f_y40)
 F_y41:Fun K "_law_heard" "_law_heard" qer a.f_y41 a.fd_y41
 B_y41:Binds K a.fd_y41 w2o []
 mg_y41:mg "_law_heard"=some (.ref a.f_y41)
 F_y42:Fun K "_law_price" "_law_price" qeq a.f_y42 a.fd_y42
 B_y42:Binds K a.fd_y42 ["_law_told","_law_bit"] []
 mg_y42:mg "_law_price"=some (.ref a.f_y42)
 F_y43:Fun K "_law_whole" "_law_whole" qep a.f_y43 a.fd_y43
 B_y43:Binds K a.fd_y43 ["_law_found"] []
 mg_y43:mg "_law_whole"=some (.ref a.f_y43)
 F_y44:Fun K "_law_is_word" "_law_is_word" qd8 a.f_y44 a.fd_y44
 B_y44:Binds K a.fd_y44 w23 []
 mg_y44:mg "_law_is_word"=some (.ref a.f_y44)
 F_y45:Fun K "_law_next_row" "_law_next_row" qar a.f_y45 a.fd_y45
 B_y45:Binds K a.fd_y45 w25 []
 mg_y45:mg "_law_next_row"=some (.ref a.f_y45)
 F_y46:Fun K "_law_is_row" "_law_is_row" qeo a.f_y46 a.fd_y46
 B_y46:Binds K a.fd_y46 w37 []
 mg_y46:mg "_law_is_row"=some (.ref a.f_y46)
 F_y47:Fun K "_law_common" "_law_common" qaq a.f_y47 a.fd_y47
 B_y47:Binds K a.fd_y47 ["_law_row"] []
 mg_y47:mg "_law_common"=some (.ref a.f_y47)
 F_y48:Fun K "_law_refused" "_law_refused" qen a.f_y48 a.fd_y48
 B_y48:Binds K a.fd_y48 w1z []
 mg_y48:mg "_law_refused"=some (.ref a.f_y48)
 F_law:Fun K "law" "law" qav a.f_law a.fd_law
 B_law:Binds K a.fd_law ["_law_script"] []
 mg_law:mg "law"=some (.ref a.f_law)
 mk_Clear:Mk K a.c_Clear a.f_y10
 mk_Gap:MkN K a.c_Gap
 mk_Soft:Mk K a.c_Soft a.f_y15
 z_all:mg "all"=none
 z_bool:mg "bool"=none
 z_enumerate:mg "enumerate"=none
 z_int:mg "int"=none
 z_isinstance:mg "isinstance"=none
 z_len:mg "len"=none
 z_list:mg "list"=none
 z_max:mg "max"=none
 z_min:mg "min"=none
 z_range:mg "range"=none
 z_sum:mg "sum"=none
 z_tuple:mg "tuple"=none
 z_zip:mg "zip"=none
 kit_ty_NoneType_ty_bool:PySem.W.kitOne K (.type "NoneType") (.type "bool")=some false
 kit_ty_bool_ty_bool:PySem.W.kitOne K (.type "bool") (.type "bool")=some true
 kit_ty_int_ty_bool:PySem.W.kitOne K (.type "int") (.type "bool")=some false
 kit_ty_str_ty_bool:PySem.W.kitOne K (.type "str") (.type "bool")=some false
 kit_ty_list_ty_bool:PySem.W.kitOne K (.type "list") (.type "bool")=some false
 kit_ty_tuple_ty_bool:PySem.W.kitOne K (.type "tuple") (.type "bool")=some false
 kit_ty_dict_ty_bool:PySem.W.kitOne K (.type "dict") (.type "bool")=some false
 kit_ty_NoneType_ty_int:PySem.W.kitOne K (.type "NoneType") (.type "int")=some false
 kit_ty_bool_ty_int:PySem.W.kitOne K (.type "bool") (.type "int")=some true
 kit_ty_int_ty_int:PySem.W.kitOne K (.type "int") (.type "int")=some true
 kit_ty_str_ty_int:PySem.W.kitOne K (.type "str") (.type "int")=some false
 kit_ty_list_ty_int:PySem.W.kitOne K (.type "list") (.type "int")=some false
 kit_ty_tuple_ty_int:PySem.W.kitOne K (.type "tuple") (.type "int")=some false
 kit_ty_dict_ty_int:PySem.W.kitOne K (.type "dict") (.type "int")=some false
 kit_ty_NoneType_ty_list:PySem.W.kitOne K (.type "NoneType") (.type "list")=some false
 kit_ty_bool_ty_list:PySem.W.kitOne K (.type "bool") (.type "list")=some false
 kit_ty_int_ty_list:PySem.W.kitOne K (.type "int") (.type "list")=some false
 kit_ty_str_ty_list:PySem.W.kitOne K (.type "str") (.type "list")=some false
 kit_ty_list_ty_list:PySem.W.kitOne K (.type "list") (.type "list")=some true
 kit_ty_tuple_ty_list:PySem.W.kitOne K (.type "tuple") (.type "list")=some false
 kit_ty_dict_ty_list:PySem.W.kitOne K (.type "dict") (.type "list")=some false
 kit_ty_NoneType_ty_tuple:PySem.W.kitOne K (.type "NoneType") (.type "tuple")=some false
 kit_ty_bool_ty_tuple:PySem.W.kitOne K (.type "bool") (.type "tuple")=some false
 kit_ty_int_ty_tuple:PySem.W.kitOne K (.type "int") (.type "tuple")=some false
 kit_ty_str_ty_tuple:PySem.W.kitOne K (.type "str") (.type "tuple")=some false
 kit_ty_list_ty_tuple:PySem.W.kitOne K (.type "list") (.type "tuple")=some false
 kit_ty_tuple_ty_tuple:PySem.W.kitOne K (.type "tuple") (.type "tuple")=some true
 kit_ty_dict_ty_tuple:PySem.W.kitOne K (.type "dict") (.type "tuple")=some false
theorem qj8{K:FrG}{mg:Str->Option Value}{a:Ad}(T:Txt K mg a):KitB K "bool" (q54 "bool"):=q90 T.kit_ty_NoneType_ty_bool T.kit_ty_bool_ty_bool T.kit_ty_int_ty_bool T.kit_ty_str_ty_bool T.kit_ty_list_ty_bool T.kit_ty_tuple_ty_bool T.kit_ty_dict_ty_bool
theorem qnf{K:FrG}{mg:Str->Option Value}{a:Ad}(T:Txt K mg a):KitB K "int" (q54 "int"):=q90 T.kit_ty_NoneType_ty_int T.kit_ty_bool_ty_int T.kit_ty_int_ty_int T.kit_ty_str_ty_int T.kit_ty_list_ty_int T.kit_ty_tuple_ty_int T.kit_ty_dict_ty_int
theorem qcg{K:FrG}{mg:Str->Option Value}{a:Ad}(T:Txt K mg a):KitB K "list" (q54 "list"):=q90 T.kit_ty_NoneType_ty_list T.kit_ty_bool_ty_list T.kit_ty_int_ty_list T.kit_ty_str_ty_list T.kit_ty_list_ty_list T.kit_ty_tuple_ty_list T.kit_ty_dict_ty_list
theorem qgt{K:FrG}{mg:Str->Option Value}{a:Ad}(T:Txt K mg a):KitB K "tuple" (q54 "tuple"):=q90 T.kit_ty_NoneType_ty_tuple T.kit_ty_bool_ty_tuple T.kit_ty_int_ty_tuple T.kit_ty_str_ty_tuple T.kit_ty_list_ty_tuple T.kit_ty_tuple_ty_tuple T.kit_ty_dict_ty_tuple
def tk_NoSigns:List Str:=["NoSigns"]
theorem qdq{K:FrG}{mg:Str->Option Value}{a:Ad}(T:Txt K mg a):KitM K (.ref a.c_NoSigns) (λx=>tk_NoSigns.contains x):=by
 refine qna λx hx=>?_;unfold tk_NoSigns at hx;simp only[List.mem_cons,List.not_mem_nil,or_false]at hx;rcases hx with rfl
 ·exact⟨_,T.ns_NoSigns,T.em_NoSigns_NoSigns,T.ek_NoSigns⟩
section
variable{P:Program}{w:World}{K:FrG}{mg:Str->Option Value}{base:Heap}{a:Ad}
def b_y0:RhO:=
 (sRet (mOp2 dShl (mRet (.int 1)) (mVar 0)))
def f_y0:List D->Option D:=runP false 1 1 b_y0
theorem n_y0:q1t 1 f_y0:=q1i
theorem qu3(T:Txt K mg a):FnOk P w K mg base CX0 1 a.f_y0 a.fd_y0 ["reach"] (spP K false 1 f_y0):=by
 refine T.F_y0.ok qtt (λ_ _ _ _ h=>h.1) (λcdv A outer s H vs Q E hr h=>?_)
 ·refine⟨_,(q09 (q0t (q0u q9p q06 (pv 0)))),?_⟩;exact q0x (O':=[]) (Nms:=["reach"]) (f:=b_y0) (by unfold b_y0;exact(q17 rfl (q0e q9r me_int (q03 (i:=0))) rfl)) h
def b_y1:RhO:=
 (sRet (q0i f_y0 (q00 (mOp2 dIx (mVar 0) (mRet (.int 0))) mNil)))
def f_y1:List D->Option D:=runP false 1 1 b_y1
theorem n_y1:q1t 1 f_y1:=q1i
theorem qip(T:Txt K mg a):FnOk P w K mg base CX0 2 a.f_y1 a.fd_y1 ["scheme"] (spP K false 1 f_y1):=by
 have G_y0:=@qu3 P w K mg base a T;refine T.F_y1.ok qts (λ_ _ _ _ h=>h.1) (λcdv A outer s H vs Q E hr h=>?_)
 ·refine⟨_,(q09 (q0t (q0g G_y0 hr.m (by rfl) T.mg_y0 T.F_y0.kp T.B_y0 .nil q1f (q01 (q1a (q0f (K:=K) rfl) (pv 0) q06) q05)))),?_⟩;exact q0x (O':=[]) (Nms:=["scheme"]) (f:=b_y1) (by unfold b_y1;exact(q17 rfl (q0n n_y0 (q02 (q0e q1b (q03 (i:=0)) me_int) q08)) rfl)) h
abbrev w0x:=(sSeq (sSet 2 (mOp2 dXor (mVar 2) (mOp2 dAnd (mVar 1) (mRet (.int 1))))) (sSet 1 (mOp2 dDiv (mVar 1) (mRet (.int 2)))))
abbrev w2w:=(q0b (mOp2 dGt (mVar 1) (mRet (.int 0))))
def b_y2:RhO:=
 (sSeq (sSet 1 (mVar 0))
 (sSeq (sSet 2 (mRet (.int 0)))
 (sSeq (q2b w2w
   w0x 1000)
 (sRet (mVar 2)))))
def f_y2:List D->Option D:=runP false 1 3 b_y2
theorem n_y2:q1t 1 f_y2:=q1i
theorem qu2(T:Txt K mg a):FnOk P w K mg base CX0 1 a.f_y2 a.fd_y2 ["number"] (spP K false 1 f_y2):=by
 refine T.F_y2.ok sc_y2 (λ_ _ _ _ h=>h.1) (λcdv A outer s H vs Q E hr h=>?_)
 ·refine⟨_,(q07 (zsA 1 sc_y2.nd (pv 0)) (q07 (zsA 2 sc_y2.nd q06) (q07 (qbu jy (q0v qmh (pv 1) q06 (q18 _)) (q07 (zsA 2 sc_y2.nd (q0u qq9 (pv 2) (q0u qfx (pv 1) q06))) (q09 (zsA 1 sc_y2.nd (q0u q5f (pv 1) q06))))) (q09 (q0t (pv 2)))))),?_⟩;exact q0x (O':=[]) (Nms:=["number","left","odd"]) (f:=b_y2) (by unfold b_y2;exact(q0h (O1:=[]) (q16 (q03 (i:=0))) (q0h (O1:=[]) (q16 me_int) (q0h (O1:=[]) (qca (O':=[]) (q0s (q15 q7s (q03 (i:=1)) me_int.mb)) rfl (q0h (O1:=[]) (q16 (q0e qra (q03 (i:=2)) (q0e qg0 (q03 (i:=1)) me_int))) (q16 (q0e q79 (q03 (i:=1)) me_int)))) (q17 rfl (q03 (i:=2)) rfl))))) h
abbrev w1k:=(q00 (mOp2 dAnd (mVar 1) (mVar 0)) mNil)
abbrev w2u:=(mSeq (mOp2 dIx (mVar 0) (mRet (.int 1))))
def b_y3:RhO:=
 (sSeq (sSet 3 (mOp2 dAdd (mOp2 q42 (mRet (.int 2)) (mVar 1)) (mVar 2)))
 (sSeq (sSet 4 (mOf (q20 1 [3] none w2u (gSet 0) (mRet true) (q0i f_y2 w1k))))
 (sRet (mTup (q00 (mOp2 dMod (mVar 3) (q0i f_y1 (q00 (mVar 0) mNil))) (q00 (mOp1 q4h (mVar 4)) mNil))))))
def f_y3:List D->Option D:=runP false 3 5 b_y3
theorem n_y3:q1t 3 f_y3:=q1i
theorem qqt(T:Txt K mg a):FnOk P w K mg base CX0 3 a.f_y3 a.fd_y3 ["scheme","room","bit"] (spP K false 3 f_y3):=by
 have G_y2:=@qu2 P w K mg base a T;have G_y1:=@qip P w K mg base a T;refine T.F_y3.ok sc_y3 (λ_ _ _ _ h=>h.1) (λcdv A outer s H vs Q E hr h=>?_)
 ·refine⟨_,(q07 (zsA 3 sc_y3.nd (q0u (q1g (K:=K) rfl) (q0u (q3k (K:=K) rfl) q06 (pv 1)) (pv 2))) (q07 (q61 (k:=4) (sc:=q04 s_y3) (N0:=w30) rfl rfl rfl (show q21 _ _ ["tap","window"] 1 [3] _=true by decide+kernel) sc_y3.nd rfl (Or.inl rfl) (q2k (K:=K) rfl (q1a (q0f (K:=K) rfl) (pv 0) q06)) (λ_ _ _ _ _=>(q0l (i:=0) (show List.Nodup (["tap","window"]:List Str)from(by decide+kernel)) rfl (Or.inl rfl))) (q1x (by decide)) (λ_ _ _ _ _=>q2p) (λ_ _ _ _ _=>(q0g G_y2 hr.m (by rfl) T.mg_y2 T.F_y2.kp T.B_y2 .nil q1f (q01 (q0u qfx (pv 1) (pv 0)) q05)))) (q09 (q0t (q2t (q01 (q0u q2d (pv 3) (q0g G_y1 hr.m (by rfl) T.mg_y1 T.F_y1.kp T.B_y1 .nil q1f (q01 (pv 0) q05))) (q01 (q37 (q3n (K:=K) rfl) (by rfl) T.z_tuple (by rfl) (q01 (pv 4) q05)) q05))))))),?_⟩;exact q0x (O':=[]) (Nms:=w30) (f:=b_y3) (by unfold b_y3;exact(q0h (O1:=[]) (q16 (q0e q1y (q0e q3l me_int (q03 (i:=1))) (q03 (i:=2)))) (q0h (O1:=[]) (q8v (q28 (bw:=none) (q38 (q0e q1b (q03 (i:=0)) me_int)) (q0o (i:=0)) q3w (q0n n_y2 (q02 (q0e qg0 (q03 (i:=1)) (q03 (i:=0))) q08))) rfl (by decide)) (q17 rfl (q39 (q02 (q0e q2e (q03 (i:=3)) (q0n n_y1 (q02 (q03 (i:=0)) q08))) (q02 (q5r q5z (q03 (i:=4))) q08))) rfl)))) h
def b_y4:RhO:=
 (sSeq (sSet 3 (mOp2 dIx (mVar 0) (mRet (.int 2))))
 (sSeq (sSet 4 (mOp2 dIx (mVar 3) (mOp2 dMod (mVar 1) (mOp1 dLen (mVar 3)))))
 (sRet (mOp1 q4h (mOf (q20 2 [] none (mZip (q00 (mVar 2) (q00 (mVar 4) mNil))) (q1n 2 (q0c (gSet 0) (q0c (gSet 1) q1o))) (q0b (mOp2 dEq (mVar 1) (mRet (.int 1)))) (mVar 0)))))))
def f_y4:List D->Option D:=runP false 3 5 b_y4
theorem n_y4:q1t 3 f_y4:=q1i
theorem qqm(T:Txt K mg a):FnOk P w K mg base CX0 1 a.f_y4 a.fd_y4 w3j (spP K false 3 f_y4):=by
 refine T.F_y4.ok sc_y4 (λ_ _ _ _ h=>h.1) (λcdv A outer s H vs Q E hr h=>?_)
 ·refine⟨_,(q07 (zsA 3 sc_y4.nd (q1a (q0f (K:=K) rfl) (pv 0) q06)) (q07 (zsA 4 sc_y4.nd (q1a (q0f (K:=K) rfl) (pv 3) (q0u q2d (pv 1) (q11 (q1e (K:=K) rfl) (by rfl) T.z_len (by rfl) (q01 (pv 3) q05))))) (q09 (q0t (q37 (q3n (K:=K) rfl) (by rfl) T.z_tuple (by rfl) (q01 (q2v (sc:=q04 s_y4) (N0:=w31) rfl rfl rfl (show q21 _ _ ["sign","chosen"] 2 [] _=true by decide+kernel) (q5d (K:=K) rfl (by rfl) T.z_zip (q01 (pv 2) (q01 (pv 4) q05))) (λ_ _ _ _ _=>(q32 (K:=K) rfl rfl (q1c (q0l (i:=0) (show List.Nodup (["sign","chosen"]:List Str)from(by decide+kernel)) rfl (Or.inl rfl)) (q1c (q0l (i:=1) (show List.Nodup (["sign","chosen"]:List Str)from(by decide+kernel)) rfl (Or.inl rfl)) q31)))) (q8t (by decide) (by decide)) (λ_ _ _ _ _=>(q74 (q0v (q2w (K:=K) rfl hr.units) (pv 1) q06 (q18 _)))) (λ_ _ _ _ _=>(pv 0))) q05)))))),?_⟩;exact q0x (O':=[]) (Nms:=w31) (f:=b_y4) (by unfold b_y4;exact(q0h (O1:=[]) (q16 (q0e q1b (q03 (i:=0)) me_int)) (q0h (O1:=[]) (q16 (q0e q1b (q03 (i:=3)) (q0e q2e (q03 (i:=1)) (q19 q2j q1z)))) (q17 rfl (q5r q5z (q1p (q28 (bw:=none) (q7a (q02 (q03 (i:=2)) (q02 (q03 (i:=4)) q08))) (q3y (q1d (q0o (i:=0)) (q1d (q0o (i:=1)) q34))) (q0s (q15 os_eq (q03 (i:=1)) me_int.mb)) (q03 (i:=0))))) rfl)))) h
abbrev w3b:=(mOp2 dEq (mOp2 dIx (mVar 0) (mRet (.int 3))) (mRet (.str "ring")))
def b_y5:RhO:=
 (sRet w3b)
def f_y5:List D->Option D:=runP false 1 1 b_y5
theorem n_y5:q1t 1 f_y5:=q1i
theorem qu1(T:Txt K mg a):FnOk P w K mg base CX0 1 a.f_y5 a.fd_y5 ["scheme"] (spP K false 1 f_y5):=by
 refine T.F_y5.ok qtr (λ_ _ _ _ h=>h.1) (λcdv A outer s H vs Q E hr h=>?_)
 ·refine⟨_,(q09 (q0t (qb1 (q2w (K:=K) rfl hr.units) (q1a (q0f (K:=K) rfl) (pv 0) q06) q2u (q18 _)))),?_⟩;exact q0x (O':=[]) (Nms:=["scheme"]) (f:=b_y5) (by unfold b_y5;exact(q17 rfl (q15 os_eq (q0e q1b (q03 (i:=0)) me_int) me_str.mb) rfl)) h
abbrev w2d:=(mAnd (q0b (q0i f_y5 (q00 (mVar 0) mNil))) (q0b (mOp2 dLt (mVar 1) (mOp2 dIx (mVar 0) (mRet (.int 0))))))
def b_y6:RhO:=
 (sIf w2d
   (λ_=>none)
   sNil)
def f_y6:List D->Option D:=runP false 2 2 b_y6
theorem n_y6:q1t 2 f_y6:=q1i
def x_y6:Xr:=
 (xIf w2d xNo
   (q9b "NoWord" (q00 (mRet (.str "in a ring a word has at least as many bits as the reach")) mNil))
   xNo)
def qh1:List D->Option Str:=runX 2 2 x_y6
theorem qu6:q8m 2 qh1:=q70
theorem qu0(T:Txt K mg a):FnOk P w K mg base (CX1 P w) 2 a.f_y6 a.fd_y6 ["scheme","size"] (spPX K false 2 f_y6 qh1):=by
 have G_y5:=@qu1 P w K mg base a T;refine T.F_y6.okX qtq (λvs H Q E h=>q46 h) (λcdv A outer s H vs Q E hr h=>?_);refine⟨_,(q09 (q2r (PW.pt (pw_and (q57 (q0g G_y5 hr.m (by rfl) T.mg_y5 T.F_y5.kp T.B_y5 .nil q1f (q01 (pv 0) q05))) (pw_and1 (q0v qio (pv 1) (q1a (q0f (K:=K) rfl) (pv 0) q06) (q18 _))))) (q09 (qbv newX rfl (by rfl) T.mg_NoWord T.ex_NoWord PySem.F.excBase_ValueError (q01 q2u q05))) q1m)),?_⟩;exact q3i (O':=[]) (Nms:=["scheme","size"]) (f:=b_y6) (fx:=x_y6) (by
  unfold b_y6;exact(q33 (qg7 (q4q (q0n n_y5 (q02 (q03 (i:=0)) q08))) (q0s (q15 q7s (q03 (i:=1)) (q0e q1b (q03 (i:=0)) me_int).mb))) qcb (q27 rfl))) (by
  unfold x_y6;exact(ql8 (qg7 (q4q (q0n n_y5 (q02 (q03 (i:=0)) q08))) (q0s (q15 q7s (q03 (i:=1)) (q0e q1b (q03 (i:=0)) me_int).mb))) qg5 (q81 T.ns_NoWord (q02 me_str q08)).g q59)) h
abbrev w0l:=(q0b (mOp2 dEq (mOp2 dIx (mVar 0) (mRet (.int 3))) (mRet (.str "ended"))))
def b_y7:RhO:=
 (sRet (mIf w0l (mOp2 dIx (mVar 0) (mRet (.int 0))) (mRet (.int 0))))
def f_y7:List D->Option D:=runP false 1 1 b_y7
theorem n_y7:q1t 1 f_y7:=q1i
theorem qtz(T:Txt K mg a):FnOk P w K mg base CX0 1 a.f_y7 a.fd_y7 ["scheme"] (spP K false 1 f_y7):=by
 refine T.F_y7.ok qtp (λ_ _ _ _ h=>h.1) (λcdv A outer s H vs Q E hr h=>?_)
 ·refine⟨_,(q09 (q0t (q3o (q0v (q2w (K:=K) rfl hr.units) (q1a (q0f (K:=K) rfl) (pv 0) q06) q2u (q18 _)) (q1a (q0f (K:=K) rfl) (pv 0) q06) q06))),?_⟩;exact q0x (O':=[]) (Nms:=["scheme"]) (f:=b_y7) (by unfold b_y7;exact(q17 rfl (qdm (q0s (q15 os_eq (q0e q1b (q03 (i:=0)) me_int) me_str.mb)) (q0e q1b (q03 (i:=0)) me_int) me_int) rfl)) h
abbrev w3l:=(q6z (q0i f_y6 (q00 (mVar 0) (q00 (mVar 1) mNil))))
def b_y8:RhO:=
 (sSeq w3l
 (sRet (mOp2 dAdd (mVar 1) (q0i f_y7 (q00 (mVar 0) mNil)))))
def f_y8:List D->Option D:=runP false 2 2 b_y8
theorem n_y8:q1t 2 f_y8:=q1i
def x_y8:Xr:=
 (xSeq w3l (q6w qh1 (q00 (mVar 0) (q00 (mVar 1) mNil)) xNo)
 xNo)
def qh0:List D->Option Str:=runX 2 2 x_y8
theorem qu5:q8m 2 qh0:=q70
theorem qqe(T:Txt K mg a):FnOk P w K mg base (CX1 P w) 3 a.f_y8 a.fd_y8 ["scheme","size"] (spPX K false 2 f_y8 qh0):=by
 have G_y6:=@qu0 P w K mg base a T;have G_y7:=@qtz P w K mg base a T;refine T.F_y8.okX qto (λvs H Q E h=>q46 h) (λcdv A outer s H vs Q E hr h=>?_);refine⟨_,(q07 (q4b (q0g G_y6 hr.m (by rfl) T.mg_y6 T.F_y6.kp T.B_y6 .nil qdh (q01 (pv 0) (q01 (pv 1) q05)))) (q09 (q0t (q0u (q1g (K:=K) rfl) (pv 1) (q0g G_y7 hr.m (by rfl) T.mg_y7 T.F_y7.kp T.B_y7 .nil q1f (q01 (pv 0) q05)))))),?_⟩;exact q3i (O':=[]) (Nms:=["scheme","size"]) (f:=b_y8) (fx:=x_y8) (by
  unfold b_y8;exact(q0h (O1:=[]) (q66 (q23 n_y6 (q02 (q03 (i:=0)) (q02 (q03 (i:=1)) q08))) rfl) (q17 rfl (q0e q1y (q03 (i:=1)) (q0n n_y7 (q02 (q03 (i:=0)) q08))) rfl))) (by
  unfold x_y8;exact(q4c (O1:=[]) (q66 (q23 n_y6 (q02 (q03 (i:=0)) (q02 (q03 (i:=1)) q08))) rfl) (q5q (q4p qu6 (q02 (q03 (i:=0)) (q02 (q03 (i:=1)) q08)) q5s)).g
  q59)) h
abbrev w0f:=(mOp1 dLen (q0i f_y4 (q00 (mVar 0) (q00 (mVar 4) (q00 (mVar 2) mNil)))))
abbrev w2q:=(sExt 3 (mRep (mLst (q00 (mVar 4) mNil)) w0f))
abbrev w28:=(sSet 2 (mOp2 dIx (q0i f_y3 (q00 (mVar 0) (q00 (mRet (.int 0)) (q00 (mRet (.int 0)) mNil)))) (mRet (.int 1))))
abbrev w1v:=(q0i f_y8 (q00 (mVar 0) (q00 (mVar 1) mNil)))
abbrev w3u:=(sFor (q3c (q00 w1v mNil)) (gSet 4) w2q)
def b_y9:RhO:=
 (sSeq w28
 (sSeq (sOwn 3 (mLst mNil))
 (sSeq w3u
 (q5b 3))))
def f_y9:List D->Option D:=runP true 2 5 b_y9
theorem n_y9:q1t 2 f_y9:=q1i
def x_y9:Xr:=
 (xSeq w28 xNo
 (xSeq (sOwn 3 (mLst mNil)) xNo
 (xSeq w3u (qe5 w1v (q6w qh0 (q00 (mVar 0) (q00 (mVar 1) mNil)) xNo) xNo)
 xNo)))
def qdu:List D->Option Str:=runX 2 5 x_y9
theorem qu4:q8m 2 qdu:=q70
theorem qqd(T:Txt K mg a):FnOk P w K mg base (CX1 P w) 4 a.f_y9 a.fd_y9 ["scheme","size"] (spPX K true 2 f_y9 qdu):=by
 have G_y3:=@qqt P w K mg base a T;have G_y8:=@qqe P w K mg base a T;have G_y4:=@qqm P w K mg base a T;refine T.F_y9.okX sc_y9 (λvs H Q E h=>q46 h) (λcdv A outer s H vs Q E hr h=>?_);refine⟨_,(q07 (zsA 2 sc_y9.nd (q1a (q0f (K:=K) rfl) (q0g G_y3 hr.m (by rfl) T.mg_y3 T.F_y3.kp T.B_y3 .nil q1f (q01 (pv 0) (q01 q06 (q01 q06 q05)))) q06)) (q07 (zsA 3 sc_y9.nd (q2c q05)) (q07 (PS.or (PS.nox (q2m jy rfl (q1s (by rfl) T.z_range (q01 (q0g G_y8 hr.m (by rfl) T.mg_y8 T.F_y8.kp T.B_y8 .nil qb3 (q01 (pv 0) (q01 (pv 1) q05))) q05)) (zgA 4 sc_y9.nd) (q09 (q4b (qb2 PySem.F.plainAttrs_list PySem.F.slot_list_extend PySem.F.type_list_extend qg6 (pv 3) (q01 (q0u qc1 (q2c (q01 (pv 4) q05)) (q11 (q1e (K:=K) rfl) (by rfl) T.z_len (by rfl) (q01 (q0g G_y4 hr.m (by rfl) T.mg_y4 T.F_y4.kp T.B_y4 .nil q1f (q01 (pv 0) (q01 (pv 4) (q01 (pv 2) q05)))) q05))) q05)))))) (qfp (q1s (by rfl) T.z_range (q01 (q0g G_y8 hr.m (by rfl) T.mg_y8 T.F_y8.kp T.B_y8 .nil qdh (q01 (pv 0) (q01 (pv 1) q05))) q05)))) (q09 (q0t (pv 3)))))),?_⟩;exact q3i (O':=[]) (Nms:=w3t) (f:=b_y9) (fx:=x_y9) (by
  unfold b_y9;exact(q0h (O1:=[]) (q16 (q0e q1b (q0n n_y3 (q02 (q03 (i:=0)) (q02 me_int (q02 me_int q08)))) me_int)) (q0h (O1:=[3]) (q4g (q2f q08) rfl) (q0h (O1:=[3]) (qcc (q2y (O':=[3]) (q1v (q02 (q23 n_y8 (q02 (q03 (i:=0)) (q02 (q03 (i:=1)) q08))) q08)) rfl (q0o (i:=4)) (ql9 (by decide) (q9v (q2f (q02 (q03 (i:=4)) q08)) (q19 q2j (q0n n_y4 (q02 (q03 (i:=0)) (q02 (q03 (i:=4)) (q02 (q03 (i:=2)) q08)))).mb)) rfl))) (q65 rfl (by first|decide|simp) rfl (by first|decide|simp)))))) (by
  unfold x_y9;exact(q4c (O1:=[]) (q16 (q0e q1b (q0n n_y3 (q02 (q03 (i:=0)) (q02 me_int (q02 me_int q08)))) me_int)) q59 (q4c (O1:=[3]) (q4g (q2f q08) rfl) q59 (q4c (O1:=[3]) (qcc (q2y (O':=[3]) (q1v (q02 (q23 n_y8 (q02 (q03 (i:=0)) (q02 (q03 (i:=1)) q08))) q08)) rfl (q0o (i:=4)) (ql9 (by decide) (q9v (q2f (q02 (q03 (i:=4)) q08)) (q19 q2j (q0n n_y4 (q02 (q03 (i:=0)) (q02 (q03 (i:=4)) (q02 (q03 (i:=2)) q08)))).mb)) rfl))) (qc8 (qiy (max_cons (q23 n_y8 (q02 (q03 (i:=0)) (q02 (q03 (i:=1)) q08))) (q4p qu5 (q02 (q03 (i:=0)) (q02 (q03 (i:=1)) q08)) q5s) q5s)))
  q59)))) h
theorem qr7(T:Txt K mg a):FnOk P w K mg base CX0 1 a.f_y10 a.fd_y10 ["self","bit"] (qej a.c_Clear ["bit"]):=by
 refine T.F_y10.ok qpr (λvs H Q E h=>?_) (λcdv A outer s H vs Q E hr h=>?_)
 ·obtain⟨x,dx,args,rfl,hl,_⟩:=h;exact congrArg Nat.succ hl
 ·obtain⟨x,dx,args,rfl,hl,hx,k⟩:=h
  match args,hl,k with
  | [b0],_,k=>
   refine⟨_,(q09 (qfq (pv 0) (pv 1) rfl)),?_⟩;refine⟨_,rfl,_,rfl,x,_,dx,_,rfl,hx,T.cl_Clear,T.no_Clear_bit,(by show 0<1000;decide),?_⟩;exact k
def qkf:RhO:=
 (sRet (mIf (q0b (mOp2 dEq (mVar 1) (mFld "Clear" "bit" (mVar 0)))) (mRet (.int 0)) (mRet (.int 1))))
def f_y12:List D->Option D:=runP false 2 2 qkf
theorem quq:q1t 2 f_y12:=q1i
theorem qr6(T:Txt K mg a):FnOk P w K mg base CX0 1 a.f_y12 a.fd_y12 ["self","bit"] (spP K false 2 f_y12):=by
 refine T.F_y12.ok qpq (λ_ _ _ _ h=>h.1) (λcdv A outer s H vs Q E hr h=>?_)
 ·refine⟨_,(q09 (q0t (q3o (q0v (q2w (K:=K) rfl hr.units) (pv 1) (qb0 (K:=K) rfl (pv 0) rfl) (q18 _)) q06 q06))),?_⟩;exact q0x (O':=[]) (Nms:=["self","bit"]) (f:=qkf) (by unfold qkf;exact(q17 rfl (qdm (q0s (q15 os_eq (q03 (i:=1)) (qgf T.ns_Clear T.cl_Clear T.no_Clear_bit (q03 (i:=0))).mb)) me_int me_int) rfl)) h
def qke:RhO:=
 (sRet (mRet (.int 0)))
def f_y14:List D->Option D:=runP false 2 2 qke
theorem qup:q1t 2 f_y14:=q1i
theorem qr5(T:Txt K mg a):FnOk P w K mg base CX0 1 a.f_y14 a.fd_y14 ["self","bit"] (spP K false 2 f_y14):=by
 refine T.F_y14.ok qpp (λ_ _ _ _ h=>h.1) (λcdv A outer s H vs Q E hr h=>?_)
 ·refine⟨_,(q09 (q0t q06)),?_⟩;exact q0x (O':=[]) (Nms:=["self","bit"]) (f:=qke) (by unfold qke;exact(q17 rfl me_int rfl)) h
theorem qr4(T:Txt K mg a):FnOk P w K mg base CX0 1 a.f_y15 a.fd_y15 ["self","zero","one"] (qej a.c_Soft ["zero","one"]):=by
 refine T.F_y15.ok qpo (λvs H Q E h=>?_) (λcdv A outer s H vs Q E hr h=>?_)
 ·obtain⟨x,dx,args,rfl,hl,_⟩:=h;exact congrArg Nat.succ hl
 ·obtain⟨x,dx,args,rfl,hl,hx,k⟩:=h
  match args,hl,k with
  | [b0,b1],_,k=>
   refine⟨_,(q07 (qfq (pv 0) (pv 1) rfl) (q09 (qfq (pv 0) (pv 2) rfl))),?_⟩;refine⟨_,rfl,_,rfl,x,_,dx,_,rfl,hx,T.cl_Soft,T.no_Soft_zero,(by show 0<1000;decide),?_⟩;refine⟨_,rfl,_,rfl,x,_,dx,_,rfl,q0m,T.cl_Soft,T.no_Soft_one,(by show 1<1000;decide),?_⟩;rw[qe8];have e:(putF "one" b1 (putF "zero" b0 []))=([("zero",b0),("one",b1)]:List (Str×V)):=by
    have hne:¬(("zero":Str)="one"):=by decide+kernel
    simp[putF,hne]
   rw[e];exact k
def qkd:RhO:=
 (sRet (mIf (q0b (mOp2 dEq (mVar 1) (mRet (.int 1)))) (mFld "Soft" "one" (mVar 0)) (mFld "Soft" "zero" (mVar 0))))
def f_y17:List D->Option D:=runP false 2 2 qkd
theorem quo:q1t 2 f_y17:=q1i
theorem qr3(T:Txt K mg a):FnOk P w K mg base CX0 1 a.f_y17 a.fd_y17 ["self","bit"] (spP K false 2 f_y17):=by
 refine T.F_y17.ok qpn (λ_ _ _ _ h=>h.1) (λcdv A outer s H vs Q E hr h=>?_)
 ·refine⟨_,(q09 (q0t (q3o (q0v (q2w (K:=K) rfl hr.units) (pv 1) q06 (q18 _)) (qb0 (K:=K) rfl (pv 0) rfl) (qb0 (K:=K) rfl (pv 0) rfl)))),?_⟩;exact q0x (O':=[]) (Nms:=["self","bit"]) (f:=qkd) (by unfold qkd;exact(q17 rfl (qdm (q0s (q15 os_eq (q03 (i:=1)) me_int.mb)) (qgf T.ns_Soft T.cl_Soft T.no_Soft_one (q03 (i:=0))) (qgf T.ns_Soft T.cl_Soft T.no_Soft_zero (q03 (i:=0)))) rfl)) h
abbrev w38:=(q0b (mOp2 dEq (mOp2 dIx (mVar 0) (mRet (.int 0))) (mRet (.str "gap"))))
abbrev w36:=(q0b (mOp2 dEq (mOp2 dIx (mVar 0) (mRet (.int 0))) (mRet (.str "clear"))))
def qkc:RhO:=
 (sSeq (sIf w36
   (sRet (qgj "Clear" ["bit"] (q00 (mOp2 dIx (mVar 0) (mRet (.int 1))) mNil)))
   sNil)
 (sSeq (sIf w38
   (sRet (qgi "Gap"))
   sNil)
 (sRet (qgj "Soft" ["zero","one"] (q00 (mOp2 dIx (mVar 0) (mRet (.int 1))) (q00 (mOp2 dIx (mVar 0) (mRet (.int 2))) mNil))))))
def f_y18:List D->Option D:=runP false 1 1 qkc
theorem qun:q1t 1 f_y18:=q1i
theorem qr2(T:Txt K mg a):FnOk P w K mg base CX0 3 a.f_y18 a.fd_y18 ["told"] (spP K false 1 f_y18):=by
 have G_y10:=@qr7 P w K mg base a T;have G_y15:=@qr4 P w K mg base a T;refine T.F_y18.ok qpm (λ_ _ _ _ h=>h.1) (λcdv A outer s H vs Q E hr h=>?_)
 ·refine⟨_,(q07 (q2r (q0v (q2w (K:=K) rfl hr.units) (q1a (q0f (K:=K) rfl) (pv 0) q06) q2u (q18 _)) (q09 (q0t (qft T.mk_Clear G_y10 hr.m (by rfl) T.mg_Clear T.B_y10 .nil q1f (q01 (q1a (q0f (K:=K) rfl) (pv 0) q06) q05)))) q1m) (q07 (q2r (q0v (q2w (K:=K) rfl hr.units) (q1a (q0f (K:=K) rfl) (pv 0) q06) q2u (q18 _)) (q09 (q0t (qig T.mk_Gap (by rfl) T.mg_Gap))) q1m) (q09 (q0t (qft T.mk_Soft G_y15 hr.m (by rfl) T.mg_Soft T.B_y15 .nil q1f (q01 (q1a (q0f (K:=K) rfl) (pv 0) q06) (q01 (q1a (q0f (K:=K) rfl) (pv 0) q06) q05))))))),?_⟩;exact q0x (O':=[]) (Nms:=["told"]) (f:=qkc) (by unfold qkc;exact(q0h (O1:=[]) (q33 (q0s (q15 os_eq (q0e q1b (q03 (i:=0)) me_int) me_str.mb)) (q17 rfl (qge T.ns_Clear (q02 (q0e q1b (q03 (i:=0)) me_int) q08)) rfl) (q27 rfl)) (q0h (O1:=[]) (q33 (q0s (q15 os_eq (q0e q1b (q03 (i:=0)) me_int) me_str.mb)) (q17 rfl (qiz T.ns_Gap) rfl) (q27 rfl)) (q17 rfl (qge T.ns_Soft (q02 (q0e q1b (q03 (i:=0)) me_int) (q02 (q0e q1b (q03 (i:=0)) me_int) q08))) rfl)))) h
abbrev w1n:=(mOf (q25 f_y9 (q00 (mVar 0) (q00 (mVar 1) mNil))))
def qkb:RhO:=
 (sSeq (sSet 3 w1n)
 (sIf (q0b (mOp2 dNe (mOp1 dLen (mVar 2)) (mOp1 dLen (mVar 3))))
   (λ_=>none)
   sNil))
def f_y19:List D->Option D:=runP false 3 4 qkb
theorem qrp:q1t 3 f_y19:=q1i
def qi0:Xr:=
 (xSeq (sSet 3 w1n) (q6w qdu (q00 (mVar 0) (q00 (mVar 1) mNil)) xNo)
 (xIf (q0b (mOp2 dNe (mOp1 dLen (mVar 2)) (mOp1 dLen (mVar 3)))) xNo
   (q9b "NoSigns" (q00 (mRet (.str "there are not as many heard signs as are sent")) mNil))
   xNo))
def q87:List D->Option Str:=runX 3 4 qi0
theorem qrd:q8m 3 q87:=q70
theorem qr1(T:Txt K mg a):FnOk P w K mg base (CX1 P w) 5 a.f_y19 a.fd_y19 w19 (spPX K false 3 f_y19 q87):=by
 have G_y9:=@qqd P w K mg base a T;refine T.F_y19.okX sc_y19 (λvs H Q E h=>q46 h) (λcdv A outer s H vs Q E hr h=>?_);refine⟨_,(q07 (zsA 3 sc_y19.nd (q0g G_y9 hr.m (by rfl) T.mg_y9 T.F_y9.kp T.B_y9 .nil qdh (q01 (pv 0) (q01 (pv 1) q05)))) (q09 (q2r (q0v (q4f (K:=K) rfl hr.units) (q11 (q1e (K:=K) rfl) (by rfl) T.z_len (by rfl) (q01 (pv 2) q05)) (q11 (q1e (K:=K) rfl) (by rfl) T.z_len (by rfl) (q01 (pv 3) q05)) (q18 _)) (q09 (qbv newX rfl (by rfl) T.mg_NoSigns T.ex_NoSigns PySem.F.excBase_ValueError (q01 q2u q05))) q1m))),?_⟩;exact q3i (O':=[]) (Nms:=["scheme","size","heard","places"]) (f:=qkb) (fx:=qi0) (by
  unfold qkb;exact(q0h (O1:=[]) (q16 (q1p (q8w n_y9 (q02 (q03 (i:=0)) (q02 (q03 (i:=1)) q08))))) (q33 (q0s (q15 q63 (q19 q2j q1z) (q19 q2j q1z).mb)) qcb (q27 rfl)))) (by
  unfold qi0;exact(q4c (O1:=[]) (q16 (q1p (q8w n_y9 (q02 (q03 (i:=0)) (q02 (q03 (i:=1)) q08))))) (qiu (q4p qu4 (q02 (q03 (i:=0)) (q02 (q03 (i:=1)) q08)) q5s)).g (ql8 (q0s (q15 q63 (q19 q2j q1z) (q19 q2j q1z).mb)) qg5 (q81 T.ns_NoSigns (q02 me_str q08)).g q59))) h
abbrev w15:=(mZip (q00 (mVar 0) (q00 (mVar 1) mNil)))
abbrev w05:=(mOrE (q5h "Clear" "cost" f_y12 (mVar 0) (q00 (mVar 1) mNil)) (mOrE (q5h "Gap" "cost" f_y14 (mVar 0) (q00 (mVar 1) mNil)) (q5h "Soft" "cost" f_y17 (mVar 0) (q00 (mVar 1) mNil))))
def qka:RhO:=
 (sRet (mOp1 dSum (mOf (q20 2 [] none w15 (q1n 2 (q0c (gSet 0) (q0c (gSet 1) q1o))) (mRet true) w05))))
def f_y20:List D->Option D:=runP false 2 2 qka
theorem qum:q1t 2 f_y20:=q1i
theorem qr0(T:Txt K mg a):FnOk P w K mg base CX0 2 a.f_y20 a.fd_y20 ["signs","bits"] (spP K false 2 f_y20):=by
 have G_y17:=@qr3 P w K mg base a T;have G_y14:=@qr5 P w K mg base a T;have G_y12:=@qr6 P w K mg base a T;refine T.F_y20.ok qpl (λ_ _ _ _ h=>h.1) (λcdv A outer s H vs Q E hr h=>?_)
 ·refine⟨_,(q09 (q0t (q11 (qct (K:=K) rfl rfl) (by rfl) T.z_sum (by rfl) (q01 (q2v (sc:=q04 qdd) (N0:=["signs","bits"]) rfl rfl rfl (show q21 _ _ ["sign","bit"] 2 [] _=true by decide+kernel) (q5d (K:=K) rfl (by rfl) T.z_zip (q01 (pv 0) (q01 (pv 1) q05))) (λ_ _ _ _ _=>(q32 (K:=K) rfl rfl (q1c (q0l (i:=0) (show List.Nodup (["sign","bit"]:List Str)from(by decide+kernel)) rfl (Or.inl rfl)) (q1c (q0l (i:=1) (show List.Nodup (["sign","bit"]:List Str)from(by decide+kernel)) rfl (Or.inl rfl)) q31)))) (q8t (by decide) (by decide)) (λ_ _ _ _ _=>q2p) (λ_ _ _ _ _=>(PE.or (qaz (pv 0) T.cl_Clear T.m_y12 G_y12 hr.m T.B_y12 .nil q1f (q01 (pv 1) q05)) (PE.or (qaz (pv 0) T.cl_Gap T.m_y14 G_y14 hr.m T.B_y14 .nil q1f (q01 (pv 1) q05)) (qaz (pv 0) T.cl_Soft T.m_y17 G_y17 hr.m T.B_y17 .nil q1f (q01 (pv 1) q05)))))) q05)))),?_⟩;exact q0x (O':=[]) (Nms:=["signs","bits"]) (f:=qka) (by unfold qka;exact(q17 rfl (q19 qlm (q1p (q28 (bw:=none) (q7a (q02 (q03 (i:=0)) (q02 (q03 (i:=1)) q08))) (q3y (q1d (q0o (i:=0)) (q1d (q0o (i:=1)) q34))) q3w (qlb (qba T.ns_Clear quq (q03 (i:=0)) (q02 (q03 (i:=1)) q08)) (qlb (qba T.ns_Gap qup (q03 (i:=0)) (q02 (q03 (i:=1)) q08)) (qba T.ns_Soft quo (q03 (i:=0)) (q02 (q03 (i:=1)) q08)))))).mb) rfl)) h
def qe2:Fd:=
 (qcl 3 (q1n 2 (q0c (gSet 4) (q0c (gSet 5) q1o))) (mZip (q00 w1n (q00 (mVar 2) mNil)))
   (q53 3 (mVar 4) (q00 (q0i f_y18 (q00 (mVar 5) mNil)) mNil)))
def qdr:RhL:=(q3c (q00 w1v mNil))
def qa7:List D->Option (List (List D)):=qax 3 6 3 qdr qe2
def f_y21:List D->Option D:=λds=>qdw (qa7 ds)
theorem qul:q1t 3 f_y21:=qm4
theorem qmr(T:Txt K mg a):FnOk P w K mg base CX0 5 a.f_y21 a.fd_y21 w19 (spD K 3 qa7):=by
 have G_y8:=@qqe P w K mg base a T;have G_y9:=@qqd P w K mg base a T;have G_y18:=@qr2 P w K mg base a T;refine T.F_y21.ok sc_y21 (λvs H Q E h=>h.1) (λcdv A outer s H vs Q E hr h=>?_);refine⟨_,(q07 (q61 (k:=3) (sc:=q04 qdc) (N0:=w2l) rfl rfl rfl (show q21 _ _ ["number"] 1 [] _=true by decide+kernel) sc_y21.nd rfl (Or.inl rfl) (q1s (by rfl) T.z_range (q01 (q0g G_y8 hr.m (by rfl) T.mg_y8 T.F_y8.kp T.B_y8 .nil qb3 (q01 (pv 0) (q01 (pv 1) q05))) q05)) (λ_ _ _ _ _=>(q0l (i:=0) (show List.Nodup (["number"]:List Str)from(by decide+kernel)) rfl (Or.inl rfl))) (q1x (by decide)) (λ_ _ _ _ _=>q2p) (λ_ _ _ _ _=>(q2c q05))) (q07 (q2m jy rfl (q5d (K:=K) rfl (by rfl) T.z_zip (q01 (q0g G_y9 hr.m (by rfl) T.mg_y9 T.F_y9.kp T.B_y9 .nil qb3 (q01 (pv 0) (q01 (pv 1) q05))) (q01 (pv 2) q05))) (q32 (K:=K) rfl rfl (q1c (zgA 4 sc_y21.nd) (q1c (zgA 5 sc_y21.nd) q31))) (q09 (q4b (qb2 PySem.F.plainAttrs_list PySem.F.slot_list_append PySem.F.type_list_append q3x (q1a (q0f (K:=K) rfl) (pv 3) (pv 4)) (q01 (q0g G_y18 hr.m (by rfl) T.mg_y18 T.F_y18.kp T.B_y18 .nil q1f (q01 (pv 5) q05)) q05))))) (q09 (q0t (pv 3))))),?_⟩;exact qek (Nms:=w2l) (i:=3) (m:=1) (js:=[]) (fi:=qdr) (f:=qe2) (by
  unfold qdr;exact(q1v (q02 (q23 n_y8 (q02 (q03 (i:=0)) (q02 (q03 (i:=1)) q08))) q08))) (by
  unfold qe2;exact(qiv (q7a (q02 (q1p (q8w n_y9 (q02 (q03 (i:=0)) (q02 (q03 (i:=1)) q08)))) (q02 (q03 (i:=2)) q08))) (q3y (q1d (q0o (i:=4)) (q1d (q0o (i:=5)) q34))) (by decide) (qdk (q03 (i:=4)) (q02 (q0n qun (q02 (q03 (i:=5)) q08)) q08)))) h
theorem qqz(T:Txt K mg a):FnOk P w K mg base CX0 5 a.f_y21 a.fd_y21 w19 (spP K false 3 f_y21):=(qmr T).imp λ_ _ _ _ h=>qtn h
def qk9:RhO:=
 (sSeq (sSet 5 (q0i f_y3 (q00 (mVar 0) (q00 (mVar 3) (q00 (mVar 4) mNil)))))
 (sRet (mTup (q00 (mOp2 dIx (mVar 5) (mRet (.int 0))) (q00 (q0i f_y20 (q00 (mVar 2) (q00 (q0i f_y4 (q00 (mVar 0) (q00 (mVar 1) (q00 (mOp2 dIx (mVar 5) (mRet (.int 1))) mNil)))) mNil))) mNil)))))
def f_y22:List D->Option D:=runP false 5 6 qk9
theorem quk:q1t 5 f_y22:=q1i
theorem qqy(T:Txt K mg a):FnOk P w K mg base CX0 4 a.f_y22 a.fd_y22 w32 (spP K false 5 f_y22):=by
 have G_y3:=@qqt P w K mg base a T;have G_y4:=@qqm P w K mg base a T;have G_y20:=@qr0 P w K mg base a T;refine T.F_y22.ok sc_y22 (λ_ _ _ _ h=>h.1) (λcdv A outer s H vs Q E hr h=>?_)
 ·refine⟨_,(q07 (zsA 5 sc_y22.nd (q0g G_y3 hr.m (by rfl) T.mg_y3 T.F_y3.kp T.B_y3 .nil q1f (q01 (pv 0) (q01 (pv 3) (q01 (pv 4) q05))))) (q09 (q0t (q2t (q01 (q1a (q0f (K:=K) rfl) (pv 5) q06) (q01 (q0g G_y20 hr.m (by rfl) T.mg_y20 T.F_y20.kp T.B_y20 .nil q1f (q01 (pv 2) (q01 (q0g G_y4 hr.m (by rfl) T.mg_y4 T.F_y4.kp T.B_y4 .nil q1f (q01 (pv 0) (q01 (pv 1) (q01 (q1a (q0f (K:=K) rfl) (pv 5) q06) q05)))) q05))) q05)))))),?_⟩;exact q0x (O':=[]) (Nms:=w3q) (f:=qk9) (by unfold qk9;exact(q0h (O1:=[]) (q16 (q0n n_y3 (q02 (q03 (i:=0)) (q02 (q03 (i:=3)) (q02 (q03 (i:=4)) q08))))) (q17 rfl (q39 (q02 (q0e q1b (q03 (i:=5)) me_int) (q02 (q0n qum (q02 (q03 (i:=2)) (q02 (q0n n_y4 (q02 (q03 (i:=0)) (q02 (q03 (i:=1)) (q02 (q0e q1b (q03 (i:=5)) me_int) q08)))) q08))) q08))) rfl))) h
abbrev w0z:=(q00 (mVar 1) (q00 (mVar 2) (q00 (mVar 3) (q00 (mVar 4) (q00 (mVar 0) mNil)))))
def qk8:RhO:=
 (sRet (mOf (q20 1 [0,1,2,3] none (mSeq (mVar 4)) (gSet 0) (mRet true) (q0i f_y22 w0z))))
def f_y23:List D->Option D:=runP false 5 5 qk8
theorem quj:q1t 5 f_y23:=q1i
abbrev w43:List Str:=["bit","scheme","number","signs","room"]
theorem qqx(T:Txt K mg a):FnOk P w K mg base CX0 5 a.f_y23 a.fd_y23 w1a (spP K false 5 f_y23):=by
 have G_y22:=@qqy P w K mg base a T;refine T.F_y23.ok qpk (λ_ _ _ _ h=>h.1) (λcdv A outer s H vs Q E hr h=>?_)
 ·refine⟨_,(q09 (q0t (q2v (sc:=q04 qdb) (N0:=w1a) rfl rfl rfl (show q21 _ _ w43 1 [0,1,2,3] _=true by decide+kernel) (q2k (K:=K) rfl (pv 4)) (λ_ _ _ _ _=>(q0l (i:=0) (show List.Nodup (w43:List Str)from(by decide+kernel)) rfl (Or.inl rfl))) (q1x (by decide)) (λ_ _ _ _ _=>q2p) (λ_ _ _ _ _=>(q0g G_y22 hr.m (by rfl) T.mg_y22 T.F_y22.kp T.B_y22 .nil q1f (q01 (pv 1) (q01 (pv 2) (q01 (pv 3) (q01 (pv 4) (q01 (pv 0) q05)))))))))),?_⟩;exact q0x (O':=[]) (Nms:=w1a) (f:=qk8) (by unfold qk8;exact(q17 rfl (q1p (q28 (bw:=none) (q38 (q03 (i:=4))) (q0o (i:=0)) q3w (q0n quk (q02 (q03 (i:=1)) (q02 (q03 (i:=2)) (q02 (q03 (i:=3)) (q02 (q03 (i:=4)) (q02 (q03 (i:=0)) q08)))))))) rfl)) h
abbrev w2y:=(q00 (mVar 1) (q00 (mVar 2) (q00 (mVar 3) (q00 (mVar 0) (q00 (mVar 4) mNil)))))
abbrev w41:=(q00 (q0i f_y1 (q00 (mVar 0) mNil)) mNil)
abbrev w3o:=(q00 (mRet (.int 0)) (q00 (mRet (.int 1)) mNil))
abbrev w0c:=(sSeq (sSet 6 (mIf (q0b (mOp2 dLt (mVar 4) (mVar 1))) (mTup w3o) (mTup (q00 (mRet (.int 0)) mNil)))) (sMut q2l 3 (q00 (mOf (q20 1 [0,4,5,6] none (q3c w41) (gSet 0) (mRet true) (q0i f_y23 w2y))) mNil)))
abbrev w09:=(q00 (mVar 0) (q00 (mVar 1) (q00 (mVar 2) mNil)))
def qk7:RhO:=
 (sSeq (q6z (q0i f_y19 w09))
 (sSeq (sOwn 3 (mLst mNil))
 (sSeq (sFor (q5t (q0i f_y21 w09)) (q1n 2 (q0c (gSet 4) (q0c (gSet 5) q1o)))
   w0c)
 (sRet (mVar 3)))))
def f_y24:List D->Option D:=runP false 3 7 qk7
theorem qmx:q1t 3 f_y24:=q1i
def qhz:Xr:=
 (xSeq (q6z (q0i f_y19 w09)) (q6w q87 w09 xNo)
 xNo)
def q86:List D->Option Str:=runX 3 7 qhz
theorem qrc:q8m 3 q86:=q70
abbrev w3w:List Str:=["room","scheme","number","signs","bits"]
theorem ql4(T:Txt K mg a):FnOk P w K mg base (CX1 P w) 6 a.f_y24 a.fd_y24 w19 (spPX K false 3 f_y24 q86):=by
 have G_y19:=@qr1 P w K mg base a T;have G_y21:=@qqz P w K mg base a T;have G_y1:=@qip P w K mg base a T;have G_y23:=@qqx P w K mg base a T;refine T.F_y24.okX sc_y24 (λvs H Q E h=>q46 h) (λcdv A outer s H vs Q E hr h=>?_);refine⟨_,(q07 (q4b (q0g G_y19 hr.m (by rfl) T.mg_y19 T.F_y19.kp T.B_y19 .nil qdh (q01 (pv 0) (q01 (pv 1) (q01 (pv 2) q05))))) (q07 (zsA 3 sc_y24.nd (q2c q05)) (q07 (PS.nox (q2m jy rfl (q8r (K:=K) rfl (by rfl) T.z_enumerate (q0g G_y21 hr.m (by rfl) T.mg_y21 T.F_y21.kp T.B_y21 .nil q1f (q01 (pv 0) (q01 (pv 1) (q01 (pv 2) q05))))) (q32 (K:=K) rfl rfl (q1c (zgA 4 sc_y24.nd) (q1c (zgA 5 sc_y24.nd) q31))) (q07 (zsA 6 sc_y24.nd (q3o (q0v qio (pv 4) (pv 1) (q18 _)) (q2t (q01 q06 (q01 q06 q05))) (q2t (q01 q06 q05)))) (q09 (q4b (qb2 PySem.F.plainAttrs_list PySem.F.slot_list_append PySem.F.type_list_append q3x (pv 3) (q01 (q2v (sc:=q04 qda) (N0:=w26) rfl rfl rfl (show q21 _ _ w3w 1 [0,4,5,6] _=true by decide+kernel) (q1s (by rfl) T.z_range (q01 (q0g G_y1 hr.m (by rfl) T.mg_y1 T.F_y1.kp T.B_y1 .nil q1f (q01 (pv 0) q05)) q05)) (λ_ _ _ _ _=>(q0l (i:=0) (show List.Nodup (w3w:List Str)from(by decide+kernel)) rfl (Or.inl rfl))) (q1x (by decide)) (λ_ _ _ _ _=>q2p) (λ_ _ _ _ _=>(q0g G_y23 hr.m (by rfl) T.mg_y23 T.F_y23.kp T.B_y23 .nil q1f (q01 (pv 1) (q01 (pv 2) (q01 (pv 3) (q01 (pv 0) (q01 (pv 4) q05)))))))) q05))))))) (q09 (q0t (pv 3)))))),?_⟩;exact q3i (O':=[]) (Nms:=w26) (f:=qk7) (fx:=qhz) (by
  unfold qk7;exact(q0h (O1:=[]) (q66 (q23 qrp (q02 (q03 (i:=0)) (q02 (q03 (i:=1)) (q02 (q03 (i:=2)) q08)))) rfl) (q0h (O1:=[3]) (q4g (q2f q08) rfl) (q0h (O1:=[]) (qg8 (q2y (O':=[3]) (q8x (q0n qul (q02 (q03 (i:=0)) (q02 (q03 (i:=1)) (q02 (q03 (i:=2)) q08))))) rfl (q3y (q1d (q0o (i:=4)) (q1d (q0o (i:=5)) q34))) (q0h (O1:=[3]) (q16 (qdm (q0s (q15 q7s (q03 (i:=4)) q1z)) (q39 (q02 me_int (q02 me_int q08))) (q39 (q02 me_int q08)))) (qcd q5o (by decide) (q02 (q1p (q28 (bw:=none) (q1v (q02 (q0n n_y1 (q02 (q03 (i:=0)) q08)) q08)) (q0o (i:=0)) q3w (q0n quj (q02 (q03 (i:=1)) (q02 (q03 (i:=2)) (q02 (q03 (i:=3)) (q02 (q03 (i:=0)) (q02 (q03 (i:=4)) q08)))))))) q08) rfl))) rfl) (q17 rfl (q03 (i:=3)) rfl))))) (by
  unfold qhz;exact(q4c (O1:=[]) (q66 (q23 qrp (q02 (q03 (i:=0)) (q02 (q03 (i:=1)) (q02 (q03 (i:=2)) q08)))) rfl) (q5q (q4p qrd (q02 (q03 (i:=0)) (q02 (q03 (i:=1)) (q02 (q03 (i:=2)) q08))) q5s)).g
  q59)) h
def qk6:RhO:=
 (sRet (mTup (q00 (mOp2 dIx (mVar 0) (mRet (.int 0))) (q00 (mOp2 dIx (mVar 0) (mRet (.int 1))) (q00 (mOp2 dIx (mVar 0) (mRet (.int 2))) (q00 (mRet (.str "open")) mNil))))))
def f_y25:List D->Option D:=runP false 1 1 qk6
theorem qis:q1t 1 f_y25:=q1i
theorem ql3(T:Txt K mg a):FnOk P w K mg base CX0 1 a.f_y25 a.fd_y25 ["scheme"] (spP K false 1 f_y25):=by
 refine T.F_y25.ok qpj (λ_ _ _ _ h=>h.1) (λcdv A outer s H vs Q E hr h=>?_)
 ·refine⟨_,(q09 (q0t (q2t (q01 (q1a (q0f (K:=K) rfl) (pv 0) q06) (q01 (q1a (q0f (K:=K) rfl) (pv 0) q06) (q01 (q1a (q0f (K:=K) rfl) (pv 0) q06) (q01 q2u q05))))))),?_⟩;exact q0x (O':=[]) (Nms:=["scheme"]) (f:=qk6) (by unfold qk6;exact(q17 rfl (q39 (q02 (q0e q1b (q03 (i:=0)) me_int) (q02 (q0e q1b (q03 (i:=0)) me_int) (q02 (q0e q1b (q03 (i:=0)) me_int) (q02 me_str q08))))) rfl)) h
abbrev w40:=(q0b (mOp2 dEq (mVar 0) (mRet (.int 0))))
abbrev w3g:=(mTup (q00 (mRet (.int 0)) (q00 (mOf (mLst mNil)) mNil)))
abbrev w16:=(mIf w40 w3g (mRet .non))
abbrev w0y:=w41
def qk5:RhO:=
 (sRet (mOf (q20 1 [] none (q3c w0y) (gSet 0) (mRet true) w16)))
def f_y26:List D->Option D:=runP false 1 1 qk5
theorem qro:q1t 1 f_y26:=q1i
theorem qqw(T:Txt K mg a):FnOk P w K mg base CX0 3 a.f_y26 a.fd_y26 ["scheme"] (spP K false 1 f_y26):=by
 have G_y1:=@qip P w K mg base a T;refine T.F_y26.ok qkn (λ_ _ _ _ h=>h.1) (λcdv A outer s H vs Q E hr h=>?_)
 ·refine⟨_,(q09 (q0t (q2v (sc:=q04 qau) (N0:=["scheme"]) rfl rfl rfl (show q21 _ _ ["room"] 1 [] _=true by decide+kernel) (q1s (by rfl) T.z_range (q01 (q0g G_y1 hr.m (by rfl) T.mg_y1 T.F_y1.kp T.B_y1 .nil q1f (q01 (pv 0) q05)) q05)) (λ_ _ _ _ _=>(q0l (i:=0) (show List.Nodup (["room"]:List Str)from(by decide+kernel)) rfl (Or.inl rfl))) (q1x (by decide)) (λ_ _ _ _ _=>q2p) (λ_ _ _ _ _=>(q3o (q0v (q2w (K:=K) rfl hr.units) (pv 0) q06 (q18 _)) (q2t (q01 q06 (q01 (q2c q05) q05))) q3d))))),?_⟩;exact q0x (O':=[]) (Nms:=["scheme"]) (f:=qk5) (by unfold qk5;exact(q17 rfl (q1p (q28 (bw:=none) (q1v (q02 (q0n n_y1 (q02 (q03 (i:=0)) q08)) q08)) (q0o (i:=0)) q3w (qdm (q0s (q15 os_eq (q03 (i:=0)) me_int.mb)) (q39 (q02 me_int (q02 (q1p (q2f q08)) q08))) me_non))) rfl)) h
def qcm:List D->Option Kr:=gKF 1 (q3c w0y)
theorem qmq(T:Txt K mg a):FnOk P w K mg base CX0 3 a.f_y26 a.fd_y26 ["scheme"] (spK K 1 qcm):=by
 have G_y1:=@qip P w K mg base a T;refine T.F_y26.ok qkn (λ_ _ _ _ h=>h.1) (λcdv A outer s H vs Q E hr h=>?_)
 ·refine⟨_,(q09 (q0t (q2v (sc:=q04 qau) (N0:=["scheme"]) rfl rfl rfl (show q21 _ _ ["room"] 1 [] _=true by decide+kernel) (q1s (by rfl) T.z_range (q01 (q0g G_y1 hr.m (by rfl) T.mg_y1 T.F_y1.kp T.B_y1 .nil q1f (q01 (pv 0) q05)) q05)) (λ_ _ _ _ _=>(q0l (i:=0) (show List.Nodup (["room"]:List Str)from(by decide+kernel)) rfl (Or.inl rfl))) (q1x (by decide)) (λ_ _ _ _ _=>q2p) (λ_ _ _ _ _=>(q3o (q0v (q2w (K:=K) rfl hr.units) (pv 0) q06 (q18 _)) (q2t (q01 q06 (q01 (q2c q05) q05))) q3d))))),?_⟩;exact qeh (Nms:=["scheme"]) (q1v (q02 (q0n n_y1 (q02 (q03 (i:=0)) q08)) q08)) (q0s (q15 os_eq (q03 (i:=0)) me_int.mb)) qnb h
def qk4:RhO:=
 (sRet (mIf (q0b (mOp2 dIsN (mVar 0) (mRet .non))) (mVar 1) (qj3 (q00 (mVar 0) (q00 (mVar 1) mNil)))))
def f_y27:List D->Option D:=runP false 2 2 qk4
theorem qui:q1t 2 f_y27:=q1i
theorem qqv(T:Txt K mg a):FnOk P w K mg base CX0 1 a.f_y27 a.fd_y27 ["found","other"] (spP K false 2 f_y27):=by
 refine T.F_y27.ok qkm (λ_ _ _ _ h=>h.1) (λcdv A outer s H vs Q E hr h=>?_)
 ·refine⟨_,(q09 (q0t (q3o (q0v qfw (pv 0) q3d (q18 _)) (pv 1) (q11 (q7p (K:=K) rfl rfl hr.units) (by rfl) T.z_min (by rfl) (q01 (pv 0) (q01 (pv 1) q05)))))),?_⟩;exact q0x (O':=[]) (Nms:=["found","other"]) (f:=qk4) (by unfold qk4;exact(q17 rfl (qdm (q0s (q15 qkv (q03 (i:=0)) me_non.mb)) (q03 (i:=1)) (qn7 (q02 (q03 (i:=0)) (q02 (q03 (i:=1)) q08)))) rfl)) h
theorem qmp(T:Txt K mg a):FnOk P w K mg base CX0 1 a.f_y27 a.fd_y27 ["found","other"] (qlz K):=by
 refine T.F_y27.ok qkm (λvs H Q E h=>?_) (λcdv A outer s H vs Q E hr h=>?_)
 ·obtain⟨v0,v1,p,rfl,_⟩:=h;rfl
 ·refine⟨_,(q09 (q0t (q3o (q0v qfw (pv 0) q3d (q18 _)) (pv 1) (q11 (q7p (K:=K) rfl rfl hr.units) (by rfl) T.z_min (by rfl) (q01 (pv 0) (q01 (pv 1) q05)))))),?_⟩;exact qd1 (Nms:=["found","other"]) rfl h
abbrev w1f:=(sSet 7 (mOp2 dIx (mVar 6) (mRet (.int 0))))
abbrev w2s:=(mOp2 dAdd (mOp2 dIx (mVar 3) (mRet (.int 0))) (mOp2 dIx (mVar 6) (mRet (.int 1))))
abbrev w00:=(q0i f_y27 (q00 (mIxO 2 (mVar 7)) (q00 (mTup (q00 w2s (q00 (mOp2 dAdd (mOp2 dIx (mVar 3) (mRet (.int 1))) (mOf (mLst (q00 (mVar 5) mNil)))) mNil))) mNil)))
abbrev w2i:=(sFor (q5t (mVar 4)) (q1n 2 (q0c (gSet 5) (q0c (gSet 6) q1o))) (sSeq w1f (q48 2 w00 (mVar 7))))
def qk3:RhO:=
 (sSeq (sOwn 2 (mRep (mLst (q00 (mRet .non) mNil)) (mOp1 dLen (mVar 0))))
 (sSeq (sFor w15 (q1n 2 (q0c (gSet 3) (q0c (gSet 4) q1o)))
   (sIf (q0b (mOp2 q2i (mVar 3) (mRet .non)))
   w2i
   sNil))
 (q5b 2)))
def f_y28:List D->Option D:=runP true 2 8 qk3
theorem qrn:q1t 2 f_y28:=q1i
theorem qqu(T:Txt K mg a):FnOk P w K mg base CX0 2 a.f_y28 a.fd_y28 w34 (spP K true 2 f_y28):=by
 have G_y27:=@qqv P w K mg base a T;refine T.F_y28.ok sc_y28 (λ_ _ _ _ h=>h.1) (λcdv A outer s H vs Q E hr h=>?_)
 ·refine⟨_,(q07 (zsA 2 sc_y28.nd (q0u qc1 (q2c (q01 q3d q05)) (q11 (q1e (K:=K) rfl) (by rfl) T.z_len (by rfl) (q01 (pv 0) q05)))) (q07 (q2m jy rfl (q5d (K:=K) rfl (by rfl) T.z_zip (q01 (pv 0) (q01 (pv 1) q05))) (q32 (K:=K) rfl rfl (q1c (zgA 3 sc_y28.nd) (q1c (zgA 4 sc_y28.nd) q31))) (q09 (q2r (q0v q5e (pv 3) q3d (q18 _)) (q09 (q2m jy rfl (q8r (K:=K) rfl (by rfl) T.z_enumerate (pv 4)) (q32 (K:=K) rfl rfl (q1c (zgA 5 sc_y28.nd) (q1c (zgA 6 sc_y28.nd) q31))) (q07 (zsA 7 sc_y28.nd (q1a (q0f (K:=K) rfl) (pv 6) q06)) (q09 (q72 (q0g G_y27 hr.m (by rfl) T.mg_y27 T.F_y27.kp T.B_y27 .nil q1f (q01 (q1a (q0f (K:=K) rfl) (pv 2) (pv 7)) (q01 (q2t (q01 (q0u (q1g (K:=K) rfl) (q1a (q0f (K:=K) rfl) (pv 3) q06) (q1a (q0f (K:=K) rfl) (pv 6) q06)) (q01 (q0u (q1g (K:=K) rfl) (q1a (q0f (K:=K) rfl) (pv 3) q06) (q2c (q01 (pv 5) q05))) q05))) q05))) (q9n (pv 2) (pv 7) set_list)))))) q1m))) (q09 (q0t (pv 2))))),?_⟩;exact q0x (O':=[]) (Nms:=w1o) (f:=qk3) (by unfold qk3;exact(q0h (O1:=[2]) (q4g (q9v (q2f (q02 me_non q08)) (q19 q2j q1z)) rfl) (q0h (O1:=[2]) (q2y (O':=[2]) (q7a (q02 (q03 (i:=0)) (q02 (q03 (i:=1)) q08))) rfl (q3y (q1d (q0o (i:=3)) (q1d (q0o (i:=4)) q34))) (q33 (q0s (q15 q4o (q03 (i:=3)) me_non.mb)) (q2y (O':=[2]) (q8x (q03 (i:=4))) rfl (q3y (q1d (q0o (i:=5)) (q1d (q0o (i:=6)) q34))) (q0h (O1:=[2]) (q16 (q0e q1b (q03 (i:=6)) me_int)) (q8u (by decide) (q0n qui (q02 (q9w (i:=2) (by decide) (q03 (i:=7))) (q02 (q39 (q02 (q0e q1y (q0e q1b (q03 (i:=3)) me_int) (q0e q1b (q03 (i:=6)) me_int)) (q02 (q0e q1y (q0e q1b (q03 (i:=3)) me_int) (q1p (q2f (q02 (q03 (i:=5)) q08)))) q08))) q08))) (q03 (i:=7)) rfl))) (q27 rfl))) (q65 rfl (by first|decide|simp) rfl (by first|decide|simp))))) h
def qlq:RhL:=(mRep (mLst (q00 (mRet .non) mNil)) (mOp1 dLen (mVar 0)))
abbrev w06:=w2s
abbrev w2z:=(q9y qac (mOp2 dIx (mVar 3) (mRet (.int 1))) (mOf (mLst (q00 (mVar 5) mNil))))
def q7q:Fk:=(qjh (qh4 2 7 (mOp2 dIx (mVar 6) (mRet (.int 0)))) (qh5 2 7 w06 w2z))
def qcv:Fk:=(q6g 2 (q1n 2 (q0c (gSet 3) (q0c (gSet 4) q1o))) w15 (fkIf 2 (q0b (mOp2 q2i (mVar 3) (mRet .non))) (q6g 2 (q1n 2 (q0c (gSet 5) (q0c (gSet 6) q1o))) (q5t (mVar 4)) q7q) qnl))
def qa6:List D->Option Kr:=gKO 8 qlq qcv
theorem qmo(T:Txt K mg a):FnOk P w K mg base CX0 2 a.f_y28 a.fd_y28 w34 (spK K 2 qa6):=by
 have G_y27:=@qmp P w K mg base a T;refine T.F_y28.ok sc_y28 (λ_ _ _ _ h=>h.1) (λcdv A outer s H vs Q E hr h=>?_)
 ·refine⟨_,(q07 (zsA 2 sc_y28.nd (q0u qc1 (q2c (q01 q3d q05)) (q11 (q1e (K:=K) rfl) (by rfl) T.z_len (by rfl) (q01 (pv 0) q05)))) (q07 (q2m jy rfl (q5d (K:=K) rfl (by rfl) T.z_zip (q01 (pv 0) (q01 (pv 1) q05))) (q32 (K:=K) rfl rfl (q1c (zgA 3 sc_y28.nd) (q1c (zgA 4 sc_y28.nd) q31))) (q09 (q2r (q0v q5e (pv 3) q3d (q18 _)) (q09 (q2m jy rfl (q8r (K:=K) rfl (by rfl) T.z_enumerate (pv 4)) (q32 (K:=K) rfl rfl (q1c (zgA 5 sc_y28.nd) (q1c (zgA 6 sc_y28.nd) q31))) (q07 (zsA 7 sc_y28.nd (q1a (q0f (K:=K) rfl) (pv 6) q06)) (q09 (q72 (q0g G_y27 hr.m (by rfl) T.mg_y27 T.F_y27.kp T.B_y27 .nil q1f (q01 (q1a (q0f (K:=K) rfl) (pv 2) (pv 7)) (q01 (q2t (q01 (q0u (q1g (K:=K) rfl) (q1a (q0f (K:=K) rfl) (pv 3) q06) (q1a (q0f (K:=K) rfl) (pv 6) q06)) (q01 (q0u (q1g (K:=K) rfl) (q1a (q0f (K:=K) rfl) (pv 3) q06) (q2c (q01 (pv 5) q05))) q05))) q05))) (q9n (pv 2) (pv 7) set_list)))))) q1m))) (q09 (q0t (pv 2))))),?_⟩;exact qeg (Nms:=w1o) (by
   unfold qlq;exact(q9v (q2f (q02 me_non q08)) (q19 q2j q1z))) (by
   unfold qcv q7q;exact(qc9 (q7a (q02 (q03 (i:=0)) (q02 (q03 (i:=1)) q08))) (q3y (q1d (q0o (i:=3)) (q1d (q0o (i:=4)) q34))) (by decide) (qrs (q0s (q15 q4o (q03 (i:=3)) me_non.mb)) (qc9 (q8x (q03 (i:=4))) (q3y (q1d (q0o (i:=5)) (q1d (q0o (i:=6)) q34))) (by decide) (qn3 (qn2 (q0e q1b (q03 (i:=6)) me_int) (by decide)) (qn4 (q0e q1y (q0e q1b (q03 (i:=3)) me_int) (q0e q1b (q03 (i:=6)) me_int)) (qru qkw (q0e q1b (q03 (i:=3)) me_int) (q1p (q2f (q02 (q03 (i:=5)) q08))))))) qn5))) h
abbrev w1e:=(sSet 3 (mOf (q25 f_y28 (q00 (mVar 3) (q00 (mVar 4) mNil)))))
abbrev w39:=(q00 (q0i f_y25 (q00 (mVar 0) mNil)) (q00 (mVar 1) (q00 (mVar 2) mNil)))
abbrev w0e:=(mSeq (q0i f_y24 w39))
abbrev w33:=(sSet 3 (q0i f_y26 (q00 (mVar 0) mNil)))
def qop:RhO:=
 (sSeq w33
 (sSeq (sFor w0e (gSet 4)
   w1e)
 (sRet (mVar 3))))
def f_y29:List D->Option D:=runP false 3 5 qop
theorem qmw:q1t 3 f_y29:=q1i
def qhy:Xr:=
 (xSeq w33 xNo
 (xSeq (sFor w0e (gSet 4)
   w1e) (q6w q86 w39 xNo)
 xNo))
def q6e:List D->Option Str:=runX 3 5 qhy
theorem ql5:q8m 3 q6e:=q70
theorem qfy(T:Txt K mg a):FnOk P w K mg base (CX1 P w) 7 a.f_y29 a.fd_y29 w1p (spPX K false 3 f_y29 q6e):=by
 have G_y26:=@qqw P w K mg base a T;have G_y25:=@ql3 P w K mg base a T;have G_y24:=@ql4 P w K mg base a T;have G_y28:=@qqu P w K mg base a T;refine T.F_y29.okX sc_y29 (λvs H Q E h=>q46 h) (λcdv A outer s H vs Q E hr h=>?_);refine⟨_,(q07 (zsA 3 sc_y29.nd (q0g G_y26 hr.m (by rfl) T.mg_y26 T.F_y26.kp T.B_y26 .nil q1f (q01 (pv 0) q05))) (q07 (PS.or (PS.nox (q2m jy rfl (q2k (K:=K) rfl (q0g G_y24 hr.m (by rfl) T.mg_y24 T.F_y24.kp T.B_y24 .nil qb3 (q01 (q0g G_y25 hr.m (by rfl) T.mg_y25 T.F_y25.kp T.B_y25 .nil q1f (q01 (pv 0) q05)) (q01 (pv 1) (q01 (pv 2) q05))))) (zgA 4 sc_y29.nd) (q09 (zsA 3 sc_y29.nd (q0g G_y28 hr.m (by rfl) T.mg_y28 T.F_y28.kp T.B_y28 .nil q1f (q01 (pv 3) (q01 (pv 4) q05))))))) (qfp (q2k (K:=K) rfl (q0g G_y24 hr.m (by rfl) T.mg_y24 T.F_y24.kp T.B_y24 .nil qdh (q01 (q0g G_y25 hr.m (by rfl) T.mg_y25 T.F_y25.kp T.B_y25 .nil q1f (q01 (pv 0) q05)) (q01 (pv 1) (q01 (pv 2) q05))))))) (q09 (q0t (pv 3))))),?_⟩;exact q3i (O':=[]) (Nms:=w2g) (f:=qop) (fx:=qhy) (by
  unfold qop;exact(q0h (O1:=[]) (q16 (q0n qro (q02 (q03 (i:=0)) q08))) (q0h (O1:=[]) (qcc (q2y (O':=[]) (q38 (q23 qmx (q02 (q0n qis (q02 (q03 (i:=0)) q08)) (q02 (q03 (i:=1)) (q02 (q03 (i:=2)) q08))))) rfl (q0o (i:=4)) (q16 (q1p (q3p qrn (q02 (q03 (i:=3)) (q02 (q03 (i:=4)) q08))))))) (q17 rfl (q03 (i:=3)) rfl)))) (by
  unfold qhy;exact(q4c (O1:=[]) (q16 (q0n qro (q02 (q03 (i:=0)) q08))) q59 (q4c (O1:=[]) (qcc (q2y (O':=[]) (q38 (q23 qmx (q02 (q0n qis (q02 (q03 (i:=0)) q08)) (q02 (q03 (i:=1)) (q02 (q03 (i:=2)) q08))))) rfl (q0o (i:=4)) (q16 (q1p (q3p qrn (q02 (q03 (i:=3)) (q02 (q03 (i:=4)) q08))))))) (qc8 (qgb (q4p qrc (q02 (q0n qis (q02 (q03 (i:=0)) q08)) (q02 (q03 (i:=1)) (q02 (q03 (i:=2)) q08))) q5s)))
  q59))) h
def q7i:List D->Option Kr:=gKD 5 qcm qa6 w0e
theorem qrq(ds:List D)(row:Kr)(h:q7i ds=some row):ds.length=3:=qv0 h
theorem qmn(T:Txt K mg a):FnOk P w K mg base (CX1 P w) 7 a.f_y29 a.fd_y29 w1p (spK K 3 q7i):=by
 have G_y26:=@qmq P w K mg base a T;have G_y25:=@ql3 P w K mg base a T;have G_y24:=@ql4 P w K mg base a T;have G_y28:=@qmo P w K mg base a T;refine T.F_y29.okX sc_y29 (λ_ _ _ _ h=>h.1) (λcdv A outer s H vs Q E hr h=>?_)
 ·refine⟨_,(q07 (zsA 3 sc_y29.nd (q0g G_y26 hr.m (by rfl) T.mg_y26 T.F_y26.kp T.B_y26 .nil q1f (q01 (pv 0) q05))) (q07 (PS.nox (q2m jy rfl (q2k (K:=K) rfl (q0g G_y24 hr.m (by rfl) T.mg_y24 T.F_y24.kp T.B_y24 .nil qb3 (q01 (q0g G_y25 hr.m (by rfl) T.mg_y25 T.F_y25.kp T.B_y25 .nil q1f (q01 (pv 0) q05)) (q01 (pv 1) (q01 (pv 2) q05))))) (zgA 4 sc_y29.nd) (q09 (zsA 3 sc_y29.nd (q0g G_y28 hr.m (by rfl) T.mg_y28 T.F_y28.kp T.B_y28 .nil q1f (q01 (pv 3) (q01 (pv 4) q05))))))) (q09 (q0t (pv 3))))),?_⟩;exact qei (Nms:=w2g) rfl (q38 (q23 qmx (q02 (q0n qis (q02 (q03 (i:=0)) q08)) (q02 (q03 (i:=1)) (q02 (q03 (i:=2)) q08))))) h
def qk2:RhO:=
 (sSeq (sOwn 2 (mLst mNil))
 (sSeq (sFor w15 (q1n 2 (q0c (gSet 3) (q0c (gSet 4) q1o)))
   (sSeq (sIf (q0b (mOp2 dNe (mVar 3) (mVar 4)))
   sBk
   sNil) (sMut q2l 2 (q00 (mVar 3) mNil))))
 (q5b 2)))
def f_y30:List D->Option D:=runP true 2 5 qk2
theorem quh:q1t 2 f_y30:=q1i
theorem qqs(T:Txt K mg a):FnOk P w K mg base CX0 1 a.f_y30 a.fd_y30 ["word","other"] (spP K true 2 f_y30):=by
 refine T.F_y30.ok sc_y30 (λ_ _ _ _ h=>h.1) (λcdv A outer s H vs Q E hr h=>?_)
 ·refine⟨_,(q07 (zsA 2 sc_y30.nd (q2c q05)) (q07 (q2m jy rfl (q5d (K:=K) rfl (by rfl) T.z_zip (q01 (pv 0) (q01 (pv 1) q05))) (q32 (K:=K) rfl rfl (q1c (zgA 3 sc_y30.nd) (q1c (zgA 4 sc_y30.nd) q31))) (q07 (q2r (q0v (q4f (K:=K) rfl hr.units) (pv 3) (pv 4) (q18 _)) (q09 qid) q1m) (q09 (q4b (qb2 PySem.F.plainAttrs_list PySem.F.slot_list_append PySem.F.type_list_append q3x (pv 2) (q01 (pv 3) q05)))))) (q09 (q0t (pv 2))))),?_⟩;exact q0x (O':=[]) (Nms:=w44) (f:=qk2) (by unfold qk2;exact(q0h (O1:=[2]) (q4g (q2f q08) rfl) (q0h (O1:=[2]) (q2y (O':=[2]) (q7a (q02 (q03 (i:=0)) (q02 (q03 (i:=1)) q08))) rfl (q3y (q1d (q0o (i:=3)) (q1d (q0o (i:=4)) q34))) (q0h (O1:=[2]) (q33 (q0s (q15 q63 (q03 (i:=3)) q1z)) (qiw rfl) (q27 rfl)) (qcd q5o (by decide) (q02 (q03 (i:=3)) q08) rfl))) (q65 rfl (by first|decide|simp) rfl (by first|decide|simp))))) h
abbrev w22:=(sSet 4 (mOf (q25 f_y30 (q00 (mVar 4) (q00 (mVar 5) mNil)))))
abbrev w3s:=(sSet 4 (mOp2 dIx (mVar 3) (mRet (.int 0))))
def qoo:RhO:=
 (sSeq (sSet 3 (mOf (q20 1 [] none (mSeq (q0i f_y29 w09)) (gSet 0) (q0b (mOp2 q2i (mVar 0) (mRet .non))) (mOp2 dIx (mVar 0) (mRet (.int 1))))))
 (sSeq w3s
 (sSeq (sFor (mSeq (mVar 3)) (gSet 5)
   w22)
 (sRet (mVar 4)))))
def f_y31:List D->Option D:=runP false 3 6 qoo
theorem qrm:q1t 3 f_y31:=q1i
def qhx:Xr:=
 (xSeq (sSet 3 (mOf (q20 1 [] none (mSeq (q0i f_y29 w09)) (gSet 0) (q0b (mOp2 q2i (mVar 0) (mRet .non))) (mOp2 dIx (mVar 0) (mRet (.int 1)))))) (q6w q6e w09 xNo)
 xNo)
def q85:List D->Option Str:=runX 3 6 qhx
theorem qrb:q8m 3 q85:=q70
theorem ql2(T:Txt K mg a):FnOk P w K mg base (CX1 P w) 8 a.f_y31 a.fd_y31 w1p (spPX K false 3 f_y31 q85):=by
 have G_y29:=@qfy P w K mg base a T;have G_y30:=@qqs P w K mg base a T;refine T.F_y31.okX sc_y31 (λvs H Q E h=>q46 h) (λcdv A outer s H vs Q E hr h=>?_);refine⟨_,(q07 (q61 (k:=3) (sc:=q04 qd9) (N0:=w2k) rfl rfl rfl (show q21 _ _ ["found"] 1 [] _=true by decide+kernel) sc_y31.nd rfl (Or.inl rfl) (q2k (K:=K) rfl (q0g G_y29 hr.m (by rfl) T.mg_y29 T.F_y29.kp T.B_y29 .nil qdh (q01 (pv 0) (q01 (pv 1) (q01 (pv 2) q05))))) (λ_ _ _ _ _=>(q0l (i:=0) (show List.Nodup (["found"]:List Str)from(by decide+kernel)) rfl (Or.inl rfl))) (q1x (by decide)) (λ_ _ _ _ _=>(q74 (q0v q5e (pv 0) q3d (q18 _)))) (λ_ _ _ _ _=>(q1a (q0f (K:=K) rfl) (pv 0) q06))) (q07 (zsA 4 sc_y31.nd (q1a (q0f (K:=K) rfl) (pv 3) q06)) (q07 (PS.nox (q2m jy rfl (q2k (K:=K) rfl (pv 3)) (zgA 5 sc_y31.nd) (q09 (zsA 4 sc_y31.nd (q0g G_y30 hr.m (by rfl) T.mg_y30 T.F_y30.kp T.B_y30 .nil q1f (q01 (pv 4) (q01 (pv 5) q05))))))) (q09 (q0t (pv 4)))))),?_⟩;exact q3i (O':=[]) (Nms:=w2k) (f:=qoo) (fx:=qhx) (by
  unfold qoo;exact(q0h (O1:=[]) (q8v (q28 (bw:=none) (q38 (q23 qmw (q02 (q03 (i:=0)) (q02 (q03 (i:=1)) (q02 (q03 (i:=2)) q08))))) (q0o (i:=0)) (q0s (q15 q4o (q03 (i:=0)) me_non.mb)) (q0e q1b (q03 (i:=0)) me_int)) rfl (by decide)) (q0h (O1:=[]) (q16 (q0e q1b (q03 (i:=3)) me_int)) (q0h (O1:=[]) (q2y (O':=[]) (q38 (q03 (i:=3))) rfl (q0o (i:=5)) (q16 (q1p (q3p quh (q02 (q03 (i:=4)) (q02 (q03 (i:=5)) q08)))))) (q17 rfl (q03 (i:=4)) rfl))))) (by
  unfold qhx;exact(q4c (O1:=[]) (q8v (q28 (bw:=none) (q38 (q23 qmw (q02 (q03 (i:=0)) (q02 (q03 (i:=1)) (q02 (q03 (i:=2)) q08))))) (q0o (i:=0)) (q0s (q15 q4o (q03 (i:=0)) me_non.mb)) (q0e q1b (q03 (i:=0)) me_int)) rfl (by decide)) (qdj (qgb (q4p ql5 (q02 (q03 (i:=0)) (q02 (q03 (i:=1)) (q02 (q03 (i:=2)) q08))) q5s))).g
  q59)) h
abbrev w1w:=(mOp2 dPow (mRet (.int 10)) (mRet (.int 60)))
def qho:RhO:=
 (sSeq (sIf (q0b (mOp2 dLt (mVar 1) (mOp1 dLen (mVar 0))))
   (sRet (mOp2 dMod (mOp2 dIx (mVar 0) (mVar 1)) w1w))
   sNil)
 (sRet (mRet (.int 0))))
def f_y32:List D->Option D:=runP false 2 2 qho
theorem qmv:q1t 2 f_y32:=q1i
theorem ql1(T:Txt K mg a):FnOk P w K mg base CX0 1 a.f_y32 a.fd_y32 ["_law_script","_law_k"] (spP K false 2 f_y32):=by
 refine T.F_y32.ok qpi (λ_ _ _ _ h=>h.1) (λcdv A outer s H vs Q E hr h=>?_)
 ·refine⟨_,(q07 (q2r (q0v qio (pv 1) (q11 (q1e (K:=K) rfl) (by rfl) T.z_len (by rfl) (q01 (pv 0) q05)) (q18 _)) (q09 (q0t (q0u q2d (q1a (q0f (K:=K) rfl) (pv 0) (pv 1)) (q0u qc2 q06 q06)))) q1m) (q09 (q0t q06))),?_⟩;exact q0x (O':=[]) (Nms:=["_law_script","_law_k"]) (f:=qho) (by unfold qho;exact(q0h (O1:=[]) (q33 (q0s (q15 q7s (q03 (i:=1)) (q19 q2j q1z).mb)) (q17 rfl (q0e q2e (q0e q1b (q03 (i:=0)) (q03 (i:=1))) (q0e qc5 me_int me_int)) rfl) (q27 rfl)) (q17 rfl me_int rfl))) h
def qk1:RhO:=
 (qfc (mLst (q00 (mOp2 dMod (mOp2 dAdd (mOp2 dAdd (mOp2 q42 (mOp2 dMod (mVar 0) w1w) (mRet (.int 7368787))) (mOp2 q42 (mRet (.int 1000003)) (mVar 1))) (mRet (.int 17))) (mRet (.int 2305843009213693951))) mNil)))
def f_y33:List D->Option D:=runP true 2 2 qk1
theorem qrl:q1t 2 f_y33:=q1i
theorem qqr(T:Txt K mg a):FnOk P w K mg base CX0 1 a.f_y33 a.fd_y33 ["_law_cell","_law_k"] (spP K true 2 f_y33):=by
 refine T.F_y33.ok qph (λ_ _ _ _ h=>h.1) (λcdv A outer s H vs Q E hr h=>?_)
 ·refine⟨_,(q09 (q0t (q2c (q01 (q0u q2d (q0u (q1g (K:=K) rfl) (q0u (q1g (K:=K) rfl) (q0u (q3k (K:=K) rfl) (q0u q2d (pv 0) (q0u qc2 q06 q06)) q06) (q0u (q3k (K:=K) rfl) q06 (pv 1))) q06) q06) q05)))),?_⟩;exact q0x (O':=[]) (Nms:=["_law_cell","_law_k"]) (f:=qk1) (by unfold qk1;exact(qn6 rfl (q2f (q02 (q0e q2e (q0e q1y (q0e q1y (q0e q3l (q0e q2e (q03 (i:=0)) (q0e qc5 me_int me_int)) me_int) (q0e q3l me_int (q03 (i:=1)))) me_int) me_int) q08)) rfl)) h
def qk0:RhO:=
 (sSeq (q48 0 (mOp2 dMod (mOp2 dAdd (mOp2 q42 (mIxO 0 (mRet (.int 0))) (mRet (.int 1181783497276652981))) (mRet (.int 12345678910987))) (mRet (.int 2305843009213693951))) (mRet (.int 0)))
 (sRet (mOp2 dMod (mOp2 dDiv (mIxO 0 (mRet (.int 0))) (mRet (.int 65537))) (mVar 1))))
def f_y34:List D->List D->Option (D×List D):=runS false 2 2 qk0
theorem q9t:qi6 2 f_y34:=qkp
theorem ql0(T:Txt K mg a):FnOk P w K mg base CX0 1 a.f_y34 a.fd_y34 w24 (spS K false 2 f_y34):=by
 refine T.F_y34.ok qpg (λ_ _ _ _ h=>h.1) (λcdv A outer s H vs Q E hr h=>?_)
 ·refine⟨_,(q07 (q72 (q0u q2d (q0u (q1g (K:=K) rfl) (q0u (q3k (K:=K) rfl) (q1a (q0f (K:=K) rfl) (pv 0) q06) q06) q06) q06) (q9n (pv 0) q06 set_list)) (q09 (q0t (q0u q2d (q0u q5f (q1a (q0f (K:=K) rfl) (pv 0) q06) q06) (pv 1))))),?_⟩;exact qbm (O':=[]) (Nms:=w24) (f:=qk0) (by unfold qk0;exact(q0h (O1:=[0]) (q8u (by decide) (q0e q2e (q0e q1y (q0e q3l (q9w (i:=0) (by decide) me_int) me_int) me_int) me_int) me_int rfl) (q17 rfl (q0e q2e (q0e q79 (q9w (i:=0) (by decide) me_int) me_int) (q03 (i:=1))) rfl))) h
abbrev w1j:=(q00 (mOp2 dAdd (mRet (.int 1)) (q1w f_y34 0 (q00 (mRet (.int 4)) mNil))) mNil)
abbrev w1i:=(q00 (mOp2 dAdd (mRet (.int 1)) (q1w f_y34 0 (q00 (mRet (.int 6)) mNil))) mNil)
abbrev w1h:=(sRet (mTup (q00 (mVar 3) (q00 (mOp1 q4h (mVar 4)) (q00 (mOp1 q4h (mVar 5)) (q00 (mOp2 dIx (mVar 2) (q1w f_y34 0 (q00 (mOp1 dLen (mVar 2)) mNil))) mNil))))))
abbrev w0j:=(q00 (mVar 1) (q00 (mOp2 dIx (mOf (mLst (q00 (mRet (.int 0)) (q00 (mRet (.int 1)) (q00 (mRet (.int 2)) (q00 (mRet (.int 2)) (q00 (mRet (.int 3)) (q00 (mRet (.int 1)) (q00 (mRet (.int 2)) (q00 (mRet (.int 3)) (q00 (mRet (.int 4)) mNil))))))))))) (q1w f_y34 0 (q00 (mRet (.int 9)) mNil))) mNil))
abbrev w3a:=(mOp2 dGt (q1w f_y34 1 (q00 (mRet (.int 4)) mNil)) (mRet (.int 0)))
abbrev w0d:=(sMut q2l 5 (q00 (mOp1 q4h (mOf (q20 1 [0] (some (0,1)) (mSeq (mVar 4)) (gSet 0) (mRet true) (mOp1 dInt w3a)))) mNil))
def qhn:RhO:=
 (sSeq (sSet 3 (mMM (λi j=>if j<i then j else i) w0j))
 (sSeq (sSet 4 (mOf (q20 1 [0,3] (some (0,1)) (q3c w1j) (gSet 0) (mRet true) (q1w f_y34 1 (q00 (mOp2 dShl (mRet (.int 2)) (mVar 2)) mNil)))))
 (sSeq (sOwn 5 (mLst mNil))
 (sSeq (sFor (q3c w1i) (gSet 6)
   w0d)
 w1h))))
def f_y35:List D->List D->Option (D×List D):=runS false 3 7 qhn
theorem qug:qi6 3 f_y35:=qkp
abbrev w3x:List Str:=["_law_k","_law_state_here","_law_reach"]
theorem qqq(T:Txt K mg a):FnOk P w K mg base CX0 2 a.f_y35 a.fd_y35 w2n (spS K false 3 f_y35):=by
 have G_y34:=@ql0 P w K mg base a T;refine T.F_y35.ok sc_y35 (λ_ _ _ _ h=>h.1) (λcdv A outer s H vs Q E hr h=>?_)
 ·refine⟨_,(q07 (zsA 3 sc_y35.nd (q11 (qhh rfl) (by rfl) T.z_min (by rfl) (q01 (pv 1) (q01 (q1a (q0f (K:=K) rfl) (q2c (q01 q06 (q01 q06 (q01 q06 (q01 q06 (q01 q06 (q01 q06 (q01 q06 (q01 q06 (q01 q06 q05)))))))))) (q0g G_y34 hr.m (by rfl) T.mg_y34 T.F_y34.kp T.B_y34 .nil q1f (q01 (pv 0) (q01 q06 q05)))) q05)))) (q07 (q61 (k:=4) (sc:=q04 qat) (N0:=w0q) rfl rfl rfl (show q21 _ _ w3x 1 [0,3] _=true by decide+kernel) sc_y35.nd rfl (Or.inl rfl) (q1s (by rfl) T.z_range (q01 (q0u (q1g (K:=K) rfl) q06 (q0g G_y34 hr.m (by rfl) T.mg_y34 T.F_y34.kp T.B_y34 .nil q1f (q01 (pv 0) (q01 q06 q05)))) q05)) (λ_ _ _ _ _=>(q0l (i:=0) (show List.Nodup (w3x:List Str)from(by decide+kernel)) rfl (Or.inl rfl))) (q1x (by decide)) (λ_ _ _ _ _=>q2p) (λ_ _ _ _ _=>(q0g G_y34 hr.m (by rfl) T.mg_y34 T.F_y34.kp T.B_y34 .nil q1f (q01 (pv 1) (q01 (q0u q9p q06 (pv 2)) q05))))) (q07 (zsA 5 sc_y35.nd (q2c q05)) (q07 (q2m jy rfl (q1s (by rfl) T.z_range (q01 (q0u (q1g (K:=K) rfl) q06 (q0g G_y34 hr.m (by rfl) T.mg_y34 T.F_y34.kp T.B_y34 .nil q1f (q01 (pv 0) (q01 q06 q05)))) q05)) (zgA 6 sc_y35.nd) (q09 (q4b (qb2 PySem.F.plainAttrs_list PySem.F.slot_list_append PySem.F.type_list_append q3x (pv 5) (q01 (q37 (q3n (K:=K) rfl) (by rfl) T.z_tuple (by rfl) (q01 (q2v (sc:=q04 qat) (N0:=w0q) rfl rfl rfl (show q21 _ _ ["_law_tap","_law_state_here"] 1 [0] _=true by decide+kernel) (q2k (K:=K) rfl (pv 4)) (λ_ _ _ _ _=>(q0l (i:=0) (show List.Nodup (["_law_tap","_law_state_here"]:List Str)from(by decide+kernel)) rfl (Or.inl rfl))) (q1x (by decide)) (λ_ _ _ _ _=>q2p) (λ_ _ _ _ _=>(q37 qaf (by rfl) T.z_int (by rfl) (q01 (qb1 qmh (q0g G_y34 hr.m (by rfl) T.mg_y34 T.F_y34.kp T.B_y34 .nil q1f (q01 (pv 1) (q01 q06 q05))) q06 (q18 _)) q05)))) q05)) q05))))) (q09 (q0t (q2t (q01 (pv 3) (q01 (q37 (q3n (K:=K) rfl) (by rfl) T.z_tuple (by rfl) (q01 (pv 4) q05)) (q01 (q37 (q3n (K:=K) rfl) (by rfl) T.z_tuple (by rfl) (q01 (pv 5) q05)) (q01 (q1a (q0f (K:=K) rfl) (pv 2) (q0g G_y34 hr.m (by rfl) T.mg_y34 T.F_y34.kp T.B_y34 .nil q1f (q01 (pv 0) (q01 (q11 (q1e (K:=K) rfl) (by rfl) T.z_len (by rfl) (q01 (pv 2) q05)) q05)))) q05))))))))))),?_⟩;exact qbm (O':=[]) (Nms:=w0q) (f:=qhn) (by unfold qhn;exact(q0h (O1:=[0]) (q16 (qry (q02 (q03 (i:=1)) (q02 (q0e q1b (q1p (q2f (q02 me_int (q02 me_int (q02 me_int (q02 me_int (q02 me_int (q02 me_int (q02 me_int (q02 me_int (q02 me_int q08))))))))))) (q3g (i:=0) q9t (by decide) (q02 me_int q08))) q08)))) (q0h (O1:=[0]) (q8v (q28 (bw:=(some (0,1))) (q1v (q02 (q0e q1y me_int (q3g (i:=0) q9t (by decide) (q02 me_int q08))) q08)) (q0o (i:=0)) q3w (q3g (i:=1) q9t (by decide) (q02 (q0e q9r me_int (q03 (i:=2))) q08))) rfl (by decide)) (q0h (O1:=[0,5]) (q4g (q2f q08) rfl) (q0h (O1:=[0]) (qg8 (q2y (O':=[0,5]) (q1v (q02 (q0e q1y me_int (q3g (i:=0) q9t (by decide) (q02 me_int q08))) q08)) rfl (q0o (i:=6)) (qcd q5o (by decide) (q02 (q5r q5z (q1p (q28 (bw:=(some (0,1))) (q38 (q03 (i:=4))) (q0o (i:=0)) q3w (q19 qln (q15 q7s (q3g (i:=1) q9t (by decide) (q02 me_int q08)) me_int.mb).mb)))) q08) rfl)) rfl) (q17 rfl (q39 (q02 (q03 (i:=3)) (q02 (q5r q5z (q03 (i:=4))) (q02 (q5r q5z (q03 (i:=5))) (q02 (q0e q1b (q03 (i:=2)) (q3g (i:=0) q9t (by decide) (q02 (q19 q2j q1z) q08))) q08))))) rfl)))))) h
abbrev w0i:=(sSeq (sSet 1 (mOp2 dMod (mOp2 dAdd (mVar 1) (mOp2 dMod (mVar 0) (mRet (.int 2)))) (mRet (.int 2)))) (sSet 0 (mOp2 dDiv (mVar 0) (mRet (.int 2)))))
abbrev w2x:=(q0b (mOp2 dGt (mVar 0) (mRet (.int 0))))
def qjz:RhO:=
 (sSeq (sSet 1 (mRet (.int 0)))
 (sSeq (q2b w2x
   w0i 1000)
 (sRet (mVar 1))))
def f_y36:List D->Option D:=runP false 1 2 qjz
theorem quf:q1t 1 f_y36:=q1i
theorem qqp(T:Txt K mg a):FnOk P w K mg base CX0 1 a.f_y36 a.fd_y36 ["_law_number"] (spP K false 1 f_y36):=by
 refine T.F_y36.ok sc_y36 (λ_ _ _ _ h=>h.1) (λcdv A outer s H vs Q E hr h=>?_)
 ·refine⟨_,(q07 (zsA 1 sc_y36.nd q06) (q07 (qbu jy (q0v qmh (pv 0) q06 (q18 _)) (q07 (zsA 1 sc_y36.nd (q0u q2d (q0u (q1g (K:=K) rfl) (pv 1) (q0u q2d (pv 0) q06)) q06)) (q09 (zsA 0 sc_y36.nd (q0u q5f (pv 0) q06))))) (q09 (q0t (pv 1))))),?_⟩;exact q0x (O':=[]) (Nms:=["_law_number","_law_odd_here"]) (f:=qjz) (by unfold qjz;exact(q0h (O1:=[]) (q16 me_int) (q0h (O1:=[]) (qca (O':=[]) (q0s (q15 q7s (q03 (i:=0)) me_int.mb)) rfl (q0h (O1:=[]) (q16 (q0e q2e (q0e q1y (q03 (i:=1)) (q0e q2e (q03 (i:=0)) me_int)) me_int)) (q16 (q0e q79 (q03 (i:=0)) me_int)))) (q17 rfl (q03 (i:=1)) rfl)))) h
abbrev w2c:=(mOp2 dEq (mOp2 dIx (mVar 2) (mVar 0)) (mRet (.int 1)))
abbrev w29:=(mOp2 dAdd (mOp2 q42 (mRet (.int 2)) (mVar 2)) (mVar 3))
abbrev w1y:=(sSet 6 (mOp2 dIx (mOp2 dIx (mVar 0) (mRet (.int 2))) (mOp2 dMod (mVar 1) (mOp1 dLen (mOp2 dIx (mVar 0) (mRet (.int 2)))))))
def qon:RhO:=
 (sSeq (sSet 4 w29)
 (sSeq (sSet 5 (mOf (q20 1 [4] none w2u (gSet 0) (mRet true) (q0i f_y36 w1k))))
 (sSeq w1y
 (sRet (mTup (q00 (mOp2 dMod (mVar 4) (mOp2 dShl (mRet (.int 1)) (mOp2 dIx (mVar 0) (mRet (.int 0))))) (q00 (mOf (q20 1 [5,6] none (q3c (q00 (mOp1 dLen (mVar 5)) mNil)) (gSet 0) (q0b w2c) (mOp2 dIx (mVar 1) (mVar 0)))) mNil)))))))
def f_y37:List D->Option D:=runP false 4 7 qon
theorem qrk:q1t 4 f_y37:=q1i
abbrev w46:List Str:=["_law_k","_law_signs","_law_line"]
theorem qkz(T:Txt K mg a):FnOk P w K mg base CX0 2 a.f_y37 a.fd_y37 w27 (spP K false 4 f_y37):=by
 have G_y36:=@qqp P w K mg base a T;refine T.F_y37.ok sc_y37 (λ_ _ _ _ h=>h.1) (λcdv A outer s H vs Q E hr h=>?_)
 ·refine⟨_,(q07 (zsA 4 sc_y37.nd (q0u (q1g (K:=K) rfl) (q0u (q3k (K:=K) rfl) q06 (pv 2)) (pv 3))) (q07 (zsA 5 sc_y37.nd (q2v (sc:=q04 qas) (N0:=w0o) rfl rfl rfl (show q21 _ _ ["_law_tap","_law_both"] 1 [4] _=true by decide+kernel) (q2k (K:=K) rfl (q1a (q0f (K:=K) rfl) (pv 0) q06)) (λ_ _ _ _ _=>(q0l (i:=0) (show List.Nodup (["_law_tap","_law_both"]:List Str)from(by decide+kernel)) rfl (Or.inl rfl))) (q1x (by decide)) (λ_ _ _ _ _=>q2p) (λ_ _ _ _ _=>(q0g G_y36 hr.m (by rfl) T.mg_y36 T.F_y36.kp T.B_y36 .nil q1f (q01 (q0u qfx (pv 1) (pv 0)) q05))))) (q07 (zsA 6 sc_y37.nd (q1a (q0f (K:=K) rfl) (q1a (q0f (K:=K) rfl) (pv 0) q06) (q0u q2d (pv 1) (q11 (q1e (K:=K) rfl) (by rfl) T.z_len (by rfl) (q01 (q1a (q0f (K:=K) rfl) (pv 0) q06) q05))))) (q09 (q0t (q2t (q01 (q0u q2d (pv 4) (q0u q9p q06 (q1a (q0f (K:=K) rfl) (pv 0) q06))) (q01 (q2v (sc:=q04 qas) (N0:=w0o) rfl rfl rfl (show q21 _ _ w46 1 [5,6] _=true by decide+kernel) (q1s (by rfl) T.z_range (q01 (q11 (q1e (K:=K) rfl) (by rfl) T.z_len (by rfl) (q01 (pv 5) q05)) q05)) (λ_ _ _ _ _=>(q0l (i:=0) (show List.Nodup (w46:List Str)from(by decide+kernel)) rfl (Or.inl rfl))) (q1x (by decide)) (λ_ _ _ _ _=>(q74 (q0v (q2w (K:=K) rfl hr.units) (q1a (q0f (K:=K) rfl) (pv 2) (pv 0)) q06 (q18 _)))) (λ_ _ _ _ _=>(q1a (q0f (K:=K) rfl) (pv 1) (pv 0)))) q05)))))))),?_⟩;exact q0x (O':=[]) (Nms:=w0o) (f:=qon) (by unfold qon;exact(q0h (O1:=[]) (q16 (q0e q1y (q0e q3l me_int (q03 (i:=2))) (q03 (i:=3)))) (q0h (O1:=[]) (q16 (q1p (q28 (bw:=none) (q38 (q0e q1b (q03 (i:=0)) me_int)) (q0o (i:=0)) q3w (q0n quf (q02 (q0e qg0 (q03 (i:=1)) (q03 (i:=0))) q08))))) (q0h (O1:=[]) (q16 (q0e q1b (q0e q1b (q03 (i:=0)) me_int) (q0e q2e (q03 (i:=1)) (q19 q2j (q0e q1b (q03 (i:=0)) me_int).mb)))) (q17 rfl (q39 (q02 (q0e q2e (q03 (i:=4)) (q0e q9r me_int (q0e q1b (q03 (i:=0)) me_int))) (q02 (q1p (q28 (bw:=none) (q1v (q02 (q19 q2j q1z) q08)) (q0o (i:=0)) (q0s (q15 os_eq (q0e q1b (q03 (i:=2)) (q03 (i:=0))) me_int.mb)) (q0e q1b (q03 (i:=1)) (q03 (i:=0))))) q08))) rfl))))) h
def qjy:RhO:=
 (sSeq (sSet 2 (mRet (.int 0)))
 (sSeq (sIf (q0b w3b)
   (sFor (mSeq (mVar 1)) (gSet 3)
   (sSet 2 (mOp2 dMod w29 (mOp2 dShl (mRet (.int 1)) (mOp2 dIx (mVar 0) (mRet (.int 0)))))))
   sNil)
 (sRet (mVar 2))))
def f_y38:List D->Option D:=runP false 2 4 qjy
theorem que:q1t 2 f_y38:=q1i
theorem qqo(T:Txt K mg a):FnOk P w K mg base CX0 1 a.f_y38 a.fd_y38 w1l (spP K false 2 f_y38):=by
 refine T.F_y38.ok sc_y38 (λ_ _ _ _ h=>h.1) (λcdv A outer s H vs Q E hr h=>?_)
 ·refine⟨_,(q07 (zsA 2 sc_y38.nd q06) (q07 (q2r (q0v (q2w (K:=K) rfl hr.units) (q1a (q0f (K:=K) rfl) (pv 0) q06) q2u (q18 _)) (q09 (q2m jy rfl (q2k (K:=K) rfl (pv 1)) (zgA 3 sc_y38.nd) (q09 (zsA 2 sc_y38.nd (q0u q2d (q0u (q1g (K:=K) rfl) (q0u (q3k (K:=K) rfl) q06 (pv 2)) (pv 3)) (q0u q9p q06 (q1a (q0f (K:=K) rfl) (pv 0) q06))))))) q1m) (q09 (q0t (pv 2))))),?_⟩;exact q0x (O':=[]) (Nms:=w3h) (f:=qjy) (by unfold qjy;exact(q0h (O1:=[]) (q16 me_int) (q0h (O1:=[]) (q33 (q0s (q15 os_eq (q0e q1b (q03 (i:=0)) me_int) me_str.mb)) (q2y (O':=[]) (q38 (q03 (i:=1))) rfl (q0o (i:=3)) (q16 (q0e q2e (q0e q1y (q0e q3l me_int (q03 (i:=2))) (q03 (i:=3))) (q0e q9r me_int (q0e q1b (q03 (i:=0)) me_int))))) (q27 rfl)) (q17 rfl (q03 (i:=2)) rfl)))) h
abbrev w0k:=(sAsg (q0i f_y37 (q00 (mVar 0) (q00 (mVar 5) (q00 (mVar 3) (q00 (mOp2 dIx (mVar 2) (mVar 5)) mNil))))) (q1n 2 (q0c (gSet 3) (q0c (gSet 6) q1o))))
abbrev w1t:=(sIf w0l (sSet 2 (mOp2 dAdd (mVar 2) (mOf (mRep (mLst (q00 (mRet (.int 0)) mNil)) (mOp2 dIx (mVar 0) (mRet (.int 0))))))) sNil)
abbrev w3n:=(sSeq w0k (sOwn 4 (q9y qac (mVar 4) (mVar 6))))
abbrev w3i:=(sSet 3 (q0i f_y38 (q00 (mVar 0) (q00 (mVar 1) mNil))))
def qom:RhO:=
 (sSeq (sSet 2 (mOf (qgh dSeq (mVar 1))))
 (sSeq w1t
 (sSeq w3i
 (sSeq (sOwn 4 (mLst mNil))
 (sSeq (sFor (q3c (q00 (mOp1 dLen (mVar 2)) mNil)) (gSet 5)
   w3n)
 (q5b 4))))))
def f_y39:List D->Option D:=runP true 2 7 qom
theorem qud:q1t 2 f_y39:=q1i
theorem qqn(T:Txt K mg a):FnOk P w K mg base CX0 3 a.f_y39 a.fd_y39 w1l (spP K true 2 f_y39):=by
 have G_y38:=@qqo P w K mg base a T;have G_y37:=@qkz P w K mg base a T;refine T.F_y39.ok sc_y39 (λ_ _ _ _ h=>h.1) (λcdv A outer s H vs Q E hr h=>?_)
 ·refine⟨_,(q07 (zsA 2 sc_y39.nd (q37 (qe0 (K:=K) rfl) (by rfl) T.z_list (by rfl) (q01 (pv 1) q05))) (q07 (q2r (q0v (q2w (K:=K) rfl hr.units) (q1a (q0f (K:=K) rfl) (pv 0) q06) q2u (q18 _)) (q09 (zsA 2 sc_y39.nd (q0u (q1g (K:=K) rfl) (pv 2) (q0u qc1 (q2c (q01 q06 q05)) (q1a (q0f (K:=K) rfl) (pv 0) q06))))) q1m) (q07 (zsA 3 sc_y39.nd (q0g G_y38 hr.m (by rfl) T.mg_y38 T.F_y38.kp T.B_y38 .nil q1f (q01 (pv 0) (q01 (pv 1) q05)))) (q07 (zsA 4 sc_y39.nd (q2c q05)) (q07 (q2m jy rfl (q1s (by rfl) T.z_range (q01 (q11 (q1e (K:=K) rfl) (by rfl) T.z_len (by rfl) (q01 (pv 2) q05)) q05)) (zgA 5 sc_y39.nd) (q07 (q72 (q0g G_y37 hr.m (by rfl) T.mg_y37 T.F_y37.kp T.B_y37 .nil q1f (q01 (pv 0) (q01 (pv 5) (q01 (pv 3) (q01 (q1a (q0f (K:=K) rfl) (pv 2) (pv 5)) q05))))) (q32 (K:=K) rfl rfl (q1c (zgA 3 sc_y39.nd) (q1c (zgA 6 sc_y39.nd) q31)))) (q09 (zsA 4 sc_y39.nd (q0u (q1g (K:=K) rfl) (pv 4) (pv 6)))))) (q09 (q0t (pv 4)))))))),?_⟩;exact q0x (O':=[]) (Nms:=w2j) (f:=qom) (by unfold qom;exact(q0h (O1:=[]) (q16 (q1p (qix qoc (q03 (i:=1))))) (q0h (O1:=[]) (q33 (q0s (q15 os_eq (q0e q1b (q03 (i:=0)) me_int) me_str.mb)) (q16 (q0e q1y (q03 (i:=2)) (q1p (q9v (q2f (q02 me_int q08)) (q0e q1b (q03 (i:=0)) me_int))))) (q27 rfl)) (q0h (O1:=[]) (q16 (q0n que (q02 (q03 (i:=0)) (q02 (q03 (i:=1)) q08)))) (q0h (O1:=[4]) (q4g (q2f q08) rfl) (q0h (O1:=[4]) (q2y (O':=[4]) (q1v (q02 (q19 q2j q1z) q08)) rfl (q0o (i:=5)) (q0h (O1:=[]) (qla (q0n qrk (q02 (q03 (i:=0)) (q02 (q03 (i:=5)) (q02 (q03 (i:=3)) (q02 (q0e q1b (q03 (i:=2)) (q03 (i:=5))) q08))))) rfl (q3y (q1d (q0o (i:=3)) (q1d (q0o (i:=6)) q34)))) (q4g (qru qkw (q03 (i:=4)) (q03 (i:=6))) rfl))) (q65 rfl (by first|decide|simp) rfl (by first|decide|simp)))))))) h
abbrev w1m:=(sIf (q0b (mOp2 dEq (mVar 4) (mRet (.int 4)))) (sRet (mTup (q00 (mRet (.str "clear")) (q00 (mOp2 dSub (mRet (.int 1)) (mVar 2)) mNil)))) sNil)
abbrev w1c:=(sRet (mTup (q00 (mRet (.str "soft")) (q00 (mOp2 dMod (mOp2 dDiv (mVar 3) (mRet (.int 9))) (mRet (.int 4))) (q00 (mOp2 dMod (mOp2 dDiv (mVar 3) (mRet (.int 36))) (mRet (.int 4))) mNil)))))
abbrev w0w:=(sSet 3 (mOp2 dMod (mOp2 q42 (mOp2 dAdd (mOp2 dAdd (mOp2 dMod (mVar 0) (mOp2 dPow (mRet (.int 10)) (mRet (.int 18)))) (mRet (.int 1))) (mOp2 q42 (mOp2 q42 (mVar 1) (mVar 1)) (mRet (.int 104729)))) (mRet (.int 742938285))) (mRet (.int 2147483647))))
abbrev w2f:=(q00 (mOp2 dSub (mOp2 dMod (mOp2 dDiv (mVar 3) (mRet (.int 9))) (mRet (.int 3))) (mRet (.int 1))) mNil)
abbrev w2e:=(sIf (q0b (mOp2 dEq (mVar 4) (mRet (.int 5)))) (sRet (mTup (q00 (mRet (.str "gap")) mNil))) sNil)
abbrev w21:=(mOp2 dSub (mRet (.int 1)) (mOp2 q42 (mRet (.int 2)) (mOp2 dMod (mOp2 dDiv (mVar 3) (mRet (.int 27))) (mRet (.int 2)))))
abbrev w3y:=(q0b (mOp2 dLt (mVar 4) (mRet (.int 4))))
abbrev w20:=(sIf w3y (sRet (mTup (q00 (mRet (.str "clear")) (q00 (mVar 2) mNil)))) sNil)
abbrev w3z:=(q0b (mOp2 dEq (mVar 4) (mRet (.int 6))))
abbrev w3r:=(sSet 4 (mOp2 dMod (mVar 3) (mRet (.int 9))))
def qol:RhO:=
 (sSeq w0w
 (sSeq w3r
 (sSeq w20
 (sSeq w1m
 (sSeq w2e
 (sSeq (sIf w3z
   (sRet (mTup (q00 (mRet (.str "soft")) (q00 (mOp2 q42 (mOp2 dMod (mVar 0) w1w) w21) w2f))))
   sNil)
 w1c))))))
def f_y40:List D->Option D:=runP false 3 5 qol
theorem quc:q1t 3 f_y40:=q1i
theorem qql(T:Txt K mg a):FnOk P w K mg base CX0 1 a.f_y40 a.fd_y40 w3c (spP K false 3 f_y40):=by
 refine T.F_y40.ok sc_y40 (λ_ _ _ _ h=>h.1) (λcdv A outer s H vs Q E hr h=>?_)
 ·refine⟨_,(q07 (zsA 3 sc_y40.nd (q0u q2d (q0u (q3k (K:=K) rfl) (q0u (q1g (K:=K) rfl) (q0u (q1g (K:=K) rfl) (q0u q2d (pv 0) (q0u qc2 q06 q06)) q06) (q0u (q3k (K:=K) rfl) (q0u (q3k (K:=K) rfl) (pv 1) (pv 1)) q06)) q06) q06)) (q07 (zsA 4 sc_y40.nd (q0u q2d (pv 3) q06)) (q07 (q2r (q0v qio (pv 4) q06 (q18 _)) (q09 (q0t (q2t (q01 q2u (q01 (pv 2) q05))))) q1m) (q07 (q2r (q0v (q2w (K:=K) rfl hr.units) (pv 4) q06 (q18 _)) (q09 (q0t (q2t (q01 q2u (q01 (q0u q9o q06 (pv 2)) q05))))) q1m) (q07 (q2r (q0v (q2w (K:=K) rfl hr.units) (pv 4) q06 (q18 _)) (q09 (q0t (q2t (q01 q2u q05)))) q1m) (q07 (q2r (q0v (q2w (K:=K) rfl hr.units) (pv 4) q06 (q18 _)) (q09 (q0t (q2t (q01 q2u (q01 (q0u (q3k (K:=K) rfl) (q0u q2d (pv 0) (q0u qc2 q06 q06)) (q0u q9o q06 (q0u (q3k (K:=K) rfl) q06 (q0u q2d (q0u q5f (pv 3) q06) q06)))) (q01 (q0u q9o (q0u q2d (q0u q5f (pv 3) q06) q06) q06) q05)))))) q1m) (q09 (q0t (q2t (q01 q2u (q01 (q0u q2d (q0u q5f (pv 3) q06) q06) (q01 (q0u q2d (q0u q5f (pv 3) q06) q06) q05)))))))))))),?_⟩;exact q0x (O':=[]) (Nms:=w3f) (f:=qol) (by unfold qol;exact(q0h (O1:=[]) (q16 (q0e q2e (q0e q3l (q0e q1y (q0e q1y (q0e q2e (q03 (i:=0)) (q0e qc5 me_int me_int)) me_int) (q0e q3l (q0e q3l (q03 (i:=1)) (q03 (i:=1))) me_int)) me_int) me_int)) (q0h (O1:=[]) (q16 (q0e q2e (q03 (i:=3)) me_int)) (q0h (O1:=[]) (q33 (q0s (q15 q7s (q03 (i:=4)) me_int.mb)) (q17 rfl (q39 (q02 me_str (q02 (q03 (i:=2)) q08))) rfl) (q27 rfl)) (q0h (O1:=[]) (q33 (q0s (q15 os_eq (q03 (i:=4)) me_int.mb)) (q17 rfl (q39 (q02 me_str (q02 (q0e q9q me_int (q03 (i:=2))) q08))) rfl) (q27 rfl)) (q0h (O1:=[]) (q33 (q0s (q15 os_eq (q03 (i:=4)) me_int.mb)) (q17 rfl (q39 (q02 me_str q08)) rfl) (q27 rfl)) (q0h (O1:=[]) (q33 (q0s (q15 os_eq (q03 (i:=4)) me_int.mb)) (q17 rfl (q39 (q02 me_str (q02 (q0e q3l (q0e q2e (q03 (i:=0)) (q0e qc5 me_int me_int)) (q0e q9q me_int (q0e q3l me_int (q0e q2e (q0e q79 (q03 (i:=3)) me_int) me_int)))) (q02 (q0e q9q (q0e q2e (q0e q79 (q03 (i:=3)) me_int) me_int) me_int) q08)))) rfl) (q27 rfl)) (q17 rfl (q39 (q02 me_str (q02 (q0e q2e (q0e q79 (q03 (i:=3)) me_int) me_int) (q02 (q0e q2e (q0e q79 (q03 (i:=3)) me_int) me_int) q08)))) rfl)))))))) h
abbrev w1g:=(q00 (mRet (.int 1)) (q00 (mOp2 dSub (mOp1 dLen (mVar 0)) (mRet (.int 2))) mNil))
abbrev w3d:=(q5t (mOf (q25 f_y39 (q00 (mVar 1) (q00 (mVar 2) mNil)))))
def qok:RhO:=
 (sSeq (sOwn 3 (mLst mNil))
 (sSeq (sFor w3d (q1n 2 (q0c (gSet 4) (q0c (gSet 5) q1o)))
   (sMut q2l 3 (q00 (q0i f_y40 (q00 (q0i f_y32 (q00 (mVar 0) (q00 (mOp2 dAdd (mRet (.int 2)) (mOp2 dMod (mVar 4) (mMM (λi j=>if j>i then j else i) w1g))) mNil))) (q00 (mVar 4) (q00 (mVar 5) mNil)))) mNil)))
 (q5b 3)))
def f_y41:List D->Option D:=runP true 3 6 qok
theorem qub:q1t 3 f_y41:=q1i
theorem qqk(T:Txt K mg a):FnOk P w K mg base CX0 4 a.f_y41 a.fd_y41 w2o (spP K true 3 f_y41):=by
 have G_y39:=@qqn P w K mg base a T;have G_y32:=@ql1 P w K mg base a T;have G_y40:=@qql P w K mg base a T;refine T.F_y41.ok sc_y41 (λ_ _ _ _ h=>h.1) (λcdv A outer s H vs Q E hr h=>?_)
 ·refine⟨_,(q07 (zsA 3 sc_y41.nd (q2c q05)) (q07 (q2m jy rfl (q8r (K:=K) rfl (by rfl) T.z_enumerate (q0g G_y39 hr.m (by rfl) T.mg_y39 T.F_y39.kp T.B_y39 .nil q1f (q01 (pv 1) (q01 (pv 2) q05)))) (q32 (K:=K) rfl rfl (q1c (zgA 4 sc_y41.nd) (q1c (zgA 5 sc_y41.nd) q31))) (q09 (q4b (qb2 PySem.F.plainAttrs_list PySem.F.slot_list_append PySem.F.type_list_append q3x (pv 3) (q01 (q0g G_y40 hr.m (by rfl) T.mg_y40 T.F_y40.kp T.B_y40 .nil q1f (q01 (q0g G_y32 hr.m (by rfl) T.mg_y32 T.F_y32.kp T.B_y32 .nil q1f (q01 (pv 0) (q01 (q0u (q1g (K:=K) rfl) q06 (q0u q2d (pv 4) (q11 (qhi rfl) (by rfl) T.z_max (by rfl) (q01 q06 (q01 (q0u q9o (q11 (q1e (K:=K) rfl) (by rfl) T.z_len (by rfl) (q01 (pv 0) q05)) q06) q05))))) q05))) (q01 (pv 4) (q01 (pv 5) q05)))) q05))))) (q09 (q0t (pv 3))))),?_⟩;exact q0x (O':=[]) (Nms:=w2v) (f:=qok) (by unfold qok;exact(q0h (O1:=[3]) (q4g (q2f q08) rfl) (q0h (O1:=[3]) (q2y (O':=[3]) (q8x (q1p (q3p qud (q02 (q03 (i:=1)) (q02 (q03 (i:=2)) q08))))) rfl (q3y (q1d (q0o (i:=4)) (q1d (q0o (i:=5)) q34))) (qcd q5o (by decide) (q02 (q0n quc (q02 (q0n qmv (q02 (q03 (i:=0)) (q02 (q0e q1y me_int (q0e q2e (q03 (i:=4)) (qry (q02 me_int (q02 (q0e q9q (q19 q2j q1z) me_int) q08))))) q08))) (q02 (q03 (i:=4)) (q02 (q03 (i:=5)) q08)))) q08) rfl)) (q65 rfl (by first|decide|simp) rfl (by first|decide|simp))))) h
def qe1:RhO:=
 (sSeq (sIf w36
   (sRet (mOp1 dInt (mOp2 dNe (mOp2 dIx (mVar 0) (mRet (.int 1))) (mVar 1))))
   sNil)
 (sSeq (sIf w38
   (sRet (mRet (.int 0)))
   sNil)
 (sRet (mOp2 dIx (mVar 0) (mOp2 dAdd (mRet (.int 1)) (mVar 1))))))
def f_y42:List D->Option D:=runP false 2 2 qe1
theorem qua:q1t 2 f_y42:=q1i
theorem qqj(T:Txt K mg a):FnOk P w K mg base CX0 1 a.f_y42 a.fd_y42 ["_law_told","_law_bit"] (spP K false 2 f_y42):=by
 refine T.F_y42.ok qpf (λ_ _ _ _ h=>h.1) (λcdv A outer s H vs Q E hr h=>?_)
 ·refine⟨_,(q07 (q2r (q0v (q2w (K:=K) rfl hr.units) (q1a (q0f (K:=K) rfl) (pv 0) q06) q2u (q18 _)) (q09 (q0t (q37 qaf (by rfl) T.z_int (by rfl) (q01 (qb1 (q4f (K:=K) rfl hr.units) (q1a (q0f (K:=K) rfl) (pv 0) q06) (pv 1) (q18 _)) q05)))) q1m) (q07 (q2r (q0v (q2w (K:=K) rfl hr.units) (q1a (q0f (K:=K) rfl) (pv 0) q06) q2u (q18 _)) (q09 (q0t q06)) q1m) (q09 (q0t (q1a (q0f (K:=K) rfl) (pv 0) (q0u (q1g (K:=K) rfl) q06 (pv 1))))))),?_⟩;exact q0x (O':=[]) (Nms:=["_law_told","_law_bit"]) (f:=qe1) (by unfold qe1;exact(q0h (O1:=[]) (q33 (q0s (q15 os_eq (q0e q1b (q03 (i:=0)) me_int) me_str.mb)) (q17 rfl (q19 qln (q15 q63 (q0e q1b (q03 (i:=0)) me_int) q1z).mb) rfl) (q27 rfl)) (q0h (O1:=[]) (q33 (q0s (q15 os_eq (q0e q1b (q03 (i:=0)) me_int) me_str.mb)) (q17 rfl me_int rfl) (q27 rfl)) (q17 rfl (q0e q1b (q03 (i:=0)) (q0e q1y me_int (q03 (i:=1)))) rfl)))) h
def qjx:RhO:=
 (sRet (qbb (mOp1 (dIsi (q54 "int")) (mVar 0)) (qj2 (mOp1 (dIsi (q54 "bool")) (mVar 0)))))
def f_y43:List D->Option D:=runP false 1 1 qjx
theorem qrj:q1t 1 f_y43:=q1i
theorem qky(T:Txt K mg a):FnOk P w K mg base CX0 1 a.f_y43 a.fd_y43 ["_law_found"] (spP K false 1 f_y43):=by
 refine T.F_y43.ok qpe (λ_ _ _ _ h=>h.1) (λcdv A outer s H vs Q E hr h=>?_)
 ·refine⟨_,(q09 (q0t (qkt (q11 (q60 (K:=K) rfl) (by rfl) T.z_isinstance (by rfl) (q01 (pv 0) (q01 (q76 (v:=.ty "int") (by rfl) T.z_int (by rfl) rfl) q05))) (qks (qq5 (q11 (q60 (K:=K) rfl) (by rfl) T.z_isinstance (by rfl) (q01 (pv 0) (q01 (q76 (v:=.ty "bool") (by rfl) T.z_bool (by rfl) rfl) q05)))))))),?_⟩;exact q0x (O':=[]) (Nms:=["_law_found"]) (f:=qjx) (by unfold qjx;exact(q17 rfl (qlc (q9x (qnf T) q1z) (qrx (q9x (qj8 T) q1z))) rfl)) h
abbrev w1d:=(qbb (q0i f_y43 (q00 (mVar 0) mNil)) (q82 dLe dLe (mRet (.int 0)) (mVar 0) (mRet (.int 1))))
abbrev w1s:=(mNot (q0b (mOp1 (dIsi (q54 "list")) (mVar 0))))
def qjw:RhO:=
 (sSeq (sIf (mOr w1s (q0b (mOp2 dNe (mOp1 dLen (mVar 0)) (mVar 1))))
   (sRet (mRet (.bl false)))
   sNil)
 (sRet (mOp1 dAll (mOf (q20 1 [] none (mSeq (mVar 0)) (gSet 0) (mRet true) w1d)))))
def f_y44:List D->Option D:=runP false 2 2 qjw
theorem qri:q1t 2 f_y44:=q1i
theorem qkx(T:Txt K mg a):FnOk P w K mg base CX0 2 a.f_y44 a.fd_y44 w23 (spP K false 2 f_y44):=by
 have G_y43:=@qky P w K mg base a T;refine T.F_y44.ok qpd (λ_ _ _ _ h=>h.1) (λcdv A outer s H vs Q E hr h=>?_)
 ·refine⟨_,(q07 (q2r (PW.pt (pw_or (q5n (q57 (q11 (q60 (K:=K) rfl) (by rfl) T.z_isinstance (by rfl) (q01 (pv 0) (q01 (q76 (v:=.ty "list") (by rfl) T.z_list (by rfl) rfl) q05))))) (pw_or1 (q0v (q4f (K:=K) rfl hr.units) (q11 (q1e (K:=K) rfl) (by rfl) T.z_len (by rfl) (q01 (pv 0) q05)) (pv 1) (q18 _))))) (q09 (q0t q62)) q1m) (q09 (q0t (q11 (qjv (K:=K) rfl rfl) (by rfl) T.z_all (by rfl) (q01 (q2v (sc:=q04 qd8) (N0:=w23) rfl rfl rfl (show q21 _ _ ["_law_bit"] 1 [] _=true by decide+kernel) (q2k (K:=K) rfl (pv 0)) (λ_ _ _ _ _=>(q0l (i:=0) (show List.Nodup (["_law_bit"]:List Str)from(by decide+kernel)) rfl (Or.inl rfl))) (q1x (by decide)) (λ_ _ _ _ _=>q2p) (λ_ _ _ _ _=>(qkt (q0g G_y43 hr.m (by rfl) T.mg_y43 T.F_y43.kp T.B_y43 .nil q1f (q01 (pv 0) q05)) (qks (qih qqb qqb q06 (pv 0) q06))))) q05))))),?_⟩;exact q0x (O':=[]) (Nms:=w23) (f:=qjw) (by unfold qjw;exact(q0h (O1:=[]) (q33 (q9u (q5p (q4q (q9x (qcg T) q1z))) (q0s (q15 q63 (q19 q2j q1z) q1z))) (q17 rfl q7c rfl) (q27 rfl)) (q17 rfl (q19 qtc (q1p (q28 (bw:=none) (q38 (q03 (i:=0))) (q0o (i:=0)) q3w (qlc (q0n qrj (q02 (q03 (i:=0)) q08)) (qj0 q7s q7s me_int (q03 (i:=0)) me_int)))).mb) rfl))) h
abbrev w0r:=w3o
abbrev w42:=(mZip (q00 (mVar 2) (q00 (mVar 8) mNil)))
abbrev w0b:=(sSet 9 (mOp1 dSum (mOf (q20 2 [] none w42 (q1n 2 (q0c (gSet 0) (q0c (gSet 1) q1o))) (mRet true) (q0i f_y42 (q00 (mVar 0) (q00 (mVar 1) mNil)))))))
abbrev w0a:=(sAsg (q0i f_y37 (q00 (mVar 0) (q00 (mVar 1) (q00 (mVar 5) (q00 (mVar 6) mNil))))) (q1n 2 (q0c (gSet 7) (q0c (gSet 8) q1o))))
abbrev w02:=(sSet 10 (mTup (q00 (mOp2 dAdd (mOp2 dIx (mOp2 dIx (mVar 3) (mVar 5)) (mRet (.int 0))) (mVar 9)) (q00 (mOp2 dAdd (mOp2 dIx (mOp2 dIx (mVar 3) (mVar 5)) (mRet (.int 1))) (mOf (mLst (q00 (mVar 6) mNil)))) mNil))))
def qoj:RhO:=
 (sSeq (sOwn 4 (q20 1 [] none (mSeq (mVar 3)) (gSet 0) (mRet true) (mRet .non)))
 (sSeq (sFor (q3c (q00 (mOp1 dLen (mVar 3)) mNil)) (gSet 5)
   (sFor (mSeq (mOf (mLst w0r))) (gSet 6)
   (sIf (q0b (mOp2 q2i (mOp2 dIx (mVar 3) (mVar 5)) (mRet .non)))
   (sSeq w0a (sSeq w0b (sSeq w02 (sIf (mOr (q0b (mOp2 dIsN (mIxO 4 (mVar 7)) (mRet .non))) (q0b (mOp2 dLtP (mVar 10) (mIxO 4 (mVar 7)))))
   (q48 4 (mVar 10) (mVar 7))
   sNil))))
   sNil)))
 (q5b 4)))
def f_y45:List D->Option D:=runP true 4 11 qoj
theorem qu9:q1t 4 f_y45:=q1i
theorem qqi(T:Txt K mg a):FnOk P w K mg base CX0 3 a.f_y45 a.fd_y45 w25 (spP K true 4 f_y45):=by
 have G_y37:=@qkz P w K mg base a T;have G_y42:=@qqj P w K mg base a T;refine T.F_y45.ok sc_y45 (λ_ _ _ _ h=>h.1) (λcdv A outer s H vs Q E hr h=>?_)
 ·refine⟨_,(q07 (q61 (k:=4) (sc:=q04 qar) (N0:=w07) rfl rfl rfl (show q21 _ _ ["_law_entry"] 1 [] _=true by decide+kernel) sc_y45.nd rfl (Or.inl rfl) (q2k (K:=K) rfl (pv 3)) (λ_ _ _ _ _=>(q0l (i:=0) (show List.Nodup (["_law_entry"]:List Str)from(by decide+kernel)) rfl (Or.inl rfl))) (q1x (by decide)) (λ_ _ _ _ _=>q2p) (λ_ _ _ _ _=>q3d)) (q07 (q2m jy rfl (q1s (by rfl) T.z_range (q01 (q11 (q1e (K:=K) rfl) (by rfl) T.z_len (by rfl) (q01 (pv 3) q05)) q05)) (zgA 5 sc_y45.nd) (q09 (q2m jy rfl (q2k (K:=K) rfl (q2c (q01 q06 (q01 q06 q05)))) (zgA 6 sc_y45.nd) (q09 (q2r (q0v q5e (q1a (q0f (K:=K) rfl) (pv 3) (pv 5)) q3d (q18 _)) (q07 (q72 (q0g G_y37 hr.m (by rfl) T.mg_y37 T.F_y37.kp T.B_y37 .nil q1f (q01 (pv 0) (q01 (pv 1) (q01 (pv 5) (q01 (pv 6) q05))))) (q32 (K:=K) rfl rfl (q1c (zgA 7 sc_y45.nd) (q1c (zgA 8 sc_y45.nd) q31)))) (q07 (zsA 9 sc_y45.nd (q11 (qct (K:=K) rfl rfl) (by rfl) T.z_sum (by rfl) (q01 (q2v (sc:=q04 qar) (N0:=w07) rfl rfl rfl (show q21 _ _ ["_law_told","_law_one"] 2 [] _=true by decide+kernel) (q5d (K:=K) rfl (by rfl) T.z_zip (q01 (pv 2) (q01 (pv 8) q05))) (λ_ _ _ _ _=>(q32 (K:=K) rfl rfl (q1c (q0l (i:=0) (show List.Nodup (["_law_told","_law_one"]:List Str)from(by decide+kernel)) rfl (Or.inl rfl)) (q1c (q0l (i:=1) (show List.Nodup (["_law_told","_law_one"]:List Str)from(by decide+kernel)) rfl (Or.inl rfl)) q31)))) (q8t (by decide) (by decide)) (λ_ _ _ _ _=>q2p) (λ_ _ _ _ _=>(q0g G_y42 hr.m (by rfl) T.mg_y42 T.F_y42.kp T.B_y42 .nil q1f (q01 (pv 0) (q01 (pv 1) q05))))) q05))) (q07 (zsA 10 sc_y45.nd (q2t (q01 (q0u (q1g (K:=K) rfl) (q1a (q0f (K:=K) rfl) (q1a (q0f (K:=K) rfl) (pv 3) (pv 5)) q06) (pv 9)) (q01 (q0u (q1g (K:=K) rfl) (q1a (q0f (K:=K) rfl) (q1a (q0f (K:=K) rfl) (pv 3) (pv 5)) q06) (q2c (q01 (pv 6) q05))) q05)))) (q09 (q2r (PW.pt (pw_or (q0v qfw (q1a (q0f (K:=K) rfl) (pv 4) (pv 7)) q3d (q18 _)) (pw_or1 (q0v (qqa (K:=K) rfl hr.units) (pv 10) (q1a (q0f (K:=K) rfl) (pv 4) (pv 7)) (q18 _))))) (q09 (q72 (pv 10) (q9n (pv 4) (pv 7) set_list))) q1m))))) q1m))))) (q09 (q0t (pv 4))))),?_⟩;exact q0x (O':=[]) (Nms:=w07) (f:=qoj) (by unfold qoj;exact(q0h (O1:=[4]) (qga (q28 (bw:=none) (q38 (q03 (i:=3))) (q0o (i:=0)) q3w me_non) rfl) (q0h (O1:=[4]) (q2y (O':=[4]) (q1v (q02 (q19 q2j q1z) q08)) rfl (q0o (i:=5)) (q2y (O':=[4]) (q38 (q1p (q2f (q02 me_int (q02 me_int q08))))) rfl (q0o (i:=6)) (q33 (q0s (q15 q4o (q0e q1b (q03 (i:=3)) (q03 (i:=5))) me_non.mb)) (q0h (O1:=[4]) (qla (q0n qrk (q02 (q03 (i:=0)) (q02 (q03 (i:=1)) (q02 (q03 (i:=5)) (q02 (q03 (i:=6)) q08))))) rfl (q3y (q1d (q0o (i:=7)) (q1d (q0o (i:=8)) q34)))) (q0h (O1:=[4]) (q16 (q19 qlm (q1p (q28 (bw:=none) (q7a (q02 (q03 (i:=2)) (q02 (q03 (i:=8)) q08))) (q3y (q1d (q0o (i:=0)) (q1d (q0o (i:=1)) q34))) q3w (q0n qua (q02 (q03 (i:=0)) (q02 (q03 (i:=1)) q08))))).mb)) (q0h (O1:=[4]) (q16 (q39 (q02 (q0e q1y (q0e q1b (q0e q1b (q03 (i:=3)) (q03 (i:=5))) me_int) (q03 (i:=9))) (q02 (q0e q1y (q0e q1b (q0e q1b (q03 (i:=3)) (q03 (i:=5))) me_int) (q1p (q2f (q02 (q03 (i:=6)) q08)))) q08)))) (q33 (q9u (q0s (q15 qkv (q9w (i:=4) (by decide) (q03 (i:=7))) me_non.mb)) (q0s (q15 qq8 (q03 (i:=10)) (q9w (i:=4) (by decide) (q03 (i:=7))).mb))) (q8u (by decide) (q03 (i:=10)) (q03 (i:=7)) rfl) (q27 rfl))))) (q27 rfl)))) (q65 rfl (by first|decide|simp) rfl (by first|decide|simp))))) h
abbrev w1r:=(mNot (q0b (q0i f_y43 (q00 (mOp2 dIx (mVar 3) (mRet (.int 0))) mNil))))
abbrev w0u:=(sIf (mNot (q0b (q0i f_y44 (q00 (mOp2 dIx (mVar 3) (mRet (.int 1))) (q00 (mVar 2) mNil))))) (sRet (mRet (.bl false))) sNil)
abbrev w2m:=(mNot (q0b (mOp1 (dIsi (q54 "tuple")) (mVar 3))))
def qoi:RhO:=
 (sSeq (sIf (mOr w1s (q0b (mOp2 dNe (mOp1 dLen (mVar 0)) (mVar 1))))
   (sRet (mRet (.bl false)))
   sNil)
 (sSeq (sFor (mSeq (mVar 0)) (gSet 3)
   (sIf (q0b (mOp2 q2i (mVar 3) (mRet .non)))
   (sSeq (sIf (mOr w2m (mOr (q0b (mOp2 dNe (mOp1 dLen (mVar 3)) (mRet (.int 2)))) w1r))
   (sRet (mRet (.bl false)))
   sNil) w0u)
   sNil))
 (sRet (mRet (.bl true)))))
def f_y46:List D->Option D:=runP false 3 4 qoi
theorem qu8:q1t 3 f_y46:=q1i
theorem qqh(T:Txt K mg a):FnOk P w K mg base CX0 3 a.f_y46 a.fd_y46 w37 (spP K false 3 f_y46):=by
 have G_y43:=@qky P w K mg base a T;have G_y44:=@qkx P w K mg base a T;refine T.F_y46.ok sc_y46 (λ_ _ _ _ h=>h.1) (λcdv A outer s H vs Q E hr h=>?_)
 ·refine⟨_,(q07 (q2r (PW.pt (pw_or (q5n (q57 (q11 (q60 (K:=K) rfl) (by rfl) T.z_isinstance (by rfl) (q01 (pv 0) (q01 (q76 (v:=.ty "list") (by rfl) T.z_list (by rfl) rfl) q05))))) (pw_or1 (q0v (q4f (K:=K) rfl hr.units) (q11 (q1e (K:=K) rfl) (by rfl) T.z_len (by rfl) (q01 (pv 0) q05)) (pv 1) (q18 _))))) (q09 (q0t q62)) q1m) (q07 (q2m jy rfl (q2k (K:=K) rfl (pv 0)) (zgA 3 sc_y46.nd) (q09 (q2r (q0v q5e (pv 3) q3d (q18 _)) (q07 (q2r (PW.pt (pw_or (q5n (q57 (q11 (q60 (K:=K) rfl) (by rfl) T.z_isinstance (by rfl) (q01 (pv 3) (q01 (q76 (v:=.ty "tuple") (by rfl) T.z_tuple (by rfl) rfl) q05))))) (pw_or (q0v (q4f (K:=K) rfl hr.units) (q11 (q1e (K:=K) rfl) (by rfl) T.z_len (by rfl) (q01 (pv 3) q05)) q06 (q18 _)) (pw_or1 (q5n (q57 (q0g G_y43 hr.m (by rfl) T.mg_y43 T.F_y43.kp T.B_y43 .nil q1f (q01 (q1a (q0f (K:=K) rfl) (pv 3) q06) q05)))))))) (q09 (q0t q62)) q1m) (q09 (q2r (q5n (q57 (q0g G_y44 hr.m (by rfl) T.mg_y44 T.F_y44.kp T.B_y44 .nil q1f (q01 (q1a (q0f (K:=K) rfl) (pv 3) q06) (q01 (pv 2) q05))))) (q09 (q0t q62)) q1m))) q1m))) (q09 (q0t q62)))),?_⟩;exact q0x (O':=[]) (Nms:=w3k) (f:=qoi) (by unfold qoi;exact(q0h (O1:=[]) (q33 (q9u (q5p (q4q (q9x (qcg T) q1z))) (q0s (q15 q63 (q19 q2j q1z) q1z))) (q17 rfl q7c rfl) (q27 rfl)) (q0h (O1:=[]) (q2y (O':=[]) (q38 (q03 (i:=0))) rfl (q0o (i:=3)) (q33 (q0s (q15 q4o (q03 (i:=3)) me_non.mb)) (q0h (O1:=[]) (q33 (q9u (q5p (q4q (q9x (qgt T) q1z))) (q9u (q0s (q15 q63 (q19 q2j q1z) me_int.mb)) (q5p (q4q (q0n qrj (q02 (q0e q1b (q03 (i:=3)) me_int) q08)))))) (q17 rfl q7c rfl) (q27 rfl)) (q33 (q5p (q4q (q0n qri (q02 (q0e q1b (q03 (i:=3)) me_int) (q02 (q03 (i:=2)) q08))))) (q17 rfl q7c rfl) (q27 rfl))) (q27 rfl))) (q17 rfl q7c rfl)))) h
abbrev w3v:=(q22 (mOp2 dAdd (mVar 2) (mRet (.int 1))))
abbrev w0p:=w3v
abbrev w0n:=(mSl (mOp2 dIx (mVar 1) (mRet (.int 0))) (mRet none) w3v)
abbrev w3e:=(q00 (mOp1 dLen (mOp2 dIx (mVar 1) (mRet (.int 0)))) mNil)
abbrev w35:=(sRet (mSl (mOp2 dIx (mVar 1) (mRet (.int 0))) (mRet none) (q22 (mVar 2))))
abbrev w2r:=(sSet 2 (mOp2 dAdd (mVar 3) (mRet (.int 1))))
def qoh:RhO:=
 (sSeq (sSet 1 (mOf (q20 1 [] none (mSeq (mVar 0)) (gSet 0) (q0b (mOp2 q2i (mVar 0) (mRet .non))) (mOp2 dIx (mVar 0) (mRet (.int 1))))))
 (sSeq (sSet 2 (mRet (.int 0)))
 (sSeq (sFor (q3c w3e) (gSet 3)
   (sIf (q0b (mOp2 dEq (mOf (q20 1 [1,3] none (mSeq (mVar 1)) (gSet 0) (q0b (mOp2 dNe (mSl (mVar 0) (mRet none) w0p) w0n)) (mVar 0))) (mOf (mLst mNil))))
   w2r
   sNil))
 w35)))
def f_y47:List D->Option D:=runP false 1 4 qoh
theorem qu7:q1t 1 f_y47:=q1i
abbrev w45:List Str:=["_law_word","_law_words","_law_k"]
theorem qqg(T:Txt K mg a):FnOk P w K mg base CX0 1 a.f_y47 a.fd_y47 ["_law_row"] (spP K false 1 f_y47):=by
 refine T.F_y47.ok sc_y47 (λ_ _ _ _ h=>h.1) (λcdv A outer s H vs Q E hr h=>?_)
 ·refine⟨_,(q07 (zsA 1 sc_y47.nd (q2v (sc:=q04 qaq) (N0:=w1u) rfl rfl rfl (show q21 _ _ ["_law_entry"] 1 [] _=true by decide+kernel) (q2k (K:=K) rfl (pv 0)) (λ_ _ _ _ _=>(q0l (i:=0) (show List.Nodup (["_law_entry"]:List Str)from(by decide+kernel)) rfl (Or.inl rfl))) (q1x (by decide)) (λ_ _ _ _ _=>(q74 (q0v q5e (pv 0) q3d (q18 _)))) (λ_ _ _ _ _=>(q1a (q0f (K:=K) rfl) (pv 0) q06)))) (q07 (zsA 2 sc_y47.nd q06) (q07 (q2m jy rfl (q1s (by rfl) T.z_range (q01 (q11 (q1e (K:=K) rfl) (by rfl) T.z_len (by rfl) (q01 (q1a (q0f (K:=K) rfl) (pv 1) q06) q05)) q05)) (zgA 3 sc_y47.nd) (q09 (q2r (q0v (q2w (K:=K) rfl hr.units) (q2v (sc:=q04 qaq) (N0:=w1u) rfl rfl rfl (show q21 _ _ w45 1 [1,3] _=true by decide+kernel) (q2k (K:=K) rfl (pv 1)) (λ_ _ _ _ _=>(q0l (i:=0) (show List.Nodup (w45:List Str)from(by decide+kernel)) rfl (Or.inl rfl))) (q1x (by decide)) (λ_ _ _ _ _=>(q74 (q0v (q4f (K:=K) rfl hr.units) (q3e (q47 (K:=K) rfl) (pv 0) q4n (q3r (q0u (q1g (K:=K) rfl) (pv 2) q06))) (q3e (q47 (K:=K) rfl) (q1a (q0f (K:=K) rfl) (pv 1) q06) q4n (q3r (q0u (q1g (K:=K) rfl) (pv 2) q06))) (q18 _)))) (λ_ _ _ _ _=>(pv 0))) (q2c q05) (q18 _)) (q09 (zsA 2 sc_y47.nd (q0u (q1g (K:=K) rfl) (pv 3) q06))) q1m))) (q09 (q0t (q3e (q47 (K:=K) rfl) (q1a (q0f (K:=K) rfl) (pv 1) q06) q4n (q3r (pv 2)))))))),?_⟩;exact q0x (O':=[]) (Nms:=w1u) (f:=qoh) (by unfold qoh;exact(q0h (O1:=[]) (q16 (q1p (q28 (bw:=none) (q38 (q03 (i:=0))) (q0o (i:=0)) (q0s (q15 q4o (q03 (i:=0)) me_non.mb)) (q0e q1b (q03 (i:=0)) me_int)))) (q0h (O1:=[]) (q16 me_int) (q0h (O1:=[]) (q2y (O':=[]) (q1v (q02 (q19 q2j (q0e q1b (q03 (i:=1)) me_int).mb) q08)) rfl (q0o (i:=3)) (q33 (q0s (q15 os_eq (q1p (q28 (bw:=none) (q38 (q03 (i:=1))) (q0o (i:=0)) (q0s (q15 q63 (q3f (q03 (i:=0)) q4r (q3s (q0e q1y (q03 (i:=2)) me_int))) (q3f (q0e q1b (q03 (i:=1)) me_int) q4r (q3s (q0e q1y (q03 (i:=2)) me_int))).mb)) (q03 (i:=0)))) (q1p (q2f q08)).mb)) (q16 (q0e q1y (q03 (i:=3)) me_int)) (q27 rfl))) (q17 rfl (q3f (q0e q1b (q03 (i:=1)) me_int) q4r (q3s (q03 (i:=2)))) rfl))))) h
abbrev w1q:=(q00 (mVar 1) (q00 (mVar 2) (q00 (mVar 3) mNil)))
abbrev w1b:=w40
def qhm:RhO:=
 (sSeq (sSet 4 (mRet (.bl false)))
 (sSeq (sTry (λx=>tk_NoSigns.contains x) (sIf w1b
   (q6z (q0i f_y29 w1q))
   (q6z (q0i f_y31 w1q))) (xIf w1b xNo (q6w q6e w1q xNo) (q6w q85 w1q xNo))
   (sSet 4 (mRet (.bl true))))
 (sRet (mVar 4))))
def f_y48:List D->Option D:=runP false 4 5 qhm
theorem qrh:q1t 4 f_y48:=q1i
theorem qqf(T:Txt K mg a):FnOk P w K mg base CX0 9 a.f_y48 a.fd_y48 w1z (spP K false 4 f_y48):=by
 have G_y29:=@qfy P w K mg base a T;have G_y31:=@ql2 P w K mg base a T;refine T.F_y48.ok sc_y48 (λ_ _ _ _ h=>h.1) (λcdv A outer s H vs Q E hr h=>?_)
 ·refine⟨_,(q07 (zsA 4 sc_y48.nd q62) (q07 (qq0 rfl rfl (by rfl) T.mg_NoSigns (λxe z9 σ E hp=>(qhp (qv8 (q0v (q2w (K:=K) rfl hr.units) (pv 0) q06 (q18 _)) (qhp (qhq (qhr G_y29 hr.m (by rfl) T.mg_y29 T.F_y29.kp T.B_y29 .nil hp (q01 (pv 1) (q01 (pv 2) (q01 (pv 3) q05)))))) (qhp (qhq (qhr G_y31 hr.m (by rfl) T.mg_y31 T.F_y31.kp T.B_y31 .nil hp (q01 (pv 1) (q01 (pv 2) (q01 (pv 3) q05))))))))) (λea=>(q09 (zsA 4 sc_y48.nd q62)))) (q09 (q0t (pv 4))))),?_⟩;exact q0x (O':=[]) (Nms:=w2t) (f:=qhm) (by unfold qhm;exact(q0h (O1:=[]) (q16 q7c) (q0h (O1:=[]) (qrt (qdq T) (λE=>(q33 (q0s (q15 os_eq (q03 (i:=0)) me_int.mb)) (q66 (q23 qmw (q02 (q03 (i:=1)) (q02 (q03 (i:=2)) (q02 (q03 (i:=3)) q08)))) rfl) (q66 (q23 qrm (q02 (q03 (i:=1)) (q02 (q03 (i:=2)) (q02 (q03 (i:=3)) q08)))) rfl))) (λE=>(qn1 (q0s (q15 os_eq (q03 (i:=0)) me_int.mb)) qg5 (q5q (q4p ql5 (q02 (q03 (i:=1)) (q02 (q03 (i:=2)) (q02 (q03 (i:=3)) q08))) q5s)) (q5q (q4p qrb (q02 (q03 (i:=1)) (q02 (q03 (i:=2)) (q02 (q03 (i:=3)) q08))) q5s)))) (q16 q7c)) (q17 rfl (q03 (i:=4)) rfl)))) h
abbrev w18:=(mNot (q0b (q0i f_y44 (q00 (mVar 12) (q00 (mOp1 dLen (mVar 12)) mNil)))))
abbrev w17:=w3g
abbrev w0v:=(mNot (q0b (q0i f_y46 (q00 (mVar 10) (q00 (mOp1 dLen (mVar 6)) (q00 (mVar 8) mNil))))))
abbrev w0s:=(mSl (mVar 5) (mRet none) (q22 (mVar 7)))
abbrev w0m:=(q22 (mOp2 dAdd (mVar 11) (mRet (.int 1))))
abbrev w0h:=(q00 (mVar 2) (q00 (mVar 8) (q00 (mVar 9) mNil)))
abbrev w0g:=(mOp2 dIx (mOp2 dIx (mVar 2) (mRet (.int 2))) (mOp2 dMod (mVar 8) (mOp1 dLen (mOp2 dIx (mVar 2) (mRet (.int 2))))))
abbrev w08:=(sSet 6 (mOf (q25 f_y45 (q00 (mVar 2) (q00 (mVar 8) (q00 (mSl (mVar 5) (q22 (mVar 7)) (q22 (mOp2 dAdd (mVar 7) (mVar 13)))) (q00 (mVar 6) mNil)))))))
abbrev w04:=(mNot (q0b (q0i f_y48 (q00 (mOp2 dMod (mVar 8) (mRet (.int 2))) (q00 (mVar 2) (q00 (mVar 8) (q00 (mOp2 dAdd (mVar 9) (mOf (mLst (q00 (mTup (q00 (mRet (.str "gap")) mNil)) mNil)))) mNil)))))))
abbrev w01:=(mNot (q0b (q0i f_y48 (q00 (mOp2 dSub (mRet (.int 1)) (mOp2 dMod (mVar 8) (mRet (.int 2)))) (q00 (mVar 2) (q00 (mVar 8) (q00 (mSl (mVar 9) (q22 (mRet (.int 1))) (mRet none)) mNil)))))))
abbrev w2p:=(sIf w04 (sRet (mRet (.bl false))) sNil)
abbrev w2h:=(sSeq w08 (sSet 7 (mOp2 dAdd (mVar 7) (mVar 13))))
abbrev w2b:=(sOwn 1 (q25 f_y33 (q00 (q0i f_y32 (q00 (mVar 0) (q00 (mRet (.int 0)) mNil))) (q00 (mRet (.int 0)) mNil))))
abbrev w2a:=(sOwn 3 (q25 f_y33 (q00 (q0i f_y32 (q00 (mVar 0) (q00 (mRet (.int 1)) mNil))) (q00 (mRet (.int 1)) mNil))))
abbrev w1x:=(sSet 2 (q1w f_y35 1 (q00 (mRet (.int 4)) (q00 (mOf (mLst (q00 (mRet (.str "open")) (q00 (mRet (.str "ended")) mNil)))) mNil))))
abbrev w3p:=(q00 (mOp2 dAdd (mVar 4) (mRet (.int 1))) mNil)
abbrev w3m:=(sSet 4 (q1w f_y34 3 (q00 (mRet (.int 11)) mNil)))
def qoq:RhO:=
 (sSeq w2b
 (sSeq w1x
 (sSeq w2a
 (sSeq w3m
 (sSeq (sSet 5 (mOf (q25 f_y41 (q00 (mVar 0) (q00 (mVar 2) (q00 (mOf (q20 1 [3] (some (3,1)) (q3c (q00 (mVar 4) mNil)) (gSet 0) (mRet true) (q1w f_y34 1 (q00 (mRet (.int 2)) mNil)))) mNil))))))
 (sSeq (sOwn 6 (q20 1 [] none (q3c (q00 (mOp2 dShl (mRet (.int 1)) (mOp2 dIx (mVar 2) (mRet (.int 0)))) mNil)) (gSet 0) (mRet true) (mRet .non)))
 (sSeq (q48 6 w17 (mRet (.int 0)))
 (sSeq (sSet 7 (mRet (.int 0)))
 (sSeq (sFor (q3c w3p) (gSet 8)
   (sSeq (sSet 9 w0s) (q5a 10 11 q7i w0h (mOr w0v (mOr (q0b (mOp2 dNe (mVar 10) (mVar 6))) (q0b (mOp2 dNe (mVar 9) w0s)))) (q0b (mOp2 q2i (mOp2 dIx (mVar 10) (mVar 11)) (mRet .non))) (q0b (mOp2 dNe (mSl (mVar 10) w0m (mRet none)) (mSl (mVar 6) w0m (mRet none)))) (sSeq (sSet 12 (q0i f_y31 w0h)) (sSeq (sIf (mOr w18 (q0b (mOp2 dNe (mVar 12) (q0i f_y47 (q00 (mVar 6) mNil)))))
   (sRet (mRet (.bl false)))
   sNil) (sSeq w2p (sSeq (sIf (mAnd (q0b (mOp2 dNe (mVar 9) (mOf (mLst mNil)))) w01)
   (sRet (mRet (.bl false)))
   sNil) (sSeq (sSet 13 (mOp1 qaa w0g)) w2h))))))))
 (sRet (mRet (.bl true))))))))))))
def f_law:List D->Option D:=runP false 1 14 qoq
theorem qr8(T:Txt K mg a):FnOk P w K mg base CX0 10 a.f_law a.fd_law ["_law_script"] (spP K false 1 f_law):=by
 have G_y32:=@ql1 P w K mg base a T;have G_y33:=@qqr P w K mg base a T;have G_y35:=@qqq P w K mg base a T;have G_y34:=@ql0 P w K mg base a T;have G_y41:=@qqk P w K mg base a T;have G_y29:=@qfy P w K mg base a T;have G_y46:=@qqh P w K mg base a T;have G_y31:=@ql2 P w K mg base a T;have G_y47:=@qqg P w K mg base a T;have G_y44:=@qkx P w K mg base a T;have G_y48:=@qqf P w K mg base a T;have G_y45:=@qqi P w K mg base a T;have GD_y29:=@qmn P w K mg base a T;refine T.F_law.ok sc_law (λ_ _ _ _ h=>h.1) (λcdv A outer s H vs Q E hr h=>?_)
 ·refine⟨_,(q07 (zsA 1 sc_law.nd (q0g G_y33 hr.m (by rfl) T.mg_y33 T.F_y33.kp T.B_y33 .nil q1f (q01 (q0g G_y32 hr.m (by rfl) T.mg_y32 T.F_y32.kp T.B_y32 .nil q1f (q01 (pv 0) (q01 q06 q05))) (q01 q06 q05)))) (q07 (zsA 2 sc_law.nd (q0g G_y35 hr.m (by rfl) T.mg_y35 T.F_y35.kp T.B_y35 .nil q1f (q01 (pv 1) (q01 q06 (q01 (q2c (q01 q2u (q01 q2u q05))) q05))))) (q07 (zsA 3 sc_law.nd (q0g G_y33 hr.m (by rfl) T.mg_y33 T.F_y33.kp T.B_y33 .nil q1f (q01 (q0g G_y32 hr.m (by rfl) T.mg_y32 T.F_y32.kp T.B_y32 .nil q1f (q01 (pv 0) (q01 q06 q05))) (q01 q06 q05)))) (q07 (zsA 4 sc_law.nd (q0g G_y34 hr.m (by rfl) T.mg_y34 T.F_y34.kp T.B_y34 .nil q1f (q01 (pv 3) (q01 q06 q05)))) (q07 (zsA 5 sc_law.nd (q0g G_y41 hr.m (by rfl) T.mg_y41 T.F_y41.kp T.B_y41 .nil q1f (q01 (pv 0) (q01 (pv 2) (q01 (q2v (sc:=q04 qav) (N0:=w03) rfl rfl rfl (show q21 _ _ ["_law_k","_law_second"] 1 [3] _=true by decide+kernel) (q1s (by rfl) T.z_range (q01 (pv 4) q05)) (λ_ _ _ _ _=>(q0l (i:=0) (show List.Nodup (["_law_k","_law_second"]:List Str)from(by decide+kernel)) rfl (Or.inl rfl))) (q1x (by decide)) (λ_ _ _ _ _=>q2p) (λ_ _ _ _ _=>(q0g G_y34 hr.m (by rfl) T.mg_y34 T.F_y34.kp T.B_y34 .nil q1f (q01 (pv 1) (q01 q06 q05))))) q05))))) (q07 (q61 (k:=6) (sc:=q04 qav) (N0:=w03) rfl rfl rfl (show q21 _ _ ["_law_room"] 1 [] _=true by decide+kernel) sc_law.nd rfl (Or.inl rfl) (q1s (by rfl) T.z_range (q01 (q0u q9p q06 (q1a (q0f (K:=K) rfl) (pv 2) q06)) q05)) (λ_ _ _ _ _=>(q0l (i:=0) (show List.Nodup (["_law_room"]:List Str)from(by decide+kernel)) rfl (Or.inl rfl))) (q1x (by decide)) (λ_ _ _ _ _=>q2p) (λ_ _ _ _ _=>q3d)) (q07 (q72 (q2t (q01 q06 (q01 (q2c q05) q05))) (q9n (pv 6) q06 set_list)) (q07 (zsA 7 sc_law.nd q06) (q07 (q2m jy rfl (q1s (by rfl) T.z_range (q01 (q0u (q1g (K:=K) rfl) (pv 4) q06) q05)) (zgA 8 sc_law.nd) (q07 (zsA 9 sc_law.nd (q3e (q47 (K:=K) rfl) (pv 5) q4n (q3r (pv 7)))) (q07 (zsA 10 sc_law.nd (q0g GD_y29 hr.m (by rfl) T.mg_y29 T.F_y29.kp T.B_y29 .nil qb3 (q01 (pv 2) (q01 (pv 8) (q01 (pv 9) q05))))) (q07 (q2r (PW.pt (pw_or (q5n (q57 (q0g G_y46 hr.m (by rfl) T.mg_y46 T.F_y46.kp T.B_y46 .nil q1f (q01 (pv 10) (q01 (q11 (q1e (K:=K) rfl) (by rfl) T.z_len (by rfl) (q01 (pv 6) q05)) (q01 (pv 8) q05)))))) (pw_or (q0v (q4f (K:=K) rfl hr.units) (pv 10) (pv 6) (q18 _)) (pw_or1 (q0v (q4f (K:=K) rfl hr.units) (pv 9) (q3e (q47 (K:=K) rfl) (pv 5) q4n (q3r (pv 7))) (q18 _)))))) (q09 (q0t q62)) q1m) (q07 (q2m jy rfl (q1s (by rfl) T.z_range (q01 (q11 (q1e (K:=K) rfl) (by rfl) T.z_len (by rfl) (q01 (pv 10) q05)) q05)) (zgA 11 sc_law.nd) (q07 (q2r (q0v q5e (q1a (q0f (K:=K) rfl) (pv 10) (pv 11)) q3d (q18 _)) (q09 (q4b (qb2 PySem.F.plainAttrs_list PySem.F.slot_list_append PySem.F.type_list_append q3x (q1a (q0f (K:=K) rfl) (q1a (q0f (K:=K) rfl) (pv 10) (pv 11)) q06) (q01 q06 q05)))) q1m) (q09 (q2r (q0v (q4f (K:=K) rfl hr.units) (q3e (q47 (K:=K) rfl) (pv 10) (q3r (q0u (q1g (K:=K) rfl) (pv 11) q06)) q4n) (q3e (q47 (K:=K) rfl) (pv 6) (q3r (q0u (q1g (K:=K) rfl) (pv 11) q06)) q4n) (q18 _)) (q09 (q0t q62)) q1m)))) (q07 (zsA 12 sc_law.nd (q0g G_y31 hr.m (by rfl) T.mg_y31 T.F_y31.kp T.B_y31 .nil qb3 (q01 (pv 2) (q01 (pv 8) (q01 (pv 9) q05))))) (q07 (q2r (PW.pt (pw_or (q5n (q57 (q0g G_y44 hr.m (by rfl) T.mg_y44 T.F_y44.kp T.B_y44 .nil q1f (q01 (pv 12) (q01 (q11 (q1e (K:=K) rfl) (by rfl) T.z_len (by rfl) (q01 (pv 12) q05)) q05))))) (pw_or1 (q0v (q4f (K:=K) rfl hr.units) (pv 12) (q0g G_y47 hr.m (by rfl) T.mg_y47 T.F_y47.kp T.B_y47 .nil q1f (q01 (pv 6) q05)) (q18 _))))) (q09 (q0t q62)) q1m) (q07 (q2r (q5n (q57 (q0g G_y48 hr.m (by rfl) T.mg_y48 T.F_y48.kp T.B_y48 .nil q1f (q01 (q0u q2d (pv 8) q06) (q01 (pv 2) (q01 (pv 8) (q01 (q0u (q1g (K:=K) rfl) (pv 9) (q2c (q01 (q2t (q01 q2u q05)) q05))) q05))))))) (q09 (q0t q62)) q1m) (q07 (q2r (PW.pt (pw_and (q0v (q4f (K:=K) rfl hr.units) (pv 9) (q2c q05) (q18 _)) (pw_and1 (q5n (q57 (q0g G_y48 hr.m (by rfl) T.mg_y48 T.F_y48.kp T.B_y48 .nil q1f (q01 (q0u q9o q06 (q0u q2d (pv 8) q06)) (q01 (pv 2) (q01 (pv 8) (q01 (q3e (q47 (K:=K) rfl) (pv 9) (q3r q06) q4n) q05)))))))))) (q09 (q0t q62)) q1m) (q07 (zsA 13 sc_law.nd (q11 (qhg (K:=K) rfl rfl) (by rfl) T.z_sum (by rfl) (q01 (q1a (q0f (K:=K) rfl) (q1a (q0f (K:=K) rfl) (pv 2) q06) (q0u q2d (pv 8) (q11 (q1e (K:=K) rfl) (by rfl) T.z_len (by rfl) (q01 (q1a (q0f (K:=K) rfl) (pv 2) q06) q05)))) q05))) (q07 (zsA 6 sc_law.nd (q0g G_y45 hr.m (by rfl) T.mg_y45 T.F_y45.kp T.B_y45 .nil q1f (q01 (pv 2) (q01 (pv 8) (q01 (q3e (q47 (K:=K) rfl) (pv 5) (q3r (pv 7)) (q3r (q0u (q1g (K:=K) rfl) (pv 7) (pv 13)))) (q01 (pv 6) q05)))))) (q09 (zsA 7 sc_law.nd (q0u (q1g (K:=K) rfl) (pv 7) (pv 13))))))))))))))) (q09 (q0t q62))))))))))),?_⟩;exact q0x (O':=[]) (Nms:=w03) (f:=qoq) (by unfold qoq;exact(q0h (O1:=[1]) (q4g (q3p qrl (q02 (q0n qmv (q02 (q03 (i:=0)) (q02 me_int q08))) (q02 me_int q08))) rfl) (q0h (O1:=[]) (q16 (q3g (i:=1) qug (by decide) (q02 me_int (q02 (q1p (q2f (q02 me_str (q02 me_str q08)))) q08)))) (q0h (O1:=[3]) (q4g (q3p qrl (q02 (q0n qmv (q02 (q03 (i:=0)) (q02 me_int q08))) (q02 me_int q08))) rfl) (q0h (O1:=[3]) (q16 (q3g (i:=3) q9t (by decide) (q02 me_int q08))) (q0h (O1:=[]) (q16 (q1p (q3p qub (q02 (q03 (i:=0)) (q02 (q03 (i:=2)) (q02 (q1p (q28 (bw:=(some (3,1))) (q1v (q02 (q03 (i:=4)) q08)) (q0o (i:=0)) q3w (q3g (i:=1) q9t (by decide) (q02 me_int q08)))) q08)))))) (q0h (O1:=[6]) (qga (q28 (bw:=none) (q1v (q02 (q0e q9r me_int (q0e q1b (q03 (i:=2)) me_int)) q08)) (q0o (i:=0)) q3w me_non) rfl) (q0h (O1:=[]) (q8u (by decide) (q39 (q02 me_int (q02 (q1p (q2f q08)) q08))) me_int rfl) (q0h (O1:=[]) (q16 me_int) (q0h (O1:=[]) (q2y (O':=[]) (q1v (q02 (q0e q1y (q03 (i:=4)) me_int) q08)) rfl (q0o (i:=8)) (q0h (O1:=[]) (q16 (q3f (q03 (i:=5)) q4r (q3s (q03 (i:=7))))) (qg9 qrq (q02 (q03 (i:=2)) (q02 (q03 (i:=8)) (q02 (q03 (i:=9)) q08))) (by decide) (q9u (q5p (q4q (q0n qu8 (q02 (q03 (i:=10)) (q02 (q19 q2j q1z) (q02 (q03 (i:=8)) q08)))))) (q9u (q0s (q15 q63 (q03 (i:=10)) q1z)) (q0s (q15 q63 (q03 (i:=9)) (q3f (q03 (i:=5)) q4r (q3s (q03 (i:=7)))).mb)))) (q0s (q15 q4o (q0e q1b (q03 (i:=10)) (q03 (i:=11))) me_non.mb)) (q0s (q15 q63 (q3f (q03 (i:=10)) (q3s (q0e q1y (q03 (i:=11)) me_int)) q4r) (q3f (q03 (i:=6)) (q3s (q0e q1y (q03 (i:=11)) me_int)) q4r).mb)) (q0h (O1:=[]) (q16 (q23 qrm (q02 (q03 (i:=2)) (q02 (q03 (i:=8)) (q02 (q03 (i:=9)) q08))))) (q0h (O1:=[]) (q33 (q9u (q5p (q4q (q0n qri (q02 (q03 (i:=12)) (q02 (q19 q2j q1z) q08))))) (q0s (q15 q63 (q03 (i:=12)) (q0n qu7 (q02 (q03 (i:=6)) q08)).mb))) (q17 rfl q7c rfl) (q27 rfl)) (q0h (O1:=[]) (q33 (q5p (q4q (q0n qrh (q02 (q0e q2e (q03 (i:=8)) me_int) (q02 (q03 (i:=2)) (q02 (q03 (i:=8)) (q02 (q0e q1y (q03 (i:=9)) (q1p (q2f (q02 (q39 (q02 me_str q08)) q08)))) q08))))))) (q17 rfl q7c rfl) (q27 rfl)) (q0h (O1:=[]) (q33 (qg7 (q0s (q15 q63 (q03 (i:=9)) (q1p (q2f q08)).mb)) (q5p (q4q (q0n qrh (q02 (q0e q9q me_int (q0e q2e (q03 (i:=8)) me_int)) (q02 (q03 (i:=2)) (q02 (q03 (i:=8)) (q02 (q3f (q03 (i:=9)) (q3s me_int) q4r) q08)))))))) (q17 rfl q7c rfl) (q27 rfl)) (q0h (O1:=[]) (q16 (q19 qob (q0e q1b (q0e q1b (q03 (i:=2)) me_int) (q0e q2e (q03 (i:=8)) (q19 q2j (q0e q1b (q03 (i:=2)) me_int).mb))).mb)) (q0h (O1:=[]) (q16 (q1p (q3p qu9 (q02 (q03 (i:=2)) (q02 (q03 (i:=8)) (q02 (q3f (q03 (i:=5)) (q3s (q03 (i:=7))) (q3s (q0e q1y (q03 (i:=7)) (q03 (i:=13))))) (q02 (q03 (i:=6)) q08))))))) (q16 (q0e q1y (q03 (i:=7)) (q03 (i:=13))))))))))))) (q17 rfl q7c rfl))))))))))) h
end
section
variable{r:Int}{taps:List Int}{rows:List (List Int)}{e:Str}
theorem p_y1(ok:q26 r taps rows e):f_y1 [schD r taps rows e]=some (.int (2^r.toNat)):=by
 have r0:=ok.r0;have r4:=ok.r4;have r6:r<=1000000:=by omega
 have hr:f_y0 [.int r]=some (.int (2^r.toNat)):=by unfold f_y0 b_y0;clear ok;walk_at "ev"
 unfold f_y1 b_y1 schD;clear ok;walk_at "ev"
theorem qfu(n:D):∀(f zq:Nat) (l o:Int),0<=l->l.toNat<2^f->(o=0∨o=1)->f<zq->∃l':Int,q2b w2w
 w0x zq [some n,some (.int l),some (.int o)]=some (.nx [some n,some (.int l'),some (.int ((o+(parF f l.toNat:Nat)) % 2))])
 |_,0,_,_,_,_,_,h=>absurd h (Nat.not_lt_zero _)
 | f,zq+1,l,o,l0,lf,ho,hf=>by
  have ht:w2w [some n,some (.int l),some (.int o)]=some (decide (0<l),[some n,some (.int l),some (.int o)]):=by walk_at "ev"
  by_cases hl:0<l
  ·cases f with
   |zero=>exact absurd lf (by omega)
   | succ f=>
    have hb:w0x [some n,some (.int l),some (.int o)]=some (.nx [some n,some (.int (l / 2)),some (.int (Builtin.bitXor o (Builtin.bitAnd l 1)))]):=by clear ht;walk_at "ev"
    have ex:Builtin.bitXor o (Builtin.bitAnd l 1)=(o+l % 2) % 2:=by rw[qos l0];exact qhw ho (by omega)
    have e2:(l / 2).toNat=l.toNat / 2:=by omega
    have lt2:(l / 2).toNat<2^f:=by rw[e2];rw[Nat.pow_succ]at lf;omega
    obtain⟨l',ih⟩:=qfu n f zq (l / 2) (Builtin.bitXor o (Builtin.bitAnd l 1)) (by omega) lt2 (by rw[ex];omega) (by omega);refine⟨l',?_⟩;rw[decide_eq_true hl]at ht;unfold q2b;rw[ht];dsimp only;rw[hb];dsimp only;rw[ih,ex,e2];have u:parF (f+1) l.toNat=(l.toNat % 2+parF f (l.toNat / 2)) % 2:=rfl;rw[u];have ev:((o+l % 2) % 2+(parF f (l.toNat / 2):Nat)) % 2=(o+(((l.toNat % 2+parF f (l.toNat / 2)) % 2:Nat):Int)) % 2:=by omega
    rw[ev]
  ·rw[decide_eq_false hl]at ht;refine⟨l,?_⟩;unfold q2b;rw[ht];dsimp only;have e0:l=0:=by omega
   subst e0;rw[show((0:Int)).toNat=0 from rfl,q77];have ev:(o+((0:Nat):Int)) % 2=o:=by omega
   rw[ev]
theorem p_y2(n:Int)(h0:0<=n)(h:n<32):f_y2 [.int n]=some (.int (parF 5 n.toNat:Nat)):=by
 obtain⟨l',hw⟩:=qfu (.int n) 5 1000 n 0 h0 (by omega) (.inl rfl) (by decide);have e1:((0:Int)+(parF 5 n.toNat:Nat)) % 2=(parF 5 n.toNat:Nat):=by have:=qb4 5 n.toNat;omega
 rw[e1]at hw;generalize parF 5 n.toNat=p at hw ⊢;unfold f_y2 b_y2;generalize (1000:Nat)=zq at hw ⊢;clear h0 h e1;walk_at "ev"
theorem p_y3(ok:q26 r taps rows e)(za bit:Int)(a0:0<=za)(a1:za<2^r.toNat)(hb:bit=0∨bit=1):
 f_y3 [schD r taps rows e,.int za,.int bit]=some (.tup [.int ((2*za+bit) % 2^r.toNat),.tup ((taps.map (sgn (2*za+bit))).map D.int)]):=by
 have p16:=q30 ok.r0 ok.r4;have hr:=p_y1 ok;have hp:=p_y2;have m0:(0:Int)<2^r.toNat:=by omega
 have cm:=q5y (n:=1) (js:=[3]) (fg:=gSet 0) (fe:=q0i f_y2 w1k) (ρ:=[some (schD r taps rows e),some (.int za),some (.int bit),some (.int (2*za+bit)),none]) (λd=>match d with|.int t=>.int (sgn (2*za+bit) t)|d=>d) (taps.map D.int) (λx hx=>by
  obtain⟨t,ht,rfl⟩:=List.mem_map.mp hx;refine⟨[some (.int t),some (.int (2*za+bit))],rfl,?_⟩;have tb:=ok.tb t ht;have w0:0<=2*za+bit:=by omega
  have ea:=qht w0 tb.1;have lt:(2*za+bit).toNat &&& t.toNat<32:=Nat.lt_of_le_of_lt Nat.and_le_left (by omega);have hq:=p_y2 (((2*za+bit).toNat &&& t.toNat:Nat):Int) (by omega) (by omega);rw[jx,<-ea]at hq;show _=some (D.int (sgn (2*za+bit) t));unfold sgn;generalize 2*za+bit=W at hq ⊢;generalize parF 5 (W.toNat &&& t.toNat)=z at hq ⊢;clear hx ht tb w0 ea lt hr hp hb a0 a1 m0 p16;walk_at "ev")
 have e2:(taps.map D.int).map (λd=>match d with|.int t=>D.int (sgn (2*za+bit) t)|d=>d)=(taps.map (sgn (2*za+bit))).map D.int:=by rw[jv,jv];rfl
 rw[e2]at cm;have ll:(taps.map D.int).length<=sizeLine:=by rw[j9];exact q1h (by have:=ok.t4;omega)
 unfold f_y3 b_y3;unfold schD at cm hr ⊢;generalize (taps.map (sgn (2*za+bit))).map D.int=S at cm ⊢;generalize taps.map D.int=TS at cm hr ll ⊢;generalize (2:Int)^r.toNat=m at hr m0 a1 p16 ⊢;have two:2<=sizeLine:=by decide
 clear ok hp hb a0 a1 p16 e2;walk_at "ev"
theorem qku(ok:q26 r taps rows e):f_y5 [schD r taps rows e]=some (.bl (isRing e)):=by
 have h1:=s_or;have h2:=s_er;have h3:=s_rr;unfold f_y5 b_y5 schD isRing;rcases ok.en with rfl|rfl|rfl
 ·rw[decide_eq_false (by decide)];clear ok;walk_at "ev"
 ·rw[decide_eq_false (by decide)];clear ok;walk_at "ev"
 ·rw[decide_eq_true rfl];clear ok;walk_at "ev"
theorem qmc(ok:q26 r taps rows e)(n:Int)(h:e="ring"->r<=n):f_y6 [schD r taps rows e,.int n]=some .non:=by
 have hr:=qku ok;unfold f_y6 b_y6;cases hi:isRing e with
 | false=>
  rw[hi]at hr;clear ok hi;generalize schD r taps rows e=S at hr ⊢;walk_at "ev"
 | true=>
  rw[hi]at hr;have hn:¬n<r:=by have:=h (of_decide_eq_true hi);omega
  unfold schD at hr ⊢;clear ok hi h;walk_at "ev"
theorem qin(ok:q26 r taps rows e):f_y7 [schD r taps rows e]=some (.int (q12 r e:Nat)):=by
 have h1:=s_oe;have h2:=s_ee;have h3:=s_re;have r0:=ok.r0;have er:((r.toNat:Nat):Int)=r:=by omega
 unfold f_y7 b_y7 schD q12;rcases ok.en with rfl|rfl|rfl
 ·rw[if_neg (by decide)];clear ok;walk_at "ev"
 ·rw[if_pos rfl,er];clear ok er;walk_at "ev"
 ·rw[if_neg (by decide)];clear ok;walk_at "ev"
theorem q4y(ok:q26 r taps rows e):q12 r e<=4:=by have:=ok.r4;unfold q12;split<;>omega
theorem qfg(ok:q26 r taps rows e)(k:Nat):atI (rows.map rowD) ((k:Int) % ((rows.map rowD).length:Nat))=some (.tup ((rowAt rows k).map D.int)):=by
 have m1:=ok.m1;have hk:k % rows.length<rows.length:=Nat.mod_lt _ (by omega);have e1:((k:Int) % ((rows.map rowD).length:Nat))=((k % rows.length:Nat):Int):=by rw[j9];exact(Int.natCast_emod k rows.length).symm
 rw[e1,q8d (by omega) (by rw[j9];omega),jx,je];unfold rowAt;rw[jf hk];rfl
theorem qc0(ok:q26 r taps rows e)(k:Nat)(signs:List Int)(hl:signs.length<=1000):
 f_y4 [schD r taps rows e,.int k,.tup (signs.map D.int)]=some (.tup ((q3v (rowAt rows k) signs).map D.int)):=by
 have hr:=qfg ok k;have zd:0<(rows.map rowD).length:=by have:=ok.m1;rw[j9];omega
 have hz:zipD (signs.map D.int) ((rowAt rows k).map D.int)=(signs.zip (rowAt rows k)).map λq=>D.tup [.int q.1,.int q.2]:=q9a _ _;have cm:∀ρ:Rho,q14 2 [] none (q1n 2 (q0c (gSet 0) (q0c (gSet 1) q1o))) (q0b (mOp2 dEq (mVar 1) (mRet (.int 1)))) (mVar 0) ((signs.zip (rowAt rows k)).map λq=>D.tup [.int q.1,.int q.2]) ρ=some ((q3v (rowAt rows k) signs).map D.int,ρ):=λρ=>by
  have:=q43 (n:=2) (js:=[]) (fg:=q1n 2 (q0c (gSet 0) (q0c (gSet 1) q1o))) (ft:=q0b (mOp2 dEq (mVar 1) (mRet (.int 1)))) (fe:=mVar 0) (ρ:=ρ) (λd=>match d with|.tup [_,.int b]=>b==1|_=>false) (λd=>match d with|.tup [x,_]=>x|d=>d) ((signs.zip (rowAt rows k)).map λq=>D.tup [.int q.1,.int q.2]) (λx hx=>by obtain⟨q,_,rfl⟩:=List.mem_map.mp hx;refine⟨[some (.int q.1),some (.int q.2)],rfl,?_,λ_=>rfl⟩;clear hr hz hx;walk_at "ev")
  rw[this,List.filter_map,jv];unfold q3v;rw[jv];rfl
 have ll:((signs.zip (rowAt rows k)).map λq=>D.tup [.int q.1,.int q.2]).length<=sizeLine:=by rw[j9,xv];exact q1h (by have:=kf signs.length (rowAt rows k).length;omega)
 unfold f_y4 b_y4 schD;generalize (signs.zip (rowAt rows k)).map (λq=>D.tup [.int q.1,.int q.2])=Z at hz cm ll;generalize (q3v (rowAt rows k) signs).map D.int=Y at cm ⊢;generalize (rowAt rows k).map D.int=R at hr hz;generalize rows.map rowD=RS at hr zd ⊢;generalize signs.map D.int=S at hz ⊢;clear ok hl;walk_at "ev"
theorem qik(t:Told):f_y18 [q10 t]=some (objD t):=by
 have h1:=t_cg;have h2:=t_cs;have h3:=t_gs;have h4:=t_cc;have h5:=t_gg;unfold f_y18 qkc;cases t with
 |clear b=>unfold q10 objD;walk_at "ev"
 |gap=>unfold q10 objD;walk_at "ev"
 |soft z o=>unfold q10 objD;walk_at "ev"
theorem p_cc(c b:Int):f_y12 [.obj "Clear" [("bit",.int c)],.int b]=some (.int (if b=c then 0 else 1)):=by
 have h1:fldO "Clear" "bit" (.obj "Clear" [("bit",.int c)])=some (.int c):=qbc (by simp[List.lookup_cons]);unfold f_y12 qkf;generalize D.obj "Clear" [("bit",.int c)]=X at h1 ⊢;by_cases h:b=c
 ·rw[if_pos h];have h':(b==c)=true:=beq_iff_eq.mpr h;clear h;walk_at "ev"
 ·rw[if_neg h];have h':(b==c)=false:=beq_eq_false_iff_ne.mpr h;walk_at "ev"
theorem p_gc(X:D)(b:Int):f_y14 [X,.int b]=some (.int 0):=by unfold f_y14 qke;walk_at "ev"
theorem p_sc(z o b:Int):f_y17 [.obj "Soft" [("zero",.int z),("one",.int o)],.int b]=some (.int (if b=1 then o else z)):=by
 have nz:(("one":Str)=="zero")=false:=by decide+kernel
 have h1:fldO "Soft" "one" (.obj "Soft" [("zero",.int z),("one",.int o)])=some (.int o):=qbc (by rw[List.lookup_cons,nz];simp[List.lookup_cons]);have h2:fldO "Soft" "zero" (.obj "Soft" [("zero",.int z),("one",.int o)])=some (.int z):=qbc (by simp[List.lookup_cons]);unfold f_y17 qkd;generalize D.obj "Soft" [("zero",.int z),("one",.int o)]=X at h1 h2 ⊢;by_cases h:b=1
 ·rw[if_pos h];subst h;walk_at "ev"
 ·rw[if_neg h];have h':(b==1)=false:=beq_eq_false_iff_ne.mpr h;walk_at "ev"
theorem qmb(t:Told)(b:Int):w05 [some (objD t),some (.int b)]=some (.int (q4m t b),[some (objD t),some (.int b)]):=by
 have n1:¬(("Gap":Str)="Clear"):=by decide+kernel
 have n2:¬(("Soft":Str)="Clear"):=by decide+kernel
 have n3:¬(("Soft":Str)="Gap"):=by decide+kernel
 have m1:(("cost":Str)=="bit")=false:=by decide+kernel
 have m2:(("cost":Str)=="zero")=false:=by decide+kernel
 have m3:(("cost":Str)=="one")=false:=by decide+kernel
 cases t with
 | clear c=>
  have h1:q7t "Clear" "cost" f_y12 (objD (.clear c)) [.int b]=some (.int (q4m (.clear c) b)):=(q8y (by rw[List.lookup_cons,m1];rfl)).trans (p_cc c b);generalize objD (.clear c)=X at h1 ⊢;generalize q4m (.clear c) b=z at h1 ⊢;clear n1 n2 n3 m1 m2 m3;walk_at "ev"
 | gap=>
  have h1:q7t "Clear" "cost" f_y12 (objD .gap) [.int b]=none:=q7b n1;have h2:q7t "Gap" "cost" f_y14 (objD .gap) [.int b]=some (.int (q4m .gap b)):=(q8y rfl).trans (p_gc _ b);generalize objD .gap=X at h1 h2 ⊢;generalize q4m .gap b=z at h2 ⊢;clear n1 n2 n3 m1 m2 m3;walk_at "ev"
 | soft z o=>
  have h1:q7t "Clear" "cost" f_y12 (objD (.soft z o)) [.int b]=none:=q7b n2;have h2:q7t "Gap" "cost" f_y14 (objD (.soft z o)) [.int b]=none:=q7b n3;have h3:q7t "Soft" "cost" f_y17 (objD (.soft z o)) [.int b]=some (.int (q4m (.soft z o) b)):=(q8y (by rw[List.lookup_cons,m2,List.lookup_cons,m3];rfl)).trans (p_sc z o b);generalize objD (.soft z o)=X at h1 h2 h3 ⊢;generalize q4m (.soft z o) b=y at h3 ⊢;clear n1 n2 n3 m1 m2 m3;walk_at "ev"
theorem qb7(ok:q26 r taps rows e)(n:Nat)(h:e="ring"->r.toNat<=n):f_y8 [schD r taps rows e,.int n]=some (.int ((n+q12 r e:Nat):Int)):=by
 have r0:=ok.r0;have hc:=qmc ok n (λq=>by have:=h q;omega);have hz:=qin ok;have e1:((n+q12 r e:Nat):Int)=(n:Int)+(q12 r e:Nat):=by omega
 rw[e1];unfold f_y8 b_y8;generalize schD r taps rows e=S at hc hz ⊢;generalize (q12 r e:Nat)=z at hz ⊢;clear ok h e1 r0;walk_at "ev"
theorem qq1(S:D)(n' N nz:Int)(S2 F:List D)(v4:Option D)(z0:0<=sizeLine)(hst:f_y3 [S,.int 0,.int 0]=some (.tup [.int nz,.tup S2]))(hs:f_y8 [S,.int n']=some (.int N))(bg:big N=true)
 (l1:q1q (gSet 4) w2q (q1k 0 N.toNat) [some S,some (.int n'),some (.tup S2),some (.lst []),none]=some (.nx [some S,some (.int n'),some (.tup S2),some (.lst F),v4])):f_y9 [S,.int n']=some (.lst F):=by
 unfold f_y9 b_y9;walk_at "ev"
theorem q8s(ok:q26 r taps rows e)(n:Nat)(hn:n<=60)(h:e="ring"->r.toNat<=n):f_y9 [schD r taps rows e,.int n]=some (.lst ((q0d taps rows (n+q12 r e)).map D.int)):=by
 have z4:=q4y ok;have hs:=qb7 ok n h;have p16:=q30 ok.r0 ok.r4;have hst:=p_y3 ok 0 0 (by omega) (by omega) (.inl rfl);have ht:=qc0 ok;have sl:∀k,(q3v (rowAt rows k) (taps.map (sgn (2*0+0)))).length=(selK taps rows k).length:=λk=>by rw[q75,j9];rfl
 have s4:∀k,(selK taps rows k).length<=4:=λk=>by unfold selK;refine x9 (List.length_filter_le _ _) ?_;rw[xv];have:=ok.t4;have:=kf taps.length (rowAt rows k).length;omega
 have st:=λk:Nat=>ht k (taps.map (sgn (2*0+0))) (by rw[j9];have:=ok.t4;omega);generalize hS2:(taps.map (sgn (2*0+0))).map D.int=S2 at hst st;obtain⟨ρ',l1,v4,hρ⟩:=q2x (fg:=gSet 4) (fb:=sExt 3 (mRep (mLst (q00 (mVar 4) mNil)) w0f))
  (λk ρ=>∃v4,ρ=[some (schD r taps rows e),some (.int (n:Int)),some (.tup S2),some (.lst ((q0d taps rows k).map D.int)),v4]) (q1k 0 (n+q12 r e)) 0
  [some (schD r taps rows e),some (.int (n:Int)),some (.tup S2),some (.lst []),none] ⟨none,rfl⟩ (λi x ρ hx ⟨v4,hρ⟩=>by
   subst hρ;obtain⟨hi,rfl⟩:=q24 hx;rw[jq,Int.zero_add];have eP:q0d taps rows (i+1)=q0d taps rows i++List.replicate (selK taps rows i).length (i:Int):=q5v _ _;rw[eP,x8,List.map_replicate];have hsa:=st i;have hln:(((q3v (rowAt rows i) (taps.map (sgn (2*0+0)))).map D.int).length:Int)=((selK taps rows i).length:Nat):=by rw[j9,sl]
   have hrp:repO [D.int (i:Int)] (.int ((selK taps rows i).length:Nat))=some (List.replicate (selK taps rows i).length (.int (i:Int))):=by rw[qfi _ (by omega) (by have:=s4 i;omega),jx]
   have ln:((q0d taps rows i).map D.int).length+(List.replicate (selK taps rows i).length (D.int (i:Int))).length<=sizeLine:=by have q1:(q0d taps rows i).length<=i*4:=q6s _ 4 (λk=>by rw[jo];exact s4 k) i;have q2:=s4 i;rw[j9,jo];exact q1h (by omega)
   generalize (q3v (rowAt rows i) (taps.map (sgn (2*0+0)))).map D.int=PK at hsa hln;rw[<-hln]at hrp;generalize List.replicate (selK taps rows i).length (D.int (i:Int))=RP at hrp ln ⊢;generalize (q0d taps rows i).map D.int=F at ln ⊢;refine⟨_,[some (schD r taps rows e),some (.int (n:Int)),some (.tup S2),some (.lst (F++RP)),some (.int (i:Int))],rfl,.inl ?_,some (.int (i:Int)),rfl⟩;have one:1<=sizeLine:=by decide
   generalize schD r taps rows e=S at hsa ⊢;clear hln eP hst st sl s4 hs ok ht hi hx p16 hS2 h;have hrep:(mRep (mLst (q00 (mVar 4) mNil)) w0f) [some S,some (.int (n:Int)),some (.tup S2),some (.lst F),some (.int (i:Int))]=some (RP,[some S,some (.int (n:Int)),some (.tup S2),some (.lst F),some (.int (i:Int))]):=by
    refine qbq (xs:=[.int (i:Int)]) (y:=.int (PK.length:Nat)) (ρ1:=[some S,some (.int (n:Int)),some (.tup S2),some (.lst F),some (.int (i:Int))]) ?_ ?_ hrp
    ·clear hrp hsa ln;generalize (n:Int)=n';generalize (i:Int)=i';walk_at "ev"
    ·clear hrp ln;generalize (n:Int)=n';generalize (i:Int)=i' at hsa ⊢;walk_at "ev"
   generalize (mRep (mLst (q00 (mVar 4) mNil)) w0f)=FR at hrep ⊢;clear hrp hsa;generalize (n:Int)=n' at hrep ⊢;generalize (i:Int)=i' at hrep ⊢;walk_at "ev")
 subst hρ;rw[q1j,jq]at l1;have bg:big ((n+q12 r e:Nat):Int)=true:=by unfold big;simp;omega
 have z0:0<=sizeLine:=by decide
 have tn:((n+q12 r e:Nat):Int).toNat=n+q12 r e:=jx _;rw[<-tn]at l1;exact qq1 _ _ _ _ _ _ _ z0 hst hs bg l1
theorem qim(ok:q26 r taps rows e)(n:Nat)(hn:n<=60)(h:e="ring"->r.toNat<=n)(hs:List D)(hl:hs.length=(q0d taps rows (n+q12 r e)).length):f_y19 [schD r taps rows e,.int n,.lst hs]=some .non:=by
 have hp:=q8s ok n hn h;have hl2:hs.length=((q0d taps rows (n+q12 r e)).map D.int).length:=by rw[j9,hl]
 unfold f_y19 qkb;generalize (q0d taps rows (n+q12 r e)).map D.int=F at hp hl2;generalize schD r taps rows e=S at hp ⊢;clear ok h hl hn;walk_at "ev"
theorem qmu(ok:q26 r taps rows e)(n:Int)(h:e="ring"->r<=n):qh1 [schD r taps rows e,.int n]=none:=by
 have hr:=qku ok;unfold qh1 x_y6;cases hi:isRing e with
 | false=>
  rw[hi]at hr;clear ok hi;generalize schD r taps rows e=S at hr ⊢;walk_at "ev"
 | true=>
  rw[hi]at hr;have hn:¬n<r:=by have:=h (of_decide_eq_true hi);omega
  unfold schD at hr ⊢;clear ok hi h;walk_at "ev"
theorem qmt(ok:q26 r taps rows e)(n:Nat)(h:e="ring"->r.toNat<=n):qh0 [schD r taps rows e,.int n]=none:=by have r0:=ok.r0;have hc:=qmu ok n (λq=>by have:=h q;omega);unfold qh0 x_y8;rw[q6v];generalize schD r taps rows e=S at hc ⊢;clear ok h;walk_at "ev"
theorem qiq(ok:q26 r taps rows e)(n:Nat)(h:e="ring"->r.toNat<=n):qdu [schD r taps rows e,.int n]=none:=by
 have hc:=qmt ok n h;have hs:=qb7 ok n h;have p16:=q30 ok.r0 ok.r4;have hst:=p_y3 ok 0 0 (by omega) (by omega) (.inl rfl);have z0:0<=sizeLine:=by decide
 unfold qdu x_y9;rw[q6v];generalize (taps.map (sgn (2*0+0))).map D.int=S2 at hst;generalize (2*0+0) % 2^r.toNat=nz at hst;generalize ((n+q12 r e:Nat):Int)=N at hs;generalize schD r taps rows e=S at hc hs hst ⊢;clear ok h p16;walk_at "ev"
theorem qi1(ok:q26 r taps rows e)(n:Nat)(hn:n<=60)(h:e="ring"->r.toNat<=n)(hs:List D)(hl:hs.length≠(q0d taps rows (n+q12 r e)).length):q87 [schD r taps rows e,.int n,.lst hs]=some ("NoSigns":Str):=by
 have hp:=q8s ok n hn h;have hl2:¬((hs.length:Nat):Int)=(((q0d taps rows (n+q12 r e)).map D.int).length:Nat):=by rw[j9];omega
 have hl3:(((hs.length:Nat):Int)==(((q0d taps rows (n+q12 r e)).map D.int).length:Nat))=false:=beq_eq_false_iff_ne.mpr hl2;have hnp:qdu [schD r taps rows e,.int n]=none:=qiq ok n h;unfold q87 qi0;generalize (q0d taps rows (n+q12 r e)).map D.int=F at hp hl2 hl3;generalize schD r taps rows e=S at hp hnp ⊢;clear ok h hl hn;walk_at "ev"
end
section
variable{r:Int}{taps:List Int}{rows:List (List Int)}{e:Str}
theorem qkr{ρ ρ1:Rho}{fs:RhL}{n:Int}(h:fs ρ=some ([.int n],ρ1))(bg:big n=true):q3c fs ρ=some (q1k 0 n.toNat,ρ1):=by rw[qh7,h];show((if big n=true then some (q1k 0 n.toNat)else none).map λx=>(x,ρ1))=_;rw[if_pos bg];rfl
theorem q0y{f g:RhO}{ρ ρ1:Rho}(h:f ρ=some (.nx ρ1)):sSeq f g ρ=g ρ1:=by rw[qbf,h];rfl
theorem qbn{f g:RhO}{ρ ρ1:Rho}{d:D}(h:f ρ=some (.rt d ρ1)):sSeq f g ρ=some (.rt d ρ1):=by rw[qbf,h];rfl
theorem q4k{b:RhO}{n k:Nat}{ds:List D}{d:D}(hl:ds.length=n)(h:∃ρ,b (ds.map some++List.replicate (k-n) none)=some (.rt d ρ)):runP false n k b ds=some d:=by obtain⟨ρ,h⟩:=h;unfold runP;rw[if_pos hl,h]
theorem qlr(t:Told)(b:Int)(hb:b=0∨b=1):f_y42 [q10 t,.int b]=some (.int (q4m t b)):=by
 have h1:=t_cg;have h2:=t_cs;have h3:=t_gs;have h4:=t_cc;have h5:=t_gg;cases t with
 | clear c=>
  show f_y42 [.tup [.str "clear",.int c],.int b]=some (.int (if b=c then 0 else 1));unfold f_y42 qe1;by_cases h:b=c
  ·rw[if_pos h];have h':(c==b)=true:=beq_iff_eq.mpr h.symm;clear h hb;walk_at "ev"
  ·rw[if_neg h];have h':(c==b)=false:=beq_eq_false_iff_ne.mpr λq=>h q.symm;have h'':¬c=b:=λq=>h q.symm;clear h hb;walk_at "ev"
 | gap=>
  show f_y42 [.tup [.str "gap"],.int b]=some (.int 0);unfold f_y42 qe1;clear hb;walk_at "ev"
 | soft z o=>
  show f_y42 [.tup [.str "soft",.int z,.int o],.int b]=some (.int (if b=1 then o else z));unfold f_y42 qe1;rcases hb with rfl|rfl
  ·rw[if_neg (by decide)];walk_at "ev"
  ·rw[if_pos rfl];walk_at "ev"
theorem q88(ρ:Rho):∀(zs:List (Told×Int)),(∀q∈zs,q.2=0∨q.2=1)->q14 2 [] none (q1n 2 (q0c (gSet 0) (q0c (gSet 1) q1o))) (mRet true) (q0i f_y42 (q00 (mVar 0) (q00 (mVar 1) mNil))) (zs.map λq=>D.tup [q10 q.1,.int q.2]) ρ=some ((zs.map λq=>q4m q.1 q.2).map D.int,ρ)
 |[],_=>rfl
 | q::zs,h=>by
  have ih:=q88 ρ zs λp hp=>h p (jj _ hp);have hg:(q1n 2 (q0c (gSet 0) (q0c (gSet 1) q1o))) (D.tup [q10 q.1,.int q.2]) (q5k 2 [] ρ)=some [some (q10 q.1),some (.int q.2)]:=rfl;have he:q0i f_y42 (q00 (mVar 0) (q00 (mVar 1) mNil)) [some (q10 q.1),some (.int q.2)]=some (.int (q4m q.1 q.2),[some (q10 q.1),some (.int q.2)]):=by have:=qlr q.1 q.2 (h q jk);generalize q10 q.1=X at this ⊢;generalize q4m q.1 q.2=z at this ⊢;generalize q.2=b at this ⊢;clear ih hg h;walk_at "ev"
  rw[xk];unfold q14;rw[hg];dsimp only[mRet];rw[he];dsimp only[q56];rw[ih];rfl
end
section
variable{r:Int}{taps:List Int}{rows:List (List Int)}{e:Str}
theorem qij(ts:List Told)(bits:List Int)(hl:ts.length<=1000):f_y20 [.lst (ts.map objD),.tup (bits.map D.int)]=some (.int (q55 ts bits)):=by
 have hz:zipD (ts.map objD) (bits.map D.int)=(ts.zip bits).map λq=>D.tup [objD q.1,.int q.2]:=by rw[q5m,q4x,jv];rfl
 have cm:∀ρ:Rho,q14 2 [] none (q1n 2 (q0c (gSet 0) (q0c (gSet 1) q1o))) (mRet true) w05 ((ts.zip bits).map λq=>D.tup [objD q.1,.int q.2]) ρ=some (((ts.zip bits).map λq=>q4m q.1 q.2).map D.int,ρ):=λρ=>by
  have:∀zs:List (Told×Int),q14 2 [] none (q1n 2 (q0c (gSet 0) (q0c (gSet 1) q1o))) (mRet true) w05 (zs.map λq=>D.tup [objD q.1,.int q.2]) ρ=some ((zs.map λq=>q4m q.1 q.2).map D.int,ρ):=λzs=>by
   induction zs with
   |nil=>rfl
   | cons q zs ih=>
    have hg:(q1n 2 (q0c (gSet 0) (q0c (gSet 1) q1o))) (D.tup [objD q.1,.int q.2]) (q5k 2 [] ρ)=some [some (objD q.1),some (.int q.2)]:=rfl;rw[xk];unfold q14;rw[hg];dsimp only[mRet];rw[qmb q.1 q.2];dsimp only[q56];rw[ih];rfl
  exact this _
 have ll:((ts.zip bits).map λq=>D.tup [objD q.1,.int q.2]).length<=sizeLine:=by rw[j9,xv];exact q1h (by have:=kf ts.length bits.length;omega)
 have hi:=q2n ((ts.zip bits).map λq=>q4m q.1 q.2);unfold f_y20 qka q55;generalize (ts.zip bits).map (λq=>D.tup [objD q.1,.int q.2])=Z at hz cm ll;generalize (ts.zip bits).map (λq=>q4m q.1 q.2)=Y at cm hi ⊢;generalize ts.map objD=TS at hz ⊢;generalize bits.map D.int=B at hz ⊢;generalize Y.map D.int=YD at cm hi;clear hl;walk_at "ev"
theorem qm3(S T:D)(n' N:Int)(hs:f_y8 [S,.int n']=some (.int N))(bg:big N=true):qdr [some S,some (.int n'),some T,none,none,none]=some (q1k 0 N.toNat,[some S,some (.int n'),some T,none,none,none]):=by unfold qdr;walk_at "ev"
theorem qps(S:D)(n':Int)(T P Z:List D)(hp:f_y9 [S,.int n']=some (.lst P))(hz:zipD P T=Z):(mZip (q00 w1n (q00 (mVar 2) mNil))) [some S,some (.int n'),some (.lst T),none,none,none]=some (Z,[some S,some (.int n'),some (.lst T),none,none,none]):=by walk_at "ev"
theorem qpt(S T u t o:D)(n':Int)(h:f_y18 [t]=some o):(q00 (q0i f_y18 (q00 (mVar 5) mNil)) mNil) [some S,some (.int n'),some T,none,some u,some t]=some ([o],[some S,some (.int n'),some T,none,some u,some t]):=by walk_at "ev"
theorem qty(ok:q26 r taps rows e)(n:Nat)(hn:n<=60)(h:e="ring"->r.toNat<=n)(ts:List Told)(hl:ts.length=(q0d taps rows (n+q12 r e)).length):
 f_y21 [schD r taps rows e,.int n,.lst (ts.map q10)]=some (.lst ((List.range (n+q12 r e)).map λk=>D.lst ((chunk taps rows ts k).map objD))):=by
 have z4:=q4y ok;have hs:=qb7 ok n h;have hp:=q8s ok n hn h;have s4:∀k,(selK taps rows k).length<=4:=λk=>by unfold selK;refine x9 (List.length_filter_le _ _) ?_;rw[xv];have:=ok.t4;have:=kf taps.length (rowAt rows k).length;omega
 have q1:(q0d taps rows (n+q12 r e)).length<=(n+q12 r e)*4:=q6s _ 4 (λk=>by rw[jo];exact s4 k) _;have bg:big ((n+q12 r e:Nat):Int)=true:=by unfold big;simp;omega
 have hi:=qm3 (schD r taps rows e) (.lst (ts.map q10)) n _ hs bg;rw[jx]at hi;have hz:zipD ((q0d taps rows (n+q12 r e)).map D.int) (ts.map q10)=((q0d taps rows (n+q12 r e)).zip ts).map λq=>D.tup [.int q.1,q10 q.2]:=by rw[q5m,q4x,jv];rfl
 have hzz:=qps (schD r taps rows e) n (ts.map q10) _ _ hp hz;obtain⟨u',v',hr⟩:=qbr (i:=3) (a:=4) (b:=5) (fe:=mVar 4) (fs:=q00 (q0i f_y18 (q00 (mVar 5) mNil)) mNil) q10 objD (λu v=>[some (schD r taps rows e),some (.int n),some (.lst (ts.map q10)),none,u,v]) (λ_ _=>rfl) (λ_ _ _ _=>rfl) (λ_ _=>rfl) (λk t=>qpt _ _ _ _ _ _ (qik t))
  ((q0d taps rows (n+q12 r e)).zip ts) (List.replicate (n+q12 r e) []) none none (λq hq=>by
    have hm:=(List.of_mem_zip hq).1;unfold q0d at hm;obtain⟨k,hk,hm⟩:=List.mem_flatMap.mp hm;rw[List.eq_of_mem_replicate hm,jo];exact⟨by omega,by rw[jx];exact List.mem_range.mp hk⟩) (λg hg=>by
    rw[List.eq_of_mem_replicate hg,xv];have:=kf (q0d taps rows (n+q12 r e)).length ts.length;exact jt (by simp;omega:_<1000) (by decide))
 rw[qfo (n+q12 r e) (by omega),List.map_replicate,jv]at hr;show qdw (qa7 _)=_;have hD:qa7 [schD r taps rows e,.int n,.lst (ts.map q10)]=some ((List.range (n+q12 r e)).map ((λg=>g.map objD)∘chunk taps rows ts)):=by
  unfold qa7 qax;refine(if_pos rfl).trans ?_;show(match qdr [some (schD r taps rows e),some (.int n),some (.lst (ts.map q10)),none,none,none]with
   | some (xs,ρ1)=>if 3<ρ1.length/\xs.length<=sizeLine then(match qe2 (ρ1.set 3 none) (List.replicate xs.length [])with
    |some p=>some p.2
    |none=>none)else none
   |none=>none)=_
  rw[hi];simp only;rw[if_pos ⟨by simp,by rw[q1j];exact q1h (by omega)⟩,q1j];have hb:qe2 [some (schD r taps rows e),some (.int n),some (.lst (ts.map q10)),none,none,none] (List.replicate (n+q12 r e) [])=some ([some (schD r taps rows e),some (.int n),some (.lst (ts.map q10)),none,u',v'],(List.range (n+q12 r e)).map ((λg=>g.map objD)∘chunk taps rows ts)):=by unfold qe2 qcl;rw[hzz];exact(if_pos rfl).trans hr
  have es:([some (schD r taps rows e),some (.int n),some (.lst (ts.map q10)),none,none,none]:Rho).set 3 none=[some (schD r taps rows e),some (.int n),some (.lst (ts.map q10)),none,none,none]:=rfl;rw[es,hb]
 rw[hD];show some (D.lst _)=some (D.lst _);rw[jv];rfl
theorem qrr(S:D)(k' za bit nx c:Int)(G S2 P:List D)(two:2<=sizeLine)(h1:f_y3 [S,.int za,.int bit]=some (.tup [.int nx,.tup S2]))(h2:f_y4 [S,.int k',.tup S2]=some (.tup P))(h3:f_y20 [.lst G,.tup P]=some (.int c)):f_y22 [S,.int k',.lst G,.int za,.int bit]=some (.tup [.int nx,.int c]):=by unfold f_y22 qk9;walk_at "ev"
theorem qtx(ok:q26 r taps rows e)(k:Nat)(ts:List Told)(hl:(chunk taps rows ts k).length<=1000)(za bit:Int)(a0:0<=za)(a1:za<2^r.toNat)(hb:bit=0∨bit=1):f_y22 [schD r taps rows e,.int k,.lst ((chunk taps rows ts k).map objD),.int za,.int bit]=some (mvD (mvK r taps rows ts k za bit)):=
 qrr _ _ _ _ _ _ _ _ _ (by decide) (p_y3 ok za bit a0 a1 hb) (qc0 ok k _ (by rw[j9];have:=ok.t4;omega)) (qij _ _ hl)
theorem qrv(S:D)(k' za:Int)(G BS YS:List D)(ll:BS.length<=sizeLine)(cm:q14 1 [0,1,2,3] none (gSet 0) (mRet true) (q0i f_y22 w0z) BS [some S,some (.int k'),some (.lst G),some (.int za),some (.tup BS)]=some (YS,[some S,some (.int k'),some (.lst G),some (.int za),some (.tup BS)])):f_y23 [S,.int k',.lst G,.int za,.tup BS]=some (.lst YS):=by unfold f_y23 qk8;walk_at "ev"
theorem qrw(S:D)(k' za b:Int)(G:List D)(y:D)(h:f_y22 [S,.int k',.lst G,.int za,.int b]=some y):((q0i f_y22 w0z) [some (.int b),some S,some (.int k'),some (.lst G),some (.int za)]).map (·.1)=some y:=by walk_at "ev"
theorem p_mf(ok:q26 r taps rows e)(k:Nat)(ts:List Told)(hl:(chunk taps rows ts k).length<=1000)(za:Int)(a0:0<=za)(a1:za<2^r.toNat)(n:Nat):f_y23 [schD r taps rows e,.int k,.lst ((chunk taps rows ts k).map objD),.int za,.tup ((q44 n k).map D.int)]=some (chD ((q44 n k).map λb=>mvK r taps rows ts k za b)):=by
 have l2:(q44 n k).length<=2:=by unfold q44;split<;>simp
 have hb:∀b∈q44 n k,b=0∨b=1:=by unfold q44;split<;>simp
 have cm:=q5y (n:=1) (js:=[0,1,2,3]) (fg:=gSet 0) (fe:=q0i f_y22 w0z)
  (ρ:=[some (schD r taps rows e),some (.int k),some (.lst ((chunk taps rows ts k).map objD)),some (.int za),some (.tup ((q44 n k).map D.int))]) (λd=>match d with|.int b=>mvD (mvK r taps rows ts k za b)|d=>d) ((q44 n k).map D.int) (λx hx=>by obtain⟨b,hm,rfl⟩:=List.mem_map.mp hx;exact⟨_,rfl,qrw _ _ _ _ _ _ (qtx ok k ts hl za b a0 a1 (hb b hm))⟩)
 rw[jv]at cm;have:=qrv _ _ _ _ _ _ (q1h (by rw[j9];omega)) cm;rw[this];unfold chD;rw[jv];rfl
theorem qit(S T:D)(n' k':Int)(F:List D)(g:D)(v6:Option D)(two:2<=sizeLine)(n k:Nat)(hn:n'=(n:Nat))(hk:k'=(k:Nat)):(sSet 6 (mIf (q0b (mOp2 dLt (mVar 4) (mVar 1))) (mTup w0r) (mTup (q00 (mRet (.int 0)) mNil)))) [some S,some (.int n'),some T,some (.lst F),some (.int k'),some g,v6]=some (.nx [some S,some (.int n'),some T,some (.lst F),some (.int k'),some g,some (.tup ((q44 n k).map D.int))]):=by
 have one:1<=sizeLine:=by decide
 unfold q44;by_cases h:k<n
 ·have h':k'<n':=by omega
  rw[if_pos h];show _=some (Out.nx [_,_,_,_,_,_,some (.tup [.int 0,.int 1])]);clear hn hk h;walk_at "ev"
 ·have h':¬k'<n':=by omega
  rw[if_neg h];show _=some (Out.nx [_,_,_,_,_,_,some (.tup [.int 0])]);clear hn hk h;walk_at "ev"
theorem qn0(S T:D)(n' k' M:Int)(F YS:List D)(g bs:D)(FE:RhD)(hr:f_y1 [S]=some (.int M))(bg:big M=true)(l1:(q1k 0 M.toNat).length<=sizeLine)(l2:F.length<sizeLine)
 (cm:q14 1 [0,4,5,6] none (gSet 0) (mRet true) FE (q1k 0 M.toNat) [some S,some (.int n'),some T,some (.lst F),some (.int k'),some g,some bs]=some (YS,[some S,some (.int n'),some T,some (.lst F),some (.int k'),some g,some bs])):
 (sMut q2l 3 (q00 (mOf (q20 1 [0,4,5,6] none (q3c w0y) (gSet 0) (mRet true) FE)) mNil)) [some S,some (.int n'),some T,some (.lst F),some (.int k'),some g,some bs]=some (.nx [some S,some (.int n'),some T,some (.lst (F++[.lst YS])),some (.int k'),some g,some bs]):=by
 walk_at "ev"
abbrev w14:=w2y
theorem qmz(S:D)(k' za:Int)(g bs y:D)(h:f_y23 [S,.int k',g,.int za,bs]=some y):((q0i f_y23 w14) [some (.int za),some S,some (.int k'),some g,some bs]).map (·.1)=some y:=by walk_at "ev"
theorem qmy(S:D)(n':Int)(T G F:List D)(v4 v5 v6:Option D)(FB:RhO)(z0:0<=sizeLine)(hc:f_y19 [S,.int n',.lst T]=some .non)(hg:f_y21 [S,.int n',.lst T]=some (.lst G))
 (l1:q1q (q1n 2 (q0c (gSet 4) (q0c (gSet 5) q1o))) FB (q3h G) [some S,some (.int n'),some (.lst T),some (.lst []),none,none,none]=some (.nx [some S,some (.int n'),some (.lst T),some (.lst F),v4,v5,v6])):
 (runP false 3 7 (sSeq (q6z (q0i f_y19 w09)) (sSeq (sOwn 3 (mLst mNil)) (sSeq (sFor (q5t (q0i f_y21 w09)) (q1n 2 (q0c (gSet 4) (q0c (gSet 5) q1o))) FB) (sRet (mVar 3)))))) [S,.int n',.lst T]=some (.lst F):=by
 walk_at "ev"
theorem qq7(ok:q26 r taps rows e)(n:Nat)(hn:n<=60)(h:e="ring"->r.toNat<=n)(ts:List Told)(hl:ts.length=(q0d taps rows (n+q12 r e)).length):
 f_y24 [schD r taps rows e,.int n,.lst (ts.map q10)]=some (stD (q13 r taps rows ts n 0 (n+q12 r e))):=by
 have z4:=q4y ok;have p16:=q30 ok.r0 ok.r4;have hc:=qim ok n hn h (ts.map q10) (by rw[j9];exact hl);have hg:=qty ok n hn h ts hl;have hr:=p_y1 ok;have pn:=q3j (r:=r);have s4:∀k,(selK taps rows k).length<=4:=λk=>by unfold selK;refine x9 (List.length_filter_le _ _) ?_;rw[xv];have:=ok.t4;have:=kf taps.length (rowAt rows k).length;omega
 have c4:∀k,(chunk taps rows ts k).length<=1000:=λk=>by unfold chunk;rw[xl];have:=s4 k;omega
 have bg:big ((2:Int)^r.toNat)=true:=by unfold big;simp;omega
 have tn:((2:Int)^r.toNat).toNat=2^r.toNat:=by omega
 have lr:(q1k 0 ((2:Int)^r.toNat).toNat).length<=sizeLine:=by rw[q1j,tn];exact q1h (by omega)
 obtain⟨ρ',l1,v4,v5,v6,hρ⟩:=q2x (fg:=q1n 2 (q0c (gSet 4) (q0c (gSet 5) q1o))) (fb:=w0c)
  (λk ρ=>∃v4 v5 v6,ρ=[some (schD r taps rows e),some (.int (n:Int)),some (.lst (ts.map q10)),some (.lst ((q13 r taps rows ts n 0 k).map sxD)),v4,v5,v6]) (q3h ((List.range (n+q12 r e)).map λk=>D.lst ((chunk taps rows ts k).map objD))) 0
  [some (schD r taps rows e),some (.int (n:Int)),some (.lst (ts.map q10)),some (.lst []),none,none,none] ⟨none,none,none,rfl⟩ (λi x ρ hx ⟨v4,v5,v6,hρ⟩=>by
   subst hρ;rw[q4s,je]at hx;have hi:i<n+q12 r e:=by
    rcases Nat.lt_or_ge i (n+q12 r e)with z|z
    ·exact z
    ·rw[xq (by simp;omega)]at hx;cases hx
   rw[xp hi]at hx;have hx:x=D.tup [.int (i:Int),.lst ((chunk taps rows ts i).map objD)]:=(jd hx).symm;subst hx;rw[jq];have cm:=q5y (n:=1) (js:=[0,4,5,6]) (fg:=gSet 0) (fe:=q0i f_y23 w14)
    (ρ:=[some (schD r taps rows e),some (.int (n:Int)),some (.lst (ts.map q10)),some (.lst ((q13 r taps rows ts n 0 i).map sxD)),some (.int (i:Int)),some (.lst ((chunk taps rows ts i).map objD)),some (.tup ((q44 n i).map D.int))])
    (λd=>match d with|.int za=>chD ((q44 n i).map λb=>mvK r taps rows ts i za b)|d=>d) (q1k 0 ((2:Int)^r.toNat).toNat) (λx hx=>by obtain⟨k,hk⟩:=List.mem_iff_getElem?.mp hx;obtain⟨hk1,rfl⟩:=q24 hk;rw[Int.zero_add];exact⟨_,rfl,qmz _ _ _ _ _ _ (p_mf ok i ts (c4 i) (k:Int) (by omega) (by omega) n)⟩)
   have ey:(q1k 0 ((2:Int)^r.toNat).toNat).map (λd=>match d with|.int za=>chD ((q44 n i).map λb=>mvK r taps rows ts i za b)|d=>d)=(stepK r taps rows ts n i).map chD:=by unfold q1k L2.stepK;rw[tn,jv,jv];refine List.map_congr_left λk _=>?_;simp
   rw[ey]at cm;have es:q13 r taps rows ts n 0 (i+1)=q13 r taps rows ts n 0 i++[stepK r taps rows ts n i]:=by unfold q13;rw[List.range'_concat,x8];simp
   have lf:((q13 r taps rows ts n 0 i).map sxD).length<sizeLine:=by unfold q13;rw[j9,j9,List.length_range'];exact jt (by omega:i<1000) (by decide)
   refine⟨_,[some (schD r taps rows e),some (.int (n:Int)),some (.lst (ts.map q10)),some (.lst ((q13 r taps rows ts n 0 (i+1)).map sxD)),some (.int (i:Int)),some (.lst ((chunk taps rows ts i).map objD)),some (.tup ((q44 n i).map D.int))],rfl,.inl ?_,_,_,_,rfl⟩;refine(q0y (qit _ _ _ _ _ _ _ (by decide) n i rfl rfl)).trans ?_;rw[es,x8];exact qn0 _ _ _ _ _ _ _ _ _ _ hr bg lr lf cm)
 subst hρ;have le:(q3h ((List.range (n+q12 r e)).map λk=>D.lst ((chunk taps rows ts k).map objD))).length=n+q12 r e:=by unfold q3h;simp
 rw[le,jq]at l1;unfold f_y24 qk7 stD;exact qmy _ _ _ _ _ _ _ _ _ (by decide) hc hg l1
end
theorem qof(y:D)(FM:RhD):(runP false 2 2 (sRet (mIf (q0b (mOp2 dIsN (mVar 0) (mRet .non))) (mVar 1) FM))) [.non,y]=some y:=by walk_at "ev"
theorem qoe(a:Int)(W y z:D)(FM:RhD)(h:FM [some (.tup [.int a,W]),some y]=some (z,[some (.tup [.int a,W]),some y])):(runP false 2 2 (sRet (mIf (q0b (mOp2 dIsN (mVar 0) (mRet .non))) (mVar 1) FM))) [.tup [.int a,W],y]=some z:=by walk_at "ev"
theorem qog(x y:D):(q00 (mVar 0) (q00 (mVar 1) mNil)) [some x,some y]=some ([x,y],[some x,some y]):=by walk_at "ev"
theorem qtw(o:Option (Int×List Int))(p:Int×List Int)(hl:∀q,o=some q->q.2.length=p.2.length):f_y27 [koD o,pairD p]=some (pairD (betP o p)):=by
 unfold f_y27 qk4;cases o with
 |none=>exact qof _ _
 |some q=>exact qoe _ _ _ _ _ (qny (qog _ _) (hl q rfl))
theorem ko_7(KN CB LG FD CH bit led m:D)(v7:Option D):w1f [some KN,some CB,some LG,some FD,some CH,some bit,some (.tup [led,m]),v7]=some (.nx [some KN,some CB,some LG,some FD,some CH,some bit,some (.tup [led,m]),some led]):=by walk_at "ev"
theorem ko_v(KN CB CH:D)(L W:List D)(bit led m c:Int)(o y:D)(two:2<=sizeLine)(one:1<=sizeLine)(lw:W.length+1<=sizeLine)(ho:atI L led=some o)(hb:f_y27 [o,.tup [.int (c+m),.lst (W++[.int bit])]]=some y):
 w00 [some KN,some CB,some (.lst L),some (.tup [.int c,.lst W]),some CH,some (.int bit),some (.tup [.int led,.int m]),some (.int led)]=some (y,[some KN,some CB,some (.lst L),some (.tup [.int c,.lst W]),some CH,some (.int bit),some (.tup [.int led,.int m]),some (.int led)]):=by
 walk_at "ev"
theorem ko_s(KN CB FD CH bit tk y:D)(L:List D)(led:Int)(i:Nat)(FM:RhD)(hm:FM [some KN,some CB,some (.lst L),some FD,some CH,some bit,some tk,some (.int led)]=some (y,[some KN,some CB,some (.lst L),some FD,some CH,some bit,some tk,some (.int led)]))(hi:ixN L.length led=some i):
 (q48 2 FM (mVar 7)) [some KN,some CB,some (.lst L),some FD,some CH,some bit,some tk,some (.int led)]=some (.nx [some KN,some CB,some (.lst (L.set i y)),some FD,some CH,some bit,some tk,some (.int led)]):=by
 rw[q6t,hm];show((ixN L.length led).map λm=>D.lst (L.set m y)).map _=_;rw[hi];rfl
theorem qut(KN CB LG CH:D)(v5 v6 v7:Option D)(FX:RhO):(sIf (q0b (mOp2 q2i (mVar 3) (mRet .non))) FX sNil) [some KN,some CB,some LG,some .non,some CH,v5,v6,v7]=some (.nx [some KN,some CB,some LG,some .non,some CH,v5,v6,v7]):=by walk_at "ev"
theorem qs2(KN CB LG LG' a W:D)(CH:List D)(v5 v6 v7 w5 w6 w7:Option D)(FB:RhO)(h:q1q (q1n 2 (q0c (gSet 5) (q0c (gSet 6) q1o))) FB (q3h CH) [some KN,some CB,some LG,some (.tup [a,W]),some (.lst CH),v5,v6,v7]=some (.nx [some KN,some CB,some LG',some (.tup [a,W]),some (.lst CH),w5,w6,w7])):
 (sIf (q0b (mOp2 q2i (mVar 3) (mRet .non))) (sFor (q5t (mVar 4)) (q1n 2 (q0c (gSet 5) (q0c (gSet 6) q1o))) FB) sNil) [some KN,some CB,some LG,some (.tup [a,W]),some (.lst CH),v5,v6,v7]=some (.nx [some KN,some CB,some LG',some (.tup [a,W]),some (.lst CH),w5,w6,w7]):=by
 walk_at "ev"
theorem qlf(KN:List D)(CB:D):(mOp1 dLen (mVar 0)) [some (.lst KN),some CB,none,none,none,none,none,none]=some (.int ((KN.length:Nat):Int),[some (.lst KN),some CB,none,none,none,none,none,none]):=by walk_at "ev"
theorem qle(KN:List D)(CB:D)(one:1<=sizeLine):(mLst (q00 (mRet .non) mNil)) [some (.lst KN),some CB,none,none,none,none,none,none]=some ([.non],[some (.lst KN),some CB,none,none,none,none,none,none]):=by walk_at "ev"
theorem qs3(KN CB Z L0 L:List D)(v3 v4 v5 v6 v7:Option D)(FR:RhL)(FB:RhO)(hr:FR [some (.lst KN),some (.lst CB),none,none,none,none,none,none]=some (L0,[some (.lst KN),some (.lst CB),none,none,none,none,none,none]))(hz:zipD KN CB=Z)(h:q1q (q1n 2 (q0c (gSet 3) (q0c (gSet 4) q1o))) FB Z [some (.lst KN),some (.lst CB),some (.lst L0),none,none,none,none,none]=some (.nx [some (.lst KN),some (.lst CB),some (.lst L),v3,v4,v5,v6,v7])):
 (runP true 2 8 (sSeq (sOwn 2 FR) (sSeq (sFor w15 (q1n 2 (q0c (gSet 3) (q0c (gSet 4) q1o))) FB) (q5b 2)))) [.lst KN,.lst CB]=some (.lst L):=by
 walk_at "ev"
def q2z(p:Int×List Int)(ch:List Mv):List (Int×(Int×List Int)):=ch.zipIdx.map λm=>(m.1.1,(p.1+m.1.2,p.2++[(m.2:Int)]))
theorem qhf{p:Int×List Int}{ch:List Mv}{i:Nat}{mv:Mv}(h:ch[i]? =some mv):(q2z p ch)[i]? =some (mv.1,(p.1+mv.2,p.2++[(i:Int)])):=by unfold q2z;rw[je,List.getElem?_zipIdx,h];simp
theorem q4t{p:Int×List Int}{ch:List Mv}{x:Int×(Int×List Int)}(h:x∈q2z p ch):x.2.2.length=p.2.length+1:=by unfold q2z at h;obtain⟨m,_,rfl⟩:=List.mem_map.mp h;show(p.2++[_]).length=_;rw[jl];rfl
theorem quu(KN CB:D)(p:Int×List Int)(ch:List Mv)(L0:Kr)(hch:∀q∈ch,0<=q.1/\q.1.toNat<L0.length)(hL:∀(q:Nat) (x:Int×List Int),L0[q]? =some (some x)->x.2.length=p.2.length+1)(hp:p.2.length<=900)(v5 v6 v7:Option D):
 ∃w5 w6 w7,q1q (q1n 2 (q0c (gSet 5) (q0c (gSet 6) q1o))) (sSeq w1f (q48 2 w00 (mVar 7))) (q3h (ch.map mvD)) [some KN,some CB,some (krD L0),some (pairD p),some (chD ch),v5,v6,v7]=some (.nx [some KN,some CB,some (krD ((q2z p ch).foldl putK L0)),some (pairD p),some (chD ch),w5,w6,w7]):=by
 have lc:(q2z p ch).length=ch.length:=by unfold q2z;rw[j9,List.length_zipIdx]
 obtain⟨ρ',l1,w5,w6,w7,hρ⟩:=q2x (fg:=q1n 2 (q0c (gSet 5) (q0c (gSet 6) q1o))) (fb:=(sSeq w1f
 (q48 2 w00 (mVar 7))))
   (λk ρ=>∃w5 w6 w7,ρ=[some KN,some CB,some (krD (((q2z p ch).take k).foldl putK L0)),some (pairD p),some (chD ch),w5,w6,w7]) (q3h (ch.map mvD)) 0 [some KN,some CB,some (krD L0),some (pairD p),some (chD ch),v5,v6,v7] ⟨v5,v6,v7,rfl⟩ (λi x ρ hx ⟨u5,u6,u7,hρ⟩=>by
     subst hρ;rw[jq];rw[q4s,je]at hx;cases hq:ch[i]? with
     |none=>rw[hq]at hx;cases hx
     | some mv=>
      rw[hq]at hx;cases hx;obtain⟨m0,m1⟩:=hch mv (xm hq);have lL:(((q2z p ch).take i).foldl putK L0).length=L0.length:=q4d _ _;have hw:∀(q:Nat) (y:Int×List Int),(((q2z p ch).take i).foldl putK L0)[q]? =some (some y)->y.2.length=p.2.length+1:=λq y h=>by
       rcases q3b _ _ _ _ h with g|⟨z,hz,_,g⟩
       ·exact hL q y g
       ·rw[<-g];exact q4t (List.mem_of_mem_take hz)
      rw[take_snoc (qhf (p:=p) hq),List.foldl_append];show∃ρ1 ρ2,_/\_/\∃w5 w6 w7,ρ2=[some KN,some CB,some (krD (putK (((q2z p ch).take i).foldl putK L0) (mv.1,(p.1+mv.2,p.2++[(i:Int)])))),some (pairD p),some (chD ch),w5,w6,w7];generalize ((q2z p ch).take i).foldl putK L0=L at lL hw;have hlt:mv.1.toNat<L.length:=by omega
      have ho:atI (L.map koD) mv.1=some (koD (L.getD mv.1.toNat none)):=by rw[q8d m0 (by rw[j9];omega),je,jz,jf hlt];rfl
      have hix:ixN (L.map koD).length mv.1=some mv.1.toNat:=by unfold ixN;rw[j9,if_pos m0,if_pos (by omega)]
      have hb:=qtw (L.getD mv.1.toNat none) (p.1+mv.2,p.2++[(i:Int)]) (λq e=>by rw[hw mv.1.toNat q (by rw[jf hlt];rw[jz,jf hlt]at e;exact congrArg some e)];show _=(p.2++[(i:Int)]).length;rw[jl];rfl)
      have e2:pairD (p.1+mv.2,p.2++[(i:Int)])=.tup [.int (p.1+mv.2),.lst (p.2.map D.int++[.int (i:Int)])]:=by unfold pairD;rw[x8];rfl
      rw[e2]at hb;have e3:krD (putK L (mv.1,(p.1+mv.2,p.2++[(i:Int)])))=.lst ((L.map koD).set mv.1.toNat (pairD (betP (L.getD mv.1.toNat none) (p.1+mv.2,p.2++[(i:Int)])))):=by unfold krD putK;rw[List.map_set];rfl
      rw[e3];exact⟨_,_,rfl,.inl ((q0y (ko_7 _ _ _ _ _ _ _ _ _)).trans (ko_s _ _ _ _ _ _ _ _ _ _ _ (ko_v _ _ _ _ _ _ _ _ _ _ _ (by decide) (by decide) (q1h (by rw[j9];omega)) ho hb) hix)),_,_,_,rfl⟩)
 subst hρ;have le:(q3h (ch.map mvD)).length=ch.length:=by unfold q3h;simp
 rw[le,jq,<-lc,List.take_length]at l1;exact⟨w5,w6,w7,l1⟩
def q3t(q:Option (Int×List Int)×List Mv):List (Int×(Int×List Int)):=match q.1 with
 |none=>[]
 |some p=>q2z p q.2
theorem qil(row:Kr)(st:Sx)(len:Nat)(hr:∀(q:Nat) (p:Int×List Int),row[q]? =some (some p)->p.2.length=len)(zd:len<=900)(hm:row.length<=1000)(hst:∀ch∈st,∀q∈ch,0<=q.1/\q.1.toNat<row.length):f_y28 [krD row,sxD st]=some (krD (q3a row st)):=by
 have hz:zipD (row.map koD) (st.map chD)=(row.zip st).map λq=>D.tup [koD q.1,chD q.2]:=by rw[q5m,q4x,jv];rfl
 have hrep:(mRep (mLst (q00 (mRet .non) mNil)) (mOp1 dLen (mVar 0))) [some (.lst (row.map koD)),some (.lst (st.map chD)),none,none,none,none,none,none]=some ((List.replicate row.length (none:Option (Int×List Int))).map koD,[some (.lst (row.map koD)),some (.lst (st.map chD)),none,none,none,none,none,none]):=by
  refine qbq (qle _ _ (by decide)) (qlf _ _) ?_;rw[j9];simp only[repO];rw[if_pos ⟨by omega,by omega,by rw[jx];exact q1h (by simp;omega)⟩,jx,List.map_replicate];congr 1;generalize row.length=m;induction m with
  |zero=>rfl
  |succ m ih=>rw[List.replicate_succ,List.flatten_cons,ih];rfl
 obtain⟨ρ',l1,v3,v4,v5,v6,v7,hρ⟩:=q2x (fg:=q1n 2 (q0c (gSet 3) (q0c (gSet 4) q1o))) (fb:=(sIf (q0b (mOp2 q2i (mVar 3) (mRet .non)))
  w2i
  sNil))
  (λk ρ=>∃v3 v4 v5 v6 v7,ρ=[some (.lst (row.map koD)),some (.lst (st.map chD)),some (krD ((((row.zip st).take k).flatMap q3t).foldl putK (List.replicate row.length none))),v3,v4,v5,v6,v7]) ((row.zip st).map λq=>D.tup [koD q.1,chD q.2]) 0
  [some (.lst (row.map koD)),some (.lst (st.map chD)),some (.lst ((List.replicate row.length (none:Option (Int×List Int))).map koD)),none,none,none,none,none] ⟨none,none,none,none,none,rfl⟩ (λi x ρ hx ⟨v3,v4,v5,v6,v7,hρ⟩=>by
   subst hρ;rw[jq];rw[je]at hx;cases hq:(row.zip st)[i]? with
   |none=>rw[hq]at hx;cases hx
   | some z=>
    rw[hq]at hx;cases hx;obtain⟨z1,z2⟩:=List.getElem?_zip_eq_some.mp hq;rw[take_snoc hq,List.flatMap_append,List.foldl_append];have e1:[z].flatMap q3t=q3t z:=by simp
    rw[e1];have lL:((((row.zip st).take i).flatMap q3t).foldl putK (List.replicate row.length none)).length=row.length:=by rw[q4d,jo]
    have hL:∀(q:Nat) (y:Int×List Int),((((row.zip st).take i).flatMap q3t).foldl putK (List.replicate row.length none))[q]? =some (some y)->y.2.length=len+1:=λq y h=>by
     rcases q3b _ _ _ _ h with g|⟨c,hc,_,g⟩
     ·rw[xr]at g;split at g<;>cases g
     ·obtain⟨w,hw,hc⟩:=List.mem_flatMap.mp hc;obtain⟨j,hj⟩:=List.mem_iff_getElem?.mp (List.mem_of_mem_take hw);obtain⟨j1,j2⟩:=List.getElem?_zip_eq_some.mp hj;unfold q3t at hc;split at hc
      ·cases hc
      ·rename_i p e;rw[e]at j1;rw[<-g,q4t hc,hr j p j1]
    generalize (((row.zip st).take i).flatMap q3t).foldl putK (List.replicate row.length none)=L at lL hL;obtain⟨o,ch⟩:=z;cases o with
    |none=>exact⟨_,_,rfl,.inl (qut _ _ _ _ _ _ _ _),_,_,_,_,_,rfl⟩
    | some p=>
     have hp:=hr i p z1;obtain⟨w5,w6,w7,hin⟩:=quu (.lst (row.map koD)) (.lst (st.map chD)) p ch L (λq hq=>by rw[lL];exact hst ch (xm z2) q hq) (by rw[hp];exact hL) (by omega) v5 v6 v7;exact⟨_,_,rfl,.inl (qs2 _ _ _ _ _ _ _ _ _ _ _ _ _ _ hin),_,_,_,_,_,rfl⟩)
 subst hρ;rw[j9,jq,List.take_length]at l1;have ec:(row.zip st).flatMap q3t=qbg row st:=rfl;rw[ec]at l1;unfold f_y28 qk3 krD sxD;exact qs3 _ _ _ _ _ _ _ _ _ _ _ _ hrep hz l1
theorem qv9(W O:D)(F:List D)(a b:Int)(h:(a==b)=false)(FM:RhO):(sSeq (sIf (q0b (mOp2 dNe (mVar 3) (mVar 4))) sBk sNil) FM) [some W,some O,some (.lst F),some (.int a),some (.int b)]=some (.bk [some W,some O,some (.lst F),some (.int a),some (.int b)]):=by walk_at "ev"
theorem qva(W O:D)(F:List D)(a:Int)(l:F.length<sizeLine):(sSeq (sIf (q0b (mOp2 dNe (mVar 3) (mVar 4))) sBk sNil) (sMut q2l 2 (q00 (mVar 3) mNil))) [some W,some O,some (.lst F),some (.int a),some (.int a)]=some (.nx [some W,some O,some (.lst (F++[.int a])),some (.int a),some (.int a)]):=by walk_at "ev"
theorem qhu(W O:D):∀(w o acc:List Int) (v3 v4:Option D),acc.length+w.length<=1000->∃w3 w4,q1q (q1n 2 (q0c (gSet 3) (q0c (gSet 4) q1o))) (sSeq (sIf (q0b (mOp2 dNe (mVar 3) (mVar 4))) sBk sNil) (sMut q2l 2 (q00 (mVar 3) mNil))) ((w.zip o).map λq=>D.tup [.int q.1,.int q.2]) [some W,some O,some (.lst (acc.map D.int)),v3,v4]=some (.nx [some W,some O,some (.lst ((acc++q2h w o).map D.int)),w3,w4])
 |[],o,acc,v3,v4,_=>⟨v3,v4,by rw[show q2h [] o=[]from by cases o<;>rfl,List.append_nil];rfl⟩
 |a::w,[],acc,v3,v4,_=>⟨v3,v4,by rw[show q2h (a::w) []=[]from rfl,List.append_nil];rfl⟩
 | a::w,b::o,acc,v3,v4,hl=>by
  rw[List.zip_cons_cons,xk];have hg:(q1n 2 (q0c (gSet 3) (q0c (gSet 4) q1o))) (D.tup [.int a,.int b]) [some W,some O,some (.lst (acc.map D.int)),v3,v4]=some [some W,some O,some (.lst (acc.map D.int)),some (.int a),some (.int b)]:=rfl;by_cases z:a=b
  ·subst z;have e1:q2h (a::w) (a::o)=a::q2h w o:=if_pos rfl;obtain⟨w3,w4,ih⟩:=qhu W O w o (acc++[a]) (some (.int a)) (some (.int a)) (by rw[jl];simp at hl ⊢;omega);refine⟨w3,w4,?_⟩;rw[e1,show acc++a::q2h w o=acc++[a]++q2h w o from by simp,<-ih];have hb:=qva W O (acc.map D.int) a (by rw[j9];exact jt (by simp at hl;omega:acc.length<2000) (by decide));rw[x8];simp only[q1q,hg];rw[hb];rfl
  ·have e1:q2h (a::w) (b::o)=[]:=if_neg z;refine⟨some (.int a),some (.int b),?_⟩;rw[e1,List.append_nil];simp only[q1q,hg];have hb:(sSeq (sIf (q0b (mOp2 dNe (mVar 3) (mVar 4))) sBk sNil) (sMut q2l 2 (q00 (mVar 3) mNil))) [some W,some O,some (.lst (acc.map D.int)),some (.int a),some (.int b)]=some (.bk [some W,some O,some (.lst (acc.map D.int)),some (.int a),some (.int b)]):=qv9 _ _ _ _ _ (beq_eq_false_iff_ne.mpr z) _;rw[hb]
theorem qtf(W O Z F:List D)(v3 v4:Option D)(FB:RhO)(z0:0<=sizeLine)(hz:zipD W O=Z)(h:q1q (q1n 2 (q0c (gSet 3) (q0c (gSet 4) q1o))) FB Z [some (.lst W),some (.lst O),some (.lst []),none,none]=some (.nx [some (.lst W),some (.lst O),some (.lst F),v3,v4])):
 (runP true 2 5 (sSeq (sOwn 2 (mLst mNil)) (sSeq (sFor w15 (q1n 2 (q0c (gSet 3) (q0c (gSet 4) q1o))) FB) (q5b 2)))) [.lst W,.lst O]=some (.lst F):=by
 walk_at "ev"
theorem qmd(w o:List Int)(hl:w.length<=1000):f_y30 [.lst (w.map D.int),.lst (o.map D.int)]=some (.lst ((q2h w o).map D.int)):=by obtain⟨w3,w4,h⟩:=qhu (.lst (w.map D.int)) (.lst (o.map D.int)) w o [] none none (by simpa using hl);unfold f_y30 qk2;exact qtf _ _ _ _ w3 w4 _ (by decide) (q9a w o) h
theorem quw(two:2<=sizeLine)(z0:0<=sizeLine):(w16 [some (.int 0)]).map (·.1)=some (.tup [.int 0,.lst []]):=by walk_at "ev"
theorem quv(k:Int)(h:(k==0)=false)(FX:RhD):((mIf w1b FX (mRet .non)) [some (.int k)]).map (·.1)=some .non:=by walk_at "ev"
theorem qs4(S:D)(M:Int)(Y:List D)(FE:RhD)(hr:f_y1 [S]=some (.int M))(bg:big M=true)(l1:(q1k 0 M.toNat).length<=sizeLine)(cm:q14 1 [] none (gSet 0) (mRet true) FE (q1k 0 M.toNat) [some S]=some (Y,[some S])):
 (runP false 1 1 (sRet (mOf (q20 1 [] none (q3c w0y) (gSet 0) (mRet true) FE)))) [S]=some (.lst Y):=by
 walk_at "ev"
theorem qqc(R TS RS E:D)(four:4<=sizeLine):f_y25 [.tup [R,TS,RS,E]]=some (.tup [R,TS,RS,.str "open"]):=by unfold f_y25 qk6;walk_at "ev"
theorem ke_3(S n T x:D)(h:f_y26 [S]=some x):w33 [some S,some n,some T,none,none]=some (.nx [some S,some n,some T,some x,none]):=by walk_at "ev"
theorem ke_t(S n T x st:D)(Y:List D)(h:f_y28 [x,st]=some (.lst Y)):w1e [some S,some n,some T,some x,some st]=some (.nx [some S,some n,some T,some (.lst Y),some st]):=by walk_at "ev"
theorem ke_l(S S' n T x y:D)(ST:List D)(v4:Option D)(FB:RhO)(ho:f_y25 [S]=some S')(hm:f_y24 [S',n,T]=some (.lst ST))(h:q1q (gSet 4) FB ST [some S,some n,some T,some x,none]=some (.nx [some S,some n,some T,some y,v4])):
 (sSeq (sFor w0e (gSet 4) FB) (sRet (mVar 3))) [some S,some n,some T,some x,none]=some (.rt y [some S,some n,some T,some y,v4]):=by
 walk_at "ev"
theorem se_t(d:D)(b:Bool)(h:q2i d .non=some (.bl b)):(q0b (mOp2 q2i (mVar 0) (mRet .non))) [some d]=some (b,[some d]):=by generalize q2i=F at h ⊢;walk_at "ev"
theorem se_e(a w:D):((mOp2 dIx (mVar 0) (mRet (.int 1))) [some (.tup [a,w])]).map (·.1)=some w:=by walk_at "ev"
theorem se_3(S n T:D)(KP WS:List D)(FT:RhB)(FE:RhD)(hk:f_y29 [S,n,T]=some (.lst KP))(lk:KP.length<=sizeLine)(cm:q14 1 [] none (gSet 0) FT FE KP [some S,some n,some T,none,none,none]=some (WS,[some S,some n,some T,none,none,none])):
 (sSet 3 (mOf (q20 1 [] none (mSeq (q0i f_y29 w09)) (gSet 0) FT FE))) [some S,some n,some T,none,none,none]=some (.nx [some S,some n,some T,some (.lst WS),none,none]):=by
 walk_at "ev"
theorem se_4(S n T w:D)(WS:List D)(h:atI WS 0=some w):w3s [some S,some n,some T,some (.lst WS),none,none]=some (.nx [some S,some n,some T,some (.lst WS),some w,none]):=by walk_at "ev"
theorem se_5(S n T WS w v:D)(Y:List D)(h:f_y30 [w,v]=some (.lst Y)):w22 [some S,some n,some T,some WS,some w,some v]=some (.nx [some S,some n,some T,some WS,some (.lst Y),some v]):=by walk_at "ev"
theorem se_l(S n T w y:D)(WS:List D)(v5:Option D)(FB:RhO)(h:q1q (gSet 5) FB WS [some S,some n,some T,some (.lst WS),some w,none]=some (.nx [some S,some n,some T,some (.lst WS),some y,v5])):
 (sSeq (sFor (mSeq (mVar 3)) (gSet 5) FB) (sRet (mVar 4))) [some S,some n,some T,some (.lst WS),some w,none]=some (.rt y [some S,some n,some T,some (.lst WS),some y,v5]):=by
 walk_at "ev"
def q3u(row:Kr):List (List Int):=row.filterMap λo=>o.map (·.2)
def q2o(row:Kr):List Int:=(q3u row).foldl q2h ((q3u row).headD [])
section
variable{r:Int}{taps:List Int}{rows:List (List Int)}{e:Str}
theorem qb8(ok:q26 r taps rows e):q26 r taps rows "open":={ok with en:=.inl rfl}
theorem qma:f_y25 [schD r taps rows e]=some (schD r taps rows "open"):=qqc _ _ _ _ (by decide)
theorem q78(ok:q26 r taps rows e):f_y26 [schD r taps rows e]=some (krD (q40 (2^r.toNat))):=by
 have p16:=q30 ok.r0 ok.r4;have pn:=q3j (r:=r);have bg:big ((2:Int)^r.toNat)=true:=by unfold big;simp;omega
 have tn:((2:Int)^r.toNat).toNat=2^r.toNat:=by omega
 have cm:=q5y (n:=1) (js:=[]) (fg:=gSet 0) (fe:=w16) (ρ:=[some (schD r taps rows e)])
  (λd=>match d with|.int k=>koD (if k=0 then some (0,[])else none)|d=>d) (q1k 0 ((2:Int)^r.toNat).toNat) (λx hx=>by
    obtain⟨k,hk⟩:=List.mem_iff_getElem?.mp hx;obtain⟨hk1,rfl⟩:=q24 hk;rw[Int.zero_add];refine⟨_,rfl,?_⟩;by_cases z:(k:Int)=0
    ·show _=some (koD (if(k:Int)=0 then some (0,[])else none));rw[if_pos z,z];exact quw (by decide) (by decide)
    ·show _=some (koD (if(k:Int)=0 then some (0,[])else none));rw[if_neg z];exact quv _ (beq_eq_false_iff_ne.mpr z) _)
 have ey:(q1k 0 ((2:Int)^r.toNat).toNat).map (λd=>match d with|.int k=>koD (if k=0 then some (0,[])else none)|d=>d)=(q40 (2^r.toNat)).map koD:=by
  unfold q1k q40;rw[tn,jv,jv];refine List.map_congr_left λk _=>?_;show koD (if(0:Int)+(k:Int)=0 then some (0,[])else none)=koD (if k=0 then some (0,[])else none);by_cases z:k=0
  ·rw[if_pos z,if_pos (by omega)]
  ·rw[if_neg z,if_neg (by omega)]
 rw[ey]at cm;unfold f_y26 qk5 krD;exact qs4 _ _ _ _ (p_y1 ok) bg (by rw[q1j,tn];exact q1h (by omega)) cm
theorem qlx(ts:List Told)(n:Nat){i:Nat}{len:Nat}(h:i<=len):(q13 r taps rows ts n 0 len).take i=q13 r taps rows ts n 0 i:=by
 apply List.ext_getElem?;intro j;rw[List.getElem?_take];unfold q13;by_cases z:j<i
 ·rw[if_pos z,je,je,List.getElem?_range' (by omega),List.getElem?_range' z]
 ·rw[if_neg z,xq (by rw[j9,List.length_range'];omega)]
theorem qtv(ok:q26 r taps rows e)(k:Nat)(hk:k<=60)(ts:List Told)(hl:ts.length=(q0d taps rows k).length):
 f_y29 [schD r taps rows e,.int k,.lst (ts.map q10)]=some (krD (q3z (2^r.toNat) (q13 r taps rows ts k 0 k))):=by
 have p16:=q30 ok.r0 ok.r4;have pn:=q3j (r:=r);have hz:q12 r "open"=0:=if_neg (by decide);have hm:=qq7 (qb8 ok) k hk (λq=>absurd q (by decide)) ts (by rw[hz];exact hl);rw[hz,Nat.add_zero]at hm;have kok:∀i,i<=k->q4v (r:=r) (taps:=taps) (rows:=rows) (ts:=ts) i ((q13 r taps rows ts k 0 i).foldl q3a (q40 (2^r.toNat))):=λi hi=>by have:=q91 (n:=k) i 0 _ (by omega) (q51 (r:=r) (taps:=taps) (rows:=rows) (ts:=ts));rw[jq]at this;exact this
 have ls:(q13 r taps rows ts k 0 k).length=k:=by unfold q13;rw[j9,List.length_range']
 obtain⟨ρ',l1,v4,hρ⟩:=q2x (fg:=gSet 4) (fb:=w1e)
  (λi ρ=>∃v4,ρ=[some (schD r taps rows e),some (.int (k:Int)),some (.lst (ts.map q10)),some (krD (((q13 r taps rows ts k 0 k).take i).foldl q3a (q40 (2^r.toNat)))),v4]) ((q13 r taps rows ts k 0 k).map sxD) 0
  [some (schD r taps rows e),some (.int (k:Int)),some (.lst (ts.map q10)),some (krD (q40 (2^r.toNat))),none] ⟨none,rfl⟩ (λi x ρ hx ⟨v4,hρ⟩=>by
   subst hρ;rw[jq];rw[je]at hx;cases hq:(q13 r taps rows ts k 0 k)[i]? with
   |none=>rw[hq]at hx;cases hx
   | some st=>
    rw[hq]at hx;cases hx;have hi:i<k:=by have:=(List.getElem?_eq_some_iff.mp hq).1;rw[ls]at this;exact this
    rw[take_snoc hq,List.foldl_append,qlx ts k (by omega:i<=k)];have K:=kok i (by omega);have est:st=stepK r taps rows ts k i:=by unfold q13 at hq;rw[je,List.getElem?_range' hi]at hq;simpa using hq.symm
    generalize (q13 r taps rows ts k 0 i).foldl q3a (q40 (2^r.toNat))=row at K;have hst:∀ch∈st,∀q∈ch,0<=q.1/\q.1.toNat<row.length:=λch hch q hq=>by rw[est]at hch;unfold L2.stepK at hch;obtain⟨za,_,rfl⟩:=List.mem_map.mp hch;obtain⟨b,_,rfl⟩:=List.mem_map.mp hq;have h1:(0:Int)<2^r.toNat:=Int.pow_pos (by decide);have h2:=Int.emod_nonneg (2*(za:Int)+b) (by omega:(2:Int)^r.toNat≠0);have h3:=Int.emod_lt_of_pos (2*(za:Int)+b) h1;rw[K.len];refine⟨h2,?_⟩;show((2*(za:Int)+b) % 2^r.toNat).toNat<_;omega
    have hon:=qil row st i (λq p h=>(K.is q p h).2.1) (by omega) (by rw[K.len];omega) hst;exact⟨_,_,rfl,.inl (ke_t _ _ _ _ _ _ hon),_,rfl⟩)
 subst hρ;rw[j9,jq,List.take_length]at l1;exact q4k rfl ⟨_,(q0y (ke_3 _ _ _ _ (q78 ok))).trans (ke_l _ _ _ _ _ _ _ _ _ qma hm l1)⟩
theorem qtu(ok:q26 r taps rows e)(k:Nat)(hk:k<=60)(ts:List Told)(hl:ts.length=(q0d taps rows k).length):
 f_y31 [schD r taps rows e,.int k,.lst (ts.map q10)]=some (.lst ((q2o (q3z (2^r.toNat) (q13 r taps rows ts k 0 k))).map D.int)):=by
 have p16:=q30 ok.r0 ok.r4;have pn:=q3j (r:=r);have hkept:=qtv ok k hk ts hl;have K:q4v (r:=r) (taps:=taps) (rows:=rows) (ts:=ts) k (q3z (2^r.toNat) (q13 r taps rows ts k 0 k)):=by have:=q91 (n:=k) k 0 _ (by omega) (q51 (r:=r) (taps:=taps) (rows:=rows) (ts:=ts));rw[jq]at this;exact this
 generalize q3z (2^r.toNat) (q13 r taps rows ts k 0 k)=row at hkept K;have cf:=q43 (n:=1) (js:=[]) (fg:=gSet 0) (ft:=q0b (mOp2 q2i (mVar 0) (mRet .non))) (fe:=(mOp2 dIx (mVar 0) (mRet (.int 1)))) (ρ:=[some (schD r taps rows e),some (.int (k:Int)),some (.lst (ts.map q10)),none,none,none])
  (λd=>match d with|.non=>false|_=>true) (λd=>match d with|.tup [_,w]=>w|d=>d) (row.map koD) (λx hx=>by
    obtain⟨o,_,rfl⟩:=List.mem_map.mp hx;cases o with
    |none=>exact⟨_,rfl,se_t _ _ rfl,λh=>nomatch h⟩
    |some p=>exact⟨_,rfl,se_t _ _ rfl,λ_=>se_e _ _⟩)
 have ew:∀row:Kr,((row.map koD).filter (λd=>match d with|.non=>false|_=>true)).map (λd=>match d with|.tup [_,w]=>w|d=>d)=(q3u row).map λw=>D.lst (w.map D.int):=λrow=>by
  induction row with
  |nil=>rfl
  | cons o row ih=>
   cases o with
   |none=>exact ih
   | some p=>
    show D.lst (p.2.map D.int)::_=D.lst (p.2.map D.int)::_;rw[ih];rfl
 rw[ew]at cf;have hword:∀w∈q3u row,w.length=k:=λw hw=>by
  obtain⟨o,ho,e1⟩:=List.mem_filterMap.mp hw;obtain⟨q,hq⟩:=List.mem_iff_getElem?.mp ho;cases o with
  |none=>cases e1
  | some p=>
   have e1:p.2=w:=jd e1;rw[<-e1];exact(K.is q p hq).2.1
 have hne:q3u row≠[]:=by obtain⟨p,h1,_⟩:=K.best (List.replicate k 0) (q99 _) jo;intro z;have:p.2∈q3u row:=List.mem_filterMap.mpr ⟨some p,xm h1,rfl⟩;rw[z]at this;cases this
 unfold q2o;generalize q3u row=ws at cf hword hne;obtain⟨w0,ws',rfl⟩:∃w0 ws',ws=w0::ws':=by
  cases ws with
  |nil=>exact absurd rfl hne
  |cons a b=>exact⟨a,b,rfl⟩
 have h0:=hword w0 jk;obtain⟨ρ',l1,v5,hρ⟩:=q2x (fg:=gSet 5) (fb:=w22)
  (λi ρ=>∃v5,ρ=[some (schD r taps rows e),some (.int (k:Int)),some (.lst (ts.map q10)),some (.lst ((w0::ws').map λw=>D.lst (w.map D.int))),some (.lst ((((w0::ws').take i).foldl q2h w0).map D.int)),v5]) ((w0::ws').map λw=>D.lst (w.map D.int)) 0
  [some (schD r taps rows e),some (.int (k:Int)),some (.lst (ts.map q10)),some (.lst ((w0::ws').map λw=>D.lst (w.map D.int))),some (.lst (w0.map D.int)),none] ⟨none,rfl⟩ (λi x ρ hx ⟨v5,hρ⟩=>by
   subst hρ;rw[jq];rw[je]at hx;cases hq:(w0::ws')[i]? with
   |none=>rw[hq]at hx;cases hx
   | some w=>
    rw[hq]at hx;cases hx;rw[take_snoc hq,List.foldl_append];have hle:=(q52 ((w0::ws').take i) w0).1.length_le;exact⟨_,_,rfl,.inl (se_5 _ _ _ _ _ _ _ (qmd _ w (by omega))),_,rfl⟩)
 subst hρ;rw[j9,jq,List.take_length]at l1;refine q4k rfl ⟨_,(q0y (se_3 _ _ _ _ _ _ _ hkept (q1h (by rw[j9,K.len];omega)) cf)).trans<|(q0y (se_4 _ _ _ _ _ (at0 _ _))).trans (se_l _ _ _ _ _ _ _ _ l1)⟩
end
theorem qh3{i:Nat}{fg:RhG}{f:Fk}(I:Nat->Rho->Kr->Prop):∀(xs:List D) (k:Nat) (ρ:Rho) (row:Kr),I k ρ row->(∀(j:Nat) (x:D) (ρ:Rho) (row:Kr),xs[j]? =some x->I (k+j) ρ row->∃ρ1 ρ2 row2,fg x ρ=some ρ1/\isFree ρ1 i=true/\f ρ1 row=some (ρ2,row2)/\I (k+j+1) ρ2 row2)->∃ρ' zf,q6f i fg f xs ρ row=some (ρ',zf)/\I (k+xs.length) ρ' zf
 |[],k,ρ,row,h,_=>⟨ρ,row,rfl,h⟩
 | x::xs,k,ρ,row,h,st=>by
  obtain⟨ρ1,ρ2,row2,e1,e2,e3,h2⟩:=st 0 x ρ row rfl h;obtain⟨ρ',zf,e4,h4⟩:=qh3 I xs (k+1) ρ2 row2 h2 (λj y ρ row hj hI=>by
   have e:k+1+j=k+(j+1):=by omega
   rw[e]at hI ⊢;exact st (j+1) y ρ row hj hI)
  refine⟨ρ',zf,?_,by rw[ju,show k+(xs.length+1)=k+1+xs.length from by omega];exact h4⟩;unfold q6f;rw[e1];dsimp only;rw[if_pos e2,e3];exact e4
theorem kd_7(KN CB FD CH bit led m:D)(v7:Option D):(mOp2 dIx (mVar 6) (mRet (.int 0))) [some KN,some CB,none,some FD,some CH,some bit,some (.tup [led,m]),v7]=some (led,[some KN,some CB,none,some FD,some CH,some bit,some (.tup [led,m]),v7]):=by walk_at "ev"
theorem kd_a(KN CB W CH bit led:D)(c m:Int)(v7:Option D):w06 [some KN,some CB,none,some (.tup [.int c,W]),some CH,some bit,some (.tup [led,.int m]),v7]=some (.int (c+m),[some KN,some CB,none,some (.tup [.int c,W]),some CH,some bit,some (.tup [led,.int m]),v7]):=by walk_at "ev"
theorem kd_w(KN CB c CH bit tk:D)(W:List D)(v7:Option D)(one:1<=sizeLine)(lw:W.length+1<=sizeLine):w2z [some KN,some CB,none,some (.tup [c,.lst W]),some CH,some bit,some tk,v7]=some (W++[bit],[some KN,some CB,none,some (.tup [c,.lst W]),some CH,some bit,some tk,v7]):=by walk_at "ev"
theorem qsa(KN CB CH:D)(p:Int×List Int)(led m bit:Int)(v7:Option D)(row:Kr)(h0:0<=led)(hl:led.toNat<row.length)(ho:∀q,row[led.toNat]? =some (some q)->q.2.length=p.2.length+1)(lw:p.2.length+1<=sizeLine):
 q7q [some KN,some CB,none,some (pairD p),some CH,some (.int bit),some (.tup [.int led,.int m]),v7] row=some ([some KN,some CB,none,some (pairD p),some CH,some (.int bit),some (.tup [.int led,.int m]),some (.int led)],putK row (led,(p.1+m,p.2++[bit]))):=by
 unfold q7q;have e7:=kd_7 KN CB (pairD p) CH (.int bit) (.int led) (.int m) v7;have e1:qh4 2 7 (mOp2 dIx (mVar 6) (mRet (.int 0))) [some KN,some CB,none,some (pairD p),some CH,some (.int bit),some (.tup [.int led,.int m]),v7] row=some ([some KN,some CB,none,some (pairD p),some CH,some (.int bit),some (.tup [.int led,.int m]),some (.int led)],row):=by unfold qh4;rw[e7];rfl
 have ea:=kd_a KN CB (.lst (p.2.map D.int)) CH (.int bit) (.int led) p.1 m (some (.int led));have ew:=kd_w KN CB (.int p.1) CH (.int bit) (.tup [.int led,.int m]) (p.2.map D.int) (some (.int led)) (by decide) (by rw[j9];exact lw);have em:p.2.map D.int++[.int bit]=(p.2++[bit]).map D.int:=by rw[x8];rfl
 rw[em]at ew;unfold qjh;rw[e1];show qh5 2 7 _ _ [some KN,some CB,none,some (.tup [.int p.1,.lst (p.2.map D.int)]),some CH,some (.int bit),some (.tup [.int led,.int m]),some (.int led)] row=_;unfold qh5;rw[show([some KN,some CB,none,some (.tup [.int p.1,.lst (p.2.map D.int)]),some CH,some (.int bit),some (.tup [.int led,.int m]),some (.int led)]:Rho)[7]? =some (some (.int led))from rfl,ea];dsimp only;rw[ew];dsimp only;rw[q2n,jf hl,show([some KN,some CB,none,some (.tup [.int p.1,.lst (p.2.map D.int)]),some CH,some (.int bit),some (.tup [.int led,.int m]),some (.int led)]:Rho)[7]? =some (some (.int led))from rfl];dsimp only;have hq:∀q∈row[led.toNat],q.2.length=(p.2++[bit]).length:=λq hq=>by rw[ho q (by rw[jf hl];exact congrArg some hq),jl];rfl
 rw[if_pos ⟨rfl,rfl,rfl,h0,hq⟩];rfl
theorem kd_e(KN CB FD:D)(CH:List D)(v5 v6 v7:Option D):(q5t (mVar 4)) [some KN,some CB,none,some FD,some (.lst CH),v5,v6,v7]=some (q3h CH,[some KN,some CB,none,some FD,some (.lst CH),v5,v6,v7]):=by walk_at "ev"
theorem quy(KN CB:D)(p:Int×List Int)(ch:List Mv)(L0:Kr)(hch:∀q∈ch,0<=q.1/\q.1.toNat<L0.length)(hL:∀(q:Nat) (x:Int×List Int),L0[q]? =some (some x)->x.2.length=p.2.length+1)(hp:p.2.length<=900)(v5 v6 v7:Option D):
 ∃w5 w6 w7,q6g 2 (q1n 2 (q0c (gSet 5) (q0c (gSet 6) q1o))) (q5t (mVar 4)) q7q [some KN,some CB,none,some (pairD p),some (chD ch),v5,v6,v7] L0=some ([some KN,some CB,none,some (pairD p),some (chD ch),w5,w6,w7],(q2z p ch).foldl putK L0):=by
 have lc:(q2z p ch).length=ch.length:=by unfold q2z;rw[j9,List.length_zipIdx]
 obtain⟨ρ',zf,l1,w5,w6,w7,hρ,hr⟩:=qh3 (i:=2) (fg:=q1n 2 (q0c (gSet 5) (q0c (gSet 6) q1o))) (f:=q7q)
  (λk ρ row=>∃w5 w6 w7,ρ=[some KN,some CB,none,some (pairD p),some (chD ch),w5,w6,w7]/\row=((q2z p ch).take k).foldl putK L0) (q3h (ch.map mvD)) 0 [some KN,some CB,none,some (pairD p),some (chD ch),v5,v6,v7] L0 ⟨v5,v6,v7,rfl,rfl⟩ (λi x ρ row hx ⟨u5,u6,u7,hρ,hr⟩=>by
    subst hρ;rw[jq]at hr ⊢;rw[q4s,je]at hx;cases hq:ch[i]? with
    |none=>rw[hq]at hx;cases hx
    | some mv=>
     rw[hq]at hx;cases hx;have hm:=hch mv (xm hq);have ll:row.length=L0.length:=by rw[hr,q4d]
     have hw:∀q,row[mv.1.toNat]? =some (some q)->q.2.length=p.2.length+1:=λq h=>by
      rw[hr]at h;rcases q3b _ _ _ _ h with g|⟨c,hc,_,g⟩
      ·exact hL _ _ g
      ·rw[<-g];exact q4t (List.mem_of_mem_take hc)
     refine⟨_,_,_,rfl,rfl,qsa KN CB (chD ch) p mv.1 mv.2 (i:Int) u7 row hm.1 (by rw[ll];exact hm.2) hw (q1h (by omega)),_,_,_,rfl,?_⟩;rw[take_snoc (qhf hq),List.foldl_append,<-hr];rfl)
 subst hρ;have le:(q3h (ch.map mvD)).length=ch.length:=by unfold q3h;simp
 rw[le,jq,<-lc,List.take_length]at hr;subst hr;refine⟨w5,w6,w7,?_⟩;unfold q6g;rw[show chD ch=.lst (ch.map mvD)from rfl]at l1 ⊢;rw[kd_e];exact l1
theorem kd_t(KN CB d CH:D)(b:Bool)(v5 v6 v7:Option D)(h:q2i d .non=some (.bl b)):(q0b (mOp2 q2i (mVar 3) (mRet .non))) [some KN,some CB,none,some d,some CH,v5,v6,v7]=some (b,[some KN,some CB,none,some d,some CH,v5,v6,v7]):=by generalize q2i=F at h ⊢;walk_at "ev"
theorem kd_z(KN CB:List D):w15 [some (.lst KN),some (.lst CB),none,none,none,none,none,none]=some (zipD KN CB,[some (.lst KN),some (.lst CB),none,none,none,none,none,none]):=by walk_at "ev"
theorem qux(row:Kr)(st:Sx)(len:Nat)(hr:∀(q:Nat) (p:Int×List Int),row[q]? =some (some p)->p.2.length=len)(zd:len<=900)(hm:row.length<=1000)(hst:∀ch∈st,∀q∈ch,0<=q.1/\q.1.toNat<row.length):qa6 [krD row,sxD st]=some (q3a row st):=by
 have hz:zipD (row.map koD) (st.map chD)=(row.zip st).map λq=>D.tup [koD q.1,chD q.2]:=by rw[q5m,q4x,jv];rfl
 have hrep:qlq [some (.lst (row.map koD)),some (.lst (st.map chD)),none,none,none,none,none,none]=some (List.replicate row.length .non,[some (.lst (row.map koD)),some (.lst (st.map chD)),none,none,none,none,none,none]):=by
  refine qbq (qle _ _ (by decide)) (qlf _ _) ?_;rw[j9];simp only[repO];rw[if_pos ⟨by omega,by omega,by rw[jx];exact q1h (by simp;omega)⟩,jx];congr 1;generalize row.length=m;induction m with
  |zero=>rfl
  |succ m ih=>rw[List.replicate_succ,List.flatten_cons,ih];rfl
 obtain⟨ρ',zf,l1,v3,v4,v5,v6,v7,hρ,hrow⟩:=qh3 (i:=2) (fg:=q1n 2 (q0c (gSet 3) (q0c (gSet 4) q1o))) (f:=(fkIf 2 (q0b (mOp2 q2i (mVar 3) (mRet .non))) (q6g 2 (q1n 2 (q0c (gSet 5) (q0c (gSet 6) q1o))) (q5t (mVar 4)) q7q) qnl))
  (λk ρ L=>∃v3 v4 v5 v6 v7,ρ=[some (.lst (row.map koD)),some (.lst (st.map chD)),none,v3,v4,v5,v6,v7]/\L=(((row.zip st).take k).flatMap q3t).foldl putK (List.replicate row.length none)) ((row.zip st).map λq=>D.tup [koD q.1,chD q.2]) 0
  [some (.lst (row.map koD)),some (.lst (st.map chD)),none,none,none,none,none,none] (List.replicate row.length none) ⟨none,none,none,none,none,rfl,rfl⟩ (λi x ρ L hx ⟨v3,v4,v5,v6,v7,hρ,hLe⟩=>by
   subst hρ;rw[jq]at hLe ⊢;rw[je]at hx;cases hq:(row.zip st)[i]? with
   |none=>rw[hq]at hx;cases hx
   | some z=>
    rw[hq]at hx;cases hx;obtain⟨z1,z2⟩:=List.getElem?_zip_eq_some.mp hq;rw[take_snoc hq,List.flatMap_append,List.foldl_append,<-hLe];have e1:[z].flatMap q3t=q3t z:=by simp
    rw[e1];have lL:L.length=row.length:=by rw[hLe,q4d,jo]
    have hL:∀(q:Nat) (y:Int×List Int),L[q]? =some (some y)->y.2.length=len+1:=λq y h=>by
     rw[hLe]at h;rcases q3b _ _ _ _ h with g|⟨c,hc,_,g⟩
     ·rw[xr]at g;split at g<;>cases g
     ·obtain⟨w,hw,hc⟩:=List.mem_flatMap.mp hc;obtain⟨j,hj⟩:=List.mem_iff_getElem?.mp (List.mem_of_mem_take hw);obtain⟨j1,j2⟩:=List.getElem?_zip_eq_some.mp hj;unfold q3t at hc;split at hc
      ·cases hc
      ·rename_i p e;rw[e]at j1;rw[<-g,q4t hc,hr j p j1]
    obtain⟨o,ch⟩:=z;cases o with
    | none=>
     refine⟨_,[some (.lst (row.map koD)),some (.lst (st.map chD)),none,some .non,some (chD ch),v5,v6,v7],L,(rfl:_=some [some (.lst (row.map koD)),some (.lst (st.map chD)),none,some .non,some (chD ch),v5,v6,v7]),rfl,?_,some .non,some (chD ch),v5,v6,v7,rfl,rfl⟩;unfold fkIf;rw[kd_t _ _ .non _ false _ _ _ rfl];rfl
    | some p=>
     have hp:=hr i p z1;obtain⟨w5,w6,w7,hin⟩:=quy (.lst (row.map koD)) (.lst (st.map chD)) p ch L (λq hq=>by rw[lL];exact hst ch (xm z2) q hq) (by rw[hp];exact hL) (by omega) v5 v6 v7;refine⟨_,[some (.lst (row.map koD)),some (.lst (st.map chD)),none,some (pairD p),some (chD ch),w5,w6,w7],(q2z p ch).foldl putK L,(rfl:_=some [some (.lst (row.map koD)),some (.lst (st.map chD)),none,some (pairD p),some (chD ch),v5,v6,v7]),rfl,?_,some (pairD p),some (chD ch),w5,w6,w7,rfl,rfl⟩;unfold fkIf;rw[kd_t _ _ (pairD p) _ true _ _ _ rfl];exact hin)
 subst hρ;rw[j9,jq,List.take_length]at hrow;subst hrow;have ec:(row.zip st).flatMap q3t=qbg row st:=rfl;rw[ec]at l1;have ea:(List.replicate row.length D.non).all qgu=true:=by rw[List.all_eq_true];intro x hx;rw[List.eq_of_mem_replicate hx];rfl
 have eb:qcv [some (.lst (row.map koD)),some (.lst (st.map chD)),none,none,none,none,none,none] (List.replicate row.length none)=some ([some (.lst (row.map koD)),some (.lst (st.map chD)),none,v3,v4,v5,v6,v7],q3a row st):=by unfold qcv q6g;rw[kd_z,hz];exact l1
 unfold qa6 krD sxD;exact qjd hrep ⟨by show 2<8;decide,ea⟩ (by rw[jo];exact eb)
theorem kd_r(S:D)(M:Int)(hr:f_y1 [S]=some (.int M)):w0y [some S]=some ([.int M],[some S]):=by walk_at "ev"
theorem qde(n:Nat):q1k 0 n=((List.range n).map λ(k:Nat)=>(k:Int)).map D.int:=by unfold q1k;rw[jv];refine List.map_congr_left λk _=>?_;show D.int (0+(k:Int))=_;rw[Int.zero_add];rfl
section
variable{r:Int}{taps:List Int}{rows:List (List Int)}{e:Str}
theorem qj6(ok:q26 r taps rows e):qcm [schD r taps rows e]=some (q40 (2^r.toNat)):=by
 have p16:=q30 ok.r0 ok.r4;have pn:=q3j (r:=r);have bg:big ((2:Int)^r.toNat)=true:=by unfold big;simp;omega
 have tn:((2:Int)^r.toNat).toNat=2^r.toNat:=by omega
 have hI:=qkr (kd_r _ _ (p_y1 ok)) bg;rw[tn,qde]at hI;unfold qcm;rw[qje hI (by rw[j9,List.length_range];exact jt (by omega:2^r.toNat<1000) (by decide))];refine congrArg some ?_;unfold q40;rw[jv];refine List.map_congr_left λk _=>?_;show ko0 (k:Int)=_;unfold ko0;by_cases z:k=0
 ·rw[if_pos z,if_pos (by omega)]
 ·rw[if_neg z,if_neg (by omega)]
theorem kd_m(S S' n T:D)(ST:List D)(ho:f_y25 [S]=some S')(hm:f_y24 [S',n,T]=some (.lst ST)):w0e [some S,some n,some T,none,none]=some (ST,[some S,some n,some T,none,none]):=by walk_at "ev"
theorem qcj{g:List D->Option Kr}(I:Nat->Kr->Prop):∀(zh:List Sx) (k:Nat) (row:Kr),I k row->(∀(j:Nat) (st:Sx) (row:Kr),zh[j]? =some st->I (k+j) row->g [krD row,sxD st]=some (q3a row st)/\I (k+j+1) (q3a row st))->q7v g (zh.map sxD) row=some (zh.foldl q3a row)
 |[],_,_,_,_=>rfl
 | st::zh,k,row,h,hs=>by
  obtain⟨h1,h2⟩:=hs 0 st row rfl h;have ih:=qcj I zh (k+1) (q3a row st) h2 (λj y row hj hI=>by
   have e:k+1+j=k+(j+1):=by omega
   rw[e]at hI ⊢;exact hs (j+1) y row hj hI)
  rw[xk];unfold q7v;rw[h1];exact ih
theorem qtl(ok:q26 r taps rows e)(k:Nat)(hk:k<=60)(ts:List Told)(hl:ts.length=(q0d taps rows k).length):
 q7i [schD r taps rows e,.int k,.lst (ts.map q10)]=some (q3z (2^r.toNat) (q13 r taps rows ts k 0 k)):=by
 have p16:=q30 ok.r0 ok.r4;have pn:=q3j (r:=r);have hz:q12 r "open"=0:=if_neg (by decide);have hm:=qq7 (qb8 ok) k hk (λq=>absurd q (by decide)) ts (by rw[hz];exact hl);rw[hz,Nat.add_zero]at hm;have ls:(q13 r taps rows ts k 0 k).length=k:=by unfold q13;rw[j9,List.length_range']
 have hf:=qcj (g:=qa6) (λi row=>q4v (r:=r) (taps:=taps) (rows:=rows) (ts:=ts) i row) (q13 r taps rows ts k 0 k) 0 (q40 (2^r.toNat)) (q51 (r:=r) (taps:=taps) (rows:=rows) (ts:=ts)) (λi st row hq K=>by
  rw[jq]at K ⊢;have hi:i<k:=by have:=(List.getElem?_eq_some_iff.mp hq).1;rw[ls]at this;exact this
  have est:st=stepK r taps rows ts k i:=by unfold q13 at hq;rw[je,List.getElem?_range' hi]at hq;simpa using hq.symm
  have hst:∀ch∈st,∀q∈ch,0<=q.1/\q.1.toNat<row.length:=λch hch q hq=>by rw[est]at hch;unfold L2.stepK at hch;obtain⟨za,_,rfl⟩:=List.mem_map.mp hch;obtain⟨b,_,rfl⟩:=List.mem_map.mp hq;have h1:(0:Int)<2^r.toNat:=Int.pow_pos (by decide);have h2:=Int.emod_nonneg (2*(za:Int)+b) (by omega:(2:Int)^r.toNat≠0);have h3:=Int.emod_lt_of_pos (2*(za:Int)+b) h1;rw[K.len];refine⟨h2,?_⟩;show((2*(za:Int)+b) % 2^r.toNat).toNat<_;omega
  refine⟨qux row st i (λq p h=>(K.is q p h).2.1) (by omega) (by rw[K.len];omega) hst,?_⟩;rw[est];exact qa2 hi K)
 unfold q7i;exact qjf (qj6 ok) (kd_m _ _ _ _ _ qma hm) ⟨rfl,by show 4<5;decide⟩ hf
end
def nxK(s:Int):Int:=(s*1181783497276652981+12345678910987) % 2305843009213693951
def drK(s m:Int):Int:=nxK s / 65537 % m
theorem q7k(s:Int){m:Int}(h:0<m):0<=drK s m:=Int.emod_nonneg _ (by omega)
theorem q7l(s:Int){m:Int}(h:0<m):drK s m<m:=Int.emod_lt_of_pos _ h
theorem q6a(s m:Int)(h:0<m):f_y34 [.int s] [.int m]=some (.int (drK s m),[.int (nxK s)]):=by unfold f_y34 qk0;walk_at "ev";simp[nxK,drK]
theorem qe6(c k:Int)(one:1<=sizeLine):f_y33 [.int c,.int k]=some (.lst [.int ((c % 10^60*7368787+1000003*k+17) % 2305843009213693951)]):=by unfold f_y33 qk1;walk_at "ev"
theorem cell_in(N:List D)(k x:Int)(h:k<(N.length:Nat))(h0:0<=k)(ha:atI N k=some (.int x)):f_y32 [.lst N,.int k]=some (.int (x % 10^60)):=by unfold f_y32 qho;walk_at "ev"
theorem cell_out(N:List D)(k:Int)(h:¬k<(N.length:Nat)):f_y32 [.lst N,.int k]=some (.int 0):=by unfold f_y32 qho;walk_at "ev"
theorem q8g(ns:List Int)(k:Int)(h0:0<=k):∃c:Int,f_y32 [.lst (ns.map D.int),.int k]=some (.int c):=by
 by_cases h:k<ns.length
 ·refine⟨ns[k.toNat] % 10^60,cell_in _ _ _ (by rw[j9];omega) h0 ?_⟩;rw[q8d (by omega) (by rw[j9];omega),je,jf (by omega)];rfl
 ·exact⟨0,cell_out _ _ (by rw[j9];omega)⟩
theorem s0(s x m:Int)(E:D)(nine:9<=sizeLine)(hx:atI [D.int 0,D.int 1,D.int 2,D.int 2,D.int 3,D.int 1,D.int 2,D.int 3,D.int 4] (drK s 9)=some (.int x))(hm:(if x<4 then x else 4)=m):
 (sSet 3 (mMM (λi j=>if j<i then j else i) w0j)) [some (.lst [.int s]),some (.int 4),some E,none,none,none,none]=some (.nx [some (.lst [.int (nxK s)]),some (.int 4),some E,some (.int m),none,none,none]):=by
 have h:=q6a s 9 (by decide);rw[<-hm];clear hm;walk_at "ev"
theorem s1e(x s m:Int)(r:Int)(hm:dShl (.int 2) (.int r)=some (.int m))(h0:0<m):(q1w f_y34 1 (q00 (mOp2 dShl (mRet (.int 2)) (mVar 2)) mNil)) [some (.int x),some (.lst [.int s]),some (.int r)]=some (.int (drK s m),[some (.int x),some (.lst [.int (nxK s)]),some (.int r)]):=by have h:=q6a s m h0;generalize dShl=SH at hm ⊢;walk_at "ev"
theorem s1r(s:Int)(v1 v2 v3 v4 v5 v6:Option D):w1j [some (.lst [.int s]),v1,v2,v3,v4,v5,v6]=some ([.int (1+drK s 4)],[some (.lst [.int (nxK s)]),v1,v2,v3,v4,v5,v6]):=by have h:=q6a s 4 (by decide);walk_at "ev"
theorem s1x(s s1 s2 r:Int)(E:D)(X Y:List D)(FI:RhL)(FE:RhD)(lx:X.length<=sizeLine)
 (hI:FI [some (.lst [.int s]),some (.int 4),some E,some (.int r),none,none,none]=some (X,[some (.lst [.int s1]),some (.int 4),some E,some (.int r),none,none,none]))
 (cm:q14 1 [0,3] (some (0,1)) (gSet 0) (mRet true) FE X [some (.lst [.int s1]),some (.int 4),some E,some (.int r),none,none,none]=some (Y,[some (.lst [.int s2]),some (.int 4),some E,some (.int r),none,none,none])):
 (sSet 4 (mOf (q20 1 [0,3] (some (0,1)) FI (gSet 0) (mRet true) FE))) [some (.lst [.int s]),some (.int 4),some E,some (.int r),none,none,none]=some (.nx [some (.lst [.int s2]),some (.int 4),some E,some (.int r),some (.lst Y),none,none]):=by
 walk_at "ev"
theorem q49{ρ ρ1:Rho}{fs:RhL}{n:Int}(h:fs ρ=some ([.int n],ρ1))(n0:0<=n)(n1:n<=1000):q3c fs ρ=some (q1k 0 n.toNat,ρ1):=by refine qkr h ?_;unfold big;simp;omega
theorem s1(s r:Int)(E:D)(r0:0<=r)(r4:r<=4):∃(ts:List Int) (s':Int),(sSet 4 (mOf (q20 1 [0,3] (some (0,1)) (q3c w1j) (gSet 0) (mRet true) (q1w f_y34 1 (q00 (mOp2 dShl (mRet (.int 2)) (mVar 2)) mNil))))) [some (.lst [.int s]),some (.int 4),some E,some (.int r),none,none,none]=some (.nx [some (.lst [.int s']),some (.int 4),some E,some (.int r),some (.lst (ts.map D.int)),none,none])
 /\1<=ts.length/\ts.length<=4/\∀t∈ts,0<=t/\t<2*2^r.toNat:=by
 have d0:=q7k s (m:=4) (by decide);have d3:=q7l s (m:=4) (by decide);have zz:(0:Int)<2*2^r.toNat:=Int.mul_pos (by decide) (Int.pow_pos (by decide));have hsh:dShl (.int 2) (.int r)=some (.int (2*2^r.toNat)):=by
  have r6:r<=1000000:=by omega
  simp[dShl,dI2,qb9,r0,r6]
 obtain⟨ys,s2,c1,c2,c3⟩:=q6u (n:=1) (p:=0) (q:=1) (js:=[0,3]) (fg:=gSet 0) (fe:=q1w f_y34 1 (q00 (mOp2 dShl (mRet (.int 2)) (mVar 2)) mNil))
  (λs:Int=>[some (.lst [.int s]),some (.int 4),some E,some (.int r),none,none,none]) (λy=>∃t:Int,y=.int t/\0<=t/\t<2*2^r.toNat) (q1k 0 (1+drK s 4).toNat) (λx hx s=>by obtain⟨k,hk⟩:=List.mem_iff_getElem?.mp hx;obtain⟨_,rfl⟩:=q24 hk;exact⟨[some (.int (0+(k:Int))),some (.lst [.int s]),some (.int r)],[some (.int (0+(k:Int))),some (.lst [.int (nxK s)]),some (.int r)],.int (drK s (2*2^r.toNat)),nxK s,rfl,s1e _ _ _ _ hsh zz,rfl,_,rfl,q7k s zz,q7l s zz⟩) (nxK s)
 obtain⟨ts,rfl,tb⟩:=q92 c3;rw[j9,q1j]at c2;exact⟨ts,s2,s1x _ _ _ _ _ _ _ _ _ (by rw[q1j];exact q1h (by omega)) (q49 (s1r _ _ _ _ _ _ _) (by omega) (by omega)) c1,by omega,by omega,tb⟩
abbrev w0t:=w3a
theorem s4e(x s:Int)(h:(0:Int)<4):(mOp1 dInt w0t) [some (.int x),some (.lst [.int s])]=some (.int (if drK s 4>0 then 1 else 0),[some (.int x),some (.lst [.int (nxK s)])]):=by have h4:=q6a s 4 h;walk_at "ev"
theorem s4r(s:Int)(v1 v2 v3 v4 v5 v6:Option D):w1i [some (.lst [.int s]),v1,v2,v3,v4,v5,v6]=some ([.int (1+drK s 6)],[some (.lst [.int (nxK s)]),v1,v2,v3,v4,v5,v6]):=by have h:=q6a s 6 (by decide);walk_at "ev"
theorem s4t(s s' r:Int)(E k:D)(TS RS RW:List D)(FE:RhD)(l3:TS.length<=sizeLine)(l6:RS.length<sizeLine)
 (g1:q14 1 [0] (some (0,1)) (gSet 0) (mRet true) FE TS [some (.lst [.int s]),some (.int 4),some E,some (.int r),some (.lst TS),some (.lst RS),some k]=some (RW,[some (.lst [.int s']),some (.int 4),some E,some (.int r),some (.lst TS),some (.lst RS),some k])):
 (sMut q2l 5 (q00 (mOp1 q4h (mOf (q20 1 [0] (some (0,1)) (mSeq (mVar 4)) (gSet 0) (mRet true) FE))) mNil)) [some (.lst [.int s]),some (.int 4),some E,some (.int r),some (.lst TS),some (.lst RS),some k]=some (.nx [some (.lst [.int s']),some (.int 4),some E,some (.int r),some (.lst TS),some (.lst (RS++[.tup RW])),some k]):=by
 walk_at "ev"
theorem s4f(s s1:Int)(s' r:Int)(E:D)(v:Option D)(X TS RS:List D)(FI:RhL)(FB:RhO)
 (hI:FI [some (.lst [.int s]),some (.int 4),some E,some (.int r),some (.lst TS),some (.lst []),none]=some (X,[some (.lst [.int s1]),some (.int 4),some E,some (.int r),some (.lst TS),some (.lst []),none]))
 (f1:q1q (gSet 6) FB X [some (.lst [.int s1]),some (.int 4),some E,some (.int r),some (.lst TS),some (.lst []),none]=some (.nx [some (.lst [.int s']),some (.int 4),some E,some (.int r),some (.lst TS),some (.lst RS),v])):
 (sFor FI (gSet 6) FB) [some (.lst [.int s]),some (.int 4),some E,some (.int r),some (.lst TS),some (.lst []),none]=some (.nx [some (.lst [.int s']),some (.int 4),some E,some (.int r),some (.lst TS),some (.lst RS),v]):=by
 walk_at "ev"
theorem s4(s r:Int)(E:D)(taps:List Int)(h1:1<=taps.length)(h4:taps.length<=4):∃(rows:List (List Int)) (s':Int) (v:Option D),(sFor (q3c w1i) (gSet 6)
 w0d) [some (.lst [.int s]),some (.int 4),some E,some (.int r),some (.lst (taps.map D.int)),some (.lst []),none]=some (.nx [some (.lst [.int s']),some (.int 4),some E,some (.int r),some (.lst (taps.map D.int)),some (.lst (rows.map rowD)),v])
 /\1<=rows.length/\rows.length<=6/\∀row∈rows,row.length=taps.length/\∀b∈row,b=0∨b=1:=by
 have d0:=q7k s (m:=6) (by decide);have d6:=q7l s (m:=6) (by decide);obtain⟨ρ',f1,rows,s3,v,rfl,lr,hrow⟩:=q2x (fg:=gSet 6) (fb:=w0d)
  (λi ρ=>∃(rows:List (List Int)) (s:Int) (v:Option D),ρ=[some (.lst [.int s]),some (.int 4),some E,some (.int r),some (.lst (taps.map D.int)),some (.lst (rows.map rowD)),v]/\rows.length=i/\∀row∈rows,row.length=taps.length/\∀b∈row,b=0∨b=1)
  (q1k 0 (1+drK s 6).toNat) 0 [some (.lst [.int (nxK s)]),some (.int 4),some E,some (.int r),some (.lst (taps.map D.int)),some (.lst []),none] ⟨[],_,none,rfl,rfl,λ_ h=>nomatch h⟩ (by
    rintro i x ρ hx ⟨rows,s,v,rfl,lr,hrow⟩;obtain⟨hi,rfl⟩:=q24 hx;obtain⟨bs,s4,g1,g2,g3⟩:=q6u (n:=1) (p:=0) (q:=1) (js:=[0]) (fg:=gSet 0) (fe:=mOp1 dInt w0t)
     (λs':Int=>[some (.lst [.int s']),some (.int 4),some E,some (.int r),some (.lst (taps.map D.int)),some (.lst (rows.map rowD)),some (.int (0+(i:Int)))]) (λy=>∃t:Int,y=.int t/\(t=0∨t=1)) (taps.map D.int) (λx hx s'=>by
       obtain⟨z,_,rfl⟩:=List.mem_map.mp hx;refine⟨[some (.int z),some (.lst [.int s'])],[some (.int z),some (.lst [.int (nxK s')])],_,nxK s',rfl,s4e z s' (by decide),rfl,_,rfl,?_⟩;split
       ·exact .inr rfl
       ·exact .inl rfl) s
    obtain⟨row,rfl,hb⟩:=q92 g3;rw[j9,j9]at g2;refine⟨_,[some (.lst [.int s4]),some (.int 4),some E,some (.int r),some (.lst (taps.map D.int)),some (.lst ((rows++[row]).map rowD)),some (.int (0+(i:Int)))],rfl,.inl ?_,rows++[row],s4,_,rfl,by rw[jl,lr];simp,λz hz=>?_⟩
    ·have e6:(rows++[row]).map rowD=rows.map rowD++[.tup (row.map D.int)]:=by rw[x8];rfl
     rw[e6];exact s4t _ _ _ _ _ _ _ _ _ (by rw[j9];exact q1h (by omega)) (by rw[j9];exact jt (by omega:rows.length<1000) (by decide)) g1
    ·rcases List.mem_append.mp hz with hz|hz
     ·exact hrow z hz
     ·rw[List.mem_singleton.mp hz];exact⟨g2,hb⟩)
 rw[q1j]at lr;exact⟨rows,s3,v,s4f _ _ _ _ _ _ _ _ _ _ _ (q49 (s4r _ _ _ _ _ _ _) (by omega) (by omega)) f1,by omega,by omega,hrow⟩
theorem s3(s r:Int)(E T:D)(z0:0<=sizeLine):(sOwn 5 (mLst mNil)) [some (.lst [.int s]),some (.int 4),some E,some (.int r),some T,none,none]=some (.nx [some (.lst [.int s]),some (.int 4),some E,some (.int r),some T,some (.lst []),none]):=by walk_at "ev"
theorem s5(s r:Int)(E TS RS:List D)(x:D)(v:Option D)(four:4<=sizeLine)(hE:((E.length:Nat):Int)=2)(hx:atI E (drK s 2)=some x):
 w1h [some (.lst [.int s]),some (.int 4),some (.lst E),some (.int r),some (.lst TS),some (.lst RS),v]=some (.rt (.tup [.int r,.tup TS,.tup RS,x]) [some (.lst [.int (nxK s)]),some (.int 4),some (.lst E),some (.int r),some (.lst TS),some (.lst RS),v]):=by
 have h:=q6a s 2 (by decide);walk_at "ev"
theorem qal(s:Int):∃r taps rows e s',f_y35 [.int s] [.int 4,.lst [.str "open",.str "ended"]]=some (schD r taps rows e,[.int s'])/\q26 r taps rows e/\e≠"ring":=by
 obtain⟨x,hx,x0,x4⟩:∃x:Int,atI [D.int 0,D.int 1,D.int 2,D.int 2,D.int 3,D.int 1,D.int 2,D.int 3,D.int 4] (drK s 9)=some (.int x)/\0<=x/\x<=4:=by have d0:=q7k s (m:=9) (by decide);have d9:=q7l s (m:=9) (by decide);rcases(by omega:drK s 9=0∨drK s 9=1∨drK s 9=2∨drK s 9=3∨drK s 9=4∨drK s 9=5∨drK s 9=6∨drK s 9=7∨drK s 9=8)with q|q|q|q|q|q|q|q|q<;>(rw[q];exact⟨_,rfl,by decide,by decide⟩)
 obtain⟨r,hr⟩:∃r,(if x<4 then x else 4)=r:=⟨_,rfl⟩;have r0:0<=r/\r<=4:=by split at hr<;>omega
 have a0:=s0 s x r (.lst [.str "open",.str "ended"]) (by decide) hx hr;obtain⟨taps,s1',a1,b1,b4,tb⟩:=s1 (nxK s) r (.lst [.str "open",.str "ended"]) r0.1 r0.2;have a3:=s3 s1' r (.lst [.str "open",.str "ended"]) (.lst (taps.map D.int)) (by decide);obtain⟨rows,s4',v,a4,m1,m6,hrow⟩:=s4 s1' r (.lst [.str "open",.str "ended"]) taps b1 b4;obtain⟨e,he,hen⟩:∃e:Str,atI [D.str "open",D.str "ended"] (drK s4' 2)=some (.str e)/\(e="open"∨e="ended"):=by
  have d0:=q7k s4' (m:=2) (by decide);have d2:=q7l s4' (m:=2) (by decide);rcases(by omega:drK s4' 2=0∨drK s4' 2=1)with q|q
  ·rw[q];exact⟨_,rfl,.inl rfl⟩
  ·rw[q];exact⟨_,rfl,.inr rfl⟩
 have a5:=s5 s4' r [.str "open",.str "ended"] (taps.map D.int) (rows.map rowD) (.str e) v (by decide) rfl he;refine⟨r,taps,rows,e,nxK s4',?_,⟨r0.1,r0.2,b1,b4,tb,m1,m6,hrow,by rcases hen with q|q;exact .inl q;exact .inr (.inl q)⟩,by rcases hen with q|q<;>(rw[q];decide)⟩;have body:=(q0y a0).trans<|(q0y a1).trans<|(q0y a3).trans<|(q0y a4).trans a5;unfold f_y35 runS;rw[if_pos (show [D.int 4,D.lst [.str "open",.str "ended"]].length+1=3 from rfl)];show(match qhn [some (.lst [.int s]),some (.int 4),some (.lst [.str "open",.str "ended"]),none,none,none,none]with
  | some (.rt d ρ)=>(match (ρ[0]? :Option (Option D))with
   |some (some (D.lst ys))=>some (d,ys)
   |_=>none)
  | some (.nx ρ)=>if false=true then none else(match (ρ[0]? :Option (Option D))with
   |some (some (D.lst ys))=>some (.non,ys)
   |_=>none)
  |_=>none)=_
 unfold qhn;rw[body];rfl
theorem od_t(l o:Int):w2x [some (.int l),some (.int o)]=some (decide (0<l),[some (.int l),some (.int o)]):=by walk_at "ev"
theorem od_b(l o:Int):w0i [some (.int l),some (.int o)]=some (.nx [some (.int (l / 2)),some (.int ((o+l % 2) % 2))]):=by walk_at "ev"
theorem qg2:∀(f zq:Nat) (l o:Int),0<=l->l.toNat<2^f->(o=0∨o=1)->f<zq->∃l':Int,q2b w2x
 w0i zq [some (.int l),some (.int o)]=some (.nx [some (.int l'),some (.int ((o+(parF f l.toNat:Nat)) % 2))])
 |_,0,_,_,_,_,_,h=>absurd h (Nat.not_lt_zero _)
 | f,zq+1,l,o,l0,lf,ho,hf=>by
  have ht:=od_t l o;by_cases hl:0<l
  ·cases f with
   |zero=>exact absurd lf (by omega)
   | succ f=>
    have e2:(l / 2).toNat=l.toNat / 2:=by omega
    have lt2:(l / 2).toNat<2^f:=by rw[e2];rw[Nat.pow_succ]at lf;omega
    obtain⟨l',ih⟩:=qg2 f zq (l / 2) ((o+l % 2) % 2) (by omega) lt2 (by omega) (by omega);refine⟨l',?_⟩;rw[decide_eq_true hl]at ht;unfold q2b;rw[ht];dsimp only;rw[od_b];dsimp only;rw[ih,e2];have u:parF (f+1) l.toNat=(l.toNat % 2+parF f (l.toNat / 2)) % 2:=rfl;rw[u];have ev:((o+l % 2) % 2+(parF f (l.toNat / 2):Nat)) % 2=(o+(((l.toNat % 2+parF f (l.toNat / 2)) % 2:Nat):Int)) % 2:=by omega
    rw[ev]
  ·rw[decide_eq_false hl]at ht;refine⟨l,?_⟩;unfold q2b;rw[ht];dsimp only;have e0:l=0:=by omega
   subst e0;rw[show((0:Int)).toNat=0 from rfl,q77];have ev:(o+((0:Nat):Int)) % 2=o:=by omega
   rw[ev]
theorem qtm(n:Int)(h0:0<=n)(h:n<32):f_y36 [.int n]=some (.int (parF 5 n.toNat:Nat)):=by
 obtain⟨l',hw⟩:=qg2 5 1000 n 0 h0 (by omega) (.inl rfl) (by decide);have e1:((0:Int)+(parF 5 n.toNat:Nat)) % 2=(parF 5 n.toNat:Nat):=by have:=qb4 5 n.toNat;omega
 rw[e1]at hw;generalize parF 5 n.toNat=p at hw ⊢;unfold f_y36 qjz;generalize (1000:Nat)=zq at hw ⊢;clear h0 h e1;walk_at "ev"
theorem st_4(S k:D)(za bit:Int):(sSet 4 w29) [some S,some k,some (.int za),some (.int bit),none,none,none]=some (.nx [some S,some k,some (.int za),some (.int bit),some (.int (2*za+bit)),none,none]):=by walk_at "ev"
theorem st_e(t zg o:Int)(h:f_y36 [.int (Builtin.bitAnd zg t)]=some (.int o)):((q0i f_y36 w1k) [some (.int t),some (.int zg)]).map (·.1)=some (.int o):=by walk_at "ev"
theorem st_5(R RS e k za bit zg:D)(TS Y:List D)(FE:RhD)(lt:TS.length<=sizeLine)(cm:q14 1 [4] none (gSet 0) (mRet true) FE TS [some (.tup [R,.tup TS,RS,e]),some k,some za,some bit,some zg,none,none]=some (Y,[some (.tup [R,.tup TS,RS,e]),some k,some za,some bit,some zg,none,none])):
 (sSet 5 (mOf (q20 1 [4] none w2u (gSet 0) (mRet true) FE))) [some (.tup [R,.tup TS,RS,e]),some k,some za,some bit,some zg,none,none]=some (.nx [some (.tup [R,.tup TS,RS,e]),some k,some za,some bit,some zg,some (.lst Y),none]):=by
 walk_at "ev"
theorem st_6(R TS e za bit zg Y:D)(RS RW:List D)(k':Int)(zd:0<RS.length)(hr:atI RS (k' % (RS.length:Nat))=some (.tup RW)):
 w1y [some (.tup [R,TS,.tup RS,e]),some (.int k'),some za,some bit,some zg,some Y,none]=some (.nx [some (.tup [R,TS,.tup RS,e]),some (.int k'),some za,some bit,some zg,some Y,some (.tup RW)]):=by
 walk_at "ev"
theorem st_n(S k za bit zg L:D)(Y:List D):(q00 (mOp1 dLen (mVar 5)) mNil) [some S,some k,some za,some bit,some zg,some (.lst Y),some L]=some ([.int ((Y.length:Nat):Int)],[some S,some k,some za,some bit,some zg,some (.lst Y),some L]):=by walk_at "ev"
theorem st_t(Y RW:List D)(i b:Int)(h:atI RW i=some (.int b)):(q0b w2c) [some (.int i),some (.lst Y),some (.tup RW)]=some (b==1,[some (.int i),some (.lst Y),some (.tup RW)]):=by walk_at "ev"
theorem st_v(Y RW:List D)(i:Int)(y:D)(h:atI Y i=some y):((mOp2 dIx (mVar 1) (mVar 0)) [some (.int i),some (.lst Y),some (.tup RW)]).map (·.1)=some y:=by walk_at "ev"
theorem st_r(r zg m:Int)(TS RS e k za bit Y L:D)(X Z:List D)(FI:RhL)(FT:RhB)(FE:RhD)(two:2<=sizeLine)(lx:X.length<=sizeLine)(hs:dShl (.int 1) (.int r)=some (.int m))(m0:0<m)
 (hI:FI [some (.tup [.int r,TS,RS,e]),some k,some za,some bit,some (.int zg),some Y,some L]=some (X,[some (.tup [.int r,TS,RS,e]),some k,some za,some bit,some (.int zg),some Y,some L]))
 (cm:q14 1 [5,6] none (gSet 0) FT FE X [some (.tup [.int r,TS,RS,e]),some k,some za,some bit,some (.int zg),some Y,some L]=some (Z,[some (.tup [.int r,TS,RS,e]),some k,some za,some bit,some (.int zg),some Y,some L])):
 (sRet (mTup (q00 (mOp2 dMod (mVar 4) (mOp2 dShl (mRet (.int 1)) (mOp2 dIx (mVar 0) (mRet (.int 0))))) (q00 (mOf (q20 1 [5,6] none FI (gSet 0) FT FE)) mNil)))) [some (.tup [.int r,TS,RS,e]),some k,some za,some bit,some (.int zg),some Y,some L]=some (.rt (.tup [.int (zg % m),.lst Z]) [some (.tup [.int r,TS,RS,e]),some k,some za,some bit,some (.int zg),some Y,some L]):=by
 generalize dShl=SH at hs ⊢;walk_at "ev"
section
variable{r:Int}{taps:List Int}{rows:List (List Int)}{e:Str}
theorem qpc(ok:q26 r taps rows e):dShl (.int 1) (.int r)=some (.int (2^r.toNat)):=by
 have r0:=ok.r0;have r4:=ok.r4;have r6:r<=1000000:=by omega
 simp[dShl,dI2,qb9,r0,r6]
theorem qkq(ok:q26 r taps rows e)(k:Nat):(rowAt rows k).length=taps.length/\∀b∈rowAt rows k,b=0∨b=1:=by have m1:=ok.m1;have hk:k % rows.length<rows.length:=Nat.mod_lt _ (by omega);unfold rowAt;rw[jf hk];exact ok.rw _ (kl hk)
theorem q9i:∀(taps row:List Int),row.length=taps.length->(row.filter λb=>b==1).length=((taps.zip row).filter λq=>q.2==1).length
 |[],[],_=>rfl
 |[],_::_,h=>by cases h
 |_::_,[],h=>by cases h
 | t::ts,b::bs,h=>by
  have ih:=q9i ts bs (by simpa using h);rw[List.zip_cons_cons];by_cases hb:(b==1)=true
  ·rw[List.filter_cons_of_pos (p:=λb=>b==1) hb,List.filter_cons_of_pos (p:=λq:Int×Int=>q.2==1) (show((t,b).2==1)=true from hb),ju,ju,ih]
  ·rw[List.filter_cons_of_neg (p:=λb=>b==1) hb,List.filter_cons_of_neg (p:=λq:Int×Int=>q.2==1) (show¬((t,b).2==1)=true from hb),ih]
theorem qdg(row signs:List Int)(h:row.length=signs.length):(((List.range signs.length).filter λi=>row.getD i 0==1).map λi=>signs.getD i 0)=q3v row signs:=by
 have e1:signs.zip row=(List.range signs.length).map λi=>(signs.getD i 0,row.getD i 0):=by
  apply List.ext_getElem
  ·simp[h]
  ·intro i h1 h2;simp at h1 h2;simp[h1,h2,h]
 unfold q3v;rw[e1,List.filter_map,jv];rfl
theorem qbx(ok:q26 r taps rows e)(k:Nat)(x:Int):(q3v (rowAt rows k) (taps.map (sgn x))).length=(selK taps rows k).length:=by rw[q75,j9];rfl
theorem v_y3(ok:q26 r taps rows e)(k:Nat)(za bit:Int)(a0:0<=za)(hb:0<=bit):f_y37 [schD r taps rows e,.int k,.int za,.int bit]=some (.tup [.int ((2*za+bit) % 2^r.toNat),.lst ((q3v (rowAt rows k) (taps.map (sgn (2*za+bit)))).map D.int)]):=by
 have p16:=q30 ok.r0 ok.r4;have c1:=q5y (n:=1) (js:=[4]) (fg:=gSet 0) (fe:=q0i f_y36 w1k) (ρ:=[some (schD r taps rows e),some (.int (k:Int)),some (.int za),some (.int bit),some (.int (2*za+bit)),none,none])
  (λd=>match d with|.int t=>.int (sgn (2*za+bit) t)|d=>d) (taps.map D.int) (λx hx=>by obtain⟨t,ht,rfl⟩:=List.mem_map.mp hx;have tb:=ok.tb t ht;have ea:=qht (x:=2*za+bit) (y:=t) (by omega) tb.1;have le:(2*za+bit).toNat &&& t.toNat<=t.toNat:=Nat.and_le_right;have ho:=qtm (Builtin.bitAnd (2*za+bit) t) (by omega) (by omega);rw[show(Builtin.bitAnd (2*za+bit) t).toNat=(2*za+bit).toNat &&& t.toNat from by omega]at ho;exact⟨[some (.int t),some (.int (2*za+bit))],rfl,st_e _ _ _ ho⟩)
 have es:(taps.map D.int).map (λd=>match d with|.int t=>D.int (sgn (2*za+bit) t)|d=>d)=(taps.map (sgn (2*za+bit))).map D.int:=by rw[jv,jv];rfl
 rw[es]at c1;have c2:(taps.map (sgn (2*za+bit))).length=taps.length:=j9 ..;generalize taps.map (sgn (2*za+bit))=signs at c1 c2 ⊢;have hrow:=qkq ok k;have hat:∀i:Nat,i<signs.length->atI ((rowAt rows k).map D.int) (i:Int)=some (.int ((rowAt rows k).getD i 0))/\atI (signs.map D.int) (i:Int)=some (.int (signs.getD i 0)):=λi hi=>by
  refine⟨?_,?_⟩
  ·rw[q8d (by omega) (by rw[j9];omega),jx,je,jf (by omega),jz,jf (by omega)];rfl
  ·rw[q8d (by omega) (by rw[j9];omega),jx,je,jf hi,jz,jf hi];rfl
 have cf:=q43 (n:=1) (js:=[5,6]) (fg:=gSet 0) (ft:=q0b w2c) (fe:=mOp2 dIx (mVar 1) (mVar 0)) (ρ:=[some (schD r taps rows e),some (.int (k:Int)),some (.int za),some (.int bit),some (.int (2*za+bit)),some (.lst (signs.map D.int)),some (.tup ((rowAt rows k).map D.int))])
  (λd=>match d with|.int i=>(rowAt rows k).getD i.toNat 0==1|_=>false) (λd=>match d with|.int i=>.int (signs.getD i.toNat 0)|d=>d) (q1k 0 signs.length) (λx hx=>by obtain⟨i,hx1⟩:=List.mem_iff_getElem?.mp hx;obtain⟨hi,rfl⟩:=q24 hx1;rw[Int.zero_add];obtain⟨h1,h2⟩:=hat i hi;exact⟨_,rfl,st_t _ _ _ _ h1,λ_=>st_v _ _ _ _ h2⟩)
 have ey:((q1k 0 signs.length).filter (λd=>match d with|.int i=>(rowAt rows k).getD i.toNat 0==1|_=>false)).map (λd=>match d with|.int i=>D.int (signs.getD i.toNat 0)|d=>d)=(q3v (rowAt rows k) signs).map D.int:=by
  rw[<-qdg _ _ (hrow.1.trans c2.symm)];unfold q1k;rw[List.filter_map,jv,jv];have e3:((λd=>match d with|D.int i=>(rowAt rows k).getD i.toNat 0==1|_=>false)∘λ(i:Nat)=>D.int (0+(i:Int)))=λi=>(rowAt rows k).getD i 0==1:=by funext i;show((rowAt rows k).getD ((0:Int)+(i:Int)).toNat 0==1)=_;rw[Int.zero_add,jx]
  rw[e3];refine List.map_congr_left λi _=>?_;show D.int (signs.getD ((0:Int)+(i:Int)).toNat 0)=_;rw[Int.zero_add,jx];rfl
 rw[ey]at cf;have hl:0<(rows.map rowD).length:=by have:=ok.m1;rw[j9];omega
 have ln:((signs.map D.int).length:Int)=(signs.length:Nat):=by rw[j9]
 have t4:=ok.t4;have hI:=q49 (st_n (schD r taps rows e) (.int (k:Int)) (.int za) (.int bit) (.int (2*za+bit)) (.tup ((rowAt rows k).map D.int)) (signs.map D.int)) (by omega) (by rw[ln];omega);rw[ln,jx]at hI;exact q4k rfl ⟨_,(q0y (st_4 _ _ _ _)).trans<|(q0y (st_5 _ _ _ _ _ _ _ _ _ _ (by rw[j9];exact q1h (by omega)) c1)).trans<|
  (q0y (st_6 _ _ _ _ _ _ _ _ _ _ hl (qfg ok k))).trans<|st_r _ _ _ _ _ _ _ _ _ _ _ _ _ _ _ _ (by decide) (by rw[q1j];exact q1h (by omega)) (qpc ok) (by omega) hI cf⟩
end
theorem qi4(R TS RS W:D)(e:Str)(h:eqD (.str e) (.str "ring")=some false):f_y38 [.tup [R,TS,RS,.str e],W]=some (.int 0):=by unfold f_y38 qjy;walk_at "ev"
theorem sn_2(S:D)(W:List D)(lw:W.length<=sizeLine):(sSet 2 (mOf (qgh dSeq (mVar 1)))) [some S,some (.lst W),none,none,none,none,none]=some (.nx [some S,some (.lst W),some (.lst W),none,none,none,none]):=by walk_at "ev"
theorem sn_n(R TS RS W B:D)(e:Str)(FX:RhO)(h:eqD (.str e) (.str "ended")=some false):(sIf w0l FX sNil) [some (.tup [R,TS,RS,.str e]),some W,some B,none,none,none,none]=some (.nx [some (.tup [R,TS,RS,.str e]),some W,some B,none,none,none,none]):=by walk_at "ev"
theorem sn_y(TS RS W:D)(r:Int)(B Z:List D)(e:Str)(FR:RhL)(h:eqD (.str e) (.str "ended")=some true)(hr:FR [some (.tup [.int r,TS,RS,.str e]),some W,some (.lst B),none,none,none,none]=some (Z,[some (.tup [.int r,TS,RS,.str e]),some W,some (.lst B),none,none,none,none]))(l:B.length+Z.length<=sizeLine):
 (sIf w0l (sSet 2 (mOp2 dAdd (mVar 2) (mOf FR))) sNil) [some (.tup [.int r,TS,RS,.str e]),some W,some (.lst B),none,none,none,none]=some (.nx [some (.tup [.int r,TS,RS,.str e]),some W,some (.lst (B++Z)),none,none,none,none]):=by
 walk_at "ev"
theorem sn_1(r:Int)(TS RS W B e:D)(one:1<=sizeLine):(mLst (q00 (mRet (.int 0)) mNil)) [some (.tup [.int r,TS,RS,e]),some W,some B,none,none,none,none]=some ([.int 0],[some (.tup [.int r,TS,RS,e]),some W,some B,none,none,none,none]):=by walk_at "ev"
theorem sn_k(r:Int)(TS RS W B e:D):(mOp2 dIx (mVar 0) (mRet (.int 0))) [some (.tup [.int r,TS,RS,e]),some W,some B,none,none,none,none]=some (.int r,[some (.tup [.int r,TS,RS,e]),some W,some B,none,none,none,none]):=by walk_at "ev"
theorem sn_3(S W B:D)(a:D)(h:f_y38 [S,W]=some a):w3i [some S,some W,some B,none,none,none,none]=some (.nx [some S,some W,some B,some a,none,none,none]):=by walk_at "ev"
theorem sn_4(S W B a:D)(z0:0<=sizeLine):(sOwn 4 (mLst mNil)) [some S,some W,some B,some a,none,none,none]=some (.nx [some S,some W,some B,some a,some (.lst []),none,none]):=by walk_at "ev"
theorem sn_t(S W:D)(z k' nz b:Int)(B F S2:List D)(v6:Option D)(hb:atI B k'=some (.int b))(st:f_y37 [S,.int k',.int z,.int b]=some (.tup [.int nz,.lst S2]))(ln:F.length+S2.length<=sizeLine):
 w3n [some S,some W,some (.lst B),some (.int z),some (.lst F),some (.int k'),v6]=some (.nx [some S,some W,some (.lst B),some (.int nz),some (.lst (F++S2)),some (.int k'),some (.lst S2)]):=by
 walk_at "ev"
theorem sn_r(S W a F:D)(B:List D):(q00 (mOp1 dLen (mVar 2)) mNil) [some S,some W,some (.lst B),some a,some F,none,none]=some ([.int ((B.length:Nat):Int)],[some S,some W,some (.lst B),some a,some F,none,none]):=by walk_at "ev"
theorem qpa(S W B a:D)(X F:List D)(v3 v5 v6:Option D)(FI:RhL)(FB:RhO)(hI:FI [some S,some W,some B,some a,some (.lst []),none,none]=some (X,[some S,some W,some B,some a,some (.lst []),none,none]))
 (l1:q1q (gSet 5) FB X [some S,some W,some B,some a,some (.lst []),none,none]=some (.nx [some S,some W,some B,v3,some (.lst F),v5,v6])):
 (sSeq (sFor FI (gSet 5) FB) (q5b 4)) [some S,some W,some B,some a,some (.lst []),none,none]=some (.rt (.lst F) [some S,some W,some B,v3,none,v5,v6]):=by
 walk_at "ev"
theorem qaw{b:RhO}{n k:Nat}{ds:List D}{F:List D}(hl:ds.length=n)(h:∃ρ,b (ds.map some++List.replicate (k-n) none)=some (.rt (.lst F) ρ)):runP true n k b ds=some (.lst F):=by obtain⟨ρ,h⟩:=h;unfold runP;rw[if_pos hl,h]
section
variable{r:Int}{taps:List Int}{rows:List (List Int)}{e:Str}
theorem sel4(ok:q26 r taps rows e)(k:Nat):(selK taps rows k).length<=4:=by unfold selK;refine x9 (List.length_filter_le _ _) ?_;rw[xv];have:=ok.t4;have:=kf taps.length (rowAt rows k).length;omega
theorem qay(ok:q26 r taps rows e)(k:Nat):(q0d taps rows k).length<=k*4:=q6s _ 4 (λk=>by rw[jo];exact sel4 ok k) _
theorem qoz(ok:q26 r taps rows e)(he:e≠"ring")(w:List Int)(hb:Bits w)(hl:w.length<=60):∃ss:List Int,f_y39 [schD r taps rows e,.lst (w.map D.int)]=some (.lst (ss.map D.int))/\ss.length=(q0d taps rows (w.length+q12 r e)).length:=by
 have z4:=q4y ok;have r0:=ok.r0;have r4:=ok.r4;have her:eqD (.str e) (.str "ring")=some false:=by
  rcases ok.en with g|g|g
  ·rw[g];exact s_or
  ·rw[g];exact s_er
  ·exact absurd g he
 have hB:w1t [some (schD r taps rows e),some (.lst (w.map D.int)),some (.lst (w.map D.int)),none,none,none,none]=some (.nx [some (schD r taps rows e),some (.lst (w.map D.int)),some (.lst ((w++List.replicate (q12 r e) 0).map D.int)),none,none,none,none]):=by
  rcases ok.en with g|g|g
  ·have ez:q12 r e=0:=by rw[g];exact if_neg (by decide)
   rw[ez,List.replicate_zero,List.append_nil];exact sn_n _ _ _ _ _ _ _ (by rw[g];exact s_oe)
  ·have ez:q12 r e=r.toNat:=by rw[g];exact if_pos rfl
   have hrep:(mRep (mLst (q00 (mRet (.int 0)) mNil)) (mOp2 dIx (mVar 0) (mRet (.int 0)))) [some (schD r taps rows e),some (.lst (w.map D.int)),some (.lst (w.map D.int)),none,none,none,none]=some (List.replicate r.toNat (D.int 0),[some (schD r taps rows e),some (.lst (w.map D.int)),some (.lst (w.map D.int)),none,none,none,none]):=qbq (sn_1 _ _ _ _ _ _ (by decide)) (sn_k _ _ _ _ _ _) (qfi _ r0 (by omega));have:=sn_y (.tup (taps.map D.int)) (.tup (rows.map rowD)) (.lst (w.map D.int)) r (w.map D.int) _ e _ (by rw[g];exact s_ee) hrep (by rw[j9,jo];exact q1h (by omega));rw[ez,x8,List.map_replicate];exact this
  ·exact absurd g he
 have hul:(w++List.replicate (q12 r e) 0).length=w.length+q12 r e:=by rw[jl,jo]
 have hbb:Bits (w++List.replicate (q12 r e) 0):=qcu hb (q99 _);generalize w++List.replicate (q12 r e) 0=u at hB hul hbb;have m0:(0:Int)<2^r.toNat:=Int.pow_pos (by decide);obtain⟨ρ',l1,z,ss,v5,v6,hρ,hz,hs⟩:=q2x (fg:=gSet 5) (fb:=sSeq w0k
 (sOwn 4 (q9y qac (mVar 4) (mVar 6))))
   (λk ρ=>∃(z:Int) (ss:List Int) (v5 v6:Option D),ρ=[some (schD r taps rows e),some (.lst (w.map D.int)),some (.lst (u.map D.int)),some (.int z),some (.lst (ss.map D.int)),v5,v6]/\0<=z/\ss.length=(q0d taps rows k).length) (q1k 0 u.length) 0
   [some (schD r taps rows e),some (.lst (w.map D.int)),some (.lst (u.map D.int)),some (.int 0),some (.lst []),none,none] ⟨0,[],none,none,rfl,by decide,rfl⟩ (by
    rintro i x ρ hx ⟨z,ss,v5,v6,rfl,hz,hs⟩;obtain⟨hi,rfl⟩:=q24 hx;rw[jq]at hs ⊢;rw[Int.zero_add];have hbi:=hbb _ (kl hi);have ga:atI (u.map D.int) (i:Int)=some (.int u[i]):=by rw[q8d (by omega) (by rw[j9];omega),jx,je,jf hi];rfl
    have st:=v_y3 ok i z u[i] hz (by omega);have l2:=qbx ok i (2*z+u[i]);generalize q3v (rowAt rows i) (taps.map (sgn (2*z+u[i])))=s2 at st l2;have p4:=qay ok i;have q4:=sel4 ok i;have hle:(ss.map D.int).length+(s2.map D.int).length<=sizeLine:=by rw[j9,j9];exact q1h (by omega)
    refine⟨_,_,rfl,.inl (sn_t _ _ _ _ _ _ _ _ _ v6 ga st hle),(2*z+u[i]) % 2^r.toNat,ss++s2,_,_,by rw[x8],Int.emod_nonneg _ (by omega),?_⟩;rw[jl,q36,hs,l2])
 subst hρ;rw[q1j,jq,hul]at hs;refine⟨ss,?_,hs⟩;have ln:((u.map D.int).length:Int)=(u.length:Nat):=by rw[j9]
 have hI:=q49 (sn_r (schD r taps rows e) (.lst (w.map D.int)) (.int 0) (.lst []) (u.map D.int)) (by omega) (by rw[ln];omega);rw[ln,jx]at hI;exact qaw rfl ⟨_,(q0y (sn_2 _ _ (by rw[j9];exact q1h (by omega)))).trans<|(q0y hB).trans<|(q0y (sn_3 _ _ _ _ (qi4 _ _ _ _ _ her))).trans<|
  (q0y (sn_4 _ _ _ _ (by decide))).trans<|qpa _ _ _ _ _ _ _ _ _ _ _ hI l1⟩
end
theorem sg_3(c k b m:Int)(hm:(c % 10^18+1+k*k*104729)*742938285 % 2147483647=m)(q1: -18446744073709551616<k)(q2:k<18446744073709551616):
 w0w [some (.int c),some (.int k),some (.int b),none,none]=some (.nx [some (.int c),some (.int k),some (.int b),some (.int m),none]):=by
 rw[<-hm];clear hm;walk_at "ev"
theorem sg_4(c k b:D)(m:Int):w3r [some c,some k,some b,some (.int m),none]=some (.nx [some c,some k,some b,some (.int m),some (.int (m % 9))]):=by walk_at "ev"
theorem sg_a(c k b m:D)(y:Int)(two:2<=sizeLine)(h:y<4):w20 [some c,some k,some b,some m,some (.int y)]=some (.rt (.tup [.str "clear",b]) [some c,some k,some b,some m,some (.int y)]):=by walk_at "ev"
theorem qi5(c k b m:D)(y:Int)(FX:RhO)(h:¬y<4):(sIf w3y FX
 sNil) [some c,some k,some b,some m,some (.int y)]=some (.nx [some c,some k,some b,some m,some (.int y)]):=by
 walk_at "ev"
theorem qd3(c k b m:D)(y z:Int)(FX:RhO)(h:(y==z)=false):(sIf (q0b (mOp2 dEq (mVar 4) (mRet (.int z)))) FX
 sNil) [some c,some k,some b,some m,some (.int y)]=some (.nx [some c,some k,some b,some m,some (.int y)]):=by
 walk_at "ev"
theorem sg_b(c k m:D)(b:Int)(two:2<=sizeLine):w1m [some c,some k,some (.int b),some m,some (.int 4)]=some (.rt (.tup [.str "clear",.int (1-b)]) [some c,some k,some (.int b),some m,some (.int 4)]):=by walk_at "ev"
theorem sg_c(c k b m:D)(one:1<=sizeLine):w2e [some c,some k,some b,some m,some (.int 5)]=some (.rt (.tup [.str "gap"]) [some c,some k,some b,some m,some (.int 5)]):=by walk_at "ev"
theorem sg_j(c k b:D)(m j:Int)(hj:1-2*(m / 27 % 2)=j):w21 [some c,some k,some b,some (.int m),some (.int 6)]=some (.int j,[some c,some k,some b,some (.int m),some (.int 6)]):=by rw[<-hj];clear hj;walk_at "ev"
theorem sg_d(k b:D)(c m j:Int)(FB:RhD)(three:3<=sizeLine)(q1: -18446744073709551616<j)(q2:j<18446744073709551616)(h2:FB [some (.int c),some k,some b,some (.int m),some (.int 6)]=some (.int j,[some (.int c),some k,some b,some (.int m),some (.int 6)])):(sIf w3z
 (sRet (mTup (q00 (mRet (.str "soft")) (q00 (mOp2 q42 (mOp2 dMod (mVar 0) w1w) FB) w2f))))
 sNil) [some (.int c),some k,some b,some (.int m),some (.int 6)]=some (.rt (.tup [.str "soft",.int (c % 10^60*j),.int (m / 9 % 3-1)]) [some (.int c),some k,some b,some (.int m),some (.int 6)]):=by
 walk_at "ev"
theorem sg_e(c k b y:D)(m:Int)(three:3<=sizeLine):w1c [some c,some k,some b,some (.int m),some y]=some (.rt (.tup [.str "soft",.int (m / 9 % 4),.int (m / 36 % 4)]) [some c,some k,some b,some (.int m),some y]):=by walk_at "ev"
theorem qoy(c b:Int)(k:Nat)(hk:k<=100000):∃t:Told,f_y40 [.int c,.int k,.int b]=some (q10 t):=by
 obtain⟨m,hm⟩:∃m,(c % 10^18+1+(k:Int)*k*104729)*742938285 % 2147483647=m:=⟨_,rfl⟩;have a3:=sg_3 c k b m hm (by omega) (by omega);have a4:=sg_4 (.int c) (.int k) (.int b) m;by_cases h1:m % 9<4
 ·exact⟨.clear b,q4k rfl ⟨_,(q0y a3).trans<|(q0y a4).trans<|qbn (sg_a _ _ _ _ _ (by decide) h1)⟩⟩
 ·by_cases h2:m % 9=4
  ·rw[h2]at a4;exact⟨.clear (1-b),q4k rfl ⟨_,(q0y a3).trans<|(q0y a4).trans<|(q0y (qi5 _ _ _ _ _ _ (by decide))).trans<|qbn (sg_b _ _ _ _ (by decide))⟩⟩
  ·by_cases h3:m % 9=5
   ·rw[h3]at a4;exact⟨.gap,q4k rfl ⟨_,(q0y a3).trans<|(q0y a4).trans<|(q0y (qi5 _ _ _ _ _ _ (by decide))).trans<|(q0y (qd3 _ _ _ _ _ 4 _ rfl)).trans<|qbn (sg_c _ _ _ _ (by decide))⟩⟩
   ·by_cases h4:m % 9=6
    ·rw[h4]at a4;exact⟨.soft (c % 10^60*(1-2*(m / 27 % 2))) (m / 9 % 3-1),q4k rfl ⟨_,(q0y a3).trans<|(q0y a4).trans<|(q0y (qi5 _ _ _ _ _ _ (by decide))).trans<|(q0y (qd3 _ _ _ _ _ 4 _ rfl)).trans<|(q0y (qd3 _ _ _ _ _ 5 _ rfl)).trans<|qbn (sg_d _ _ _ _ _ _ (by decide) (by omega) (by omega) (sg_j _ _ _ _ _ rfl))⟩⟩
    ·exact⟨.soft (m / 9 % 4) (m / 36 % 4),q4k rfl ⟨_,(q0y a3).trans<|(q0y a4).trans<|(q0y (qi5 _ _ _ _ _ _ h1)).trans<|(q0y (qd3 _ _ _ _ _ 4 _ (beq_eq_false_iff_ne.mpr h2))).trans<|(q0y (qd3 _ _ _ _ _ 5 _ (beq_eq_false_iff_ne.mpr h3))).trans<|(q0y (qd3 _ _ _ _ _ 6 _ (beq_eq_false_iff_ne.mpr h4))).trans<|sg_e _ _ _ _ _ (by decide)⟩⟩
theorem hd_3(N S W:D)(z0:0<=sizeLine):(sOwn 3 (mLst mNil)) [some N,some S,some W,none,none,none]=some (.nx [some N,some S,some W,some (.lst []),none,none]):=by walk_at "ev"
theorem hd_m(N:List D)(S W F k b:D)(mx:Int)(hm:(if((N.length:Nat):Int)-2>1 then((N.length:Nat):Int)-2 else 1)=mx):(mMM (λi j=>if j>i then j else i) w1g) [some (.lst N),some S,some W,some F,some k,some b]=some (.int mx,[some (.lst N),some S,some W,some F,some k,some b]):=by rw[<-hm];clear hm;walk_at "ev"
theorem hd_i(N S W F b:D)(k' j mx:Int)(FM:RhD)(m0:0<mx)(hj:2+k' % mx=j)(h2:FM [some N,some S,some W,some F,some (.int k'),some b]=some (.int mx,[some N,some S,some W,some F,some (.int k'),some b])):
 (mOp2 dAdd (mRet (.int 2)) (mOp2 dMod (mVar 4) FM)) [some N,some S,some W,some F,some (.int k'),some b]=some (.int j,[some N,some S,some W,some F,some (.int k'),some b]):=by
 rw[<-hj];clear hj;walk_at "ev"
theorem hd_t(N S W:D)(F:List D)(k' b j c T:D)(FI:RhD)(hI:FI [some N,some S,some W,some (.lst F),some k',some b]=some (j,[some N,some S,some W,some (.lst F),some k',some b]))(hc:f_y32 [N,j]=some c)(hs:f_y40 [c,k',b]=some T)(l:F.length<sizeLine):
 (sMut q2l 3 (q00 (q0i f_y40 (q00 (q0i f_y32 (q00 (mVar 0) (q00 FI mNil))) (q00 (mVar 4) (q00 (mVar 5) mNil)))) mNil)) [some N,some S,some W,some (.lst F),some k',some b]=some (.nx [some N,some S,some W,some (.lst (F++[T])),some k',some b]):=by
 walk_at "ev"
theorem qsk(N S W:D)(SE T X:List D)(v4 v5:Option D)(FB:RhO)(hs:f_y39 [S,W]=some (.lst SE))(hX:q3h SE=X)(l1:q1q (q1n 2 (q0c (gSet 4) (q0c (gSet 5) q1o))) FB X [some N,some S,some W,some (.lst []),none,none]=some (.nx [some N,some S,some W,some (.lst T),v4,v5])):
 (sSeq (sFor w3d (q1n 2 (q0c (gSet 4) (q0c (gSet 5) q1o))) FB) (q5b 3)) [some N,some S,some W,some (.lst []),none,none]=some (.rt (.lst T) [some N,some S,some W,none,v4,v5]):=by
 walk_at "ev"
section
variable{r:Int}{taps:List Int}{rows:List (List Int)}{e:Str}
theorem qlt(ok:q26 r taps rows e)(he:e≠"ring")(ns w:List Int)(hb:Bits w)(hl:w.length<=60):∃ts:List Told,f_y41 [.lst (ns.map D.int),schD r taps rows e,.lst (w.map D.int)]=some (.lst (ts.map q10))/\ts.length=(q0d taps rows (w.length+q12 r e)).length:=by
 obtain⟨ss,hs,ls⟩:=qoz ok he w hb hl;have z4:=q4y ok;have p4:=qay ok (w.length+q12 r e);obtain⟨mx,hmx⟩:∃mx,(if(((ns.map D.int).length:Nat):Int)-2>1 then(((ns.map D.int).length:Nat):Int)-2 else 1)=mx:=⟨_,rfl⟩;have m0:0<mx:=by split at hmx<;>omega
 obtain⟨ρ',l1,ts,v4,v5,hρ,hts⟩:=q2x (fg:=q1n 2 (q0c (gSet 4) (q0c (gSet 5) q1o))) (fb:=(sMut q2l 3 (q00 (q0i f_y40 (q00 (q0i f_y32 (q00 (mVar 0) (q00 (mOp2 dAdd (mRet (.int 2)) (mOp2 dMod (mVar 4) (mMM (λi j=>if j>i then j else i) w1g))) mNil))) (q00 (mVar 4) (q00 (mVar 5) mNil)))) mNil)))
  (λk ρ=>∃(ts:List Told) (v4 v5:Option D),ρ=[some (.lst (ns.map D.int)),some (schD r taps rows e),some (.lst (w.map D.int)),some (.lst (ts.map q10)),v4,v5]/\ts.length=k) (q3h (ss.map D.int)) 0
  [some (.lst (ns.map D.int)),some (schD r taps rows e),some (.lst (w.map D.int)),some (.lst []),none,none] ⟨[],none,none,rfl,rfl⟩ (by
   rintro i x ρ hx ⟨ts,v4,v5,rfl,hts⟩;rw[q4s,je]at hx;cases q:ss[i]? with
   |none=>rw[q]at hx;cases hx
   | some b=>
    rw[q]at hx;cases hx;have hi:i<ss.length:=(List.getElem?_eq_some_iff.mp q).1;rw[jq]at hts ⊢;have j0:0<=2+(i:Int) % mx:=by have:=Int.emod_nonneg (i:Int) (by omega:mx≠0);omega
    obtain⟨c,hc⟩:=q8g ns (2+(i:Int) % mx) j0;obtain⟨t,ht⟩:=qoy c b i (by omega);refine⟨_,_,rfl,.inl (hd_t _ _ _ _ _ _ _ _ _ _ (hd_i _ _ _ _ _ _ _ _ _ m0 rfl (hd_m _ _ _ _ _ _ _ hmx)) hc ht (by rw[j9];exact jt (by omega:ts.length<2000) (by decide))),ts++[t],_,_,by rw[x8];rfl,by rw[jl,hts];rfl⟩)
 subst hρ;have el:(q3h (ss.map D.int)).length=ss.length:=by unfold q3h;simp
 rw[el,jq,ls]at hts;exact⟨ts,qaw rfl ⟨_,(q0y (hd_3 _ _ _ (by decide))).trans (qsk _ _ _ _ _ _ _ _ _ hs rfl l1)⟩,hts⟩
end
theorem wh_1(b:Int):f_y43 [.int b]=some (.bl true):=by unfold f_y43 qjx;walk_at "ev"
theorem iw_e(b:Int)(h0:0<=b)(h1:b<=1):(w1d [some (.int b)]).map (·.1)=some (.bl true):=by have h:=wh_1 b;walk_at "ev"
theorem qsd(W Y:List D)(n':Int)(FE:RhD)(DA:D->Option D)(hn:((W.length:Nat):Int)=n')(lw:W.length<=sizeLine)(cm:q14 1 [] none (gSet 0) (mRet true) FE W [some (.lst W),some (.int n')]=some (Y,[some (.lst W),some (.int n')]))(ha:DA (.lst Y)=some (.bl true)):
 (runP false 2 2 (sSeq (sIf (mOr w1s (q0b (mOp2 dNe (mOp1 dLen (mVar 0)) (mVar 1))))
 (sRet (mRet (.bl false)))
 sNil) (sRet (mOp1 DA (mOf (q20 1 [] none (mSeq (mVar 0)) (gSet 0) (mRet true) FE)))))) [.lst W,.int n']=some (.bl true):=by
 subst hn;walk_at "ev"
theorem qte:∀k:Nat,dAll (.lst (List.replicate k (.bl true)))=some (.bl true):=λk=>by have h:=q8c (List.replicate k true);rw[List.map_replicate]at h;show(q4u (List.replicate k (.bl true))).map _=_;rw[h];simp
theorem map_one{x:D}:∀xs:List D,xs.map (λ_=>x)=List.replicate xs.length x
 |[]=>rfl
 |_::xs=>by rw[xk,map_one xs];rfl
theorem qbk(w:List Int)(hb:Bits w)(n:Nat)(hl:w.length=n)(hn:n<=1000):f_y44 [.lst (w.map D.int),.int n]=some (.bl true):=by
 have cm:=q5y (n:=1) (js:=[]) (fg:=gSet 0) (fe:=w1d) (ρ:=[some (.lst (w.map D.int)),some (.int (n:Int))]) (λ_=>.bl true) (w.map D.int) (λx hx=>by obtain⟨b,hm,rfl⟩:=List.mem_map.mp hx;have:=hb b hm;exact⟨_,rfl,iw_e b (by omega) (by omega)⟩)
 rw[map_one]at cm;unfold f_y44 qjw;exact qsd _ _ _ _ _ (by rw[j9,hl]) (q1h (by rw[j9];omega)) cm (qte _)
theorem qc3:∀row:List Int,(∀b∈row,b=0∨b=1)->row.sum=((row.filter λb=>b==1).length:Nat)
 |[],_=>rfl
 | b::row,h=>by
  have ih:=qc3 row λc hc=>h c (jj _ hc);rw[List.sum_cons,ih];rcases h b jk with q|q
  ·subst q;rw[List.filter_cons_of_neg (by decide)];omega
  ·subst q;rw[List.filter_cons_of_pos (by decide),ju];omega
section
variable{r:Int}{taps:List Int}{rows:List (List Int)}{ts ts':List Told}{k:Nat}
theorem q73:∀{i j:Nat},i<=j->(q0d taps rows i).length<=(q0d taps rows j).length:=λ{i j} h=>by
 induction j with
 |zero=>rw[Nat.le_zero.mp h];exact jg _
 | succ j ih=>
  by_cases z:i=j+1
  ·rw[z];exact jg _
  ·rw[q36];exact x9 (ih (by omega)) (Nat.le_add_right _ _)
theorem qdx{j:Nat}(hj:j<k):chunk taps rows (ts.take (q0d taps rows k).length) j=chunk taps rows ts j:=by have h1:=q73 (taps:=taps) (rows:=rows) (show j+1<=k from hj);rw[q36]at h1;unfold chunk;rw[List.drop_take,List.take_take,Nat.min_eq_left (by omega)]
theorem qd5{row:Kr}{q:Nat}{p:Int×List Int}(h:row[q]? =some (some p)):q2o row<+:p.2:=(q52 _ _).2 _ (List.mem_filterMap.mpr ⟨some p,xm h,rfl⟩)
theorem q6b{row:Kr}(g:q4v (r:=r) (taps:=taps) (rows:=rows) (ts:=ts) k row):∃(q:Nat) (p:Int×List Int),row[q]? =some (some p):=by obtain⟨p,h1,_⟩:=g.best (List.replicate k 0) (q99 _) jo;exact⟨_,p,h1⟩
theorem qd4{row:Kr}(g:q4v (r:=r) (taps:=taps) (rows:=rows) (ts:=ts) k row):Bits (q2o row)/\(q2o row).length<=k:=by obtain⟨q,p,h1⟩:=q6b g;have h2:=qd5 h1;obtain⟨b1,b2,_⟩:=g.is q p h1;exact⟨λb hb=>b1 b (h2.subset hb),by rw[<-b2];exact h2.length_le⟩
end
theorem ir_0(W:List D)(n':Int)(k:D)(hn:((W.length:Nat):Int)=n'):(sIf (mOr w1s (q0b (mOp2 dNe (mOp1 dLen (mVar 0)) (mVar 1))))
 (sRet (mRet (.bl false)))
 sNil) [some (.lst W),some (.int n'),some k,none]=some (.nx [some (.lst W),some (.int n'),some k,none]):=by
 subst hn;walk_at "ev"
theorem quz(W n' k:D)(FX:RhO):(sIf (q0b (mOp2 q2i (mVar 3) (mRet .non))) FX sNil) [some W,some n',some k,some .non]=some (.nx [some W,some n',some k,some .non]):=by walk_at "ev"
theorem qsg(W n' k w:D)(a:Int)(hw:f_y44 [w,k]=some (.bl true))(wh:f_y43 [.int a]=some (.bl true)):(sIf (q0b (mOp2 q2i (mVar 3) (mRet .non)))
 (sSeq (sIf (mOr w2m (mOr (q0b (mOp2 dNe (mOp1 dLen (mVar 3)) (mRet (.int 2)))) w1r))
 (sRet (mRet (.bl false)))
 sNil) w0u)
 sNil) [some W,some n',some k,some (.tup [.int a,w])]=some (.nx [some W,some n',some k,some (.tup [.int a,w])]):=by
 walk_at "ev"
theorem qsh(W:List D)(n' k:D)(v3:Option D)(FB:RhO)(l1:q1q (gSet 3) FB W [some (.lst W),some n',some k,none]=some (.nx [some (.lst W),some n',some k,v3])):
 (sSeq (sFor (mSeq (mVar 0)) (gSet 3) FB) (sRet (mRet (.bl true)))) [some (.lst W),some n',some k,none]=some (.rt (.bl true) [some (.lst W),some n',some k,v3]):=by
 walk_at "ev"
theorem qls(row:Kr)(k:Nat)(hk:k<=1000)(hr:∀(q:Nat) (p:Int×List Int),row[q]? =some (some p)->Bits p.2/\p.2.length=k):f_y46 [krD row,.int (row.length:Nat),.int k]=some (.bl true):=by
 obtain⟨ρ',l1,v3,hρ⟩:=qnj (fg:=gSet 3) (fb:=(sIf (q0b (mOp2 q2i (mVar 3) (mRet .non)))
  (sSeq (sIf (mOr w2m (mOr (q0b (mOp2 dNe (mOp1 dLen (mVar 3)) (mRet (.int 2)))) w1r))
  (sRet (mRet (.bl false)))
  sNil) w0u)
  sNil)) (λρ=>∃v3,ρ=[some (.lst (row.map koD)),some (.int (row.length:Nat)),some (.int (k:Int)),v3]) (row.map koD) [some (.lst (row.map koD)),some (.int (row.length:Nat)),some (.int (k:Int)),none] ⟨none,rfl⟩ (λx ρ hx ⟨v3,hρ⟩=>by
   subst hρ;obtain⟨o,ho,rfl⟩:=List.mem_map.mp hx;cases o with
   |none=>exact⟨_,_,rfl,.inl (quz _ _ _ _),_,rfl⟩
   | some p=>
    obtain⟨q,hq⟩:=List.mem_iff_getElem?.mp ho;obtain⟨hb,hl⟩:=hr q p hq;exact⟨_,_,rfl,.inl (qsg _ _ _ _ _ (qbk p.2 hb k hl hk) (wh_1 _)),_,rfl⟩)
 subst hρ;exact q4k rfl ⟨_,(q0y (ir_0 _ _ _ (by rw[j9]))).trans (qsh _ _ _ _ _ l1)⟩
theorem co_1(KP WS:List D)(FT:RhB)(FE:RhD)(lk:KP.length<=sizeLine)(cm:q14 1 [] none (gSet 0) FT FE KP [some (.lst KP),none,none,none]=some (WS,[some (.lst KP),none,none,none])):
 (sSet 1 (mOf (q20 1 [] none (mSeq (mVar 0)) (gSet 0) FT FE))) [some (.lst KP),none,none,none]=some (.nx [some (.lst KP),some (.lst WS),none,none]):=by
 walk_at "ev"
theorem co_2(KP WS:D):(sSet 2 (mRet (.int 0))) [some KP,some WS,none,none]=some (.nx [some KP,some WS,some (.int 0),none]):=by walk_at "ev"
theorem co_n(KP m:D)(WS w:List D)(h:atI WS 0=some (.lst w)):w3e [some KP,some (.lst WS),some m,none]=some ([.int ((w.length:Nat):Int)],[some KP,some (.lst WS),some m,none]):=by walk_at "ev"
theorem co_t(WS:List D)(k':Int)(w w0 A B:D)(b:Bool)(h:atI WS 0=some w0)(s1:dSl w none (some (k'+1))=some A)(s2:dSl w0 none (some (k'+1))=some B)(hb:dNe A B=some (.bl b)):
 (q0b (mOp2 dNe (mSl (mVar 0) (mRet none) w0p) w0n)) [some w,some (.lst WS),some (.int k')]=some (b,[some w,some (.lst WS),some (.int k')]):=by
 generalize dNe=F at hb ⊢;walk_at "ev"
theorem co_e(w WS k':D):((mVar 0) [some w,some WS,some k']).map (·.1)=some w:=by walk_at "ev"
theorem co_y(KP:D)(WS:List D)(m k':Int)(FT:RhB)(FE:RhD)(lw:WS.length<=sizeLine)(z0:0<=sizeLine)(cm:q14 1 [1,3] none (gSet 0) FT FE WS [some KP,some (.lst WS),some (.int m),some (.int k')]=some ([],[some KP,some (.lst WS),some (.int m),some (.int k')]))(hE:eqD (.lst []) (.lst [])=some true):
 (sIf (q0b (mOp2 dEq (mOf (q20 1 [1,3] none (mSeq (mVar 1)) (gSet 0) FT FE)) (mOf (mLst mNil)))) w2r sNil) [some KP,some (.lst WS),some (.int m),some (.int k')]=some (.nx [some KP,some (.lst WS),some (.int (k'+1)),some (.int k')]):=by
 walk_at "ev"
theorem qv6(KP:D)(WS X:List D)(m k':Int)(FT:RhB)(FE:RhD)(FX:RhO)(lw:WS.length<=sizeLine)(z0:0<=sizeLine)(cm:q14 1 [1,3] none (gSet 0) FT FE WS [some KP,some (.lst WS),some (.int m),some (.int k')]=some (X,[some KP,some (.lst WS),some (.int m),some (.int k')]))(hE:eqD (.lst X) (.lst [])=some false):
 (sIf (q0b (mOp2 dEq (mOf (q20 1 [1,3] none (mSeq (mVar 1)) (gSet 0) FT FE)) (mOf (mLst mNil)))) FX sNil) [some KP,some (.lst WS),some (.int m),some (.int k')]=some (.nx [some KP,some (.lst WS),some (.int m),some (.int k')]):=by
 walk_at "ev"
theorem qtd(KP:D)(WS X:List D)(w0 A:D)(m0 m:Int)(v3:Option D)(FI:RhL)(FB:RhO)(h:atI WS 0=some w0)(hI:FI [some KP,some (.lst WS),some (.int m0),none]=some (X,[some KP,some (.lst WS),some (.int m0),none]))(l1:q1q (gSet 3) FB X [some KP,some (.lst WS),some (.int m0),none]=some (.nx [some KP,some (.lst WS),some (.int m),v3]))(s1:dSl w0 none (some m)=some A):
 (sSeq (sFor FI (gSet 3) FB) w35) [some KP,some (.lst WS),some (.int m0),none]=some (.rt A [some KP,some (.lst WS),some (.int m),v3]):=by
 walk_at "ev"
theorem qh8{n:Nat}{x:D}{xs:List D}(h:DOks n (x::xs))(hn:n+1<=64):eqD (.lst (x::xs)) (.lst [])=some false:=by
 obtain⟨ps,g1,g2,g3⟩:=h;have t1:(D.lst (x::xs)).toP=some (.list ps):=by simp only[D.toP,g1];rfl
 have t2:(D.lst []).toP=some (.list []):=by simp[D.toP,D.toPs]
 have s1:SeqAt.shaped (.list ps)=true:=by
  unfold SeqAt.shaped;have a1:PyData.canLay0 (.list ps)=true:=by simp only[PyData.canLay0];exact g2
  have a2:PyData.depth (.list ps)<=64:=by simp only[PyData.depth];omega
  rw[a1,decide_eq_true a2];rfl
 have s2:SeqAt.shaped (.list [])=true:=by decide
 unfold eqD;rw[t1,t2];dsimp only;rw[if_pos ⟨s1,s2⟩];cases ps with
 | nil=>
  exfalso;simp only[D.toPs]at g1;cases z1:x.toP with
  |none=>rw[z1]at g1;cases g1
  | some p1=>
   rw[z1]at g1;cases z2:D.toPs xs with
   |none=>rw[z2]at g1;cases g1
   |some p2=>rw[z2]at g1;cases g1
 |cons p ps=>simp[PyData.eqv,PyData.eqvAll]
theorem eq_nil:eqD (.lst []) (.lst [])=some true:=qco [] []
theorem qi2(row:Kr)(k:Nat)(hk:k<=60)(hm:row.length<=1000)(hr:∀(q:Nat) (p:Int×List Int),row[q]? =some (some p)->p.2.length=k)(hne:∃(q:Nat) (p:Int×List Int),row[q]? =some (some p)):f_y47 [krD row]=some (.lst ((q2o row).map D.int)):=by
 have cf:=q43 (n:=1) (js:=[]) (fg:=gSet 0) (ft:=q0b (mOp2 q2i (mVar 0) (mRet .non))) (fe:=(mOp2 dIx (mVar 0) (mRet (.int 1)))) (ρ:=[some (.lst (row.map koD)),none,none,none])
  (λd=>match d with|.non=>false|_=>true) (λd=>match d with|.tup [_,w]=>w|d=>d) (row.map koD) (λx hx=>by
    obtain⟨o,_,rfl⟩:=List.mem_map.mp hx;cases o with
    |none=>exact⟨_,rfl,se_t _ _ rfl,λh=>nomatch h⟩
    |some p=>exact⟨_,rfl,se_t _ _ rfl,λ_=>se_e _ _⟩)
 have ew:∀row:Kr,((row.map koD).filter (λd=>match d with|.non=>false|_=>true)).map (λd=>match d with|.tup [_,w]=>w|d=>d)=(q3u row).map λw=>D.lst (w.map D.int):=λrow=>by
  induction row with
  |nil=>rfl
  | cons o row ih=>
   cases o with
   |none=>exact ih
   | some p=>
    show D.lst (p.2.map D.int)::_=D.lst (p.2.map D.int)::_;rw[ih];rfl
 rw[ew]at cf;have hword:∀w∈q3u row,w.length=k:=λw hw=>by
  obtain⟨o,ho,e1⟩:=List.mem_filterMap.mp hw;obtain⟨q,hq⟩:=List.mem_iff_getElem?.mp ho;cases o with
  |none=>cases e1
  | some p=>
   have e1:p.2=w:=jd e1;rw[<-e1];exact hr q p hq
 have hne':q3u row≠[]:=by obtain⟨q,p,h1⟩:=hne;intro z;have:p.2∈q3u row:=List.mem_filterMap.mpr ⟨some p,xm h1,rfl⟩;rw[z]at this;cases this
 have lws:(q3u row).length<=row.length:=List.length_filterMap_le ..;unfold q2o;generalize q3u row=ws at cf hword hne' lws;obtain⟨w0,ws',rfl⟩:∃w0 ws',ws=w0::ws':=by
  cases ws with
  |nil=>exact absurd rfl hne'
  |cons a b=>exact⟨a,b,rfl⟩
 have h0:=hword w0 jk;show f_y47 [krD row]=some (.lst (((w0::ws').foldl q2h w0).map D.int));obtain⟨f1,f2⟩:=q52 (w0::ws') w0;have f3:=fold_max (w0::ws') w0;generalize (w0::ws').foldl q2h w0=c at f1 f2 f3 ⊢;have lc:c.length<=k:=by rw[<-h0];exact f1.length_le
 have agree:∀j,j<=k->((∀w∈w0::ws',w.take j=w0.take j)↔j<=c.length):=λj hj=>by
  constructor
  ·intro h;have:=f3 (w0.take j) (List.take_prefix _ _) (λw hw=>by rw[<-h w hw];exact List.take_prefix _ _);have:=this.length_le;rw[xl]at this;omega
  ·intro h w hw;have a1:=List.prefix_iff_eq_take.mp f1;have a2:=List.prefix_iff_eq_take.mp (f2 w hw);have e1:w0.take j=c.take j:=by rw[a1,List.take_take,Nat.min_eq_left h]
   have e2:w.take j=c.take j:=by rw[a2,List.take_take,Nat.min_eq_left h]
   rw[e1,e2]
 have at00:atI ((w0::ws').map λw=>D.lst (w.map D.int)) 0=some (.lst (w0.map D.int)):=at0 _ _;obtain⟨ρ',l1,v3,hρ⟩:=q2x (fg:=gSet 3) (fb:=(sIf (q0b (mOp2 dEq (mOf (q20 1 [1,3] none (mSeq (mVar 1)) (gSet 0) (q0b (mOp2 dNe (mSl (mVar 0) (mRet none) w0p) w0n)) (mVar 0))) (mOf (mLst mNil))))
  w2r
  sNil))
  (λi ρ=>∃v3,ρ=[some (.lst (row.map koD)),some (.lst ((w0::ws').map λw=>D.lst (w.map D.int))),some (.int ((min i c.length:Nat):Int)),v3]) (q1k 0 k) 0
  [some (.lst (row.map koD)),some (.lst ((w0::ws').map λw=>D.lst (w.map D.int))),some (.int 0),none] ⟨none,by rw[Nat.zero_min];rfl⟩ (λi x ρ hx ⟨v3,hρ⟩=>by
   subst hρ;obtain⟨hi,rfl⟩:=q24 hx;rw[Int.zero_add,jq];have cf2:=q43 (n:=1) (js:=[1,3]) (fg:=gSet 0) (ft:=(q0b (mOp2 dNe (mSl (mVar 0) (mRet none) w0p) w0n))) (fe:=mVar 0) (ρ:=[some (.lst (row.map koD)),some (.lst ((w0::ws').map λw=>D.lst (w.map D.int))),some (.int ((min i c.length:Nat):Int)),some (.int (i:Int))])
    (λd=>match d with|.lst xs=>(match q2s xs with|some w=>decide (w.take (i+1)≠w0.take (i+1))|none=>false)|_=>false) (λd=>d) ((w0::ws').map λw=>D.lst (w.map D.int)) (λx hx=>by
      obtain⟨w,_,rfl⟩:=List.mem_map.mp hx;have sl:∀w:List Int,dSl (.lst (w.map D.int)) none (some ((i:Int)+1))=some (.lst ((w.take (i+1)).map D.int)):=λw=>by rw[q96 (by omega),show((i:Int)+1).toNat=i+1 from by omega,List.map_take]
      refine⟨[some (.lst (w.map D.int)),some (.lst ((w0::ws').map λw=>D.lst (w.map D.int))),some (.int (i:Int))],rfl,?_,λ_=>co_e _ _ _⟩;refine co_t _ _ _ _ _ _ _ at00 (sl w) (sl w0) ?_;show(eqD _ _).map _=_;rw[qco];dsimp only;rw[q2n];show some (D.bl (!decide (w.take (i+1)=w0.take (i+1))))=some (D.bl (decide (w.take (i+1)≠w0.take (i+1))));rw[<-decide_not])
   have lw2:((w0::ws').map λw=>D.lst (w.map D.int)).length<=sizeLine:=q1h (by rw[j9];omega);by_cases hj:i+1<=c.length
   ·have hall:=(agree (i+1) (by omega)).mpr hj;have en:(((w0::ws').map λw=>D.lst (w.map D.int)).filter (λd=>match d with|.lst xs=>(match q2s xs with|some w=>decide (w.take (i+1)≠w0.take (i+1))|none=>false)|_=>false))=[]:=by
     rw[List.filter_eq_nil_iff];intro x hx;obtain⟨w,hw,rfl⟩:=List.mem_map.mp hx;dsimp only;rw[q2n];simp[hall w hw]
    rw[en]at cf2;exact⟨_,_,rfl,.inl (co_y _ _ _ _ _ _ lw2 (by decide) cf2 eq_nil),_,by rw[Nat.min_eq_left hj];rfl⟩
   ·have hex:∃w∈w0::ws',w.take (i+1)≠w0.take (i+1):=Classical.byContradiction λz=>hj ((agree (i+1) (by omega)).mp λw hw=>Classical.byContradiction λz2=>z ⟨w,hw,z2⟩);obtain⟨w,hw,hwn⟩:=hex;have hin:D.lst (w.map D.int)∈(((w0::ws').map λw=>D.lst (w.map D.int)).filter (λd=>match d with|.lst xs=>(match q2s xs with|some w=>decide (w.take (i+1)≠w0.take (i+1))|none=>false)|_=>false)):=by
     refine List.mem_filter.mpr ⟨List.mem_map.mpr ⟨w,hw,rfl⟩,?_⟩;dsimp only;rw[q2n];exact decide_eq_true hwn
    have hmem:∀d∈(((w0::ws').map λw=>D.lst (w.map D.int)).filter (λd=>match d with|.lst xs=>(match q2s xs with|some w=>decide (w.take (i+1)≠w0.take (i+1))|none=>false)|_=>false)),DOk 1 d:=λd hd=>by obtain⟨w,_,rfl⟩:=List.mem_map.mp (List.mem_filter.mp hd).1;exact DOk.ints w
    rw[List.map_id'']at cf2
    ·generalize (((w0::ws').map λw=>D.lst (w.map D.int)).filter (λd=>match d with|.lst xs=>(match q2s xs with|some w=>decide (w.take (i+1)≠w0.take (i+1))|none=>false)|_=>false))=X at cf2 hin hmem;cases X with
     |nil=>cases hin
     |cons a X=>exact⟨_,_,rfl,.inl (qv6 _ _ _ _ _ _ _ _ lw2 (by decide) cf2 (qh8 (.all hmem) (by decide))),_,by rw[show min (i+1) c.length=min i c.length from by omega]⟩
    ·intro x;rfl)
 subst hρ;rw[q1j,jq,Nat.min_eq_right lc]at l1;have hI:=q49 (co_n (.lst (row.map koD)) (.int 0) _ _ at00) (by omega) (by rw[j9];omega);rw[j9,h0,jx]at hI;have sc:dSl (.lst (w0.map D.int)) none (some ((c.length:Nat):Int))=some (.lst (c.map D.int)):=by rw[q96 (by omega),jx,<-List.map_take,<-List.prefix_iff_eq_take.mp f1]
 exact q4k rfl ⟨_,(q0y (co_1 _ _ _ _ (q1h (by rw[j9];omega)) cf)).trans<|(q0y (co_2 _ _)).trans (qtd _ _ _ _ _ _ _ _ _ _ at00 hI l1 sc)⟩
theorem qox(S n T:D)(x:Str)(h:q87 [S,n,T]=some x):q86 [S,n,T]=some x:=by unfold q86 qhz;rw[q6v];walk_at "ev"
theorem qow(S S' n T k0:D)(x:Str)(hf:f_y26 [S]=some k0)(ho:f_y25 [S]=some S')(h:q86 [S',n,T]=some x):q6e [S,n,T]=some x:=by unfold q6e qhy;walk_at "ev"
theorem qov(S n T:D)(x:Str)(h:q6e [S,n,T]=some x):q85 [S,n,T]=some x:=by unfold q85 qhx;walk_at "ev"
theorem qp1(S n T:D)(h:q6e [S,n,T]=some ("NoSigns":Str)):f_y48 [.int 0,S,n,T]=some (.bl true):=by
 have c1:("NoSigns":Str)∈tk_NoSigns:=by decide+kernel
 unfold f_y48 qhm;generalize tk_NoSigns=T1 at c1 ⊢;walk_at "ev"
theorem qp0(S n T:D)(h:q85 [S,n,T]=some ("NoSigns":Str)):f_y48 [.int 1,S,n,T]=some (.bl true):=by
 have c1:("NoSigns":Str)∈tk_NoSigns:=by decide+kernel
 unfold f_y48 qhm;generalize tk_NoSigns=T1 at c1 ⊢;walk_at "ev"
section
variable{r:Int}{taps:List Int}{rows:List (List Int)}{e:Str}
theorem q9d(ok:q26 r taps rows e)(k:Nat)(hk:k<=60)(hs:List D)(hl:hs.length≠(q0d taps rows k).length)(w:Int)(hw:w=0∨w=1):f_y48 [.int w,schD r taps rows e,.int k,.lst hs]=some (.bl true):=by
 have hz:q12 r "open"=0:=if_neg (by decide);have hx:=qow _ _ _ _ _ _ (q78 ok) qma (qox _ _ _ _ (qi1 (qb8 ok) k hk (λq=>absurd q (by decide)) hs (by rw[hz];exact hl)));rcases hw with rfl|rfl
 ·exact qp1 _ _ _ hx
 ·exact qp0 _ _ _ (qov _ _ _ _ hx)
end
theorem nr_4(S k SG:D)(RW Y:List D)(FE:RhD)(lr:RW.length<=sizeLine)(cm:q14 1 [] none (gSet 0) (mRet true) FE RW [some S,some k,some SG,some (.lst RW),none,none,none,none,none,none,none]=some (Y,[some S,some k,some SG,some (.lst RW),none,none,none,none,none,none,none])):
 (sOwn 4 (q20 1 [] none (mSeq (mVar 3)) (gSet 0) (mRet true) FE)) [some S,some k,some SG,some (.lst RW),none,none,none,none,none,none,none]=some (.nx [some S,some k,some SG,some (.lst RW),some (.lst Y),none,none,none,none,none,none]):=by
 walk_at "ev"
theorem nr_n(S k SG L:D)(RW:List D):(q00 (mOp1 dLen (mVar 3)) mNil) [some S,some k,some SG,some (.lst RW),some L,none,none,none,none,none,none]=some ([.int ((RW.length:Nat):Int)],[some S,some k,some SG,some (.lst RW),some L,none,none,none,none,none,none]):=by walk_at "ev"
theorem qrg(S k SG RW:D)(L0 X F:List D)(v5 v6 v7 v8 v9 v10:Option D)(FI:RhL)(FB:RhO)(hI:FI [some S,some k,some SG,some RW,some (.lst L0),none,none,none,none,none,none]=some (X,[some S,some k,some SG,some RW,some (.lst L0),none,none,none,none,none,none]))
 (l1:q1q (gSet 5) FB X [some S,some k,some SG,some RW,some (.lst L0),none,none,none,none,none,none]=some (.nx [some S,some k,some SG,some RW,some (.lst F),v5,v6,v7,v8,v9,v10])):
 (sSeq (sFor FI (gSet 5) FB) (q5b 4)) [some S,some k,some SG,some RW,some (.lst L0),none,none,none,none,none,none]=some (.rt (.lst F) [some S,some k,some SG,some RW,none,v5,v6,v7,v8,v9,v10]):=by
 walk_at "ev"
theorem qe9{i:Nat}{FB:RhO}{ρ ρ1 ρ2:Rho}{a b:D}(h1:FB (ρ.set i (some a))=some (.nx ρ1))(h2:FB (ρ1.set i (some b))=some (.nx ρ2)):q1q (gSet i) FB [a,b] ρ=some (.nx ρ2):=by have g1:gSet i a ρ=some (ρ.set i (some a)):=rfl;have g2:gSet i b ρ1=some (ρ1.set i (some b)):=rfl;unfold q1q;rw[g1];dsimp only;rw[h1];dsimp only;unfold q1q;rw[g2];dsimp only;rw[h2];rfl
theorem nr_i(S k SG RW L za:D)(v6 v7 v8 v9 v10:Option D)(two:2<=sizeLine):(mSeq (mOf (mLst w0r))) [some S,some k,some SG,some RW,some L,some za,v6,v7,v8,v9,v10]=some ([.int 0,.int 1],[some S,some k,some SG,some RW,some L,some za,v6,v7,v8,v9,v10]):=by walk_at "ev"
theorem nr_g(S k SG RW L L' za:D)(X:List D)(v6 v7 v8 v9 v10 w6 w7 w8 w9 w10:Option D)(FI:RhL)(FB:RhO)(hI:FI [some S,some k,some SG,some RW,some L,some za,v6,v7,v8,v9,v10]=some (X,[some S,some k,some SG,some RW,some L,some za,v6,v7,v8,v9,v10]))
 (l1:q1q (gSet 6) FB X [some S,some k,some SG,some RW,some L,some za,v6,v7,v8,v9,v10]=some (.nx [some S,some k,some SG,some RW,some L',some za,w6,w7,w8,w9,w10])):
 (sFor FI (gSet 6) FB) [some S,some k,some SG,some RW,some L,some za,v6,v7,v8,v9,v10]=some (.nx [some S,some k,some SG,some RW,some L',some za,w6,w7,w8,w9,w10]):=by
 walk_at "ev"
theorem nr_f(S k SG RW L L' za:D)(v6 v7 v8 v9 v10 w6 w7 w8 w9 w10:Option D)(FB:RhO)(two:2<=sizeLine)
 (l1:q1q (gSet 6) FB [.int 0,.int 1] [some S,some k,some SG,some RW,some L,some za,v6,v7,v8,v9,v10]=some (.nx [some S,some k,some SG,some RW,some L',some za,w6,w7,w8,w9,w10])):
 (sFor (mSeq (mOf (mLst w0r))) (gSet 6) FB) [some S,some k,some SG,some RW,some L,some za,v6,v7,v8,v9,v10]=some (.nx [some S,some k,some SG,some RW,some L',some za,w6,w7,w8,w9,w10]):=
 nr_g _ _ _ _ _ _ _ _ _ _ _ _ _ _ _ _ _ _ _ _ (nr_i _ _ _ _ _ _ _ _ _ _ _ two) l1
theorem qrf(S k SG L:D)(RW:List D)(za:Int)(v6 v7 v8 v9 v10:Option D)(FX:RhO)(h:atI RW za=some .non):
 (sIf (q0b (mOp2 q2i (mOp2 dIx (mVar 3) (mVar 5)) (mRet .non))) FX sNil) [some S,some k,some SG,some (.lst RW),some L,some (.int za),v6,v7,v8,v9,v10]=some (.nx [some S,some k,some SG,some (.lst RW),some L,some (.int za),v6,v7,v8,v9,v10]):=by
 walk_at "ev"
theorem qre(S k SG L a w:D)(RW:List D)(za:Int)(v6 v7 v8 v9 v10:Option D)(X:Rho)(FX:RhO)(h:atI RW za=some (.tup [a,w]))(hx:FX [some S,some k,some SG,some (.lst RW),some L,some (.int za),v6,v7,v8,v9,v10]=some (.nx X)):
 (sIf (q0b (mOp2 q2i (mOp2 dIx (mVar 3) (mVar 5)) (mRet .non))) FX sNil) [some S,some k,some SG,some (.lst RW),some L,some (.int za),v6,v7,v8,v9,v10]=some (.nx X):=by
 walk_at "ev"
theorem nr_a(S k SG RW L za bit th md:D)(v7 v8 v9 v10:Option D)(h:f_y37 [S,k,za,bit]=some (.tup [th,md])):
 w0a [some S,some k,some SG,some RW,some L,some za,some bit,v7,v8,v9,v10]=some (.nx [some S,some k,some SG,some RW,some L,some za,some bit,some th,some md,v9,v10]):=by
 walk_at "ev"
theorem nr_b(S k RW L za bit th:D)(SG MD Z Y:List D)(ns:List Int)(v9 v10:Option D)(FE:RhD)(hz:zipD SG MD=Z)(lz:Z.length<=sizeLine)(cm:q14 2 [] none (q1n 2 (q0c (gSet 0) (q0c (gSet 1) q1o))) (mRet true) FE Z [some S,some k,some (.lst SG),some RW,some L,some za,some bit,some th,some (.lst MD),v9,v10]=some (Y,[some S,some k,some (.lst SG),some RW,some L,some za,some bit,some th,some (.lst MD),v9,v10]))(hi:q2s Y=some ns):
 (sSet 9 (mOp1 dSum (mOf (q20 2 [] none w42 (q1n 2 (q0c (gSet 0) (q0c (gSet 1) q1o))) (mRet true) FE)))) [some S,some k,some (.lst SG),some RW,some L,some za,some bit,some th,some (.lst MD),v9,v10]=some (.nx [some S,some k,some (.lst SG),some RW,some L,some za,some bit,some th,some (.lst MD),some (.int ns.sum),v10]):=by
 walk_at "ev"
theorem nr_c(S k SG L th md:D)(RW W:List D)(za bit a c:Int)(v10:Option D)(two:2<=sizeLine)(one:1<=sizeLine)(lw:W.length+1<=sizeLine)(h:atI RW za=some (.tup [.int a,.lst W])):
 w02 [some S,some k,some SG,some (.lst RW),some L,some (.int za),some (.int bit),some th,some md,some (.int c),v10]=some (.nx [some S,some k,some SG,some (.lst RW),some L,some (.int za),some (.int bit),some th,some md,some (.int c),some (.tup [.int (a+c),.lst (W++[.int bit])])]):=by
 walk_at "ev"
theorem nr_t(S k SG RW za bit md c ot q:D)(L:List D)(th:Int)(b0 b1:Bool)(h:atI L th=some q)(h0:dIsN q .non=some (.bl b0))(h1:b0=false->dLtP ot q=some (.bl b1)):
 (mOr (q0b (mOp2 dIsN (mIxO 4 (mVar 7)) (mRet .non))) (q0b (mOp2 dLtP (mVar 10) (mIxO 4 (mVar 7))))) [some S,some k,some SG,some RW,some (.lst L),some za,some bit,some (.int th),some md,some c,some ot]=some (b0||b1,[some S,some k,some SG,some RW,some (.lst L),some za,some bit,some (.int th),some md,some c,some ot]):=by
 generalize dIsN=F at h0 ⊢;generalize dLtP=G at h1 ⊢;cases b0 with
 |true=>walk_at "ev"
 | false=>
  have h1:=h1 rfl;walk_at "ev"
theorem nr_s(S k SG RW za bit md c ot:D)(L:List D)(th:Int)(i:Nat)(FT:RhB)(hi:ixN L.length th=some i)(hT:FT [some S,some k,some SG,some RW,some (.lst L),some za,some bit,some (.int th),some md,some c,some ot]=some (true,[some S,some k,some SG,some RW,some (.lst L),some za,some bit,some (.int th),some md,some c,some ot])):
 (sIf FT (q48 4 (mVar 10) (mVar 7)) sNil) [some S,some k,some SG,some RW,some (.lst L),some za,some bit,some (.int th),some md,some c,some ot]=some (.nx [some S,some k,some SG,some RW,some (.lst (L.set i ot)),some za,some bit,some (.int th),some md,some c,some ot]):=by
 have e:(q48 4 (mVar 10) (mVar 7)) [some S,some k,some SG,some RW,some (.lst L),some za,some bit,some (.int th),some md,some c,some ot]=some (.nx [some S,some k,some SG,some RW,some (.lst (L.set i ot)),some za,some bit,some (.int th),some md,some c,some ot]):=by rw[q6t];show((ixN L.length th).map λm=>D.lst (L.set m ot)).map _=_;rw[hi];rfl
 generalize q48 4 (mVar 10) (mVar 7)=FS at e ⊢;walk_at "ev"
theorem nr_k(S k SG RW za bit md c ot:D)(L:List D)(th:Int)(FT:RhB)(FX:RhO)(hT:FT [some S,some k,some SG,some RW,some (.lst L),some za,some bit,some (.int th),some md,some c,some ot]=some (false,[some S,some k,some SG,some RW,some (.lst L),some za,some bit,some (.int th),some md,some c,some ot])):
 (sIf FT FX sNil) [some S,some k,some SG,some RW,some (.lst L),some za,some bit,some (.int th),some md,some c,some ot]=some (.nx [some S,some k,some SG,some RW,some (.lst L),some za,some bit,some (.int th),some md,some c,some ot]):=by
 walk_at "ev"
section
variable{r:Int}{taps:List Int}{rows:List (List Int)}{e:Str}
theorem qfs(k:Nat)(x:Int):∀b∈q3v (rowAt rows k) (taps.map (sgn x)),b=0∨b=1:=λb hb=>by rw[q75]at hb;obtain⟨q,_,rfl⟩:=List.mem_map.mp hb;exact qm1 _ _
theorem ql7(ok:q26 r taps rows e)(k:Nat)(ts:List Told)(row:Kr)(za:Nat)(p:Int×List Int)(hp:row[za]? =some (some p))(hl:p.2.length<=900)(bit:Int)(hb:bit=0∨bit=1)(L:Kr)(lL:L.length=2^r.toNat)(hL:∀(q:Nat) (x:Int×List Int),L[q]? =some (some x)->x.2.length=p.2.length+1)(v7 v8 v9 v10:Option D):
 ∃w7 w8 w9 w10,(sIf (q0b (mOp2 q2i (mOp2 dIx (mVar 3) (mVar 5)) (mRet .non)))
 (sSeq w0a (sSeq w0b (sSeq w02 (sIf (mOr (q0b (mOp2 dIsN (mIxO 4 (mVar 7)) (mRet .non))) (q0b (mOp2 dLtP (mVar 10) (mIxO 4 (mVar 7)))))
 (q48 4 (mVar 10) (mVar 7))
 sNil))))
 sNil) [some (schD r taps rows e),some (.int (k:Int)),some (.lst ((chunk taps rows ts k).map q10)),some (.lst (row.map koD)),some (krD L),some (.int (za:Int)),some (.int bit),v7,v8,v9,v10]
  =some (.nx [some (schD r taps rows e),some (.int (k:Int)),some (.lst ((chunk taps rows ts k).map q10)),some (.lst (row.map koD)),some (krD (putK L ((mvK r taps rows ts k za bit).1,(p.1+(mvK r taps rows ts k za bit).2,p.2++[bit])))),some (.int (za:Int)),some (.int bit),w7,w8,w9,w10]):=by
 have m0:(0:Int)<2^r.toNat:=Int.pow_pos (by decide);have pn:=q3j (r:=r);have at3:atI (row.map koD) (za:Int)=some (.tup [.int p.1,.lst (p.2.map D.int)]):=by refine q5l ?_;rw[je,hp];rfl
 have st:=v_y3 ok k (za:Int) bit (by omega) (by omega);have sb:=qfs (taps:=taps) (rows:=rows) k (2*(za:Int)+bit);have sl:=qbx ok k (2*(za:Int)+bit);have s4:=sel4 ok k;have h2:=Int.emod_nonneg (2*(za:Int)+bit) (by omega:(2:Int)^r.toNat≠0);have h3:=Int.emod_lt_of_pos (2*(za:Int)+bit) m0;have em:mvK r taps rows ts k za bit=((2*(za:Int)+bit) % 2^r.toNat,q55 (chunk taps rows ts k) (q3v (rowAt rows k) (taps.map (sgn (2*(za:Int)+bit))))):=rfl;rw[em];dsimp only;generalize q3v (rowAt rows k) (taps.map (sgn (2*(za:Int)+bit)))=md at st sb sl;generalize (2*(za:Int)+bit) % 2^r.toNat=th at st h2 h3;have hlt:th.toNat<L.length:=by rw[lL];omega
 have hz:zipD ((chunk taps rows ts k).map q10) (md.map D.int)=((chunk taps rows ts k).zip md).map λq=>D.tup [q10 q.1,.int q.2]:=by rw[q5m,q4x,jv];rfl
 have lz:(((chunk taps rows ts k).zip md).map λq=>D.tup [q10 q.1,.int q.2]).length<=sizeLine:=by rw[j9,xv];have:=Nat.min_le_right (chunk taps rows ts k).length md.length;exact q1h (by omega)
 have cp:=λρ=>q88 ρ ((chunk taps rows ts k).zip md) (λq hq=>sb q.2 (List.of_mem_zip (show(q.1,q.2)∈_ from hq)).2);have hc:(((chunk taps rows ts k).zip md).map λq=>q4m q.1 q.2).sum=q55 (chunk taps rows ts k) md:=rfl;have hat:atI (L.map koD) th=some (koD (L.getD th.toNat none)):=by refine qhs h2 ?_;rw[je,jf hlt,jz,jf hlt];rfl
 have hix:ixN (L.map koD).length th=some th.toNat:=qgr h2 (by rw[j9];exact hlt);have eo:D.tup [.int (p.1+q55 (chunk taps rows ts k) md),.lst (p.2.map D.int++[.int bit])]=pairD (p.1+q55 (chunk taps rows ts k) md,p.2++[bit]):=by unfold pairD;rw[x8];rfl
 have b:=nr_b (schD r taps rows e) (.int (k:Int)) (.lst (row.map koD)) (krD L) (.int (za:Int)) (.int bit) (.int th) _ _ _ _ _ v9 v10 _ hz lz (cp _) (q2n _);rw[hc]at b;have c:=nr_c (schD r taps rows e) (.int (k:Int)) (.lst ((chunk taps rows ts k).map q10)) (krD L) (.int th) (.lst (md.map D.int)) (row.map koD) (p.2.map D.int) (za:Int) bit p.1 (q55 (chunk taps rows ts k) md) v10 (by decide) (by decide) (q1h (by rw[j9];omega)) at3;rw[eo]at c;have e3:∀x,krD (putK L (th,x))=.lst ((L.map koD).set th.toNat (pairD (betP (L.getD th.toNat none) x))):=λx=>by unfold krD putK;rw[List.map_set];rfl
 have put:(sIf (mOr (q0b (mOp2 dIsN (mIxO 4 (mVar 7)) (mRet .non))) (q0b (mOp2 dLtP (mVar 10) (mIxO 4 (mVar 7)))))
  (q48 4 (mVar 10) (mVar 7))
  sNil) [some (schD r taps rows e),some (.int (k:Int)),some (.lst ((chunk taps rows ts k).map q10)),some (.lst (row.map koD)),some (krD L),some (.int (za:Int)),some (.int bit),some (.int th),some (.lst (md.map D.int)),some (.int (q55 (chunk taps rows ts k) md)),some (pairD (p.1+q55 (chunk taps rows ts k) md,p.2++[bit]))]
   =some (.nx [some (schD r taps rows e),some (.int (k:Int)),some (.lst ((chunk taps rows ts k).map q10)),some (.lst (row.map koD)),some (krD (putK L (th,(p.1+q55 (chunk taps rows ts k) md,p.2++[bit])))),some (.int (za:Int)),some (.int bit),some (.int th),some (.lst (md.map D.int)),some (.int (q55 (chunk taps rows ts k) md)),some (pairD (p.1+q55 (chunk taps rows ts k) md,p.2++[bit]))]):=by
  have hL':=hL th.toNat;rw[e3];generalize hx:(p.1+q55 (chunk taps rows ts k) md,p.2++[bit])=x;have lx:x.2.length=p.2.length+1:=by rw[<-hx,jl];rfl
  have hg:L[th.toNat]? =some (L.getD th.toNat none):=by rw[jz,jf hlt];rfl
  cases ho:L.getD th.toNat none with
  | none=>
   rw[ho]at hat;exact nr_s _ _ _ _ _ _ _ _ _ _ _ _ _ hix (nr_t _ _ _ _ _ _ _ _ _ .non _ _ true true hat rfl (λz=>nomatch z))
  | some q=>
   rw[ho]at hat hg;have lq:=hL' q hg;have hlt2:=qtb (x:=x) (y:=q) (by rw[lx,lq]);cases hb2:qLt x q with
   | true=>
    rw[hb2]at hlt2;have eb:betP (some q) x=x:=if_pos hb2;rw[eb];exact nr_s _ _ _ _ _ _ _ _ _ _ _ _ _ hix (nr_t _ _ _ _ _ _ _ _ _ (pairD q) _ _ false true hat rfl (λ_=>hlt2))
   | false=>
    rw[hb2]at hlt2;have eb:betP (some q) x=q:=if_neg (by rw[hb2];decide);rw[eb];have es:(L.map koD).set th.toNat (pairD q)=L.map koD:=by
     have hlm:th.toNat<(L.map koD).length:=by rw[j9];exact hlt
     have h4:(L.map koD)[th.toNat]=pairD q:=by rw[List.getElem_map];have:=jf hlt;rw[hg]at this;rw[<-jd this];rfl
     rw[<-h4];exact List.set_getElem_self hlm
    rw[es];exact nr_k _ _ _ _ _ _ _ _ _ _ _ _ _ (nr_t _ _ _ _ _ _ _ _ _ (pairD q) _ _ false false hat rfl (λ_=>hlt2))
 exact⟨_,_,_,_,qre _ _ _ _ _ _ _ _ _ _ _ _ _ _ _ at3 ((q0y (nr_a _ _ _ _ _ _ _ _ _ _ _ _ _ st)).trans<|(q0y b).trans<|(q0y c).trans put)⟩
theorem qe7(ok:q26 r taps rows e)(k n:Nat)(hk:k<n)(ts:List Told)(row:Kr)(len:Nat)(zd:len<=900)(lr:row.length=2^r.toNat)(hr:∀(q:Nat) (p:Int×List Int),row[q]? =some (some p)->p.2.length=len):
 f_y45 [schD r taps rows e,.int k,.lst ((chunk taps rows ts k).map q10),krD row]=some (krD (q3a row (stepK r taps rows ts n k))):=by
 have p16:=q30 ok.r0 ok.r4;have pn:=q3j (r:=r);have cm:=q5y (n:=1) (js:=[]) (fg:=gSet 0) (fe:=mRet .non) (ρ:=[some (schD r taps rows e),some (.int (k:Int)),some (.lst ((chunk taps rows ts k).map q10)),some (.lst (row.map koD)),none,none,none,none,none,none,none]) (λ_=>.non) (row.map koD) (λx hx=>⟨_,rfl,rfl⟩);rw[map_one,j9]at cm;have en:(List.replicate row.length (none:Option (Int×List Int))).map koD=List.replicate row.length .non:=List.map_replicate;have hst:∀i:Nat,i<row.length->(stepK r taps rows ts n k)[i]? =some [mvK r taps rows ts k i 0,mvK r taps rows ts k i 1]:=λi hi=>by unfold L2.stepK;rw[je,xp (by omega)];have:q44 n k=[0,1]:=if_pos hk;rw[this];rfl
 have lst:(stepK r taps rows ts n k).length=row.length:=by unfold L2.stepK;rw[j9,List.length_range,lr]
 generalize hS:stepK r taps rows ts n k=st at hst lst;obtain⟨ρ',l1,v5,v6,v7,v8,v9,v10,hρ⟩:=q2x (fg:=gSet 5) (fb:=(sFor (mSeq (mOf (mLst w0r))) (gSet 6)
  (sIf (q0b (mOp2 q2i (mOp2 dIx (mVar 3) (mVar 5)) (mRet .non)))
  (sSeq w0a (sSeq w0b (sSeq w02 (sIf (mOr (q0b (mOp2 dIsN (mIxO 4 (mVar 7)) (mRet .non))) (q0b (mOp2 dLtP (mVar 10) (mIxO 4 (mVar 7)))))
  (q48 4 (mVar 10) (mVar 7))
  sNil))))
  sNil)))
  (λi ρ=>∃v5 v6 v7 v8 v9 v10,ρ=[some (schD r taps rows e),some (.int (k:Int)),some (.lst ((chunk taps rows ts k).map q10)),some (.lst (row.map koD)),some (krD ((((row.zip st).take i).flatMap q3t).foldl putK (List.replicate row.length none))),v5,v6,v7,v8,v9,v10]) (q1k 0 row.length) 0
  [some (schD r taps rows e),some (.int (k:Int)),some (.lst ((chunk taps rows ts k).map q10)),some (.lst (row.map koD)),some (.lst (List.replicate row.length .non)),none,none,none,none,none,none] ⟨none,none,none,none,none,none,by rw[<-en];rfl⟩ (λi x ρ hx ⟨v5,v6,v7,v8,v9,v10,hρ⟩=>by
   subst hρ;obtain⟨hi,rfl⟩:=q24 hx;rw[Int.zero_add,jq];have hq:(row.zip st)[i]? =some (row[i],[mvK r taps rows ts k i 0,mvK r taps rows ts k i 1]):=List.getElem?_zip_eq_some.mpr ⟨jf hi,hst i hi⟩;rw[take_snoc hq,List.flatMap_append,List.foldl_append];have e1:[(row[i],[mvK r taps rows ts k i 0,mvK r taps rows ts k i 1])].flatMap q3t=q3t (row[i],[mvK r taps rows ts k i 0,mvK r taps rows ts k i 1]):=by simp
   rw[e1];have lL:((((row.zip st).take i).flatMap q3t).foldl putK (List.replicate row.length none)).length=row.length:=by rw[q4d,jo]
   have hL:∀(q:Nat) (y:Int×List Int),((((row.zip st).take i).flatMap q3t).foldl putK (List.replicate row.length none))[q]? =some (some y)->y.2.length=len+1:=λq y h=>by
    rcases q3b _ _ _ _ h with g|⟨c,hc,_,g⟩
    ·rw[xr]at g;split at g<;>cases g
    ·obtain⟨w,hw,hc⟩:=List.mem_flatMap.mp hc;obtain⟨j,hj⟩:=List.mem_iff_getElem?.mp (List.mem_of_mem_take hw);obtain⟨j1,j2⟩:=List.getElem?_zip_eq_some.mp hj;unfold q3t at hc;split at hc
     ·cases hc
     ·rename_i p e;rw[e]at j1;rw[<-g,q4t hc,hr j p j1]
   generalize (((row.zip st).take i).flatMap q3t).foldl putK (List.replicate row.length none)=L at lL hL;have hri:row[i]? =some row[i]:=jf hi;generalize row[i]=o at hri;cases o with
   | none=>
    have at3:atI (row.map koD) (i:Int)=some .non:=q5l (by rw[je,hri];rfl);refine⟨_,[some (schD r taps rows e),some (.int (k:Int)),some (.lst ((chunk taps rows ts k).map q10)),some (.lst (row.map koD)),some (krD L),some (.int (i:Int)),some (.int 1),v7,v8,v9,v10],rfl,.inl (nr_f _ _ _ _ _ _ _ _ _ _ _ _ _ _ _ _ _ _ (by decide) ?_),_,_,_,_,_,_,rfl⟩;exact qe9 (ρ1:=[some (schD r taps rows e),some (.int (k:Int)),some (.lst ((chunk taps rows ts k).map q10)),some (.lst (row.map koD)),some (krD L),some (.int (i:Int)),some (.int 0),v7,v8,v9,v10]) (qrf _ _ _ _ _ _ (some (.int 0)) v7 v8 v9 v10 _ at3) (qrf _ _ _ _ _ _ (some (.int 1)) v7 v8 v9 v10 _ at3)
   | some p=>
    have hp:=hr i p hri;obtain⟨a7,a8,a9,a10,s0⟩:=ql7 ok k ts row i p hri (by omega) 0 (.inl rfl) L (by rw[lL,lr]) (by rw[hp];exact hL) v7 v8 v9 v10;have lL1:(putK L ((mvK r taps rows ts k i 0).1,(p.1+(mvK r taps rows ts k i 0).2,p.2++[0]))).length=2^r.toNat:=by rw[q8q,lL,lr]
    have hL1:∀(q:Nat) (x:Int×List Int),(putK L ((mvK r taps rows ts k i 0).1,(p.1+(mvK r taps rows ts k i 0).2,p.2++[0])))[q]? =some (some x)->x.2.length=p.2.length+1:=λq x h=>by
     rcases q3b [((mvK r taps rows ts k i 0).1,(p.1+(mvK r taps rows ts k i 0).2,p.2++[(0:Int)]))] L q x h with g|⟨c,hc,_,g⟩
     ·rw[hp];exact hL q x g
     ·rw[<-g,List.mem_singleton.mp hc,jl];rfl
    obtain⟨b7,b8,b9,b10,s1⟩:=ql7 ok k ts row i p hri (by omega) 1 (.inr rfl) _ lL1 hL1 a7 a8 a9 a10;exact⟨_,_,rfl,.inl (nr_f _ _ _ _ _ _ _ _ _ _ _ _ _ _ _ _ _ _ (by decide) (qe9 s0 s1)),_,_,_,_,_,_,rfl⟩)
 subst hρ;rw[q1j,jq,<-show(row.zip st).length=row.length from by rw[xv,lst,Nat.min_self],List.take_length]at l1;have ec:(row.zip st).flatMap q3t=qbg row st:=rfl;rw[ec,show(row.zip st).length=row.length from by rw[xv,lst,Nat.min_self]]at l1;have hI:=q49 (nr_n (schD r taps rows e) (.int (k:Int)) (.lst ((chunk taps rows ts k).map q10)) (.lst (List.replicate row.length .non)) (row.map koD)) (by omega) (by rw[j9];omega);rw[j9,jx]at hI;exact qaw rfl ⟨_,(q0y (nr_4 _ _ _ _ _ _ (by rw[j9];exact q1h (by omega)) cm)).trans (qrg _ _ _ _ _ _ _ _ _ _ _ _ _ _ _ hI l1)⟩
end
theorem l0(N:D)(F:List D)(c:Int)(hc:f_y32 [N,.int 0]=some (.int c))(hs:f_y33 [.int c,.int 0]=some (.lst F)):
 w2b [some N,none,none,none,none,none,none,none,none,none,none,none,none,none]=some (.nx [some N,some (.lst F),none,none,none,none,none,none,none,none,none,none,none,none]):=by
 walk_at "ev"
theorem l1(N S:D)(F F':List D)(two:2<=sizeLine)(hs:f_y35 F [.int 4,.lst [.str "open",.str "ended"]]=some (S,F')):
 w1x [some N,some (.lst F),none,none,none,none,none,none,none,none,none,none,none,none]=some (.nx [some N,some (.lst F'),some S,none,none,none,none,none,none,none,none,none,none,none]):=by
 walk_at "ev"
theorem l2(N S A:D)(F:List D)(c:Int)(hc:f_y32 [N,.int 1]=some (.int c))(hs:f_y33 [.int c,.int 1]=some (.lst F)):
 w2a [some N,some A,some S,none,none,none,none,none,none,none,none,none,none,none]=some (.nx [some N,some A,some S,some (.lst F),none,none,none,none,none,none,none,none,none,none]):=by
 walk_at "ev"
theorem l3(N S A:D)(s:Int):w3m [some N,some A,some S,some (.lst [.int s]),none,none,none,none,none,none,none,none,none,none]=some (.nx [some N,some A,some S,some (.lst [.int (nxK s)]),some (.int (drK s 11)),none,none,none,none,none,none,none,none,none]):=by have h:=q6a s 11 (by decide);walk_at "ev"
theorem l4n(N S A:D)(F:D)(n:D):(q00 (mVar 4) mNil) [some N,some A,some S,some F,some n,none,none,none,none,none,none,none,none,none]=some ([n],[some N,some A,some S,some F,some n,none,none,none,none,none,none,none,none,none]):=by walk_at "ev"
theorem l4e(x s:Int):(q1w f_y34 1 (q00 (mRet (.int 2)) mNil)) [some (.int x),some (.lst [.int s])]=some (.int (drK s 2),[some (.int x),some (.lst [.int (nxK s)])]):=by have h:=q6a s 2 (by decide);walk_at "ev"
theorem draws(ρ:Int->Rho)(p:Nat)(hc:∀s,q5k 1 [p] (ρ s)=[none,some (.lst [.int s])])(hb:∀s s' x,q56 (some (p,1)) (ρ s) [some (.int x),some (.lst [.int s'])]=ρ s')(n:Nat)(s:Int):
 ∃(w:List Int) (s':Int),q14 1 [p] (some (p,1)) (gSet 0) (mRet true) (q1w f_y34 1 (q00 (mRet (.int 2)) mNil)) (q1k 0 n) (ρ s)=some (w.map D.int,ρ s')/\w.length=n/\Bits w:=by
 obtain⟨ys,s2,c1,c2,c3⟩:=q6u (n:=1) (p:=p) (q:=1) (js:=[p]) (fg:=gSet 0) (fe:=q1w f_y34 1 (q00 (mRet (.int 2)) mNil)) ρ (λy=>∃t:Int,y=.int t/\(t=0∨t=1)) (q1k 0 n) (λx hx s=>by obtain⟨k,hk⟩:=List.mem_iff_getElem?.mp hx;obtain⟨_,rfl⟩:=q24 hk;have d0:=q7k s (m:=2) (by decide);have d2:=q7l s (m:=2) (by decide);exact⟨[some (.int (0+(k:Int))),some (.lst [.int s])],[some (.int (0+(k:Int))),some (.lst [.int (nxK s)])],.int (drK s 2),nxK s,by rw[hc];rfl,l4e _ _,hb _ _ _,_,rfl,by omega⟩) s
 obtain⟨w,rfl,hw⟩:=q92 c3;rw[j9,q1j]at c2;exact⟨w,s2,c1,c2,hw⟩
theorem l4(N S A n:D)(F F' X Y H:List D)(FI:RhL)(FE:RhD)(lx:X.length<=sizeLine)
 (hI:FI [some N,some A,some S,some (.lst F),some n,none,none,none,none,none,none,none,none,none]=some (X,[some N,some A,some S,some (.lst F),some n,none,none,none,none,none,none,none,none,none]))
 (cm:q14 1 [3] (some (3,1)) (gSet 0) (mRet true) FE X [some N,some A,some S,some (.lst F),some n,none,none,none,none,none,none,none,none,none]=some (Y,[some N,some A,some S,some (.lst F'),some n,none,none,none,none,none,none,none,none,none])) (h:f_y41 [N,S,.lst Y]=some (.lst H)):
 (sSet 5 (mOf (q25 f_y41 (q00 (mVar 0) (q00 (mVar 2) (q00 (mOf (q20 1 [3] (some (3,1)) FI (gSet 0) (mRet true) FE)) mNil)))))) [some N,some A,some S,some (.lst F),some n,none,none,none,none,none,none,none,none,none]=some (.nx [some N,some A,some S,some (.lst F'),some n,some (.lst H),none,none,none,none,none,none,none,none]):=by
 walk_at "ev"
theorem l5n(N A F n H TS RS e:D)(r m:Int)(hs:dShl (.int 1) (.int r)=some (.int m)):(q00 (mOp2 dShl (mRet (.int 1)) (mOp2 dIx (mVar 2) (mRet (.int 0)))) mNil) [some N,some A,some (.tup [.int r,TS,RS,e]),some F,some n,some H,none,none,none,none,none,none,none,none]=some ([.int m],[some N,some A,some (.tup [.int r,TS,RS,e]),some F,some n,some H,none,none,none,none,none,none,none,none]):=by generalize dShl=SH at hs ⊢;walk_at "ev"
theorem l5(N A S F n H:D)(X Y:List D)(FI:RhL)(FE:RhD)(lx:X.length<=sizeLine)(hI:FI [some N,some A,some S,some F,some n,some H,none,none,none,none,none,none,none,none]=some (X,[some N,some A,some S,some F,some n,some H,none,none,none,none,none,none,none,none]))(cm:q14 1 [] none (gSet 0) (mRet true) FE X [some N,some A,some S,some F,some n,some H,none,none,none,none,none,none,none,none]=some (Y,[some N,some A,some S,some F,some n,some H,none,none,none,none,none,none,none,none])):
 (sOwn 6 (q20 1 [] none FI (gSet 0) (mRet true) FE)) [some N,some A,some S,some F,some n,some H,none,none,none,none,none,none,none,none]=some (.nx [some N,some A,some S,some F,some n,some H,some (.lst Y),none,none,none,none,none,none,none]):=by
 walk_at "ev"
theorem l6v(N A S F n H L:D)(two:2<=sizeLine)(z0:0<=sizeLine):w17 [some N,some A,some S,some F,some n,some H,some L,none,none,none,none,none,none,none]=some (.tup [.int 0,.lst []],[some N,some A,some S,some F,some n,some H,some L,none,none,none,none,none,none,none]):=by walk_at "ev"
theorem l6(N A S F n H y:D)(L:List D)(i:Nat)(FM:RhD)(hm:FM [some N,some A,some S,some F,some n,some H,some (.lst L),none,none,none,none,none,none,none]=some (y,[some N,some A,some S,some F,some n,some H,some (.lst L),none,none,none,none,none,none,none]))(hi:ixN L.length 0=some i):
 (q48 6 FM (mRet (.int 0))) [some N,some A,some S,some F,some n,some H,some (.lst L),none,none,none,none,none,none,none]=some (.nx [some N,some A,some S,some F,some n,some H,some (.lst (L.set i y)),none,none,none,none,none,none,none]):=by
 rw[q6t,hm];show((ixN L.length 0).map λm=>D.lst (L.set m y)).map _=_;rw[hi];rfl
theorem l7(N A S F n H L:D):(sSet 7 (mRet (.int 0))) [some N,some A,some S,some F,some n,some H,some L,none,none,none,none,none,none,none]=some (.nx [some N,some A,some S,some F,some n,some H,some L,some (.int 0),none,none,none,none,none,none]):=by walk_at "ev"
theorem l8n(N A S F H L P:D)(n:Int):w3p [some N,some A,some S,some F,some (.int n),some H,some L,some P,none,none,none,none,none,none]=some ([.int (n+1)],[some N,some A,some S,some F,some (.int n),some H,some L,some P,none,none,none,none,none,none]):=by walk_at "ev"
theorem l8(ρ ρ':Rho)(X:List D)(FI:RhL)(FB:RhO)(hI:FI ρ=some (X,ρ))(l1:q1q (gSet 8) FB X ρ=some (.nx ρ')):(sSeq (sFor FI (gSet 8) FB) (sRet (mRet (.bl true)))) ρ=some (.rt (.bl true) ρ'):=by walk_at "ev"
theorem b9(N A S F n H L k G:D)(P:Int)(v9 v10 v11 v12 v13:Option D)(sl:dSl H none (some P)=some G):(sSet 9 w0s) [some N,some A,some S,some F,some n,some H,some L,some (.int P),some k,v9,v10,v11,v12,v13]=some (.nx [some N,some A,some S,some F,some n,some H,some L,some (.int P),some k,some G,v10,v11,v12,v13]):=by walk_at "ev"
theorem bs(N A S F n H L P k G:D)(v10 v11 v12 v13:Option D):w0h [some N,some A,some S,some F,some n,some H,some L,some P,some k,some G,v10,v11,v12,v13]=some ([S,k,G],[some N,some A,some S,some F,some n,some H,some L,some P,some k,some G,v10,v11,v12,v13]):=by walk_at "ev"
theorem bt1(N A S F n H k G X:D)(L:List D)(P m:Int)(v11 v12 v13:Option D)(hm:((L.length:Nat):Int)=m)(hr:f_y46 [X,.int m,k]=some (.bl true))(h1:eqD X (.lst L)=some true)(sl:dSl H none (some P)=some G)(h2:eqD G G=some true):
 ((mOr w0v (mOr (q0b (mOp2 dNe (mVar 10) (mVar 6))) (q0b (mOp2 dNe (mVar 9) w0s)))) [some N,some A,some S,some F,some n,some H,some (.lst L),some (.int P),some k,some G,some X,v11,v12,v13]).map (·.1)=some false:=by
 subst hm;walk_at "ev"
theorem bt0(N A S F n H L P k G d:D)(X:List D)(j:Int)(v12 v13:Option D)(b:Bool)(h:atI X j=some d)(hb:q2i d .non=some (.bl b)):
 ((q0b (mOp2 q2i (mOp2 dIx (mVar 10) (mVar 11)) (mRet .non))) [some N,some A,some S,some F,some n,some H,some L,some P,some k,some G,some (.lst X),some (.int j),v12,v13]).map (·.1)=some b:=by
 generalize q2i=FN at hb ⊢;walk_at "ev"
theorem bt2(N A S F n H L P k G X Y Z:D)(j:Int)(v12 v13:Option D)(s1:dSl X (some (j+1)) none=some Y)(s2:dSl L (some (j+1)) none=some Z)(h:eqD Y Z=some true):
 ((q0b (mOp2 dNe (mSl (mVar 10) w0m (mRet none)) (mSl (mVar 6) w0m (mRet none)))) [some N,some A,some S,some F,some n,some H,some L,some P,some k,some G,some X,some (.int j),v12,v13]).map (·.1)=some false:=by
 walk_at "ev"
theorem b12(N A S F n H L P k G T:D)(v12 v13:Option D)(h:f_y31 [S,k,G]=some T):(sSet 12 (q0i f_y31 w0h)) [some N,some A,some S,some F,some n,some H,some L,some P,some k,some G,none,none,v12,v13]=some (.nx [some N,some A,some S,some F,some n,some H,some L,some P,some k,some G,none,none,some T,v13]):=by walk_at "ev"
theorem b14(N A S F n H L P k G:D)(T:List D)(m:Int)(v13:Option D)(FX:RhO)(hm:((T.length:Nat):Int)=m)(h:f_y44 [.lst T,.int m]=some (.bl true))(hc:f_y47 [L]=some (.lst T))(E:eqD (.lst T) (.lst T)=some true):(sIf (mOr w18 (q0b (mOp2 dNe (mVar 12) (q0i f_y47 (q00 (mVar 6) mNil))))) FX sNil) [some N,some A,some S,some F,some n,some H,some L,some P,some k,some G,none,none,some (.lst T),v13]=some (.nx [some N,some A,some S,some F,some n,some H,some L,some P,some k,some G,none,none,some (.lst T),v13]):=by subst hm;walk_at "ev"
theorem b15(N A S F n H L P T:D)(k w:Int)(G:List D)(v13:Option D)(FX:RhO)(one:1<=sizeLine)(lg:G.length+1<=sizeLine)(hw:k % 2=w)(h:f_y48 [.int w,S,.int k,.lst (G++[.tup [.str "gap"]])]=some (.bl true)):(sIf w04 FX sNil) [some N,some A,some S,some F,some n,some H,some L,some P,some (.int k),some (.lst G),none,none,some T,v13]=some (.nx [some N,some A,some S,some F,some n,some H,some L,some P,some (.int k),some (.lst G),none,none,some T,v13]):=by subst hw;walk_at "ev"
theorem b16n(N A S F n H L P T k G:D)(v13:Option D)(FX:RhO)(FT:RhB)(z0:0<=sizeLine)(E:eqD G (.lst [])=some true):(sIf (mAnd (q0b (mOp2 dNe (mVar 9) (mOf (mLst mNil)))) FT) FX sNil) [some N,some A,some S,some F,some n,some H,some L,some P,some k,some G,none,none,some T,v13]=some (.nx [some N,some A,some S,some F,some n,some H,some L,some P,some k,some G,none,none,some T,v13]):=by walk_at "ev"
theorem b16y(N A S F n H L P T G G':D)(k w:Int)(v13:Option D)(FX:RhO)(z0:0<=sizeLine)(E:eqD G (.lst [])=some false)(hw:1-k % 2=w)(sl:dSl G (some 1) none=some G')(h:f_y48 [.int w,S,.int k,G']=some (.bl true)):(sIf (mAnd (q0b (mOp2 dNe (mVar 9) (mOf (mLst mNil)))) w01) FX sNil) [some N,some A,some S,some F,some n,some H,some L,some P,some (.int k),some G,none,none,some T,v13]=some (.nx [some N,some A,some S,some F,some n,some H,some L,some P,some (.int k),some G,none,none,some T,v13]):=by subst hw;walk_at "ev"
theorem b17(N A F n H L P G T R TS e:D)(RS RW:List D)(k':Int)(ns:List Int)(v13:Option D)(zd:0<RS.length)(hr:atI RS (k' % (RS.length:Nat))=some (.tup RW))(hi:q2s RW=some ns):
 (sSet 13 (mOp1 qaa w0g)) [some N,some A,some (.tup [R,TS,.tup RS,e]),some F,some n,some H,some L,some P,some (.int k'),some G,none,none,some T,v13]=some (.nx [some N,some A,some (.tup [R,TS,.tup RS,e]),some F,some n,some H,some L,some P,some (.int k'),some G,none,none,some T,some (.int ns.sum)]):=by
 have h2:qaa (.tup RW)=some (.int ns.sum):=by show(q2s RW).map _=_;rw[hi];rfl
 generalize qaa=DS at h2 ⊢;walk_at "ev"
theorem b18(N A S F n H L k G T C:D)(Y:List D)(P m:Int)(sl:dSl H (some P) (some (P+m))=some C)(h:f_y45 [S,k,C,L]=some (.lst Y)):
 w08 [some N,some A,some S,some F,some n,some H,some L,some (.int P),some k,some G,none,none,some T,some (.int m)]=some (.nx [some N,some A,some S,some F,some n,some H,some (.lst Y),some (.int P),some k,some G,none,none,some T,some (.int m)]):=by
 walk_at "ev"
theorem b19(N A S F n H L k G T:D)(P m:Int):(sSet 7 (mOp2 dAdd (mVar 7) (mVar 13))) [some N,some A,some S,some F,some n,some H,some L,some (.int P),some k,some G,none,none,some T,some (.int m)]=some (.nx [some N,some A,some S,some F,some n,some H,some L,some (.int (P+m)),some k,some G,none,none,some T,some (.int m)]):=by walk_at "ev"
theorem qm0(xs:List D)(a b:Nat):dSl (.lst xs) (some (a:Int)) (some ((a:Int)+(b:Int)))=some (.lst ((xs.drop a).take b)):=by
 have e1:cutD xs (some (a:Int)) (some ((a:Int)+(b:Int)))=(xs.drop a).take b:=by
  unfold cutD;rw[q8l (by omega),q8l (by omega),jx,show((a:Int)+(b:Int)).toNat=a+b from by omega];by_cases q:a<=xs.length
  ·rw[Nat.min_eq_left q];by_cases q2:a+b<=xs.length
   ·rw[Nat.min_eq_left q2,show a+b-a=b from by omega]
   ·rw[Nat.min_eq_right (by omega),List.take_of_length_le (by rw[k6];exact jg _),List.take_of_length_le (by rw[k6];omega)]
  ·rw[List.drop_eq_nil_of_le (by omega),List.drop_eq_nil_of_le (by omega),List.take_nil,List.take_nil]
 show some (D.lst (cutD xs (some (a:Int)) (some ((a:Int)+(b:Int)))))=_;rw[e1]
section
variable{r:Int}{taps:List Int}{rows:List (List Int)}{e:Str}
theorem step_same{ts ts':List Told}{n n' j:Nat}(h1:j<n)(h2:j<n')(hc:chunk taps rows ts j=chunk taps rows ts' j):stepK r taps rows ts n j=stepK r taps rows ts' n' j:=by unfold L2.stepK;have b1:q44 n j=[0,1]:=if_pos h1;have b2:q44 n' j=[0,1]:=if_pos h2;rw[b1,b2];unfold mvK;rw[hc]
theorem q7y{ts ts':List Told}{n n' k:Nat}(h1:k<=n)(h2:k<=n')(hc:∀j,j<k->chunk taps rows ts j=chunk taps rows ts' j):q13 r taps rows ts n 0 k=q13 r taps rows ts' n' 0 k:=by
 unfold q13;refine List.map_congr_left λj hj=>?_;have hj:j<k:=by have:=List.mem_range'_1.mp hj;omega
 exact step_same (by omega) (by omega) (hc j hj)
theorem qi8(ts:List Told)(k:Nat):q3z (2^r.toNat) (q13 r taps rows ts (k+1) 0 (k+1))=q3a (q3z (2^r.toNat) (q13 r taps rows ts k 0 k)) (stepK r taps rows ts (k+1) k):=by
 have e1:q13 r taps rows ts (k+1) 0 (k+1)=q13 r taps rows ts (k+1) 0 k++[stepK r taps rows ts (k+1) k]:=by unfold q13;rw[List.range'_concat,x8];simp
 unfold q3z;rw[e1,List.foldl_append,q7y (r:=r) (n':=k) (ts':=ts) (by omega) (jg k) (λ_ _=>rfl)];rfl
theorem qff(ts:List Told)(k:Nat):q13 r taps rows (ts.take (q0d taps rows k).length) k 0 k=q13 r taps rows ts k 0 k:=
 q7y (jg k) (jg k) λj hj=>qdx hj
theorem qnc(k:Nat)(ts:List Told):q4v (r:=r) (taps:=taps) (rows:=rows) (ts:=ts) k (q3z (2^r.toNat) (q13 r taps rows ts k 0 k)):=by have:=q91 (n:=k) k 0 _ (by omega) (q51 (r:=r) (taps:=taps) (rows:=rows) (ts:=ts));rw[jq]at this;exact this
theorem qlw(ok:q26 r taps rows e)(k:Nat):(rowAt rows k).sum=((selK taps rows k).length:Nat):=by have hrow:=qkq ok k;rw[qc3 _ hrow.2,q9i taps _ hrow.1];rfl
theorem turn(ok:q26 r taps rows e)(ts:List Told)(k:Nat)(hk:k<=60)(hl:(q0d taps rows k).length<=ts.length)(N A F n:D)(v9 v10 v11 v12 v13:Option D):
 ∃w9 w10 w11 w12 w13,(sSeq (sSet 9 w0s) (q5a 10 11 q7i w0h (mOr w0v (mOr (q0b (mOp2 dNe (mVar 10) (mVar 6))) (q0b (mOp2 dNe (mVar 9) w0s)))) (q0b (mOp2 q2i (mOp2 dIx (mVar 10) (mVar 11)) (mRet .non))) (q0b (mOp2 dNe (mSl (mVar 10) w0m (mRet none)) (mSl (mVar 6) w0m (mRet none)))) (sSeq (sSet 12 (q0i f_y31 w0h)) (sSeq (sIf (mOr w18 (q0b (mOp2 dNe (mVar 12) (q0i f_y47 (q00 (mVar 6) mNil)))))
 (sRet (mRet (.bl false)))
 sNil) (sSeq w2p (sSeq (sIf (mAnd (q0b (mOp2 dNe (mVar 9) (mOf (mLst mNil)))) w01)
 (sRet (mRet (.bl false)))
 sNil) (sSeq (sSet 13 (mOp1 qaa w0g)) w2h))))))) [some N,some A,some (schD r taps rows e),some F,some n,some (.lst (ts.map q10)),some (krD (q3z (2^r.toNat) (q13 r taps rows ts k 0 k))),some (.int ((q0d taps rows k).length:Nat)),some (.int (k:Int)),v9,v10,v11,v12,v13]
  =some (.nx [some N,some A,some (schD r taps rows e),some F,some n,some (.lst (ts.map q10)),some (krD (q3z (2^r.toNat) (q13 r taps rows ts (k+1) 0 (k+1)))),some (.int ((q0d taps rows (k+1)).length:Nat)),some (.int (k:Int)),w9,w10,w11,w12,w13]):=by
 have p16:=q30 ok.r0 ok.r4;have pn:=q3j (r:=r);have K:=qnc (r:=r) (taps:=taps) (rows:=rows) k ts;have sl:dSl (.lst (ts.map q10)) none (some ((q0d taps rows k).length:Nat))=some (.lst ((ts.take (q0d taps rows k).length).map q10)):=by rw[q96 (by omega),jx,List.map_take]
 have lb:(ts.take (q0d taps rows k).length).length=(q0d taps rows k).length:=by rw[xl];omega
 have hk1:=qtl ok k hk (ts.take (q0d taps rows k).length) lb;have hset:=qtu ok k hk (ts.take (q0d taps rows k).length) lb;rw[qff]at hk1 hset;have hnx:=qe7 ok k (k+1) (by omega) ts (q3z (2^r.toNat) (q13 r taps rows ts k 0 k)) k (by omega) K.len (λq p h=>(K.is q p h).2.1);rw[<-qi8]at hnx;have ech:(chunk taps rows ts k).map q10=((ts.map q10).drop (q0d taps rows k).length).take (selK taps rows k).length:=by unfold chunk;rw[List.map_take,List.map_drop]
 rw[ech]at hnx;have pl4:=qay ok k;have hl0:0<(rows.map rowD).length:=by have:=ok.m1;rw[j9];omega
 have hm:=b17 N A F n (.lst (ts.map q10)) (krD (q3z (2^r.toNat) (q13 r taps rows ts k 0 k))) (.int ((q0d taps rows k).length:Nat)) (.lst ((ts.take (q0d taps rows k).length).map q10)) (.lst ((q2o (q3z (2^r.toNat) (q13 r taps rows ts k 0 k))).map D.int)) (.int r) (.tup (taps.map D.int)) (.str e) (rows.map rowD) ((rowAt rows k).map D.int) (k:Int) (rowAt rows k) v13 hl0 (qfg ok k) (q2n _);rw[qlw ok k]at hm;obtain⟨hbw,hle⟩:=qd4 K;have hcm:=qi2 (q3z (2^r.toNat) (q13 r taps rows ts k 0 k)) k hk (by rw[K.len];omega) (λq p h=>(K.is q p h).2.1) (q6b K);have hir:=qls (q3z (2^r.toNat) (q13 r taps rows ts k 0 k)) k (by omega) (λq p h=>⟨(K.is q p h).1,(K.is q p h).2.1⟩);have hrw:∀(q:Nat) (p:Int×List Int),(q3z (2^r.toNat) (q13 r taps rows ts k 0 k))[q]? =some (some p)->p.2.length=k:=λq p h=>(K.is q p h).2.1;have lrow:=K.len;generalize q3z (2^r.toNat) (q13 r taps rows ts k 0 k)=row at hk1 hset hnx hm hbw hle hcm hir hrw lrow ⊢;have EG:eqD (.lst ((ts.take (q0d taps rows k).length).map q10)) (.lst ((ts.take (q0d taps rows k).length).map q10))=some true:=q94 (DOk.tolds _) (by decide);have hr15:=q9d ok k hk ((ts.take (q0d taps rows k).length).map q10++[.tup [.str "gap"]]) (by rw[jl,j9,lb];simp) ((k:Int) % 2) (by omega);have hokW:okW row=true:=by
  unfold okW;rw[List.all_eq_true];intro o ho;cases o with
  |none=>rfl
  | some p=>
   obtain⟨q,hq⟩:=List.mem_iff_getElem?.mp ho;exact decide_eq_true (by rw[hrw q p hq];exact jt (by omega:k<1000) (by decide))
 have h16:∀(FX:RhO),(sIf (mAnd (q0b (mOp2 dNe (mVar 9) (mOf (mLst mNil)))) w01) FX sNil) [some N,some A,some (schD r taps rows e),some F,some n,some (.lst (ts.map q10)),some (krD row),some (.int ((q0d taps rows k).length:Nat)),some (.int (k:Int)),some (.lst ((ts.take (q0d taps rows k).length).map q10)),none,none,some (.lst ((q2o row).map D.int)),v13]=some (.nx [some N,some A,some (schD r taps rows e),some F,some n,some (.lst (ts.map q10)),some (krD row),some (.int ((q0d taps rows k).length:Nat)),some (.int (k:Int)),some (.lst ((ts.take (q0d taps rows k).length).map q10)),none,none,some (.lst ((q2o row).map D.int)),v13]):=λFX=>by
  cases hb:ts.take (q0d taps rows k).length with
  |nil=>exact b16n _ _ _ _ _ _ _ _ _ _ _ _ _ _ (by decide) eq_nil
  | cons t tb=>
   rw[hb]at lb;have s1:dSl (.lst ((t::tb).map q10)) (some 1) none=some (.lst (tb.map q10)):=by rw[q7m (by decide)];rfl
   have hr16:=q9d ok k hk (tb.map q10) (by rw[j9];rw[ju]at lb;omega) (1-(k:Int) % 2) (by omega);exact b16y _ _ _ _ _ _ _ _ _ _ _ _ _ _ _ (by decide) (qh8 (n:=1) (.all λd hd=>by obtain⟨u,_,rfl⟩:=List.mem_map.mp (show d∈(t::tb).map q10 from hd);exact DOk.told u) (by decide)) rfl s1 hr16
 have drop1:∀(row:Kr) (j:Nat),dSl (krD row) (some ((j:Int)+1)) none=some (krD (row.drop (j+1))):=λrow j=>by unfold krD;rw[q7m (by omega),show((j:Int)+1).toNat=j+1 from by omega,List.map_drop]
 have hP:(((q0d taps rows k).length:Nat):Int)+((selK taps rows k).length:Nat)=((q0d taps rows (k+1)).length:Nat):=by rw[q36];omega
 have b19':=b19 N A (schD r taps rows e) F n (.lst (ts.map q10)) (krD (q3z (2^r.toNat) (q13 r taps rows ts (k+1) 0 (k+1)))) (.int (k:Int)) (.lst ((ts.take (q0d taps rows k).length).map q10)) (.lst ((q2o row).map D.int)) ((q0d taps rows k).length:Nat) ((selK taps rows k).length:Nat);rw[hP]at b19';refine⟨some (.lst ((ts.take (q0d taps rows k).length).map q10)),none,none,some (.lst ((q2o row).map D.int)),some (.int ((selK taps rows k).length:Nat)),(q0y (b9 _ _ _ _ _ _ _ _ _ _ _ _ _ _ _ sl)).trans (qam (bs _ _ _ _ _ _ _ _ _ _ _ _ _ _) hk1 ⟨by show 10<14;decide,by show 11<14;decide,hokW,by rw[lrow];omega⟩ ?_ (λj hj=>?_) ?_)⟩
 ·exact bt1 _ _ _ _ _ _ _ _ _ _ _ _ _ _ _ (by rw[j9]) hir (qt1 row) sl EG
 ·obtain⟨r1,r2⟩:=q9j hj;refine⟨?_,?_⟩
  ·have ha:atI ((row7 j row).map koD) (j:Int)=some (koD row[j]):=q5l (by rw[je,r2];rfl);refine bt0 _ _ _ _ _ _ _ _ _ _ _ _ _ _ _ _ ha ?_;rw[jf hj];cases row[j]with
   |none=>rfl
   |some p=>rfl
  ·exact bt2 _ _ _ _ _ _ _ _ _ _ _ _ _ _ _ _ (drop1 _ j) (drop1 _ j) (by rw[qfh];exact qt1 _)
 ·exact(q0y (b12 _ _ _ _ _ _ _ _ _ _ _ _ _ hset)).trans<|(q0y (b14 _ _ _ _ _ _ _ _ _ _ _ _ _ _ (by rw[j9]) (qbk _ hbw _ rfl (by omega)) hcm (q94 (DOk.ints _) (by decide)))).trans<|(q0y (b15 _ _ _ _ _ _ _ _ _ _ _ _ _ _ (by decide) (by rw[j9,lb];exact q1h (by omega)) rfl hr15)).trans<|(q0y (h16 _)).trans<|(q0y hm).trans<|(q0y (b18 _ _ _ _ _ _ _ _ _ _ _ _ _ _ (qm0 _ _ _) hnx)).trans b19'
theorem qgp(m:Nat):(List.replicate m D.non).set 0 (.tup [.int 0,.lst []])=(q40 m).map koD:=by
 unfold q40;apply List.ext_getElem
 ·simp
 ·intro i h1 h2;rw[List.getElem_set,List.getElem_map,List.getElem_map];by_cases q:0=i
  ·subst q;simp[koD,pairD]
  ·rw[if_neg q];have:i≠0:=λz=>q z.symm;simp[this,koD]
end
theorem law_true(ns:List Int)(h:ns.length<=63):f_law [.lst (ns.map D.int)]=some (.bl true):=by
 obtain⟨c0,hc0⟩:=q8g ns 0 (by decide);have hs0:=qe6 c0 0 (by decide);generalize (c0 % 10^60*7368787+1000003*0+17) % 2305843009213693951=s0' at hs0;obtain⟨r,taps,rows,e,s1',hsch,ok,he⟩:=qal s0';obtain⟨c1,hc1⟩:=q8g ns 1 (by decide);have hs1:=qe6 c1 1 (by decide);generalize (c1 % 10^60*7368787+1000003*1+17) % 2305843009213693951=s2' at hs1;have z4:=q4y ok;have p16:=q30 ok.r0 ok.r4;have pn:=q3j (r:=r);have a3:=l3 (.lst (ns.map D.int)) (schD r taps rows e) (.lst [.int s1']) s2';obtain⟨n,hn,hn10⟩:∃n:Nat,drK s2' 11=(n:Int)/\n<=10:=by have d0:=q7k s2' (m:=11) (by decide);have d1:=q7l s2' (m:=11) (by decide);exact⟨(drK s2' 11).toNat,by omega,by omega⟩
 rw[hn]at a3;obtain⟨word,s3',cm,lw,hw⟩:=draws (λs=>[some (.lst (ns.map D.int)),some (.lst [.int s1']),some (schD r taps rows e),some (.lst [.int s]),some (.int (n:Int)),none,none,none,none,none,none,none,none,none]) 3 (λ_=>rfl) (λ_ _ _=>rfl) n (nxK s2');have hI4:=q49 (l4n (.lst (ns.map D.int)) (schD r taps rows e) (.lst [.int s1']) (.lst [.int (nxK s2')]) (.int (n:Int))) (by omega) (by omega);rw[jx]at hI4;obtain⟨ts,hts,lts⟩:=qlt ok he ns word hw (by omega);rw[lw]at lts;have a4:=l4 (.lst (ns.map D.int)) (schD r taps rows e) (.lst [.int s1']) (.int (n:Int)) _ _ _ _ _ _ _ (by rw[q1j];exact q1h (by omega)) hI4 cm hts;have hI5:=q49 (l5n (.lst (ns.map D.int)) (.lst [.int s1']) (.lst [.int s3']) (.int (n:Int)) (.lst (ts.map q10)) (.tup (taps.map D.int)) (.tup (rows.map rowD)) (.str e) r (2^r.toNat) (qpc ok)) (by omega) (by omega);rw[show((2:Int)^r.toNat).toNat=2^r.toNat from by omega]at hI5;have cm5:=q5y (n:=1) (js:=[]) (fg:=gSet 0) (fe:=mRet .non) (ρ:=[some (.lst (ns.map D.int)),some (.lst [.int s1']),some (schD r taps rows e),some (.lst [.int s3']),some (.int (n:Int)),some (.lst (ts.map q10)),none,none,none,none,none,none,none,none]) (λ_=>.non) (q1k 0 (2^r.toNat)) (λx hx=>⟨_,rfl,rfl⟩);rw[map_one,q1j]at cm5;have a5:=l5 (.lst (ns.map D.int)) (.lst [.int s1']) (schD r taps rows e) (.lst [.int s3']) (.int (n:Int)) (.lst (ts.map q10)) _ _ _ _ (by rw[q1j];exact q1h (by omega)) hI5 cm5;have m0:0<2^r.toNat:=Nat.pow_pos (by decide);have a6:=l6 (.lst (ns.map D.int)) (.lst [.int s1']) (schD r taps rows e) (.lst [.int s3']) (.int (n:Int)) (.lst (ts.map q10)) _ _ 0 _ (l6v _ _ _ _ _ _ (.lst (List.replicate (2^r.toNat) .non)) (by decide) (by decide)) (by unfold ixN;rw[jo,if_pos (by decide),if_pos (by omega)];rfl)
 rw[qgp]at a6;have a7:=l7 (.lst (ns.map D.int)) (.lst [.int s1']) (schD r taps rows e) (.lst [.int s3']) (.int (n:Int)) (.lst (ts.map q10)) (.lst ((q40 (2^r.toNat)).map koD));have hI8:=q49 (l8n (.lst (ns.map D.int)) (.lst [.int s1']) (schD r taps rows e) (.lst [.int s3']) (.lst (ts.map q10)) (.lst ((q40 (2^r.toNat)).map koD)) (.int 0) (n:Int)) (by omega) (by omega);rw[show((n:Int)+1).toNat=n+1 from by omega]at hI8;obtain⟨ρ',l1',v8,v9,v10,v11,v12,v13,hρ⟩:=q2x (fg:=gSet 8) (fb:=(sSeq (sSet 9 w0s)
 (q5a 10 11 q7i w0h (mOr w0v (mOr (q0b (mOp2 dNe (mVar 10) (mVar 6))) (q0b (mOp2 dNe (mVar 9) w0s)))) (q0b (mOp2 q2i (mOp2 dIx (mVar 10) (mVar 11)) (mRet .non))) (q0b (mOp2 dNe (mSl (mVar 10) w0m (mRet none)) (mSl (mVar 6) w0m (mRet none))))
 (sSeq (sSet 12 (q0i f_y31 w0h))
 (sSeq (sIf (mOr w18 (q0b (mOp2 dNe (mVar 12) (q0i f_y47 (q00 (mVar 6) mNil)))))
   (sRet (mRet (.bl false)))
   sNil)
 (sSeq w2p
 (sSeq (sIf (mAnd (q0b (mOp2 dNe (mVar 9) (mOf (mLst mNil)))) w01)
   (sRet (mRet (.bl false)))
   sNil)
 (sSeq (sSet 13 (mOp1 qaa w0g))
 w2h))))))))
  (λi ρ=>∃v8 v9 v10 v11 v12 v13,ρ=[some (.lst (ns.map D.int)),some (.lst [.int s1']),some (schD r taps rows e),some (.lst [.int s3']),some (.int (n:Int)),some (.lst (ts.map q10)),some (krD (q3z (2^r.toNat) (q13 r taps rows ts i 0 i))),some (.int ((q0d taps rows i).length:Nat)),v8,v9,v10,v11,v12,v13]) (q1k 0 (n+1)) 0
  [some (.lst (ns.map D.int)),some (.lst [.int s1']),some (schD r taps rows e),some (.lst [.int s3']),some (.int (n:Int)),some (.lst (ts.map q10)),some (.lst ((q40 (2^r.toNat)).map koD)),some (.int 0),none,none,none,none,none,none] ⟨none,none,none,none,none,none,rfl⟩ (λi x ρ hx ⟨v8,v9,v10,v11,v12,v13,hρ⟩=>by subst hρ;obtain⟨hi,rfl⟩:=q24 hx;rw[Int.zero_add,jq];have hmono:=q73 (taps:=taps) (rows:=rows) (show i<=n+q12 r e by omega);obtain⟨w9,w10,w11,w12,w13,ht⟩:=turn ok ts i (by omega) (by omega) (.lst (ns.map D.int)) (.lst [.int s1']) (.lst [.int s3']) (.int (n:Int)) v9 v10 v11 v12 v13;exact⟨_,_,rfl,.inl ht,_,_,_,_,_,_,rfl⟩)
 exact q4k rfl ⟨_,(q0y (l0 _ _ c0 hc0 hs0)).trans<|
  (q0y (l1 _ _ _ _ (by decide) hsch)).trans<|
  (q0y (l2 _ _ _ _ c1 hc1 hs1)).trans<|
  (q0y a3).trans<|(q0y a4).trans<|(q0y a5).trans<|(q0y a6).trans<|(q0y a7).trans<|l8 _ _ _ _ _ hI8 l1'⟩
theorem qs0{P:Program}{w:World}{K mg a base}(T:Txt K mg a):FnOk P w K mg base CX0 10 a.f_law a.fd_law ["_law_script"] (qly K 63):=qs1 (qr8 T) law_true
local macro_rules|`(tactic|walk_at "k")=>`(tactic|as_aux_lemma=>kernel_rfl)
local macro_rules|`(tactic|walk_at "f")=>`(tactic|exact qsl (oc:=.type "function") (od:=none) (osl:=#[]) (by walk_at "k") (by walk_at "k") (by walk_at "k"))
noncomputable def ad:Ad:=⟨162,188,221,24,37,49,58,(PySem.W.fnOf "rooms_at" "rooms_at" (q0r s_y0) (q0p s_y0) (q04 s_y0) .none (.none) (.none) (.str "trellisway.schemes" 239) none (.ref 57) (.none)),65,(PySem.W.fnOf "rooms" "rooms" (q0r s_y1) (q0p s_y1) (q04 s_y1) .none (.none) (.none) (.str "trellisway.schemes" 239) none (.ref 64) (.none)),72,(PySem.W.fnOf "parity" "parity" (q0r s_y2) (q0p s_y2) (q04 s_y2) .none (.none) (.none) (.str "trellisway.schemes" 239) none (.ref 71) (.none)),77,(PySem.W.fnOf "step" "step" (q0r s_y3) (q0p s_y3) (q04 s_y3) .none (.none) (.none) (.str "trellisway.schemes" 239) none (.ref 76) (.none)),82,(PySem.W.fnOf "sent_at" "sent_at" (q0r s_y4) (q0p s_y4) (q04 s_y4) .none (.none) (.none) (.str "trellisway.schemes" 239) none (.ref 81) (.none)),89,(PySem.W.fnOf "is_ring" "is_ring" (q0r s_y5) (q0p s_y5) (q04 s_y5) .none (.none) (.none) (.str "trellisway.sending" 276) none (.ref 88) (.none)),96,(PySem.W.fnOf "check_size" "check_size" (q0r s_y6) (q0p s_y6) (q04 s_y6) .none (.none) (.none) (.str "trellisway.sending" 276) none (.ref 95) (.none)),103,(PySem.W.fnOf "bits_behind" "bits_behind" (q0r s_y7) (q0p s_y7) (q04 s_y7) .none (.none) (.none) (.str "trellisway.sending" 276) none (.ref 102) (.none)),110,(PySem.W.fnOf "steps_of" "steps_of" (q0r s_y8) (q0p s_y8) (q04 s_y8) .none (.none) (.none) (.str "trellisway.sending" 276) none (.ref 109) (.none)),117,(PySem.W.fnOf "places_of" "places_of" (q0r s_y9) (q0p s_y9) (q04 s_y9) .none (.none) (.none) (.str "trellisway.sending" 276) none (.ref 116) (.none)),145,(PySem.W.fnOf "__init__" "Clear.__init__" (q0r qfb) (q0p qfb) (q04 qfb) .none (.none) (.none) (.str "trellisway.signs" 319) none (.ref 144) (.none)),159,(PySem.W.fnOf "cost" "Clear.cost" (q0r qfa) (q0p qfa) (q04 qfa) .none (.none) (.none) (.str "trellisway.signs" 319) none (.ref 158) (.none)),185,(PySem.W.fnOf "cost" "Gap.cost" (q0r qf9) (q0p qf9) (q04 qf9) .none (.none) (.none) (.str "trellisway.signs" 319) none (.ref 184) (.none)),204,(PySem.W.fnOf "__init__" "Soft.__init__" (q0r qf8) (q0p qf8) (q04 qf8) .none (.none) (.none) (.str "trellisway.signs" 319) none (.ref 203) (.none)),218,(PySem.W.fnOf "cost" "Soft.cost" (q0r qf7) (q0p qf7) (q04 qf7) .none (.none) (.none) (.str "trellisway.signs" 319) none (.ref 217) (.none)),230,(PySem.W.fnOf "sign_of" "sign_of" (q0r qf6) (q0p qf6) (q04 qf6) .none (.none) (.none) (.str "trellisway.signs" 319) none (.ref 229) (.none)),237,(PySem.W.fnOf "check_heard" "check_heard" (q0r qf5) (q0p qf5) (q04 qf5) .none (.none) (.none) (.str "trellisway.costs" 461) none (.ref 236) (.none)),242,(PySem.W.fnOf "signs_cost" "signs_cost" (q0r qdd) (q0p qdd) (q04 qdd) .none (.none) (.none) (.str "trellisway.costs" 461) none (.ref 241) (.none)),247,(PySem.W.fnOf "signs_by_step" "signs_by_step" (q0r qdc) (q0p qdc) (q04 qdc) .none (.none) (.none) (.str "trellisway.costs" 461) none (.ref 246) (.none)),254,(PySem.W.fnOf "move" "move" (q0r qf4) (q0p qf4) (q04 qf4) .none (.none) (.none) (.str "trellisway.costs" 461) none (.ref 253) (.none)),259,(PySem.W.fnOf "moves_from" "moves_from" (q0r qdb) (q0p qdb) (q04 qdb) .none (.none) (.none) (.str "trellisway.costs" 461) none (.ref 258) (.none)),264,(PySem.W.fnOf "moves" "moves" (q0r qda) (q0p qda) (q04 qda) .none (.none) (.none) (.str "trellisway.costs" 461) none (.ref 263) (.none)),271,(PySem.W.fnOf "opened" "opened" (q0r qf3) (q0p qf3) (q04 qf3) .none (.none) (.none) (.str "trellisway.pieces" 509) none (.ref 270) (.none)),276,(PySem.W.fnOf "kept_at_first" "kept_at_first" (q0r qau) (q0p qau) (q04 qau) .none (.none) (.none) (.str "trellisway.pieces" 509) none (.ref 275) (.none)),283,(PySem.W.fnOf "better" "better" (q0r qf2) (q0p qf2) (q04 qf2) .none (.none) (.none) (.str "trellisway.pieces" 509) none (.ref 282) (.none)),290,(PySem.W.fnOf "kept_on" "kept_on" (q0r qf1) (q0p qf1) (q04 qf1) .none (.none) (.none) (.str "trellisway.pieces" 509) none (.ref 289) (.none)),297,(PySem.W.fnOf "kept" "kept" (q0r qf0) (q0p qf0) (q04 qf0) .none (.none) (.none) (.str "trellisway.pieces" 509) none (.ref 296) (.none)),304,(PySem.W.fnOf "begun_alike" "begun_alike" (q0r qez) (q0p qez) (q04 qez) .none (.none) (.none) (.str "trellisway.pieces" 509) none (.ref 303) (.none)),309,(PySem.W.fnOf "settled" "settled" (q0r qd9) (q0p qd9) (q04 qd9) .none (.none) (.none) (.str "trellisway.pieces" 509) none (.ref 308) (.none)),316,(PySem.W.fnOf "_law_cell_at" "_law_cell_at" (q0r qey) (q0p qey) (q04 qey) .none (.none) (.none) (.str zlw 574) none (.ref 315) (.none)),323,(PySem.W.fnOf "_law_state" "_law_state" (q0r qex) (q0p qex) (q04 qex) .none (.none) (.none) (.str zlw 574) none (.ref 322) (.none)),330,(PySem.W.fnOf "_law_next" "_law_next" (q0r qew) (q0p qew) (q04 qew) .none (.none) (.none) (.str zlw 574) none (.ref 329) (.none)),335,(PySem.W.fnOf "_law_scheme" "_law_scheme" (q0r qat) (q0p qat) (q04 qat) .none (.none) (.none) (.str zlw 574) none (.ref 334) (.none)),342,(PySem.W.fnOf "_law_odd" "_law_odd" (q0r qev) (q0p qev) (q04 qev) .none (.none) (.none) (.str zlw 574) none (.ref 341) (.none)),347,(PySem.W.fnOf "_law_step" "_law_step" (q0r qas) (q0p qas) (q04 qas) .none (.none) (.none) (.str zlw 574) none (.ref 346) (.none)),354,(PySem.W.fnOf "_law_start" "_law_start" (q0r qeu) (q0p qeu) (q04 qeu) .none (.none) (.none) (.str zlw 574) none (.ref 353) (.none)),361,(PySem.W.fnOf "_law_sent" "_law_sent" (q0r qet) (q0p qet) (q04 qet) .none (.none) (.none) (.str zlw 574) none (.ref 360) (.none)),368,(PySem.W.fnOf "_law_sign" "_law_sign" (q0r qes) (q0p qes) (q04 qes) .none (.none) (.none) (.str zlw 574) none (.ref 367) (.none)),375,(PySem.W.fnOf "_law_heard" "_law_heard" (q0r qer) (q0p qer) (q04 qer) .none (.none) (.none) (.str zlw 574) none (.ref 374) (.none)),382,(PySem.W.fnOf "_law_price" "_law_price" (q0r qeq) (q0p qeq) (q04 qeq) .none (.none) (.none) (.str zlw 574) none (.ref 381) (.none)),389,(PySem.W.fnOf "_law_whole" "_law_whole" (q0r qep) (q0p qep) (q04 qep) .none (.none) (.none) (.str zlw 574) none (.ref 388) (.none)),394,(PySem.W.fnOf "_law_is_word" "_law_is_word" (q0r qd8) (q0p qd8) (q04 qd8) .none (.none) (.none) (.str zlw 574) none (.ref 393) (.none)),399,(PySem.W.fnOf "_law_next_row" "_law_next_row" (q0r qar) (q0p qar) (q04 qar) .none (.none) (.none) (.str zlw 574) none (.ref 398) (.none)),406,(PySem.W.fnOf "_law_is_row" "_law_is_row" (q0r qeo) (q0p qeo) (q04 qeo) .none (.none) (.none) (.str zlw 574) none (.ref 405) (.none)),411,(PySem.W.fnOf "_law_common" "_law_common" (q0r qaq) (q0p qaq) (q04 qaq) .none (.none) (.none) (.str zlw 574) none (.ref 410) (.none)),418,(PySem.W.fnOf "_law_refused" "_law_refused" (q0r qen) (q0p qen) (q04 qen) .none (.none) (.none) (.str zlw 574) none (.ref 417) (.none)),423,(PySem.W.fnOf "law" "law" (q0r qav) (q0p qav) (q04 qav) .none (.none) (.none) (.str zlw 574) none (.ref 422) (.none))⟩
theorem txt{P:Params}{h:Heap}{mg:Str->Option Value}{fa:Addr}(X:(H24.KH P).In h)(G:h.Ns mainGlobals mg)(hfa:mg "law"=some (.ref fa)):∃a:Ad,Txt (H24.KH P) mg a/\a.f_law=fa/\∀(s:Shared) (v:Value),BindsTo s a.fd_law ⟨[v],[]⟩ [("_law_script",v)]:=by have e0:423=fa:=Value.ref.inj (jd ((PySem.W.mg_of X G (show PySem.W.nsIn (H24.KH P) mainGlobals "law"=some (some (.ref 423))from by walk_at "k")).symm.trans hfa));subst e0;have g {x:Str} {v:Value} (h:PySem.W.nsIn (H24.KH P) mainGlobals x=some (some v)):mg x=some v:=PySem.W.mg_of X G h;refine⟨ad,⟨g ?_,?_,⟨?_,?_,?_,?_⟩,(show PySem.W.findIn (H24.KH P) (.ref 162) "bit"=some none from by walk_at "k"),g ?_,?_,⟨?_,?_,?_,?_⟩,g ?_,?_,⟨?_,?_,?_,?_⟩,(show PySem.W.findIn (H24.KH P) (.ref 221) "zero"=some none from by walk_at "k"),(show PySem.W.findIn (H24.KH P) (.ref 221) "one"=some none from by walk_at "k"),g ?_,?_,⟨?_,?_,?_,?_,?_,?_,?_,?_,?_,?_⟩,g ?_,?_,⟨?_,?_,?_,?_,?_,?_,?_,?_,?_,?_⟩,?_,g ?_,?_,⟨?_,?_,?_,?_,?_,?_,?_,?_,?_,?_⟩,?_,qsn ?_ ?_ ?_ ?_,(by walk_at "f"),.all λus hl=>match us,hl with|[_],_=>rfl,g ?_,(by walk_at "f"),.all λus hl=>match us,hl with|[_],_=>rfl,g ?_,(by walk_at "f"),.all λus hl=>match us,hl with|[_],_=>rfl,g ?_,(by walk_at "f"),.all λus hl=>match us,hl with|[_,_,_],_=>rfl,g ?_,(by walk_at "f"),.all λus hl=>match us,hl with|[_,_,_],_=>rfl,g ?_,(by walk_at "f"),.all λus hl=>match us,hl with|[_],_=>rfl,g ?_,(by walk_at "f"),.all λus hl=>match us,hl with|[_,_],_=>rfl,g ?_,(by walk_at "f"),.all λus hl=>match us,hl with|[_],_=>rfl,g ?_,(by walk_at "f"),.all λus hl=>match us,hl with|[_,_],_=>rfl,g ?_,(by walk_at "f"),.all λus hl=>match us,hl with|[_,_],_=>rfl,g ?_,(by walk_at "f"),.all λus hl=>match us,hl with|[_,_],_=>rfl,(by walk_at "f"),.all λus hl=>match us,hl with|[_,_],_=>rfl,⟨?_,?_,?_⟩,(by walk_at "f"),.all λus hl=>match us,hl with|[_,_],_=>rfl,⟨?_,?_,?_⟩,(by walk_at "f"),.all λus hl=>match us,hl with|[_,_,_],_=>rfl,(by walk_at "f"),.all λus hl=>match us,hl with|[_,_],_=>rfl,⟨?_,?_,?_⟩,(by walk_at "f"),.all λus hl=>match us,hl with|[_],_=>rfl,g ?_,(by walk_at "f"),.all λus hl=>match us,hl with|[_,_,_],_=>rfl,g ?_,(by walk_at "f"),.all λus hl=>match us,hl with|[_,_],_=>rfl,g ?_,(by walk_at "f"),.all λus hl=>match us,hl with|[_,_,_],_=>rfl,g ?_,(by walk_at "f"),.all λus hl=>match us,hl with|[_,_,_,_,_],_=>rfl,g ?_,(by walk_at "f"),.all λus hl=>match us,hl with|[_,_,_,_,_],_=>rfl,g ?_,(by walk_at "f"),.all λus hl=>match us,hl with|[_,_,_],_=>rfl,g ?_,(by walk_at "f"),.all λus hl=>match us,hl with|[_],_=>rfl,g ?_,(by walk_at "f"),.all λus hl=>match us,hl with|[_],_=>rfl,g ?_,(by walk_at "f"),.all λus hl=>match us,hl with|[_,_],_=>rfl,g ?_,(by walk_at "f"),.all λus hl=>match us,hl with|[_,_],_=>rfl,g ?_,(by walk_at "f"),.all λus hl=>match us,hl with|[_,_,_],_=>rfl,g ?_,(by walk_at "f"),.all λus hl=>match us,hl with|[_,_],_=>rfl,g ?_,(by walk_at "f"),.all λus hl=>match us,hl with|[_,_,_],_=>rfl,g ?_,(by walk_at "f"),.all λus hl=>match us,hl with|[_,_],_=>rfl,g ?_,(by walk_at "f"),.all λus hl=>match us,hl with|[_,_],_=>rfl,g ?_,(by walk_at "f"),.all λus hl=>match us,hl with|[_,_],_=>rfl,g ?_,(by walk_at "f"),.all λus hl=>match us,hl with|[_,_,_],_=>rfl,g ?_,(by walk_at "f"),.all λus hl=>match us,hl with|[_],_=>rfl,g ?_,(by walk_at "f"),.all λus hl=>match us,hl with|[_,_,_,_],_=>rfl,g ?_,(by walk_at "f"),.all λus hl=>match us,hl with|[_,_],_=>rfl,g ?_,(by walk_at "f"),.all λus hl=>match us,hl with|[_,_],_=>rfl,g ?_,(by walk_at "f"),.all λus hl=>match us,hl with|[_,_,_],_=>rfl,g ?_,(by walk_at "f"),.all λus hl=>match us,hl with|[_,_,_],_=>rfl,g ?_,(by walk_at "f"),.all λus hl=>match us,hl with|[_,_],_=>rfl,g ?_,(by walk_at "f"),.all λus hl=>match us,hl with|[_],_=>rfl,g ?_,(by walk_at "f"),.all λus hl=>match us,hl with|[_,_],_=>rfl,g ?_,(by walk_at "f"),.all λus hl=>match us,hl with|[_,_,_,_],_=>rfl,g ?_,(by walk_at "f"),.all λus hl=>match us,hl with|[_,_,_],_=>rfl,g ?_,(by walk_at "f"),.all λus hl=>match us,hl with|[_],_=>rfl,g ?_,(by walk_at "f"),.all λus hl=>match us,hl with|[_,_,_,_],_=>rfl,g ?_,(by walk_at "f"),.all λus hl=>match us,hl with|[_],_=>rfl,g ?_,⟨?_,?_,?_,?_⟩,⟨?_,?_,?_⟩,⟨?_,?_,?_,?_⟩,PySem.W.mg_none_of X G ?_,PySem.W.mg_none_of X G ?_,PySem.W.mg_none_of X G ?_,PySem.W.mg_none_of X G ?_,PySem.W.mg_none_of X G ?_,PySem.W.mg_none_of X G ?_,PySem.W.mg_none_of X G ?_,PySem.W.mg_none_of X G ?_,PySem.W.mg_none_of X G ?_,PySem.W.mg_none_of X G ?_,PySem.W.mg_none_of X G ?_,PySem.W.mg_none_of X G ?_,PySem.W.mg_none_of X G ?_,q2g (by decide+kernel) ?_ (by decide+kernel),q6p,q2g (by decide+kernel) ?_ (by decide+kernel),q2g (by decide+kernel) ?_ (by decide+kernel),q2g (by decide+kernel) ?_ (by decide+kernel),q2g (by decide+kernel) ?_ (by decide+kernel),q2g (by decide+kernel) ?_ (by decide+kernel),q2g (by decide+kernel) ?_ (by decide+kernel),q2g (by decide+kernel) ?_ (by decide+kernel),q6p,q2g (by decide+kernel) ?_ (by decide+kernel),q2g (by decide+kernel) ?_ (by decide+kernel),q2g (by decide+kernel) ?_ (by decide+kernel),q2g (by decide+kernel) ?_ (by decide+kernel),q2g (by decide+kernel) ?_ (by decide+kernel),q2g (by decide+kernel) ?_ (by decide+kernel),q2g (by decide+kernel) ?_ (by decide+kernel),q2g (by decide+kernel) ?_ (by decide+kernel),q6p,q2g (by decide+kernel) ?_ (by decide+kernel),q2g (by decide+kernel) ?_ (by decide+kernel),q2g (by decide+kernel) ?_ (by decide+kernel),q2g (by decide+kernel) ?_ (by decide+kernel),q2g (by decide+kernel) ?_ (by decide+kernel),q2g (by decide+kernel) ?_ (by decide+kernel),q2g (by decide+kernel) ?_ (by decide+kernel),q6p,q2g (by decide+kernel) ?_ (by decide+kernel)⟩,rfl,λs v=>.of_eq rfl⟩<;>walk_at "k"
theorem walk{l:PySem.W.OpenLaw}{q:Program}{loose:List Str}{XP:(Str->Option Value)->Heap->Prop}{YP:World->Heap->Prop}{d:DefRec}{K:Params->PySem.W.Frag}(hn:l.most=some 63)(hdf:d.params.defaults=[])(hd:d.name="law")
 (hY:∀(w:World) (h:Heap),YP w h->(K w.params).In h)
 (F:∀(w:World) (mg:Str->Option Value) (fa:Addr) (h:Heap),(K w.params).In h->h.Ns mainGlobals mg->mg "law"=some (.ref fa)->∃a:Ad,Txt (K w.params) mg a/\a.f_law=fa/\∀(s:Shared) (v:Value),BindsTo s a.fd_law ⟨[v],[]⟩ [("_law_script",v)]):
 PySem.W.WalkO q loose XP YP l.row.toRowW d [] (λf vs=>PySem.call f vs):=
 L2.walk_of (n:=63) (k:=10) (x:="_law_script") (CX:=λ_=>CX0) (sp:=λw=>qly (K w.params) 63) hn (by decide) hdf ⟨rfl,by decide,by decide⟩ hY
  (λw mg fa h KX G hm=>by rw[hd]at hm;obtain⟨a,T,e,b⟩:=F w mg fa h KX G hm;subst e;exact⟨a.fd_law,b,λbase _ _=>qs0 T⟩)
  (λ_ _ a ns hl _ hS=>⟨a,ns,rfl,hS,hl,λ_=>rfl⟩) λ_ _ _ _ _ z=>z
end K24
open PySem PySem.W PyProof.Rows
set_option maxRecDepth 100000 in
set_option maxHeartbeats 0 in
theorem PySem.Challenge.cw_trellisway_k24_kept_ways_holds : PySem.Challenge.rw_trellisway_k24_kept_ways.Holds := by
 w_on;o_law
 refine holds_open (r:=PySem.Challenge.rw_trellisway_k24_kept_ways.row) (q:=H24.V) (loose:=[]) (Xt:=(λs=>xlAt H24.V [] s&&recOk (RowW.records (OpenRow.toRowW PySem.Challenge.rw_trellisway_k24_kept_ways.row)) s)) (XP:=XL H24.V []) (Yf:=Hook.obs (kHook H24.KH H24.KA H24.ka_eq)) (Ya:=Hook.val (kHook H24.KH H24.KA H24.ka_eq)) (YP:=Hook.says (kHook H24.KH H24.KA H24.ka_eq)) (N:=6118) H24.leftR (Hook.of (kHook H24.KH H24.KA H24.ka_eq)) (Hook.keeps (kHook H24.KH H24.KA H24.ka_eq)) (λs e=>xl_of s (Bool.and_eq_true_iff.mp e).1) XL.keeps (by rfl) (by rfl) (by rfl) (λs e=>recFacts_of (Bool.and_eq_true_iff.mp e).2) (by rfl) (by first|assumption|decide+kernel) (by decide+kernel) ⟨rfl,rfl,rfl,rfl,rfl,by decide+kernel⟩ ?hw ?hc
 case hw=>w_witness2
 case hc=>exact K24.walk (l:=PySem.Challenge.rw_trellisway_k24_kept_ways) rfl rfl rfl (λw h Y=>PySem.W.kIn_of Y) λw mg fa h KX G hmg=>K24.txt KX G hmg
