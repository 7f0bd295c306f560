import PyProof.Rows.All
import Wide.All
import OpenK.AllK
import Wide.FinOn
import Lean
import KE.KTryMore
import KE.KRevIter
import KE.KMinKey
import KE.KIntText
import PyProof.EqAt
import PyProof.EqKinds
import PyProof.TupleCall
import PySem.Challenge.RW_trellisway_k12_ahead_walked
set_option Elab.async false
set_option linter.all false
set_option maxRecDepth 100000
set_option maxHeartbeats 4000000
abbrev FrG:=PySem.W.Frag
abbrev zlw:PySem.Str:="law_trellisway_k12_ahead_walked"
namespace H12
open PySem PySem.W
def q5r(tb:String->Option Builtin)(p:Program)(w:World)(n₀:Nat)(ann:Option Value):Nat->SharedT->Thread->Option SharedT
 |0,_,_=>none
 | n+1,s,t=>match through t with
  |true=>some s
  | false=>match stepOk n₀ ann t with
   |false=>none
   | true=>match stepT (denote tb) p w s t with
    |some (s',t')=>q5r tb p w n₀ ann n s' t'
    |none=>none
theorem q6u{tb:String->Option Builtin}{p:Program}{w:World}{n₀:Nat}{ann:Option Value}:∀{n:Nat} {s s':SharedT} {t:Thread},q5r tb p w n₀ ann n s t=some s'->topRun tb p w n₀ ann n s.abs t=some s'.abs
 |0,_,_,_,h=>by cases h
 | n+1,s,s',t,h=>by
  unfold q5r at h;unfold topRun;split at h
  ·rename_i q;rw[q];cases h;rfl
  ·rename_i q;rw[q];split at h
   ·cases h
   ·rename_i q2;dsimp only;rw[q2];split at h
    ·rename_i s1 t1 q3;dsimp only;rw[stepT_spec q3];exact q6u h
    ·cases h
def qj0:List Obj->Nat->BT->BT
 |[],_,t=>t
 |o::r,n,t=>qj0 r (n+1) (t.ins n o)
noncomputable def qll(P:Params)(os:OsState):SharedT:=⟨qj0 (boot_heap P).objs.toList 0 .nil,(boot_heap P).objs.size,(boot_heap P).life,Array.mk [],boot_drawn,boot_toks,os⟩
theorem qf8(P:Params)(os:OsState):(qll P os).abs=⟨boot_heap P,Array.mk [],boot_drawn,boot_toks,os⟩:=by kernel_rfl
theorem qeh{p q:Program}{loose:List Str}{Xt:Shared->Bool}{α:Type}{Yf:Shared->α}{Ya:World->α}{N m₀:Nat}{ann:Option Value}(e:opening p=plainProg p.main.scope.names)(hN:Nat.ble 600 N=true)(f:∀s,fenceModules? p s=some s)
 (size:∀P:Params,((boot_heap P).isNs mainGlobals,(boot_heap P).objs.size,(boot_heap P).nsMap mainGlobals "__annotations__")=(true,m₀,ann))
 (run:∀(w:World) (os:OsState),(q5r treeTable p w m₀ ann N (qll w.params os) (topStub p)).map (λs=>(staticsOk (importedModules p.main.body) (boot_heap w.params) s.abs.heap&&namesBound p s.abs.heap&&gensDone s.abs&&laidKept (boot_heap w.params) s.abs.heap,
   openSeen q loose (importedModules p.main.body) Xt true s.abs,Yf s.abs))=some (true,openGood q loose,Ya w)):LeftO p q loose Xt Yf Ya N:=λw=>by
 obtain⟨⟨h,gs,d,k,os⟩,e,e'⟩:=Option.map_eq_some_iff.mp (boot_open e hN f w);obtain⟨rfl,rfl,rfl,rfl⟩:h=boot_heap w.params/\gs=Array.mk []/\d=boot_drawn/\k=boot_toks:=by simpa using e'
 obtain⟨z1,z2,z3⟩:_/\_/\_:=by simpa only[Prod.mk.injEq]using size w.params
 obtain⟨s,r,l⟩:=Option.map_eq_some_iff.mp (run w os);obtain⟨l1,l2,l3⟩:_/\_/\_:=by simpa only[Prod.mk.injEq]using l
 have r:=q6u r;rw[qf8]at r;have t:topFrom treeTable p w N ⟨boot_heap w.params,Array.mk [],boot_drawn,boot_toks,os⟩=some s.abs:=by unfold topFrom;dsimp only;rw[z1,z2,z3,r];show(match staticsOk (importedModules p.main.body) (boot_heap w.params) s.abs.heap&&namesBound p s.abs.heap&&gensDone s.abs&&laidKept (boot_heap w.params) s.abs.heap with|true=>_|false=>_)=_;rw[l1]
 unfold openEnds;rw[e];show(topFrom treeTable p w N _).map _=_;rw[t];exact congrArg some (Prod.ext l2 l3)
def tp(i:Nat):Stmt:=PySem.Challenge.pw_trellisway_k12_ahead_walked.main.body.getD i (.Pass ⟨0,0,0,0⟩)
def ic(s:Stmt)(j:Nat):Stmt:=match s with
 |.ClassDef _ _ _ b _ _ _ _ _ _ _=>b.getD j (.Pass ⟨0,0,0,0⟩)
 |_=>.Pass ⟨0,0,0,0⟩
def dA(s:Stmt):Arguments:=match s with
 |.FunctionDef _ a _ _ _ _ _ _ _ _=>a
 |_=>{posonlyargs:=[],args:=[],vararg:=none,kwonlyargs:=[],kw_defaults:=[],kwarg:=none,defaults:=[]}
def dB(s:Stmt):List Stmt:=match s with
 |.FunctionDef _ _ b _ _ _ _ _ _ _=>b
 |_=>[]
def dS(s:Stmt):Scope:=match s with
 |.FunctionDef _ _ _ _ _ _ sc _ _ _=>sc
 |_=>{kind:=.function,names:=[],isGenerator:=false,isCoroutine:=false}
def V:Program:={PySem.Challenge.pw_trellisway_k12_ahead_walked with main:={PySem.Challenge.pw_trellisway_k12_ahead_walked.main with body:=[tp 1,tp 2,tp 3,tp 5,tp 6,tp 7,tp 8,tp 9,tp 11,tp 12,tp 13,tp 14,tp 15,tp 17,tp 18,tp 19,tp 20,tp 21,tp 23,tp 24,tp 25,tp 26,tp 27,tp 28,tp 29,tp 30,tp 31,tp 32,tp 35,tp 36,tp 37,tp 38,tp 39,tp 40,tp 41,tp 42,tp 43,tp 44,tp 45,tp 46,tp 47,tp 48,tp 49,tp 50,tp 51]}}
def eS(P:Params)(x:Str)(t:Nat)(v:Value):DictEntry:=⟨PyData.keyHash P x,.str x t,v⟩
def fO(x:Str)(s:Stmt)(pm:Value)(cd:Nat):Obj:=⟨.type "function",none,.func (W.fnOf x x (dA s) (dB s) (dS s) .none .none .none pm none (.ref cd) .none),#[]⟩
def cO(x:Str)(t:Nat)(y:Str)(u a2 a3 a4 a7 a8 a10 a11 a13 a14 a15 a16 a17 a18:Nat):Obj:=⟨.type "code",none,.fields #[.str x t,.str y u,.str "/claim/cut.py" a2,.int a3 0,.int a4 0,.int 0 0,.int 0 0,.int a7 0,.ref a8,.bool true,.int a10 0,.ref a11,.none,.ref a13,.ref a14,.ref a15,.int a16 0,.int a17 0,.str "/claim/cut.py" a18],#[]⟩
def KH(P:Params):W.Frag:=[(3,⟨.type "dict",none,.dict #[eS P "__name__" 165 (.str zlw 547),eS P "__doc__" 166 (.none),eS P "__package__" 167 (.none),eS P "__loader__" 168 (.builtin "__main__.__loader__#opaque"),eS P "__spec__" 169 (.none),eS P "__annotations__" 170 (.ref 6),eS P "__builtins__" 171 (.ref 4),eS P "__file__" 173 (.str "/claim/cut.py" 172),eS P "__cached__" 174 (.none),eS P "WayError" 206 (.ref 24),eS P "NoWord" 222 (.ref 37),eS P "NoSigns" 238 (.ref 49),eS P "rooms_at" 247 (.ref 58),eS P "rooms" 254 (.ref 65),eS P "parity" 263 (.ref 72),eS P "step" 269 (.ref 77),eS P "sent_at" 275 (.ref 82),eS P "is_ring" 284 (.ref 89),eS P "check_size" 292 (.ref 96),eS P "bits_behind" 299 (.ref 103),eS P "steps_of" 307 (.ref 110),eS P "places_of" 318 (.ref 117),eS P "Sign" 340 (.ref 127),eS P "Clear" 380 (.ref 162),eS P "Gap" 411 (.ref 188),eS P "Soft" 453 (.ref 221),eS P "sign_of" 460 (.ref 230),eS P "check_heard" 472 (.ref 237),eS P "signs_cost" 478 (.ref 242),eS P "signs_by_step" 484 (.ref 247),eS P "move" 496 (.ref 254),eS P "moves_from" 502 (.ref 259),eS P "moves" 508 (.ref 264),eS P "end_costs" 514 (.ref 269),eS P "cost_by" 523 (.ref 276),eS P "least_by" 529 (.ref 281),eS P "ahead_by" 535 (.ref 286),eS P "ahead" 546 (.ref 294),eS P "_law_cell_at" 556 (.ref 301),eS P "_law_mixed" 567 (.ref 308),eS P "_law_scheme" 573 (.ref 313),eS P "_law_step" 579 (.ref 318),eS P "_law_sent_at" 585 (.ref 323),eS P "_law_steps" 593 (.ref 330),eS P "_law_places" 599 (.ref 335),eS P "_law_price" 607 (.ref 342),eS P "_law_sign" 617 (.ref 349),eS P "_law_heard" 623 (.ref 354),eS P "_law_at_steps" 629 (.ref 359),eS P "_law_way" 635 (.ref 364),eS P "_law_last" 646 (.ref 371),eS P "_law_of_form" 657 (.ref 378),eS P "_law_walked" 663 (.ref 383),eS P "_law_refused" 673 (.ref 390),eS P "law" 679 (.ref 395)] 55,#[]⟩),
 (23,⟨.type "dict",none,.dict #[eS P "__module__" 196 (.str "trellisway.errors" 187),eS P "__firstlineno__" 200 (.int 2 199),eS P "__static_attributes__" 201 (.ref 22),eS P "__weakref__" 203 (.ref 25),eS P "__doc__" 204 (.none)] 3,#[]⟩),
 (24,⟨.type "type",none,.cls ⟨"WayError",[.type "ValueError"],[.ref 24,.type "ValueError",.type "Exception",.type "BaseException",.type "object"],23,"WayError",true,[],[.ref 37,.ref 49],false,none,false⟩,#[some (.ref 15),none,some (.str "WayError" 189),some (.str "WayError" 197),some (.builtin "ValueError.__new__"),some (.bool true)]⟩),
 (36,⟨.type "dict",none,.dict #[eS P "__module__" 214 (.str "trellisway.errors" 187),eS P "__firstlineno__" 218 (.int 4 217),eS P "__static_attributes__" 219 (.ref 35),eS P "__doc__" 220 (.none)] 2,#[]⟩),
 (37,⟨.type "type",none,.cls ⟨"NoWord",[.ref 24],[.ref 37,.ref 24,.type "ValueError",.type "Exception",.type "BaseException",.type "object"],36,"NoWord",true,[],[],false,none,false⟩,#[some (.ref 28),none,some (.str "NoWord" 207),some (.str "NoWord" 215),some (.builtin "ValueError.__new__"),some (.bool true)]⟩),
 (48,⟨.type "dict",none,.dict #[eS P "__module__" 230 (.str "trellisway.errors" 187),eS P "__firstlineno__" 234 (.int 6 233),eS P "__static_attributes__" 235 (.ref 47),eS P "__doc__" 236 (.none)] 2,#[]⟩),
 (49,⟨.type "type",none,.cls ⟨"NoSigns",[.ref 24],[.ref 49,.ref 24,.type "ValueError",.type "Exception",.type "BaseException",.type "object"],48,"NoSigns",true,[],[],false,none,false⟩,#[some (.ref 40),none,some (.str "NoSigns" 223),some (.str "NoSigns" 231),some (.builtin "ValueError.__new__"),some (.bool true)]⟩),
 (57,cO "rooms_at" 241 "rooms_at" 242 243 9 1 3 52 181 53 54 55 56 245 9 246),
 (58,fO "rooms_at" (tp 5) (.str "trellisway.schemes" 239) 57),
 (64,cO "rooms" 248 "rooms" 249 250 11 1 3 59 181 60 61 62 63 252 11 253),
 (65,fO "rooms" (tp 6) (.str "trellisway.schemes" 239) 64),
 (71,cO "parity" 255 "parity" 256 257 13 1 3 66 181 67 68 69 70 261 13 262),
 (72,fO "parity" (tp 7) (.str "trellisway.schemes" 239) 71),
 (76,⟨.type "code",none,.fields #[.str "step" 264,.str "step" 265,.str "/claim/cut.py" 266,.int 20 0,.int 3 0,.int 0 0,.int 0 0,.int 3 0,.ref 73,.bool true,.int 181 0,.ref 74,.none,.none,.none,.ref 75,.int 267 0,.int 20 0,.str "/claim/cut.py" 268],#[]⟩),
 (77,fO "step" (tp 8) (.str "trellisway.schemes" 239) 76),
 (81,⟨.type "code",none,.fields #[.str "sent_at" 270,.str "sent_at" 271,.str "/claim/cut.py" 272,.int 24 0,.int 3 0,.int 0 0,.int 0 0,.int 3 0,.ref 78,.bool true,.int 181 0,.ref 79,.none,.none,.none,.ref 80,.int 273 0,.int 24 0,.str "/claim/cut.py" 274],#[]⟩),
 (82,fO "sent_at" (tp 9) (.str "trellisway.schemes" 239) 81),
 (88,cO "is_ring" 278 "is_ring" 279 280 29 1 3 83 181 84 85 86 87 282 29 283),
 (89,fO "is_ring" (tp 11) (.str "trellisway.sending" 276) 88),
 (95,cO "check_size" 285 "check_size" 286 287 31 2 3 90 181 91 92 93 94 290 31 291),
 (96,fO "check_size" (tp 12) (.str "trellisway.sending" 276) 95),
 (102,cO "bits_behind" 293 "bits_behind" 294 295 34 1 3 97 181 98 99 100 101 297 34 298),
 (103,fO "bits_behind" (tp 13) (.str "trellisway.sending" 276) 102),
 (109,cO "steps_of" 300 "steps_of" 301 302 36 2 3 104 181 105 106 107 108 305 36 306),
 (110,fO "steps_of" (tp 14) (.str "trellisway.sending" 276) 109),
 (116,cO "places_of" 308 "places_of" 309 310 39 2 3 111 181 112 113 114 115 316 39 317),
 (117,fO "places_of" (tp 15) (.str "trellisway.sending" 276) 116),
 (126,⟨.type "dict",none,.dict #[eS P "__module__" 328 (.str "trellisway.signs" 319),eS P "__firstlineno__" 332 (.int 46 331),eS P "__static_attributes__" 333 (.ref 125),eS P "__dict__" 335 (.ref 128),eS P "__weakref__" 337 (.ref 129),eS P "__doc__" 338 (.none)] 4,#[]⟩),
 (127,⟨.type "type",none,.cls ⟨"Sign",[.type "object"],[.ref 127,.type "object"],126,"Sign",true,[],[.ref 162,.ref 188,.ref 221],false,none,false⟩,#[none,none,some (.str "Sign" 321),some (.str "Sign" 329),some (.builtin "object.__new__"),some (.bool true)]⟩),
 (144,cO "__init__" 353 "Clear.__init__" 354 355 50 2 3 139 181 140 141 142 143 358 50 359),
 (145,⟨.type "function",none,.func (W.fnOf "__init__" "Clear.__init__" (dA (ic (tp 18) 0)) (dB (ic (tp 18) 0)) (dS (ic (tp 18) 0)) (.none) (.none) (.none) (.str "trellisway.signs" 319) none (.ref 144) (.none)),#[]⟩),
 (151,cO "told" 361 "Clear.told" 362 363 53 1 3 146 181 147 148 149 150 365 53 366),
 (152,⟨.type "function",none,.func (W.fnOf "told" "Clear.told" (dA (ic (tp 18) 1)) (dB (ic (tp 18) 1)) (dS (ic (tp 18) 1)) (.none) (.none) (.none) (.str "trellisway.signs" 319) none (.ref 151) (.none)),#[]⟩),
 (158,cO "cost" 368 "Clear.cost" 369 370 56 2 3 153 181 154 155 156 157 373 56 374),
 (159,⟨.type "function",none,.func (W.fnOf "cost" "Clear.cost" (dA (ic (tp 18) 2)) (dB (ic (tp 18) 2)) (dS (ic (tp 18) 2)) (.none) (.none) (.none) (.str "trellisway.signs" 319) none (.ref 158) (.none)),#[]⟩),
 (161,⟨.type "dict",none,.dict #[eS P "__module__" 348 (.str "trellisway.signs" 319),eS P "__firstlineno__" 352 (.int 48 351),eS P "__init__" 360 (.ref 145),eS P "told" 367 (.ref 152),eS P "cost" 375 (.ref 159),eS P "__static_attributes__" 377 (.ref 160),eS P "__doc__" 378 (.none)] 2,#[]⟩),
 (162,⟨.type "type",none,.cls ⟨"Clear",[.ref 127],[.ref 162,.ref 127,.type "object"],161,"Clear",true,[],[],false,none,false⟩,#[some (.ref 132),none,some (.str "Clear" 341),some (.str "Clear" 349),some (.builtin "object.__new__"),some (.bool true)]⟩),
 (177,cO "told" 393 "Gap.told" 394 395 60 1 3 172 181 173 174 175 176 397 60 398),
 (178,⟨.type "function",none,.func (W.fnOf "told" "Gap.told" (dA (ic (tp 19) 0)) (dB (ic (tp 19) 0)) (dS (ic (tp 19) 0)) (.none) (.none) (.none) (.str "trellisway.signs" 319) none (.ref 177) (.none)),#[]⟩),
 (184,cO "cost" 400 "Gap.cost" 401 402 63 2 3 179 181 180 181 182 183 405 63 406),
 (185,⟨.type "function",none,.func (W.fnOf "cost" "Gap.cost" (dA (ic (tp 19) 1)) (dB (ic (tp 19) 1)) (dS (ic (tp 19) 1)) (.none) (.none) (.none) (.str "trellisway.signs" 319) none (.ref 184) (.none)),#[]⟩),
 (187,⟨.type "dict",none,.dict #[eS P "__module__" 388 (.str "trellisway.signs" 319),eS P "__firstlineno__" 392 (.int 58 391),eS P "told" 399 (.ref 178),eS P "cost" 407 (.ref 185),eS P "__static_attributes__" 408 (.ref 186),eS P "__doc__" 409 (.none)] 2,#[]⟩),
 (188,⟨.type "type",none,.cls ⟨"Gap",[.ref 127],[.ref 188,.ref 127,.type "object"],187,"Gap",true,[],[],false,none,false⟩,#[some (.ref 165),none,some (.str "Gap" 381),some (.str "Gap" 389),some (.builtin "object.__new__"),some (.bool true)]⟩),
 (203,cO "__init__" 424 "Soft.__init__" 425 426 67 3 3 198 181 199 200 201 202 430 67 431),
 (204,⟨.type "function",none,.func (W.fnOf "__init__" "Soft.__init__" (dA (ic (tp 20) 0)) (dB (ic (tp 20) 0)) (dS (ic (tp 20) 0)) (.none) (.none) (.none) (.str "trellisway.signs" 319) none (.ref 203) (.none)),#[]⟩),
 (210,cO "told" 433 "Soft.told" 434 435 71 1 3 205 181 206 207 208 209 437 71 438),
 (211,⟨.type "function",none,.func (W.fnOf "told" "Soft.told" (dA (ic (tp 20) 1)) (dB (ic (tp 20) 1)) (dS (ic (tp 20) 1)) (.none) (.none) (.none) (.str "trellisway.signs" 319) none (.ref 210) (.none)),#[]⟩),
 (217,cO "cost" 440 "Soft.cost" 441 442 74 2 3 212 181 213 214 215 216 445 74 446),
 (218,⟨.type "function",none,.func (W.fnOf "cost" "Soft.cost" (dA (ic (tp 20) 2)) (dB (ic (tp 20) 2)) (dS (ic (tp 20) 2)) (.none) (.none) (.none) (.str "trellisway.signs" 319) none (.ref 217) (.none)),#[]⟩),
 (220,⟨.type "dict",none,.dict #[eS P "__module__" 419 (.str "trellisway.signs" 319),eS P "__firstlineno__" 423 (.int 65 422),eS P "__init__" 432 (.ref 204),eS P "told" 439 (.ref 211),eS P "cost" 447 (.ref 218),eS P "__static_attributes__" 450 (.ref 219),eS P "__doc__" 451 (.none)] 2,#[]⟩),
 (221,⟨.type "type",none,.cls ⟨"Soft",[.ref 127],[.ref 221,.ref 127,.type "object"],220,"Soft",true,[],[],false,none,false⟩,#[some (.ref 191),none,some (.str "Soft" 412),some (.str "Soft" 420),some (.builtin "object.__new__"),some (.bool true)]⟩),
 (229,cO "sign_of" 454 "sign_of" 455 456 76 1 3 224 181 225 226 227 228 458 76 459),
 (230,fO "sign_of" (tp 21) (.str "trellisway.signs" 319) 229),
 (236,cO "check_heard" 463 "check_heard" 464 465 83 3 3 231 181 232 233 234 235 470 83 471),
 (237,fO "check_heard" (tp 23) (.str "trellisway.costs" 461) 236),
 (241,⟨.type "code",none,.fields #[.str "signs_cost" 473,.str "signs_cost" 474,.str "/claim/cut.py" 475,.int 87 0,.int 2 0,.int 0 0,.int 0 0,.int 3 0,.ref 238,.bool true,.int 181 0,.ref 239,.none,.none,.none,.ref 240,.int 476 0,.int 87 0,.str "/claim/cut.py" 477],#[]⟩),
 (242,fO "signs_cost" (tp 24) (.str "trellisway.costs" 461) 241),
 (246,⟨.type "code",none,.fields #[.str "signs_by_step" 479,.str "signs_by_step" 480,.str "/claim/cut.py" 481,.int 89 0,.int 3 0,.int 0 0,.int 0 0,.int 3 0,.ref 243,.bool true,.int 181 0,.ref 244,.none,.none,.none,.ref 245,.int 482 0,.int 89 0,.str "/claim/cut.py" 483],#[]⟩),
 (247,fO "signs_by_step" (tp 25) (.str "trellisway.costs" 461) 246),
 (253,cO "move" 485 "move" 486 487 94 5 3 248 181 249 250 251 252 494 94 495),
 (254,fO "move" (tp 26) (.str "trellisway.costs" 461) 253),
 (258,⟨.type "code",none,.fields #[.str "moves_from" 497,.str "moves_from" 498,.str "/claim/cut.py" 499,.int 97 0,.int 5 0,.int 0 0,.int 0 0,.int 3 0,.ref 255,.bool true,.int 181 0,.ref 256,.none,.none,.none,.ref 257,.int 500 0,.int 97 0,.str "/claim/cut.py" 501],#[]⟩),
 (259,fO "moves_from" (tp 27) (.str "trellisway.costs" 461) 258),
 (263,⟨.type "code",none,.fields #[.str "moves" 503,.str "moves" 504,.str "/claim/cut.py" 505,.int 99 0,.int 3 0,.int 0 0,.int 0 0,.int 3 0,.ref 260,.bool true,.int 181 0,.ref 261,.none,.none,.none,.ref 262,.int 506 0,.int 99 0,.str "/claim/cut.py" 507],#[]⟩),
 (264,fO "moves" (tp 28) (.str "trellisway.costs" 461) 263),
 (268,⟨.type "code",none,.fields #[.str "end_costs" 509,.str "end_costs" 510,.str "/claim/cut.py" 511,.int 106 0,.int 2 0,.int 0 0,.int 0 0,.int 3 0,.ref 265,.bool true,.int 181 0,.ref 266,.none,.none,.none,.ref 267,.int 512 0,.int 106 0,.str "/claim/cut.py" 513],#[]⟩),
 (269,fO "end_costs" (tp 29) (.str "trellisway.costs" 461) 268),
 (275,cO "cost_by" 515 "cost_by" 516 517 111 2 3 270 181 271 272 273 274 521 111 522),
 (276,fO "cost_by" (tp 30) (.str "trellisway.costs" 461) 275),
 (280,⟨.type "code",none,.fields #[.str "least_by" 524,.str "least_by" 525,.str "/claim/cut.py" 526,.int 114 0,.int 2 0,.int 0 0,.int 0 0,.int 3 0,.ref 277,.bool true,.int 181 0,.ref 278,.none,.none,.none,.ref 279,.int 527 0,.int 114 0,.str "/claim/cut.py" 528],#[]⟩),
 (281,fO "least_by" (tp 31) (.str "trellisway.costs" 461) 280),
 (285,⟨.type "code",none,.fields #[.str "ahead_by" 530,.str "ahead_by" 531,.str "/claim/cut.py" 532,.int 117 0,.int 2 0,.int 0 0,.int 0 0,.int 3 0,.ref 282,.bool true,.int 181 0,.ref 283,.none,.none,.none,.ref 284,.int 533 0,.int 117 0,.str "/claim/cut.py" 534],#[]⟩),
 (286,fO "ahead_by" (tp 32) (.str "trellisway.costs" 461) 285),
 (287,⟨.type "tuple",none,.seq #[.int 0 536] 0,#[]⟩),
 (293,cO "ahead" 537 "ahead" 538 539 123 4 3 288 181 289 290 291 292 544 123 545),
 (294,⟨.type "function",none,.func (W.fnOf "ahead" "ahead" (dA (tp 33)) (dB (tp 33)) (dS (tp 33)) (.ref 287) (.none) (.none) (.str "trellisway.costs" 461) none (.ref 293) (.none)),#[]⟩),
 (300,cO "_law_cell_at" 549 "_law_cell_at" 550 551 126 2 3 295 181 296 297 298 299 554 126 555),
 (301,fO "_law_cell_at" (tp 35) (.str zlw 547) 300),
 (307,cO "_law_mixed" 557 "_law_mixed" 558 559 130 2 3 302 181 303 304 305 306 565 130 566),
 (308,fO "_law_mixed" (tp 36) (.str zlw 547) 307),
 (312,⟨.type "code",none,.fields #[.str "_law_scheme" 568,.str "_law_scheme" 569,.str "/claim/cut.py" 570,.int 137 0,.int 2 0,.int 0 0,.int 0 0,.int 3 0,.ref 309,.bool true,.int 181 0,.ref 310,.none,.none,.none,.ref 311,.int 571 0,.int 137 0,.str "/claim/cut.py" 572],#[]⟩),
 (313,fO "_law_scheme" (tp 37) (.str zlw 547) 312),
 (317,⟨.type "code",none,.fields #[.str "_law_step" 574,.str "_law_step" 575,.str "/claim/cut.py" 576,.int 146 0,.int 3 0,.int 0 0,.int 0 0,.int 3 0,.ref 314,.bool true,.int 181 0,.ref 315,.none,.none,.none,.ref 316,.int 577 0,.int 146 0,.str "/claim/cut.py" 578],#[]⟩),
 (318,fO "_law_step" (tp 38) (.str zlw 547) 317),
 (322,⟨.type "code",none,.fields #[.str "_law_sent_at" 580,.str "_law_sent_at" 581,.str "/claim/cut.py" 582,.int 150 0,.int 3 0,.int 0 0,.int 0 0,.int 3 0,.ref 319,.bool true,.int 181 0,.ref 320,.none,.none,.none,.ref 321,.int 583 0,.int 150 0,.str "/claim/cut.py" 584],#[]⟩),
 (323,fO "_law_sent_at" (tp 39) (.str zlw 547) 322),
 (329,cO "_law_steps" 586 "_law_steps" 587 588 153 2 3 324 181 325 326 327 328 591 153 592),
 (330,fO "_law_steps" (tp 40) (.str zlw 547) 329),
 (334,⟨.type "code",none,.fields #[.str "_law_places" 594,.str "_law_places" 595,.str "/claim/cut.py" 596,.int 157 0,.int 2 0,.int 0 0,.int 0 0,.int 3 0,.ref 331,.bool true,.int 181 0,.ref 332,.none,.none,.none,.ref 333,.int 597 0,.int 157 0,.str "/claim/cut.py" 598],#[]⟩),
 (335,fO "_law_places" (tp 41) (.str zlw 547) 334),
 (341,cO "_law_price" 600 "_law_price" 601 602 162 2 3 336 181 337 338 339 340 605 162 606),
 (342,fO "_law_price" (tp 42) (.str zlw 547) 341),
 (348,cO "_law_sign" 608 "_law_sign" 609 610 168 1 3 343 181 344 345 346 347 615 168 616),
 (349,fO "_law_sign" (tp 43) (.str zlw 547) 348),
 (353,⟨.type "code",none,.fields #[.str "_law_heard" 618,.str "_law_heard" 619,.str "/claim/cut.py" 620,.int 179 0,.int 3 0,.int 0 0,.int 0 0,.int 3 0,.ref 350,.bool true,.int 181 0,.ref 351,.none,.none,.none,.ref 352,.int 621 0,.int 179 0,.str "/claim/cut.py" 622],#[]⟩),
 (354,fO "_law_heard" (tp 44) (.str zlw 547) 353),
 (358,⟨.type "code",none,.fields #[.str "_law_at_steps" 624,.str "_law_at_steps" 625,.str "/claim/cut.py" 626,.int 182 0,.int 3 0,.int 0 0,.int 0 0,.int 3 0,.ref 355,.bool true,.int 181 0,.ref 356,.none,.none,.none,.ref 357,.int 627 0,.int 182 0,.str "/claim/cut.py" 628],#[]⟩),
 (359,fO "_law_at_steps" (tp 45) (.str zlw 547) 358),
 (363,⟨.type "code",none,.fields #[.str "_law_way" 630,.str "_law_way" 631,.str "/claim/cut.py" 632,.int 187 0,.int 6 0,.int 0 0,.int 0 0,.int 3 0,.ref 360,.bool true,.int 181 0,.ref 361,.none,.none,.none,.ref 362,.int 633 0,.int 187 0,.str "/claim/cut.py" 634],#[]⟩),
 (364,fO "_law_way" (tp 46) (.str zlw 547) 363),
 (370,cO "_law_last" 636 "_law_last" 637 638 192 3 3 365 181 366 367 368 369 644 192 645),
 (371,fO "_law_last" (tp 47) (.str zlw 547) 370),
 (377,cO "_law_of_form" 647 "_law_of_form" 648 649 200 3 3 372 181 373 374 375 376 655 200 656),
 (378,fO "_law_of_form" (tp 48) (.str zlw 547) 377),
 (382,⟨.type "code",none,.fields #[.str "_law_walked" 658,.str "_law_walked" 659,.str "/claim/cut.py" 660,.int 210 0,.int 5 0,.int 0 0,.int 0 0,.int 3 0,.ref 379,.bool true,.int 181 0,.ref 380,.none,.none,.none,.ref 381,.int 661 0,.int 210 0,.str "/claim/cut.py" 662],#[]⟩),
 (383,fO "_law_walked" (tp 49) (.str zlw 547) 382),
 (389,cO "_law_refused" 664 "_law_refused" 665 666 221 3 3 384 181 385 386 387 388 671 221 672),
 (390,fO "_law_refused" (tp 50) (.str zlw 547) 389),
 (394,⟨.type "code",none,.fields #[.str "law" 674,.str "law" 675,.str "/claim/cut.py" 676,.int 228 0,.int 1 0,.int 0 0,.int 0 0,.int 3 0,.ref 391,.bool true,.int 181 0,.ref 392,.none,.none,.none,.ref 393,.int 677 0,.int 228 0,.str "/claim/cut.py" 678],#[]⟩),
 (395,fO "law" (tp 51) (.str zlw 547) 394)]
def KA:List Addr:=[3,23,24,36,37,48,49,57,58,64,65,71,72,76,77,81,82,88,89,95,96,102,103,109,110,116,117,126,127,144,145,151,152,158,159,161,162,177,178,184,185,187,188,203,204,210,211,217,218,220,221,229,230,236,237,241,242,246,247,253,254,258,259,263,264,268,269,275,276,280,281,285,286,287,293,294,300,301,307,308,312,313,317,318,322,323,329,330,334,335,341,342,348,349,353,354,358,359,363,364,370,371,377,378,382,383,389,390,394,395]
theorem ka_eq:∀P,KA=(KH P).map (·.1):=λ_=>rfl
theorem run(w:World)(os:OsState):(q5r treeTable PySem.Challenge.pw_trellisway_k12_ahead_walked w 11 (some (.ref 6)) 5866 (qll w.params os) (topStub PySem.Challenge.pw_trellisway_k12_ahead_walked)).map (λs=>(staticsOk (importedModules PySem.Challenge.pw_trellisway_k12_ahead_walked.main.body) (boot_heap w.params) s.abs.heap&&namesBound PySem.Challenge.pw_trellisway_k12_ahead_walked s.abs.heap&&gensDone s.abs&&laidKept (boot_heap w.params) s.abs.heap,
 openSeen V ["ahead"] (importedModules PySem.Challenge.pw_trellisway_k12_ahead_walked.main.body) (λs=>xlAt V [] s&&recOk (RowW.records (OpenRow.toRowW PySem.Challenge.rw_trellisway_k12_ahead_walked.row)) s) true s.abs,Hook.obs (kHook KH KA ka_eq) s.abs))=some (true,openGood V ["ahead"],Hook.val (kHook KH KA ka_eq) w):=by kernel_rfl
theorem left:LeftO PySem.Challenge.pw_trellisway_k12_ahead_walked V ["ahead"] (λs=>xlAt V [] s&&recOk (RowW.records (OpenRow.toRowW PySem.Challenge.rw_trellisway_k12_ahead_walked.row)) s) (Hook.obs (kHook KH KA ka_eq)) (Hook.val (kHook KH KA ka_eq)) 5866:=qeh (by kernel_rfl) (by kernel_rfl) (λs=>by kernel_rfl) (λP=>by kernel_rfl) run
theorem qjp:(OpenRow.toRowW PySem.Challenge.rw_trellisway_k12_ahead_walked.row).prog=PySem.Challenge.pw_trellisway_k12_ahead_walked:=by kernel_rfl
theorem leftR:LeftO (OpenRow.toRowW PySem.Challenge.rw_trellisway_k12_ahead_walked.row).prog V ["ahead"] (λs=>xlAt V [] s&&recOk (RowW.records (OpenRow.toRowW PySem.Challenge.rw_trellisway_k12_ahead_walked.row)) s) (Hook.obs (kHook KH KA ka_eq)) (Hook.val (kHook KH KA ka_eq)) 5866:=by rw[qjp];exact left
end H12
abbrev ja:=@PySem.wpAny_bind
abbrev jb:=@List.length_map
abbrev jc:=@PySem.wpAny_pure
abbrev jd:=@PySem.Heap.lt_size
abbrev je:=@PySem.Heap.get?_push_of_some
abbrev jf:=@Nat.le_refl
abbrev jg:=@List.mem_cons_of_mem
abbrev jh:=@Option.some.inj
abbrev ji:=@List.getElem?_set_ne
abbrev jj:=@List.mem_cons_self
abbrev jk:=@List.getElem?_map
abbrev jl:=@Nat.ne_of_lt
abbrev jm:=@Nat.lt_of_lt_of_le
abbrev jn:=@List.map_map
abbrev jo:=@PySem.Heap.get?_push_size
abbrev jr:=@List.length_cons
abbrev jt:=@List.getElem?_eq_getElem
abbrev ju:=@Nat.le_trans
abbrev jv:=@List.getElem?_set_self
abbrev jw:=@List.mem_append_right
abbrev jx:=@List.length_replicate
abbrev jy:=@List.length_append
abbrev jz:=@Int.toNat_natCast
abbrev x8:=@PySem.wpAny_mono
abbrev x9:=@List.size_toArray
abbrev xc:=@Nat.lt_irrefl
abbrev xf:=@PySem.wpAny_field
abbrev xg:=@List.length_set
abbrev xh:=@List.map_cons
abbrev xj:=@PySem.PassesOwn.never
abbrev xk:=@PySem.Heap.size_push
abbrev xl:=@Nat.min_le_left
abbrev xm:=@List.map_append
abbrev xn:=@PySem.wpAny_Call_Name_kw
abbrev xo:=@List.length_zip
abbrev xp:=@PySem.wpAny_seqItems
abbrev xq:=@List.mem_of_getElem?
abbrev xr:=@List.getElem?_range
abbrev xu:=@List.length_take
abbrev xv:=@PySem.wpAny_newObj_type
abbrev xw:=@List.getD_eq_getElem?_getD
abbrev xx:=@List.getElem?_append_right
abbrev xy:=@List.getElem?_eq_none
abbrev k6:=@List.getElem_mem
abbrev k7:=@PySem.Heap.get?_update_other
abbrev k8:=@Nat.zero_add
abbrev k9:=@PySem.wpAny_passesOwn
abbrev kc:=@List.getElem?_replicate
abbrev ke:=@PySem.F.plain_min_loop
abbrev kf:=@PySem.wpAny_execs_nil
abbrev kg:=@List.length_drop
abbrev kh:=@PySem.wpAny_setField_rec
abbrev ki:=@List.drop_eq_getElem_cons
abbrev kj:=@List.getElem?_append_left
abbrev kl:=@PySem.wpAny_callSpecial?_slot
abbrev kn:=@PySem.Heap.get?_update_self
abbrev ko:=@PySem.Obj.data_mapFields
abbrev ku:=@PySem.F.slot_tuple_iterator_next
namespace L2
open PySem PySem.Spec PyProof.Rows
abbrev Key:=Sum Int Str
def qpd:Key->Value->Bool
 |.inl k,v=>Value.isInt k v
 |.inr x,v=>Value.isStrOf x v
def keyH(w:World):Key->Int
 |.inl k=>hashInt k
 |.inr x=>hashStr w x
theorem q1y:∀{k:Key} {v:Value},qpd k v=true->(∃i t,k=Sum.inl i/\v=Value.int i t)∨(∃x t,k=Sum.inr x/\v=Value.str x t)
 | .inl i,v,h=>by obtain⟨t,e⟩:=Value.isInt_shape (k:=i) (v:=v) h;exact .inl ⟨i,t,rfl,e⟩
 | .inr x,v,h=>by obtain⟨t,e⟩:=Value.isStrOf_shape (x:=x) (v:=v) h;exact .inr ⟨x,t,rfl,e⟩
theorem qpc(a b:Int):decide ((Sum.inl a:Key)=Sum.inl b)=(a==b):=by
 by_cases e:a=b
 ·subst e;simp
 ·have h:¬(Sum.inl a:Key)=Sum.inl b:=λq=>e (Sum.inl.inj q);rw[decide_eq_false h];exact(beq_eq_false_iff_ne.mpr e).symm
theorem qp9(a b:Str):decide ((Sum.inr a:Key)=Sum.inr b)=decide (a=b):=by
 by_cases e:a=b
 ·subst e;simp
 ·have h:¬(Sum.inr a:Key)=Sum.inr b:=λq=>e (Sum.inr.inj q);rw[decide_eq_false h,decide_eq_false e]
theorem qpb(a:Int)(b:Str):decide ((Sum.inl a:Key)=Sum.inr b)=false:=decide_eq_false (λq=>nomatch q)
theorem qpa(a:Str)(b:Int):decide ((Sum.inr a:Key)=Sum.inl b)=false:=decide_eq_false (λq=>nomatch q)
def qe2(prog:Program)(w:World):PySem.KeyKind prog w Key where
 is:=qpd
 hash:=keyH w
 inj:=λv a b ha hb=>by
  rcases q1y ha with⟨i,t,rfl,rfl⟩|⟨x,t,rfl,rfl⟩
  ·rcases q1y hb with⟨j,u,rfl,e⟩|⟨y,u,rfl,e⟩
   ·injection e with e1 _;rw[e1]
   ·exact nomatch e
  ·rcases q1y hb with⟨j,u,rfl,e⟩|⟨y,u,rfl,e⟩
   ·exact nomatch e
   ·injection e with e1 _;rw[e1]
 byValue:=λk v h=>by rcases q1y h with⟨i,t,rfl,rfl⟩|⟨x,t,rfl,rfl⟩<;>rfl
 pyHash:=λhv h=>by
  rcases q1y hv with⟨i,t,rfl,rfl⟩|⟨x,t,rfl,rfl⟩
  ·exact wpAny_pyHash_int h
  ·exact wpAny_pyHash_str h
 eqBool:=λhu hv h=>by
  rcases q1y hu with⟨i,t,rfl,rfl⟩|⟨x,t,rfl,rfl⟩
  ·rcases q1y hv with⟨j,u,rfl,rfl⟩|⟨y,u,rfl,rfl⟩
   ·rw[qpc]at h;exact wpAny_eqBool_int h
   ·rw[qpb]at h;exact SeqAt.EqAt.int_str i t y u _ _ _ _ h
  ·rcases q1y hv with⟨j,u,rfl,rfl⟩|⟨y,u,rfl,rfl⟩
   ·rw[qpa]at h;exact SeqAt.EqAt.str_int x t j u _ _ _ _ h
   ·rw[qp9]at h;exact wpAny_eqBool_str h
 «strs»:=λk x t v h=>by
  rcases q1y h with⟨i,u,rfl,e⟩|⟨y,u,rfl,e⟩
  ·exact nomatch e
  ·injection e with e1 _;subst e1;cases v<;>rfl
inductive V where
 |non|bl (b:Bool)|int (i:Int)|str (x:Str)|byt (b:Array UInt8)|flt (b:UInt64)|ref (a:Addr)|ty (n:String)
 deriving DecidableEq
def RelV:V->Value->Prop
 |.non,u=>u=Value.none
 |.bl b,u=>u=Value.bool b
 |.int i,u=>∃t,u=Value.int i t
 |.str x,u=>∃t,u=Value.str x t
 |.byt b,u=>∃t,u=Value.bytes b t
 |.flt b,u=>∃t,u=Value.float b t
 |.ref a,u=>u=Value.ref a
 |.ty n,u=>u=Value.type n
abbrev Vals:List V->List Value->Prop:=Paired RelV
theorem Vals.length{xs:List V}{us:List Value}(r:Vals xs us):xs.length=us.length:=Paired.length r
theorem Vals.get:∀{xs:List V} {us:List Value} {i:Nat} {x:V},Vals xs us->xs[i]? =some x->∃u,us[i]? =some u/\RelV x u
 |_,_,_,_,.nil,e=>by simp at e
 |_,_,0,_,.cons r _,e=>by simp at e;subst e;exact⟨_,rfl,r⟩
 | _,_,i+1,x,.cons _ t,e=>by obtain⟨u,h1,h2⟩:=Vals.get (i:=i) (x:=x) t (by simpa using e);exact⟨u,by simpa using h1,h2⟩
theorem Vals.set{x:V}{u:Value}(r:RelV x u):∀{xs:List V} {us:List Value} (i:Nat),Vals xs us->Vals (xs.set i x) (us.set i u)
 |_,_,_,.nil=>.nil
 |_,_,0,.cons _ t=>.cons r t
 |_,_,i+1,.cons q t=>.cons q (Vals.set r i t)
theorem Vals.append:∀{xs ys:List V} {us ws:List Value},Vals xs us->Vals ys ws->Vals (xs++ys) (us++ws)
 |_,_,_,_,.nil,s=>s
 |_,_,_,_,.cons r t,s=>.cons r (Vals.append t s)
theorem Vals.take:∀{xs:List V} {us:List Value} (n:Nat),Vals xs us->Vals (xs.take n) (us.take n)
 |_,_,0,_=>.nil
 |_,_,_+1,.nil=>.nil
 |_,_,n+1,.cons r t=>.cons r (Vals.take n t)
theorem Vals.drop:∀{xs:List V} {us:List Value} (n:Nat),Vals xs us->Vals (xs.drop n) (us.drop n)
 |_,_,0,r=>r
 |_,_,_+1,.nil=>.nil
 |_,_,n+1,.cons _ t=>Vals.drop n t
def RelO:Option V->Option Value->Prop
 |some v,some u=>RelV v u
 |none,none=>True
 |_,_=>False
def KV{κ:Type}:List (κ×V)->List (κ×Value)->Prop:=Paired λ(p:κ×V) (q:κ×Value)=>p.1=q.1/\RelV p.2 q.2
def kV:Key->V
 |.inl i=>.int i
 |.inr x=>.str x
inductive HO where
 |lst (xs:List V)
 |tup (xs:List V)
 |dK (kvs:List (Key×V))|dT (kvs:List (List Key×V))
 |set (S:Int->Bool) (n:Nat)
 |ins (C dx:Addr) (fs:List (Str×V))
 |own (x:Addr)
 |xd (fs:List (Str×V))
 |met (f x:Addr)
 |rng (lo hi:Int)
 |frz (o:Obj) (u:HO)
 |tbl (ps:Array Value)
 |ext (φ:Heap->Prop)
abbrev Hp:=Addr->Option HO
def upd(H:Hp)(a:Addr)(o:HO):Hp:=λb=>if b=a then some o else H b
theorem q0m{H:Hp}{a:Addr}{o:HO}:upd H a o a=some o:=by unfold upd;rw[if_pos rfl]
theorem q0i{H:Hp}{a b:Addr}{o:HO}(h:b≠a):upd H a o b=H b:=by unfold upd;rw[if_neg h]
theorem qca{H:Hp}{a:Addr}{o u:HO}:upd (upd H a o) a u=upd H a u:=by funext b;unfold upd;split<;>rfl
theorem q18{H:Hp}{a b:Addr}{o:HO}(h:H a=some o)(h':H b=none):a≠b:=by intro e;subst e;rw[h]at h';cases h'
def TupN(h:Heap)(a:Addr)(items:Array Value):Prop:=∃o,h.get? a=some o/\(o.cls=.type "tuple"/\∃n,o.data=.seq items n)/\o.dict=none
theorem TupN.tup{h:Heap}{a:Addr}{items:Array Value}(x:TupN h a items):IsTup h a items:=let ⟨o,e,c,_⟩:=x;⟨o,e,c⟩
theorem TupN.lt{h:Heap}{a:Addr}{items:Array Value}(x:TupN h a items):a<h.objs.size:=let ⟨_,e,_⟩:=x;jd e
theorem TupN.new(h:Heap)(items:Array Value):TupN (h.push {cls:=.type "tuple",data:=.seq items}) h.objs.size items:=⟨_,jo _ rfl,⟨rfl,_,rfl⟩,rfl⟩
def qs8{P:Program}{w:World}{κ:Type}[DecidableEq κ](knd:KeyKind P w κ)(h:Heap)(a:Addr)(kvs:List (κ×Value))(n:Nat):Prop:=∃o es,h.get? a=some o/\o.ExactDict/\o.data=.dict es n/\KeysOf knd es/\Pairs knd es.toList kvs/\(kvs.map (·.1)).Nodup
section
variable(P:Program)(w:World)
def ObjOk(H:Hp)(h:Heap)(a:Addr):HO->Prop
 |.lst xs=>xs.length<=sizeLine/\∃(its:List Value) (n:Nat),Vals xs its/\h.get? a=some {cls:=.type "list",data:=.seq its.toArray n}
 |.tup xs=>xs.length<=sizeLine/\∃its:List Value,Vals xs its/\TupN h a its.toArray
 |.dK kvs=>kvs.length<=sizeLine/\(a==sysModules)=false/\∃vs,KV kvs vs/\qs8 (qe2 P w) h a vs kvs.length
 |.dT kvs=>kvs.length<=sizeLine/\(a==sysModules)=false/\∃xs:List (List Key×Addr×Value),
  Paired (λ(p:List Key×V) (q:List Key×Addr×Value)=>p.1=q.1/\H q.2.1=some (.tup (p.1.map kV))/\RelV p.2 q.2.2) kvs xs/\
  ∃o es ep,h.get? a=some o/\o.ExactDict/\o.data=.dict es ep/\es.toList=xs.map (entryOfKey (tupleKind (qe2 P w)))/\(xs.map (·.1)).Nodup/\ep=kvs.length
 |.set S n=>h.SetOf (intKind P w) a S n
 |.ins C dx fs=>H dx=some (.own a)/\fs.length<=1000/\dx≠a/\h.get? a=some (PySem.W.instObj C dx)/\
  ∃mA,h.Ns1 dx mA/\(∀f,RelO (fs.lookup f) (mA f))/\PySem.Within mA (fs.map (·.1))
 |.own _=>∃o,h.get? a=some o
 |.xd fs=>∃mA,h.Ns1 a mA/\∀f,RelO (fs.lookup f) (mA f)
 |.rng lo hi=>∃t u v,h.get? a=some {cls:=.type "range",data:=.fields #[.int lo t,.int hi u,.int 1 v]}
 |.frz o u=>h.get? a=some o/\ObjOk H h a u
 |.tbl ps=>h.get? a=some {cls:=.none,data:=.fields ps}
 |.met f x=>h.get? a=some (PySem.W.methodObj (.ref f) (.ref x))
 |.ext φ=>φ h/\(∃o,h.get? a=some o)/\∀h1 h2:Heap,φ h1->(∀o,h1.get? a=some o->h2.get? a=some o)->φ h2
def HOk(H:Hp)(h:Heap):Prop:=∀a o,H a=some o->ObjOk P w H h a o
end
section
variable{P:Program}{w:World}{H H':Hp}{h h':Heap}{a:Addr}{o:HO}
theorem ObjOk.lt(x:ObjOk P w H h a o):a<h.objs.size:=by
 cases o with
 |lst xs=>obtain⟨_,_,_,_,e⟩:=x;exact jd e
 |tup xs=>obtain⟨_,_,_,p⟩:=x;exact p.lt
 |dK kvs=>obtain⟨_,_,_,_,o,_,e,_⟩:=x;exact jd e
 |dT kvs=>obtain⟨_,_,_,_,o,_,_,e,_⟩:=x;exact jd e
 |set S n=>obtain⟨o,_,_,_,e,_⟩:=x;exact jd e
 |ins C dx fs=>obtain⟨_,_,_,e,_⟩:=x;exact jd e
 |own y=>obtain⟨_,e⟩:=x;exact jd e
 |xd fs=>obtain⟨_,⟨_,_,_,e,_⟩,_⟩:=x;exact jd e
 |rng lo hi=>obtain⟨_,_,_,e⟩:=x;exact jd e
 |frz ob u=>obtain⟨e,_⟩:=x;exact jd e
 |tbl ps=>exact jd (show h.get? a=some _ from x)
 |met f y=>exact jd (show h.get? a=some _ from x)
 |ext φ=>obtain⟨_,⟨_,e⟩,_⟩:=x;exact jd e
theorem Paired.mapP{α β:Type}{F G:α->β->Prop}:∀{l₁:List α} {l₂:List β},Paired F l₁ l₂->(∀a b,F a b->G a b)->Paired G l₁ l₂
 |_,_,.nil,_=>.nil
 |_,_,.cons r t,f=>.cons (f _ _ r) (Paired.mapP t f)
theorem ObjOk.stay(x:ObjOk P w H h a o)(k:∀b u,(b=a∨H b=some (.own a))->h.get? b=some u->h'.get? b=some u)
 (ho:∀b,H b=some (.own a)->H' b=some (.own a)) (ht:∀b xs,H b=some (.tup xs)->H' b=some (.tup xs)):ObjOk P w H' h' a o:=by
 induction o with
 |lst xs=>obtain⟨z,its,n,r,e⟩:=x;exact⟨z,its,n,r,k _ _ (.inl rfl) e⟩
 |tup xs=>obtain⟨z,its,r,ob,e,c⟩:=x;exact⟨z,its,r,ob,k _ _ (.inl rfl) e,c⟩
 |dK kvs=>obtain⟨z,y,vs,r,ob,es,e,c⟩:=x;exact⟨z,y,vs,r,ob,es,k _ _ (.inl rfl) e,c⟩
 | dT kvs=>
  obtain⟨z,y,xs,r,ob,es,ep,e,c⟩:=x;exact⟨z,y,xs,Paired.mapP r λp q z=>⟨z.1,ht _ _ z.2.1,z.2.2⟩,ob,es,ep,k _ _ (.inl rfl) e,c⟩
 |set S n=>obtain⟨ob,es,ep,t,e,c⟩:=x;exact⟨ob,es,ep,t,k _ _ (.inl rfl) e,c⟩
 | ins C dx fs=>
  obtain⟨d,z,ne,e,mA,⟨od,es,ep,e2,c⟩,r⟩:=x;exact⟨ho _ d,z,ne,k _ _ (.inl rfl) e,mA,⟨od,es,ep,k _ _ (.inr d) e2,c⟩,r⟩
 |own y=>obtain⟨ob,e⟩:=x;exact⟨ob,k _ _ (.inl rfl) e⟩
 |xd fs=>obtain⟨mA,⟨od,es,ep,e,c⟩,r⟩:=x;exact⟨mA,⟨od,es,ep,k _ _ (.inl rfl) e,c⟩,r⟩
 |rng lo hi=>obtain⟨t,u,v,e⟩:=x;exact⟨t,u,v,k _ _ (.inl rfl) e⟩
 |frz ob u ih=>obtain⟨e,q⟩:=x;exact⟨k _ _ (.inl rfl) e,ih q⟩
 | tbl ps=>
  have e:h.get? a=some {cls:=.none,data:=.fields ps}:=x;show h'.get? a=some {cls:=.none,data:=.fields ps};exact k a _ (.inl rfl) e
 | met f y=>
  have e:h.get? a=some (PySem.W.methodObj (.ref f) (.ref y)):=x;show h'.get? a=some (PySem.W.methodObj (.ref f) (.ref y));exact k a _ (.inl rfl) e
 |ext φ=>obtain⟨p,⟨o,e⟩,st⟩:=x;exact⟨st _ _ p λo q=>k _ _ (.inl rfl) q,⟨o,k _ _ (.inl rfl) e⟩,st⟩
theorem HOk.lt(x:HOk P w H h)(e:H a=some o):a<h.objs.size:=(x a o e).lt
theorem HOk.fresh(x:HOk P w H h)(e:h.objs.size<=a):H a=none:=by
 cases q:H a with
 |none=>rfl
 |some u=>exact absurd (jm (x.lt q) e) (xc _)
theorem HOk.kept(x:HOk P w H h)(k:∀b u,h.get? b=some u->h'.get? b=some u):HOk P w H h':=λa o e=>
 (x a o e).stay (λb u _ q=>k b u q) (λ_ q=>q) λ_ _ q=>q
theorem HOk.laid(x:HOk P w H h)(k:∀b u,h.get? b=some u->h'.get? b=some u)(hp:h.objs.size<=a)(new:ObjOk P w (upd H a o) h' a o):HOk P w (upd H a o) h':=λb u e=>by
 have hn:=x.fresh hp;by_cases hb:b=a
 ·subst hb;rw[q0m]at e;cases e;exact new
 ·rw[q0i hb]at e;exact(x b u e).stay (λc v _ q=>k c v q) (λc q=>by rw[q0i (q18 q hn)];exact q) λc xs q=>by rw[q0i (q18 q hn)];exact q
end
def Rd(H:Hp)(a:Addr)(u:HO):Prop:=H a=some u∨∃o,H a=some (.frz o u)
theorem Rd.ok{P:Program}{w:World}{H:Hp}{h:Heap}{a:Addr}{u:HO}(r:Rd H a u)(x:HOk P w H h):ObjOk P w H h a u:=by
 rcases r with r|⟨o,r⟩
 ·exact x a u r
 ·obtain⟨_,q⟩:=x a _ r;exact q
def Mut:Option HO->Prop
 |some (.lst _)=>True
 |some (.dK _)=>True
 |some (.dT _)=>True
 |some (.set _ _)=>True
 |some (.ins _ _ _)=>True
 |some (.ext _)=>True
 |_=>False
section
variable{P:Program}{w:World}{H:Hp}{h h':Heap}{x e:Addr}{o':HO}
theorem HOk.write(ok:HOk P w H h)(mu:Mut (H x))(he:e=x∨H e=some (.own x))(k:∀b u,b≠e->h.get? b=some u->h'.get? b=some u)(heo:∃u,h'.get? e=some u)
 (new:ObjOk P w (upd H x o') h' x o'):HOk P w (upd H x o') h':=λb u q=>by
 have nown:∀c y,H c=some (.own y)->c≠x:=λc y r z=>by subst z;rw[r]at mu;exact mu
 have ntup:∀c xs,H c=some (.tup xs)->c≠x:=λc xs r z=>by subst z;rw[r]at mu;exact mu
 by_cases hb:b=x
 ·subst hb;rw[q0m]at q;cases q;exact new
 ·rw[q0i hb]at q;by_cases hbe:b=e
  ·have q':H b=some (.own x):=by
    rcases he with z|z
    ·exact absurd (hbe.trans z) hb
    ·rw[hbe];exact z
   rw[q]at q';cases q';obtain⟨v,hv⟩:=heo;exact⟨v,by rw[hbe];exact hv⟩
  ·refine(ok b u q).stay (λc v hc r=>k c v ?_ r) (λc r=>by rw[q0i (nown c b r)];exact r) λc xs r=>by rw[q0i (ntup c xs r)];exact r
   rcases hc with rfl|hc
   ·exact hbe
   ·rintro rfl;rcases he with z|z
    ·exact nown c b hc z
    ·rw[hc]at z;cases z;exact hb rfl
end
structure Un(fs ex:List Addr)(H H':Hp)(h h':Heap):Prop where
 keep:∀b o,h.get? b=some o->H b=none->b∉fs->b∉ex->h'.get? b=some o
 slot:∀b o,h.get? b=some o->H b=none->b∈fs->b∉ex->∃sl,h'.get? b=some {o with slots:=sl}
 free:∀b o,h.get? b=some o->H b=none->b∉ex->H' b=none
 there:∀b o,h.get? b=some o->b∉ex->∃o',h'.get? b=some o'
 tups:∀b xs,H b=some (.tup xs)->H' b=some (.tup xs)
 frzs:∀b o u,H b=some (.frz o u)->H' b=some (.frz o u)
 tbls:∀b ps,H b=some (.tbl ps)->∃more,H' b=some (.tbl (ps++more))
section
variable{fs fs' ex ex':List Addr}{H H1 H2:Hp}{h h1 h2 h':Heap}{a x e:Addr}{o:HO}
theorem Un.any(u:Un fs ex H H1 h h1){b:Addr}{ob:Obj}(q:h.get? b=some ob)(n:H b=none)(hx:b∉ex):∃sl,h1.get? b=some {ob with slots:=sl}:=by
 by_cases hb:b∈fs
 ·exact u.slot b ob q n hb hx
 ·exact⟨ob.slots,u.keep b ob q n hb hx⟩
theorem Un.trans(a:Un fs ex H H1 h h1)(b:Un fs ex H1 H2 h1 h2):Un fs ex H H2 h h2 where
 keep:=λc ob q n hc hx=>b.keep c ob (a.keep c ob q n hc hx) (a.free c ob q n hx) hc hx
 slot:=λc ob q n hc hx=>by obtain⟨sl,e1⟩:=a.slot c ob q n hc hx;obtain⟨sl',e2⟩:=b.slot c _ e1 (a.free c ob q n hx) hc hx;exact⟨sl',e2⟩
 free:=λc ob q n hx=>by obtain⟨o',e1⟩:=a.there c ob q hx;exact b.free c o' e1 (a.free c ob q n hx) hx
 there:=λc ob q hx=>by obtain⟨o',e1⟩:=a.there c ob q hx;exact b.there c o' e1 hx
 tups:=λc xs q=>b.tups c xs (a.tups c xs q)
 frzs:=λc ob xs q=>b.frzs c ob xs (a.frzs c ob xs q)
 tbls:=λc ps q=>by obtain⟨m1,e1⟩:=a.tbls c ps q;obtain⟨m2,e2⟩:=b.tbls c _ e1;exact⟨m1++m2,by rw[e2,Array.append_assoc]⟩
theorem Un.kept(k:∀b u,h.get? b=some u->h'.get? b=some u):Un fs ex H H h h':=
 ⟨λb ob q _ _ _=>k b ob q,λb ob q _ _ _=>⟨ob.slots,k b ob q⟩,λ_ _ _ n _=>n,λb ob q _=>⟨ob,k b ob q⟩,λ_ _ q=>q,λ_ _ _ q=>q,λ_ ps q=>⟨#[],by rw[q];simp⟩⟩
theorem Un.refl:Un fs ex H H h h:=Un.kept λ_ _ q=>q
theorem Un.laid(k:∀b u,h.get? b=some u->h'.get? b=some u)(hp:h.objs.size<=a)(hn:H a=none):Un fs ex H (upd H a o) h h' where
 keep:=λb u q _ _ _=>k b u q
 slot:=λb u q _ _ _=>⟨u.slots,k b u q⟩
 free:=λb u q n _=>by rw[q0i (jl (jm (jd q) hp))];exact n
 there:=λb u q _=>⟨u,k b u q⟩
 tups:=λb xs q=>by rw[q0i (q18 q hn)];exact q
 frzs:=λb u xs q=>by rw[q0i (q18 q hn)];exact q
 tbls:=λb ps q=>⟨#[],by rw[q0i (q18 q hn),q];simp⟩
theorem Un.write(mu:Mut (H x))(he:e=x∨H e=some (.own x))(k:∀b u,b≠e->h.get? b=some u->h'.get? b=some u)(heo:∃u,h'.get? e=some u):Un fs ex H (upd H x o) h h':=by
 have hx:∀b,H b=none->b≠x:=λb n z=>by subst z;rw[n]at mu;exact mu
 have hb:∀b,H b=none->b≠e:=λb n z=>by
  subst z;rcases he with r|r
  ·exact hx b n r
  ·rw[n]at r;cases r
 have hm:∀b u,H b=some u->¬Mut (some u)->b≠x:=λb u q nm z=>by subst z;rw[q]at mu;exact nm mu
 refine⟨λb u q n _ _=>k b u (hb b n) q,λb u q n _ _=>⟨u.slots,k b u (hb b n) q⟩,λb u q n _=>by rw[q0i (hx b n)];exact n,λb u q _=>?_,
  λb xs q=>by rw[q0i (hm b _ q λz=>z)];exact q,λb u xs q=>by rw[q0i (hm b _ q λz=>z)];exact q,λb ps q=>⟨#[],by rw[q0i (hm b _ q λz=>z),q];simp⟩⟩
 by_cases hbe:b=e
 ·subst hbe;exact heo
 ·exact⟨u,k b u hbe q⟩
theorem Un.mono(u:Un fs ex H H1 h h1)(hs:∀b∈fs,b∈fs')(hx:∀b∈ex,b∈ex'):Un fs' ex' H H1 h h1:=
 ⟨λb ob q n hb he=>u.keep b ob q n (λz=>hb (hs b z)) λz=>he (hx b z),λ_ _ q n _ he=>u.any q n λz=>he (hx _ z),λb ob q n he=>u.free b ob q n λz=>he (hx b z),λb ob q he=>u.there b ob q λz=>he (hx b z),u.tups,u.frzs,u.tbls⟩
end
def trk(h:Heap)(H:Hp):List Addr:=(List.range h.objs.size).filter λa=>(H a).isSome
def hidT(h:Heap)(H:Hp):Heap:=PySem.W.hideAll h (trk h H)
theorem qel(h:Heap)(H:Hp):(hidT h H).objs.size=h.objs.size:=PySem.W.hideAll_size _ _
theorem qh1{h:Heap}{H:Hp}{b:Addr}{o:Obj}(e:h.get? b=some o)(n:H b=none):(hidT h H).get? b=some o:=
 PySem.W.hideAll_get _ e λhm=>by have q:(H b).isSome=true:=(List.mem_filter.mp hm).2;rw[n]at q;simp at q
theorem qka{h:Heap}{H:Hp}{b:Addr}{o:Obj}(e:(hidT h H).get? b=some o):h.get? b=some o/\H b=none:=by
 have e':h.get? b=some o:=PySem.W.of_hideAll (trk h H) e;refine⟨e',?_⟩;cases q:H b with
 |none=>rfl
 | some x=>
  have hm:b∈trk h H:=List.mem_filter.mpr ⟨List.mem_range.mpr (jd e'),by simp[q]⟩;have z:(hidT h H).get? b=none:=PySem.W.hideAll_none (trk h H) hm;rw[z]at e;cases e
def qlz(g h:Heap)(L:Addr):List (Addr×Obj):=(List.range h.objs.size).filterMap λa=>if a=L∨(g.get? a).isSome=true then none else(h.get? a).map λo=>(a,o)
def rest(g h:Heap)(L d:Addr):List (Addr×Obj):=(qlz g h L).filter λp=>decide (p.1≠d)
structure Mod(K:FrG)(mg:Str->Option Value)(base:Heap):Prop where
 kin:K.In base
 glob:base.Ns mainGlobals mg
 blt:∃mb,base.Ns builtinsNs mb/\∀x:Str,x≠"__name__"->mb x=bootBuiltins x
 nolimit:base.NoLimit
structure Cx where
 prog:Program
 w:World
 K:PySem.W.Frag
 mg:Str->Option Value
 base:Heap
 A:Around
 N:List Str
 s₀:Shared
 H₀:Hp
 env:Env
 outer:List Env
 stack:List Env
 ex:List Addr
 fn:Str->Bool
 calm:Bool
 pn:List (Addr×Obj)
 xe:Value->Shared->Prop
def frs(l:List Env):List Addr:=l.filterMap (·.frame)
abbrev Cx.fs(X:Cx):List Addr:=frs X.outer
def Vis(sc:Scope)(x:Str):Prop:=sc.names.lookup x=some .local∨sc.names.lookup x=some .cell∨sc.names.lookup x=some .free
def Loc(sc:Scope)(x:Str):Prop:=sc.names.lookup x=some .local∨sc.names.lookup x=some .cell
def Look(env:Env)(h:Heap)(m:Str->Option Value)(x:Str)(u:Value):Prop:=
 (env.kindOf x=some .local/\m x=some u)∨((env.kindOf x=some .cell∨env.kindOf x=some .free)/\∃c,env.cells.lookup x=some c/\h.IsCell c (some u))
structure Cx.Ok(X:Cx):Prop where
 mod:Mod X.K X.mg X.base
 kind:X.env.scope.kind=.function
 glob:X.env.globals=mainGlobals
 blt:X.env.builtins=builtinsNs
 above:X.s₀.heap.objs.size<=X.env.locals
 inj:∀x y c,X.env.cells.lookup x=some c->X.env.cells.lookup y=some c->x=y
 has:∀x,(X.env.kindOf x=some .cell∨X.env.kindOf x=some .free)->∃c,X.env.cells.lookup x=some c
 cab:∀x c,X.fn x=true->X.env.cells.lookup x=some c->X.s₀.heap.objs.size<=c
 hd:X.calm=true->X.A.handled=none
 frames:X.A.frames=some X.stack
 stk:X.stack=X.outer∨(X.stack=X.env::X.outer/\X.env.frame=some X.env.locals)
 exf:∀b∈X.ex,b≠X.env.locals/\∀x c,X.env.cells.lookup x=some c->c≠b
 bs:∀b o,X.base.get? b=some o->X.s₀.heap.get? b=some o/\X.H₀ b=none
 bsz:X.base.objs.size<=X.s₀.heap.objs.size
 noex:∀b o,X.base.get? b=some o->b∉X.ex
 exfs:∀b∈X.ex,b∉X.fs
 funs:X.s₀.heap.FunFrames X.base X.outer
 frf:∀b∈X.fs,X.H₀ b=none
structure Inv(X:Cx)(z6:List (Addr×Obj))(σ:List (Option V))(H:Hp)(s:Shared):Prop where
 ok:X.Ok
 os:s.os=X.s₀.os
 bare:AllBare s.gens
 base:Un X.fs X.ex X.H₀ H X.s₀.heap s.heap
 loc:∃m,s.heap.Ns X.env.locals m/\∀(i:Nat) (x:Str) (v:V),X.N[i]? =some x->σ[i]? =some (some v)->Vis X.env.scope x->∃u,RelV v u/\Look X.env s.heap m x u
 cell:∀x c,X.env.cells.lookup x=some c->∃v,s.heap.IsCell c v
 free:H X.env.locals=none
 freeC:∀x c,X.env.cells.lookup x=some c->H c=none
 pin:∀p∈X.pn++z6,s.heap.get? p.1=some p.2/\H p.1=none/\p.1≠X.env.locals/\p.1∉X.fs/\∀v,p.2.data≠.cell v
 hok:HOk X.prog X.w H s.heap
 len:σ.length=X.N.length
section
variable{X:Cx}{z6:List (Addr×Obj)}{σ:List (Option V)}{H H':Hp}{s:Shared}{h':Heap}
theorem Cx.Ok.nofr(ok:X.Ok){b:Addr}{o:Obj}(e:X.base.get? b=some o):b∉X.fs:=λhb=>by have:=(ok.funs.mem hb).1;rw[e]at this;cases this
theorem Inv.bs(I:Inv X z6 σ H s):∀b o,X.base.get? b=some o->s.heap.get? b=some o/\H b=none:=λb o e=>
 ⟨I.base.keep b o (I.ok.bs b o e).1 (I.ok.bs b o e).2 (I.ok.nofr e) (I.ok.noex b o e),I.base.free b o (I.ok.bs b o e).1 (I.ok.bs b o e).2 (I.ok.noex b o e)⟩
theorem Inv.bk(I:Inv X z6 σ H s):∀b o,X.base.get? b=some o->s.heap.get? b=some o:=λb o e=>(I.bs b o e).1
theorem Inv.mod(I:Inv X z6 σ H s):Mod X.K X.mg X.base:=I.ok.mod
theorem Inv.kIn(I:Inv X z6 σ H s):X.K.In s.heap:=I.ok.mod.kin.keeps I.bk
theorem Inv.fr(I:Inv X z6 σ H s):∃m,Fr X.base X.env.locals s.heap m:=
 let ⟨m,hn,_⟩:=I.loc
 ⟨m,hn,I.bk,ju I.ok.bsz I.ok.above⟩
theorem Inv.lt(I:Inv X z6 σ H s):X.env.locals<s.heap.objs.size:=let ⟨_,hn,_⟩:=I.loc;hn.lt
theorem Inv.sz(I:Inv X z6 σ H s):X.s₀.heap.objs.size<=s.heap.objs.size:=ju I.ok.above (Nat.le_of_lt I.lt)
theorem Inv.nofs(I:Inv X z6 σ H s){a:Addr}(h:s.heap.objs.size<=a):a∉X.fs:=λhb=>by obtain⟨_,o,ho,_⟩:=I.ok.funs.mem hb;exact absurd (jm (jd ho) (ju I.sz h)) (xc _)
theorem Inv.cne(I:Inv X z6 σ H s):∀x c,X.env.cells.lookup x=some c->c≠X.env.locals:=λx c e z=>by obtain⟨v,o,ho,hd⟩:=I.cell x c e;obtain⟨m,⟨o',es,ep,ho',hd',_⟩,_⟩:=I.loc;rw[z,ho']at ho;cases ho;rw[hd']at hd;cases hd
theorem Inv.funs(I:Inv X z6 σ H s):s.heap.FunFrames X.base X.outer:=by
 have all:∀(l:List Env),(∀b∈frs l,b∈X.fs)->X.s₀.heap.FunFrames X.base l->s.heap.FunFrames X.base l:=by
  intro l;induction l with
  |nil=>intro _ _;trivial
  | cons env r ih=>
   intro hs hl;obtain⟨hk,⟨L,o,hf,hn,ho,hd⟩,hr⟩:=hl;have hL:L∈X.fs:=hs L (by unfold frs;rw[List.filterMap_cons,hf];exact jj);obtain⟨sl,e⟩:=I.base.slot L o ho (I.ok.frf L hL) hL λz=>I.ok.exfs L z hL;exact⟨hk,⟨L,_,hf,hn,e,hd⟩,ih (λb hb=>hs b (by unfold frs;rw[List.filterMap_cons,hf];exact jg _ hb)) hr⟩
 exact all X.outer (λ_ hb=>hb) I.ok.funs
theorem Inv.stack(I:Inv X z6 σ H s):s.heap.FunFrames X.base X.stack:=by
 rcases I.ok.stk with e|⟨e,hf⟩
 ·rw[e];exact I.funs
 ·rw[e];obtain⟨m,hn,_⟩:=I.loc;refine .cons (by rw[I.ok.kind];decide) hf hn ?_ I.funs;exact Heap.get?_none_of_le (ju I.ok.bsz I.ok.above)
theorem Inv.stkSub(I:Inv X z6 σ H s):∀b∈frs X.stack,b∈X.env.locals::X.fs:=λb hb=>by
 rcases I.ok.stk with e|⟨e,hf⟩
 ·rw[e]at hb;exact jg _ hb
 ·rw[e]at hb;unfold frs at hb;rw[List.filterMap_cons,hf]at hb;exact hb
theorem Inv.stkFree(I:Inv X z6 σ H s):∀b∈frs X.stack,H b=none:=λb hb=>by
 rcases List.mem_cons.mp (I.stkSub b hb)with e|hb
 ·rw[e];exact I.free
 ·obtain⟨_,o,ho,_⟩:=I.ok.funs.mem hb;exact I.base.free b o ho (I.ok.frf b hb) λz=>I.ok.exfs b z hb
theorem Inv.step{g':Array GenState}{t':Nat}{d':Drawn}{ch:List Addr}(I:Inv X z6 σ H s)
 (hch:∀b∈ch,(b∈X.ex∨X.s₀.heap.objs.size<=b)/\b≠X.env.locals/\(∀x c,X.env.cells.lookup x=some c->c≠b)/\∀p∈X.pn++z6,p.1≠b)
 (keep:∀b o,b≠X.env.locals->b∉X.fs->b∉ch->s.heap.get? b=some o->H b=none->h'.get? b=some o)
 (slot:∀b o,b≠X.env.locals->b∈X.fs->b∉ch->s.heap.get? b=some o->H b=none->∃sl,h'.get? b=some {o with slots:=sl}) (free:∀b o,b∉ch->s.heap.get? b=some o->H b=none->H' b=none)
 (there:∀b o,b∉ch->s.heap.get? b=some o->∃o',h'.get? b=some o')
 (tups:∀b xs,H b=some (.tup xs)->H' b=some (.tup xs)) (frzs:∀b o u,H b=some (.frz o u)->H' b=some (.frz o u)) (tbls:∀b ps,H b=some (.tbl ps)->∃more,H' b=some (.tbl (ps++more)))
 (ns:∀m,s.heap.Ns X.env.locals m->h'.Ns X.env.locals m) (hok:HOk X.prog X.w H' h') (hg:AllBare g'):
 Inv X z6 σ H' {s with heap:=h',gens:=g',drawn:=d',toks:=t'}:=by
 have neL:∀b o,X.s₀.heap.get? b=some o->b≠X.env.locals:=λb o e=>jl (jm (jd e) I.ok.above);have neC:∀b o,X.s₀.heap.get? b=some o->b∉X.ex->b∉ch:=λb o e hx hb=>by
  rcases(hch b hb).1 with z|z
  ·exact hx z
  ·exact absurd (jm (jd e) z) (xc _)
 have cellK:∀x c,X.env.cells.lookup x=some c->∀v,s.heap.IsCell c v->h'.IsCell c v:=λx c e v ⟨o,ho,hd⟩=>by
  have nch:c∉ch:=λz=>(hch c z).2.2.1 x c e rfl;by_cases hc:c∈X.fs
  ·obtain⟨sl,q⟩:=slot c o (I.cne x c e) hc nch ho (I.freeC x c e);exact⟨_,q,hd⟩
  ·exact⟨o,keep c o (I.cne x c e) hc nch ho (I.freeC x c e),hd⟩
 refine⟨I.ok,I.os,hg,⟨λb o e n hb hx=>?_,λb o e n hb hx=>?_,λb o e n hx=>?_,λb o e hx=>?_,λb xs e=>tups b xs (I.base.tups b xs e),λb o xs e=>frzs b o xs (I.base.frzs b o xs e),λb ps e=>?_⟩,?_,λx c e=>?_,?_,λx c e=>?_,λp hp=>?_,hok,I.len⟩
 ·exact keep b o (neL b o e) hb (neC b o e hx) (I.base.keep b o e n hb hx) (I.base.free b o e n hx)
 ·obtain⟨sl,e1⟩:=I.base.slot b o e n hb hx;obtain⟨sl',e2⟩:=slot b _ (neL b o e) hb (neC b o e hx) e1 (I.base.free b o e n hx);exact⟨sl',e2⟩
 ·obtain⟨o',e1⟩:=I.base.there b o e hx;exact free b o' (neC b o e hx) e1 (I.base.free b o e n hx)
 ·obtain⟨o',e1⟩:=I.base.there b o e hx;exact there b o' (neC b o e hx) e1
 ·obtain⟨m1,e1⟩:=I.base.tbls b ps e;obtain⟨m2,e2⟩:=tbls b _ e1;exact⟨m1++m2,by rw[e2,Array.append_assoc]⟩
 ·obtain⟨m,hn,hl⟩:=I.loc;refine⟨m,ns m hn,λi x v e1 e2 e3=>?_⟩;obtain⟨u,r,l⟩:=hl i x v e1 e2 e3;refine⟨u,r,?_⟩;rcases l with l|⟨k,c,e,z⟩
  ·exact .inl l
  ·exact .inr ⟨k,c,e,cellK x c e _ z⟩
 ·obtain⟨v,z⟩:=I.cell x c e;exact⟨v,cellK x c e v z⟩
 ·obtain⟨m,⟨o,_,_,ho,_⟩,_⟩:=I.loc;exact free _ o (λz=>(hch _ z).2.1 rfl) ho I.free
 ·obtain⟨v,o,ho,hd⟩:=I.cell x c e;exact free c o (λz=>(hch c z).2.2.1 x c e rfl) ho (I.freeC x c e)
 ·obtain⟨e,n,ne,nf,d⟩:=I.pin p hp;have nch:p.1∉ch:=λz=>(hch p.1 z).2.2.2 p hp rfl;exact⟨keep p.1 p.2 ne nf nch e n,free p.1 p.2 nch e n,ne,nf,d⟩
theorem Inv.un{t':Nat}(I:Inv X z6 σ H s)(u:Un X.fs [] H H' s.heap h')(hok:HOk X.prog X.w H' h'):Inv X z6 σ H' {s with heap:=h',toks:=t'}:=by
 obtain⟨m,⟨o,es,ep,ho,r⟩,_⟩:=id I.loc;obtain⟨sl,hL⟩:=u.any ho I.free (by simp);exact I.step (g':=s.gens) (d':=s.drawn) (ch:=[]) (λ_ z=>nomatch z) (λb o _ hb _ e n=>u.keep b o e n hb (by simp)) (λb o _ hb _ e n=>u.slot b o e n hb (by simp)) (λb o _ e n=>u.free b o e n (by simp)) (λb o _ e=>u.there b o e (by simp)) u.tups u.frzs u.tbls (λm' hm=>by obtain⟨o',es',ep',ho',r'⟩:=hm;rw[ho]at ho';cases ho';exact⟨_,es',ep',hL,r'⟩) hok I.bare
theorem Inv.call{g':Array GenState}{t':Nat}{d':Drawn}{ch:List Addr}(I:Inv X z6 σ H s)(u:Un (frs X.stack) ch H H' s.heap h')(hok:HOk X.prog X.w H' h')(hg:AllBare g')
 (hch:∀b∈ch,(b∈X.ex∨X.s₀.heap.objs.size<=b)/\b≠X.env.locals/\(∀x c,X.env.cells.lookup x=some c->c≠b)/\∀p∈X.pn++z6,p.1≠b):
 Inv X z6 σ H' {s with heap:=h',gens:=g',drawn:=d',toks:=t'}:=by
 obtain⟨m,⟨o,es,ep,ho,r⟩,_⟩:=id I.loc;obtain⟨sl,hL⟩:=u.any ho I.free λz=>(hch _ z).2.1 rfl;exact I.step (ch:=ch) hch (λb o hL hb hc e n=>u.keep b o e n (λz=>(List.mem_cons.mp (I.stkSub b z)).elim hL hb) hc) (λb o _ _ hc e n=>u.any e n hc) (λb o hc e n=>u.free b o e n hc) (λb o hc e=>u.there b o e hc) u.tups u.frzs u.tbls (λm' hm=>by obtain⟨o',es',ep',ho',r'⟩:=hm;rw[ho]at ho';cases ho';exact⟨_,es',ep',hL,r'⟩) hok hg
theorem Inv.turned{t':Nat}{it:Addr}(I:Inv X z6 σ H s)(k:∀b o,b≠it->s.heap.get? b=some o->h'.get? b=some o)(hn:H it=none)(hL:it≠X.env.locals)
 (h1:it∈X.ex∨X.s₀.heap.objs.size<=it) (h2:∀x c,X.env.cells.lookup x=some c->c≠it) (h3:∀p∈X.pn++z6,p.1≠it):Inv X z6 σ H {s with heap:=h',toks:=t'}:=by
 have nit:∀b u,H b=some u->b≠it:=λb u e z=>by rw[z,hn]at e;cases e
 refine I.step (g':=s.gens) (d':=s.drawn) (ch:=[it]) (λb hb=>?_) (λb o _ _ hc e _=>k b o (λz=>hc (by simp[z])) e) (λb o _ _ hc e _=>⟨o.slots,k b o (λz=>hc (by simp[z])) e⟩) (λ_ _ _ _ n=>n)
  (λb o hc e=>⟨o,k b o (λz=>hc (by simp[z])) e⟩) (λ_ _ e=>e) (λ_ _ _ e=>e) (λb ps e=>⟨#[],by rw[e];simp⟩) (λm hm=>?_) (λb u e=>?_) I.bare
 ·have e:b=it:=by simpa using hb
  subst e;exact⟨h1,hL,h2,h3⟩
 ·obtain⟨o,es,ep,ho,r⟩:=hm;exact⟨o,es,ep,k _ o (Ne.symm hL) ho,r⟩
 ·refine(I.hok b u e).stay (λc v hc q=>k c v ?_ q) (λ_ q=>q) λ_ _ q=>q;rcases hc with z|z
  ·rw[z];exact nit b u e
  ·exact nit c _ z
theorem Inv.tok(I:Inv X z6 σ H s)(t:Nat):Inv X z6 σ H {s with toks:=t}:=I.un (h':=s.heap) (t':=t) Un.refl I.hok
theorem Inv.kept{t':Nat}(I:Inv X z6 σ H s)(k:∀b u,s.heap.get? b=some u->h'.get? b=some u):Inv X z6 σ H {s with heap:=h',toks:=t'}:=I.un (Un.kept k) (I.hok.kept k)
theorem Inv.laid{a:Addr}{o:HO}{t':Nat}(I:Inv X z6 σ H s)(k:∀b u,s.heap.get? b=some u->h'.get? b=some u)(hp:s.heap.objs.size<=a)(new:ObjOk X.prog X.w (upd H a o) h' a o):
 Inv X z6 σ (upd H a o) {s with heap:=h',toks:=t'}:=I.un (Un.laid k hp (I.hok.fresh hp)) (I.hok.laid k hp new)
theorem Inv.write{x e:Addr}{o:HO}{t':Nat}(I:Inv X z6 σ H s)(mu:Mut (H x))(he:e=x∨H e=some (.own x))(k:∀b u,b≠e->s.heap.get? b=some u->h'.get? b=some u)(heo:∃u,h'.get? e=some u)
 (new:ObjOk X.prog X.w (upd H x o) h' x o):Inv X z6 σ (upd H x o) {s with heap:=h',toks:=t'}:=I.un (Un.write mu he k heo) (I.hok.write mu he k heo new)
theorem Inv.weak{σ':List (Option V)}(I:Inv X z6 σ H s)(hl:σ'.length=σ.length)(w:∀(i:Nat) v,σ'[i]? =some (some v)->σ[i]? =some (some v)):Inv X z6 σ' H s:=
 ⟨I.ok,I.os,I.bare,I.base,let ⟨m,hn,hl'⟩:=I.loc;⟨m,hn,λi x v e1 e2 e3=>hl' i x v e1 (w i v e2) e3⟩,I.cell,I.free,I.freeC,I.pin,I.hok,hl.trans I.len⟩
theorem Inv.pins_of{pins':List (Addr×Obj)}(I:Inv X z6 σ H s)(h:∀p∈pins',s.heap.get? p.1=some p.2/\H p.1=none/\p.1≠X.env.locals/\p.1∉X.fs/\∀v,p.2.data≠.cell v):Inv X pins' σ H s:=
 ⟨I.ok,I.os,I.bare,I.base,I.loc,I.cell,I.free,I.freeC,λp hp=>(List.mem_append.mp hp).elim (λz=>I.pin p (List.mem_append_left _ z)) (h p),I.hok,I.len⟩
theorem qaj{N:List Str}(hN:N.Nodup){i j:Nat}{x:Str}(a:N[i]? =some x)(b:N[j]? =some x):i=j:=by obtain⟨h1,e1⟩:=List.getElem?_eq_some_iff.mp a;obtain⟨h2,e2⟩:=List.getElem?_eq_some_iff.mp b;exact(List.getElem_inj hN).mp (e1.trans e2.symm)
theorem qch{M:Model}{A:Around}{E:Value->Shared->Prop}{i:Nat}{x:Str}{v:V}{u:Value}{Q:Unit->Shared->Prop}(I:Inv X z6 σ H s)(hN:X.N.Nodup)(hi:X.N[i]? =some x)(hx:Loc X.env.scope x)(r:RelV v u)
 (h:∀s',Inv X z6 (σ.set i (some v)) H s'->(∃a,Heap.SameBut a s.heap s'.heap/\(a=X.env.locals∨X.env.cells.lookup x=some a))->Q () s') (hf:X.fn x=true∨X.env.scope.names.lookup x=some .local:=by first|exact .inl rfl|exact .inr rfl|assumption):wpAny M A (storeName X.env x u) Q E s:=by
 obtain⟨m,hn,hl⟩:=id I.loc;have hcls:(X.env.scope.kind==.class||(X.env.scope.kind==.module&&X.env.locals !=X.env.globals))=false:=by rw[I.ok.kind];rfl
 have hiσ:i<σ.length:=by rw[I.len];exact(List.getElem?_eq_some_iff.mp hi).1
 have cne:=I.cne;have tracked:∀{a:Addr} {h':Heap},(∃o,s.heap.get? a=some o/\H a=none)->Heap.SameBut a s.heap h'->HOk X.prog X.w H h':=λ{a h'} ha hs b ob e=>by
  obtain⟨_,_,hfree⟩:=ha;refine(I.hok b ob e).stay (λc w' hc q=>(hs.2 c ?_).trans q) (λ_ q=>q) λ_ _ q=>q;rintro rfl;rcases hc with rfl|hc
  ·rw[hfree]at e;cases e
  ·rw[hfree]at hc;cases hc
 rcases hx with hk|hk
 ·refine wpAny_storeName_local hk hn (λh' hn' hs=>?_) hcls;obtain⟨oL,_,_,hoL,_⟩:=id hn;refine h _ ⟨I.ok,I.os,I.bare,⟨λb o e n hb hx=>?_,λb o e n hb hx=>?_,I.base.free,λb o e hx=>?_,I.base.tups,I.base.frzs,I.base.tbls⟩,⟨_,hn',λj y v' e1 e2 e3=>?_⟩,λy c e=>?_,I.free,I.freeC,λp hp=>?_,tracked ⟨oL,hoL,I.free⟩ hs,by simpa using I.len⟩ ⟨_,hs,.inl rfl⟩
  ·exact(hs.2 b (jl (jm (jd e) I.ok.above))).trans (I.base.keep b o e n hb hx)
  ·obtain⟨sl,e1⟩:=I.base.slot b o e n hb hx;exact⟨sl,(hs.2 b (jl (jm (jd e) I.ok.above))).trans e1⟩
  ·obtain⟨o',e1⟩:=I.base.there b o e hx;exact⟨o',(hs.2 b (jl (jm (jd e) I.ok.above))).trans e1⟩
  ·by_cases hj:j=i
   ·subst hj;rw[hi]at e1;cases e1;rw[jv hiσ]at e2;cases e2;exact⟨u,r,.inl ⟨hk,by simp⟩⟩
   ·rw[ji (Ne.symm hj)]at e2;obtain⟨u',r',q⟩:=hl j y v' e1 e2 e3;refine⟨u',r',?_⟩;rcases q with⟨k,e⟩|⟨k,c,e,z⟩
    ·refine .inl ⟨k,?_⟩;have:y≠x:=λe=>hj (qaj hN e1 (e▸hi));simp[this,e]
    ·exact .inr ⟨k,c,e,z.sameBut hs (cne y c e)⟩
  ·obtain⟨w',z⟩:=I.cell y c e;exact⟨w',z.sameBut hs (cne y c e)⟩
  ·obtain⟨e,n,ne,nf,d⟩:=I.pin p hp;exact⟨(hs.2 p.1 ne).trans e,n,ne,nf,d⟩
 ·have hfn:X.fn x=true:=by
   rcases hf with z|z
   ·exact z
   ·rw[z]at hk;cases hk
  obtain⟨c,hc⟩:=I.ok.has x (.inl hk);obtain⟨w',z⟩:=I.cell x c hc;refine wpAny_storeName_cell I.ok.kind hk hc z (λh' hc' hs=>?_);obtain⟨oc,hoc,hocd⟩:=id z;refine h {s with heap:=h'} ⟨I.ok,I.os,I.bare,⟨λb o e n hb hx=>?_,λb o e n hb hx=>?_,I.base.free,λb o e hx=>?_,I.base.tups,I.base.frzs,I.base.tbls⟩,⟨m,hn.sameBut hs (Ne.symm (cne x c hc)),λj y v' e1 e2 e3=>?_⟩,λy c' e=>?_,I.free,I.freeC,λp hp=>?_,tracked ⟨oc,hoc,I.freeC x c hc⟩ hs,by simpa using I.len⟩ ⟨c,hs,.inr hc⟩
  ·exact(hs.2 b (jl (jm (jd e) (I.ok.cab x c hfn hc)))).trans (I.base.keep b o e n hb hx)
  ·obtain⟨sl,e1⟩:=I.base.slot b o e n hb hx;exact⟨sl,(hs.2 b (jl (jm (jd e) (I.ok.cab x c hfn hc)))).trans e1⟩
  ·obtain⟨o',e1⟩:=I.base.there b o e hx;exact⟨o',(hs.2 b (jl (jm (jd e) (I.ok.cab x c hfn hc)))).trans e1⟩
  ·by_cases hj:j=i
   ·subst hj;rw[hi]at e1;cases e1;rw[jv hiσ]at e2;cases e2;exact⟨u,r,.inr ⟨.inl hk,c,hc,hc'⟩⟩
   ·rw[ji (Ne.symm hj)]at e2;obtain⟨u',r',q⟩:=hl j y v' e1 e2 e3;refine⟨u',r',?_⟩;rcases q with q|⟨k,c',e,z'⟩
    ·exact .inl q
    ·refine .inr ⟨k,c',e,z'.sameBut hs ?_⟩;rintro rfl;exact hj (qaj hN e1 (I.ok.inj _ _ _ e hc▸hi))
  ·by_cases hcc:c'=c
   ·subst hcc;exact⟨_,hc'⟩
   ·obtain⟨w2,z2⟩:=I.cell y c' e;exact⟨w2,z2.sameBut hs hcc⟩
  ·obtain⟨e,n,ne,nf,d⟩:=I.pin p hp;refine⟨(hs.2 p.1 ?_).trans e,n,ne,nf,d⟩;intro q;rw[q,hoc]at e;have q':oc=p.2:=jh e;exact d w' (by rw[<-q'];exact hocd)
theorem q5l{M:Model}{A:Around}{E:Value->Shared->Prop}{i:Nat}{x:Str}{v:V}{u:Value}{Q:Unit->Shared->Prop}(I:Inv X z6 σ H s)(hN:X.N.Nodup)(hi:X.N[i]? =some x)(hx:Loc X.env.scope x)(r:RelV v u)
 (h:∀s',Inv X z6 (σ.set i (some v)) H s'->Q () s') (hf:X.fn x=true∨X.env.scope.names.lookup x=some .local:=by first|exact .inl rfl|exact .inr rfl|assumption):wpAny M A (storeName X.env x u) Q E s:=
 qch I hN hi hx r (λs' I' _=>h s' I') hf
theorem Inv.call'{s':Shared}{ch:List Addr}(I:Inv X z6 σ H s)(ho:s'.os=s.os)(u:Un (frs X.stack) ch H H' s.heap s'.heap)(hok:HOk X.prog X.w H' s'.heap)(hg:AllBare s'.gens)
 (hch:∀b∈ch,(b∈X.ex∨X.s₀.heap.objs.size<=b)/\b≠X.env.locals/\(∀x c,X.env.cells.lookup x=some c->c≠b)/\∀p∈X.pn++z6,p.1≠b):Inv X z6 σ H' s':=by
 obtain⟨h',g',d',t',o'⟩:=s';have e:o'=s.os:=ho;subst e;exact I.call (g':=g') (t':=t') (d':=d') u hok hg hch
end
abbrev XK:=Value->Option Addr->Hp->Prop
abbrev St:=List (Option V)
abbrev VK:=V->Hp->Prop
abbrev TE:=St->Hp->VK->Prop
abbrev TT:=St->Hp->(Bool->Hp->Prop)->Prop
abbrev TA:=St->Hp->(List V->Hp->Prop)->Prop
structure Ends where
 nx:St->Hp->Prop
 rt:VK
 bk:St->Hp->Prop:=λ_ _=>False
 ct:St->Hp->Prop:=λ_ _=>False
abbrev TS:=Ends->St->Hp->Prop
def EP(X:Cx)(z6:List (Addr×Obj))(σ:St)(Q:VK)(u:Value)(s':Shared):Prop:=∃v H',Inv X z6 σ H' s'/\RelV v u/\Q v H'
def TP(X:Cx)(z6:List (Addr×Obj))(σ:St)(Q:Bool->Hp->Prop)(b:Bool)(s':Shared):Prop:=∃H',Inv X z6 σ H' s'/\Q b H'
def AP(X:Cx)(z6:List (Addr×Obj))(σ:St)(Q:List V->Hp->Prop)(us:List Value)(s':Shared):Prop:=∃vs H',Inv X z6 σ H' s'/\Vals vs us/\Q vs H'
def SP(X:Cx)(z6:List (Addr×Obj))(D:Ends)(f:Flow)(s':Shared):Prop:=
 match f with
 |.next=>∃σ' H',Inv X z6 σ' H' s'/\D.nx σ' H'
 |.brk=>∃σ' H',Inv X z6 σ' H' s'/\D.bk σ' H'
 |.cont=>∃σ' H',Inv X z6 σ' H' s'/\D.ct σ' H'
 |.ret u=>∃v σ' H',Inv X z6 σ' H' s'/\RelV v u/\D.rt v H'
def PE(X:Cx)(e:Expr)(t:TE):Prop:=
 ∀(z6:List (Addr×Obj)) (s:Shared) (σ:St) (H:Hp) (Q:VK),Inv X z6 σ H s->t σ H Q->wpAny (model X.prog X.w) X.A (eval e X.env) (EP X z6 σ Q) X.xe s
def PT(X:Cx)(e:Expr)(t:TT):Prop:=
 ∀(z6:List (Addr×Obj)) (s:Shared) (σ:St) (H:Hp) (Q:Bool->Hp->Prop),Inv X z6 σ H s->t σ H Q->wpAny (model X.prog X.w) X.A (isTrue e X.env (eval e X.env)) (TP X z6 σ Q) X.xe s
def PW(X:Cx)(e:Expr)(t:TT):Prop:=
 ∀(zx:Sem Value) (z6:List (Addr×Obj)) (s:Shared) (σ:St) (H:Hp) (Q:Bool->Hp->Prop),Inv X z6 σ H s->t σ H Q->wpAny (model X.prog X.w) X.A (isTrue e X.env zx) (TP X z6 σ Q) X.xe s
theorem PW.pt{X:Cx}{e:Expr}{t:TT}(h:PW X e t):PT X e t:=h _
def PA(X:Cx)(es:List Expr)(t:TA):Prop:=
 ∀(pos:Pos) (z6:List (Addr×Obj)) (s:Shared) (σ:St) (H:Hp) (Q:List V->Hp->Prop),Inv X z6 σ H s->t σ H Q->wpAny (model X.prog X.w) X.A (spliced (backTo pos (starEach es X.env))) (AP X z6 σ Q) X.xe s
def PS(X:Cx)(st:Stmt)(t:TS):Prop:=
 ∀(z6:List (Addr×Obj)) (s:Shared) (σ:St) (H:Hp) (D:Ends),Inv X z6 σ H s->t D σ H->wpAny (model X.prog X.w) X.A (exec st X.env) (SP X z6 D) X.xe s
def PSs(X:Cx)(st:List Stmt)(t:TS):Prop:=
 ∀(z6:List (Addr×Obj)) (s:Shared) (σ:St) (H:Hp) (D:Ends),Inv X z6 σ H s->t D σ H->wpAny (model X.prog X.w) X.A (execs st X.env) (SP X z6 D) X.xe s
theorem thn{α:Type}{t:Sem α}{Q Q':α->Shared->Prop}{M:Model}{A:Around}{E:Value->Shared->Prop}{s:Shared}(h:wpAny M A t Q E s)(hQ:∀a s,Q a s->Q' a s):wpAny M A t Q' E s:=x8 h hQ λ_ _ x=>x
section
variable{X:Cx}
def tVar(i:Nat):TE:=λσ H Q=>∃v,σ[i]? =some (some v)/\Q v H
def tC(v:V):TE:=λ_ H Q=>Q v H
theorem qnd{i:Nat}{x:Str}{pos:Pos}(hN:X.N[i]? =some x)(hv:Vis X.env.scope x)(hd:(x==("__debug__":Str))=false:=by decide)(hcd:(x==("__classdict__":Str))=false:=by decide):PE X (.Name x pos) (tVar i):=by
 intro z6 s σ H Q I h;obtain⟨v,e,h⟩:=h;obtain⟨m,hn,hl⟩:=I.loc;obtain⟨u,r,l⟩:=hl i x v hN e hv;have fin:EP X z6 σ Q u s:=⟨v,H,I,r,h⟩;rcases l with⟨hk,hm⟩|⟨hk,c,hc,hcell⟩
 ·exact wpAny_Name (wpAny_loadName_local I.ok.kind hk hn hm fin) hd
 ·rcases hk with hk|hk
  ·exact wpAny_Name (wpAny_loadName_cell I.ok.kind hk hc hcell fin) hd
  ·exact wpAny_Name (wpAny_loadName_free I.ok.kind hk hc hcell fin hcd) hd
theorem q05{i j pos}:PE X (.Constant (.int i) j pos) (tC (.int i)):=λ_ _ _ H _ I h=>wpAny_Constant_int ⟨.int i,H,I.tok _,⟨_,rfl⟩,h⟩
theorem q4s{b j pos}:PE X (.Constant (.bool b) j pos) (tC (.bl b)):=λ_ _ _ H _ I h=>Constant_bool ⟨.bl b,H,I,rfl,h⟩
theorem q3w{j pos}:PE X (.Constant .none j pos) (tC .non):=λ_ _ _ H _ I h=>Constant_none ⟨.non,H,I,rfl,h⟩
theorem q29{x j pos}:PE X (.Constant (.str x) j pos) (tC (.str x)):=λ_ _ _ H _ I h=>Calls.Constant_str ⟨.str x,H,I.tok _,⟨_,rfl⟩,h⟩
def Gl(X:Cx)(x:Str):Prop:=X.env.kindOf x=some .globalImplicit
theorem q4i{E:Value->Shared->Prop}{z6:List (Addr×Obj)}{s:Shared}{σ:St}{H:Hp}{x:Str}{u:Value}{pos:Pos}{Q:Value->Shared->Prop}(I:Inv X z6 σ H s)(hg:Gl X x)(hm:X.mg x=some u)(h:Q u s)
 (hd:(x==("__debug__":Str))=false:=by decide):wpAny (model X.prog X.w) X.A (eval (.Name x pos) X.env) Q E s:=
 Calls.Name_function_global I.ok.kind hg (Calls.loadGlobal_global (by rw[I.ok.glob];exact I.mod.glob.keeps I.bk) hm h) hd
theorem q48{E:Value->Shared->Prop}{z6:List (Addr×Obj)}{s:Shared}{σ:St}{H:Hp}{x:Str}{u:Value}{pos:Pos}{Q:Value->Shared->Prop}(I:Inv X z6 σ H s)(hg:Gl X x)(hm:X.mg x=none)(hv:bootBuiltins x=some u)(h:Q u s)
 (hn:x≠"__name__":=by decide) (hd:(x==("__debug__":Str))=false:=by decide):wpAny (model X.prog X.w) X.A (eval (.Name x pos) X.env) Q E s:=by
 obtain⟨mb,h1,h2⟩:=I.mod.blt;exact Calls.Name_function_global I.ok.kind hg (Calls.loadGlobal_builtin (by rw[I.ok.glob];exact I.mod.glob.keeps I.bk) hm (by rw[I.ok.blt];exact h1.keeps I.bk) ((h2 x hn).trans hv) h) hd
theorem q7n{x:Str}{v:V}{u:Value}{pos:Pos}(hg:Gl X x)(hm:X.mg x=none)(hv:bootBuiltins x=some u)(r:RelV v u)(hn:x≠"__name__":=by decide)(hd:(x==("__debug__":Str))=false:=by decide):PE X (.Name x pos) (tC v):=
 λ_ _ _ H _ I h=>q48 I hg hm hv ⟨v,H,I,r,h⟩ hn hd
variable{a b:Expr}{ta tb:TE}{pos:Pos}
def tB(t:TE):TT:=λσ H Q=>t σ H λx H1=>∃c,x=.bl c/\Q c H1
theorem q4q{e:Expr}{t:TE}(h:PE X e t)(he:∀zx,isTrue e X.env zx=(do let v <-zx;standAt e.pos;holding [v] (truthy v)):=by intro _;rfl):PT X e (tB t):=by intro z6 s σ H Q I hw;refine isTrue_plain (thn (h z6 s σ H _ I hw) λv s1 ⟨x,H1,I1,r1,q1⟩=>?_) (he _);obtain⟨d,rfl,q⟩:=q1;cases r1;exact wpAny_truthy_bool ⟨H1,I1,q⟩
variable{tA tB':TT}{rest:List Expr}
def tAnd(t u:TT):TT:=λσ H Q=>t σ H λc H1=>if c=true then u σ H1 Q else Q false H1
def tOr(t u:TT):TT:=λσ H Q=>t σ H λc H1=>if c=true then Q true H1 else u σ H1 Q
def tNot(t:TT):TT:=λσ H Q=>t σ H λc H1=>Q (!c) H1
theorem pw_and1(ha:PT X a tA):PW X (.BoolOp .And [a] pos) tA:=by
 intro wh z6 s σ H Q I h;refine isTrue_and (thn (ha z6 s σ H Q I h) λc s1 e=>?_);cases c with
 |true=>exact isTrue_and_nil e
 |false=>exact e
theorem pw_or1(ha:PT X a tA):PW X (.BoolOp .Or [a] pos) tA:=by
 intro wh z6 s σ H Q I h;refine isTrue_or (thn (ha z6 s σ H Q I h) λc s1 e=>?_);cases c with
 |false=>exact isTrue_or_nil e
 |true=>exact e
theorem pw_and(ha:PT X a tA)(hb:PW X (.BoolOp .And (b::rest) pos) tB'):PW X (.BoolOp .And (a::b::rest) pos) (tAnd tA tB'):=by
 intro wh z6 s σ H Q I h;refine isTrue_and (thn (ha z6 s σ H _ I h) λc s1 ⟨H1,I1,q1⟩=>?_);cases c with
 |true=>exact hb wh z6 s1 σ H1 Q I1 q1
 |false=>exact⟨H1,I1,q1⟩
theorem pw_or(ha:PT X a tA)(hb:PW X (.BoolOp .Or (b::rest) pos) tB'):PW X (.BoolOp .Or (a::b::rest) pos) (tOr tA tB'):=by
 intro wh z6 s σ H Q I h;refine isTrue_or (thn (ha z6 s σ H _ I h) λc s1 ⟨H1,I1,q1⟩=>?_);cases c with
 |true=>exact⟨H1,I1,q1⟩
 |false=>exact hb wh z6 s1 σ H1 Q I1 q1
theorem q6z(ha:PT X a tA):PT X (.UnaryOp .Not a pos) (tNot tA):=by intro z6 s σ H Q I h;exact isTrue_not (ha z6 s σ H (λc H1=>Q (!c) H1) I h)
def tIf(t:TT)(ta tb:TE):TE:=λσ H Q=>t σ H λc H1=>if c=true then ta σ H1 Q else tb σ H1 Q
theorem q3r{c:Expr}(hc:PT X c tA)(ha:PE X a ta)(hb:PE X b tb):PE X (.IfExp c a b pos) (tIf tA ta tb):=by
 intro z6 s σ H Q I h;refine wpAny_IfExp (thn (hc z6 s σ H _ I h) λd s1 ⟨H1,I1,q1⟩=>?_);cases d with
 |true=>exact ha z6 s1 σ H1 Q I1 q1
 |false=>exact hb z6 s1 σ H1 Q I1 q1
end
def SqL(K:FrG)(H:Hp)(a:Addr)(xs:List V):Prop:=
 Rd H a (.lst xs)∨
  ∃(o:Obj) (its:Array Value) (n:Nat),K.lookup a=some o/\o.cls=.type "list"/\o.dict=none/\o.data=.seq its n/\its.size<=sizeLine/\Vals xs its.toList
def SqT(K:FrG)(H:Hp)(a:Addr)(xs:List V):Prop:=
 Rd H a (.tup xs)∨
  ∃(o:Obj) (its:Array Value) (n:Nat),K.lookup a=some o/\o.cls=.type "tuple"/\o.dict=none/\o.data=.seq its n/\its.size<=sizeLine/\Vals xs its.toList
def absV:Value->Option V
 |.none=>some .non
 |.bool b=>some (.bl b)
 |.int i _=>some (.int i)
 |.str x _=>some (.str x)
 |.bytes b _=>some (.byt b)
 |.float b _=>some (.flt b)
 |.ref a=>some (.ref a)
 |.type n=>some (.ty n)
 |_=>none
theorem RelV.abs{x:V}{u:Value}(r:RelV x u):absV u=some x:=by
 cases x with
 |non=>cases r;rfl
 |bl _=>cases r;rfl
 |int _=>obtain⟨t,rfl⟩:=r;rfl
 |str _=>obtain⟨t,rfl⟩:=r;rfl
 |byt _=>obtain⟨t,rfl⟩:=r;rfl
 |flt _=>obtain⟨t,rfl⟩:=r;rfl
 |ref _=>cases r;rfl
 |ty _=>cases r;rfl
theorem RelV.inj{x y:V}{u:Value}(r:RelV x u)(q:RelV y u):x=y:=jh (r.abs.symm.trans q.abs)
theorem Vals.inj:∀{xs ys:List V} {us:List Value},Vals xs us->Vals ys us->xs=ys
 |_,_,_,.nil,.nil=>rfl
 |_,_,_,.cons r t,.cons r' t'=>by rw[r.inj r',Vals.inj t t']
section
variable{X:Cx}{z6:List (Addr×Obj)}{σ:St}{H:Hp}{s:Shared}{a:Addr}{xs ys:List V}
theorem SqL.of{K:FrG}(h:H a=some (.lst xs)):SqL K H a xs:=.inl (.inl h)
theorem SqT.of{K:FrG}(h:H a=some (.tup xs)):SqT K H a xs:=.inl (.inl h)
theorem Inv.list(I:Inv X z6 σ H s)(h:SqL X.K H a xs):∃its:List Value,Vals xs its/\PlainL s.heap a its.toArray/\xs.length<=sizeLine:=by
 rcases h with h|⟨o,its,n,hk,hc,hd,hs,hz,r⟩
 ·obtain⟨z,its,n,r,e⟩:=h.ok I.hok;exact⟨its,r,⟨_,n,e,rfl,rfl,rfl⟩,z⟩
 ·refine⟨its.toList,r,⟨o,n,I.kIn a o hk,hc,hd,by simpa using hs⟩,?_⟩;have e:=r.length;simp only[Array.length_toList]at e;omega
theorem Inv.tupN(I:Inv X z6 σ H s)(h:SqT X.K H a xs):∃its:List Value,Vals xs its/\TupN s.heap a its.toArray/\xs.length<=sizeLine:=by
 rcases h with h|⟨o,its,n,hk,hc,hd,hs,hz,r⟩
 ·obtain⟨z,its,r,p⟩:=h.ok I.hok;exact⟨its,r,p,z⟩
 ·refine⟨its.toList,r,⟨o,I.kIn a o hk,⟨hc,n,by simpa using hs⟩,hd⟩,?_⟩;have e:=r.length;simp only[Array.length_toList]at e;omega
theorem Inv.tuple(I:Inv X z6 σ H s)(h:SqT X.K H a xs):∃its:List Value,Vals xs its/\IsTup s.heap a its.toArray/\xs.length<=sizeLine:=let ⟨its,r,p,z⟩:=I.tupN h;⟨its,r,p.tup,z⟩
theorem Inv.list_inj(I:Inv X z6 σ H s)(h:SqL X.K H a xs)(h':SqL X.K H a ys):xs=ys:=by
 obtain⟨its,r,⟨o,n,e,_,_,d⟩,_⟩:=I.list h;obtain⟨its',r',⟨o',n',e',_,_,d'⟩,_⟩:=I.list h';rw[e]at e';cases e';rw[d]at d';injection d' with d1 _;have:its=its':=by simpa using congrArg Array.toList d1
 subst this;exact r.inj r'
theorem Inv.tuple_inj(I:Inv X z6 σ H s)(h:SqT X.K H a xs)(h':SqT X.K H a ys):xs=ys:=by
 obtain⟨its,r,⟨o,e,_,n,d⟩,_⟩:=I.tuple h;obtain⟨its',r',⟨o',e',_,n',d'⟩,_⟩:=I.tuple h';rw[e]at e';cases e';rw[d]at d';injection d' with d1 _;have:its=its':=by simpa using congrArg Array.toList d1
 subst this;exact r.inj r'
end
abbrev Cx.wish(X:Cx)(E:Value->Shared->Prop):Cx:={X with xe:=E}
abbrev Cx.nox(X:Cx):Cx:=X.wish λ_ _=>False
theorem Cx.Ok.wish{X:Cx}(ok:X.Ok)(E:Value->Shared->Prop):(X.wish E).Ok:=
 ⟨ok.mod,ok.kind,ok.glob,ok.blt,ok.above,ok.inj,ok.has,ok.cab,ok.hd,ok.frames,ok.stk,ok.exf,ok.bs,ok.bsz,ok.noex,ok.exfs,ok.funs,ok.frf⟩
theorem Cx.Ok.unwish{X:Cx}{E:Value->Shared->Prop}(ok:(X.wish E).Ok):X.Ok:=
 ⟨ok.mod,ok.kind,ok.glob,ok.blt,ok.above,ok.inj,ok.has,ok.cab,ok.hd,ok.frames,ok.stk,ok.exf,ok.bs,ok.bsz,ok.noex,ok.exfs,ok.funs,ok.frf⟩
section
variable{X:Cx}{z6:List (Addr×Obj)}{σ:St}{H:Hp}{s:Shared}{E:Value->Shared->Prop}
theorem Inv.wish(I:Inv X z6 σ H s)(E:Value->Shared->Prop):Inv (X.wish E) z6 σ H s:=⟨I.ok.wish E,I.os,I.bare,I.base,I.loc,I.cell,I.free,I.freeC,I.pin,I.hok,I.len⟩
theorem Inv.unwish(I:Inv (X.wish E) z6 σ H s):Inv X z6 σ H s:=⟨I.ok.unwish,I.os,I.bare,I.base,I.loc,I.cell,I.free,I.freeC,I.pin,I.hok,I.len⟩
theorem SP.unwish{D:Ends}{f:Flow}{s':Shared}(h:SP (X.wish E) z6 D f s'):SP X z6 D f s':=by
 cases f with
 |next=>obtain⟨σ',H',I,q⟩:=h;exact⟨σ',H',I.unwish,q⟩
 |brk=>obtain⟨σ',H',I,q⟩:=h;exact⟨σ',H',I.unwish,q⟩
 |cont=>obtain⟨σ',H',I,q⟩:=h;exact⟨σ',H',I.unwish,q⟩
 |ret u=>obtain⟨v,σ',H',I,r,q⟩:=h;exact⟨v,σ',H',I.unwish,r,q⟩
theorem PE.nox{e:Expr}{t:TE}(h:PE X.nox e t):PE X e t:=λz6 s σ H Q I hw=>
 x8 (h z6 s σ H Q (I.wish _) hw) (λ_ _ ⟨v,H',I',r,q⟩=>⟨v,H',I'.unwish,r,q⟩) λ_ _ z=>False.elim z
theorem PT.nox{e:Expr}{t:TT}(h:PT X.nox e t):PT X e t:=λz6 s σ H Q I hw=>
 x8 (h z6 s σ H Q (I.wish _) hw) (λ_ _ ⟨H',I',q⟩=>⟨H',I'.unwish,q⟩) λ_ _ z=>False.elim z
theorem PSs.nox{st:List Stmt}{t:TS}(h:PSs X.nox st t):PSs X st t:=λz6 s σ H D I hw=>
 x8 (h z6 s σ H D (I.wish _) hw) (λ_ _ q=>q.unwish) λ_ _ z=>False.elim z
end
section
variable{X:Cx}{st:Stmt}{rest:List Stmt}{t u:TS}{e:Expr}{te:TE}{pos:Pos}
def q97:TS:=λD σ H=>D.nx σ H
def tSeq(t u:TS):TS:=λD σ H=>t {D with nx:=u D} σ H
theorem q1i:PSs X [] q97:=λ_ _ σ H _ I h=>kf ⟨σ,H,I,h⟩
theorem q07(h1:PS X st t)(h2:PSs X rest u):PSs X (st::rest) (tSeq t u):=by
 intro z6 s σ H D I h;refine wpAny_execs_cons (thn (h1 z6 s σ H {D with nx:=u D} I h) λf s1 q=>?_);cases f with
 | next=>
  obtain⟨σ',H',I',q⟩:=q;exact h2 z6 s1 σ' H' D I' q
 |ret v=>exact q
 |brk=>exact q
 |cont=>exact q
theorem q09(h1:PS X st t):PSs X [st] t:=by
 intro z6 s σ H D I h;refine wpAny_execs_cons (thn (h1 z6 s σ H D I h) λf s1 q=>?_);cases f with
 |next=>exact kf q
 |ret v=>exact q
 |brk=>exact q
 |cont=>exact q
theorem Inv.quiet{z6:List (Addr×Obj)}{σ:St}{H:Hp}{s:Shared}(I:Inv X z6 σ H s):interactive X.env=false:=by simp[interactive,I.ok.kind]
def q4d(te:TE):TS:=λD σ H=>te σ H λ_ H1=>D.nx σ H1
theorem q2o(he:PE X e te)(hs:swapsWith e none pos.line X.env=pure false:=by rfl):PS X (.Expr e pos) (q4d te):=by intro z6 s σ H D I h;exact wpAny_Expr_any (thn (he z6 s σ H _ I h) λv s1 ⟨x,H1,I1,r1,q1⟩=>⟨σ,H1,I1,q1⟩) I.quiet hs
def tRet(te:TE):TS:=λD σ H=>te σ H D.rt
theorem q0s(he:PE X e te):PS X (.Return (some e) pos) (tRet te):=by intro z6 s σ H D I h;exact wpAny_Return_some (thn (he z6 s σ H _ I h) λv s1 ⟨x,H1,I1,r1,q1⟩=>⟨x,σ,H1,I1,r1,q1⟩)
def tIfS(c:TT)(t u:TS):TS:=λD σ H=>c σ H λb H1=>if b=true then t D σ H1 else u D σ H1
theorem q31{c:Expr}{a b:List Stmt}{tc:TT}(hc:PT X c tc)(ha:PSs X a t)(hb:PSs X b u):PS X (.If c a b pos) (tIfS tc t u):=by
 intro z6 s σ H D I h;refine wpAny_If (thn (hc z6 s σ H _ I h) λd s1 ⟨H1,I1,q1⟩=>?_);cases d with
 |true=>exact ha z6 s1 σ H1 D I1 q1
 |false=>exact hb z6 s1 σ H1 D I1 q1
end
abbrev TG:=V->St->Hp->(St->Hp->Prop)->Prop
abbrev TGs:=List V->St->Hp->(St->Hp->Prop)->Prop
def PG(X:Cx)(zk:Expr)(t:TG):Prop:=
 ∀(z6:List (Addr×Obj)) (s:Shared) (σ:St) (H:Hp) (v:V) (u:Value) (Q:St->Hp->Prop),Inv X z6 σ H s->RelV v u->t v σ H Q->
   wpAny (model X.prog X.w) X.A (assign zk X.env u) (λ_ s'=>∃σ' H',Inv X z6 σ' H' s'/\Q σ' H') X.xe s
def PGs(X:Cx)(ts:List Expr)(t:TGs):Prop:=
 ∀(z6:List (Addr×Obj)) (s:Shared) (σ:St) (H:Hp) (vs:List V) (us:List Value) (Q:St->Hp->Prop),Inv X z6 σ H s->Vals vs us->t vs σ H Q->
   wpAny (model X.prog X.w) X.A (assignInOrder ((assignEach ts X.env).map (·.2)) us) (λ_ s'=>∃σ' H',Inv X z6 σ' H' s'/\Q σ' H') X.xe s
section
variable{X:Cx}{pos:Pos}
def q37(i:Nat):TG:=λv σ H Q=>Q (σ.set i (some v)) H
theorem q0r{i:Nat}{x:Str}(hN:X.N.Nodup)(hi:X.N[i]? =some x)(hx:Loc X.env.scope x)(hf:X.fn x=true∨X.env.scope.names.lookup x=some .local:=by first|exact .inl rfl|exact .inr rfl|assumption):PG X (.Name x pos) (q37 i):=by intro z6 s σ H v u Q I r h;exact wpAny_assign_Name (q5l I hN hi hx r (λs' I'=>⟨_,H,I',h⟩) hf)
theorem zgA(i:Nat){x:Str}(hN:X.N.Nodup)(hi:X.N[i]? =some x:=by rfl)(hx:Loc X.env.scope x:=by first|exact .inl rfl|exact .inr rfl)(hf:X.fn x=true∨X.env.scope.names.lookup x=some .local:=by first|exact .inl rfl|exact .inr rfl|assumption):PG X (.Name x pos) (q37 i):=q0r hN hi hx hf
def gNil:TGs:=λvs σ H Q=>vs=[]/\Q σ H
def qh4(t:TG)(u:TGs):TGs:=λvs σ H Q=>∃v r,vs=v::r/\t v σ H λσ' H'=>u r σ' H' Q
theorem q3u:PGs X [] gNil:=by intro z6 s σ H vs us Q I r h;obtain⟨e,h⟩:=h;subst e;cases r;exact assignInOrder_nil ⟨σ,H,I,h⟩
theorem q1s{e:Expr}{es:List Expr}{t:TG}{u:TGs}(h1:PG X e t)(h2:PGs X es u)
 (hs:(assignEach (e::es) X.env).map (·.2)=assign e X.env::(assignEach es X.env).map (·.2):=by rfl):PGs X (e::es) (qh4 t u):=by
 intro z6 s σ H vs us Q I r h;obtain⟨v,vr,e1,h⟩:=h;subst e1;cases r with
 | cons r rr=>
  rw[hs];refine assignInOrder_cons (thn (h1 z6 s σ H _ _ _ I r h) λ_ s1 ⟨σ1,H1,I1,q1⟩=>?_);exact h2 z6 s1 σ1 H1 _ _ Q I1 rr q1
def gTup(K:FrG)(n:Nat)(t:TGs):TG:=λv σ H Q=>∃a xs,v=.ref a/\SqT K H a xs/\xs.length=n/\t xs σ H Q
theorem qnc{es:List Expr}{k:Nat}{t:TGs}{n:Nat}(hc:X.calm=true)(h:PGs X es t)
 (hn:(assignEach es X.env).length=n:=by rfl) (hst:(assignEach es X.env).findIdx? (·.1)=none:=by rfl):PG X (.Tuple es k pos) (gTup X.K n t):=by
 intro z6 s σ H v u Q I r hw;obtain⟨a,xs,e1,hq,hl,hw⟩:=hw;subst e1;cases r;obtain⟨its,rv,ht,hz⟩:=I.tuple hq;refine assign_Tuple_tuple (I.ok.hd hc) ht (by simp[hn,<-hl,rv.length]) hst λh' hx=>?_;have I1:Inv X z6 σ H {s with heap:=h'}:=I.kept (t':=s.toks) λb o e=>hx b o (jl (jd e)) e;exact h z6 _ σ H xs _ Q I1 (by simpa using rv) hw
def tAsg(te:TE)(g:TG):TS:=λD σ H=>te σ H λx H1=>g x σ H1 D.nx
theorem qn8{tg e:Expr}{te:TE}{g:TG}(he:PE X e te)(hg:PG X tg g)(hs:swapsWithSole [tg] e pos.line X.env=pure false:=by rfl)(hw:swappedStores [tg] e X.env=pure none:=by rfl)
 (h1:(assignEach [tg] X.env).map (·.2)=[assign tg X.env]:=by rfl):PS X (.Assign [tg] e pos) (tAsg te g):=by
 intro z6 s σ H D I h;refine wpAny_Assign_stores (thn (he z6 s σ H _ I h) λv s1 ⟨x,H1,I1,r1,q1⟩=>?_) hs hw;rw[h1];exact thn (hg z6 s1 σ H1 x v _ I1 r1 q1) λ_ s2 q=>q
theorem q12{i:Nat}{x:Str}{e:Expr}{te:TE}{j4:Pos}(hN:X.N.Nodup)(hi:X.N[i]? =some x)(hx:Loc X.env.scope x)(he:PE X e te)(hs:swapsWith e (some (.Name x j4)) pos.line X.env=pure false:=by rfl)(hf:X.fn x=true∨X.env.scope.names.lookup x=some .local:=by first|exact .inl rfl|exact .inr rfl|assumption):
 PS X (.Assign [.Name x j4] e pos) (tAsg te (q37 i)):=by
 intro z6 s σ H D I h;refine wpAny_Assign_Name (thn (he z6 s σ H _ I h) λv s1 ⟨y,H1,I1,r1,q1⟩=>?_) hs;exact q5l I1 hN hi hx r1 (λs2 I2=>⟨_,H1,I2,q1⟩) hf
theorem zsA(i:Nat){x:Str}{e:Expr}{te:TE}{j4:Pos}(hN:X.N.Nodup)(he:PE X e te)(hi:X.N[i]? =some x:=by rfl)(hx:Loc X.env.scope x:=by first|exact .inl rfl|exact .inr rfl)(hs:swapsWith e (some (.Name x j4)) pos.line X.env=pure false:=by rfl)(hf:X.fn x=true∨X.env.scope.names.lookup x=some .local:=by first|exact .inl rfl|exact .inr rfl|assumption): PS X (.Assign [.Name x j4] e pos) (tAsg te (q37 i)):=q12 hN hi hx he hs hf
end
section
variable{X:Cx}{pos:Pos}
def qi5(c:TT)(tb:TS):TS:=λD σ H=>∃W:Nat->St->Hp->Prop,(∃m,W m σ H)/\∀m σ H,W m σ H->
 c σ H λb H1=>if b=true then∃N:St->Hp->Prop,(∀σ' H',N σ' H'->∃m',m'<m/\W m' σ' H')/\tb {D with nx:=N,ct:=N,bk:=D.nx} σ H1 else D.nx σ H1
theorem qg7{c:Expr}{body:List Stmt}{tc:TT}{tb:TS}(hp:PassesOwn (model X.prog X.w) X.A X.env X.xe)(hc:PT X c tc)(hb:PSs X body tb):PS X (.While c body [] pos) (qi5 tc tb):=by
 intro z6 s σ H D I h;obtain⟨W,⟨m0,w0⟩,zr⟩:=h;refine wpAny_While (codeAny_whileLoop (λn s'=>∃σ' H',Inv X z6 σ' H' s'/\W n σ' H') ?_ m0 ⟨σ,H,I,w0⟩);rintro n s1 ⟨σ1,H1,I1,w1⟩;refine k9 hp (thn (hc z6 s1 σ1 H1 _ I1 (zr n σ1 H1 w1)) λb s2 ⟨H2,I2,q2⟩=>?_);cases b with
 | true=>
  obtain⟨N,hN,q2⟩:=q2;rw[if_pos rfl];refine k9 hp (thn (hb z6 s2 σ1 H2 _ I2 q2) λf s3 q3=>?_);cases f with
  | next=>
   obtain⟨σ3,H3,I3,n3⟩:=q3;obtain⟨m',hm,w3⟩:=hN σ3 H3 n3;exact⟨m',hm,σ3,H3,I3,w3⟩
  | cont=>
   obtain⟨σ3,H3,I3,n3⟩:=q3;obtain⟨m',hm,w3⟩:=hN σ3 H3 n3;exact⟨m',hm,σ3,H3,I3,w3⟩
  |brk=>exact q3
  |ret v=>exact q3
 | false=>
  rw[if_neg Bool.false_ne_true];exact kf ⟨σ1,H2,I2,q2⟩
end
structure It where
 go:Nat->Hp->Prop
 yld:Nat->Hp->V->Hp->Prop
 stop:Nat->Hp->Prop
def FpOk(X:Cx)(z6:List (Addr×Obj))(H:Hp)(b:Addr):Prop:=
 H b=none/\b≠X.env.locals/\b∉X.fs/\(b∈X.ex∨X.s₀.heap.objs.size<=b)/\(∀x c,X.env.cells.lookup x=some c->c≠b)/\∀p∈X.pn++z6,p.1≠b
theorem Inv.fpOk{X:Cx}{z6:List (Addr×Obj)}{σ:St}{H H':Hp}{s:Shared}{b:Addr}(I:Inv X z6 σ H s)(hb:s.heap.objs.size<=b)(hn:H' b=none):FpOk X z6 H' b:=by
 refine⟨hn,Nat.ne_of_gt (jm I.lt hb),I.nofs hb,.inr (ju I.sz hb),λx c e z=>?_,λp hp z=>?_⟩
 ·obtain⟨v,q⟩:=I.cell x c e;exact absurd (jm q.lt (by rw[z];exact hb)) (xc _)
 ·exact absurd (jm (jd (I.pin p hp).1) (by rw[z];exact hb)) (xc _)
structure Turn(P:Program)(w:World)(K:FrG)(tg:Expr)(J:It)(fp:List Addr)(it:Addr)(tn:Nat->Heap->Prop):Prop where
 mem:it∈fp
 obj:∀i h,tn i h->∀b∈fp,∃o,h.get? b=some o/\∀v,o.data≠.cell v
 keep:∀i h h',tn i h->(∀b∈fp,∀o,h.get? b=some o->h'.get? b=some o)->tn i h'
 item:∀(X:Cx),X.prog=P->X.w=w->X.K=K->X.calm=true->∀(i:Nat) (z6:List (Addr×Obj)) (s:Shared) (σ:St) (H:Hp) (E:Value->Shared->Prop),Inv X z6 σ H s->(∀b∈fp,FpOk X z6 H b)->tn i s.heap->J.go i H->
  wpAny (model P w) X.A (pyNext (.ref it)) (λr s1=>∃u,r=some u/\
   wpAny (model P w) X.A (letOwnedTupleGo tg (.ref it) u) (λ_ s2=>∃x H',Inv X z6 σ H' s2/\RelV x u/\J.yld i H x H'/\tn (i+1) s2.heap/\∀b∈fp,H' b=none) E s1) E s
 done:∀(X:Cx),X.prog=P->X.w=w->X.K=K->X.calm=true->∀(i:Nat) (z6:List (Addr×Obj)) (s:Shared) (σ:St) (H:Hp) (E:Value->Shared->Prop),Inv X z6 σ H s->(∀b∈fp,FpOk X z6 H b)->tn i s.heap->J.stop i H->
  wpAny (model P w) X.A (pyNext (.ref it)) (λr s1=>r=none/\Inv X z6 σ H s1) E s
 self:∀(A:Around) (i:Nat) (s:Shared) (Q:Value->Shared->Prop) (E:Value->Shared->Prop),tn i s.heap->Q (.ref it) s->wpAny (model P w) A (pyIter (.ref it)) Q E s
abbrev TI:=St->Hp->(It->Hp->Prop)->Prop
def PIE(X:Cx)(z6:List (Addr×Obj))(σ:St)(tg:Expr)(R:It->Hp->Prop)(itv:Value)(s2:Shared):Prop:=
 ∃(it:Addr) (fp:List Addr) (tn:Nat->Heap->Prop) (J:It) (H':Hp),itv=.ref it/\Inv X z6 σ H' s2/\Turn X.prog X.w X.K tg J fp it tn/\tn 0 s2.heap/\(∀b∈fp,FpOk X z6 H' b)/\R J H'
def PI(X:Cx)(tg ze:Expr)(wi:TI):Prop:=
 ∀(z6:List (Addr×Obj)) (s:Shared) (σ:St) (H:Hp) (R:It->Hp->Prop),Inv X z6 σ H s->wi σ H R->
   wpAny (model X.prog X.w) X.A (eval ze X.env) (λv s1=>wpAny (model X.prog X.w) X.A (pyIter v) (PIE X z6 σ tg R) X.xe s1) X.xe s
theorem qh2{M:Model}{A:Around}{E:Value->Shared->Prop}{s:Shared}{tg:Expr}{it:Addr}{u:Value}{o:Obj}{n:String}{vs:Array Value}{Q:Unit->Shared->Prop}(ho:s.heap.get? it=some o)(hc:o.cls=.type n)(hd:o.data=.fields vs)
 (hn:["enumerate","zip","dict_itemiterator","dict_reverseitemiterator","odict_iterator","itertools.zip_longest","itertools.pairwise"].contains n=false) (hQ:Q () s):wpAny M A (letOwnedTupleGo tg (.ref it) u) Q E s:=by
 unfold letOwnedTupleGo;cases tg<;>first
  |exact jc hQ
  |(cases u<;>first
     |exact jc hQ
     | (refine ja (wpAny_load ho ?_)
        rw[hc,hd];show wpAny M A (if(["enumerate","zip","dict_itemiterator","dict_reverseitemiterator","odict_iterator","itertools.zip_longest","itertools.pairwise"].contains n&&vs[0]? ==some (rawInt _))=true then _ else _) Q E s;rw[if_neg (by intro h;rw[hn,Bool.false_and]at h;cases h)];exact jc hQ))
def Itl(K:FrG)(a:Addr):It:=
 ⟨λi H=>∃xs x,SqL K H a xs/\xs[i]? =some x,λi H x H'=>H'=H/\∀xs,SqL K H a xs->xs[i]? =some x,λi H=>∃xs,SqL K H a xs/\xs.length<=i⟩
def Itt(K:FrG)(a:Addr):It:=
 ⟨λi H=>∃xs x,SqT K H a xs/\xs[i]? =some x,λi H x H'=>H'=H/\∀xs,SqT K H a xs->xs[i]? =some x,λi H=>∃xs,SqT K H a xs/\xs.length<=i⟩
def Itr(lo:Int)(n:Nat):It:=⟨λi _=>i<n,λi H x H'=>H'=H/\x=.int (lo+i),λi _=>n<=i⟩
theorem qcd{P:Program}{w:World}{K:FrG}{tg:Expr}(a it:Addr):Turn P w K tg (Itl K a) [it] it (λi h=>h.IsListIter it a i) where
 mem:=by simp
 obj:=λi h st b hb=>by
  have e:b=it:=by simpa using hb
  subst e;obtain⟨o,e,c,d⟩:=st;exact⟨o,e,λv z=>by rw[d]at z;cases z⟩
 keep:=λi h h' st k=>st.at λo e=>k it (by simp) o e
 item:=by intro X hP hw hK hc i z6 s σ H E I hf st hg;subst hP hw hK;obtain⟨xs,x,hq,hx⟩:=hg;obtain⟨its,rv,p,hz⟩:=I.list hq;obtain⟨u,hu,ru⟩:=rv.get hx;obtain⟨f0,f1,f2,f3,f4,f5⟩:=hf it (by simp);refine wpAny_pyNext_list_item st p.isList (x:=u) (by simpa using hu) λh' st' sb=>?_;have I1:Inv X z6 σ H {s with heap:=h'}:=I.turned (t':=s.toks) (λb o hb e=>(sb.2 b hb).trans e) f0 f1 f3 f4 f5;obtain⟨o,e,c,d⟩:=id st';exact⟨u,rfl,qh2 (s:={s with heap:=h'}) e c d (by decide) ⟨x,H,I1,ru,⟨rfl,λys hy=>by rw[I.list_inj hy hq];exact hx⟩,st',λb hb=>(hf b hb).1⟩⟩
 done:=by intro X hP hw hK hc i z6 s σ H E I hf st hg;subst hP hw hK;obtain⟨xs,hq,hx⟩:=hg;obtain⟨its,rv,p,hz⟩:=I.list hq;obtain⟨f0,f1,f2,f3,f4,f5⟩:=hf it (by simp);have hl:=rv.length;exact wpAny_pyNext_list_end (I.ok.hd hc) st p.isList (by simp;omega) λh' eb=>⟨rfl,I.turned (t':=s.toks) (λb o hb e=>eb b o hb e) f0 f1 f3 f4 f5⟩
 self:=λ_ _ _ _ _ st h=>wpAny_pyIter_listiter st h
theorem qb7{P:Program}{w:World}{K:FrG}{tg:Expr}(a it:Addr):Turn P w K tg (Itt K a) [it] it (λi h=>h.IsTupleIter it a i) where
 mem:=by simp
 obj:=λi h st b hb=>by
  have e:b=it:=by simpa using hb
  subst e;obtain⟨o,e,c,d⟩:=st;exact⟨o,e,λv z=>by rw[d]at z;cases z⟩
 keep:=λi h h' st k=>st.at λo e=>k it (by simp) o e
 item:=by intro X hP hw hK hc i z6 s σ H E I hf st hg;subst hP hw hK;obtain⟨xs,x,hq,hx⟩:=hg;obtain⟨its,rv,p,hz⟩:=I.tuple hq;obtain⟨u,hu,ru⟩:=rv.get hx;obtain⟨f0,f1,f2,f3,f4,f5⟩:=hf it (by simp);refine wpAny_pyNext_tuple_item st (show s.heap.IsTuple a its.toArray from p) (x:=u) (by simpa using hu) λh' st' sb=>?_;have I1:Inv X z6 σ H {s with heap:=h'}:=I.turned (t':=s.toks) (λb o hb e=>(sb.2 b hb).trans e) f0 f1 f3 f4 f5;obtain⟨o,e,c,d⟩:=id st';exact⟨u,rfl,qh2 (s:={s with heap:=h'}) e c d (by decide) ⟨x,H,I1,ru,⟨rfl,λys hy=>by rw[I.tuple_inj hy hq];exact hx⟩,st',λb hb=>(hf b hb).1⟩⟩
 done:=by intro X hP hw hK hc i z6 s σ H E I hf st hg;subst hP hw hK;obtain⟨xs,hq,hx⟩:=hg;obtain⟨its,rv,p,hz⟩:=I.tuple hq;obtain⟨f0,f1,f2,f3,f4,f5⟩:=hf it (by simp);have hl:=rv.length;exact wpAny_pyNext_tuple_end (I.ok.hd hc) st (show s.heap.IsTuple a its.toArray from p) (by simp;omega) λh' eb=>⟨rfl,I.turned (t':=s.toks) (λb o hb e=>eb b o hb e) f0 f1 f3 f4 f5⟩
 self:=λ_ _ _ _ _ st h=>wpAny_pyIter_tupleiter st h
theorem qb8{P:Program}{w:World}{K:FrG}{tg:Expr}(it:Addr)(lo:Int)(n:Nat):Turn P w K tg (Itr lo n) [it] it (λi h=>IsRangeIter h it (lo+(i:Nat)*1) ((n:Int)-(i:Nat)) 1) where
 mem:=by simp
 obj:=λi h st b hb=>by
  have e:b=it:=by simpa using hb
  subst e;exact⟨_,st,λv z=>by have z':Data.fields _=Data.cell v:=z;cases z'⟩
 keep:=λi h h' st k=>k it (by simp) _ st
 item:=by intro X hP hw hK hc i z6 s σ H E I hf st hg;subst hP hw hK;obtain⟨f0,f1,f2,f3,f4,f5⟩:=hf it (by simp);have W:=Walks.range (prog:=X.prog) (w:=X.w) (I.ok.hd hc) it lo 1 n;refine W.item i s _ _ hg st λv h' tk hv st' kk=>?_;obtain⟨t,rfl⟩:=hv;have I1:Inv X z6 σ H {s with heap:=h',toks:=tk}:=I.turned (λb o hb e=>kk b o (by simpa using hb) e) f0 f1 f3 f4 f5;refine⟨_,rfl,qh2 (s:={s with heap:=h',toks:=tk}) (n:="range_iterator") st' rfl rfl (by decide) ⟨.int (lo+i),H,I1,⟨t,?_⟩,⟨rfl,rfl⟩,st',λb hb=>(hf b hb).1⟩⟩;rw[Int.mul_one]
 done:=by intro X hP hw hK hc i z6 s σ H E I hf st hg;subst hP hw hK;obtain⟨f0,f1,f2,f3,f4,f5⟩:=hf it (by simp);exact wpAny_pyNext_range_end (I.ok.hd hc) st (by have:n<=i:=hg;omega) λh' eb=>⟨rfl,I.turned (t':=s.toks) (λb o hb e=>eb b o hb e) f0 f1 f3 f4 f5⟩
 self:=λ_ _ _ _ _ st h=>wpAny_pyIter_rangeiter st h
section
variable{X:Cx}{tg:Expr}
def qkt(K:FrG)(tl:TE):TI:=λσ H R=>tl σ H λx H1=>∃a,x=.ref a/\(∃xs,SqL K H1 a xs)/\R (Itl K a) H1
def iTup(K:FrG)(tl:TE):TI:=λσ H R=>tl σ H λx H1=>∃a,x=.ref a/\(∃xs,SqT K H1 a xs)/\R (Itt K a) H1
theorem qjs{l:Expr}{tl:TE}(hl:PE X l tl):PI X tg l (qkt X.K tl):=by
 intro z6 s σ H R I h;refine thn (hl z6 s σ H _ I h) λv s1 ⟨x,H1,I1,r1,q1⟩=>?_;obtain⟨a,e,⟨xs,hq⟩,q⟩:=q1;subst e;cases r1;obtain⟨its,rv,p,hz⟩:=I1.list hq;refine wpAny_pyIter_list p.isList ?_;refine⟨s1.heap.objs.size,[s1.heap.objs.size],_,_,H1,rfl,I1.kept (t':=s1.toks) λb o e=>je _ e,qcd a _,⟨_,jo _ rfl,rfl,rfl⟩,λb hb=>?_,q⟩;have e:b=s1.heap.objs.size:=by simpa using hb
 subst e;exact I1.fpOk (jf _) (I1.hok.fresh (jf _))
theorem qnb{l:Expr}{tl:TE}(hl:PE X l tl):PI X tg l (iTup X.K tl):=by
 intro z6 s σ H R I h;refine thn (hl z6 s σ H _ I h) λv s1 ⟨x,H1,I1,r1,q1⟩=>?_;obtain⟨a,e,⟨xs,hq⟩,q⟩:=q1;subst e;cases r1;obtain⟨its,rv,p,hz⟩:=I1.tuple hq;refine wpAny_pyIter_tuple (show s1.heap.IsTuple a its.toArray from p) ?_;refine⟨s1.heap.objs.size,[s1.heap.objs.size],_,_,H1,rfl,I1.kept (t':=s1.toks) λb o e=>je _ e,qb7 a _,⟨_,jo _ rfl,rfl,rfl⟩,λb hb=>?_,q⟩;have e:b=s1.heap.objs.size:=by simpa using hb
 subst e;exact I1.fpOk (jf _) (I1.hok.fresh (jf _))
theorem qg6{z6:List (Addr×Obj)}{σ:St}{H:Hp}{s:Shared}{R:It->Hp->Prop}{E:Value->Shared->Prop}{lo hi:Int}{t u v:Tok}{tk:Nat}(I:Inv X z6 σ H s)(h1: -(2^62)<=lo)(h2:lo<2^62)(h3: -(2^62)<=hi)(h4:hi<2^62)
 (q:R (Itr lo (hi-lo).toNat) H):wpAny (model X.prog X.w) X.A (pyIter (.ref s.heap.objs.size)) (PIE X z6 σ tg R) E {s with heap:=s.heap.push {cls:=.type "range",data:=.fields #[.int lo t,.int hi u,.int 1 v]},toks:=tk}:=by
 refine wpAny_pyIter_range (IsRange.new ..) (small_one h1 h2 h3 h4) ?_;have I1:Inv X z6 σ H {s with heap:=s.heap.push {cls:=.type "range",data:=.fields #[.int lo t,.int hi u,.int 1 v]},toks:=tk}:=I.kept λb o e=>je _ e;refine⟨(s.heap.push {cls:=.type "range",data:=.fields #[.int lo t,.int hi u,.int 1 v]}).objs.size,[(s.heap.push {cls:=.type "range",data:=.fields #[.int lo t,.int hi u,.int 1 v]}).objs.size],_,_,H,rfl,
  I1.kept (t':=tk) λb o e=>je _ e,qb8 _ lo (hi-lo).toNat,?_,λb hb=>?_,q⟩
 ·have e1:lo+((0:Nat):Int)*1=lo:=by simp
  have e2:(((hi-lo).toNat:Nat):Int)-((0:Nat):Int)=Builtin.Range.rangeSize lo hi 1:=by rw[rangeSize_one];split<;>omega
  show IsRangeIter _ _ (lo+((0:Nat):Int)*1) ((((hi-lo).toNat:Nat):Int)-((0:Nat):Int)) 1;rw[e1,e2];exact jo _ rfl
 ·have e:b=(s.heap.push {cls:=.type "range",data:=.fields #[.int lo t,.int hi u,.int 1 v]}).objs.size:=by simpa using hb
  subst e;exact I1.fpOk (jf _) (I1.hok.fresh (jf _))
def qbx(ta:TA):TI:=λσ H R=>ta σ H λvs H1=>∃j:Int,vs=[.int j]/\ -(2^62)<=j/\j<2^62/\R (Itr 0 j.toNat) H1
theorem q1m{a:Expr}{ta:TA}{p pos:Pos}(hg:Gl X "range")(hm:X.mg "range"=none)(ha:PA X [a] ta)(hs:starEach [a] X.env=[(false,eval a X.env)]:=by rfl):PI X tg (.Call (.Name "range" p) [a] [] pos) (qbx ta):=by
 intro z6 s σ H R I h;refine Call_ (q48 I hg hm boot_range (PyProof.Rows.callWith_type1 (thn (ha pos z6 s σ H _ I h) λus s1 ⟨vs,H1,I1,r1,q1⟩=>?_) hs rfl));obtain⟨j,e,q1,q2,q⟩:=q1;subst e;cases r1 with
 | cons r rr=>
  cases rr;obtain⟨t,rfl⟩:=r;exact call_range_1 (qg6 I1 (by omega) (by omega) q1 q2 (by simpa using q))
def tFor(wi:TI)(g:TG)(tb:TS):TS:=λD σ H=>wi σ H λJ H1=>∃W:Nat->Nat->St->Hp->Prop,(∃m,W 0 m σ H1)/\∀i m σ H,W i m σ H->
 (J.stop i H/\D.nx σ H)∨(J.go i H/\∃N:St->Hp->Prop,(∀σ' H',N σ' H'->∃m',m'<m/\W (i+1) m' σ' H')/\∀x H',J.yld i H x H'->g x σ H' λσ2 H2=>tb {D with nx:=N,ct:=N,bk:=D.nx} σ2 H2)
def q70(fp:List Addr)(h:Heap):List (Addr×Obj):=fp.filterMap λb=>(h.get? b).map λo=>(b,o)
theorem q38{fp:List Addr}{h:Heap}{b:Addr}{o:Obj}(hb:b∈fp)(e:h.get? b=some o):(b,o)∈q70 fp h:=List.mem_filterMap.mpr ⟨b,hb,by rw[e];rfl⟩
theorem qdw{fp:List Addr}{h:Heap}{p:Addr×Obj}(hp:p∈q70 fp h):p.1∈fp/\h.get? p.1=some p.2:=by
 obtain⟨b,hb,e⟩:=List.mem_filterMap.mp hp;cases q:h.get? b with
 |none=>rw[q]at e;cases e
 | some o=>
  rw[q]at e;have e':(b,o)=p:=jh e;subst e';exact⟨hb,q⟩
theorem Inv.pinned{z6:List (Addr×Obj)}{σ:St}{H:Hp}{s:Shared}{fp:List Addr}(I:Inv X z6 σ H s)(hf:∀b∈fp,FpOk X z6 H b)(ho:∀b∈fp,∃o,s.heap.get? b=some o/\∀v,o.data≠.cell v):Inv X (z6++q70 fp s.heap) σ H s:=
 I.pins_of λp hp=>(List.mem_append.mp hp).elim (λz=>I.pin p (jw _ z)) λz=>by obtain⟨hb,e⟩:=qdw z;obtain⟨f0,f1,f2,_⟩:=hf p.1 hb;obtain⟨o,e',d⟩:=ho p.1 hb;rw[e]at e';cases e';exact⟨e,f0,f1,f2,d⟩
theorem Inv.unpinned{z6 pl:List (Addr×Obj)}{σ:St}{H:Hp}{s:Shared}(I:Inv X (z6++pl) σ H s):Inv X z6 σ H s:=I.pins_of λp hp=>I.pin p (jw _ (List.mem_append_left _ hp))
theorem q3a{ze:Expr}{body:List Stmt}{wi:TI}{g:TG}{tb:TS}{pos:Pos}(hp:PassesOwn (model X.prog X.w) X.A X.env X.xe)(hc:X.calm=true)(hi:PI X tg ze wi)(hg:PG X tg g)(hb:PSs X body tb)
 (hs:∀x,foldedSetIterable ze X.env x=pure x:=by intro _;rfl):PS X (.For tg ze body [] pos) (tFor wi g tb):=by
 intro z6 s σ H D I h;refine wpAny_For (thn (hi z6 s σ H _ I h) λv s1 h1=>thn h1 λitv s2 h2=>?_) hs;obtain⟨it,fp,tn,J,H2,e,I2,T,st2,f2,W,⟨m0,w0⟩,zr⟩:=h2;subst e
 -- what stays true of the iterator's objects through the loop
 have stat:∀{H':Hp},(∀b∈fp,H' b=none)->∀b∈fp,FpOk X z6 H' b:=λhn b hb=>⟨hn b hb,(f2 b hb).2⟩;refine codeAny_forLoop_any (λn s'=>∃i σ' H',Inv X z6 σ' H' s'/\tn i s'.heap/\(∀b∈fp,H' b=none)/\W i n σ' H') ?_ m0 ⟨0,σ,H2,I2,st2,λb hb=>(f2 b hb).1,w0⟩;rintro n s3 ⟨i,σ3,H3,I3,st3,fr3,w3⟩;rcases zr i n σ3 H3 w3 with⟨stop,qn⟩|⟨go,N,hN,step⟩
 ·refine k9 hp (thn (T.done X rfl rfl rfl hc i z6 s3 σ3 H3 X.xe I3 (stat fr3) st3 stop) λr s4 ⟨hr,I4⟩=>?_);subst hr;exact kf ⟨σ3,H3,I4,qn⟩
 ·refine k9 hp (thn (T.item X rfl rfl rfl hc i z6 s3 σ3 H3 X.xe I3 (stat fr3) st3 go) λr s4 ⟨u,hr,h4⟩=>?_);subst hr;refine k9 hp (thn h4 λ_ s5 ⟨x,H5,I5,r5,y5,st5,fr5⟩=>?_);have I5':=I5.pinned (stat fr5) (T.obj _ _ st5);refine k9 hp (thn (hg _ s5 σ3 H5 x u _ I5' r5 (step x H5 y5)) λ_ s6 ⟨σ6,H6,I6,q6⟩=>?_);refine k9 hp (thn (hb _ s6 σ6 H6 _ I6 q6) λf s7 q7=>?_);have again:∀{σ7:St} {H7:Hp},Inv X (z6++q70 fp s5.heap) σ7 H7 s7->N σ7 H7->∃m,m<n/\∃i σ' H',Inv X z6 σ' H' s7/\tn i s7.heap/\(∀b∈fp,H' b=none)/\W i m σ' H':=λ{σ7 H7} I7 n7=>by
   obtain⟨m',hm,w7⟩:=hN σ7 H7 n7;refine⟨m',hm,i+1,σ7,H7,I7.unpinned,T.keep _ _ _ st5 λb hb o e=>(I7.pin (b,o) (jw _ (jw _ (q38 hb e)))).1,λb hb=>?_,w7⟩;obtain⟨o,e,d⟩:=T.obj _ _ st5 b hb;exact(I7.pin (b,o) (jw _ (jw _ (q38 hb e)))).2.1
  cases f with
  |next=>obtain⟨σ7,H7,I7,n7⟩:=q7;exact again I7 n7
  |cont=>obtain⟨σ7,H7,I7,n7⟩:=q7;exact again I7 n7
  |brk=>obtain⟨σ7,H7,I7,q7⟩:=q7;exact⟨σ7,H7,I7.unpinned,q7⟩
  |ret v=>obtain⟨x7,σ7,H7,I7,r7,q7⟩:=q7;exact⟨x7,σ7,H7,I7.unpinned,r7,q7⟩
end
abbrev R2:=V->V->Hp->VK->Prop
def OpR(X:Cx)(f:Value->Value->Sem Value)(r:R2):Prop:=
 ∀(z6:List (Addr×Obj)) (s:Shared) (σ:St) (H:Hp) (x y:V) (v u:Value) (Q:VK),Inv X z6 σ H s->RelV x v->RelV y u->r x y H Q->
   wpAny (model X.prog X.w) X.A (f v u) (EP X z6 σ Q) X.xe s
def UnR(X:Cx)(f:Value->Sem Value)(r:V->Hp->VK->Prop):Prop:=
 ∀(z6:List (Addr×Obj)) (s:Shared) (σ:St) (H:Hp) (x:V) (v:Value) (Q:VK),Inv X z6 σ H s->RelV x v->r x H Q->
   wpAny (model X.prog X.w) X.A (f v) (EP X z6 σ Q) X.xe s
def q5j(X:Cx)(f:Value)(r:List V->Hp->VK->Prop):Prop:=
 ∀(z6:List (Addr×Obj)) (s:Shared) (σ:St) (H:Hp) (xs:List V) (us:List Value) (Q:VK),Inv X z6 σ H s->Vals xs us->r xs H Q->
   wpAny (model X.prog X.w) X.A (call f us) (EP X z6 σ Q) X.xe s
def tOp(r:R2)(ta tb:TE):TE:=λσ H Q=>ta σ H λx H1=>tb σ H1 λy H2=>r x y H2 Q
def tUn(r:V->Hp->VK->Prop)(ta:TE):TE:=λσ H Q=>ta σ H λx H1=>r x H1 Q
def rI(C:Int->Int->Prop)(g:Int->Int->V):R2:=λx y H Q=>∃i j,x=.int i/\y=.int j/\C i j/\Q (g i j) H
def rI0(g:Int->Int->V):R2:=λx y H Q=>∃i j,x=.int i/\y=.int j/\Q (g i j) H
def rU(g:Int->V):V->Hp->VK->Prop:=λx H Q=>∃i,x=.int i/\Q (g i) H
section
variable{X:Cx}{a b c:Expr}{ta tb tc:TE}{pos:Pos}
theorem binT(ha:PE X a ta)(hb:PE X b tb){z6:List (Addr×Obj)}{s:Shared}{σ:St}{H:Hp}{R:V->V->Hp->Prop}(I:Inv X z6 σ H s)
 (h:ta σ H λx H1=>tb σ H1 λy H2=>R x y H2) {Q:Value->Shared->Prop} {f:Value->Value->Sem Value}
 (hf:∀v u s2 x y H2,Inv X z6 σ H2 s2->RelV x v->RelV y u->R x y H2->wpAny (model X.prog X.w) X.A (f v u) Q X.xe s2):
 wpAny (model X.prog X.w) X.A (eval a X.env) (λv s₁=>wpAny (model X.prog X.w) X.A (eval b X.env) (λu s₂=>wpAny (model X.prog X.w) X.A (f v u) Q X.xe s₂) X.xe s₁) X.xe s:=by
 refine thn (ha z6 s σ H _ I h) λv s1 ⟨x,H1,I1,r1,q1⟩=>?_;refine thn (hb z6 s1 σ H1 _ I1 q1) λu s2 ⟨y,H2,I2,r2,q2⟩=>?_;exact hf v u s2 x y H2 I2 r1 r2 q2
theorem q0x{op:Operator}{r:R2}(ho:OpR X (binaryOp op) r)(ha:PE X a ta)(hb:PE X b tb):PE X (.BinOp a op b pos) (tOp r ta tb):=by intro z6 s σ H Q I h;exact wpAny_BinOp (binT ha hb I h λv u s2 x y H2 I2 rx ry q=>ho z6 s2 σ H2 x y v u Q I2 rx ry q)
theorem qju{op:UnaryOp}{r:V->Hp->VK->Prop}(ho:UnR X (unaryOp op) r)(ha:PE X a ta):PE X (.UnaryOp op a pos) (tUn r ta):=by intro z6 s σ H Q I h;exact UnaryOp_ (thn (ha z6 s σ H _ I h) λv s1 ⟨x,H1,I1,r1,q1⟩=>ho z6 s1 σ H1 x v Q I1 r1 q1)
theorem opI{f:Value->Value->Sem Value}{C:Int->Int->Prop}{g:Int->Int->Int}
 (rule:∀(i j:Int) (t u:Tok) (s:Shared) (Q:Value->Shared->Prop) (E:Value->Shared->Prop),C i j->Q (.int (g i j) s.toks) {s with toks:=s.toks+1}->wpAny (model X.prog X.w) X.A (f (.int i t) (.int j u)) Q E s):
 OpR X f (rI C λi j=>.int (g i j)):=by
 intro z6 s σ H x y v u Q I rx ry h;obtain⟨i,j,rfl,rfl,hc,q⟩:=h;obtain⟨t,rfl⟩:=rx;obtain⟨t',rfl⟩:=ry;exact rule i j t t' s _ _ hc ⟨.int (g i j),H,I.tok _,⟨_,rfl⟩,q⟩
theorem opI0{f:Value->Value->Sem Value}{g:Int->Int->Int}
 (rule:∀(i j:Int) (t u:Tok) (s:Shared) (Q:Value->Shared->Prop) (E:Value->Shared->Prop),Q (.int (g i j) s.toks) {s with toks:=s.toks+1}->wpAny (model X.prog X.w) X.A (f (.int i t) (.int j u)) Q E s):
 OpR X f (rI0 λi j=>.int (g i j)):=by
 intro z6 s σ H x y v u Q I rx ry h;obtain⟨i,j,rfl,rfl,q⟩:=h;obtain⟨t,rfl⟩:=rx;obtain⟨t',rfl⟩:=ry;exact rule i j t t' s _ _ ⟨.int (g i j),H,I.tok _,⟨_,rfl⟩,q⟩
theorem opB0{f:Value->Value->Sem Value}{g:Int->Int->Bool}
 (rule:∀(i j:Int) (t u:Tok) (s:Shared) (Q:Value->Shared->Prop) (E:Value->Shared->Prop),Q (.bool (g i j)) s->wpAny (model X.prog X.w) X.A (f (.int i t) (.int j u)) Q E s):
 OpR X f (rI0 λi j=>.bl (g i j)):=by
 intro z6 s σ H x y v u Q I rx ry h;obtain⟨i,j,rfl,rfl,q⟩:=h;obtain⟨t,rfl⟩:=rx;obtain⟨t',rfl⟩:=ry;exact rule i j t t' s _ _ ⟨.bl (g i j),H,I,rfl,q⟩
def CDiv(i j:Int):Prop:=0<j/\j<1073741824
def CPow(i j:Int):Prop:=0<=j/\j<=1000000/\i.natAbs<2^64
def CMul(i j:Int):Prop:=(-(2^64)<i/\i<2^64)∨(-(2^64)<j/\j<2^64)
theorem CMul.ok{i j:Int}(h:CMul i j):IntMulOk i j:=by
 rcases h with⟨h1,h2⟩|⟨h1,h2⟩
 ·exact .of_left (intBits_le_64 h1 h2)
 ·exact .of_right (intBits_le_64 h1 h2)
theorem qb6(k:Nat):(0:Int)<=2^k:=by rw[two_pow_cast];exact Int.natCast_nonneg _
theorem op_add:OpR X (binaryOp .Add) (rI0 λi j=>.int (i+j)):=opI0 λ_ _ _ _ _ _ _ q=>add_int q
theorem q62:OpR X (binaryOp .Sub) (rI0 λi j=>.int (i-j)):=opI0 λ_ _ _ _ _ _ _ q=>sub_int q
theorem q9l:OpR X (binaryOp .FloorDiv) (rI CDiv λi j=>.int (i / j)):=opI λi j _ _ _ _ _ hc q=>by have h1:(0:Int)<j:=hc.1;have h2:j<1073741824:=hc.2;exact floordiv_int (by omega) (by rw[Int.fdiv_eq_ediv_of_nonneg i (by omega)];exact q) (.inl (PyProof.noPylong_small (by omega)))
theorem q22:OpR X (binaryOp .Mod) (rI (λ_ j=>0<j) λi j=>.int (i % j)):=opI λi j _ _ _ _ _ hc q=>by have h1:(0:Int)<j:=hc;exact mod_int' (by omega) (by rw[Int.fmod_eq_emod_of_nonneg i (by omega)];exact q)
theorem qih:OpR X (binaryOp .Pow) (rI CPow λi j=>.int (i^j.toNat)):=opI λ_ _ _ _ _ _ _ hc q=>pow_int_small hc.1 hc.2.1 hc.2.2 q
theorem q63:OpR X (binaryOp .LShift) (rI CPow λi j=>.int (i*2^j.toNat)):=opI λ_ _ _ _ _ _ _ hc q=>lshift_int_small hc.1 hc.2.1 hc.2.2 q
theorem qif:OpR X (binaryOp .RShift) (rI (λ_ j=>0<=j) λi j=>.int (i / 2^j.toNat)):=opI λi j _ _ _ _ _ hc q=>
 rshift_int hc (by rw[Int.fdiv_eq_ediv_of_nonneg i (qb6 _)];exact q)
theorem q8i:OpR X (binaryOp .BitAnd) (rI0 λi j=>.int (Builtin.bitAnd i j)):=opI0 λ_ _ _ _ _ _ _ q=>and_int q
theorem qnh:OpR X (binaryOp .BitXor) (rI0 λi j=>.int (Builtin.bitXor i j)):=opI0 λ_ _ _ _ _ _ _ q=>xor_int q
theorem unI{f:Value->Sem Value}{g:Int->Int}
 (rule:∀(i:Int) (t:Tok) (s:Shared) (Q:Value->Shared->Prop) (E:Value->Shared->Prop),Q (.int (g i) s.toks) {s with toks:=s.toks+1}->wpAny (model X.prog X.w) X.A (f (.int i t)) Q E s):
 UnR X f (rU λi=>.int (g i)):=by
 intro z6 s σ H x v Q I rx h;obtain⟨i,rfl,q⟩:=h;obtain⟨t,rfl⟩:=rx;exact rule i t s _ _ ⟨.int (g i),H,I.tok _,⟨_,rfl⟩,q⟩
theorem qcb:UnR X (unaryOp .USub) (rU λi=>.int (-i)):=unI λ_ _ _ _ _ q=>neg_int q
end
section
variable{X:Cx}{a b c:Expr}{ta tb tc:TE}{pos:Pos}
theorem qj1{z6:List (Addr×Obj)}{σ:St}{H:Hp}{s:Shared}{Q:VK}{k k':Bool}(I:Inv X z6 σ H s)(q:Q (.bl k) H)(e:k=k'):EP X z6 σ Q (.bool k') s:=by subst e;exact⟨.bl k,H,I,rfl,q⟩
theorem q9k:OpR X (compareOp .Lt) (rI0 λi j=>.bl (decide (i<j))):=opB0 λ_ _ _ _ _ _ _ q=>lt_int q
theorem qr1:OpR X (compareOp .Gt) (rI0 λi j=>.bl (decide (j<i))):=opB0 λ_ _ _ _ _ _ _ q=>gt_int q
theorem qii:OpR X (compareOp .Is) (λx y H Q=>y=.non/\Q (.bl (decide (x=.non))) H):=by
 intro z6 s σ H x y v u Q I rx ry h;obtain⟨rfl,q⟩:=h;cases ry;refine is_none_gen (qj1 I q ?_);cases x<;>first
  |(cases rx;rfl)
  |(obtain⟨t,rfl⟩:=rx;rfl)
theorem q9j:OpR X (compareOp .IsNot) (λx y H Q=>y=.non/\Q (.bl (!decide (x=.non))) H):=by
 intro z6 s σ H x y v u Q I rx ry h;obtain⟨rfl,q⟩:=h;cases ry;refine isnot_none_gen (qj1 I q ?_);cases x<;>first
  |(cases rx;rfl)
  |(obtain⟨t,rfl⟩:=rx;rfl)
theorem OpR.or{f:Value->Value->Sem Value}{r r':R2}(h:OpR X f r)(h':OpR X f r'):OpR X f (λx y H Q=>r x y H Q∨r' x y H Q):=by
 intro z6 s σ H x y v u Q I rx ry q;rcases q with q|q
 ·exact h z6 s σ H x y v u Q I rx ry q
 ·exact h' z6 s σ H x y v u Q I rx ry q
theorem q16(b:Expr){op:CmpOp}(h:op≠.In:=by decide)(h2:op≠.NotIn:=by decide):behindInMarks op b=false:=by
 have e1:(op==CmpOp.In)=false:=by cases op<;>first|rfl|exact absurd rfl h
 have e2:(op==CmpOp.NotIn)=false:=by cases op<;>first|rfl|exact absurd rfl h2
 cases b<;>simp[behindInMarks,e1,e2]
theorem q60{op:CmpOp}{r:R2}(ho:OpR X (compareOp op) r)(ha:PE X a ta)(hb:PE X b tb)(hm:behindInMarks op b=false):PE X (.Compare a [op] [b] pos) (tOp r ta tb):=by intro z6 s σ H Q I h;exact wpAny_Compare1 (binT ha hb I h λv u s2 x y H2 I2 rx ry q=>ho z6 s2 σ H2 x y v u Q I2 rx ry q) hm
def qm9(t:TE):TT:=λσ H Q=>t σ H λx H'=>∃k,x=.bl k/\Q k H'
theorem q0y{op:CmpOp}{r:R2}(ho:OpR X (compareOp op) r)(ha:PE X a ta)(hb:PE X b tb)(hm:behindInMarks op b=false):PT X (.Compare a [op] [b] pos) (qm9 (tOp r ta tb)):=by
 intro z6 s σ H Q I h;refine wpAny_isTrue_Compare1 (thn (ha z6 s σ H _ I h) λv s1 ⟨x,H1,I1,r1,q1⟩=>thn (hb z6 s1 σ H1 _ I1 q1) λu s2 ⟨y,H2,I2,r2,q2⟩=>
  thn (ho z6 s2 σ H2 x y v u _ I2 r1 r2 q2) λc s3 ⟨z,H3,I3,r3,k,e,q3⟩=>?_) hm
 subst e;cases r3;exact wpAny_truthy_bool ⟨H3,I3,q3⟩
theorem qao:(sizeLine:Nat)<2^63:=by rw[sizeLine_eq];decide
theorem qbr:OpR X (binaryOp .Add) (λx y H Q=>∃i j,x=.str i/\y=.str j/\i.length+j.length<=sizeLine/\Q (.str (i++j)) H):=by intro z6 s σ H x y v u Q I rx ry h;obtain⟨i,j,rfl,rfl,hz,q⟩:=h;obtain⟨t,rfl⟩:=rx;obtain⟨t',rfl⟩:=ry;exact add_str (λt' tk=>⟨.str (i++j),H,I.tok _,⟨_,rfl⟩,q⟩) hz
theorem vals1{x:V}{us:List Value}(r:Vals [x] us):∃u,us=[u]/\RelV x u:=by
 cases r with
 |cons r1 r2=>cases r2;exact⟨_,rfl,r1⟩
theorem vals2{x y:V}{us:List Value}(r:Vals [x,y] us):∃u w',us=[u,w']/\RelV x u/\RelV y w':=by
 cases r with
 | cons r1 r2=>
  cases r2 with
  |cons r3 r4=>cases r4;exact⟨_,_,rfl,r1,r3⟩
theorem q51:q5j X (.type "int") (λxs H Q=>(∃i,xs=[.int i]/\Q (.int i) H)∨∃k,xs=[.bl k]/\Q (.int (if k then 1 else 0)) H):=by
 intro z6 s σ H xs us Q I r h;rcases h with⟨i,rfl,q⟩|⟨k,rfl,q⟩
 ·obtain⟨u,rfl,t,rfl⟩:=vals1 r;exact call_int_int ⟨.int i,H,I,⟨_,rfl⟩,q⟩
 ·obtain⟨u,rfl,r1⟩:=vals1 r;cases r1;exact call_int_bool ⟨.int (if k then 1 else 0),H,I.tok _,⟨_,rfl⟩,q⟩
end
structure ObjM(h:Heap)(x dx C:Addr)(mA:Str->Option Value):Prop where
 obj:h.get? x=some (PySem.W.instObj C dx)
 ns:h.Ns1 dx mA
 ne:dx≠x
theorem qeg{h:Heap}{dx:Addr}{mA:Str->Option Value}(n:h.Ns1 dx mA):∃od,h.get? dx=some od/\∀name,PySem.W.lookIn name od=some (mA name):=by
 obtain⟨o,es,ep,ho,hd,hk,_,hm⟩:=n;refine⟨o,ho,λname=>?_⟩;have e:=hm name;unfold nsFind findBy at e;rw[<-Array.find?_toList]at e;unfold PySem.W.lookIn;rw[hd];dsimp only;split
 ·rename_i y q;rw[q]at e;exact congrArg some e
 ·rename_i q;rw[q]at e;have a:es.toList.any (·.refKey)=false:=by
   rw[List.any_eq_false];intro y hy;obtain⟨z,t,hkey⟩:=hk y (Array.mem_toList_iff.mp hy);simp[DictEntry.refKey,hkey]
  have a':¬es.toList.any (·.refKey)=true:=by rw[a];exact Bool.false_ne_true
  rw[if_neg a'];exact congrArg some e
theorem ObjM.look{h:Heap}{x dx C:Addr}{mA:Str->Option Value}(I:ObjM h x dx C mA):∃od,PySem.W.InstAt h x (PySem.W.instObj C dx) C (some od)/\∀name,PySem.W.lookIn name od=some (mA name):=
 let ⟨od,ho,hl⟩:=qeg I.ns
 ⟨od,⟨I.obj,rfl,rfl,ho⟩,hl⟩
section
variable{prog:Program}{w:World}{A:Around}{E:Value->Shared->Prop}{s:Shared}{K:FrG}{x dx C f:Addr}{mA:Str->Option Value}{name:Str}{v:Value}
theorem get_map{expr:Bool}{Q:Value->Shared->Prop}(X:K.In s.heap)(I:ObjM s.heap x dx C mA)(hg:PySem.W.plainGet K C name=true)(hh:PySem.W.hasDictIn K C=true)
 (ha:PySem.W.findIn K (.ref C) name=some none) (hv:mA name=some v) (hv':PySem.W.handedIn v=true) (h:Q v {s with toks:=s.toks+1}):
 wpAny (model prog w) A (getAttr (.ref x) name expr) Q E s:=by
 obtain⟨od,J,hl⟩:=I.look;exact PySem.W.get_value X J (PySem.W.plainGet_of hg).1 (PySem.W.findObj_own hh ha rfl (by rw[hl,hv])) hv' h
theorem qh3{pl:Sem Bool}{Q:Value×List Value->Shared->Prop}(X:K.In s.heap)(I:ObjM s.heap x dx C mA)(hg:PySem.W.plainGet K C name=true)
 (hf:PySem.W.findIn K (.ref C) name=some (some (.ref f))) (ht:PySem.W.isFn K (.ref f)=true) (hv:mA name=none) (h:Q (.ref f,[.ref x]) s):
 wpAny (model prog w) A (getMethod (.ref x) name pl) Q E s:=by
 obtain⟨od,J,hl⟩:=I.look;exact PySem.W.method_fn X J (PySem.W.plainGet_of hg).1 (PySem.W.plainGet_of hg).2 hf (beq_iff_eq.mp ht) (by show(PySem.W.lookIn name od).map (·.isSome)=some false;rw[hl,hv];rfl) h
theorem qji{ns:List Str}{Q:Unit->Shared->Prop}(X:K.In s.heap)(I:ObjM s.heap x dx C mA)
 (hs:PySem.W.findIn K (.ref C) "__setattr__"=some (some (.builtin "object.__setattr__"))) (hp:PySem.W.plainOver K C=true) (ht:PySem.W.takerIn K C name=some none) (hh:PySem.W.hasDictIn K C=true)
 (hw:PySem.Within mA ns) (hsz:ns.length<=sizeLine)
 (h:∀h',ObjM h' x dx C (λy=>if y=name then some v else mA y)->Heap.SameBut dx s.heap h'->Q () {s with heap:=h',toks:=s.toks+2}):
 wpAny (model prog w) A (setAttr (.ref x) name v) Q E s:=by
 obtain⟨od,J,hl⟩:=I.look;refine PySem.W.set_plain X J hs (PySem.W.osa_open (s:={s with toks:=s.toks+1}) (r:=none) X J hp ht λb=>?_);obtain⟨cd,hc,hd'⟩:=PySem.W.any_some hh;have hx:s.heap.get? x=some ⟨.ref C,some dx,.plain,#[]⟩:=I.obj;refine ja (jc (ja (ja (wpAny_loadPart hx (ja (PySem.W.Looks.here (s:={s with toks:=s.toks+1}) (PySem.W.looks_clsIn X hc) ?_))))));rw[hd'];refine jc (a:=some dx) (ja (jc (ja ?_)));refine wpAny_nsSet1 (s:={s with toks:=s.toks+1}) I.ns λh' hn2 hs2=>?_;obtain⟨oD,esD,epD,hoD,hdD,hcD⟩:=hn2.count (PySem.Within.cons name v hw);refine ja (wpAny_lookBehind hoD (by rw[hdD];exact pastItsLine_dict (ju hcD (by rw[jr];omega))) ?_);exact jc (h _ ⟨(hs2.2 _ (Ne.symm I.ne)).trans I.obj,hn2,I.ne⟩ hs2)
theorem qgu{R:Result->Shared->Prop}{vs:List Value}{kw:List (Str×Value)}(X:K.In s.heap)(hm:PySem.W.makesIn K C=true)
 (hi:PySem.W.findIn K (.ref C) "__init__"=some (some (.ref f))) (hf:PySem.W.typeIn K (.ref f)=some (.type "function"))
 (h:codeAny (model prog w) (A.under (.builtin "type.__call__" ⟨.ref C::vs,kw⟩)) (.call (.ref f) ⟨.ref (s.heap.objs.size+1)::vs,kw⟩) (PySem.W.InitBack (s.heap.objs.size+1) R)
   {s with heap:=(s.heap.push PySem.W.emptyDict).push (PySem.W.instObj C s.heap.objs.size)}):
 codeAny (model prog w) A (.call (.ref C) ⟨vs,kw⟩) R s:=by
 obtain⟨hh,g,d,t,os⟩:=s;exact PySem.W.make_core (PySem.W.makes_of X hm) (PySem.W.looks_findIn X hi) (λself=>PySem.W.bind_fn X self hf) (.inl rfl) h
theorem qe8{R:Result->Shared->Prop}(X:K.In s.heap)(hm:PySem.W.makesIn K C=true)
 (hi:PySem.W.findIn K (.ref C) "__init__"=some (some (.builtin "object.__init__")))
 (hb:∀self,PySem.W.Looks (model prog w) s.heap (bindSpecial (.builtin "object.__init__") self) (.builtin "object.__init__",[self]))
 (h:codeAny (model prog w) (A.under (.builtin "type.__call__" ⟨[.ref C],[]⟩)) (.call (.builtin "object.__init__") ⟨[.ref (s.heap.objs.size+1)],[]⟩) (PySem.W.InitBack (s.heap.objs.size+1) R)
   {s with heap:=(s.heap.push PySem.W.emptyDict).push (PySem.W.instObj C s.heap.objs.size)}):
 codeAny (model prog w) A (.call (.ref C) ⟨[],[]⟩) R s:=by
 obtain⟨hh,g,d,t,os⟩:=s;exact PySem.W.make_core (PySem.W.makes_of X hm) (PySem.W.looks_findIn X hi) hb (.inr ⟨rfl,rfl⟩) h
end
def putF(f:Str)(v:V):List (Str×V)->List (Str×V)
 |[]=>[(f,v)]
 |(g,x)::r=>if g=f then(g,v)::r else(g,x)::putF f v r
theorem q6e(f g:Str)(v:V):∀fs:List (Str×V),(putF f v fs).lookup g=if g=f then some v else fs.lookup g
 | []=>by
  show List.lookup g [(f,v)]=_;by_cases h:g=f
  ·have hb:(g==f)=true:=beq_iff_eq.mpr h;simp only[List.lookup,hb,if_pos h]
  ·have hb:(g==f)=false:=beq_eq_false_iff_ne.mpr h;simp only[List.lookup,hb,if_neg h]
 | (k,x)::r=>by
  have ih:=q6e f g v r;rw[show putF f v ((k,x)::r)=(if k=f then(k,v)::r else(k,x)::putF f v r)from rfl];by_cases hk:k=f
  ·rw[if_pos hk];by_cases h:g=k
   ·have hb:(g==k)=true:=beq_iff_eq.mpr h;simp only[List.lookup,hb,if_pos (h.trans hk)]
   ·have hb:(g==k)=false:=beq_eq_false_iff_ne.mpr h;simp only[List.lookup,hb,if_neg (λe:g=f=>h (e.trans hk.symm))]
  ·rw[if_neg hk];by_cases h:g=k
   ·have hb:(g==k)=true:=beq_iff_eq.mpr h;simp only[List.lookup,hb,if_neg (λe:g=f=>hk (h.symm.trans e))]
   ·have hb:(g==k)=false:=beq_eq_false_iff_ne.mpr h;simp only[List.lookup,hb];exact ih
theorem q6g(f:Str)(v:V):∀fs:List (Str×V),f∈(putF f v fs).map (·.1)/\∀g,g∈fs.map (·.1)->g∈(putF f v fs).map (·.1)
 |[]=>⟨by simp[putF],λg h=>by simp at h⟩
 | (k,x)::r=>by
  obtain⟨i1,i2⟩:=q6g f v r;rw[show putF f v ((k,x)::r)=(if k=f then(k,v)::r else(k,x)::putF f v r)from rfl];by_cases hk:k=f
  ·rw[if_pos hk];subst hk;exact⟨by simp,λg h=>by simpa using h⟩
  ·rw[if_neg hk];refine⟨?_,λg h=>?_⟩
   ·rw[xh];exact jg _ i1
   ·rw[xh]at h ⊢;rcases List.mem_cons.mp h with e|e
    ·exact List.mem_cons.mpr (.inl e)
    ·exact jg _ (i2 g e)
theorem q6f(f:Str)(v:V):∀fs:List (Str×V),(putF f v fs).length<=fs.length+1
 |[]=>by simp[putF]
 | (k,x)::r=>by
  have ih:=q6f f v r;rw[show putF f v ((k,x)::r)=(if k=f then(k,v)::r else(k,x)::putF f v r)from rfl];by_cases hk:k=f
  ·rw[if_pos hk,jr,jr];omega
  ·rw[if_neg hk,jr,jr];omega
theorem RelO.some_of{v:V}{o:Option Value}(r:RelO (some v) o):∃u,o=some u/\RelV v u:=by
 cases o with
 |none=>exact(show False from r).elim
 |some u=>exact⟨u,rfl,r⟩
theorem RelO.none_of{o:Option Value}(r:RelO none o):o=none:=by
 cases o with
 |none=>rfl
 |some u=>exact(show False from r).elim
theorem qen{v:V}{u:Value}(r:RelV v u):PySem.W.handedIn u=true:=by
 cases v with
 |non=>cases(show u=Value.none from r);rfl
 |bl b=>cases(show u=Value.bool b from r);rfl
 |int i=>obtain⟨t,e⟩:=(show∃t,u=Value.int i t from r);cases e;rfl
 |str x=>obtain⟨t,e⟩:=(show∃t,u=Value.str x t from r);cases e;rfl
 |byt b=>obtain⟨t,e⟩:=(show∃t,u=Value.bytes b t from r);cases e;rfl
 |flt b=>obtain⟨t,e⟩:=(show∃t,u=Value.float b t from r);cases e;rfl
 |ref a=>cases(show u=Value.ref a from r);rfl
 |ty n=>cases(show u=Value.type n from r);rfl
section
variable{P:Program}{w:World}{H H':Hp}{h h':Heap}{a C dx:Addr}{fs fs':List (Str×V)}
theorem q7t(hok:HOk P w H h)(e:H a=some (.ins C dx fs)):∃mA,ObjM h a dx C mA/\(∀f,RelO (fs.lookup f) (mA f))/\PySem.Within mA (fs.map (·.1))/\fs.length<=1000/\H dx=some (.own a):=by obtain⟨d,z,ne,ob,mA,n,r,q⟩:=(show ObjOk P w H h a (.ins C dx fs)from hok a _ e);exact⟨mA,⟨ob,n,ne⟩,r,q,z,d⟩
end
structure Cls(K:FrG)(C:Addr):Prop where
 pg:PySem.W.plainGet K C Str.empty=true
 hd:PySem.W.hasDictIn K C=true
 po:PySem.W.plainOver K C=true
 sa:PySem.W.findIn K (.ref C) "__setattr__"=some (some (.builtin "object.__setattr__"))
theorem Cls.get{K:FrG}{C:Addr}(c:Cls K C)(f:Str):PySem.W.plainGet K C f=true:=c.pg
def NoAttr(K:FrG)(C:Addr)(f:Str):Prop:=PySem.W.findIn K (.ref C) f=some none
theorem NoAttr.taker{K:FrG}{C:Addr}{f:Str}(n:NoAttr K C f):PySem.W.takerIn K C f=some none:=by unfold PySem.W.takerIn;rw[show PySem.W.findIn K (.ref C) f=some none from n];rfl
structure Meth(K:FrG)(C:Addr)(m:Str)(f:Addr):Prop where
 at_:PySem.W.findIn K (.ref C) m=some (some (.ref f))
 fn:PySem.W.isFn K (.ref f)=true
 kp:PySem.W.keepIn K (.ref f)=true
section
variable{X:Cx}{z6:List (Addr×Obj)}{σ:St}{H:Hp}{s:Shared}{a C dx:Addr}{fs:List (Str×V)}{f:Str}{v:V}{A:Around}{E:Value->Shared->Prop}
theorem qbz{b:Bool}{Q:Value->Shared->Prop}(I:Inv X z6 σ H s)(e:H a=some (.ins C dx fs))(c:Cls X.K C)(n:NoAttr X.K C f)(l:fs.lookup f=some v)
 (h:∀u s',Inv X z6 σ H s'->RelV v u->Q u s'):wpAny (model X.prog X.w) A (getAttr (.ref a) f b) Q E s:=by
 obtain⟨mA,O,r,_,_,_⟩:=q7t I.hok e;obtain⟨u,hu,ru⟩:=RelO.some_of (v:=v) (o:=mA f) (by rw[<-l];exact r f);exact get_map I.kIn O (c.get f) c.hd n hu (qen ru) (h u _ (I.tok _) ru)
theorem qby{m:Str}{g:Addr}{pl:Sem Bool}{Q:Value×List Value->Shared->Prop}(I:Inv X z6 σ H s)(e:H a=some (.ins C dx fs))(c:Cls X.K C)(k:Meth X.K C m g)(l:fs.lookup m=none)
 (h:Q (.ref g,[.ref a]) s):wpAny (model X.prog X.w) A (getMethod (.ref a) m pl) Q E s:=by
 obtain⟨mA,O,r,_,_,_⟩:=q7t I.hok e;have hn:mA m=none:=RelO.none_of (by rw[<-l];exact r m);exact qh3 I.kIn O (c.get m) k.at_ k.fn hn h
theorem qba{y:V}{u:Value}{Q:Unit->Shared->Prop}(I:Inv X z6 σ H s)(e:H a=some (.ins C dx fs))(c:Cls X.K C)(n:NoAttr X.K C f)(hl:fs.length<1000)(ry:RelV y u)
 (h:∀s',Inv X z6 σ (upd H a (.ins C dx (putF f y fs))) s'->Q () s'):wpAny (model X.prog X.w) A (setAttr (.ref a) f u) Q E s:=by
 obtain⟨mA,O,r,wi,_,ho⟩:=q7t I.hok e;have hz:(fs.map (·.1)).length<=sizeLine:=by rw[jb,sizeLine_eq];omega
 refine qji I.kIn O c.sa c.po n.taker c.hd wi hz λh' O' sb=>h _ ?_;have hd:∃o,h'.get? dx=some o:=let ⟨o,_,_,e',_⟩:=O'.ns;⟨o,e'⟩
 refine I.write (x:=a) (e:=dx) (by rw[e];exact True.intro) (.inr ho) (λb q hb z=>(sb.2 b hb).trans z) hd ?_;refine⟨by rw[q0i O.ne];exact ho,?_,O.ne,O'.obj,_,O'.ns,λg=>?_,λg hg=>?_⟩
 ·have:=q6f f y fs;omega
 ·show RelO ((putF f y fs).lookup g) (if g=f then some u else mA g);rw[q6e];by_cases q:g=f
  ·rw[if_pos q,if_pos q];exact ry
  ·rw[if_neg q,if_neg q];exact r g
 ·by_cases q:g=f
  ·rw[q];exact(q6g f y fs).1
  ·refine(q6g f y fs).2 g (wi g λz=>hg ?_);show(if g=f then some u else mA g)=none;rw[if_neg q];exact z
theorem Inv.made(I:Inv X z6 σ H s):Inv X z6 σ (upd (upd H s.heap.objs.size (.own (s.heap.objs.size+1))) (s.heap.objs.size+1) (.ins C s.heap.objs.size []))
 {s with heap:=(s.heap.push PySem.W.emptyDict).push (PySem.W.instObj C s.heap.objs.size)}:=by
 have e1:(s.heap.push PySem.W.emptyDict).get? s.heap.objs.size=some PySem.W.emptyDict:=jo s.heap rfl;have e2:((s.heap.push PySem.W.emptyDict).push (PySem.W.instObj C s.heap.objs.size)).get? (s.heap.objs.size+1)=some (PySem.W.instObj C s.heap.objs.size):=by
  have:=jo (s.heap.push PySem.W.emptyDict) (o:=PySem.W.instObj C s.heap.objs.size) rfl
  rwa [xk]at this
 have e3:(s.heap.push PySem.W.emptyDict).Ns s.heap.objs.size (λ_=>none):=⟨PySem.W.emptyDict,#[],_,e1,rfl,(λe he=>absurd he (by simp)),λ_=>rfl⟩;have I1:=I.laid (a:=s.heap.objs.size) (o:=.own (s.heap.objs.size+1)) (h':=s.heap.push PySem.W.emptyDict) (t':=s.toks) (λb u q=>je _ q) (jf _) ⟨_,e1⟩;refine I1.laid (a:=s.heap.objs.size+1) (o:=.ins C s.heap.objs.size []) (t':=s.toks) (λb u q=>je _ q) (Nat.le_of_eq (xk _ _)) ?_;have ne:s.heap.objs.size≠s.heap.objs.size+1:=jl (Nat.lt_succ_self _);refine⟨by rw[q0i ne,q0m],Nat.zero_le _,ne,e2,λ_=>none,(Heap.Ns1.of_empty e3).at λo q=>je _ q,λ_=>True.intro,λy hy=>absurd rfl hy⟩
theorem qlt{prog:Program}{w:World}{env:Env}{e:Expr}{f:Str}{pos:Pos}{s:Shared}{Q:Value->Shared->Prop}(hb:attributeBase e f env (eval e env)=eval e env)
 (h:wpAny (model prog w) A (eval e env) (λo s₁=>wpAny (model prog w) A (getAttr o f true) Q E s₁) E s):wpAny (model prog w) A (eval (.Attribute e f pos) env) Q E s:=
 Attribute_any_ h (by rw[arm_eval_Attribute,hb])
end
def tFld(K:FrG)(ta:TE)(f:Str):TE:=λσ H Q=>ta σ H λx H1=>∃a C dx fs v,x=.ref a/\H1 a=some (.ins C dx fs)/\Cls K C/\NoAttr K C f/\fs.lookup f=some v/\Q v H1
def sFld(K:FrG)(ta tv:TE)(f:Str):TS:=λD σ H=>tv σ H λy H1=>ta σ H1 λx H2=>∃a C dx fs,x=.ref a/\H2 a=some (.ins C dx fs)/\Cls K C/\NoAttr K C f/\fs.length<1000/\
 D.nx σ (upd H2 a (.ins C dx (putF f y fs)))
section
variable{X:Cx}{o e value:Expr}{f:Str}{pos j4 tpos:Pos}{ta tv:TE}
theorem qne(he:PE X e ta)(hb:attributeBase e f X.env (eval e X.env)=eval e X.env):PE X (.Attribute e f pos) (tFld X.K ta f):=by intro z6 s σ H Q I h;refine qlt hb (thn (he z6 s σ H _ I h) λu s1 ⟨x,H1,I1,rx,a,C,dx,fs,v,ex,ea,c,n,l,q⟩=>?_);subst ex;obtain rfl:u=Value.ref a:=rx;exact qbz I1 ea c n l λu' s2 I2 ru=>⟨v,H1,I2,ru,q⟩
theorem qdg(ha:PE X o ta)(hv:PE X value tv)(hs:swapsWith value (some (.Attribute o f j4)) pos.line X.env=pure false):PS X (.Assign [.Attribute o f j4] value pos) (sFld X.K ta tv f):=by intro z6 s σ H D I h;refine plainObj_wpAny_Assign_Attribute (thn (hv z6 s σ H _ I h) λu s1 ⟨y,H1,I1,ry,q⟩=>thn (ha z6 s1 σ H1 _ I1 q) λov s2 ⟨x,H2,I2,rx,a,C,dx,fs,ex,ea,c,n,l,q2⟩=>?_) hs;subst ex;obtain rfl:ov=Value.ref a:=rx;exact qba I2 ea c n l ry λs3 I3=>⟨σ,_,I3,q2⟩
end
section
variable{X:Cx}{z6:List (Addr×Obj)}{σ:St}{H:Hp}{s:Shared}{A:Around}{E:Value->Shared->Prop}{Q:Value->Shared->Prop}{c:Value}{b:Bool}
inductive TyOf(K:FrG)(H:Hp):V->Value->Prop where
 |non:TyOf K H .non (.type "NoneType")
 |bl (x:Bool):TyOf K H (.bl x) (.type "bool")
 |int (i:Int):TyOf K H (.int i) (.type "int")
 |str (x:Str):TyOf K H (.str x) (.type "str")
 |flt (x:UInt64):TyOf K H (.flt x) (.type "float")
 |lst {a:Addr} {xs:List V} (e:H a=some (.lst xs)):TyOf K H (.ref a) (.type "list")
 |frz {a:Addr} {o:Obj} {xs:List V} (e:H a=some (.frz o (.lst xs))):TyOf K H (.ref a) (.type "list")
 |tup {a:Addr} {xs:List V} (e:H a=some (.tup xs)):TyOf K H (.ref a) (.type "tuple")
 |dK {a:Addr} {kvs:List (Key×V)} (e:H a=some (.dK kvs)):TyOf K H (.ref a) (.type "dict")
 |dT {a:Addr} {kvs:List (List Key×V)} (e:H a=some (.dT kvs)):TyOf K H (.ref a) (.type "dict")
 |ins {a C dx:Addr} {fs:List (Str×V)} (e:H a=some (.ins C dx fs)) (cl:Cls K C) (ha:PySem.W.findIn K (.ref C) "__class__"=some (some (.builtin "object.__class__")))
  (hn:PySem.W.specialIn K (.builtin "object.__class__") "__get__"=some (some (.builtin "getset_descriptor.__get__"))) (htk:PySem.W.takesIn K (.builtin "object.__class__")=some true)
  (hm:PySem.W.mroIn K C (.type "object")=some true):TyOf K H (.ref a) (.ref C)
theorem qej{x:V}{u t:Value}(I:Inv X z6 σ H s)(rx:RelV x u)(ty:TyOf X.K H x t)(e:PySem.W.kitOne X.K t c=some b)(h:∀tk,Q (.bool b) {s with toks:=tk}):
 wpAny (model X.prog X.w) A (call (.builtin "isinstance") [u,c]) Q E s:=by
 cases ty with
 |non=>cases(show u=Value.none from rx);exact PySem.W.kia_one PySem.W.kitx_none I.kIn True.intro e (λz=>nomatch z) h
 |bl y=>cases(show u=Value.bool y from rx);exact PySem.W.kia_one PySem.W.kitx_bool I.kIn True.intro e (λz=>nomatch z) h
 |int i=>obtain⟨t,q⟩:=(show∃t,u=Value.int i t from rx);cases q;exact PySem.W.kia_one PySem.W.kitx_int I.kIn True.intro e (λz=>nomatch z) h
 |str y=>obtain⟨t,q⟩:=(show∃t,u=Value.str y t from rx);cases q;exact PySem.W.kia_one PySem.W.kitx_str I.kIn True.intro e (λz=>nomatch z) h
 |flt y=>obtain⟨t,q⟩:=(show∃t,u=Value.float y t from rx);cases q;exact PySem.W.kia_one PySem.W.kitx_float I.kIn True.intro e (λz=>nomatch z) h
 | @lst a xs ea=>
  cases(show u=Value.ref a from rx);obtain⟨_,_,n,_,h1⟩:=(show ObjOk X.prog X.w H s.heap a (.lst xs)from I.hok a _ ea);exact PySem.W.kia_one PySem.W.kitx_list I.kIn ⟨_,h1,rfl⟩ e (λz=>nomatch z) h
 | @frz a ob xs ea=>
  cases(show u=Value.ref a from rx);obtain⟨_,_,_,n,_,h1⟩:=(show ObjOk X.prog X.w H s.heap a (.frz ob (.lst xs))from I.hok a _ ea);exact PySem.W.kia_one PySem.W.kitx_list I.kIn ⟨_,h1,rfl⟩ e (λz=>nomatch z) h
 | @tup a xs ea=>
  cases(show u=Value.ref a from rx);obtain⟨_,_,_,p⟩:=(show ObjOk X.prog X.w H s.heap a (.tup xs)from I.hok a _ ea);obtain⟨o,h1,⟨h2,_⟩,_⟩:=p;exact PySem.W.kia_one PySem.W.kitx_tuple I.kIn ⟨o,h1,h2⟩ e (λz=>nomatch z) h
 | @dK a kvs ea=>
  cases(show u=Value.ref a from rx);obtain⟨_,_,vs,_,p⟩:=(show ObjOk X.prog X.w H s.heap a (.dK kvs)from I.hok a _ ea);obtain⟨o,es,h1,h2,_⟩:=p;exact PySem.W.kia_one PySem.W.kitx_dict I.kIn ⟨o,h1,h2.1⟩ e (λz=>nomatch z) h
 | @dT a kvs ea=>
  cases(show u=Value.ref a from rx);obtain⟨_,_,xs,_,o,es,ep,h1,h2,_⟩:=(show ObjOk X.prog X.w H s.heap a (.dT kvs)from I.hok a _ ea);exact PySem.W.kia_one PySem.W.kitx_dict I.kIn ⟨o,h1,h2.1⟩ e (λz=>nomatch z) h
 | @ins a C dx fs ea cl ha hn htk hm=>
  cases(show u=Value.ref a from rx);obtain⟨mA,O,_⟩:=q7t I.hok ea;obtain⟨od,J,_⟩:=O.look;exact PySem.W.kia_one (PySem.W.kitx_own (cl.get _) cl.hd ha hn htk hm) I.kIn J e (λz=>nomatch z) h
end
structure Room(k:Nat)(A:Around):Prop where
 hd:A.handled=none
 dp:A.depth+3*k+5<recursionLimit
 un:A.units+16*k+200<cLine
theorem Room.mono{j k:Nat}{A:Around}(r:Room k A)(h:j<=k):Room j A:=⟨r.hd,by have:=r.dp;omega,by have:=r.un;omega⟩
theorem Room.m{j k:Nat}{A:Around}(r:Room k A)(h:j<=k:=by decide):Room j A:=r.mono h
theorem Room.deeper{k:Nat}{A:Around}(r:Room (k+1) A)(env:Env):Room k (A.deeper env):=
 ⟨r.hd,by have:=r.dp;show A.depth+1+3*k+5<_;omega,by have:=r.un;show A.units+3+16*k+200<_;omega⟩
theorem Room.in1{k:Nat}{A:Around}(r:Room (k+1) A):Room k A.in1:=
 ⟨r.hd,by have:=r.dp;show A.depth+3*k+5<_;omega,by have:=r.un;show A.units+1+16*k+200<_;omega⟩
theorem qbu{A:Around}{C:Addr}{us:List Value}{kw:List (Str×Value)}:(A.under (.builtin "type.__call__" ⟨.ref C::us,kw⟩)).depth=A.depth+1:=by first|rfl|simp[Around.under,Code.weight,Code.isCreation,Code.isGuard,Code.isCaller,Code.frames,Code.isFrame,guardIds]
theorem qbt{A:Around}{C:Addr}{us:List Value}{kw:List (Str×Value)}:(A.under (.builtin "type.__call__" ⟨.ref C::us,kw⟩)).units=A.units+1:=by first|rfl|simp[Around.under,Code.cUnits,Code.frames,Code.isFrame]
theorem Room.make{k:Nat}{A:Around}(r:Room (k+1) A)(C:Addr)(us:List Value)(kw:List (Str×Value)):Room k (A.under (.builtin "type.__call__" ⟨.ref C::us,kw⟩)):=
 ⟨r.hd,by have:=r.dp;rw[qbu];omega,by have:=r.un;rw[qbt];omega⟩
theorem Room.depth{k:Nat}{A:Around}(r:Room k A):A.depth<recursionLimit:=by have:=r.dp;omega
theorem Room.units{k:Nat}{A:Around}(r:Room k A):A.units+64<cLine:=by have:=r.un;omega
def tNil:TA:=λ_ H Q=>Q [] H
def q2g(ta:TE)(tr:TA):TA:=λσ H Q=>ta σ H λx H1=>tr σ H1 λxs H2=>Q (x::xs) H2
section
variable{X:Cx}{e:Expr}{es:List Expr}{te:TE}{t:TA}{pos:Pos}
theorem q06:PA X [] tNil:=λ_ _ _ _ H Q I h=>Calls.spliced_nil ⟨[],H,I,.nil,h⟩
theorem q00(ha:PE X e te)(hr:PA X es t)(hs:starEach (e::es) X.env=(false,eval e X.env)::starEach es X.env:=by rfl):PA X (e::es) (q2g te t):=by intro pos z6 s σ H Q I h;rw[hs];show wpAny _ _ (spliced ((false,eval e X.env)::backTo pos (starEach es X.env))) _ _ s;refine Calls.spliced_cons (thn (ha z6 s σ H _ I h) λu s1 ⟨x,H1,I1,r1,q1⟩=>?_);exact thn (hr pos z6 s1 σ H1 _ I1 q1) λus s2 ⟨xs,H2,I2,r2,q2⟩=>⟨x::xs,H2,I2,.cons r1 r2,q2⟩
def tTup(t:TA):TE:=λσ H Q=>t σ H λxs H1=>xs.length<=sizeLine/\∀p,H1 p=none->Q (.ref p) (upd H1 p (.tup xs))
def tLst(t:TA):TE:=λσ H Q=>t σ H λxs H1=>xs.length<=sizeLine/\∀p,H1 p=none->Q (.ref p) (upd H1 p (.lst xs))
theorem q44{x1}(h:PA X es t):PE X (.Tuple es x1 pos) (tTup t):=by intro z6 s σ H Q I hq;refine wpAny_Tuple_spliced (thn (h pos z6 s σ H _ I hq) λus s1 ⟨xs,H1,I1,r,z,q⟩=>⟨by rw[<-r.length];exact z,?_⟩);have hf:H1 s1.heap.objs.size=none:=I1.hok.fresh (jf _);refine⟨.ref s1.heap.objs.size,upd H1 s1.heap.objs.size (.tup xs),I1.laid (t':=s1.toks) (λb u e=>je _ e) (jf _) ?_,rfl,q _ hf⟩;exact⟨z,us,r,⟨_,jo _ rfl,⟨rfl,_,rfl⟩,rfl⟩⟩
theorem q2l(h:PA X es t):PE X (.List es pos) (tLst t):=by intro z6 s σ H Q I hq;refine wpAny_List_spliced (thn (h pos z6 s σ H _ I hq) λus s1 ⟨xs,H1,I1,r,z,q⟩=>⟨by rw[<-r.length];exact z,?_⟩);have hf:H1 s1.heap.objs.size=none:=I1.hok.fresh (jf _);refine⟨.ref s1.heap.objs.size,upd H1 s1.heap.objs.size (.lst xs),I1.laid (t':=s1.toks) (λb u e=>je _ e) (jf _) ?_,rfl,q _ hf⟩;exact⟨z,us,0,r,jo _ rfl⟩
end
abbrev Sp:=List V->Hp->VK->XK->Prop
abbrev CXT:=List Env->Hp->Shared->XK->Value->Shared->Prop
structure Env0(P:Program)(w:World)(K:FrG)(mg:Str->Option Value)(base:Heap)(A:Around)(outer:List Env)(s:Shared)(H:Hp):Prop where
 frames:A.frames=some outer
 mod:Mod K mg base
 bs:∀b o,base.get? b=some o->s.heap.get? b=some o/\H b=none
 bsz:base.objs.size<=s.heap.objs.size
 funs:s.heap.FunFrames base outer
 frf:∀b∈frs outer,H b=none
 hok:HOk P w H s.heap
 bare:AllBare s.gens
def CE(outer:List Env)(P:Program)(w:World)(H:Hp)(s:Shared)(Q:VK)(u:Value)(s':Shared):Prop:=
 ∃v H',s'.os=s.os/\AllBare s'.gens/\Un (frs outer) [] H H' s.heap s'.heap/\HOk P w H' s'.heap/\RelV v u/\Q v H'
def CR(CX:CXT)(outer:List Env)(P:Program)(w:World)(H:Hp)(s:Shared)(Q:VK)(E:XK)(r:Result)(s':Shared):Prop:=
 match r with
 |.ok (.ret u)=>CE outer P w H s Q u s'
 |.ok _=>False
 |.error e=>CX outer H s E e s'
structure FnOk(P:Program)(w:World)(K:FrG)(mg:Str->Option Value)(base:Heap)(CX:CXT)(k:Nat)(f:Addr)(fd:FuncData)(ps:List Str)(sp:Sp):Prop where
 len:∀vs H Q E,sp vs H Q E->vs.length=ps.length
 run:∀(A:Around) (outer:List Env) (s:Shared) (H:Hp) (args:Args) (us:List Value) (vs:List V) (Q:VK) (E:XK),Room k A->Env0 P w K mg base A outer s H->BindsTo s fd args (ps.zip us)->Vals vs us->sp vs H Q E->
  codeAny (model P w) A (.call (.ref f) args) (CR CX outer P w H s Q E) s
theorem FnOk.mono{P:Program}{w:World}{K:FrG}{mg:Str->Option Value}{base:Heap}{CX:CXT}{j k:Nat}{f:Addr}{fd:FuncData}{ps:List Str}{sp:Sp}(F:FnOk P w K mg base CX j f fd ps sp)(h:j<=k):
 FnOk P w K mg base CX k f fd ps sp:=⟨F.len,λA outer s H args us vs Q E hr=>F.run A outer s H args us vs Q E (hr.mono h)⟩
theorem FnOk.imp{P:Program}{w:World}{K:FrG}{mg:Str->Option Value}{base:Heap}{CX:CXT}{k:Nat}{f:Addr}{fd:FuncData}{ps:List Str}{sp sp':Sp}(F:FnOk P w K mg base CX k f fd ps sp)
 (h:∀vs H Q E,sp' vs H Q E->sp vs H Q E):FnOk P w K mg base CX k f fd ps sp':=
 ⟨λvs H Q E q=>F.len vs H Q E (h _ _ _ _ q),λA outer s H args us vs Q E hr he hb hv hs=>F.run A outer s H args us vs Q E hr he hb hv (h _ _ _ _ hs)⟩
theorem Env0.make{P:Program}{w:World}{K:FrG}{mg:Str->Option Value}{base:Heap}{A:Around}{outer:List Env}{s:Shared}{H:Hp}(e:Env0 P w K mg base A outer s H)(C:Addr)(us:List Value)(kw:List (Str×Value)):
 Env0 P w K mg base (A.under (.builtin "type.__call__" ⟨.ref C::us,kw⟩)) outer s H:=⟨by first|exact e.frames|(simpa[Around.under,Code.envs,Code.isFrame,pushEnvs]using e.frames),e.mod,e.bs,e.bsz,e.funs,e.frf,e.hok,e.bare⟩
theorem Env0.in1{P:Program}{w:World}{K:FrG}{mg:Str->Option Value}{base:Heap}{A:Around}{outer:List Env}{s:Shared}{H:Hp}(e:Env0 P w K mg base A outer s H):
 Env0 P w K mg base A.in1 outer s H:=⟨e.frames,e.mod,e.bs,e.bsz,e.funs,e.frf,e.hok,e.bare⟩
section
variable{X:Cx}{z6:List (Addr×Obj)}{σ:St}{H:Hp}{s s':Shared}
theorem Inv.env0(I:Inv X z6 σ H s):Env0 X.prog X.w X.K X.mg X.base X.A X.stack s H:=
 ⟨I.ok.frames,I.ok.mod,I.bs,ju I.ok.bsz I.sz,I.stack,I.stkFree,I.hok,I.bare⟩
theorem Inv.after{Q:VK}{u:Value}(I:Inv X z6 σ H s)(h:CE X.stack X.prog X.w H s Q u s'):EP X z6 σ Q u s':=by obtain⟨v,H',os,bare,un,hok,r,q⟩:=h;obtain⟨hh,g,d,t,os'⟩:=s';obtain rfl:os'=s.os:=os;exact⟨v,H',I.call (h':=hh) (g':=g) (d':=d) (t':=t) (ch:=[]) un hok bare (λb z=>absurd z (by simp)),r,q⟩
end
def q53(sp:Sp)(dvs:List V)(E:XK)(t:TA):TE:=λσ H Q=>t σ H λvs H1=>sp (vs++dvs) H1 Q E
def qmc(C:Addr)(m:Str)(sp:Sp)(dvs:List V)(E:XK)(ta:TE)(t:TA):TE:=λσ H Q=>ta σ H λx H1=>∃a dx fs,x=.ref a/\H1 a=some (.ins C dx fs)/\fs.lookup m=none/\
 t σ H1 λvs H2=>sp (x::(vs++dvs)) H2 Q E
def qmd(C:Addr)(sp:Sp)(dvs:List V)(E:XK)(t:TA):TE:=λσ H Q=>t σ H λvs H1=>∀x dx,H1 x=none->H1 dx=none->dx≠x->
 sp (.ref x::(vs++dvs)) (upd (upd H1 dx (.own x)) x (.ins C dx [])) (λv H2=>v=.non/\Q (.ref x) H2) E
def Binds(K:FrG)(fd:FuncData)(ps:List Str)(ds:List Value):Prop:=
 ∀(s:Shared) (us:List Value),K.In s.heap->(us++ds).length=ps.length->BindsTo s fd ⟨us,[]⟩ (ps.zip (us++ds))
theorem Binds.all{K:FrG}{fd:FuncData}{ps:List Str}(h:∀us:List Value,us.length=ps.length->bindArgs fd ⟨us,[]⟩=pure (ps.zip us)):Binds K fd ps []:=λs us _ hl=>by rw[List.append_nil]at hl ⊢;exact .of_eq (h us hl)
def q4c(CX:CXT)(X:Cx)(E:XK):Prop:=∀(z6:List (Addr×Obj)) (σ:St) (H:Hp) (s:Shared) (e:Value) (s':Shared),Inv X z6 σ H s->CX X.stack H s E e s'->X.xe e s'
section
variable{X:Cx}{CX:CXT}{k:Nat}{f C:Addr}{fd:FuncData}{ps:List Str}{sp:Sp}{dvs:List V}{ds:List Value}{E:XK}{x m:Str}{p pos zv:Pos}{e o:Expr}{es:List Expr}{ta:TE}{t:TA}
theorem qi9{z6:List (Addr×Obj)}{σ:St}{H:Hp}{s:Shared}{Q:VK}{us:List Value}{vs:List V}(F:FnOk X.prog X.w X.K X.mg X.base CX k f fd ps sp)(hr:Room k X.A)(hb:Binds X.K fd ps ds)(hd:Vals dvs ds)(hx:q4c CX X E)
 (I:Inv X z6 σ H s) (r:Vals vs us) (h:sp (vs++dvs) H Q E):wpAny (model X.prog X.w) X.A (call (.ref f) us) (EP X z6 σ Q) X.xe s:=by
 have r2:Vals (vs++dvs) (us++ds):=r.append hd;have hl:(us++ds).length=ps.length:=by rw[<-r2.length];exact F.len _ _ _ _ h
 refine wpAny_call (codeAny_mono (F.run X.A X.stack s H ⟨us,[]⟩ (us++ds) (vs++dvs) Q E hr I.env0 (hb s us I.kIn hl) r2 h) λr s' hq=>?_);cases r with
 |error e=>exact hx z6 σ H s e s' I hq
 | ok fl=>
  cases fl with
  |ret u=>exact I.after hq
  |next=>exact False.elim hq
  |brk=>exact False.elim hq
  |cont=>exact False.elim hq
theorem q0g(F:FnOk X.prog X.w X.K X.mg X.base CX k f fd ps sp)(hr:Room k X.A)(hg:Gl X x)(hm:X.mg x=some (.ref f))(hk:PySem.W.keepIn X.K (.ref f)=true)(hb:Binds X.K fd ps ds)(hd:Vals dvs ds)(hx:q4c CX X E)
 (ha:PA X (e::es) t) (hdb:(x==("__debug__":Str))=false:=by decide) (he:starEach (e::es) X.env=(false,eval e X.env)::starEach es X.env:=by rfl) (hpl:(backTo pos (starEach es X.env)).any (·.1)=false:=by rfl):
 PE X (.Call (.Name x p) (e::es) [] pos) (q53 sp dvs E t):=by
 intro z6 s σ H Q I h;refine xn (q4i I hg hm ?_ hdb);refine PySem.W.callWith_K (h₀:=X.base) I.ok.mod.kin hk (thn (ha pos z6 s σ H _ I h) λus s1 ⟨vs,H1,I1,r,q⟩=>⟨I1.kIn,?_⟩) he hpl;exact qi9 F hr hb hd hx I1 r q
theorem q9g{pl:Sem Bool}(he:PE X o ta)(c:Cls X.K C)(hm:Meth X.K C m f)(F:FnOk X.prog X.w X.K X.mg X.base CX k f fd ps sp)(hr:Room k X.A)(hb:Binds X.K fd ps ds)(hd:Vals dvs ds)(hx:q4c CX X E)(ha:PA X (e::es) t)
 (hst:starEach (e::es) X.env=(false,eval e X.env)::starEach es X.env:=by rfl) (hpl:(backTo pos (starEach es X.env)).any (·.1)=false:=by rfl)
 (ht:eval (.Call (.Attribute o m zv) (e::es) [] pos) X.env=(do
   let ov <-eval o X.env
   standAt zv.atName
   let (f,first) <-holding [ov] (getMethod ov m pl)
   callWith pos f first (backTo pos (starEach (e::es) X.env)) (backToKw pos (keywordEach [] X.env))):=by rfl):
 PE X (.Call (.Attribute o m zv) (e::es) [] pos) (qmc C m sp dvs E ta t):=by
 intro z6 s σ H Q I h;refine PySem.W.methodCall_KW (pl:=pl) (thn (he z6 s σ H _ I h) λu s1 ⟨x,H1,I1,rx,a,dx,fs,ex,ea,l,q⟩=>?_) ht;subst ex;obtain rfl:u=Value.ref a:=rx;refine qby I1 ea c hm l ?_;refine PySem.W.callWith_K (first:=[.ref a]) (h₀:=X.base) I.ok.mod.kin hm.kp (thn (ha pos z6 s1 σ H1 _ I1 q) λus s2 ⟨vs,H2,I2,r,q2⟩=>⟨I2.kIn,?_⟩) hst hpl;exact qi9 (us:=.ref a::us) (vs:=.ref a::vs) F hr hb hd hx I2 (.cons rfl r) q2
structure Mk(K:FrG)(C f:Addr):Prop where
 makes:PySem.W.makesIn K C=true
 init:PySem.W.findIn K (.ref C) "__init__"=some (some (.ref f))
 fn:PySem.W.isFn K (.ref f)=true
 kp:PySem.W.keepIn K (.ref C)=true
theorem qg2{z6:List (Addr×Obj)}{σ:St}{H:Hp}{s:Shared}{Q:VK}{us:List Value}{vs:List V}(M:Mk X.K C f)(F:FnOk X.prog X.w X.K X.mg X.base CX k f fd ps sp)(hr:Room (k+1) X.A)(hb:Binds X.K fd ps ds)(hd:Vals dvs ds)
 (hx:q4c CX X E) (I:Inv X z6 σ H s) (r:Vals vs us)
 (h:∀x dx,H x=none->H dx=none->dx≠x->sp (.ref x::(vs++dvs)) (upd (upd H dx (.own x)) x (.ins C dx [])) (λv H2=>v=.non/\Q (.ref x) H2) E):
 wpAny (model X.prog X.w) X.A (call (.ref C) us) (EP X z6 σ Q) X.xe s:=by
 have hq:=h (s.heap.objs.size+1) s.heap.objs.size (I.hok.fresh (Nat.le_succ _)) (I.hok.fresh (jf _)) (jl (Nat.lt_succ_self _));have I2:=Inv.made (C:=C) I;have r2:Vals (V.ref (s.heap.objs.size+1)::(vs++dvs)) (Value.ref (s.heap.objs.size+1)::(us++ds)):=.cons rfl (r.append hd);have hl:(Value.ref (s.heap.objs.size+1)::us++ds).length=ps.length:=by have e:=r2.length;rw[F.len _ _ _ _ hq]at e;exact e.symm
 refine wpAny_call (qgu (f:=f) I.kIn M.makes M.init (beq_iff_eq.mp M.fn) (codeAny_mono (F.run _ X.stack _ _ ⟨Value.ref (s.heap.objs.size+1)::us,[]⟩ (Value.ref (s.heap.objs.size+1)::(us++ds)) _ _ E (hr.make C us [])
  (I2.env0.make C us []) (hb _ (Value.ref (s.heap.objs.size+1)::us) I2.kIn hl) r2 hq) λr s' hq'=>?_))
 cases r with
 |error e=>exact hx z6 σ _ _ e s' I2 hq'
 | ok fl=>
  cases fl with
  | ret u=>
   obtain⟨v,H',I3,rv,ev,q3⟩:=I2.after hq';subst ev;exact⟨rv,⟨V.ref (s.heap.objs.size+1),H',I3,rfl,q3⟩⟩
  |next=>exact False.elim hq'
  |brk=>exact False.elim hq'
  |cont=>exact False.elim hq'
theorem qdk(M:Mk X.K C f)(F:FnOk X.prog X.w X.K X.mg X.base CX k f fd ps sp)(hr:Room (k+1) X.A)(hg:Gl X x)(hm:X.mg x=some (.ref C))(hb:Binds X.K fd ps ds)(hd:Vals dvs ds)(hx:q4c CX X E)
 (ha:PA X (e::es) t) (hdb:(x==("__debug__":Str))=false:=by decide) (he:starEach (e::es) X.env=(false,eval e X.env)::starEach es X.env:=by rfl) (hpl:(backTo pos (starEach es X.env)).any (·.1)=false:=by rfl):
 PE X (.Call (.Name x p) (e::es) [] pos) (qmd C sp dvs E t):=by
 intro z6 s σ H Q I h;refine xn (q4i I hg hm ?_ hdb);refine PySem.W.callWith_K (h₀:=X.base) I.ok.mod.kin M.kp (thn (ha pos z6 s σ H _ I h) λus s1 ⟨vs,H1,I1,r,q⟩=>⟨I1.kIn,?_⟩) he hpl;exact qg2 M F hr hb hd hx I1 r q
end
def PK(X:Cx)(kws:List Keyword)(t:TA):Prop:=
 ∀(pos:Pos) (z6:List (Addr×Obj)) (s:Shared) (σ:St) (H:Hp) (Q:List V->Hp->Prop),Inv X z6 σ H s->t σ H Q->wpAny (model X.prog X.w) X.A (evalAll ((backToKw pos (keywordEach kws X.env)).map (·.2))) (AP X z6 σ Q) X.xe s
section
variable{X:Cx}{CX:CXT}{k:Nat}{f C:Addr}{fd:FuncData}{ps ks:List Str}{sp:Sp}{E:XK}{x m:Str}{p pos zv kpos:Pos}{e o:Expr}{es:List Expr}{kws:List Keyword}{te ta:TE}{t tk:TA}{nm:Option Str}
theorem qna:PK X [] tNil:=λ_ _ _ _ H Q I h=>wpAny_evalAll_nil ⟨[],H,I,.nil,h⟩
theorem qjq(ha:PE X e te)(hr:PK X kws t):PK X (⟨nm,e,kpos⟩::kws) (q2g te t):=by intro pos z6 s σ H Q I h;show wpAny _ _ (evalAll ((do let v <-eval e X.env;standAt pos;pure v)::(backToKw pos (keywordEach kws X.env)).map (·.2))) _ _ s;refine wpAny_evalAll_cons (ja (thn (ha z6 s σ H _ I h) λu s1 ⟨x,H1,I1,r1,q1⟩=>ja (wpAny_standAt (jc ?_))));exact thn (hr pos z6 s1 σ H1 _ I1 q1) λus s2 ⟨xs,H2,I2,r2,q2⟩=>⟨x::xs,H2,I2,.cons r1 r2,q2⟩
structure qb3(K:FrG)(fd:FuncData)(ps ks:List Str)(g:List Value->List Value->List Value)(gV:List V->List V->List V):Prop where
 to:∀(s:Shared) (us ws:List Value),K.In s.heap->(g us ws).length=ps.length->BindsTo s fd ⟨us,ks.zip ws⟩ (ps.zip (g us ws))
 rel:∀{vs:List V} {us:List Value} {zs:List V} {ws:List Value},Vals vs us->Vals zs ws->Vals (gV vs zs) (g us ws)
def qmf(sp:Sp)(gV:List V->List V->List V)(E:XK)(t tk:TA):TE:=λσ H Q=>t σ H λvs H1=>tk σ H1 λzs H2=>sp (gV vs zs) H2 Q E
variable{g:List Value->List Value->List Value}{gV:List V->List V->List V}
theorem qjm{z6:List (Addr×Obj)}{σ:St}{H:Hp}{s:Shared}{Q:VK}{us ws:List Value}{vs zs:List V}(F:FnOk X.prog X.w X.K X.mg X.base CX k f fd ps sp)(hr:Room k X.A)(hb:qb3 X.K fd ps ks g gV)(hx:q4c CX X E)
 (I:Inv X z6 σ H s) (r:Vals vs us) (rz:Vals zs ws) (h:sp (gV vs zs) H Q E):wpAny (model X.prog X.w) X.A (call (.ref f) us (ks.zip ws)) (EP X z6 σ Q) X.xe s:=by
 have r2:=hb.rel r rz;have hl:(g us ws).length=ps.length:=by rw[<-r2.length];exact F.len _ _ _ _ h
 refine wpAny_call (codeAny_mono (F.run X.A X.stack s H ⟨us,ks.zip ws⟩ (g us ws) (gV vs zs) Q E hr I.env0 (hb.to s us ws I.kIn hl) r2 h) λr s' hq=>?_);cases r with
 |error e=>exact hx z6 σ H s e s' I hq
 | ok fl=>
  cases fl with
  |ret u=>exact I.after hq
  |next=>exact False.elim hq
  |brk=>exact False.elim hq
  |cont=>exact False.elim hq
theorem qgc(F:FnOk X.prog X.w X.K X.mg X.base CX k f fd ps sp)(hr:Room k X.A)(hg:Gl X x)(hm:X.mg x=some (.ref f))(hk:PySem.W.keepIn X.K (.ref f)=true)(hb:qb3 X.K fd ps ks g gV)(hx:q4c CX X E)
 (ha:PA X (e::es) t) (hkw:PK X kws tk) (j0:(backToKw pos (keywordEach kws X.env)).all (·.1.isSome)=true:=by rfl) (hks:(backToKw pos (keywordEach kws X.env)).filterMap (·.1)=ks:=by rfl)
 (hdb:(x==("__debug__":Str))=false:=by decide) (he:starEach (e::es) X.env=(false,eval e X.env)::starEach es X.env:=by rfl)
 (hpl:((backTo pos (starEach (e::es) X.env)).any (·.1)||(backToKw pos (keywordEach kws X.env)).any (·.1.isNone))=false:=by rfl):
 PE X (.Call (.Name x p) (e::es) kws pos) (qmf sp gV E t tk):=by
 intro z6 s σ H Q I h;refine xn (q4i I hg hm ?_ hdb);refine PySem.W.callWith_KW (h₀:=X.base) I.ok.mod.kin hk j0 (thn (ha pos z6 s σ H _ I h) λus s1 ⟨vs,H1,I1,r,q⟩=>?_) hpl he;refine thn (hkw pos z6 s1 σ H1 _ I1 q) λws s2 ⟨zs,H2,I2,rz,q2⟩=>⟨I2.kIn,?_⟩;rw[hks];exact qjm F hr hb hx I2 r rz q2
end
structure q0q(N P:List Str)(sc:Scope):Prop where
 kind:sc.kind=.function
 co:sc.isCoroutine=false
 gen:sc.isGenerator=false
 nd:N.Nodup
 pre:N.take P.length=P
 par:∀x∈P,sc.names.lookup x=some .local∨sc.names.lookup x=some .cell
 nofree:∀y∈sc.names,y.2≠.free
theorem q91{kindOf:Str->Option NameKind}{x:Str}:∀{zu:List (Str×Value)} {m:Str->Option Value},(∀v,(x,v)∉zu)->bindL kindOf zu m x=m x
 |[],_,_=>rfl
 | (n,v)::r,m,h=>by
  unfold bindL;rw[q91 λw hw=>h w (jg _ hw)];split
  ·have:x≠n:=by rintro rfl;exact h v jj
   simp[this]
  ·rfl
theorem q93{kindOf:Str->Option NameKind}{x:Str}:∀{zu:List (Str×Value)} {m:Str->Option Value},(∀v,(x,v)∉zu)->bindC kindOf zu m x=m x
 |[],_,_=>rfl
 | (n,v)::r,m,h=>by
  unfold bindC;rw[q93 λw hw=>h w (jg _ hw)];split
  ·rfl
  ·have:x≠n:=by rintro rfl;exact h v jj
   simp[this]
theorem q92{kindOf:Str->Option NameKind}{x:Str}{v:Value}:∀{P:List Str} {vs:List Value} {i:Nat} {m:Str->Option Value},P.Nodup->P[i]? =some x->vs[i]? =some v->kindOf x=some .local->
 bindL kindOf (P.zip vs) m x=some v
 |[],_,_,_,_,h,_,_=>by simp at h
 |_::_,[],_,_,_,_,h,_=>by simp at h
 | p::P,w::vs,0,m,nd,h1,h2,hk=>by simp at h1 h2;subst h1;subst h2;show bindL kindOf ((p,w)::P.zip vs) m p=_;unfold bindL;rw[q91 λv hv=>(List.nodup_cons.mp nd).1 (List.of_mem_zip hv).1,if_pos hk];simp
 | p::P,w::vs,i+1,m,nd,h1,h2,hk=>by show bindL kindOf ((p,w)::P.zip vs) m x=_;unfold bindL;exact q92 (i:=i) (List.nodup_cons.mp nd).2 (by simpa using h1) (by simpa using h2) hk
theorem q94{kindOf:Str->Option NameKind}{x:Str}{v:Value}:∀{P:List Str} {vs:List Value} {i:Nat} {m:Str->Option Value},P.Nodup->P[i]? =some x->vs[i]? =some v->kindOf x≠some .local->
 bindC kindOf (P.zip vs) m x=some v
 |[],_,_,_,_,h,_,_=>by simp at h
 |_::_,[],_,_,_,_,h,_=>by simp at h
 | p::P,w::vs,0,m,nd,h1,h2,hk=>by simp at h1 h2;subst h1;subst h2;show bindC kindOf ((p,w)::P.zip vs) m p=_;unfold bindC;rw[q93 λv hv=>(List.nodup_cons.mp nd).1 (List.of_mem_zip hv).1,if_neg hk];simp
 | p::P,w::vs,i+1,m,nd,h1,h2,hk=>by show bindC kindOf ((p,w)::P.zip vs) m x=_;unfold bindC;exact q94 (i:=i) (List.nodup_cons.mp nd).2 (by simpa using h1) (by simpa using h2) hk
def start(N:List Str)(vs:List V):St:=vs.map some++List.replicate (N.length-vs.length) none
def cxOf(CX:CXT)(P:Program)(w:World)(K:FrG)(mg:Str->Option Value)(base:Heap)(N:List Str)(qual:Str)(scope:Scope)(f:Addr)(cd:Value)(A:Around)(outer:List Env)(s:Shared)(H:Hp)(E:XK):Cx where
 prog:=P
 w:=w
 K:=K
 mg:=mg
 base:=base
 A:=A.deeper (envOfC qual scope s.heap.objs.size f cd)
 N:=N
 s₀:=s
 H₀:=H
 env:=envOfC qual scope s.heap.objs.size f cd
 outer:=outer
 stack:=envOfC qual scope s.heap.objs.size f cd::outer
 ex:=[]
 calm:=true
 fn:=λ_=>true
 pn:=[]
 xe:=λe s'=>wpAny (model P w) (A.deeper (envOfC qual scope s.heap.objs.size f cd)) (leaving (envOfC qual scope s.heap.objs.size f cd) e) (λ_ s''=>CX outer H s E e s'') (λe' s''=>CX outer H s E e' s'') s'
theorem qb0{sc:Scope}{n:Nat}{x:Str}(h:sc.names.lookup x=some .cell):∃c,(cellsFrom n sc.names []).lookup x=some c:=by have q:=PySem.W.cellsFrom_some sc.names n [] (.inl h);exact Option.isSome_iff_exists.mp q
theorem qek{CX:CXT}{P:Program}{w:World}{K:FrG}{mg:Str->Option Value}{base:Heap}{N ps:List Str}{qual:Str}{scope:Scope}{f:Addr}{cd:Value}{A:Around}{outer:List Env}{s s1:Shared}{H:Hp}{E:XK}{us:List Value}{vs:List V}
 (S:q0q N ps scope) (hd:A.handled=none) (e0:Env0 P w K mg base A outer s H) (hl:vs.length=ps.length) (r:Vals vs us)
 (x:InCallC s s.heap.objs.size (bindL (envOfC qual scope s.heap.objs.size f cd).kindOf (ps.zip us) λ_=>none) (cellsFrom (s.heap.objs.size+1) scope.names []) (bindC (envOfC qual scope s.heap.objs.size f cd).kindOf (ps.zip us) λ_=>none) s1):
 Inv (cxOf CX P w K mg base N qual scope f cd A outer s H E) [] (start N vs) H s1:=by
 have hpl:ps.length<=N.length:=by have:=congrArg List.length S.pre;rw[xu]at this;omega
 obtain⟨h1,tk,rfl,hk⟩:=x.done;have noA:∀b:Addr,b∉(cxOf CX P w K mg base N qual scope f cd A outer s H E).ex:=λb z=>absurd (show b∈([]:List Addr)from z) (by simp);refine⟨⟨e0.mod,S.kind,rfl,rfl,jf _,λy z c h1 h2=>?_,λy hy=>?_,λy c _ h=>?_,λ_=>hd,Around.frames_deeper e0.frames,.inr ⟨rfl,rfl⟩,λb z=>absurd z (noA b),e0.bs,e0.bsz,λb _ _=>noA b,λb z=>absurd z (noA b),e0.funs,e0.frf⟩,
  rfl,e0.bare,Un.kept hk,⟨_,x.toInCall.ns,λi y v h1 h2 h3=>?_⟩,λy c h=>⟨_,x.cell y c h⟩,e0.hok.fresh (jf _),λy c h=>?_,λp hp=>absurd (show p∈([]:List (Addr×Obj))from hp) (by simp),e0.hok.kept hk,?_⟩
 ·exact name_of_addr x.apart (PySem.mem_of_lookup h1) (PySem.mem_of_lookup h2)
 ·have hy:scope.names.lookup y=some .cell∨scope.names.lookup y=some .free:=hy;rcases hy with hy|hy
  ·exact qb0 hy
  ·exact absurd rfl (S.nofree _ (PySem.mem_of_lookup hy))
 ·exact Nat.le_of_lt (x.above y c (PySem.mem_of_lookup h))
 ·have hi:i<vs.length:=by
   unfold start at h2;by_cases hi:i<vs.length
   ·exact hi
   ·rw[xx (by simpa using hi)]at h2;rw[kc]at h2;split at h2<;>cases h2
  have ha:vs[i]? =some v:=by
   unfold start at h2;rw[kj (by simpa using hi),jk]at h2;cases e:vs[i]? with
   |none=>rw[e]at h2;cases h2
   |some a=>rw[e]at h2;cases h2;rfl
  obtain⟨u,hu,rv⟩:=r.get ha;have hp:ps[i]? =some y:=by rw[<-S.pre,List.getElem?_take_of_lt (by omega)];exact h1
  have ndP:ps.Nodup:=by rw[<-S.pre];exact S.nd.sublist (List.take_sublist _ _)
  refine⟨u,rv,?_⟩;rcases S.par y (xq hp)with k|k
  ·exact .inl ⟨k,q92 ndP hp hu k⟩
  ·obtain⟨c,e⟩:=qb0 (n:=s.heap.objs.size+1) k;refine .inr ⟨.inl k,c,e,?_⟩;have q:=x.cell y c e;rw[q94 ndP hp hu (by show scope.names.lookup y≠_;rw[k];decide)]at q;exact q
 ·exact e0.hok.fresh (Nat.le_of_lt (x.above y c (PySem.mem_of_lookup h)))
 ·unfold start;show _=N.length;rw[jy,jb,jx];omega
theorem qh5{CX:CXT}{P:Program}{w:World}{K:FrG}{mg:Str->Option Value}{base:Heap}{k:Nat}{f:Addr}{name qual:Str}{params:Arguments}{body:List Stmt}{scope:Scope}{dV kV doc pm cdv ct oc:Value}{an od:Option Addr}
 {osl:Array (Option Value)} {N ps:List Str} {sp:Sp} (lk:K.lookup f=some ⟨oc,od,.func (PySem.W.fnOf name qual params body scope dV kV doc pm an cdv ct),osl⟩) (hcd:PySem.W.codeIn K cdv qual=true) (S:q0q N ps scope)
 (len:∀vs H Q E,sp vs H Q E->vs.length=ps.length)
 (zh:∀(A:Around) (outer:List Env) (s:Shared) (H:Hp) (vs:List V) (Q:VK) (E:XK),Room k (A.deeper (envOfC qual scope s.heap.objs.size f cdv))->sp vs H Q E->
   ∃t,PSs (cxOf CX P w K mg base N qual scope f cdv A outer s H E) body t/\t {nx:=λ_ H'=>Q .non H',rt:=Q} (start N vs) H):
 FnOk P w K mg base CX (k+1) f (PySem.W.fnOf name qual params body scope dV kV doc pm an cdv ct) ps sp:=by
 refine⟨len,λA outer s H args us vs Q E hr e0 hb r hsp=>?_⟩;have hl:=len _ _ _ _ hsp;have KX:K.In s.heap:=e0.mod.kin.keeps λb o e=>(e0.bs b o e).1;have lim:s.heap.NoLimit:=e0.mod.nolimit.keeps λb o e=>(e0.bs b o e).1;have hkind:∀y∈ps.zip us,scope.names.lookup y.1=some .local∨(scope.names.lookup y.1=some .cell/\((cellsFrom (s.heap.objs.size+1) scope.names []).lookup y.1).isSome=true):=λ⟨n,v⟩ hy=>by
  rcases S.par n (List.of_mem_zip hy).1 with q|q
  ·exact .inl q
  ·exact .inr ⟨q,PySem.W.cellsFrom_some _ _ _ (.inl q)⟩
 refine codeAny_call_function hr.depth (KX _ _ lk) rfl S.co S.gen rfl (PySem.W.codeRec_of KX hcd) (hb _ _ _ _ ?_);refine wpAny_newFunctionEnv_cells S.kind hkind λenv he s1 x=>?_;subst he;refine⟨lim.keeps x.toInCall.keep,codeAny_func ?_⟩;obtain⟨t,ht,hq⟩:=zh A outer s H vs Q E (hr.deeper _) hsp;have I:Inv (cxOf CX P w K mg base N qual scope f cdv A outer s H E) [] (start N vs) H s1:=qek S hr.hd e0 hl r x;refine x8 (ht [] s1 (start N vs) H _ I hq) (λfl s' hs=>?_) λe s' hs=>hs;have fin:∀{σ':St} {H':Hp} {v:V} {u:Value},Inv (cxOf CX P w K mg base N qual scope f cdv A outer s H E) [] σ' H' s'->RelV v u->Q v H'->CE outer P w H s Q u s':=
  λ{σ' H' v u} J rv q=>⟨v,H',J.os,J.bare,J.base,J.hok,rv,q⟩
 cases fl with
 | ret u=>
  obtain⟨v,σ',H',J,rv,q⟩:=hs;exact fin J rv q
 | next=>
  obtain⟨σ',H',J,q⟩:=hs;exact fin (v:=V.non) (u:=Value.none) J rfl q
 | brk=>
  obtain⟨_,_,_,q⟩:=hs;exact False.elim q
 | cont=>
  obtain⟨_,_,_,q⟩:=hs;exact False.elim q
section
variable{X:Cx}{x:Str}{p pos:Pos}{e:Expr}{es:List Expr}{t:TA}{id T:String}{r:List V->Hp->VK->Prop}
def tCB(r:List V->Hp->VK->Prop)(t:TA):TE:=λσ H Q=>t σ H λvs H1=>r vs H1 Q
theorem q1d(hc:q5j X (.builtin id) r)(hg:Gl X x)(hm:X.mg x=none)(hv:bootBuiltins x=some (.builtin id))(ha:PA X (e::es) t)(hn:x≠"__name__":=by decide)(hdb:(x==("__debug__":Str))=false:=by decide)
 (he:starEach (e::es) X.env=(false,eval e X.env)::starEach es X.env:=by rfl) (hpl:(backTo pos (starEach es X.env)).any (·.1)=false:=by rfl):PE X (.Call (.Name x p) (e::es) [] pos) (tCB r t):=by
 intro z6 s σ H Q I h;refine xn (q48 I hg hm hv ?_ hn hdb);exact PyProof.Rows.callWith_builtin1 (thn (ha pos z6 s σ H _ I h) λus s1 ⟨vs,H1,I1,r1,q1⟩=>hc z6 s1 σ H1 vs us Q I1 r1 q1) he hpl
theorem q25(hc:q5j X (.type T) r)(hg:Gl X x)(hm:X.mg x=none)(hv:bootBuiltins x=some (.type T))(ha:PA X (e::es) t)(hn:x≠"__name__":=by decide)(hdb:(x==("__debug__":Str))=false:=by decide)
 (he:starEach (e::es) X.env=(false,eval e X.env)::starEach es X.env:=by rfl) (hpl:(backTo pos (starEach es X.env)).any (·.1)=false:=by rfl):PE X (.Call (.Name x p) (e::es) [] pos) (tCB r t):=by
 intro z6 s σ H Q I h;refine xn (q48 I hg hm hv ?_ hn hdb);exact PyProof.Rows.callWith_type1 (thn (ha pos z6 s σ H _ I h) λus s1 ⟨vs,H1,I1,r1,q1⟩=>hc z6 s1 σ H1 vs us Q I1 r1 q1) he hpl
end
end L2
namespace HT
open PySem PyProof.Rows
def lexLt:List Int->List Int->Bool
 |[],[]=>false
 |[],_::_=>true
 |_::_,[]=>false
 |x::xs,y::ys=>if x=y then lexLt xs ys else decide (x<y)
theorem rcLt_int(A:Around)(s:Shared)(a:Int)(t:Tok)(c:Int)(u:Tok)(prog:Program)(w:World)(E:Value->Shared->Prop)(Q:Value->Shared->Prop)(h:Q (.bool (decide (a<c))) s):
 wpAny (model prog w) A (richCompare .Lt (.int a t) (.int c u)) Q E s:=
 (PyProof.Rows.lt_int h:wpAny (model prog w) A (compareOp .Lt (.int a t) (.int c u)) Q E s)
section
open PySem.SeqAt
open PySem.AutoSeq1 (wpAny_loadPart')
open PySem.MeetsSeq PySem.MeetsSeq2 PySem.MeetsSeq3
end
section
variable{prog:Program}{w:World}{A:Around}{E:Value->Shared->Prop}{s:Shared}
def sIx(n d:Nat):Option Int->Nat
 |none=>d
 |some v=>if v<0 then(v+(n:Int)).toNat else min v.toNat n
theorem sIx_none(n d:Nat):sIx n d none=d:=rfl
theorem qn1(n d:Nat)(hd:d<=n)(o:Option Int):sIx n d o<=n:=by
 cases o with
 |none=>exact hd
 | some v=>
  show(if v<0 then(v+(n:Int)).toNat else min v.toNat n)<=n;by_cases hv:v<0
  ·rw[if_pos hv];omega
  ·rw[if_neg hv];exact Nat.min_le_right _ _
theorem qf4(v:Int)(n d:Nat):(if v<0 then max (v+(n:Int)) 0 else min v (n:Int))=((sIx n d (some v):Nat):Int):=by
 show(if v<0 then max (v+(n:Int)) 0 else min v (n:Int))=(((if v<0 then(v+(n:Int)).toNat else min v.toNat n):Nat):Int);by_cases hv:v<0
 ·simp only[if_pos hv];omega
 ·simp only[if_neg hv];omega
theorem qc7(lo hi:Option Int)(n:Nat):Builtin.Slice.sliceAdjust lo hi 1 (n:Int)=(((sIx n 0 lo:Nat):Int),((sIx n n hi:Nat):Int)):=by
 have h1:¬((1:Int)<0):=by omega
 unfold Builtin.Slice.sliceAdjust;simp only[h1,if_false];refine Prod.ext ?_ ?_
 ·cases lo with
  |none=>rfl
  |some v=>exact qf4 v n 0
 ·cases hi with
  |none=>rfl
  |some v=>exact qf4 v n n
theorem qbm(i j:Nat):Builtin.Slice.slicePlaces (i:Int) (j:Int) 1=j-i:=by
 unfold Builtin.Slice.slicePlaces;have h1:(1:Int)>0:=by omega
 simp only[h1,if_true,Int.ediv_one];split<;>omega
theorem q6w{v:Value}{o:Option Int}{Q:Option Int->Shared->Prop}(p:IsPart v o)(h:Q o s):wpAny (model prog w) A (Builtin.Slice.slicePartIndex v) Q E s:=by
 cases p with
 |none=>exact slicePart_none h
 |int i t=>exact slicePart_int h
theorem q5g{sl:Addr}{vl vu:Value}{lo hi:Option Int}{n:Nat}{Q:Int×Int×Nat->Shared->Prop}(hs:s.heap.IsSliceOf sl vl vu .none)(pl:IsPart vl lo)(pu:IsPart vu hi)
 (h:Q (((sIx n 0 lo:Nat):Int),1,sIx n n hi-sIx n 0 lo) s):wpAny (model prog w) A (Builtin.Slice.sliceApplied (.ref sl) (pure (n:Int))) Q E s:=by
 obtain⟨os,hos,hcs,hds⟩:=id hs;unfold Builtin.Slice.sliceApplied Builtin.Slice.sliceFields;refine ja (ja (xf hos hds (x:=vl) rfl (ja (xf hos hds (x:=vu) rfl (ja (xf hos hds (x:=.none) rfl (jc ?_)))))));refine ja (slicePart_none ?_);show wpAny _ _ (if((1:Int)==0)=true then _ else _) _ _ s;rw[if_neg (by decide)];refine ja (q6w pl (ja (q6w pu (ja (jc ?_)))));show wpAny _ _ (match Builtin.Slice.sliceAdjust lo hi 1 (n:Int)with|(lo,hi)=>pure (lo,(1:Int),Builtin.Slice.slicePlaces lo hi 1)) _ _ s;rw[qc7 lo hi n];show wpAny _ _ (pure (((sIx n 0 lo:Nat):Int),(1:Int),Builtin.Slice.slicePlaces ((sIx n 0 lo:Nat):Int) ((sIx n n hi:Nat):Int) 1)) _ _ s;rw[qbm];exact jc h
theorem qg9(xs:Array Value)(i k:Nat):((List.range k).filterMap λ(m:Nat)=>xs[((i:Int)+(m:Int)*1).toNat]?).toArray=((xs.toList.drop i).take k).toArray:=by
 have e:(λ(m:Nat)=>xs[((i:Int)+(m:Int)*1).toNat]?)=λm=>xs[i+m]? :=by
  funext m;have:((i:Int)+(m:Int)*1).toNat=i+m:=by omega
  rw[this]
 rw[e];have:=pick_run xs i k;rw[List.filterMap_map]at this;have e2:((λx=>xs[x]?)∘λx=>i+x)=λm=>xs[i+m]? :=rfl;rw[e2]at this;rw[this]
theorem getItem_tuple_cut{t sl:Addr}{items:Array Value}{vl vu:Value}{lo hi:Option Int}{Q:Value->Shared->Prop}(ht:IsTup s.heap t items)(hs:s.heap.IsSliceOf sl vl vu .none)(pl:IsPart vl lo)(pu:IsPart vu hi)
 (hw:¬(sIx items.size 0 lo=0/\sIx items.size items.size hi=items.size))
 (h:Q (.ref s.heap.objs.size) {s with heap:=s.heap.push {cls:=.type "tuple",data:=.seq ((items.toList.drop (sIx items.size 0 lo)).take (sIx items.size items.size hi-sIx items.size 0 lo)).toArray}})
 (hsz:items.size<=sizeLine):wpAny (model prog w) A (getItem (.ref t) (.ref sl)) Q E s:=by
 have htake:sizeOk (.seq ((items.toList.drop (sIx items.size 0 lo)).take (sIx items.size items.size hi-sIx items.size 0 lo)).toArray):=by show((items.toList.drop (sIx items.size 0 lo)).take (sIx items.size items.size hi-sIx items.size 0 lo)).toArray.size<=sizeLine;rw[x9,xu,kg,Array.length_toList];omega
 have hj:sIx items.size items.size hi<=items.size:=qn1 _ _ (jf _) hi;obtain⟨os,hos,hcs,hds⟩:=id hs;have hTs:s.TypeIs (.ref sl) "slice":=⟨os,hos,hcs⟩;unfold getItem
 try with_reducible refine wpAny_holding ?_
 first|refine ja (jc ?_)|skip
 refine ja (wpAny_sequenceKey ht.typeIs (by decide) ?_);refine ja (kl (name:=Str.ofString "__getitem__") ht.typeIs PyProof.Rows.slot_tuple_getitem
  (wpAny_call_entry PyProof.Rows.slot_tuple_getitem ht.typeIs entry_tuple_getitem ?_ (args_tuple_getitem _ _)))
 show wpAny _ _ (Builtin.Tuple.tupleItemsOf (.ref t) >>= _) _ _ s;refine ja (tupleItemsOf_ ht ?_);refine ja (wpAny_typeOf hTs ?_);rw[if_pos (by decide)];refine ja (q5g hs pl pu ?_);have hno:¬((((sIx items.size 0 lo:Nat):Int)==0&&(1:Int)==1&&(sIx items.size items.size hi-sIx items.size 0 lo)==items.size)=true):=by intro q;rw[Bool.and_eq_true,Bool.and_eq_true]at q;have q1:((sIx items.size 0 lo:Nat):Int)=0:=eq_of_beq q.1.1;have q2:sIx items.size items.size hi-sIx items.size 0 lo=items.size:=eq_of_beq q.2;exact hw ⟨by omega,by omega⟩
 show wpAny _ _ (if(((sIx items.size 0 lo:Nat):Int)==0&&(1:Int)==1&&(sIx items.size items.size hi-sIx items.size 0 lo)==items.size)=true then _ else _) _ _ s;rw[if_neg hno,qg9]
 first
  |exact ja (m:=Builtin.Tuple.tupleExact _) (xv (jc ⟨_,rfl,jc h⟩) htake)
  |exact ja (m:=Builtin.Tuple.tupleExact _) (xv (ja (jc (jc ⟨_,rfl,jc h⟩))) htake)
  |exact ja (ja (m:=Builtin.Tuple.tupleExact _) (xv (jc (jc ⟨_,rfl,jc h⟩)) htake))
  |exact ja (ja (m:=Builtin.Tuple.tupleExact _) (xv (jc ⟨_,rfl,jc h⟩) htake))
end
end HT
namespace L2
open PySem PySem.Spec PyProof.Rows
abbrev TO:=St->Hp->(Option Int->Hp->Prop)->Prop
def PO(X:Cx)(e:Option Expr)(t:TO):Prop:=
 ∀(z6:List (Addr×Obj)) (s:Shared) (σ:St) (H:Hp) (Q:Option Int->Hp->Prop),Inv X z6 σ H s->t σ H Q->
   wpAny (model X.prog X.w) X.A (evalPart e X.env) (λu s'=>∃o H',Inv X z6 σ H' s'/\IsPart u o/\Q o H') X.xe s
def qcg:TO:=λ_ H Q=>Q none H
def qma(t:TE):TO:=λσ H Q=>t σ H λx H1=>∃i,x=.int i/\Q (some i) H1
section
variable{X:Cx}{e:Expr}{te:TE}{lo hi:Option Expr}{tl th:TO}{pos p2:Pos}
theorem q9e:PO X none qcg:=by intro z6 s σ H Q I h;rw[evalPart_none];exact jc ⟨none,H,I,.none,h⟩
theorem q4f(h:PE X e te):PO X (some e) (qma te):=by intro z6 s σ H Q I hw;rw[evalPart_some];refine thn (h z6 s σ H _ I hw) λu s1 ⟨x,H1,I1,r1,q1⟩=>?_;obtain⟨i,rfl,q⟩:=q1;obtain⟨t,rfl⟩:=r1;exact⟨some i,H1,I1,.int i t,q⟩
def SlR(X:Cx)(r:V->Option Int->Option Int->Hp->VK->Prop):Prop:=
 ∀(z6:List (Addr×Obj)) (s:Shared) (σ:St) (H:Hp) (x:V) (v vl vu:Value) (lo hi:Option Int) (sl:Addr) (Q:VK),Inv X z6 σ H s->RelV x v->s.heap.IsSliceOf sl vl vu .none->IsPart vl lo->IsPart vu hi->r x lo hi H Q->
   ∃T id,typeLookup (.type T) "__getitem__"=pure (some (.builtin id))/\s.TypeIs v T/\wpAny (model X.prog X.w) X.A (getItem v (.ref sl)) (EP X z6 σ Q) X.xe s
theorem SlR.or{r r':V->Option Int->Option Int->Hp->VK->Prop}(h:SlR X r)(h':SlR X r'):SlR X (λx lo hi H Q=>r x lo hi H Q∨r' x lo hi H Q):=by
 intro z6 s σ H x v vl vu lo hi sl Q I rx hs pl pu q;rcases q with q|q
 ·exact h z6 s σ H x v vl vu lo hi sl Q I rx hs pl pu q
 ·exact h' z6 s σ H x v vl vu lo hi sl Q I rx hs pl pu q
def tSl(r:V->Option Int->Option Int->Hp->VK->Prop)(te:TE)(tl th:TO):TE:=λσ H Q=>te σ H λx H1=>tl σ H1 λl H2=>th σ H2 λu H3=>r x l u H3 Q
theorem q4r{r:V->Option Int->Option Int->Hp->VK->Prop}(hr:SlR X r)(he:PE X e te)(hl:PO X lo tl)(hu:PO X hi th):PE X (.Subscript e (.Slice lo hi none p2) pos) (tSl r te tl th):=by intro z6 s σ H Q I h;refine Subscript_ (thn (he z6 s σ H _ I h) λv s1 ⟨x,H1,I1,r1,q1⟩=>?_);refine wpAny_Slice (thn (hl z6 s1 σ H1 _ I1 q1) λvl s2 ⟨l,H2,I2,pl,q2⟩=>thn (hu z6 s2 σ H2 _ I2 q2) λvu s3 ⟨u,H3,I3,pu,q3⟩=>?_);rw[evalPart_none];refine jc ?_;have I4:Inv X z6 σ H3 {s3 with heap:=s3.heap.push {cls:=.type "slice",data:=.fields #[vl,vu,.none]}}:=I3.kept (t':=s3.toks) λb ob q=>je _ q;obtain⟨T,id,hT,ht,hg⟩:=hr z6 {s3 with heap:=s3.heap.push {cls:=.type "slice",data:=.fields #[vl,vu,.none]}} σ H3 x v vl vu l u s3.heap.objs.size Q I4 r1 (Heap.IsSliceOf.new ..) pl pu q3;show wpAny (model X.prog X.w) X.A (subscriptTail e (.Slice lo hi none p2) v (.ref s3.heap.objs.size)) (EP X z6 σ Q) X.xe {s3 with heap:=s3.heap.push {cls:=.type "slice",data:=.fields #[vl,vu,.none]}};exact tail_any (ops:=[.ref s3.heap.objs.size,v]) ht hT hg (by with_unfolding_all rfl)
def cutV(xs:List V)(lo hi:Option Int):List V:=(xs.drop (HT.sIx xs.length 0 lo)).take (HT.sIx xs.length xs.length hi-HT.sIx xs.length 0 lo)
theorem q6n(xs:List V)(lo hi:Option Int):(cutV xs lo hi).length<=xs.length:=by unfold cutV;rw[xu,kg];omega
def rSlT(K:FrG):V->Option Int->Option Int->Hp->VK->Prop:=λx lo hi H Q=>∃a xs,x=.ref a/\SqT K H a xs/\
 ¬(HT.sIx xs.length 0 lo=0/\HT.sIx xs.length xs.length hi=xs.length)/\∀p,H p=none->Q (.ref p) (upd H p (.tup (cutV xs lo hi)))
theorem qmi:SlR X (rSlT X.K):=by
 intro z6 s σ H x v vl vu lo hi sl Q I rx hs pl pu h;obtain⟨a,xs,rfl,hx,hw,q⟩:=h;cases rx;obtain⟨its,r,ht,hz⟩:=I.tuple hx;have z9:its.toArray.size=xs.length:=by rw[x9];exact r.length.symm
 refine⟨"tuple",_,PyProof.Rows.slot_tuple_getitem.lookup,ht.typeIs,?_⟩;refine HT.getItem_tuple_cut ht hs pl pu (by rw[z9];exact hw) ?_ (by rw[z9];exact hz);rw[z9];refine⟨.ref s.heap.objs.size,_,I.laid (t':=s.toks) (o:=.tup (cutV xs lo hi)) (λb ob q=>je _ q) (jf _) ?_,rfl,q _ (I.hok.fresh (jf _))⟩;exact⟨ju (q6n xs lo hi) hz,_,(r.drop (HT.sIx xs.length 0 lo)).take (HT.sIx xs.length xs.length hi-HT.sIx xs.length 0 lo),TupN.new _ _⟩
theorem Vals.nil_iff{xs:List V}{us:List Value}(r:Vals xs us):us=[]↔xs=[]:=by
 cases r with
 |nil=>simp
 |cons _ _=>simp
end
def ixN(n:Nat)(i:Int):Option Nat:=if 0<=i then(if i<n then some i.toNat else none)else if -(n:Int)<=i then some (i+n).toNat else none
def atI{α:Type}(xs:List α)(i:Int):Option α:=(ixN xs.length i).bind λj=>xs[j]?
theorem qkp{n:Nat}{i:Int}{j:Nat}(h:ixN n i=some j):seqIndex? i n=some j/\j<n/\ -(n:Int)<=i/\i<n:=by
 unfold ixN at h;by_cases h0:0<=i
 ·rw[if_pos h0]at h;by_cases h1:i<n
  ·rw[if_pos h1]at h;have e:i.toNat=j:=jh h;exact⟨by rw[seqIndex_of h0 h1,e],by omega,by omega,h1⟩
  ·rw[if_neg h1]at h;cases h
 ·rw[if_neg h0]at h;by_cases h1: -(n:Int)<=i
  ·rw[if_pos h1]at h;have e:(i+n).toNat=j:=jh h;exact⟨by rw[seqIndex_neg (by omega) h1,e],by omega,h1,by omega⟩
  ·rw[if_neg h1]at h;cases h
theorem qa2{α:Type}{xs:List α}{i:Int}{v:α}(h:atI xs i=some v):∃j,seqIndex? i xs.length=some j/\xs[j]? =some v/\j<xs.length/\ -(xs.length:Int)<=i/\i<xs.length:=by
 unfold atI at h;cases e:ixN xs.length i with
 |none=>rw[e]at h;cases h
 | some j=>
  rw[e]at h;obtain⟨h1,h2,h3,h4⟩:=qkp e;exact⟨j,h1,h,h2,h3,h4⟩
theorem qa1{α:Type}{xs:List α}{j:Nat}{v:α}(h:xs[j]? =some v):atI xs (j:Int)=some v:=by
 have hj:j<xs.length:=(List.getElem?_eq_some_iff.mp h).1;have e:ixN xs.length (j:Int)=some j:=by unfold ixN;rw[if_pos (by omega),if_pos (by omega)];simp
 unfold atI;rw[e];exact h
def qm0(b:Expr):Prop:=∀o i,subscripted b false o i=operate [o,i] (getItem o i)
def IxR(X:Cx)(r:R2):Prop:=
 ∀(value zl:Expr) (z6:List (Addr×Obj)) (s:Shared) (σ:St) (H:Hp) (x y:V) (v u:Value) (Q:VK),Inv X z6 σ H s->RelV x v->RelV y u->r x y H Q->
   subscripted zl false v u=operate [v,u] (getItem v u)->wpAny (model X.prog X.w) X.A (subscriptTail value zl v u) (EP X z6 σ Q) X.xe s
def MtR(X:Cx)(id:String)(r:V->List V->Hp->VK->Prop):Prop:=
 ∀(z6:List (Addr×Obj)) (s:Shared) (σ:St) (H:Hp) (x:V) (xs:List V) (v:Value) (us:List Value) (Q:VK),Inv X z6 σ H s->RelV x v->Vals xs us->r x xs H Q->
   wpAny (model X.prog X.w) X.A (call (.builtin id) (v::us)) (EP X z6 σ Q) X.xe s
section
variable{X:Cx}{a b:Expr}{ta tb:TE}{pos:Pos}
theorem IxR.or{r r':R2}(h:IxR X r)(h':IxR X r'):IxR X (λx y H Q=>r x y H Q∨r' x y H Q):=by
 intro value zl z6 s σ H x y v u Q I rx ry q hs;rcases q with q|q
 ·exact h value zl z6 s σ H x y v u Q I rx ry q hs
 ·exact h' value zl z6 s σ H x y v u Q I rx ry q hs
theorem q0w{r:R2}(hr:IxR X r)(ha:PE X a ta)(hb:PE X b tb)(hs:qm0 b:=by exact λ_ _=>rfl):PE X (.Subscript a b pos) (tOp r ta tb):=by intro z6 s σ H Q I h;exact Subscript_ (binT ha hb I h λv u s2 x y H2 I2 rx ry q=>hr a b z6 s2 σ H2 x y v u Q I2 rx ry q (hs _ _))
def rIxL(K:FrG):R2:=λx y H Q=>∃p xs i v,x=.ref p/\y=.int i/\SqL K H p xs/\atI xs i=some v/\Q v H
def rIxT(K:FrG):R2:=λx y H Q=>∃p xs i v,x=.ref p/\y=.int i/\SqT K H p xs/\atI xs i=some v/\Q v H
def rIxS:R2:=λx y H Q=>∃z i c,x=.str z/\y=.int i/\z.length<=sizeLine/\atI z.cps.toList i=some c/\Q (.str ⟨#[c]⟩) H
theorem ix_list:IxR X (rIxL X.K):=by
 intro value zl z6 s σ H x y v u Q I rx ry h hs;obtain⟨p,xs,i,z,rfl,rfl,hq,he,q⟩:=h;cases rx;obtain⟨t,rfl⟩:=ry;obtain⟨its,r,pl,hz⟩:=I.list hq;obtain⟨j,h1,h2,h3,h4,h5⟩:=qa2 he;obtain⟨w,ew,rw'⟩:=r.get h2;have hl:=r.length;have hn:=qao;have fin:EP X z6 σ Q w s:=⟨z,H,I,rw',q⟩;by_cases h0:0<=i
 ·have hj:i.toNat=j:=by
   rw[seqIndex_of h0 h5]at h1;exact jh h1
  exact item_listR pl.isList h0 (by omega) (by rw[hj];simpa using ew) fin hs
 ·have hj:(i+(its.toArray.size:Int)).toNat=j:=by
   rw[seqIndex_neg (by omega) h4]at h1;rw[x9,<-hl];exact jh h1
  exact subscriptTail_builtinR (x:=w) pl.isList.typeIs slot_list_getitem.lookup
   (wpAny_getItem_list_neg (Q:=λr s'=>r=w/\EP X z6 σ Q r s') pl.isList (by omega) (by rw[x9]<;>omega) (by omega) (by rw[hj];simpa using ew) ⟨rfl,fin⟩) hs
theorem ix_tup:IxR X (rIxT X.K):=by
 intro value zl z6 s σ H x y v u Q I rx ry h hs;obtain⟨p,xs,i,z,rfl,rfl,hq,he,q⟩:=h;cases rx;obtain⟨t,rfl⟩:=ry;obtain⟨its,r,pl,hz⟩:=I.tuple hq;obtain⟨j,h1,h2,h3,h4,h5⟩:=qa2 he;obtain⟨w,ew,rw'⟩:=r.get h2;have hl:=r.length;have hn:=qao;have fin:EP X z6 σ Q w s:=⟨z,H,I,rw',q⟩;exact subscriptTail_builtinR (x:=w) pl.typeIs slot_tuple_getitem.lookup
  (getItem_tuple (j:=j) (Q:=λr s'=>r=w/\EP X z6 σ Q r s') pl (by omega) (by omega) (by rw[x9,<-hl];exact h1) (by simpa using ew) ⟨rfl,fin⟩) hs
theorem qpe:IxR X rIxS:=by
 intro value zl z6 s σ H x y v u Q I rx ry h hs;obtain⟨z,i,c,rfl,rfl,hz,he,q⟩:=h;obtain⟨t,rfl⟩:=rx;obtain⟨t',rfl⟩:=ry;obtain⟨j,h1,h2,h3,h4,h5⟩:=qa2 he;have hl:z.cps.toList.length=z.length:=by simp[Str.length]
 rw[hl]at h1 h4 h5;have hn:=qao;exact tail_any (typeIs_str s z t) slot_str_getitem.lookup (getItem_str (c:=c) (by have e1:decide (i< -(2^63:Int))=false:=decide_eq_false (by omega);have e2:decide (i≥2^63)=false:=decide_eq_false (by omega);rw[e1,e2,Bool.or_false]) (by rw[h1];simpa using h2) ⟨.str ⟨#[c]⟩,H,I.tok _,⟨_,rfl⟩,q⟩) hs
def rIx(K:FrG):R2:=λx y H Q=>rIxL K x y H Q∨rIxT K x y H Q∨rIxS x y H Q
theorem qpf:IxR X (rIx X.K):=ix_list.or (ix_tup.or qpe)
theorem Inv.lst{z6:List (Addr×Obj)}{σ:St}{H:Hp}{s:Shared}{p:Addr}{xs:List V}(I:Inv X z6 σ H s)(h:H p=some (.lst xs)):
 ∃(its:List Value) (n:Nat),Vals xs its/\s.heap.get? p=some {cls:=.type "list",data:=.seq its.toArray n}/\xs.length<=sizeLine:=by
 obtain⟨z,its,n,r,e⟩:=I.hok p _ h;exact⟨its,n,r,e,z⟩
theorem q87(lo hi:Option Int)(n:Nat):(sliceBounds lo hi none n).1=((HT.sIx n 0 lo:Nat):Int)/\(sliceBounds lo hi none n).2.1=((HT.sIx n n hi:Nat):Int)/\(sliceBounds lo hi none n).2.2=1:=by
 refine⟨?_,?_,rfl⟩
 ·cases lo with
  |none=>simp[sliceBounds,HT.sIx]
  | some i=>
   simp only[sliceBounds,HT.sIx,Option.getD_none,show(1:Int)>0 by decide,if_true];by_cases h:i<0
   ·simp only[h,if_true]<;>omega
   ·simp only[h,if_false]<;>omega
 ·cases hi with
  |none=>simp[sliceBounds,HT.sIx]
  | some i=>
   simp only[sliceBounds,HT.sIx,Option.getD_none,show(1:Int)>0 by decide,if_true];by_cases h:i<0
   ·simp only[h,if_true]<;>omega
   ·simp only[h,if_false]<;>omega
theorem q7j(its:List Value)(lo hi:Option Int):slicePick its.toArray lo hi none=((its.drop (HT.sIx its.length 0 lo)).take (HT.sIx its.length its.length hi-HT.sIx its.length 0 lo)).toArray:=by obtain⟨h1,h2,h3⟩:=q87 lo hi its.toArray.size;unfold slicePick;rw[h1,h2,h3];simp only[sliceRange_one,pick_run,List.size_toArray]<;>rfl
def rSlL(K:FrG):V->Option Int->Option Int->Hp->VK->Prop:=λx lo hi H Q=>∃a xs,x=.ref a/\SqL K H a xs/\∀p,H p=none->Q (.ref p) (upd H p (.lst (cutV xs lo hi)))
theorem sl_list:SlR X (rSlL X.K):=by intro z6 s σ H x v vl vu lo hi sl Q I rx hs pl pu h;obtain⟨a,xs,rfl,hx,q⟩:=h;cases rx;obtain⟨its,r,ht,hz⟩:=I.list hx;have z9:=r.length;refine⟨"list",_,slot_list_getitem.lookup,ht.isList.typeIs,?_⟩;refine wpAny_getItem_list_slice ht.isList hs pl pu .none (by simp) ?_ (by rw[List.size_toArray]<;>omega);rw[q7j,<-z9];refine⟨.ref s.heap.objs.size,_,I.laid (t':=s.toks) (o:=.lst (cutV xs lo hi)) (λb ob q=>je _ q) (jf _) ?_,rfl,q _ (I.hok.fresh (jf _))⟩;exact⟨ju (q6n xs lo hi) hz,_,0,(r.drop (HT.sIx xs.length 0 lo)).take (HT.sIx xs.length xs.length hi-HT.sIx xs.length 0 lo),jo _ rfl⟩
theorem q90:q5j X (.builtin "len") (λxs H Q=>∃p ys,xs=[.ref p]/\(SqL X.K H p ys∨SqT X.K H p ys)/\Q (.int ys.length) H):=by
 intro z6 s σ H xs us Q I r h;obtain⟨p,ys,rfl,hq,q⟩:=h;obtain⟨u,rfl,rx⟩:=vals1 r;cases rx;have hn:=qao;rcases hq with hq|hq
 ·obtain⟨its,r',pl,hz⟩:=I.list hq;have z9:=r'.length;exact Calls.call_len_list pl.isList (by simp only[List.size_toArray]<;>omega) ⟨.int ys.length,H,I.tok _,⟨s.toks+1,by rw[x9,z9]⟩,q⟩
 ·obtain⟨its,r',pl,hz⟩:=I.tuple hq;have z9:=r'.length;exact len_tuple pl (by simp only[List.size_toArray]<;>omega) ⟨.int ys.length,H,I.tok _,⟨s.toks+1,by rw[x9,z9]⟩,q⟩
theorem q8z:q5j X (.type "list") (λxs H Q=>∃p ys,xs=[.ref p]/\(SqL X.K H p ys∨SqT X.K H p ys)/\∀l,H l=none->Q (.ref l) (upd H l (.lst ys))):=by
 intro z6 s σ H xs us Q I r h;obtain⟨p,ys,rfl,hq,q⟩:=h;obtain⟨u,rfl,rx⟩:=vals1 r;cases rx;have fin:∀(its:List Value),Vals ys its->ys.length<=sizeLine->∀(h':Heap) (c':Nat),(∀b o',s.heap.get? b=some o'->h'.get? b=some o')->
  h'.get? s.heap.objs.size=some {cls:=.type "list",dict:=none,data:=.seq its.toArray c',slots:=#[]}->EP X z6 σ Q (.ref s.heap.objs.size) {s with heap:=h'}:=λits r' hz h' c' kp e=>
  ⟨.ref s.heap.objs.size,_,I.laid (t':=s.toks) kp (jf _) (show ObjOk X.prog X.w _ h' _ (.lst ys)from⟨hz,its,c',r',e⟩),rfl,q _ (I.hok.fresh (jf _))⟩
 rcases hq with hq|hq
 ·obtain⟨its,r',pl,hz⟩:=I.list hq;have z9:=r'.length;obtain⟨o,ho,hc,n,hd⟩:=pl.isList;exact call_list_seq p (.inl rfl) ho hc hd (λh' c' kp e=>fin its r' hz h' c' kp e) (by simp only[List.size_toArray]<;>omega)
 ·obtain⟨its,r',pl,hz⟩:=I.tuple hq;have z9:=r'.length;obtain⟨o,ho,hc,n,hd⟩:=pl;exact call_list_seq p (.inr rfl) ho hc hd (λh' c' kp e=>fin its r' hz h' c' kp e) (by simp only[List.size_toArray]<;>omega)
theorem q7y:q5j X (.type "tuple") (λxs H Q=>∃p ys,xs=[.ref p]/\((SqL X.K H p ys/\∀l,H l=none->Q (.ref l) (upd H l (.tup ys)))∨(SqT X.K H p ys/\Q (.ref p) H))):=by
 intro z6 s σ H xs us Q I r h;obtain⟨p,ys,rfl,h⟩:=h;obtain⟨u,rfl,rx⟩:=vals1 r;cases rx;rcases h with⟨hq,q⟩|⟨hq,q⟩
 ·obtain⟨its,r',pl,hz⟩:=I.list hq;have z9:=r'.length;refine call_tuple_list pl.isList (λh' kp=>?_) (by simp only[List.size_toArray]<;>omega);have I1:Inv X z6 σ H {s with heap:=h'}:=I.kept (t':=s.toks) kp;have I2:Inv X z6 σ (upd H h'.objs.size (.tup ys)) {s with heap:=h'.push {cls:=.type "tuple",data:=.seq its.toArray}}:=
   I1.laid (t':=s.toks) (λb o e=>je _ e) (jf _) (show ObjOk X.prog X.w _ _ _ (.tup ys)from⟨hz,its,r',TupN.new _ _⟩)
  exact⟨.ref h'.objs.size,_,I2,rfl,q _ (I1.hok.fresh (jf _))⟩
 ·obtain⟨its,r',pl,hz⟩:=I.tuple hq;exact call_tuple_same pl ⟨.ref p,H,I,rfl,q⟩
def tyV(K:FrG)(T:String)(x:V)(H:Hp):Prop:=match x with
 |.str _=>T="str"
 |.int _=>T="int"
 |.ref p=>(T="list"/\∃xs,SqL K H p xs)∨(T="tuple"/\∃o,K.lookup p=some o/\o.cls=.type "tuple"/\o.dict=none)∨
  (T="dict"/\((∃kvs,H p=some (.dK kvs))∨∃kvs,H p=some (.dT kvs)))∨(T="set"/\∃S n,H p=some (.set S n))
 |_=>False
theorem qm6{z6:List (Addr×Obj)}{σ:St}{H:Hp}{s:Shared}{T:String}{x:V}{v:Value}(I:Inv X z6 σ H s)(r:RelV x v)(ty:tyV X.K T x H):
 s.TypeIs v T/\∀a,v=.ref a->∃ob,s.heap.get? a=some ob/\ob.dict=none:=by
 cases x with
 | str z=>
  obtain⟨t,rfl⟩:=r;cases(show T="str" from ty);exact⟨typeIs_str s z t,λ_ e=>nomatch e⟩
 | int i=>
  obtain⟨t,rfl⟩:=r;cases(show T="int" from ty);exact⟨typeIs_int s i t,λ_ e=>nomatch e⟩
 | ref p=>
  cases r;rcases ty with⟨rfl,xs,hq⟩|⟨rfl,o,hk,hc,hd⟩|⟨rfl,hk⟩|⟨rfl,S,n,hk⟩
  ·obtain⟨its,_,pl,_⟩:=I.list hq;refine⟨pl.isList.typeIs,λa e=>?_⟩;cases e;obtain⟨o,n,e,c,hd,_⟩:=pl;exact⟨o,e,hd⟩
  ·refine⟨⟨o,I.kIn p o hk,hc⟩,λa e=>?_⟩;cases e;exact⟨o,I.kIn _ o hk,hd⟩
  ·have z:∃o,s.heap.get? p=some o/\o.ExactDict:=by
    rcases hk with⟨kvs,hk⟩|⟨kvs,hk⟩
    ·obtain⟨_,_,_,_,o,_,e,ex,_⟩:=I.hok p _ hk;exact⟨o,e,ex⟩
    ·obtain⟨_,_,_,_,o,_,_,e,ex,_⟩:=I.hok p _ hk;exact⟨o,e,ex⟩
   obtain⟨o,e,ex⟩:=z;refine⟨⟨o,e,ex.1⟩,λa e2=>?_⟩;cases e2;exact⟨o,e,ex.2.1⟩
  ·obtain⟨o,_,_,_,e,ex,_⟩:=I.hok p _ hk;refine⟨⟨o,e,ex.1⟩,λa e2=>?_⟩;cases e2;exact⟨o,e,ex.2.1⟩
 |_=>exact False.elim ty
def tBM(K:FrG)(T:String)(r:V->List V->Hp->VK->Prop)(to:TE)(t:TA):TE:=λσ H Q=>to σ H λx H1=>tyV K T x H1/\t σ H1 λxs H2=>r x xs H2 Q
variable{o e:Expr}{es:List Expr}{to:TE}{t:TA}{name:Str}{zv zi:Pos}{T id:String}{r:V->List V->Hp->VK->Prop}
theorem q61(pa:PlainAttrs T)(slot:Slot T name id)(hty:typeOf (.builtin id)=pure (.type "method_descriptor"))(hm:MtR X id r)(ho:PE X o to)(ha:PA X (e::es) t)
 (hbase:attributeBase o name X.env (eval o X.env)=eval o X.env:=by rfl)
 (hfew:((backTo zi (starEach (e::es) X.env)).all (λx=>!x.1)&&(backToKw zi (keywordEach [] X.env)).all (λx=>x.1.isSome)
   &&decide ((e::es).length+([]:List Keyword).length+(if([]:List Keyword).isEmpty then 0 else 1)<30))=true:=by rfl)
 (hline:(zv.endLine==zi.line)=true:=by rfl) (hs:starEach (e::es) X.env=(false,eval e X.env)::starEach es X.env:=by rfl) (hplain:(backTo zi (starEach es X.env)).any (·.1)=false:=by rfl):
 PE X (.Call (.Attribute o name zv) (e::es) [] zi) (tBM X.K T r to t):=by
 intro z6 s σ H Q I h;refine wpAny_Call_method_late hbase hfew hline rfl (thn (ho z6 s σ H _ I h) λv s1 ⟨x,H1,I1,r1,ty,q1⟩=>?_);obtain⟨h1,h2⟩:=qm6 I1 r1 ty;refine⟨T,id,pa,slot,hty,h1,h2,?_⟩;have hA:=ha zi z6 s1 σ H1 _ I1 q1;rw[hs]at hA ⊢;refine Calls.callWith_builtin (by show(false||(backTo zi (starEach es X.env)).any (·.1))=false;rw[hplain]<;>rfl) (Calls.evalArgs_plain ?_);exact thn hA λus s2 ⟨vs,H2,I2,r2,q2⟩=>hm z6 s2 σ H2 x vs v us Q I2 r1 r2 q2
end
def MtM(X:Cx)(id:String)(r:V->List V->Hp->VK->Prop):Prop:=
 ∀(z6:List (Addr×Obj)) (s:Shared) (σ:St) (H:Hp) (x:V) (xs:List V) (v:Value) (us:List Value) (Q:VK),Inv X z6 σ H s->RelV x v->Vals xs us->r x xs H Q->
   wpAny (model X.prog X.w) X.A (call (.builtin id) (v::us)) (EP X z6 σ Q) X.xe s
theorem Vals.one:∀{x:V} {us:List Value},Vals [x] us->∃u,us=[u]/\RelV x u
 |_,_,.cons r .nil=>⟨_,rfl,r⟩
theorem Vals.reverse{xs:List V}{us:List Value}(h:Vals xs us):Vals xs.reverse us.reverse:=by
 induction h with
 |nil=>exact .nil
 |cons r t ih=>rw[List.reverse_cons,List.reverse_cons];exact Vals.append ih (.cons r .nil)
theorem Vals.rep{xs:List V}{us:List Value}(h:Vals xs us):∀k:Nat,Vals (List.replicate k xs).flatten (List.replicate k us).flatten
 |0=>.nil
 | k+1=>by rw[List.replicate_succ,List.replicate_succ,List.flatten_cons,List.flatten_cons];exact Vals.append h (Vals.rep h k)
theorem foldl_rep(its:List Value):∀(k:Nat) (acc:List Value),
 List.foldl (λx1 x2=>x1++x2) acc.toArray (List.replicate k its.toArray)=(acc++(List.replicate k its).flatten).toArray
 |0,acc=>by simp
 | k+1,acc=>by
  have e:acc.toArray++its.toArray=(acc++its).toArray:=by simp
  have e2:(acc++its)++(List.replicate k its).flatten=acc++(List.replicate (k+1) its).flatten:=by rw[List.replicate_succ,List.flatten_cons,List.append_assoc]
  rw[<-e2,<-foldl_rep its k (acc++its),<-e,List.replicate_succ,List.foldl_cons]
section
variable{X:Cx}{z6:List (Addr×Obj)}{σ:St}{H:Hp}{s:Shared}{l b:Addr}{xs ys zs:List V}
theorem Inv.lset{its its':List Value}{n:Nat}{f:Array Value->Array Value}{t':Nat}(I:Inv X z6 σ H s)(hH:H l=some (.lst xs))
 (e:s.heap.get? l=some {cls:=.type "list",data:=.seq its.toArray n}) (hf:f its.toArray=its'.toArray) (hv:Vals ys its') (hz:ys.length<=sizeLine):
 Inv X z6 σ (upd H l (.lst ys)) {s with heap:=s.heap.update l (Obj.mapSeq f),toks:=t'}:=by
 have q:=PySem.IsL.update e f;rw[hf]at q;refine I.write (x:=l) (e:=l) (by rw[hH];exact trivial) (.inl rfl) (λb' u hb hu=>(k7 s.heap (Obj.mapSeq f) (Ne.symm hb)).trans hu) ⟨_,q⟩ ?_;exact⟨hz,its',_,hv,q⟩
theorem Inv.lnew{its:List Value}{t':Nat}(I:Inv X z6 σ H s)(hv:Vals ys its)(hz:ys.length<=sizeLine):
 Inv X z6 σ (upd H s.heap.objs.size (.lst ys)) {s with heap:=s.heap.push {cls:=.type "list",data:=.seq its.toArray},toks:=t'}:=
 I.laid (λ_ _ q=>je _ q) (jf _) ⟨hz,its,0,hv,jo _ rfl⟩
theorem Inv.fresh(I:Inv X z6 σ H s):H s.heap.objs.size=none:=I.hok.fresh (jf _)
theorem Inv.lstM(I:Inv X z6 σ H s)(hH:H l=some (.lst xs)):xs.length<=sizeLine/\∃(its:List Value) (n:Nat),Vals xs its/\xs.length=its.length/\s.heap.get? l=some {cls:=.type "list",data:=.seq its.toArray n}:=by obtain⟨z,its,n,r,e⟩:=I.hok l _ hH;exact⟨z,its,n,r,r.length,e⟩
theorem qai{n:Nat}(h:n<=sizeLine):Builtin.List.listTooLong n=false:=by unfold Builtin.List.listTooLong;exact decide_eq_false (by omega)
end
section
variable{X:Cx}
def q39:V->List V->Hp->VK->Prop:=λx vs H Q=>∃l xs y,x=.ref l/\vs=[y]/\H l=some (.lst xs)/\xs.length<sizeLine/\Q .non (upd H l (.lst (xs++[y])))
theorem q2i:MtM X "list.append" q39:=by intro z6 s σ H x vs v us Q I rx rv h;obtain⟨l,xs,y,rfl,rfl,hH,hz,q⟩:=h;cases rx;obtain⟨u,rfl,ru⟩:=rv.one;obtain⟨z,its,n,r,hl,e⟩:=I.lstM hH;refine call_meets F.slot_list_append ⟨_,e,rfl⟩ F.entry_list_append (F.args_list_append_2 _ _) (PySem.list_append l its.toArray n u (by rw[x9];omega)) ⟨e,?_⟩;refine⟨.non,_,I.lset (its':=its++[u]) hH e (by simp) (r.append (.cons ru .nil)) ?_,rfl,q⟩;rw[jy,List.length_singleton];omega
def qdf:V->List V->Hp->VK->Prop:=λx vs H Q=>∃l b xs zs,x=.ref l/\vs=[.ref b]/\H l=some (.lst xs)/\H b=some (.lst zs)/\xs.length+zs.length<=sizeLine/\Q .non (upd H l (.lst (xs++zs)))
theorem q8m:MtM X "list.extend" qdf:=by
 intro z6 s σ H x vs v us Q I rx rv h;obtain⟨l,b,xs,zs,rfl,rfl,hH,hB,hz,q⟩:=h;cases rx;obtain⟨u,rfl,ru⟩:=rv.one;cases ru;obtain⟨z,its,n,r,hl,e⟩:=I.lstM hH;obtain⟨z2,its2,n2,r2,hl2,e2⟩:=I.lstM hB;have hsz:its.toArray.size+its2.toArray.size<=sizeLine:=by rw[x9,x9];omega
 have hlong:¬(!its.toArray.isEmpty&&Builtin.List.listTooLong (its.toArray.size+its2.toArray.size))=true:=by rw[qai hsz,Bool.and_false];exact Bool.false_ne_true
 refine call_meets F.slot_list_extend ⟨_,e,rfl⟩ F.entry_list_extend (F.args_list_extend_2 _ _)
  (AutoSeq1.list_extend_list_list_0 l its.toArray n b its2.toArray n2 hlong (by rw[x9];omega) (by omega)) ⟨e,e2,?_⟩
 refine⟨.non,_,I.lset (its':=its++its2) hH e (by simp) (r.append r2) ?_,rfl,q⟩;rw[jy];omega
def rRep:R2:=λx y H Q=>∃l k xs,x=.ref l/\y=.int k/\H l=some (.lst xs)/\ -(2^63)<=k/\k<2^63/\xs.length*k.toNat<=sizeLine/\
 ∀p,H p=none->Q (.ref p) (upd H p (.lst (List.replicate k.toNat xs).flatten))
theorem len_rep{α:Type}(xs:List α)(k:Nat):(List.replicate k xs).flatten.length=k*xs.length:=by
 induction k with
 |zero=>simp
 |succ k ih=>rw[List.replicate_succ,List.flatten_cons,jy,ih,Nat.succ_mul,Nat.add_comm]
theorem qig:OpR X (binaryOp .Mult) rRep:=by
 intro z6 s σ H x y v u Q I rx ry h;obtain⟨l,k,xs,rfl,rfl,hH,h1,h2,hz,q⟩:=h;cases rx;obtain⟨t,rfl⟩:=ry;obtain⟨z,its,n,r,hl,e⟩:=I.lstM hH;have z9:its.toArray.size*k.toNat<=sizeLine:=by rw[x9,<-hl];exact hz
 have hcap:¬its.toArray.size*k.toNat>(2^63-1) / 8:=by
  have:(sizeLine:Nat)<=(2^63-1) / 8:=by decide
  omega
 have hfit:¬(!Builtin.List.listFitsIndex k)=true:=by rw[fitsIndex_both h1 h2];exact Bool.false_ne_true
 have hlong:¬Builtin.List.listTooLong (its.toArray.size*k.toNat)=true:=by rw[qai z9];exact Bool.false_ne_true
 have hnew:List.foldl (λx1 x2=>x1++x2) #[] (List.replicate (if its.toArray.isEmpty=true then 0 else k.toNat) its.toArray)=(List.replicate k.toNat its).flatten.toArray:=by
  have f0:∀m:Nat,List.foldl (λx1 x2=>x1++x2) #[] (List.replicate m its.toArray)=(List.replicate m its).flatten.toArray:=λm=>by have:=foldl_rep its m [];rw[List.nil_append]at this;exact this
  rw[f0];cases its with
  |nil=>simp
  |cons a r'=>rw[if_neg (by simp)]
 refine wpAny_binaryOp_repeat_ref (T:="list") (U:="int") (by decide) ⟨_,e,rfl⟩ (λs'=>typeIs_int s' k t) noFill_list_mul F.fills_int_mul F.slot_int_rmul repeat_list F.slot_int_index.lookup
  (call_meets F.slot_int_rmul (typeIs_int s k t) F.entry_int_rmul (F.args_int_rmul_2 _ _) (int___rmul___int_list k t l its.toArray n)
    ⟨e,rfl,⟨_,e,rfl⟩,call_meets F.slot_list_mul ⟨_,e,rfl⟩ F.entry_list_mul (F.args_list_mul_2 _ _) (AutoListH.list___mul___list_int_3 l its.toArray n k t hfit hcap hlong) ⟨e,?_⟩⟩)
 rw[hnew];exact⟨.ref _,_,I.lnew (t':=s.toks) (r.rep k.toNat) (by rw[len_rep,Nat.mul_comm];exact hz),rfl,q _ I.fresh⟩
end
section
variable{prog:Program}{w:World}{A:Around}{E:Value->Shared->Prop}{s:Shared}
end
section
variable{X:Cx}
end
end L2
namespace Att
open PySem PySem.W PySem.Calls PyProof.Rows
theorem q6h{P:Params}{h:Heap}:∀(ns:List Int) (vs:List Value),WellAll P h vs (ns.map WData.int)->IntsAre vs ns:=by
 intro ns;induction ns with
 | nil=>
  intro vs w;rw[List.map_nil]at w;cases w;exact .nil
 | cons n ns ih=>
  intro vs w;rw[xh]at w;cases w with
  | cons a b=>
   cases a;exact .cons _ _ (ih _ b)
theorem qcn{l:OpenLaw}{n:Nat}(hn:l.most=some n){P:Params}{h:Heap}{args:List WData}{vals:List Value}
 (hpre:l.row.toRowW.claim.pre args=true) (hwl:WellAll P h vals args):
 ∃a vs ns,vals=[Value.ref a]/\args=[WData.list (ns.map WData.int)]/\h.get? a=some {cls:=.type "list",data:=.seq vs.toArray}/\IntsAre vs ns/\ns.length<=n:=by
 have hsh:WShape.hasAll [] args [.list .int]=true:=(pre_splitW hpre).1;have hc:l.pre.holds [] {args:=args}=true:=(pre_splitW hpre).2;obtain⟨d,r,rfl,h1,h2⟩:=hasAllW_cons hsh;obtain rfl:=hasAllW_nil h2;obtain⟨xs,rfl,h3⟩:=hasW_list h1;obtain⟨ns,rfl⟩:=items_int h3;have z9:ns.length<=n:=by
  unfold OpenLaw.pre at hc;have h4:(WTm.not (.lt (.lit (.int (n:Int))) (.len (.arg 0)))).holds [] {args:=[.list (ns.map .int)]}=true:=by have h4:=(holds_andW hc).1;rw[hn]at h4;exact h4
  have h5:=condW_of h4 (w_not (w_lt w_lit (w_len_list (w_arg rfl))));rw[jb]at h5;refine Nat.le_of_not_lt λq=>?_;have q':(n:Int)<((ns.length:Nat):Int):=by omega
  first
   |(rw[decide_eq_true q']at h5;exact absurd h5 (by decide))
   |(simp at h5;omega)
 cases hwl with
 | cons w1 w2=>
  cases w2;cases w1 with
  |list ho j0=>exact⟨_,_,ns,rfl,rfl,ho,q6h ns _ j0,z9⟩
theorem qdh(l:OpenLaw)(args:List WData):l.row.toRowW.claim.post args (.bool true) args=true:=
 postW_of (r:=l.row.toRowW) (X:=(true==true))
  (show WShape.has [] (.bool true) .bool=true by first|rfl|decide|simp[WShape.has,WShape.arms,WShape.armsAll])
  (show(WTm.eq .res (.lit (.bool true))).value [] {args:=args,res:=some (.bool true),after:=args}=some (.bool (true==true))from w_eq_bool (w_res rfl) w_lit) rfl
theorem attach_call{l:OpenLaw}{n:Nat}{q:Program}{loose:List Str}{XP:(Str->Option Value)->Heap->Prop}{YP:World->Heap->Prop}{d:DefRec}
 (hn:l.most=some n) (hdf:d.params.defaults=[])
 (call:∀(w:World) (s₀ s₁:Shared) (mg mb:Str->Option Value) (fa:Addr) (o:Obj) (pm cd doc:Value) (a:Addr) (vs:List Value) (ns:List Int),
   Ground q loose [] XP w s₀ mg mb s₁.heap->YP w s₁.heap->
   s₁.heap.get? fa=some o->o.data=.func (docDef d.name d.params d.body d.scope pm cd doc)->s₁.heap.CodeRec cd d.name->mg d.name=some (.ref fa)->
   s₁.heap.get? a=some {cls:=.type "list",data:=.seq vs.toArray}->IntsAre vs ns->ns.length<=n->s₁.gens=#[]->
   codeAny (model l.prog w) callerA (.call (.ref fa) ⟨[.ref a],[]⟩) (λr s'=>r=.ok (.ret (.bool true))/\OldK s₁.heap s'.heap/\s'.os=s₁.os/\AllBare s'.gens) s₁):
 WalkO q loose XP YP l.row.toRowW d [] (λf vs=>PySem.call f vs):=by
 intro w s₀ s₁ mg mb G Y fa o pm cd doc dV kV ho hd hcd hD hmg hg args vals as hpre hlay hrd hwl hlo;obtain rfl:dV=.none:=Dflts.none hD hdf;obtain rfl:kV=.none:=Dflts.noKw hD;obtain⟨a,vs,ns,rfl,rfl,hobj,j5,z9⟩:=qcn hn hpre hwl;refine enter_call (codeAny_mono (call w s₀ s₁ mg mb fa o pm cd doc a vs ns G Y ho (fd_plain hd) hcd hmg hobj j5 z9 hg) λr s' hq=>?_);obtain⟨rfl,h2,h3,h4⟩:=hq;exact⟨.inl ⟨.bool true,.bool true,[],rfl,λ_=>rfl,.bool true,qdh l _,λ_=>⟨List.Pairwise.nil,λ_ hm=>(nomatch hm)⟩⟩,h2,h3,h4⟩
section
variable{prog:Program}{w:World}{A:Around}{E:Value->Shared->Prop}{s:Shared}{K:Frag}
end
end Att
namespace L2
open PySem PySem.Spec PyProof.Rows
theorem q84:∀{vs:List Value} {ns:List Int},IntsAre vs ns->Vals (ns.map V.int) vs
 |_,_,.nil=>.nil
 |_,_,.cons n t h=>.cons ⟨t,rfl⟩ (q84 h)
def Only(H:Hp):Prop:=∀b,H b=none∨∃o xs,H b=some (.frz o (.lst xs))
theorem qgw{P:Program}{w:World}{K:FrG}{mg mb:Str->Option Value}{CX:CXT}{k:Nat}{fa a:Addr}{fd:FuncData}{x:Str}{sp:Sp}{s₁:Shared}{vs:List Value}{ns:List Int}
 (KX:K.In s₁.heap) (hns:s₁.heap.Ns mainGlobals mg) (hb:s₁.heap.Ns builtinsNs mb) (hbb:∀x:Str,x≠"__name__"->mb x=bootBuiltins x) (hlim:s₁.heap.NoLimit) (hg:s₁.gens=#[])
 (ha:s₁.heap.get? a=some {cls:=.type "list",data:=.seq vs.toArray}) (hi:IntsAre vs ns) (hl:ns.length<=sizeLine) (hr:Room k callerA)
 (F:∀base:Heap,K.In base->base.Ns mainGlobals mg->FnOk P w K mg base CX k fa fd [x] sp) (hbind:∀(s:Shared) (u:Value),BindsTo s fd ⟨[u],[]⟩ [(x,u)])
 (hsp:∀H:Hp,Only H->SqL K H a (ns.map V.int)->sp [.ref a] H (λv _=>v=.bl true) λ_ _ _=>False)
 (hCX:∀H e s',CX [] H s₁ (λ_ _ _=>False) e s'->False):
 codeAny (model P w) callerA (.call (.ref fa) ⟨[.ref a],[]⟩) (λr s'=>r=.ok (.ret (.bool true))/\OldK s₁.heap s'.heap/\s'.os=s₁.os/\AllBare s'.gens) s₁:=by
 have rv:=q84 hi;have lenV:=hi.length
 -- from an abstract heap in which nothing but the script may be tracked
 have core:∀H:Hp,Only H->SqL K H a (ns.map V.int)->HOk P w H s₁.heap->(∀b,H b≠none->b=a)->(H a≠none->K.lookup a=none)->
  codeAny (model P w) callerA (.call (.ref fa) ⟨[.ref a],[]⟩) (λr s'=>r=.ok (.ret (.bool true))/\OldK s₁.heap s'.heap/\s'.os=s₁.os/\AllBare s'.gens) s₁:=by
  intro H hO hS hok hA hK;have base_of:∀{b:Addr} {o:Obj},s₁.heap.get? b=some o->H b=none->(hidT s₁.heap H).get? b=some o:=λe n=>qh1 e n;have noA:∀{b:Addr} {o:Obj} {es:Array DictEntry} {ep:Nat},s₁.heap.get? b=some o->o.data=.dict es ep->H b=none:=λ{b o es ep} e d=>by
   cases q:H b with
   |none=>rfl
   | some u=>
    have e':b=a:=hA b (by rw[q];simp);subst e';rw[ha]at e;cases e;have d':Data.seq vs.toArray _=Data.dict es ep:=d;cases d'
  have nsK:∀{b:Addr} {m:Str->Option Value},s₁.heap.Ns b m->(hidT s₁.heap H).Ns b m:=λ{b m} ⟨o,es,ep,e,d,r⟩=>⟨o,es,ep,base_of e (noA e d),d,r⟩;have hKb:K.In (hidT s₁.heap H):=λb o e=>base_of (KX b o e) (by
   cases q:H b with
   |none=>rfl
   | some u=>
    have e':b=a:=hA b (by rw[q];simp);subst e';rw[hK (by rw[q];simp)]at e;cases e)
  have hM:Mod K mg (hidT s₁.heap H):=⟨hKb,nsK hns,⟨mb,nsK hb,hbb⟩,let ⟨mc,h1,h2⟩:=hlim;⟨mc,nsK h1,h2⟩⟩;have e0:Env0 P w K mg (hidT s₁.heap H) callerA [] s₁ H:=⟨rfl,hM,λb o e=>qka e,Nat.le_of_eq (qel _ _),trivial,λb hb=>absurd (show b∈([]:List Addr)from hb) (by simp),hok,.of_eq hg⟩;refine codeAny_mono ((F _ hKb (nsK hns)).run callerA [] s₁ H ⟨[.ref a],[]⟩ [.ref a] [.ref a] _ _ hr e0 (hbind s₁ (.ref a)) (.cons rfl .nil) (hsp H hO hS)) λr s' h=>?_;cases r with
  |error e=>exact(hCX H e s' h).elim
  | ok fl=>
   cases fl with
   |next=>exact False.elim h
   |brk=>exact False.elim h
   |cont=>exact False.elim h
   | ret u=>
    obtain⟨v,H',os,bare,un,hok',r',q⟩:=h;have q':v=.bl true:=q;subst q';obtain rfl:u=Value.bool true:=r';refine⟨rfl,OldK.of_keep λb o e=>?_,os,bare⟩;cases q:H b with
    |none=>exact un.keep b o e q (by intro z;exact absurd (show b∈([]:List Addr)from z) (by simp)) (by simp)
    | some u=>
     rcases hO b with z|⟨ob,xs,z⟩
     ·rw[q]at z;cases z
     ·have z2:=un.frzs b ob _ z;obtain⟨e1,_⟩:=hok b _ z;obtain⟨e2,_⟩:=hok' b _ z2;rw[e]at e1;cases e1;exact e2
 cases hk:K.lookup a with
 | some o=>
  -- the script is one of the module's own objects
  have e:=KX a o hk;rw[ha]at e;cases e;refine core (λ_=>none) (λ_=>.inl rfl) (.inr ⟨_,vs.toArray,_,hk,rfl,rfl,rfl,by rw[x9,lenV];exact hl,by simpa using rv⟩) (λb u z=>by have z':(none:Option HO)=some u:=z;cases z') (λb z=>absurd rfl z) λz=>absurd rfl z
 | none=>
  refine core (λb=>if b=a then some (.frz {cls:=.type "list",data:=.seq vs.toArray} (.lst (ns.map V.int)))else none) (λb=>?_) (.inl (.inr ⟨{cls:=.type "list",data:=.seq vs.toArray},if_pos rfl⟩)) (λb u z=>?_) (λb z=>?_) λ_=>hk
  ·by_cases hb:b=a
   ·exact .inr ⟨_,_,if_pos hb⟩
   ·exact .inl (if_neg hb)
  ·by_cases hb:b=a
   ·have z':=(if_pos hb).symm.trans z;cases z';subst hb;exact⟨ha,by rw[jb];exact hl,vs,_,rv,ha⟩
   ·have z':=(if_neg hb).symm.trans z;cases z'
  ·by_cases hb:b=a
   ·exact hb
   ·exact absurd (if_neg hb) z
theorem walk_of{l:PySem.W.OpenLaw}{n k:Nat}{q:Program}{loose:List Str}{XP:(Str->Option Value)->Heap->Prop}{YP:World->Heap->Prop}{d:DefRec}{K:Params->PySem.W.Frag}{CX:World->CXT}{sp:World->Sp}{x:Str}
 (hn:l.most=some n) (hn2:n<=sizeLine) (hdf:d.params.defaults=[]) (hr:Room k callerA)
 (hY:∀(w:World) (h:Heap),YP w h->(K w.params).In h)
 (F:∀(w:World) (mg:Str->Option Value) (fa:Addr) (h:Heap),(K w.params).In h->h.Ns mainGlobals mg->mg d.name=some (.ref fa)->
   ∃fd:FuncData,(∀(s:Shared) (u:Value),BindsTo s fd ⟨[u],[]⟩ [(x,u)])/\
    ∀base:Heap,(K w.params).In base->base.Ns mainGlobals mg->FnOk l.prog w (K w.params) mg base (CX w) k fa fd [x] (sp w))
 (hsp:∀(w:World) (H:Hp) (a:Addr) (ns:List Int),ns.length<=n->Only H->SqL (K w.params) H a (ns.map V.int)->sp w [.ref a] H (λv _=>v=.bl true) λ_ _ _=>False)
 (hCX:∀(w:World) (H:Hp) (s:Shared) (e:Value) (s':Shared),CX w [] H s (λ_ _ _=>False) e s'->False):
 PySem.W.WalkO q loose XP YP l.row.toRowW d [] (λf vs=>PySem.call f vs):=by
 refine Att.attach_call hn hdf λw s₀ s₁ mg mb fa o pm cd doc a vs ns G Y ho hd hcd hmg hobj j5 z9 hg=>?_;have KX:=hY w _ Y;obtain⟨fd,hb,hF⟩:=F w mg fa _ KX G.T.g hmg;exact qgw KX G.T.g G.T.b G.T.builtins G.T.nolimit hg hobj j5 (ju z9 hn2) hr hF hb (λH hO hS=>hsp w H a ns z9 hO hS) λH e s'=>hCX w H s₁ e s'
def inClass(s:Stmt)(j:Nat):Stmt:=match s with
 |.ClassDef _ _ _ body _ _ _ _ _ _ _=>body.getD j (.Pass ⟨0,0,0,0⟩)
 |_=>.Pass ⟨0,0,0,0⟩
def q0p(s:Stmt):Arguments:=match s with
 |.FunctionDef _ a _ _ _ _ _ _ _ _=>a
 |_=>{posonlyargs:=[],args:=[],vararg:=none,kwonlyargs:=[],kw_defaults:=[],kwarg:=none,defaults:=[]}
def q0j(s:Stmt):List Stmt:=match s with
 |.FunctionDef _ _ b _ _ _ _ _ _ _=>b
 |_=>[]
def q04(s:Stmt):Scope:=match s with
 |.FunctionDef _ _ _ _ _ _ sc _ _ _=>sc
 |_=>{kind:=.function,names:=[],isGenerator:=false,isCoroutine:=false}
abbrev CX0:CXT:=λ_ _ _ _ _ _=>False
abbrev E0:XK:=λ_ _ _=>False
theorem q1e{X:Cx}:q4c CX0 X E0:=λ_ _ _ _ _ _ _ h=>h.elim
structure Fun(K:FrG)(x qual:Str)(st:Stmt)(f:Addr)(fd:FuncData):Prop where
 ex:∃(oc:Value) (od:Option Addr) (kV doc pm:Value) (an:Option Addr) (cdv ct:Value) (osl:Array (Option Value)),
  fd=PySem.W.fnOf x qual (q0p st) (q0j st) (q04 st) .none kV doc pm an cdv ct/\K.lookup f=some ⟨oc,od,.func fd,osl⟩/\PySem.W.codeIn K cdv qual=true
 kp:PySem.W.keepIn K (.ref f)=true
section
variable{P:Program}{w:World}{K:FrG}{mg:Str->Option Value}{base:Heap}
theorem Fun.ok{x qual:Str}{st:Stmt}{f:Addr}{fd:FuncData}{N ps:List Str}{k:Nat}{sp:Sp}(F:Fun K x qual st f fd)(S:q0q N ps (q04 st))(len:∀vs H Q E,sp vs H Q E->vs.length=ps.length)
 (zh:∀(cdv:Value) (A:Around) (outer:List Env) (s:Shared) (H:Hp) (vs:List V) (Q:VK) (E:XK),Room k (A.deeper (envOfC qual (q04 st) s.heap.objs.size f cdv))->sp vs H Q E->
   ∃t,PSs (cxOf CX0 P w K mg base N qual (q04 st) f cdv A outer s H E).nox (q0j st) t/\t {nx:=λ_ H'=>Q .non H',rt:=Q} (start N vs) H):FnOk P w K mg base CX0 (k+1) f fd ps sp:=by
 obtain⟨oc,od,kV,doc,pm,an,cdv,ct,osl,rfl,lk,hcd⟩:=F.ex;refine qh5 lk hcd S len λA outer s H vs Q E hr hsp=>?_;obtain⟨t,h,q⟩:=zh cdv A outer s H vs Q E hr hsp;exact⟨t,h.nox,q⟩
theorem qpl{x qual:Str}{st:Stmt}{f:Addr}{oc:Value}{od an:Option Addr}{osl:Array (Option Value)}{kV doc pm cdv ct:Value}(l:K.lookup f=some ⟨oc,od,.func (PySem.W.fnOf x qual (q0p st) (q0j st) (q04 st) .none kV doc pm an cdv ct),osl⟩)
 (c:PySem.W.codeIn K cdv qual=true) (k:PySem.W.keepIn K (.ref f)=true):Fun K x qual st f (PySem.W.fnOf x qual (q0p st) (q0j st) (q04 st) .none kV doc pm an cdv ct):=⟨⟨oc,od,kV,doc,pm,an,cdv,ct,osl,rfl,l,c⟩,k⟩
end
section
variable{X:Cx}
theorem pv(i:Nat){x:Str}{pos:Pos}(hN:X.N[i]? =some x:=by rfl)(hv:Vis X.env.scope x:=by first|exact Or.inl rfl|exact Or.inr (Or.inl rfl)|exact Or.inr (Or.inr rfl))(hd:(x==("__debug__":Str))=false:=by decide)
 (hcd:(x==("__classdict__":Str))=false:=by decide):PE X (.Name x pos) (tVar i):=qnd hN hv hd hcd
end
theorem iteF{A B:Prop}(h:B):if false=true then A else B:=by rw[if_neg Bool.false_ne_true];exact h
theorem iteT{A B:Prop}(h:A):if true=true then A else B:=by rw[if_pos rfl];exact h
def Same(H H':Hp):Prop:=∀b o,H b=some o->H' b=some o
theorem Same.refl(H:Hp):Same H H:=λ_ _ h=>h
theorem Same.trans{H H1 H2:Hp}(a:Same H H1)(b:Same H1 H2):Same H H2:=λc o h=>b c o (a c o h)
theorem Same.free{H H':Hp}(e:Same H H'){l:Addr}(h:H' l=Option.none):H l=Option.none:=by
 cases q:H l with
 |none=>rfl
 | some o=>
  rw[e l o q]at h;cases h
theorem Same.seq{K:FrG}{H H':Hp}{a:Addr}{xs:List V}(e:Same H H')(h:SqL K H a xs):SqL K H' a xs:=by
 rcases h with(h|⟨o,h⟩)|h
 ·exact .inl (.inl (e _ _ h))
 ·exact .inl (.inr ⟨o,e _ _ h⟩)
 ·exact .inr h
section
variable{X:Cx}{z6:List (Addr×Obj)}{σ:St}{H:Hp}{s:Shared}
theorem Inv.track{d:Addr}{o:HO}(I:Inv X z6 σ H s)(hn:H d=none)(hy:X.s₀.heap.objs.size<=d)(hL:d≠X.env.locals)(hc:∀x c,X.env.cells.lookup x=some c->c≠d)
 (hp:∀p∈X.pn++z6,p.1≠d) (new:ObjOk X.prog X.w (upd H d o) s.heap d o):Inv X z6 σ (upd H d o) s:=by
 have old:∀b ob,X.s₀.heap.get? b=some ob->b≠d:=λb ob e=>jl (jm (jd e) hy);have was:∀b u,H b=some u->b≠d:=λb u e=>q18 e hn;refine⟨I.ok,I.os,I.bare,⟨I.base.keep,I.base.slot,λb ob e n hx=>?_,I.base.there,λb xs e=>?_,λb ob u e=>?_,λb ps e=>?_⟩,I.loc,I.cell,?_,λx c e=>?_,λp z=>?_,λb u e=>?_,I.len⟩
 ·rw[q0i (old b ob e)];exact I.base.free b ob e n hx
 ·have q:=I.base.tups b xs e;rw[q0i (was b _ q)];exact q
 ·have q:=I.base.frzs b ob u e;rw[q0i (was b _ q)];exact q
 ·obtain⟨m,q⟩:=I.base.tbls b ps e;exact⟨m,by rw[q0i (was b _ q)];exact q⟩
 ·rw[q0i (Ne.symm hL)];exact I.free
 ·rw[q0i (hc x c e)];exact I.freeC x c e
 ·obtain⟨e,n,r⟩:=I.pin p z;exact⟨e,by rw[q0i (hp p z)];exact n,r⟩
 ·by_cases hb:b=d
  ·subst hb;rw[q0m]at e;cases e;exact new
  ·rw[q0i hb]at e;refine(I.hok b u e).stay (λc v _ q=>q) (λc q=>?_) λc xs q=>?_
   ·rw[q0i (was c _ q)];exact q
   ·rw[q0i (was c _ q)];exact q
end
theorem q59{env:Env}:∀(names:List (Str×NameKind)) (acc:List (Str×Addr)),(∀y∈names,y.2=.free->∃c,env.cells.lookup y.1=some c)->
 ∃cl,(forIn names acc λ(p:Str×NameKind) (cs:List (Str×Addr))=>(if(p.2==NameKind.free)=true then do let c <-cellOf env p.1;pure (ForInStep.yield ((p.1,c)::cs))else pure (ForInStep.yield cs):Sem (ForInStep (List (Str×Addr)))))=pure cl/\
  (∀x c,cl.lookup x=some c->acc.lookup x=some c∨env.cells.lookup x=some c)/\(∀x c,acc.lookup x=some c->∃c',cl.lookup x=some c')/\∀y∈names,y.2=.free->∃c,cl.lookup y.1=some c
 |[],acc,_=>⟨acc,rfl,λ_ _ h=>.inl h,λ_ c h=>⟨c,h⟩,λ_ h=>nomatch h⟩
 | (n,k)::r,acc,hh=>by
  by_cases hk:k=.free
  ·subst hk;obtain⟨c,hc⟩:=hh (n,.free) jj rfl;obtain⟨cl,e,h1,h2,h3⟩:=q59 (env:=env) r ((n,c)::acc) λy hy=>hh y (jg _ hy);have ec:cellOf env n=pure c:=by
    unfold cellOf;rw[hc]
   have here:∃c',cl.lookup n=some c':=h2 n c (by simp[List.lookup_cons]);refine⟨cl,?_,λx d q=>?_,λx d q=>?_,λy hy hf=>?_⟩
   ·rw[List.forIn_cons];simp only[beq_self_eq_true,if_true,ec,pure_bind];exact e
   ·rcases h1 x d q with z|z
    ·rw[List.lookup_cons]at z;by_cases hx:x=n
     ·subst hx;simp only[beq_self_eq_true]at z;cases z;exact .inr hc
     ·rw[beq_eq_false_iff_ne.mpr hx]at z;exact .inl z
    ·exact .inr z
   ·by_cases hx:x=n
    ·subst hx;exact here
    ·exact h2 x d (by rw[List.lookup_cons,beq_eq_false_iff_ne.mpr hx];exact q)
   ·rcases List.mem_cons.mp hy with rfl|hy
    ·exact here
    ·exact h3 y hy hf
  ·obtain⟨cl,e,h1,h2,h3⟩:=q59 (env:=env) r acc λy hy=>hh y (jg _ hy);refine⟨cl,?_,h1,h2,λy hy hf=>?_⟩
   ·rw[List.forIn_cons];have hb:(k==NameKind.free)=false:=by simpa using hk
    simp only[hb,Bool.false_eq_true,if_false,pure_bind];exact e
   ·rcases List.mem_cons.mp hy with rfl|hy
    ·exact absurd hf hk
    ·exact h3 y hy hf
theorem q40{env:Env}{scope:Scope}(hh:∀y∈scope.names,y.2=.free->∃c,env.cells.lookup y.1=some c):
 ∃cl,closureFor scope env=pure cl/\(∀x c,cl.lookup x=some c->env.cells.lookup x=some c)/\∀y∈scope.names,y.2=.free->∃c,cl.lookup y.1=some c:=by
 obtain⟨cl,e,h1,_,h3⟩:=q59 (env:=env) scope.names [] hh;refine⟨cl,?_,λx c q=>(h1 x c q).elim (λz=>by simp at z) id,h3⟩;unfold closureFor;simp only[bind_pure];exact e
def cxB(X:Cx)(N:List Str)(scope:Scope)(s:Shared)(H:Hp)(C:Addr)(cl:List (Str×Addr))(fp:List Addr):Cx where
 prog:=X.prog
 w:=X.w
 K:=X.K
 mg:=X.mg
 base:=X.base
 A:=X.A
 N:=N
 s₀:=s
 H₀:=H
 env:=compEnvC scope cl C X.env
 outer:=X.stack
 stack:=X.stack
 ex:=fp
 fn:=λ_=>false
 calm:=X.calm
 pn:=[]
 xe:=λ_ _=>False
def caps(n:Nat)(js:List Nat)(σ:St):St:=List.replicate n none++js.map λj=>(σ[j]?).join
def Own(n:Nat)(g:TG):Prop:=∀v σ H Q,g v σ H Q->g v σ H λσ2 H2=>Q σ2 H2/\σ2.length=σ.length/\∀i,n<=i->σ2[i]? =σ[i]?
theorem q1g{n i:Nat}(h:i<n):Own n (q37 i):=λv σ H Q q=>⟨q,by simp,λj hj=>by rw[List.getElem?_set_ne (by omega)]⟩
theorem q5m{K:FrG}{n i j:Nat}(hi:i<n)(hj:j<n):Own n (gTup K 2 (qh4 (q37 i) (qh4 (q37 j) gNil))):=λv σ H Q q=>by obtain⟨a,xs,e,h,hl,x,r,e1,y,r2,e2,e3,q⟩:=q;exact⟨a,xs,e,h,hl,x,r,e1,y,r2,e2,e3,q,by simp,λk hk=>by rw[List.getElem?_set_ne (by omega),List.getElem?_set_ne (by omega)]⟩
def PIf(X:Cx)(ifs:List Expr)(t:TT):Prop:=
 ∀(z6:List (Addr×Obj)) (s:Shared) (σ:St) (H:Hp) (Q:Bool->Hp->Prop),Inv X z6 σ H s->t σ H Q->
   wpAny (model X.prog X.w) X.A (forIn ifs true λc r=>if r=true then do let ok <-isTrue c X.env (eval c X.env);pure (ForInStep.yield ok)else pure (ForInStep.yield r)) (TP X z6 σ Q) X.xe s
def tYes:TT:=λ_ H Q=>Q true H
theorem q1w{X:Cx}:PIf X [] tYes:=λ_ _ _ H _ I h=>wpAny_tests_nil ⟨H,I,h⟩
theorem q5z{X:Cx}{c:Expr}{t:TT}(hc:PT X c t):PIf X [c] t:=λz6 s σ H Q I h=>wpAny_tests_one (hc z6 s σ H Q I h)
def cGo(g:TG)(tt:TT)(te:TE)(σ0:St)(Fin:List V->Hp->Prop)(J:It)(H1:Hp):Prop:=
 ∃W:Nat->Nat->List V->Hp->Prop,(∃m,W 0 m [] H1)/\∀i m ys H2,W i m ys H2->
  (J.stop i H2/\ys.length<=sizeLine/\Fin ys H2)∨
  (J.go i H2/\ys.length<sizeLine/\∃N:List V->Hp->Prop,(∀ys' H',N ys' H'->∃m',m'<m/\W (i+1) m' ys' H')/\∀x H3,J.yld i H2 x H3->g x σ0 H3 λσ4 H4=>tt σ4 H4 λb H5=>
    if b=true then te σ4 H5 λy H6=>N (ys++[y]) H6 else N ys H5)
def qfx(n:Nat)(js:List Nat)(wi:TI)(g:TG)(tt:TT)(te:TE):TE:=λσ H Q=>
 wi σ H (cGo g tt te (caps n js σ) λys H2=>∀D,H2 D=none->Q (.ref D) (upd H2 D (.lst ys)))
def q9d(k n:Nat)(js:List Nat)(wi:TI)(g:TG)(tt:TT)(te:TE):TS:=λE σ H=>
 wi σ H (cGo g tt te (caps n js σ) λys H2=>∀D,H2 D=none->E.nx (σ.set k (some (.ref D))) (upd H2 D (.lst ys)))
theorem q8y{prog:Program}{w:World}{A:Around}{R:Result->Shared->Prop}{s:Shared}{elt zk ze:Expr}{ifs:List Expr}{scope:Scope}{pos:Pos}{it acc:Value}{env:Env}(I:Nat->Shared->Prop)
 (zr:∀n s,I n s->wpAny (model prog w) A (pyNext it) (λr s₁=>(r=none/\R (.ok .next) s₁)∨∃v,r=some v/\wpAny (model prog w) A (letOwnedTupleGo zk it v) (λ_ s₀=>
   wpAny (model prog w) A (assign zk env v) (λ_ s₂=>
    wpAny (model prog w) A (forIn ifs true λc r=>if r=true then do let ok <-isTrue c env (eval c env);pure (ForInStep.yield ok)else pure (ForInStep.yield r)) (λok s₃=>
     if ok=true then wpAny (model prog w) A (eval elt env) (λx s₄=>wpAny (model prog w) A (call (.builtin "list.append") [acc,x]) (λ_ s₅=>∃m,m<n/\I m s₅) (λ_ _=>False) s₄) (λ_ _=>False) s₃
     else∃m,m<n/\I m s₃) (λ_ _=>False) s₂) (λ_ _=>False) s₀) (λ_ _=>False) s₁) (λ_ _=>False) s)
 (n:Nat) (h:I n s):codeAny (model prog w) A (.compLoop (.ListComp elt [⟨zk,ze,ifs,0⟩] scope pos) 0 it acc env) R s:=by
 have no:∀{E:Value->Shared->Prop} (x:Value) (z:Shared),False->E x z:=λ_ _ f=>f.elim;refine codeAny_loop rfl I (λn s hI=>?_) n h;show wpAny _ A ((compTurn (.ListComp elt [⟨zk,ze,ifs,0⟩] scope pos) 0 it acc env).onRaise (λx=>do noteFrame x env;theTreesLotGoes x)) _ _ s;refine wpAny_noted ?_;rw[compTurn_list];refine ja (wpAny_standAt (ja (x8 (zr n s hI) (λr s₁ h₁=>?_) no)));rcases h₁ with⟨e,h₁⟩|⟨v,e,h₁⟩
 ·subst e;exact jc h₁
 ·subst e;refine ja (x8 h₁ (λ_ s₀ h₀=>ja (x8 h₀ (λ_ s₂ h₂=>ja (x8 h₂ (λok s₃ h₃=>?_) no)) no)) no);cases ok with
  |false=>exact jc ⟨rfl,h₃⟩
  | true=>
   have q:wpAny (model prog w) A (eval elt env) _ _ s₃:=h₃;exact ja (ja (x8 q (λx s₄ h₄=>ja (x8 h₄ (λ_ s₅ h₅=>jc (jc ⟨rfl,h₅⟩)) no)) no))
def q1j(sc:Scope)(N0 N:List Str)(n:Nat)(js:List Nat)(scope:Scope):Bool:=
 decide (scope.kind=.function)&&scope.names.all (λy=>decide (y.2≠.cell))&&scope.names.all (λy=>decide (y.2≠.free)||decide (sc.names.lookup y.1=some .cell)||decide (sc.names.lookup y.1=some .free))&&
 scope.names.all (λy=>decide (y.2≠.local)||decide (scope.names.lookup y.1=some .local))&&decide (js.map (λj=>N0[j]?)=(N.drop n).map some)&&
 (N.drop n).all (λx=>decide (sc.names.lookup x=some .cell)||decide (sc.names.lookup x=some .free))&&(N.drop n).all (λx=>decide (scope.names.lookup x=some .free))&&decide (n+js.length=N.length)
theorem q5b{env:Env}:∀{names:List (Str×NameKind)} {x:Str},(names.map λ(n,k)=>if(k==NameKind.free&&env.scope.kind==.function&&env.kindOf n==some .cell)then(n,NameKind.cell)else(n,k)).lookup x=some .cell∨
 (names.map λ(n,k)=>if(k==NameKind.free&&env.scope.kind==.function&&env.kindOf n==some .cell)then(n,NameKind.cell)else(n,k)).lookup x=some .free->(∀y∈names,y.2≠.cell)->∃y∈names,y.1=x/\y.2=.free
 |[],_,h,_=>by rcases h with h|h<;>simp at h
 | (n,k)::r,x,h,hc=>by
  have ih:=@q5b env r x;by_cases hx:x=n
  ·subst hx;refine⟨(x,k),jj,rfl,?_⟩;have hk:k≠.cell:=hc (x,k) jj;by_cases hf:k=.free
   ·exact hf
   ·exfalso;have hb:(k==NameKind.free)=false:=by simpa using hf
    simp only[List.map_cons,hb,Bool.false_and,Bool.false_eq_true,if_false,List.lookup_cons,beq_self_eq_true]at h;rcases h with h|h
    ·exact hk (jh h)
    ·exact hf (jh h)
  ·have hb:(x==n)=false:=beq_eq_false_iff_ne.mpr hx;have step:∀(q:Str×NameKind) (l:List (Str×NameKind)),q.1=n->List.lookup x (q::l)=List.lookup x l:=λq l e=>by
    obtain⟨a,b⟩:=q;have e':a=n:=e;subst e';rw[List.lookup_cons,hb]
   have nm:(if(k==NameKind.free&&env.scope.kind==.function&&env.kindOf n==some .cell)then(n,NameKind.cell)else(n,k)).1=n:=by split<;>rfl
   rw[xh,step _ _ nm]at h;obtain⟨y,hy,r1,r2⟩:=ih h λy hy=>hc y (jg _ hy);exact⟨y,jg _ hy,r1,r2⟩
theorem mem_of_lookup{x:Str}{k:NameKind}:∀{l:List (Str×NameKind)},l.lookup x=some k->(x,k)∈l
 |[],h=>by simp at h
 | (a,b)::r,h=>by
  rw[List.lookup_cons]at h;by_cases hx:x=a
  ·subst hx;simp only[beq_self_eq_true]at h;cases h;exact jj
  ·rw[beq_eq_false_iff_ne.mpr hx]at h;exact jg _ (mem_of_lookup h)
theorem q30{env:Env}{x:Str}:∀(l:List (Str×NameKind)),l.lookup x=some .free->(l.map λ(n,k)=>if(k==NameKind.free&&env.scope.kind==.function&&env.kindOf n==some .cell)then(n,NameKind.cell)else(n,k)).lookup x≠some .local
 |[],q=>by simp at q
 | (a,b)::r,q=>λz=>by
  rw[List.lookup_cons]at q;by_cases hx:x=a
  ·subst hx;simp only[beq_self_eq_true]at q;cases q;rw[xh]at z;dsimp only at z;split at z
   ·simp[List.lookup_cons]at z
   ·simp[List.lookup_cons]at z
  ·rw[beq_eq_false_iff_ne.mpr hx]at q;refine q30 (env:=env) r q ?_;by_cases hc:(b==NameKind.free&&env.scope.kind==.function&&env.kindOf a==some .cell)=true
   ·simp only[List.map_cons,if_pos hc,List.lookup_cons,beq_eq_false_iff_ne.mpr hx]at z;exact z
   ·simp only[List.map_cons,if_neg hc,List.lookup_cons,beq_eq_false_iff_ne.mpr hx]at z;exact z
theorem q7w(n:Nat)(js:List Nat)(σ:St):(caps n js σ).length=n+js.length:=by simp[caps]
theorem q5p{n:Nat}{js:List Nat}{σ:St}{i:Nat}(h:i<n):(caps n js σ)[i]? =some none:=by unfold caps;rw[kj (by simpa using h),kc,if_pos h]
theorem qb1{n:Nat}{js:List Nat}{σ:St}{i:Nat}{v:V}(h:n<=i)(e:(caps n js σ)[i]? =some (some v)):∃j,js[i-n]? =some j/\σ[j]? =some (some v):=by
 unfold caps at e;rw[xx (by simpa using h),jx,jk]at e;cases q:js[i-n]? with
 |none=>rw[q]at e;cases e
 | some j=>
  rw[q]at e;refine⟨j,rfl,?_⟩;have e':(σ[j]?).join=some v:=jh e;cases z:σ[j]? with
  |none=>rw[z]at e';cases e'
  |some o=>rw[z]at e';exact congrArg some e'
section
variable{X:Cx}{tg elt ze:Expr}{ifs:List Expr}{scope:Scope}{pos:Pos}{N N0:List Str}{n:Nat}{js:List Nat}{sc:Scope}{g:TG}{tt:TT}{te:TE}
theorem q7c{z6:List (Addr×Obj)}{σ:St}{H:Hp}{s:Shared}{it:Addr}{fp:List Addr}{tn:Nat->Heap->Prop}{J:It}{cl:List (Str×Addr)}{Fin:List V->Hp->Prop}{RR:Value->Addr->Result->Shared->Prop}{E:Value->Shared->Prop}
 (hc:X.calm=true) (hsc:X.env.scope=sc) (hN0:X.N=N0) (ok:q1j sc N0 N n js scope=true)
 (hg:∀s H C cl fp,PG (cxB X N scope s H C cl fp) tg g) (hgo:Own n g) (ht:∀s H C cl fp,PIf (cxB X N scope s H C cl fp) ifs tt) (he:∀s H C cl fp,PE (cxB X N scope s H C cl fp) elt te)
 (I:Inv X z6 σ H s) (T:Turn X.prog X.w X.K tg J fp it tn) (st:tn 0 s.heap) (fo:∀b∈fp,FpOk X z6 H b)
 (hcl:∀x c,cl.lookup x=some c->X.env.cells.lookup x=some c) (j6:∀y∈scope.names,y.2=.free->∃c,cl.lookup y.1=some c)
 (G:cGo g tt te (caps n js σ) Fin J H)
 (k:∀(D C:Addr) (oC:Obj) (m:Str->Option Value) (ys:List V) (H':Hp) (s':Shared),Inv X (z6++[(C,oC)]) σ (upd H' D (.lst ys)) s'->H' D=none->s'.heap.Ns C m->X.s₀.heap.objs.size<=C->C≠X.env.locals->(∀x c,X.env.cells.lookup x=some c->c≠C)->
   (∀p∈X.pn++z6,p.1≠C)->upd H' D (.lst ys) C=none->Fin ys H'->RR (.ref D) C (.ok .next) s'):
 wpAny (model X.prog X.w) X.A (newList []) (λacc s₃=>wpAny (model X.prog X.w) X.A (newFunctionEnv scope X.env.globals cl [] X.env.qual none .none (some X.env)) (λj8 s₄=>
  codeAny (model X.prog X.w) X.A (.compStart (.ListComp elt [⟨tg,ze,ifs,0⟩] scope pos) 0 (.ref it) acc {j8 with scope:=relabel scope X.env}) (RR acc j8.locals) s₄) E s₃) E s:=by
 simp only[q1j,Bool.and_eq_true,decide_eq_true_eq,List.all_eq_true,Bool.or_eq_true]at ok;obtain⟨⟨⟨⟨⟨⟨⟨kind,cell⟩,free⟩,nms⟩,cap⟩,lc⟩,lf⟩,len⟩:=ok;subst hN0 hsc;refine xv (wpAny_newFunctionEnv cell (by intro y hy;simp at hy) (λh1 ns1 sb1=>?_) kind);dsimp only at ns1 sb1 ⊢;generalize eG:s.heap.push {cls:=.type "list",dict:=none,data:=.seq ([]:List Value).toArray}=G2 at ns1 sb1 ⊢;have eC:G2.objs.size=s.heap.objs.size+1:=by rw[<-eG,xk]
 generalize eCC:G2.objs.size=C at ns1 sb1 eC ⊢;generalize eD:s.heap.objs.size=D at eC ⊢;have ltD:∀b o,s.heap.get? b=some o->b<D:=λb o e=>eD▸jd e;have DC:D≠C:=by rw[eC];exact jl (Nat.lt_succ_self _)
 have bC:∀b:Nat,b<D->b≠C:=λb hb z=>by rw[z,eC]at hb;exact absurd hb (Nat.not_lt.mpr (Nat.le_succ _))
 have old:∀b o,s.heap.get? b=some o->h1.get? b=some o:=λb o e=>by have hb:=ltD b o e;refine sb1.extBut b o (bC b hb) (je _ ?_);rw[<-eG];exact je _ e
 have accD:h1.get? D=some {cls:=.type "list",data:=.seq ([]:List Value).toArray 0}:=by refine sb1.extBut _ _ DC (je _ ?_);rw[<-eG,<-eD];exact jo _ rfl
 have freeD:H D=none:=I.hok.fresh (by rw[eD];exact jf _);have freeC:H C=none:=I.hok.fresh (by rw[eD,eC];exact Nat.le_succ _);have fpD:∀b∈fp,b<D:=λb hb=>let ⟨o,e,_⟩:=T.obj 0 _ st b hb;ltD b o e
 have cellD:∀x c,X.env.cells.lookup x=some c->c<D:=λx c e=>let ⟨v,o,ho,_⟩:=I.cell x c e;ltD c o ho
 have pinD:∀p∈X.pn++z6,p.1<D:=λp hp=>ltD _ _ (I.pin p hp).1;have stkD:∀b∈frs X.stack,b<D:=λb hb=>by
  rcases List.mem_cons.mp (I.stkSub b hb)with e|z
  ·subst e;rw[<-eD];exact I.lt
  ·obtain⟨_,o,ho,_⟩:=I.ok.funs.mem z;rw[<-eD];exact jm (jd ho) I.sz
 have fpS:∀b∈fp,b∉frs X.stack:=λb hb z=>by
  obtain⟨_,f1,f2,_⟩:=fo b hb;rcases List.mem_cons.mp (I.stkSub b z)with e|q
  ·exact f1 e
  ·exact f2 q
 have kindB:(compEnvC scope cl C X.env).scope.kind=.function:=kind;have okB:(cxB X N scope s H C cl fp).Ok:={
  mod:=I.ok.mod
  kind:=kind
  glob:=I.ok.glob
  blt:=I.ok.blt
  above:=by show s.heap.objs.size<=C;rw[eD,eC];exact Nat.le_succ _
  inj:=λx y c e1 e2=>I.ok.inj x y c (hcl x c e1) (hcl y c e2)
  has:=λx hx=>by obtain⟨y,hy,e,f⟩:=q5b (env:=X.env) (names:=scope.names) (x:=x) hx cell;subst e;exact j6 y hy f
  cab:=λx c z=>by cases z
  hd:=I.ok.hd
  frames:=I.ok.frames
  stk:=.inl rfl
  exf:=λb hb=>⟨bC b (fpD b hb),λx c e=>(fo b hb).2.2.2.2.1 x c (hcl x c e)⟩
  bs:=λb o e=>I.bs b o e
  bsz:=ju I.ok.bsz I.sz
  noex:=λb o e hb=>by
   rcases(fo b hb).2.2.2.1 with z|z
   ·exact I.ok.noex b o e z
   ·exact absurd (jm (jd e) (ju I.ok.bsz z)) (xc _)
  exfs:=fpS
  funs:=I.stack
  frf:=I.stkFree}
 have upH:∀b o,s.heap.get? b=some o->h1.get? b=some o:=old;have IB:Inv (cxB X N scope s H C cl fp) [(D,{cls:=.type "list",data:=.seq ([]:List Value).toArray 0})] (caps n js σ) H {s with heap:=h1,toks:=s.toks+([]:List (Str×Value)).length}:=by
  refine⟨okB,rfl,I.bare,Un.kept old,⟨_,ns1,λi x v e1 e2 e3=>?_⟩,λx c e=>?_,freeC,λx c e=>I.freeC x c (hcl x c e),λp hp=>?_,I.hok.kept old,?_⟩
  ·have hi:n<=i:=by
    by_cases hlt:i<n
    ·rw[q5p hlt]at e2;cases e2
    ·omega
   obtain⟨j,ej,ev⟩:=qb1 hi e2;have hxN:(N.drop n)[i-n]? =some x:=by rw[List.getElem?_drop,show n+(i-n)=i by omega];exact e1
   have hxm:x∈N.drop n:=xq hxN;have eN:X.N[j]? =some x:=by
    have q:(js.map λj=>X.N[j]?)[i-n]? =some (X.N[j]?):=by rw[jk,ej];rfl
    rw[cap,jk,hxN]at q;exact(jh q).symm
   obtain⟨m0,_,hl⟩:=I.loc;have kx:=lc x hxm;have vis:Vis X.env.scope x:=by
    rcases kx with z|z
    ·exact .inr (.inl z)
    ·exact .inr (.inr z)
   obtain⟨u,r,lk⟩:=hl j x v eN ev vis;refine⟨u,r,?_⟩;rcases lk with⟨q,_⟩|⟨_,c,ec,o,ho,hd⟩
   ·exfalso;have q':X.env.scope.names.lookup x=some .local:=q;rcases kx with z|z
    ·rw[z]at q';cases q'
    ·rw[z]at q';cases q'
   ·have fx:scope.names.lookup x=some .free:=lf x hxm;obtain⟨c',ec'⟩:∃c',cl.lookup x=some c':=by
     have hm:(x,NameKind.free)∈scope.names:=mem_of_lookup fx;exact j6 _ hm rfl
    have ecc:c'=c:=by have z:=hcl x c' ec';rw[ec]at z;exact(jh z).symm
    subst ecc;refine .inr ⟨?_,c',ec',o,old _ _ ho,hd⟩;rcases e3 with z|z|z
    ·exfalso;have z':(relabel scope X.env).names.lookup x=some .local:=z;exact q30 _ fx z'
    ·exact .inl z
    ·exact .inr z
  ·obtain⟨v,o,ho,hd⟩:=I.cell x c (hcl x c e);exact⟨v,o,old _ _ ho,hd⟩
  ·have e:p=(D,{cls:=.type "list",data:=.seq ([]:List Value).toArray 0}):=by simpa[cxB]using hp
   subst e;exact⟨accD,freeD,DC,λz=>absurd (stkD D z) (xc _),λv=>by intro z;cases z⟩
  ·show(caps n js σ).length=N.length;rw[q7w];exact len
 -- what stays true of the iterator's records
 have stat:∀{H':Hp} {oD:Obj},(∀b∈fp,H' b=none)->∀b∈fp,FpOk (cxB X N scope s H C cl fp) [(D,oD)] H' b:=λ{H' oD} hn b hb=>
  ⟨hn b hb,bC b (fpD b hb),fpS b hb,.inl hb,λx c e=>(fo b hb).2.2.2.2.1 x c (hcl x c e),λp hp=>by
    have e:p=(D,oD):=by simpa[cxB]using hp
    subst e;exact Nat.ne_of_gt (fpD b hb)⟩
 obtain⟨W,⟨m0,w0⟩,zr⟩:=G;have loop:codeAny (model X.prog X.w) X.A (.compLoop (.ListComp elt [⟨tg,ze,ifs,0⟩] scope pos) 0 (.ref it) (.ref D) (compEnvC scope cl C X.env)) (RR (.ref D) C) {s with heap:=h1,toks:=s.toks+([]:List (Str×Value)).length}:=by
  refine q8y (λm s'=>∃(i:Nat) (ys:List V) (its:List Value) (kk:Nat) (σ':St) (H':Hp),Inv (cxB X N scope s H C cl fp) [(D,{cls:=.type "list",data:=.seq its.toArray kk})] σ' H' s'/\Vals ys its/\(σ'.length=(caps n js σ).length/\∀i,n<=i->σ'[i]? =(caps n js σ)[i]?)/\
   tn i s'.heap/\(∀b∈fp,H' b=none)/\W i m ys H') ?_ m0 ⟨0,[],[],0,_,H,IB,.nil,⟨rfl,λ_ _=>rfl⟩,T.keep _ _ _ st λb hb o e=>old b o e,λb hb=>(fo b hb).1,w0⟩
  rintro m s3 ⟨i,ys,its,kk,σ3,H3,I3,r3,⟨l3,a3⟩,st3,fr3,w3⟩;have I3':Inv (cxB X N scope s H C cl fp) [(D,{cls:=.type "list",data:=.seq its.toArray kk})] (caps n js σ) H3 s3:=I3.weak l3.symm λj v e=>by
   by_cases hj:j<n
   ·rw[q5p hj]at e;cases e
   ·rw[a3 j (by omega)];exact e
  rcases zr i m ys H3 w3 with⟨stop,hz,fin⟩|⟨go,hz,Nn,hNn,step⟩
  ·refine x8 (T.done (cxB X N scope s H C cl fp) rfl rfl rfl hc i _ s3 _ H3 (λ_ _=>False) I3' (stat fr3) st3 stop) (λr s4 h4=>?_) λ_ _ z=>z;obtain⟨hr,I4⟩:=h4;refine .inl ⟨hr,?_⟩;have pD:=I4.pin (D,{cls:=.type "list",data:=.seq its.toArray kk}) (by simp[cxB]);obtain⟨mC,nsC,_⟩:=I4.loc;obtain⟨oC,es,ep,hoC,dC,rC⟩:=id nsC;have J4:Inv X z6 σ H3 s4:=I.call' (s':=s4) I4.os (ch:=fp) I4.base I4.hok I4.bare λb hb=>by
    obtain⟨_,f1,f2,f3,f4,f5⟩:=fo b hb;exact⟨f3,f1,f4,f5⟩
   have fC:H3 C=none:=I4.free;have ltL:X.env.locals<D:=eD▸I.lt;have cL:C≠X.env.locals:=(bC _ ltL).symm;have cC:∀x c,X.env.cells.lookup x=some c->c≠C:=λx c e=>bC c (cellD x c e);have cP:∀p∈X.pn++z6,p.1≠C:=λp hp=>bC p.1 (pinD p hp);have cS:X.s₀.heap.objs.size<=C:=ju I.sz (by rw[eD,eC];exact Nat.le_succ _);have dS:X.s₀.heap.objs.size<=D:=by have:=I.sz;rw[eD]at this;exact this
   have cF:C∉X.fs:=λz=>by obtain⟨_,o,ho,_⟩:=I.ok.funs.mem z;exact xc _ (jm (jd ho) cS)
   have J5:Inv X (z6++[(C,oC)]) σ H3 s4:=J4.pins_of λp hp=>(List.mem_append.mp hp).elim (λz=>J4.pin p (jw _ z)) λz=>by
    have e:p=(C,oC):=by simpa using z
    subst e;exact⟨hoC,fC,cL,cF,λv z=>by have z':oC.data=.cell v:=z;rw[dC]at z';cases z'⟩
   refine k D C oC mC ys H3 s4 (J5.track pD.2.1 dS (Nat.ne_of_gt ltL) (λx c e=>jl (cellD x c e)) (λp hp=>?_) ?_) pD.2.1 nsC cS cL cC cP ?_ fin
   ·rcases List.mem_append.mp hp with z|z
    ·exact jl (pinD p (List.mem_append_left _ z))
    ·rcases List.mem_append.mp z with z|z
     ·exact jl (pinD p (jw _ z))
     ·have e:p=(C,oC):=by simpa using z
      subst e;exact Ne.symm DC
   ·exact⟨hz,its,kk,r3,pD.1⟩
   ·rw[q0i (Ne.symm DC)];exact fC
  ·refine x8 (T.item (cxB X N scope s H C cl fp) rfl rfl rfl hc i _ s3 _ H3 (λ_ _=>False) I3' (stat fr3) st3 go) (λr s4 h4=>?_) λ_ _ z=>z;obtain⟨u,hr,h4⟩:=h4;refine .inr ⟨u,hr,?_⟩;refine thn h4 λ_ s5 h5=>?_;obtain⟨x,H5,I5,r5,y5,st5,fr5⟩:=h5;have I5':=I5.pinned (stat fr5) (T.obj _ _ st5);refine thn (hg s H C cl fp _ s5 _ H5 x u _ I5' r5 (hgo _ _ _ _ (step x H5 y5))) λ_ s6 h6=>?_;obtain⟨σ6,H6,I6,q6,l6,a6⟩:=h6;refine thn (ht s H C cl fp _ s6 σ6 H6 _ I6 q6) λok s7 h7=>?_;obtain⟨H7,I7,q7⟩:=h7;have stays:∀{H8:Hp} {s8:Shared},Inv (cxB X N scope s H C cl fp) ([(D,{cls:=.type "list",data:=.seq its.toArray kk})]++q70 fp s5.heap) σ6 H8 s8->(∀b∈fp,∀o,s5.heap.get? b=some o->s8.heap.get? b=some o)/\∀b∈fp,H8 b=none:=λ{H8 s8} I8=>
    ⟨λb hb o e=>(I8.pin (b,o) (jw _ (jw _ (q38 hb e)))).1,λb hb=>by obtain⟨o,e,d⟩:=T.obj _ _ st5 b hb;exact(I8.pin (b,o) (jw _ (jw _ (q38 hb e)))).2.1⟩
   cases ok with
   | false=>
    obtain⟨m',hm,w7⟩:=hNn ys H7 (show Nn ys H7 from q7);obtain⟨z1,z2⟩:=stays I7;exact⟨m',hm,i+1,ys,its,kk,σ6,H7,I7.unpinned,r3,⟨l6,a6⟩,T.keep _ _ _ st5 z1,z2,w7⟩
   | true=>
    show wpAny _ _ (eval elt _) _ _ s7;refine thn (he s H C cl fp _ s7 σ6 H7 _ I7 q7) λy s8 h8=>?_;obtain⟨vy,H8,I8,ry,n8⟩:=h8;obtain⟨m',hm,w8⟩:=hNn _ _ n8;obtain⟨z1,z2⟩:=stays I8;have pD:=I8.pin (D,{cls:=.type "list",data:=.seq its.toArray kk}) (by simp[cxB]);have lenits:its.length<sizeLine:=by rw[<-r3.length];exact hz
    refine append_at pD.1 (λh9 hs9 hD9=>?_) (by simpa using Nat.le_of_lt lenits);have keep9:∀b o,b≠D->s8.heap.get? b=some o->h9.get? b=some o:=λb o hb e=>hs9.extBut b o hb e;have I9:Inv (cxB X N scope s H C cl fp) [] σ6 H8 {s8 with heap:=h9}:=(I8.pins_of (pins':=[]) λp hp=>nomatch hp).turned (it:=D) keep9 pD.2.1 DC (.inr (by show s.heap.objs.size<=D;rw[eD];exact jf _))
     (λx c e=>jl (cellD x c (hcl x c e))) λp hp=>by simp[cxB]at hp
    refine⟨m',hm,i+1,ys++[vy],its++[y],kk+1,σ6,H8,I9.pins_of λp hp=>?_,r3.append (.cons ry .nil),⟨l6,a6⟩,T.keep _ _ _ st5 λb hb o e=>keep9 b o (jl (fpD b hb)) (z1 b hb o e),z2,w8⟩;have e:p=(D,{cls:=.type "list",data:=.seq (its++[y]).toArray (kk+1)}):=by simpa using hp
    subst e;refine⟨?_,pD.2.1,DC,λz=>absurd (stkD D z) (xc _),λv z=>by cases z⟩;show h9.get? D=_;rw[hD9,List.push_toArray]
 exact codeAny_compStart_list loop (T.self _ 0 _ _ _ (T.keep _ _ _ st λb hb o e=>old b o e) loop)
end
section
variable{X:Cx}{tg elt ze:Expr}{ifs:List Expr}{scope:Scope}{pos:Pos}{N N0:List Str}{n:Nat}{js:List Nat}{sc:Scope}{wi:TI}{g:TG}{tt:TT}{te:TE}
theorem qaz{z6:List (Addr×Obj)}{σ:St}{H:Hp}{s:Shared}(I:Inv X z6 σ H s)(hsc:X.env.scope=sc)(ok:q1j sc N0 N n js scope=true):∀y∈scope.names,y.2=.free->∃c,X.env.cells.lookup y.1=some c:=by
 simp only[q1j,Bool.and_eq_true,decide_eq_true_eq,List.all_eq_true,Bool.or_eq_true]at ok;obtain⟨⟨⟨⟨⟨⟨⟨kind,cell⟩,free⟩,nms⟩,cap⟩,lc⟩,lf⟩,len⟩:=ok;subst hsc;intro y hy hf;rcases free y hy with(z|z)|z
 ·exact absurd hf z
 ·exact I.ok.has y.1 (.inl z)
 ·exact I.ok.has y.1 (.inr z)
theorem q7b(ok:q1j sc N0 N n js scope=true):scope.kind=.function/\∀x∈scope.names,x.2=.local->scope.names.lookup x.1=some .local:=by
 simp only[q1j,Bool.and_eq_true,decide_eq_true_eq,List.all_eq_true,Bool.or_eq_true]at ok;obtain⟨⟨⟨⟨⟨⟨⟨kind,cell⟩,free⟩,nms⟩,cap⟩,lc⟩,lf⟩,len⟩:=ok;refine⟨kind,λx hx hl=>?_⟩;rcases nms x hx with z|z
 ·exact absurd hl z
 ·exact z
theorem Inv.butC{z6:List (Addr×Obj)}{σ:St}{H:Hp}{s:Shared}{C:Addr}{oC:Obj}{h':Heap}(I:Inv X (z6++[(C,oC)]) σ H s)(hs:Heap.SameBut C s.heap h')(h1:X.s₀.heap.objs.size<=C)(h2:C≠X.env.locals)
 (h3:∀x c,X.env.cells.lookup x=some c->c≠C) (h4:∀p∈X.pn++z6,p.1≠C) (h5:H C=none):Inv X z6 σ H {s with heap:=h'}:=
 I.unpinned.turned (it:=C) (t':=s.toks) (λb o hb e=>hs.extBut b o hb e) h5 h2 (.inr h1) h3 h4
theorem q2c(hc:X.calm=true)(hsc:X.env.scope=sc)(hN0:X.N=N0)(ok:q1j sc N0 N n js scope=true)(hi:PI X tg ze wi)
 (hg:∀s H C cl fp,PG (cxB X N scope s H C cl fp) tg g) (hgo:Own n g) (ht:∀s H C cl fp,PIf (cxB X N scope s H C cl fp) ifs tt) (he:∀s H C cl fp,PE (cxB X N scope s H C cl fp) elt te)
 (hs:∀x,foldedSetIterable ze X.env x=pure x:=by intro _;rfl):PE X (.ListComp elt [⟨tg,ze,ifs,0⟩] scope pos) (qfx n js wi g tt te):=by
 intro z6 s σ H Q I h;obtain⟨cl,hclos,c1,c2⟩:=q40 (qaz I hsc ok);obtain⟨kd,nm⟩:=q7b ok;rw[eval_ListComp];refine wpAny_comprehension_free (use:=none) rfl hs hclos kd nm ?_;refine thn (hi z6 s σ H _ I h) λv s1 h1=>thn h1 λitv s2 h2=>?_;obtain⟨it,fp,tn,J,H2,e,I2,T,st2,f2,G⟩:=h2;subst e;refine q7c (RR:=λacc C=>compPost (model X.prog X.w) X.A X.xe none (EP X z6 σ Q) acc C) hc hsc hN0 ok hg hgo ht he I2 T st2 f2 c1 c2 G ?_;intro D C oC m ys H' s' I' hD ns k1 k2 k3 k4 k5 fin;exact⟨m,ns,λh' hs'=>⟨.ref D,_,I'.butC hs' k1 k2 k3 k4 k5,rfl,fin D hD⟩⟩
theorem q4e{k:Nat}{y:Str}{py j3:Pos}(hc:X.calm=true)(hsc:X.env.scope=sc)(hN0:X.N=N0)(ok:q1j sc N0 N n js scope=true)(hN:X.N.Nodup)(hk:X.N[k]? =some y)(hy:Loc X.env.scope y)
 (hi:PI X tg ze wi) (hg:∀s H C cl fp,PG (cxB X N scope s H C cl fp) tg g) (hgo:Own n g) (ht:∀s H C cl fp,PIf (cxB X N scope s H C cl fp) ifs tt) (he:∀s H C cl fp,PE (cxB X N scope s H C cl fp) elt te)
 (hsw:swapsWith (.ListComp elt [⟨tg,ze,ifs,0⟩] scope pos) (some (.Name y py)) j3.line X.env=pure true:=by rfl) (hs:∀x,foldedSetIterable ze X.env x=pure x:=by intro _;rfl)
 (hf:X.fn y=true∨X.env.scope.names.lookup y=some .local:=by first|exact .inl rfl|exact .inr rfl):PS X (.Assign [.Name y py] (.ListComp elt [⟨tg,ze,ifs,0⟩] scope pos) j3) (q9d k n js wi g tt te):=by
 intro z6 s σ H D0 I h;obtain⟨cl,hclos,c1,c2⟩:=q40 (qaz I hsc ok);obtain⟨kd,nm⟩:=q7b ok;rw[exec_Assign_Name_used _ _ _ _ hsw];refine ja (wpAny_standAt (ja ?_));show wpAny _ X.A (comprehension (.ListComp elt [⟨tg,ze,ifs,0⟩] scope pos) scope X.env _ (newList []) false (eval ze X.env) (some (assign (.Name y py) X.env)) >>= λ_=>pure ()) _ _ s;refine ja (x8 (wpAny_comprehension_free (use:=some (assign (.Name y py) X.env)) (Q:=λ_ s'=>SP X z6 D0 .next s') rfl hs hclos kd nm ?_) (λ_ s' q=>jc (jc q)) λ_ _ z=>z);refine thn (hi z6 s σ H _ I h) λv s1 h1=>thn h1 λitv s2 h2=>?_;obtain⟨it,fp,tn,J,H2,e,I2,T,st2,f2,G⟩:=h2;subst e;refine q7c (RR:=λacc C=>compPost (model X.prog X.w) X.A X.xe (some (assign (.Name y py) X.env)) (λ_ s'=>SP X z6 D0 .next s') acc C) hc hsc hN0 ok hg hgo ht he I2 T st2 f2 c1 c2 G ?_;intro D C oC m ys H' s' I' hD ns k1 k2 k3 k4 k5 fin;show wpAny _ X.A (assign (.Name y py) X.env (.ref D)) _ _ s';refine wpAny_assign_Name (q5l I' hN hk hy (v:=.ref D) rfl (λs'' I''=>?_) hf);have pc:=I''.pin (C,oC) (jw _ (jw _ jj));obtain⟨o,es,ep,ho,r⟩:=ns;have pc':=I'.pin (C,oC) (jw _ (jw _ jj));have eo:o=oC:=by have z:=pc'.1;rw[ho]at z;exact jh z
 subst eo;exact⟨m,⟨o,es,ep,pc.1,r⟩,λh' hs'=>⟨_,_,I''.butC hs' k1 k2 k3 k4 k5,fin D hD⟩⟩
end
theorem Same.new{H:Hp}{l:Addr}{o:HO}(h:H l=none):Same H (upd H l o):=λb u e=>by rw[q0i (q18 e h)];exact e
theorem Same.tup{K:FrG}{H H':Hp}{a:Addr}{xs:List V}(e:Same H H')(h:SqT K H a xs):SqT K H' a xs:=by
 rcases h with(h|⟨o,h⟩)|h
 ·exact .inl (.inl (e _ _ h))
 ·exact .inl (.inr ⟨o,e _ _ h⟩)
 ·exact .inr h
section
variable{X:Cx}{K:FrG}
theorem q0a(h:X.K=K):IxR X (rIx K):=h▸qpf
theorem q1o(h:X.K=K):q5j X (.builtin "len") (λxs H Q=>∃p ys,xs=[.ref p]/\(SqL K H p ys∨SqT K H p ys)/\Q (.int ys.length) H):=by subst h;exact q90
theorem q7d(h:X.K=K):q5j X (.type "list") (λxs H Q=>∃p ys,xs=[.ref p]/\(SqL K H p ys∨SqT K H p ys)/\∀l,H l=none->Q (.ref l) (upd H l (.lst ys))):=by subst h;exact q8z
theorem q3c(h:X.K=K):q5j X (.type "tuple") (λxs H Q=>∃p ys,xs=[.ref p]/\((SqL K H p ys/\∀l,H l=none->Q (.ref l) (upd H l (.tup ys)))∨(SqT K H p ys/\Q (.ref p) H))):=by subst h;exact q7y
theorem qga{tg l:Expr}{tl:TE}(h:X.K=K)(hl:PE X l tl):PI X tg l (qkt K tl):=h▸qjs hl
theorem qjr{tg l:Expr}{tl:TE}(h:X.K=K)(hl:PE X l tl):PI X tg l (iTup K tl):=h▸qnb hl
theorem q3v{es:List Expr}{k:Nat}{t:TGs}{n:Nat}{pos:Pos}(hK:X.K=K)(hc:X.calm=true)(h:PGs X es t)(hn:(assignEach es X.env).length=n:=by rfl)(hst:(assignEach es X.env).findIdx? (·.1)=none:=by rfl):PG X (.Tuple es k pos) (gTup K n t):=hK▸qnc hc h hn hst
theorem q9h{e:Expr}{f:Str}{pos:Pos}{ta:TE}(hK:X.K=K)(he:PE X e ta)(hb:attributeBase e f X.env (eval e X.env)=eval e X.env):PE X (.Attribute e f pos) (tFld K ta f):=hK▸qne he hb
end
theorem PE.or{X:Cx}{e:Expr}{t u:TE}(h:PE X e t)(k:PE X e u):PE X e λσ H Q=>t σ H Q∨u σ H Q:=λz6 s σ H Q I q=>by
 rcases q with q|q
 ·exact h z6 s σ H Q I q
 ·exact k z6 s σ H Q I q
def clsV:V->Option Value
 |.ref a=>some (.ref a)
 |.ty n=>some (.type n)
 |_=>none
def rIsi(K:FrG):List V->Hp->VK->Prop:=λxs H Q=>∃x y t c b,xs=[x,y]/\clsV y=some c/\TyOf K H x t/\PySem.W.kitOne K t c=some b/\Q (.bl b) H
section
variable{X:Cx}
theorem qhj{K:FrG}(hK:X.K=K):q5j X (.builtin "isinstance") (rIsi K):=by
 subst hK;intro z6 s σ H xs us Q I r h;obtain⟨x,y,t,c,b,rfl,hc,ty,e,q⟩:=h;obtain⟨u,w,rfl,ru,rw'⟩:=vals2 r;have ew:w=c:=by
  cases y with
  | ref a=>
   have z:w=Value.ref a:=rw';rw[z];exact jh hc
  | ty n=>
   have z:w=Value.type n:=rw';rw[z];exact jh hc
  |_=>cases hc
 subst ew;exact qej I ru ty e λtk=>⟨.bl b,H,I.tok tk,rfl,q⟩
theorem q7s{K:FrG}{v:Value}:PySem.W.kitOne K v v=some true:=by unfold PySem.W.kitOne;rw[if_pos (beq_self_eq_true v)]
theorem q2n{K:FrG}{T U:String}{b:Bool}(hm:PySem.W.kitMeta U=true)(h3:PySem.W.subIn K (.type T) (.type U)=some b)(hn:Value.type T≠.type U):PySem.W.kitOne K (.type T) (.type U)=some b:=by unfold PySem.W.kitOne;rw[if_neg (λz=>hn (eq_of_beq z))];unfold PySem.W.kitCls;dsimp only;rw[if_pos hm];exact h3
mutual
inductive DV(K:FrG)(H:Hp):V->PyData->Prop
 |non:DV K H .non .none
 |bl (b:Bool):DV K H (.bl b) (.bool b)
 |int (i:Int):DV K H (.int i) (.int i)
 |str (x:Str):DV K H (.str x) (.str x)
 |lst {a:Addr} {xs:List V} {ds:List PyData}:SqL K H a xs->DVs K H xs ds->DV K H (.ref a) (.list ds)
 |tup {a:Addr} {xs:List V} {ds:List PyData}:SqT K H a xs->DVs K H xs ds->DV K H (.ref a) (.tuple ds)
inductive DVs(K:FrG)(H:Hp):List V->List PyData->Prop
 |nil:DVs K H [] []
 |cons {x:V} {xs:List V} {d:PyData} {ds:List PyData}:DV K H x d->DVs K H xs ds->DVs K H (x::xs) (d::ds)
end
mutual
theorem q4x{z6:List (Addr×Obj)}{σ:St}{H:Hp}{s:Shared}(I:Inv X z6 σ H s):∀{x:V} {d:PyData} {u:Value},DV X.K H x d->RelV x u->∃as,Reads s.heap u d as
 |_,_,u,.non,r=>by cases(show u=Value.none from r);exact⟨_,.none⟩
 |_,_,u,.bl b,r=>by cases(show u=Value.bool b from r);exact⟨_,.bool b⟩
 |_,_,u,.int i,r=>by obtain⟨t,e⟩:=(show∃t,u=Value.int i t from r);cases e;exact⟨_,.int i t⟩
 |_,_,u,.str x,r=>by obtain⟨t,e⟩:=(show∃t,u=Value.str x t from r);cases e;exact⟨_,.str x t⟩
 | _,_,u,.lst (a:=a) hq hs,r=>by cases(show u=Value.ref a from r);obtain⟨its,rv,pl,_⟩:=I.list hq;obtain⟨o,e,c,n,dd⟩:=pl.isList;obtain⟨as,q⟩:=q4l I hs rv;exact⟨_,reads_list_at e c dd (by simpa using q)⟩
 | _,_,u,.tup (a:=a) hq hs,r=>by cases(show u=Value.ref a from r);obtain⟨its,rv,pl,_⟩:=I.tuple hq;obtain⟨o,e,c,n,dd⟩:=pl;obtain⟨as,q⟩:=q4l I hs rv;exact⟨_,reads_tuple_at e c dd (by simpa using q)⟩
theorem q4l{z6:List (Addr×Obj)}{σ:St}{H:Hp}{s:Shared}(I:Inv X z6 σ H s):∀{xs:List V} {ds:List PyData} {us:List Value},DVs X.K H xs ds->Vals xs us->∃as,ReadsAll s.heap us ds as
 |_,_,_,.nil,.nil=>⟨_,.nil⟩
 | _,_,_,.cons h t,.cons r rs=>by obtain⟨as,q⟩:=q4x I h r;obtain⟨bs,p⟩:=q4l I t rs;exact⟨_,.cons q p⟩
end
def rEqD(K:FrG):R2:=λx y H Q=>∃d e,DV K H x d/\DV K H y e/\SeqAt.shaped d=true/\SeqAt.shaped e=true/\Q (.bl (PyData.eqv d e)) H
def rNeD(K:FrG):R2:=λx y H Q=>∃d e,DV K H x d/\DV K H y e/\SeqAt.shaped d=true/\SeqAt.shaped e=true/\Q (.bl (!PyData.eqv d e)) H
theorem q26{K:FrG}(hK:X.K=K)(hu:X.A.units+64<cLine):OpR X (compareOp .Eq) (rEqD K):=by subst hK;intro z6 s σ H x y v u Q I rx ry h;obtain⟨d,e,hd,he,sd,se,q⟩:=h;obtain⟨as,ra⟩:=q4x I hd rx;obtain⟨bs,rb⟩:=q4x I he ry;exact eq_dataH ra rb sd se hu ⟨.bl _,H,I,rfl,q⟩
theorem q4t{K:FrG}(hK:X.K=K)(hu:X.A.units+64<cLine):OpR X (compareOp .NotEq) (rNeD K):=by subst hK;intro z6 s σ H x y v u Q I rx ry h;obtain⟨d,e,hd,he,sd,se,q⟩:=h;obtain⟨as,ra⟩:=q4x I hd rx;obtain⟨bs,rb⟩:=q4x I he ry;exact ne_dataH ra rb sd se hu ⟨.bl _,H,I,rfl,q⟩
structure MkN(K:FrG)(C:Addr):Prop where
 makes:PySem.W.makesIn K C=true
 init:PySem.W.findIn K (.ref C) "__init__"=some (some (.builtin "object.__init__"))
 kp:PySem.W.keepIn K (.ref C)=true
def qi6(C:Addr):TE:=λ_ H Q=>∀x dx,H x=none->H dx=none->dx≠x->Q (.ref x) (upd (upd H dx (.own x)) x (.ins C dx []))
theorem qd7{C:Addr}{z6:List (Addr×Obj)}{σ:St}{H:Hp}{s:Shared}{Q:VK}(M:MkN X.K C)(I:Inv X z6 σ H s)
 (h:∀x dx,H x=none->H dx=none->dx≠x->Q (.ref x) (upd (upd H dx (.own x)) x (.ins C dx []))):wpAny (model X.prog X.w) X.A (call (.ref C) []) (EP X z6 σ Q) X.xe s:=by
 have hq:=h (s.heap.objs.size+1) s.heap.objs.size (I.hok.fresh (Nat.le_succ _)) (I.hok.fresh (jf _)) (jl (Nat.lt_succ_self _));have I2:=Inv.made (C:=C) I;refine wpAny_call (qe8 I.kIn M.makes M.init (λself=>PySem.W.Looks.of_pure (PySem.W.oi_bind self)) ?_);have Y:=PySem.W.makes_of (M:=model X.prog X.w) I.kIn M.makes;have g1:((s.heap.push PySem.W.emptyDict).push (PySem.W.instObj C s.heap.objs.size)).get? (s.heap.objs.size+1)=some (PySem.W.instObj C s.heap.objs.size):=by
  have z:=jo (o:=PySem.W.instObj C s.heap.objs.size) (s.heap.push PySem.W.emptyDict) rfl
  rwa [xk]at z
 have t1:PySem.W.Looks (model X.prog X.w) ((s.heap.push PySem.W.emptyDict).push (PySem.W.instObj C s.heap.objs.size)) (typeOf (.ref (s.heap.objs.size+1))) (.ref C):=(PySem.W.Looks.ld g1).andThen .now;have t2:PySem.W.Looks (model X.prog X.w) ((s.heap.push PySem.W.emptyDict).push (PySem.W.instObj C s.heap.objs.size)) (isInstance (.ref (s.heap.objs.size+1)) (.type "object")) true:=
  t1.andThen (Y.top.keeps λb o e=>je _ (je _ e))
 refine codeAny_call_builtin PySem.W.oi_plain PySem.W.entry_oi (PySem.W.check_slot PySem.W.oi_kind PySem.W.oi_split t2 (PySem.W.oi_args _) ?_);rw[PySem.W.oi_run];exact jc ⟨rfl,⟨.ref (s.heap.objs.size+1),_,I2,rfl,hq⟩⟩
theorem qgb{C:Addr}{x:Str}{p pos:Pos}(M:MkN X.K C)(hg:Gl X x)(hm:X.mg x=some (.ref C))(hdb:(x==("__debug__":Str))=false:=by decide):PE X (.Call (.Name x p) [] [] pos) (qi6 C):=by intro z6 s σ H Q I h;refine xn (q4i I hg hm ?_ hdb);exact PySem.W.callWith_K0 I.kIn M.kp (qd7 M I h)
end
def seqIs(b:Bool)(h:Heap)(l:Addr)(xs:Array Value):Prop:=match b with
 |true=>h.IsList l xs
 |false=>h.IsTuple l xs
def iterIs(b:Bool)(h:Heap)(i l:Addr)(k:Nat):Prop:=match b with
 |true=>h.IsListIter i l k
 |false=>h.IsTupleIter i l k
def q4j(b:Bool)(l:Addr):Obj:={cls:=.type (if b then "list_iterator" else "tuple_iterator"),data:=.fields #[.ref l,.int 0 0]}
theorem seqIs.at_{b:Bool}{h h':Heap}{l:Addr}{xs:Array Value}(q:seqIs b h l xs)(e:∀o,h.get? l=some o->h'.get? l=some o):seqIs b h' l xs:=by
 cases b
 ·obtain⟨o,z,r⟩:=(show h.IsTuple l xs from q);exact(show h'.IsTuple l xs from⟨o,e o z,r⟩)
 ·obtain⟨o,z,r⟩:=(show h.IsList l xs from q);exact(show h'.IsList l xs from⟨o,e o z,r⟩)
theorem iterIs.at_{b:Bool}{h h':Heap}{i l:Addr}{k:Nat}(q:iterIs b h i l k)(e:∀o,h.get? i=some o->h'.get? i=some o):iterIs b h' i l k:=by
 cases b
 ·obtain⟨o,z,r⟩:=(show h.IsTupleIter i l k from q);exact(show h'.IsTupleIter i l k from⟨o,e o z,r⟩)
 ·obtain⟨o,z,r⟩:=(show h.IsListIter i l k from q);exact(show h'.IsListIter i l k from⟨o,e o z,r⟩)
theorem iterIs.obj{b:Bool}{h:Heap}{i l:Addr}{k:Nat}(q:iterIs b h i l k):∃o,h.get? i=some o/\∀v,o.data≠.cell v:=by
 cases b
 ·obtain⟨o,z,_,d⟩:=(show h.IsTupleIter i l k from q);exact⟨o,z,λv e=>by rw[d]at e;cases e⟩
 ·obtain⟨o,z,_,d⟩:=(show h.IsListIter i l k from q);exact⟨o,z,λv e=>by rw[d]at e;cases e⟩
theorem iterIs.mk_{b:Bool}{h:Heap}{i l:Addr}(q:h.get? i=some (q4j b l)):iterIs b h i l 0:=by
 cases b
 ·exact(show h.IsTupleIter i l 0 from⟨_,q,rfl,rfl⟩)
 ·exact(show h.IsListIter i l 0 from⟨_,q,rfl,rfl⟩)
section
variable{prog:Program}{w:World}{A:Around}{E:Value->Shared->Prop}{s:Shared}
theorem q6y{b:Bool}{l:Addr}{xs:Array Value}{Q:Value->Shared->Prop}(q:seqIs b s.heap l xs)(h:Q (.ref s.heap.objs.size) {s with heap:=s.heap.push (q4j b l)}):wpAny (model prog w) A (pyIter (.ref l)) Q E s:=by
 cases b
 ·exact wpAny_pyIter_tuple (show s.heap.IsTuple l xs from q) h
 ·exact wpAny_pyIter_list (show s.heap.IsList l xs from q) h
theorem q8l{i l:Addr}{k:Nat}{xs:Array Value}{x:Value}{Q:Value->Shared->Prop}(st:s.heap.IsTupleIter i l k)(tp:s.heap.IsTuple l xs)(e:xs[k]? =some x)
 (h:∀h',h'.IsTupleIter i l (k+1)->Heap.SameBut i s.heap h'->Q x {s with heap:=h'}):wpAny (model prog w) A (Builtin.SmallTypes.nextOf (.ref i)) Q E s:=by
 obtain⟨oi,gi,ci,di⟩:=id st;obtain⟨ot,gt,_,nt,dt⟩:=tp;unfold Builtin.SmallTypes.nextOf;refine ja (kl (name:=Str.ofString "__next__") st.typeIs ku (wpAny_call_entry ku st.typeIs F.entry_tuple_iterator_next ?_ (F.args_tuple_iterator_next_1 _)));show wpAny _ _ (field (.ref i) 0 >>= _) _ _ s;refine ja (xf gi di (x:=.ref l) rfl ?_);show wpAny _ _ (if(Value.ref l==Value.none)=true then _ else _) _ _ s;rw[if_neg (by exact Bool.false_ne_true:¬((Value.ref l==Value.none)=true))];show wpAny _ _ (field (.ref i) 1 >>= _) _ _ s;refine ja (xf gi di (x:=.int k 0) rfl ?_);show wpAny _ _ (seqItems? (.ref l) >>= _) _ _ s;refine ja (xp gt dt ?_);simp only[Int.toNat_natCast,e];refine ja (wpAny_setField gi di (by simp) (jc ⟨x,rfl,jc (h _ ?_ (Heap.SameBut.update ..))⟩));refine⟨_,kn _ gi (Obj.isFreed_of_fields (ko di _)),(Obj.cls_mapFields ..).trans ci,?_⟩;rw[ko di];simp[rawInt]
theorem q5i{i l:Addr}{k:Nat}{xs:Array Value}{Q:Value->Shared->Prop}(hh:A.handled=none)(st:s.heap.IsTupleIter i l k)(tp:s.heap.IsTuple l xs)(e:xs[k]? =none)
 (h:∀h' x,Heap.ExtBut i s.heap h'->(∃o,h'.get? x=some o/\o.cls=.type "StopIteration")->E (.ref x) {s with heap:=h'}):wpAny (model prog w) A (Builtin.SmallTypes.nextOf (.ref i)) Q E s:=by
 obtain⟨oi,gi,ci,di⟩:=id st;obtain⟨ot,gt,_,nt,dt⟩:=tp;unfold Builtin.SmallTypes.nextOf;refine ja (kl (name:=Str.ofString "__next__") st.typeIs ku (wpAny_call_entry ku st.typeIs F.entry_tuple_iterator_next ?_ (F.args_tuple_iterator_next_1 _)));show wpAny _ _ (field (.ref i) 0 >>= _) _ _ s;refine ja (xf gi di (x:=.ref l) rfl ?_);show wpAny _ _ (if(Value.ref l==Value.none)=true then _ else _) _ _ s;rw[if_neg (by exact Bool.false_ne_true:¬((Value.ref l==Value.none)=true))];show wpAny _ _ (field (.ref i) 1 >>= _) _ _ s;refine ja (xf gi di (x:=.int k 0) rfl ?_);show wpAny _ _ (seqItems? (.ref l) >>= _) _ _ s;refine ja (xp gt dt ?_);simp only[Int.toNat_natCast,e];refine ja (wpAny_rule (ja (wpAny_setField gi di (by simp) ?_)));show wpAny _ _ (newExc (.type "StopIteration") [] >>= _) _ _ _;refine ja ?_;simp only[newExc,newTuple];refine ja (xv ?_ (by size_fits));refine ja (m:=firstArgMember _ _) (wpAny_of_eq (a:=Value.none) (by first|rfl|(simp only[firstArgMember]<;>rfl)) ?_);refine xv ?_ (by size_fits);simp only[raiseNew];refine ja (wpAny_handled ?_)
 first|rw[(hh:A.in1.handled=none)]|rw[hh]
 refine ja (jc (wpAny_throw ?_));exact h _ _ (((Heap.SameBut.update ..).extBut.push _).push _) ⟨_,jo _ rfl,rfl⟩
theorem q55{b:Bool}{i l:Addr}{k:Nat}{xs:Array Value}{x:Value}{Q:Value->Shared->Prop}(st:iterIs b s.heap i l k)(tp:seqIs b s.heap l xs)(e:xs[k]? =some x)
 (h:∀h',iterIs b h' i l (k+1)->Heap.SameBut i s.heap h'->Q x {s with heap:=h'}):wpAny (model prog w) A (Builtin.SmallTypes.nextOf (.ref i)) Q E s:=by
 cases b
 ·exact q8l st tp e h
 ·exact wpAny_nextOf_list_item st tp e h
theorem q45{b:Bool}{i l:Addr}{k:Nat}{xs:Array Value}{Q:Value->Shared->Prop}(hh:A.handled=none)(st:iterIs b s.heap i l k)(tp:seqIs b s.heap l xs)(e:xs[k]? =none)
 (h:∀h' x,Heap.ExtBut i s.heap h'->(∃o,h'.get? x=some o/\o.cls=.type "StopIteration")->E (.ref x) {s with heap:=h'}):wpAny (model prog w) A (Builtin.SmallTypes.nextOf (.ref i)) Q E s:=by
 cases b
 ·exact q5i hh st tp e h
 ·exact wpAny_nextOf_list_end hh st tp e h
theorem qfg{z TI TO i1 i2 l1 l2:Addr}{b1 b2:Bool}{k1 k2:Nat}{xs ys:Array Value}{x y a b:Value}{Q:Option Value->Shared->Prop}(D:ZipApart z TI TO i1 i2 l1 l2)
 (hz:IsZip s.heap z TI TO .none) (hTI:IsPair s.heap TI (.ref i1) (.ref i2)) (hTO:IsPair s.heap TO a b) (h1:iterIs b1 s.heap i1 l1 k1) (h2:iterIs b2 s.heap i2 l2 k2) (q1:seqIs b1 s.heap l1 xs) (q2:seqIs b2 s.heap l2 ys) (hx:xs[k1]? =some x) (hy:ys[k2]? =some y)
 (hQ:∀h',IsZip h' z TI TO (rawInt s.heap.objs.size)->IsPair h' TO x y->iterIs b1 h' i1 l1 (k1+1)->iterIs b2 h' i2 l2 (k2+1)->IsPair h' s.heap.objs.size x y->
   (∀c o,c≠z->c≠TO->c≠i1->c≠i2->s.heap.get? c=some o->h'.get? c=some o)->Q (some (.ref s.heap.objs.size)) {s with heap:=h'}):wpAny (model prog w) A (pyNext (.ref z)) Q E s:=by
 have ty:s.TypeIs (.ref z) "zip":=⟨_,hz,rfl⟩;unfold pyNext;refine ja (wpAny_attempt (kl (name:=Str.ofString "__next__") ty F.slot_zip_next (wpAny_call_entry F.slot_zip_next ty F.entry_zip_next ?_ (F.args_zip_next_1 _))));show wpAny _ _ (field (.ref z) 2 >>= _) _ _ _;refine ja (xf hz rfl (x:=.bool false) rfl ?_);show wpAny _ _ (field (.ref z) 3 >>= _) _ _ _;refine ja (xf hz rfl (x:=.ref TI) rfl (ja (xp hTI rfl ?_)));show wpAny _ _ (Builtin.SmallTypes.ownedTupleIsFree (.ref z) >>= _) _ _ _;refine ja ?_;unfold Builtin.SmallTypes.ownedTupleIsFree;refine ja (xf hz rfl (x:=.none) rfl (jc ?_));simp only[if_true];refine ja (wpAny_rule (ja (xf hz rfl (x:=.ref TO) rfl (ja (kh hz (by simp) λg1 z1 s1=>?_)))));have Z1:IsZip g1 z TI TO .ellipsis:=z1;refine ja ?_;simp only[List.zipIdx_cons,List.zipIdx_nil,List.forIn_cons,List.forIn_nil];refine ja (ja (wpAny_onRaise ?_));show wpAny _ _ (Builtin.SmallTypes.nextOf (.ref i1) >>= _) _ _ _;refine ja (q55 (h1.at_ λo e=>s1.extBut _ o D.i1z e) (q1.at_ λo e=>s1.extBut _ o D.l1z e) hx λg2 n2 s2=>jc ?_);have P2:IsPair g2 TO a b:=s2.extBut _ _ D.TOi1 (s1.extBut _ _ D.TOz hTO);refine ja (xp P2 rfl (ja (wpAny_updateSeq_pair P2 λg3 p3 s3=>ja (wpAny_letGo (jc ?_)))));have P3:IsPair g3 TO x b:=p3;refine ja (ja (wpAny_onRaise ?_));show wpAny _ _ (Builtin.SmallTypes.nextOf (.ref i2) >>= _) _ _ _;refine ja (q55 (h2.at_ λo e=>s3.extBut _ o D.TOi2.symm (s2.extBut _ o D.i12.symm (s1.extBut _ o D.i2z e))) (q2.at_ λo e=>s3.extBut _ o D.l2TO (s2.extBut _ o D.l2i1 (s1.extBut _ o D.l2z e))) hy λg4 n4 s4=>jc ?_);have P4:IsPair g4 TO x b:=s4.extBut _ _ D.TOi2 P3;refine ja (xp P4 rfl (ja (wpAny_updateSeq_pair P4 λg5 p5 s5=>ja (wpAny_letGo (jc (jc ?_))))));have P5:IsPair g5 TO x y:=p5;refine ja (xp P5 rfl (ja (wpAny_newTuple ?_)));have sz:g5.objs.size=s.heap.objs.size:=by rw[s5.1,s4.1,s3.1,s2.1,s1.1]
 have Z5:IsZip g5 z TI TO .ellipsis:=s5.extBut _ _ D.TOz.symm (s4.extBut _ _ D.i2z.symm (s3.extBut _ _ D.TOz.symm (s2.extBut _ _ D.i1z.symm Z1)));have K5:∀c o,c≠z->c≠TO->c≠i1->c≠i2->s.heap.get? c=some o->g5.get? c=some o:=λc o c1 c2 c3 c4 e=>s5.extBut _ _ c2 (s4.extBut _ _ c4 (s3.extBut _ _ c2 (s2.extBut _ _ c3 (s1.extBut _ _ c1 e))));have N1:iterIs b1 g5 i1 l1 (k1+1):=n2.at_ λo e=>s5.extBut _ o D.TOi1.symm (s4.extBut _ o D.i12 (s3.extBut _ o D.TOi1.symm e));have N2:iterIs b2 g5 i2 l2 (k2+1):=n4.at_ λo e=>s5.extBut _ o D.TOi2.symm e;have zlt:z<g5.objs.size:=jd Z5;show wpAny _ _ (Builtin.SmallTypes.ownedTupleHandOut (.ref z) (.ref g5.objs.size) >>= _) _ _ _;refine ja ?_;unfold Builtin.SmallTypes.ownedTupleHandOut;have Z6:IsZip (g5.push {cls:=.type "tuple",data:=.seq #[x,y]}) z TI TO .ellipsis:=je _ Z5;refine ja (kh Z6 (by simp) λg7 z7 s7=>?_);have Z7:IsZip g7 z TI TO (rawInt g5.objs.size):=z7;refine kh Z7 (by simp) λg8 z8 s8=>?_;have Z8:IsZip g8 z TI TO (rawInt g5.objs.size):=z8;have up:∀c o,c≠z->g5.get? c=some o->g8.get? c=some o:=λc o c1 e=>s8.extBut _ _ c1 (s7.extBut _ _ c1 (je _ e));have T8:IsPair g8 g5.objs.size x y:=s8.extBut _ _ (Nat.ne_of_gt zlt) (s7.extBut _ _ (Nat.ne_of_gt zlt) (jo _ rfl));rw[sz]at Z8 T8;refine jc ⟨_,rfl,jc ?_⟩;show Q (some (.ref g5.objs.size)) _;rw[sz];exact hQ g8 Z8 (up _ _ D.TOz P5) (N1.at_ λo e=>up _ o D.i1z e) (N2.at_ λo e=>up _ o D.i2z e) T8 λc o c1 c2 c3 c4 e=>up c o c1 (K5 c o c1 c2 c3 c4 e)
theorem qj7{z TI TO i1 i2 l1 l2:Addr}{b1 b2:Bool}{k1 k2:Nat}{xs ys:Array Value}{a b:Value}{Q:Option Value->Shared->Prop}(hh:A.handled=none)(D:ZipApart z TI TO i1 i2 l1 l2)
 (hz:IsZip s.heap z TI TO .none) (hTI:IsPair s.heap TI (.ref i1) (.ref i2)) (hTO:IsPair s.heap TO a b) (h1:iterIs b1 s.heap i1 l1 k1) (h2:iterIs b2 s.heap i2 l2 k2) (q1:seqIs b1 s.heap l1 xs) (q2:seqIs b2 s.heap l2 ys) (hend:xs[k1]? =none∨ys[k2]? =none)
 (hQ:∀h',(∀c o,c≠z->c≠TO->c≠i1->c≠i2->s.heap.get? c=some o->h'.get? c=some o)->Q none {s with heap:=h'}):wpAny (model prog w) A (pyNext (.ref z)) Q E s:=by
 have ty:s.TypeIs (.ref z) "zip":=⟨_,hz,rfl⟩;have fin:∀(h':Heap) (e:Addr),(∀c o,c≠z->c≠TO->c≠i1->c≠i2->s.heap.get? c=some o->h'.get? c=some o)->(∃o,h'.get? e=some o/\o.cls=.type "StopIteration")->
  wpAny (model prog w) A (isInstance (.ref e) (.type "StopIteration") >>= λr=>if r=true then pure none else throw (.ref e)) Q E {s with heap:=h'}:=λh' e hk ⟨o,ho,hc⟩=>
  ja (wpAny_isInstance (T:="StopIteration") (b:=true) ⟨o,ho,hc⟩ isSubtype_stop (jc (hQ _ hk)))
 unfold pyNext;refine ja (wpAny_attempt (kl (name:=Str.ofString "__next__") ty F.slot_zip_next (wpAny_call_entry F.slot_zip_next ty F.entry_zip_next ?_ (F.args_zip_next_1 _))));show wpAny _ _ (field (.ref z) 2 >>= _) _ _ _;refine ja (xf hz rfl (x:=.bool false) rfl ?_);show wpAny _ _ (field (.ref z) 3 >>= _) _ _ _;refine ja (xf hz rfl (x:=.ref TI) rfl (ja (xp hTI rfl ?_)));show wpAny _ _ (Builtin.SmallTypes.ownedTupleIsFree (.ref z) >>= _) _ _ _;refine ja ?_;unfold Builtin.SmallTypes.ownedTupleIsFree;refine ja (xf hz rfl (x:=.none) rfl (jc ?_));simp only[if_true];refine ja (wpAny_rule (ja (xf hz rfl (x:=.ref TO) rfl (ja (kh hz (by simp) λg1 z1 s1=>?_)))));have Z1:IsZip g1 z TI TO .ellipsis:=z1;refine ja ?_;simp only[List.zipIdx_cons,List.zipIdx_nil,List.forIn_cons,List.forIn_nil];refine ja (ja (wpAny_onRaise ?_));show wpAny _ _ (Builtin.SmallTypes.nextOf (.ref i1) >>= _) _ _ _;have I1:iterIs b1 g1 i1 l1 k1:=h1.at_ λo e=>s1.extBut _ o D.i1z e;have L1:seqIs b1 g1 l1 xs:=q1.at_ λo e=>s1.extBut _ o D.l1z e;cases ex:xs[k1]? with
 | none=>
  refine ja (q45 hh I1 L1 ex λg2 e s2 he=>?_);obtain⟨oe,he,ce⟩:=he;have Z2:IsZip g2 z TI TO .ellipsis:=s2 _ _ D.i1z.symm Z1;have nez:e≠z:=λq=>by subst q;rw[Z2]at he;cases he;simp at ce
  exact kh Z2 (by simp) λg3 _ s3=>fin g3 e (λc o c1 _ c3 _ q=>s3.extBut _ _ c1 (s2 _ _ c3 (s1.extBut _ _ c1 q))) ⟨oe,s3.extBut _ _ nez he,ce⟩
 | some x=>
  have ey:ys[k2]? =none:=by
   rcases hend with q|q
   ·rw[ex]at q;cases q
   ·exact q
  refine ja (q55 I1 L1 ex λg2 n2 s2=>jc ?_);have P2:IsPair g2 TO a b:=s2.extBut _ _ D.TOi1 (s1.extBut _ _ D.TOz hTO);refine ja (xp P2 rfl (ja (wpAny_updateSeq_pair P2 λg3 p3 s3=>ja (wpAny_letGo (jc ?_)))));refine ja (ja (wpAny_onRaise ?_));show wpAny _ _ (Builtin.SmallTypes.nextOf (.ref i2) >>= _) _ _ _;refine ja (q45 hh (h2.at_ λo e=>s3.extBut _ o D.TOi2.symm (s2.extBut _ o D.i12.symm (s1.extBut _ o D.i2z e))) (q2.at_ λo e=>s3.extBut _ o D.l2TO (s2.extBut _ o D.l2i1 (s1.extBut _ o D.l2z e))) ey λg4 e s4 he=>?_);obtain⟨oe,he,ce⟩:=he;have Z4:IsZip g4 z TI TO .ellipsis:=s4 _ _ D.i2z.symm (s3.extBut _ _ D.TOz.symm (s2.extBut _ _ D.i1z.symm Z1));have nez:e≠z:=λq=>by subst q;rw[Z4]at he;cases he;simp at ce
  exact kh Z4 (by simp) λg5 _ s5=>fin g5 e (λc o c1 c2 c3 c4 q=>s5.extBut _ _ c1 (s4 _ _ c4 (s3.extBut _ _ c2 (s2.extBut _ _ c3 (s1.extBut _ _ c1 q))))) ⟨oe,s5.extBut _ _ nez he,ce⟩
abbrev zo1(b1:Bool)(h:Heap)(l1:Addr):Heap:=h.push (q4j b1 l1)
abbrev zo2(b1 b2:Bool)(h:Heap)(l1 l2:Addr):Heap:=(zo1 b1 h l1).push (q4j b2 l2)
abbrev zo3(b1 b2:Bool)(h:Heap)(l1 l2:Addr):Heap:=(zo2 b1 b2 h l1 l2).push {cls:=.type "tuple",data:=.seq #[.ref h.objs.size,.ref (zo1 b1 h l1).objs.size]}
abbrev zo4(b1 b2:Bool)(h:Heap)(l1 l2:Addr):Heap:=(zo3 b1 b2 h l1 l2).push {cls:=.type "tuple",data:=.seq #[.none,.none]}
abbrev zo5(b1 b2:Bool)(h:Heap)(l1 l2:Addr):Heap:=(zo4 b1 b2 h l1 l2).push {cls:=.type "zip",data:=.fields #[.none,.bool false,.bool false,.ref (zo2 b1 b2 h l1 l2).objs.size,.ref (zo3 b1 b2 h l1 l2).objs.size]}
theorem qj6(b1 b2:Bool)(l1 l2:Addr)(xs ys:Array Value):Meets (Builtin.«zip.__new__» ⟨[.type "zip",.ref l1,.ref l2],[]⟩) (λ_ R s=>seqIs b1 s.heap l1 xs/\seqIs b2 s.heap l2 ys/\
 R (.ok (.ret (.ref (zo4 b1 b2 s.heap l1 l2).objs.size))) {s with heap:=zo5 b1 b2 s.heap l1 l2}):=by
 refine .of_wp λprog w A R s q=>?_;obtain⟨hp,g,d,tk,os⟩:=s;obtain⟨q1,q2,q⟩:=q;have sub:=sub_zip;have L1:seqIs b1 (Shared.heap ⟨hp,g,d,tk,os⟩) l1 xs:=q1;have L2':seqIs b2 (Shared.heap ⟨hp.push (q4j b1 l1),g,d,tk,os⟩) l2 ys:=q2.at_ λo z=>je _ z
 wp_walk using q6y L1,q6y L2'
 exact⟨_,rfl,q⟩
theorem qhi{b1 b2:Bool}{l1 l2:Addr}{xs ys:Array Value}{Q:Value->Shared->Prop}(q1:seqIs b1 s.heap l1 xs)(q2:seqIs b2 s.heap l2 ys)
 (h:∀h',IsZip h' (s.heap.objs.size+4) (s.heap.objs.size+2) (s.heap.objs.size+3) .none->IsPair h' (s.heap.objs.size+2) (.ref s.heap.objs.size) (.ref (s.heap.objs.size+1))->IsPair h' (s.heap.objs.size+3) .none .none->
   iterIs b1 h' s.heap.objs.size l1 0->iterIs b2 h' (s.heap.objs.size+1) l2 0->(∀c o,s.heap.get? c=some o->h'.get? c=some o)->Q (.ref (s.heap.objs.size+4)) {s with heap:=h'}):
 wpAny (model prog w) A (call (.type "zip") [.ref l1,.ref l2]) Q E s:=by
 refine callType_new F.called_zip (by decide) (F.typeCall_zip_2 _ _) (F.newCall_zip_2 _ _) (λobj=>F.args_object_init_3 obj _ _) F.entry_zip_new (qj6 b1 b2 l1 l2 xs ys) ⟨q1,q2,?_⟩;have y1:(zo1 b1 s.heap l1).objs.size=s.heap.objs.size+1:=xk ..;have y2:(zo2 b1 b2 s.heap l1 l2).objs.size=s.heap.objs.size+2:=by rw[xk,y1]
 have y3:(zo3 b1 b2 s.heap l1 l2).objs.size=s.heap.objs.size+3:=by rw[xk,y2]
 have y4:(zo4 b1 b2 s.heap l1 l2).objs.size=s.heap.objs.size+4:=by rw[xk,y3]
 have k5:(zo5 b1 b2 s.heap l1 l2).get? (zo4 b1 b2 s.heap l1 l2).objs.size=some _:=jo _ rfl;have k4:(zo5 b1 b2 s.heap l1 l2).get? (zo3 b1 b2 s.heap l1 l2).objs.size=some _:=je _ (jo _ rfl);have k3:(zo5 b1 b2 s.heap l1 l2).get? (zo2 b1 b2 s.heap l1 l2).objs.size=some _:=je _ (je _ (jo _ rfl));have k2:(zo5 b1 b2 s.heap l1 l2).get? (zo1 b1 s.heap l1).objs.size=some (q4j b2 l2):=je _ (je _ (je _ (jo _ (by cases b2<;>rfl))));have k1:(zo5 b1 b2 s.heap l1 l2).get? s.heap.objs.size=some (q4j b1 l1):=je _ (je _ (je _ (je _ (jo _ (by cases b1<;>rfl)))));show _/\_;rw[y2,y3,y4]at k5;rw[y1,y2]at k3;rw[y3]at k4;rw[y1]at k2;rw[y4];exact⟨⟨_,k5,rfl⟩,h _ k5 k3 k4 (iterIs.mk_ k1) (iterIs.mk_ k2) λc o x=>je _ (je _ (je _ (je _ (je _ x))))⟩
end
def SqB(K:FrG)(b:Bool)(H:Hp)(p:Addr)(xs:List V):Prop:=match b with
 |true=>SqL K H p xs
 |false=>SqT K H p xs
section
variable{X:Cx}{z6:List (Addr×Obj)}{σ:St}{H:Hp}{s:Shared}{b b1 b2:Bool}{p p1 p2:Addr}{xs ys:List V}
theorem Inv.seqB(I:Inv X z6 σ H s)(h:SqB X.K b H p xs):∃its:List Value,Vals xs its/\seqIs b s.heap p its.toArray/\xs.length<=sizeLine:=by
 cases b
 ·obtain⟨its,r,q,hz⟩:=I.tuple (show SqT X.K H p xs from h);exact⟨its,r,(show s.heap.IsTuple p its.toArray from q),hz⟩
 ·obtain⟨its,r,q,hz⟩:=I.list (show SqL X.K H p xs from h);exact⟨its,r,(show s.heap.IsList p its.toArray from q.isList),hz⟩
theorem Inv.seqB_inj(I:Inv X z6 σ H s)(h:SqB X.K b H p xs)(h':SqB X.K b H p ys):xs=ys:=by
 cases b
 ·exact I.tuple_inj h h'
 ·exact I.list_inj h h'
end
def Itz(K:FrG)(b1 b2:Bool)(p1 p2:Addr):It:=
 ⟨λi H=>∃xs ys x y,SqB K b1 H p1 xs/\SqB K b2 H p2 ys/\xs[i]? =some x/\ys[i]? =some y,
  λi H v H'=>∃T x y,v=.ref T/\H T=none/\H'=upd H T (.tup [x,y])/\(∀xs,SqB K b1 H p1 xs->xs[i]? =some x)/\∀ys,SqB K b2 H p2 ys->ys[i]? =some y,
  λi H=>∃xs ys,SqB K b1 H p1 xs/\SqB K b2 H p2 ys/\(xs.length<=i∨ys.length<=i)⟩
def qqk(b1 b2:Bool)(p1 p2 z TI TO i1 i2:Addr)(i:Nat)(h:Heap):Prop:=IsZip h z TI TO .none/\IsPair h TI (.ref i1) (.ref i2)/\(∃a b,IsPair h TO a b)/\iterIs b1 h i1 p1 i/\iterIs b2 h i2 p2 i
theorem qft{P:Program}{w:World}{K:FrG}{zq:List Expr}{x1:Nat}{pos:Pos}(b1 b2:Bool){p1 p2 z TI TO i1 i2:Addr}(D:ZipApart z TI TO i1 i2 p1 p2):
 Turn P w K (.Tuple zq x1 pos) (Itz K b1 b2 p1 p2) [z,TI,TO,i1,i2] z (qqk b1 b2 p1 p2 z TI TO i1 i2) where
 mem:=by simp
 obj:=λi h st c hc=>by
  obtain⟨hz,hI,⟨a,b,hO⟩,j1,j2⟩:=st;simp only[List.mem_cons,List.not_mem_nil,or_false]at hc;rcases hc with rfl|rfl|rfl|rfl|rfl
  ·exact⟨_,hz,λv e=>by cases e⟩
  ·exact⟨_,hI,λv e=>by cases e⟩
  ·exact⟨_,hO,λv e=>by cases e⟩
  ·exact j1.obj
  ·exact j2.obj
 keep:=λi h h' st k=>by obtain⟨hz,hI,⟨a,b,hO⟩,j1,j2⟩:=st;exact⟨k z (by simp) _ hz,k TI (by simp) _ hI,⟨a,b,k TO (by simp) _ hO⟩,j1.at_ λo e=>k i1 (by simp) o e,j2.at_ λo e=>k i2 (by simp) o e⟩
 item:=by
  intro X hP hw hK hc i z6 s σ H E I hf st hg;subst hP hw hK;obtain⟨xs,ys,x,y,q1,q2,ex,ey⟩:=hg;obtain⟨it1,r1,t1,_⟩:=I.seqB q1;obtain⟨it2,r2,t2,_⟩:=I.seqB q2;obtain⟨u,eu,ru⟩:=r1.get ex;obtain⟨v,ev,rv⟩:=r2.get ey;obtain⟨hz,hI,⟨a,b,hO⟩,j1,j2⟩:=st;refine qfg D hz hI hO j1 j2 t1 t2 (x:=u) (y:=v) (by simpa using eu) (by simpa using ev) λh' z' o' n1 n2 tp kk=>?_;refine⟨_,rfl,?_⟩;refine wpAny_letOwnedTupleGo_zip z' λh'' z'' s''=>?_;have fresh:H s.heap.objs.size=none:=I.hok.fresh (jf _);have zne:s.heap.objs.size≠z:=λe=>by have:=jd hz;rw[<-e]at this;exact xc _ this
  have keep:∀c o,c∉[z,TI,TO,i1,i2]->s.heap.get? c=some o->h''.get? c=some o:=λc o hc e=>by simp only[List.mem_cons,List.not_mem_nil,or_false,not_or]at hc;exact s''.extBut c o hc.1 (kk c o hc.1 hc.2.2.1 hc.2.2.2.1 hc.2.2.2.2 e)
  have tp':h''.get? s.heap.objs.size=some {cls:=.type "tuple",data:=.seq #[u,v]}:=s''.extBut _ _ zne tp;have I':Inv X z6 σ (upd H s.heap.objs.size (.tup [x,y])) {s with heap:=h'',toks:=s.toks}:=by
   refine I.step (g':=s.gens) (d':=s.drawn) (ch:=[z,TI,TO,i1,i2]) (λc hc=>?_) (λc o _ _ hc e _=>keep c o hc e) (λc o _ _ hc e _=>⟨o.slots,keep c o hc e⟩) (λc o _ e n=>?_) (λc o hc e=>⟨o,keep c o hc e⟩)
    (λc zs e=>?_) (λc o w' e=>?_) (λc ps e=>⟨#[],?_⟩) (λm hm=>?_) (λc o e=>?_) I.bare
   ·obtain⟨_,f1,f2,f3,f4,f5⟩:=hf c hc;exact⟨f3,f1,f4,f5⟩
   ·rw[q0i (jl (jd e))];exact n
   ·rw[q0i (q18 e fresh)];exact e
   ·rw[q0i (q18 e fresh)];exact e
   ·rw[q0i (q18 e fresh),e];simp
   ·obtain⟨o,es,ep,ho,r⟩:=hm;exact⟨o,es,ep,keep _ o (λq=>(hf _ q).2.1 rfl) ho,r⟩
   ·by_cases hb:c=s.heap.objs.size
    ·subst hb;rw[q0m]at e;cases e;exact⟨by show 2<=sizeLine;decide,[u,v],.cons ru (.cons rv .nil),⟨_,tp',⟨rfl,_,rfl⟩,rfl⟩⟩
    ·rw[q0i hb]at e;refine(I.hok c o e).stay (λd w' hd q=>keep d w' (λm=>?_) q) (λd q=>?_) λd zs q=>?_
     ·have n:=(hf d m).1;rcases hd with rfl|hd
      ·rw[n]at e;cases e
      ·rw[n]at hd;cases hd
     ·rw[q0i (q18 q fresh)];exact q
     ·rw[q0i (q18 q fresh)];exact q
  refine⟨.ref s.heap.objs.size,_,I',rfl,⟨_,x,y,rfl,fresh,rfl,λzs q=>by rw[I.seqB_inj q q1];exact ex,λzs q=>by rw[I.seqB_inj q q2];exact ey⟩,?_,λc hc=>?_⟩
  ·refine⟨z'',s''.extBut _ _ D.TIz (kk _ _ D.TIz D.TITO D.TIi1 D.TIi2 hI),⟨u,v,s''.extBut _ _ D.TOz o'⟩,n1.at_ λo e=>s''.extBut _ o D.i1z e,n2.at_ λo e=>s''.extBut _ o D.i2z e⟩
  ·have lt:c<s.heap.objs.size:=by
    simp only[List.mem_cons,List.not_mem_nil,or_false]at hc;rcases hc with rfl|rfl|rfl|rfl|rfl
    ·exact jd hz
    ·exact jd hI
    ·exact jd hO
    ·obtain⟨o,e,_⟩:=j1.obj;exact jd e
    ·obtain⟨o,e,_⟩:=j2.obj;exact jd e
   rw[q0i (jl lt)];exact(hf c hc).1
 done:=by
  intro X hP hw hK hc i z6 s σ H E I hf st hg;subst hP hw hK;obtain⟨xs,ys,q1,q2,hl⟩:=hg;obtain⟨it1,r1,t1,_⟩:=I.seqB q1;obtain⟨it2,r2,t2,_⟩:=I.seqB q2;obtain⟨hz,hI,⟨a,b,hO⟩,j1,j2⟩:=st;have l1:=r1.length;have l2:=r2.length;refine qj7 (I.ok.hd hc) D hz hI hO j1 j2 t1 t2 (by rcases hl with h|h;exact .inl (by simp;omega);exact .inr (by simp;omega)) λh' kk=>⟨rfl,?_⟩;have keep:∀c o,c∉[z,TI,TO,i1,i2]->s.heap.get? c=some o->h'.get? c=some o:=λc o hc e=>by simp only[List.mem_cons,List.not_mem_nil,or_false,not_or]at hc;exact kk c o hc.1 hc.2.2.1 hc.2.2.2.1 hc.2.2.2.2 e
  show Inv X z6 σ H {s with heap:=h',toks:=s.toks};refine I.step (g':=s.gens) (d':=s.drawn) (ch:=[z,TI,TO,i1,i2]) (λc hc=>?_) (λc o _ _ hc e _=>keep c o hc e) (λc o _ _ hc e _=>⟨o.slots,keep c o hc e⟩) (λc o _ e n=>n) (λc o hc e=>⟨o,keep c o hc e⟩)
   (λc zs e=>e) (λc o w' e=>e) (λc ps e=>⟨#[],by rw[e];simp⟩) (λm hm=>?_) (λc o e=>?_) I.bare
  ·obtain⟨_,f1,f2,f3,f4,f5⟩:=hf c hc;exact⟨f3,f1,f4,f5⟩
  ·obtain⟨o,es,ep,ho,r⟩:=hm;exact⟨o,es,ep,keep _ o (λq=>(hf _ q).2.1 rfl) ho,r⟩
  ·refine(I.hok c o e).stay (λd w' hd q=>keep d w' (λm=>?_) q) (λd q=>q) λd zs q=>q;have n:=(hf d m).1;rcases hd with rfl|hd
   ·rw[n]at e;cases e
   ·rw[n]at hd;cases hd
 self:=λ_ _ _ _ _ st h=>wpAny_pyIter_zip st.1 h
section
variable{X:Cx}{a b:Expr}{ta:TA}{p pos:Pos}{zq:List Expr}{x1:Nat}{tp:Pos}
def iZip(K:FrG)(b1 b2:Bool)(ta:TA):TI:=λσ H R=>ta σ H λvs H1=>∃p1 p2,vs=[.ref p1,.ref p2]/\(∃xs,SqB K b1 H1 p1 xs)/\(∃ys,SqB K b2 H1 p2 ys)/\R (Itz K b1 b2 p1 p2) H1
theorem qad{K:FrG}(b1 b2:Bool)(hK:X.K=K)(hg:Gl X "zip")(hm:X.mg "zip"=none)(ha:PA X [a,b] ta)(he:starEach [a,b] X.env=(false,eval a X.env)::starEach [b] X.env:=by rfl)(hpl:(backTo pos (starEach [b] X.env)).any (·.1)=false:=by rfl):
 PI X (.Tuple zq x1 tp) (.Call (.Name "zip" p) [a,b] [] pos) (iZip K b1 b2 ta):=by
 subst hK;intro z6 s σ H R I h;refine xn (q48 I hg hm (u:=.type "zip") (by rfl) ?_);refine PyProof.Rows.callWith_type1 (thn (ha pos z6 s σ H _ I h) λus s1 h1=>?_) he hpl;obtain⟨vs,H1,I1,r1,p1,p2,rfl,⟨xs,q1⟩,⟨ys,q2⟩,k⟩:=h1;obtain⟨u,w',rfl,ru,rw'⟩:=vals2 r1;cases(show u=Value.ref p1 from ru);cases(show w'=Value.ref p2 from rw');obtain⟨it1,r1,t1,_⟩:=I1.seqB q1;obtain⟨it2,r2,t2,_⟩:=I1.seqB q2;have lt:∀{c:Addr} {b:Bool} {zs:Array Value},seqIs b s1.heap c zs->c<s1.heap.objs.size:=λ{c b zs} q=>by
  cases b
  ·obtain⟨o,e,_⟩:=(show s1.heap.IsTuple c zs from q);exact jd e
  ·obtain⟨o,e,_⟩:=(show s1.heap.IsList c zs from q);exact jd e
 refine qhi t1 t2 λh' hz hI hO j1 j2 kk=>wpAny_pyIter_zip hz ?_;have D:=zipApart_new (lt t1) (lt t2);have I2:Inv X z6 σ H1 {s1 with heap:=h',toks:=s1.toks}:=I1.kept kk;refine⟨_,_,_,_,H1,rfl,I2,qft b1 b2 D,⟨hz,hI,⟨_,_,hO⟩,j1,j2⟩,λc hc=>?_,k⟩;have le:s1.heap.objs.size<=c:=by simp only[List.mem_cons,List.not_mem_nil,or_false]at hc;rcases hc with rfl|rfl|rfl|rfl|rfl<;>first|exact jf _|exact Nat.le_add_right _ _
 exact I1.fpOk le (I1.hok.fresh le)
end
section
variable{X:Cx}
theorem q5y:∀(ns:List Int) (k:Nat),k<=ns.length->preSum (λi=>ns.getD i 0) k=(ns.take k).sum
 |ns,0,_=>by simp[preSum]
 | ns,k+1,h=>by
  have hk:k<ns.length:=h;rw[preSum,q5y ns k (Nat.le_of_lt hk),List.take_add_one,jt hk,List.sum_append];have e:ns.getD k 0=ns[k]:=by rw[xw,jt hk];rfl
  rw[e];simp
theorem q2h:∀{ns:List Int} {us:List Value} {i:Nat} {v:Value},Vals (ns.map V.int) us->us[i]? =some v->∃t,v=.int (ns.getD i 0) t
 |[],us,i,v,r,e=>by cases r;simp at e
 | n::ns,us,0,v,r,e=>by
  cases r with
  | cons h t=>
   obtain⟨tk,q⟩:=h;simp at e;exact⟨tk,by rw[<-e,q];rfl⟩
 | n::ns,us,i+1,v,r,e=>by
  cases r with
  | cons h t=>
   obtain⟨tk,q⟩:=q2h (i:=i) t (by simpa using e);exact⟨tk,by rw[q];rfl⟩
theorem q7z{K:FrG}(hK:X.K=K)(hc:X.calm=true):q5j X (.builtin "sum") (λxs H Q=>∃(p:Addr) (ns:List Int),xs=[.ref p]/\SqL K H p (ns.map V.int)/\Q (.int ns.sum) H):=by
 subst hK;intro z6 s σ H xs us Q I r h;obtain⟨p,ns,rfl,hq,q⟩:=h;obtain⟨u,rfl,ru⟩:=vals1 r;cases ru;obtain⟨its,rv,pl,hz⟩:=I.list hq;have hh:X.A.in1.handled=none:=I.ok.hd hc;have hl:=pl.isList;have hlt:p<s.heap.objs.size:=by obtain⟨_,e,_⟩:=hl;exact jd e
 refine call_sum_walkG (wpAny_pyIter_list hl ?_);refine⟨_,_,_,_,_,_,λi=>ns.getD i 0,rfl,Walks.list hh s.heap.objs.size p (jl hlt) its.toArray,⟨⟨_,jo _ rfl,rfl,rfl⟩,hl.push _⟩,λb hb=>?_,λi v hP=>q2h rv (by simpa using hP),λh' tk t' hk=>?_⟩
 ·show b<(s.heap.push _).objs.size;rw[xk];rcases List.mem_cons.mp hb with rfl|hb
  ·exact Nat.lt_succ_self _
  ·rw[List.mem_singleton.mp hb];exact Nat.lt_succ_of_lt hlt
 ·have len:its.toArray.size=ns.length:=by have:=rv.length;simp at this;simp;omega
  refine⟨.int ns.sum,H,I.kept (t':=tk) λb o e=>hk b o (λz=>?_) (je _ e),⟨t',?_⟩,q⟩
  ·have:=jd e;rw[List.mem_singleton.mp z]at this;exact xc _ this
  ·rw[len,q5y ns _ (jf _),List.take_length]
end
def Exc(B:Heap)(e:Addr)(cls fl:Value)(h:Heap):Prop:=
 ∃oe vs T oT ts,h.get? e=some oe/\oe.cls=cls/\oe.dict=none/\oe.data=.fields vs/\vs[1]? =some (.ref T)/\B.get? T=none/\T≠e/\h.get? T=some oT/\oT.data=.fields ts/\ts[3]? =some fl
structure FlyD(B:Heap)(l:List Env)(e:Addr)(cls fl:Value)(h:Heap):Prop where
 st:B.StaysIn h
 new:B.get? e=none
 fr:h.FunFrames B l
 ex:Exc B e cls fl h
section
variable{M:Model}{A:Around}{E:Value->Shared->Prop}{s:Shared}{B:Heap}{env:Env}{outer l:List Env}{L e:Addr}{cls fl:Value}{Q:Unit->Shared->Prop}
theorem qpm{h:Heap}(hl:h.FunFrames B l){b:Addr}{o:Obj}{vs:Array Value}(ho:h.get? b=some o)(hd:o.data=.fields vs):b∉l.filterMap (·.frame):=λhb=>by obtain⟨_,o1,e1,d1⟩:=hl.mem hb;rw[ho]at e1;cases e1;exact d1 vs hd
theorem q7i{h:Heap}{b:Addr}{o:Obj}{vs:Array Value}{g:Array Value->Array Value}(st:B.StaysIn h)(hl:h.FunFrames B l)(hn:B.get? b=none)(ho:h.get? b=some o)(hd:o.data=.fields vs):
 B.StaysIn (h.update b (Obj.mapFields g))/\(h.update b (Obj.mapFields g)).FunFrames B l/\h.UpToSlots (h.update b (Obj.mapFields g))/\(h.update b (Obj.mapFields g)).get? b=some (Obj.mapFields g o)/\∀c,c≠b->(h.update b (Obj.mapFields g)).get? c=h.get? c:=by
 have oth:∀c,c≠b->(h.update b (Obj.mapFields g)).get? c=h.get? c:=λc hc=>k7 _ _ (Ne.symm hc);have nrec:∀c u,h.get? c=some u->(∀ws,u.data≠.fields ws)->c≠b:=λc u q nf z=>by rw[z,ho]at q;cases q;exact nf vs hd
 refine⟨λc u q=>(oth c λz=>by rw[z,hn]at q;cases q).trans (st c u q),hl.of_keeps λc u q nf=>⟨u,(oth c (nrec c u q nf)).trans q,rfl⟩,λc u q nf=>⟨u.slots,(oth c (nrec c u q nf)).trans q⟩,?_,oth⟩;exact kn _ ho (Obj.isFreed_of_fields (ko hd g))
theorem q5n(F:FlyD B l e cls fl s.heap)(k:∀h',FlyD B l e cls .none h'->s.heap.UpToSlots h'->Q () {s with heap:=h'}):wpAny M A (setFlight (.ref e) none) Q E s:=by obtain⟨oe,vs,T,oT,ts,he,hc,hdn,hd,h1,hnT,hTe,hT,hdT,h3⟩:=F.ex;obtain⟨k1,k2,k3,k4,k5⟩:=q7i (g:=(·.setIfInBounds 3 ((none:Option Addr).elim Value.none λf=>rawInt f))) F.st F.fr hnT hT hdT;unfold setFlight;refine ja (xf he hd h1 ?_);rw[if_pos (by simp:(Value.ref T !=Value.none)=true)];refine wpAny_setField hT hdT (Array.getElem?_eq_some_iff.mp h3).1 (k _ ⟨k1,F.new,k2,?_⟩ k3);have sz:=(Array.getElem?_eq_some_iff.mp h3).1;exact⟨oe,vs,T,_,_,(k5 e (Ne.symm hTe)).trans he,hc,hdn,hd,h1,hnT,hTe,k4,ko hdT _,by simp[sz]⟩
theorem q8o{oe:Obj}{vs:Array Value}{head:Value}{hn:Bool}(hfr:A.frames=some (env::outer))(hf:env.frame=some L)(st:B.StaysIn s.heap)(hl:s.heap.FunFrames B (env::outer))(new:B.get? e=none)
 (he:s.heap.get? e=some oe) (hd:oe.data=.fields vs) (hdn:oe.dict=none) (sz:1<vs.size)
 (k:∀h',FlyD B (env::outer) e oe.cls (rawInt L) h'->s.heap.UpToSlots h'->Q () {s with heap:=h'}):
 wpAny M A (do let a <-frameOf env;let pl <-entryPlaceOf L hn;let b <-EntryCells.newEntry head a .none (rawInt L) .none pl;setField (.ref e) 1 b) Q E s:=by
 have nef:=qpm hl he hd;refine ja (wpAny_frameOf_fun hfr hl hf λh1 so=>ja (wpAny_entryPlaceOf λpl hpl=>?_));have st1:B.StaysIn h1:=λb o q=>(so.2.1 b λz=>by rw[(hl.mem z).1]at q;cases q).trans (st b o q);have fr1:h1.FunFrames B (env::outer):=hl.of_keeps λb o q nf=>by obtain⟨sl,z⟩:=so.2.2 b o q;exact⟨_,z,rfl⟩
 have e1:h1.get? e=some oe:=(so.2.1 e nef).trans he;unfold EntryCells.newEntry newFields;refine ja (xv ?_ (hpl.sizeOk5 _ _ _ _ _));generalize hO:({cls:=.type "traceback",dict:=none,data:=.fields ([head,.ref L,.none,rawInt L,.none]++(if pl.isEmpty then List.replicate 6 Value.none else pl)).toArray}:Obj)=oT;have dT:oT.data=.fields ([head,.ref L,.none,rawInt L,.none]++(if pl.isEmpty then List.replicate 6 Value.none else pl)).toArray:=by rw[<-hO]
 have nfT:oT.isFreed=false:=by rw[<-hO];rfl
 have kp:∀b o,h1.get? b=some o->(h1.push oT).get? b=some o:=λb o q=>je oT q;have fr2:(h1.push oT).FunFrames B (env::outer):=fr1.of_keeps λb o q nf=>⟨o,kp b o q,rfl⟩;obtain⟨k1,k2,k3,k4,k5⟩:=q7i (g:=(·.setIfInBounds 1 (Value.ref h1.objs.size))) (λb o q=>kp b o (st1 b o q)) fr2 new (kp _ _ e1) hd;have neT:h1.objs.size≠e:=Nat.ne_of_gt (jd e1);refine wpAny_setField (kp _ _ e1) hd sz (k _ ⟨k1,new,k2,_,_,h1.objs.size,oT,_,k4,Obj.cls_mapFields _ _,?_,ko hd _,by simp[sz],st1.fresh,neT,(k5 _ neT).trans (jo h1 nfT),dT,?_⟩ ?_)
 ·obtain⟨c,d,dt,sl⟩:=oe;cases dt<;>exact hdn
 ·simp
 ·refine Heap.UpToSlots.trans (λb o q nf=>?_) k3;obtain⟨sl,z⟩:=so.2.2 b o q;exact⟨sl,kp _ _ z⟩
theorem qgj{oe:Obj}{vs:Array Value}(hfr:A.frames=some (env::outer))(hf:env.frame=some L)(st:B.StaysIn s.heap)(hl:s.heap.FunFrames B (env::outer))(new:B.get? e=none)
 (he:s.heap.get? e=some oe) (hd:oe.data=.fields vs) (hdn:oe.dict=none) (h1:vs[1]? =some .none)
 (k:∀h',FlyD B (env::outer) e oe.cls (rawInt L) h'->s.heap.UpToSlots h'->Q () {s with heap:=h'}):wpAny M A (noteFrame (.ref e) env) Q E s:=by
 unfold noteFrame;simp only[hf];refine ja (xf he hd h1 ?_);rw[if_neg (by decide)];exact q8o hfr hf st hl new he hd hdn (Array.getElem?_eq_some_iff.mp h1).1 k
theorem qdx(hfr:A.frames=some (env::outer))(hf:env.frame=some L)(F:FlyD B (env::outer) e cls .none s.heap)
 (k:∀h',FlyD B (env::outer) e cls (rawInt L) h'->s.heap.UpToSlots h'->Q () {s with heap:=h'}):wpAny M A (noteFrame (.ref e) env) Q E s:=by
 obtain⟨oe,vs,T,oT,ts,he,hc,hdn,hd,h1,hnT,hTe,hT,hdT,h3⟩:=F.ex;subst hc;obtain⟨k1,k2,k3,k4,k5⟩:=q7i (g:=(·.setIfInBounds 3 Value.none)) F.st F.fr hnT hT hdT;unfold noteFrame;simp only[hf];refine ja (xf he hd h1 ?_);rw[if_pos (by simp:(Value.ref T !=Value.none)=true)];refine ja (xf hT hdT h3 ?_);rw[if_neg (by simp[rawInt]:¬((Value.none==rawInt L)=true))];refine ja (wpAny_setField hT hdT (Array.getElem?_eq_some_iff.mp h3).1 ?_);exact q8o hfr hf k1 k2 F.new ((k5 e (Ne.symm hTe)).trans he) hd hdn (Array.getElem?_eq_some_iff.mp h1).1 λh' F' up=>k h' F' (k3.trans up)
theorem FlyD.less{fl:Value}{h:Heap}(F:FlyD B (env::outer) e cls fl h):FlyD B outer e cls fl h:=⟨F.st,F.new,F.fr.2.2,F.ex⟩
theorem qp0{oe:Obj}{vs:Array Value}(hfr:A.frames=some (env::outer))(hf:env.frame=some L)(st:B.StaysIn s.heap)(hl:s.heap.FunFrames B (env::outer))(new:B.get? e=none)
 (he:s.heap.get? e=some oe) (hd:oe.data=.fields vs) (hdn:oe.dict=none) (h1:vs[1]? =some .none)
 (k:∀h',FlyD B outer e oe.cls .none h'->s.heap.UpToSlots h'->Q () {s with heap:=h'}):wpAny M A (leaving env (.ref e)) Q E s:=by
 unfold leaving;exact ja (qgj hfr hf st hl new he hd hdn h1 λh' F up=>q5n (s:={s with heap:=h'}) F λh2 F2 up2=>k h2 F2.less (up.trans up2))
theorem qrz(hfr:A.frames=some (env::outer))(hf:env.frame=some L)(F:FlyD B (env::outer) e cls .none s.heap)
 (k:∀h',FlyD B outer e cls .none h'->s.heap.UpToSlots h'->Q () {s with heap:=h'}):wpAny M A (leaving env (.ref e)) Q E s:=by
 unfold leaving;exact ja (qdx hfr hf F λh' F up=>q5n (s:={s with heap:=h'}) F λh2 F2 up2=>k h2 F2.less (up.trans up2))
end
structure Flies(P:Program)(w:World)(l:List Env)(H:Hp)(s:Shared)(cls:Value)(e:Addr)(H':Hp)(s':Shared):Prop where
 os:s'.os=s.os
 bare:AllBare s'.gens
 un:Un (frs l) [] H H' s.heap s'.heap
 hok:HOk P w H' s'.heap
 fly:∃B,FlyD B l e cls .none s'.heap/\∀b o,s'.heap.get? b=some o->b∉frs l->(H' b≠none∨∃o',s.heap.get? b=some o')->B.get? b=some o
def CX1(P:Program)(w:World):CXT:=λouter H s E e s'=>∃ea cls H',e=.ref ea/\Flies P w outer H s cls ea H' s'/\E cls none H'
theorem ObjOk.there{P:Program}{w:World}{H:Hp}{h:Heap}{a:Addr}{o:HO}(x:ObjOk P w H h a o):∃u,h.get? a=some u:=by
 cases o with
 |lst xs=>obtain⟨_,_,_,_,e⟩:=x;exact⟨_,e⟩
 |tup xs=>obtain⟨_,_,_,ob,e,_⟩:=x;exact⟨_,e⟩
 |dK kvs=>obtain⟨_,_,_,_,o,_,e,_⟩:=x;exact⟨_,e⟩
 |dT kvs=>obtain⟨_,_,_,_,o,_,_,e,_⟩:=x;exact⟨_,e⟩
 |set S n=>obtain⟨o,_,_,_,e,_⟩:=x;exact⟨_,e⟩
 |ins C dx fs=>obtain⟨_,_,_,e,_⟩:=x;exact⟨_,e⟩
 |own y=>exact x
 |xd fs=>obtain⟨_,⟨_,_,_,e,_⟩,_⟩:=x;exact⟨_,e⟩
 |rng lo hi=>obtain⟨_,_,_,e⟩:=x;exact⟨_,e⟩
 |frz ob u=>obtain⟨e,_⟩:=x;exact⟨_,e⟩
 |tbl ps=>exact⟨_,(show h.get? a=some _ from x)⟩
 |met f y=>exact⟨_,(show h.get? a=some _ from x)⟩
 |ext φ=>obtain⟨_,⟨_,e⟩,_⟩:=x;exact⟨_,e⟩
section
variable{X:Cx}{z6:List (Addr×Obj)}{σ:St}{H H':Hp}{s:Shared}
theorem q8p{hm:Heap}{s2:Shared}{B:Heap}{e:Addr}{cls:Value}(I:Inv X z6 σ H s)(zt:X.stack=X.env::X.outer)(hfr:X.env.frame=some X.env.locals)(hex:X.ex=[])(os:s2.os=s.os)(bare:AllBare s2.gens)(U:Un (frs X.stack) [] H H' s.heap hm)
 (hok:HOk X.prog X.w H' hm) (cond:∀b o,hm.get? b=some o->b∉frs X.stack->(H' b≠none∨∃o',s.heap.get? b=some o')->B.get? b=some o)
 (fl:FlyD B X.outer e cls .none s2.heap) (up:hm.UpToSlots s2.heap):Flies X.prog X.w X.outer X.H₀ X.s₀ cls e H' s2:=by
 have fsub:∀b,b∉X.fs->b≠X.env.locals->b∉frs X.stack:=λb h1 h2 z=>(List.mem_cons.mp (I.stkSub b z)).elim h2 h1;have fin:∀b∈X.fs,b∈frs X.stack:=λb hb=>by rw[zt];show b∈(X.env::X.outer).filterMap (·.frame);rw[List.filterMap_cons,hfr];exact jg _ hb
 have neL:∀b o,X.s₀.heap.get? b=some o->b≠X.env.locals:=λb o e z=>by have q:=I.ok.above;rw[<-z]at q;exact absurd (jm (jd e) q) (xc _)
 have fr_data:∀b∈frs X.stack,∀o,hm.get? b=some o->∀vs,o.data≠.fields vs:=λb hb o eo vs q=>by obtain⟨_,o1,e1,d1⟩:=I.stack.mem hb;obtain⟨sl,e2⟩:=U.slot b o1 e1 (I.stkFree b hb) hb (by simp);rw[eo]at e2;cases e2;exact d1 vs q
 have free_fr:∀b∈frs X.stack,H' b=none:=λb hb=>by obtain⟨_,o1,e1,d1⟩:=I.stack.mem hb;exact U.free b o1 e1 (I.stkFree b hb) (by simp)
 have at_b:∀b o o0,s.heap.get? b=some o0->hm.get? b=some o->b∉frs X.stack->s2.heap.get? b=some o:=λb o o0 e0 e1 nb=>fl.st b o (cond b o e1 nb (.inr ⟨o0,e0⟩));have base:=I.base;rw[hex]at base;have nx:∀b:Addr,b∉([]:List Addr):=λb=>by simp
 have tracked:∀b u,H' b≠none->hm.get? b=some u->s2.heap.get? b=some u:=λb u hb e=>fl.st b u (cond b u e (λz=>hb (free_fr b z)) (.inl hb));refine⟨os.trans I.os,bare,⟨λb o e n hf _=>?_,λb o e n hf _=>?_,λb o e n _=>?_,λb o e _=>?_,λb xs e=>U.tups b xs (base.tups b xs e),λb o u e=>U.frzs b o u (base.frzs b o u e),λb ps e=>?_⟩,λa o e=>?_,B,fl,λb o e nf h=>?_⟩
 ·have e1:=base.keep b o e n hf (nx b);have nb:=fsub b hf (neL b o e);exact at_b b o o e1 (U.keep b o e1 (base.free b o e n (nx b)) nb (nx b)) nb
 ·obtain⟨sl1,e1⟩:=base.slot b o e n hf (nx b);obtain⟨sl2,e2⟩:=U.slot b _ e1 (base.free b o e n (nx b)) (fin b hf) (nx b);obtain⟨sl3,e3⟩:=up b _ e2 (fr_data b (fin b hf) _ e2);exact⟨sl3,e3⟩
 ·obtain⟨o1,e1⟩:=base.there b o e (nx b);exact U.free b o1 e1 (base.free b o e n (nx b)) (nx b)
 ·obtain⟨o1,e1⟩:=base.there b o e (nx b);obtain⟨o2,e2⟩:=U.there b o1 e1 (nx b);by_cases hb:b∈frs X.stack
  ·obtain⟨sl3,e3⟩:=up b _ e2 (fr_data b hb _ e2);exact⟨_,e3⟩
  ·exact⟨_,at_b b o2 o1 e1 e2 hb⟩
 ·obtain⟨m1,e1⟩:=base.tbls b ps e;obtain⟨m2,e2⟩:=U.tbls b _ e1;exact⟨m1++m2,by rw[e2,Array.append_assoc]⟩
 ·refine(hok a o e).stay (λb u hb q=>tracked b u ?_ q) (λ_ q=>q) λ_ _ q=>q;rcases hb with rfl|hb
  ·rw[e];exact λz=>nomatch z
  ·rw[hb];exact λz=>nomatch z
 ·rcases h with h|⟨o0,e0⟩
  ·cases q:H' b with
   |none=>exact absurd q h
   | some u=>
    obtain⟨o1,e1⟩:=(hok b u q).there;have e2:=tracked b o1 h e1;rw[e]at e2;cases e2;exact cond b o e1 (λz=>h (free_fr b z)) (.inl h)
  ·have nb:=fsub b nf (neL b o0 e0);obtain⟨o1,e1⟩:=base.there b o0 e0 (nx b);obtain⟨o2,e2⟩:=U.there b o1 e1 (nx b);have e3:=at_b b o2 o1 e1 e2 nb;rw[e]at e3;cases e3;exact cond b o e2 nb (.inr ⟨o1,e1⟩)
end
section
variable{P:Program}{w:World}{K:FrG}{mg:Str->Option Value}{base:Heap}{N:List Str}{qual:Str}{scope:Scope}{f:Addr}{cd:Value}{A:Around}{outer:List Env}{s₀:Shared}{H₀:Hp}{E:XK}
abbrev cxX(P:Program)(w:World)(K:FrG)(mg:Str->Option Value)(base:Heap)(N:List Str)(qual:Str)(scope:Scope)(f:Addr)(cd:Value)(A:Around)(outer:List Env)(s₀:Shared)(H₀:Hp)(E:XK):Cx:=cxOf (CX1 P w) P w K mg base N qual scope f cd A outer s₀ H₀ E
theorem qbo:q4c (CX1 P w) (cxX P w K mg base N qual scope f cd A outer s₀ H₀ E) E:=by intro z6 σ H s e s' I h;obtain⟨ea,cls,H',rfl,F,hE⟩:=h;obtain⟨B,fl,cond⟩:=F.fly;show wpAny (model P w) _ (leaving _ (.ref ea)) _ _ s';refine qrz (L:=s₀.heap.objs.size) I.ok.frames rfl fl λh' fl' up=>?_;exact⟨ea,cls,H',rfl,q8p (s2:={s' with heap:=h'}) I rfl rfl rfl F.os F.bare F.un F.hok cond fl' up,hE⟩
def NewX(X:Cx)(E:XK):Prop:=∀(z6:List (Addr×Obj)) (σ:St) (H:Hp) (s:Shared) (h':Heap) (e:Addr) (cls:Value) (vs:List Value),Inv X z6 σ H s->Heap.MadeExcOf s.heap h' e cls vs->E cls none H->X.xe (.ref e) {s with heap:=h'}
theorem newX:NewX (cxX P w K mg base N qual scope f cd A outer s₀ H₀ E) E:=by
 intro z6 σ H s h' e cls vs I hx hE;show wpAny (model P w) _ (leaving _ (.ref e)) _ _ _;have hin:∀env∈(cxX P w K mg base N qual scope f cd A outer s₀ H₀ E).stack,∀a,env.frame=some a->a∈frs (cxX P w K mg base N qual scope f cd A outer s₀ H₀ E).stack:=λenv he a hb=>List.mem_filterMap.mpr ⟨env,he,hb⟩;obtain⟨t,he,_,_⟩:=hx.there;refine qp0 (L:=s₀.heap.objs.size) (B:=PySem.W.hideAll s.heap (frs (cxX P w K mg base N qual scope f cd A outer s₀ H₀ E).stack)) I.ok.frames rfl (λb o q=>hx.keeps b o (PySem.W.of_hideAll _ q)) ((PySem.W.funFrames_hide I.stack hin).of_keeps λb o q _=>⟨o,hx.keeps b o q,rfl⟩) ?_ he rfl rfl rfl λh2 fl up=>?_
 ·cases q:(PySem.W.hideAll s.heap (frs (cxX P w K mg base N qual scope f cd A outer s₀ H₀ E).stack)).get? e with
  |none=>rfl
  | some o=>
   have z:=PySem.W.of_hideAll _ q;rw[hx.new]at z;cases z
 refine⟨e,cls,H,rfl,q8p (s2:={s with heap:=h2}) (hm:=s.heap) I rfl rfl rfl rfl I.bare Un.refl I.hok (λb o e1 nb _=>PySem.W.hideAll_get _ e1 nb) fl ((Heap.UpToSlots.of_keeps hx.keeps).trans up),hE⟩
end
def qm1(h:Heap)(C:Addr)(bmB:List Value)(zo:String):Prop:=
 ∃bm N nm q bs hdct sn sub ab col dd k0 k1 k2 k3 k5 mN,h.get? C=some (excClassObj nm q C N bs bm hdct sn sub ab col dd k0 k1 k2 k3 k5 zo)/\h.Ns N mN/\mN "__init__"=none/\OwnTail h bmB bm
theorem qh7{K:FrG}{h:Heap}{C:Addr}{bmB:List Value}{zo:String}(kin:K.In h)(q:PySem.W.excIn K C bmB zo=true):qm1 h C bmB zo:=by
 rw[PySem.W.excIn]at q;split at q
 case h_2=>cases q
 case h_1 dd cd sl eC=>
  split at q
  case h_2=>cases q
  case h_1 C1 bm k0 k1 k2 k3 n k5 hm hs=>
   obtain⟨sl⟩:=sl;obtain⟨nm,bs,mro,ns,qn,hd,sn,sub,ab,col,del⟩:=cd;simp only[Bool.and_eq_true,beq_iff_eq,Bool.not_eq_true']at q hm hs;obtain⟨⟨⟨⟨⟨q1,q2⟩,q3⟩,q4⟩,q5⟩,q6⟩:=q;subst hm hs q1 q2 q3;exact⟨bm,ns,nm,qn,bs,hd,sn,sub,ab,col,dd,k0,k1,k2,k3,k5,h.nsMap ns,kin _ _ eC,Heap.Ns.of_isNs (PySem.W.isNs_of_in kin q5),PySem.W.nsMap_none_of_in kin q5 q6,PySem.W.tail_of_in kin q4⟩
section
variable{X:Cx}{x:Str}{C:Addr}{bmB:List Value}{B zo initId:String}{np zi pos:Pos}{e:Expr}{es:List Expr}{t:TA}{E:XK}
def qcf(C:Addr)(E:XK)(t:TA):TS:=λ_ σ H=>t σ H λvs H1=>vs.length<=sizeLine/\E (.ref C) none H1
theorem qac(new:NewX X E)(hc:X.calm=true)(hg:Gl X x)(hm:X.mg x=some (.ref C))(q:PySem.W.excIn X.K C bmB zo=true)(FB:ExcBaseFacts B zo initId bmB)(ha:PA X (e::es) t)
 (he:starEach (e::es) X.env=(false,eval e X.env)::starEach es X.env:=by rfl) (hpl:(backTo zi (starEach es X.env)).any (·.1)=false:=by rfl) (hd:(x==("__debug__":Str))=false:=by decide):
 PS X (.Raise (some (.Call (.Name x np) (e::es) [] zi)) none pos) (qcf C E t):=by
 intro z6 s σ H D I h;obtain⟨bm,N,nm,qn,bs,hdct,sn,sub,ab,col,dd,k0,k1,k2,k3,k5,mN,hC,hN,hni,T⟩:=qh7 I.ok.mod.kin q;refine wpAny_Raise_call_subT (C:=C) (nm:=nm) (q:=qn) (N:=N) (bs:=bs) (bm:=bm) (hdct:=hdct) (sn:=sn) (sub:=sub) (ab:=ab) (col:=col) (dd:=dd) (k0:=k0) (k1:=k1) (k2:=k2) (k3:=k3) (k5:=k5)
  FB (mN:=mN) (T.hasType FB.hasBase) (I.ok.hd hc) (by rw[he];show(false||(backTo zi (starEach es X.env)).any (·.1))=false;rw[hpl];rfl) hni (q4i I hg hm ⟨rfl,?_⟩ hd)
 have ha':=ha zi z6 s σ H _ I h;rw[he]at ha' ⊢;refine Calls.evalArgs_plain (thn ha' λus s1 ⟨vs,H1,I1,r,hl,hE⟩=>?_);exact⟨rfl,by rw[<-r.length];exact hl,I1.bk _ _ hC,hN.keeps I1.bk,T.keeps I1.bk,λh' ea hx=>new z6 σ H1 s1 h' ea (.ref C) us I1 hx hE⟩
end
abbrev Cx.suite(X:Cx)(e:Addr):Cx:={X with A:=X.A.mark (some (.ref e)),calm:=false,xe:=λ_ _=>False}
def excO(e:Addr)(cls:Value):HO:=.ext λh=>∃oe vs,h.get? e=some oe/\oe.cls=cls/\oe.dict=none/\oe.data=.fields vs
section
variable{X:Cx}{z6:List (Addr×Obj)}{σ:St}{H H':Hp}{s s1:Shared}{e:Addr}{cls fl:Value}
theorem Cx.Ok.suite(ok:X.Ok)(e:Addr):(X.suite e).Ok:=
 ⟨ok.mod,ok.kind,ok.glob,ok.blt,ok.above,ok.inj,ok.has,ok.cab,(λz=>nomatch z),ok.frames,ok.stk,ok.exf,ok.bs,ok.bsz,ok.noex,ok.exfs,ok.funs,ok.frf⟩
theorem Inv.suite(I:Inv X z6 σ H s)(e:Addr):Inv (X.suite e) z6 σ H s:=⟨I.ok.suite e,I.os,I.bare,I.base,I.loc,I.cell,I.free,I.freeC,I.pin,I.hok,I.len⟩
theorem Inv.unsuite(ok:X.Ok)(I:Inv (X.suite e) z6 σ H s):Inv X z6 σ H s:=⟨ok,I.os,I.bare,I.base,I.loc,I.cell,I.free,I.freeC,I.pin,I.hok,I.len⟩
theorem Flies.fresh{l:List Env}{P:Program}{w:World}(F:Flies P w l H s cls e H' s1):s.heap.get? e=none/\H' e=none:=by
 obtain⟨B,fl,cond⟩:=F.fly;obtain⟨oe,vs,T,oT,ts,he,hc,hdn,hd,_⟩:=fl.ex;have nf:=qpm fl.fr he hd;have no:¬(H' e≠none∨∃o',s.heap.get? e=some o'):=λz=>by have q:=cond e oe he nf z;rw[fl.new]at q;cases q
 constructor
 ·cases q:s.heap.get? e with
  |none=>rfl
  |some o=>exact absurd (.inr ⟨o,q⟩) no
 ·cases q:H' e with
  |none=>rfl
  |some o=>exact absurd (.inl (by rw[q];exact λz=>nomatch z)) no
theorem qas{h2 B:Heap}(I:Inv X z6 σ H s)(F:Flies X.prog X.w X.stack H s cls e H' s1)(fl:FlyD B X.stack e cls fl h2)(cond:∀b o,s1.heap.get? b=some o->b∉frs X.stack->(H' b≠none∨∃o',s.heap.get? b=some o')->B.get? b=some o)
 (up:s1.heap.UpToSlots h2):Inv X z6 σ H' {s1 with heap:=h2}:=by
 have free_fr:∀b∈frs X.stack,H' b=none:=λb hb=>by obtain⟨_,o1,e1,d1⟩:=I.stack.mem hb;exact F.un.free b o1 e1 (I.stkFree b hb) (by simp)
 have fr_data:∀b∈frs X.stack,∀o,s1.heap.get? b=some o->∀vs,o.data≠.fields vs:=λb hb o eo vs q=>by obtain⟨_,o1,e1,d1⟩:=I.stack.mem hb;obtain⟨sl,e2⟩:=F.un.slot b o1 e1 (I.stkFree b hb) hb (by simp);rw[eo]at e2;cases e2;exact d1 vs q
 refine I.call' (s':={s1 with heap:=h2}) (ch:=[]) F.os ⟨λb o e n hf _=>?_,λb o e n hf _=>?_,F.un.free,λb o e _=>?_,F.un.tups,F.un.frzs,F.un.tbls⟩ (λa o q=>?_) F.bare (λb hb=>absurd hb (by simp))
 ·exact fl.st b o (cond b o (F.un.keep b o e n hf (by simp)) hf (.inr ⟨o,e⟩))
 ·obtain⟨sl,e1⟩:=F.un.slot b o e n hf (by simp);obtain⟨sl2,e2⟩:=up b _ e1 (fr_data b hf _ e1);exact⟨sl2,e2⟩
 ·obtain⟨o1,e1⟩:=F.un.there b o e (by simp);by_cases hb:b∈frs X.stack
  ·obtain⟨sl2,e2⟩:=up b _ e1 (fr_data b hb _ e1);exact⟨_,e2⟩
  ·exact⟨o1,fl.st b o1 (cond b o1 e1 hb (.inr ⟨o,e⟩))⟩
 ·refine(F.hok a o q).stay (λb u hb z=>?_) (λ_ q=>q) λ_ _ q=>q;have nb:H' b≠none:=by
   rcases hb with rfl|hb
   ·rw[q];exact λz=>nomatch z
   ·rw[hb];exact λz=>nomatch z
  exact fl.st b u (cond b u z (λy=>nb (free_fr b y)) (.inl nb))
end
section
variable{X:Cx}{z6:List (Addr×Obj)}{σ:St}{H H':Hp}{s s1:Shared}{e:Addr}{cls c:Value}{i:Nat}{x n:Str}{np pos hpos:Pos}{b₀:Stmt}{suite:List Stmt}{ts:TS}{D:Ends}
theorem qef{M:Model}{h:Heap}{oe:Obj}(he:h.get? e=some oe)(hc:oe.cls=cls):PySem.W.Looks M h (typeOf (.ref e)) cls:=hc▸(PySem.W.Looks.ld he).andThen .now
theorem SP.unsuite{f:Flow}(ok:X.Ok)(h:SP (X.suite e) z6 D f s):SP X z6 D f s:=by
 cases f with
 |next=>obtain⟨σ',H',I,q⟩:=h;exact⟨σ',H',I.unsuite ok,q⟩
 |brk=>obtain⟨σ',H',I,q⟩:=h;exact⟨σ',H',I.unsuite ok,q⟩
 |cont=>obtain⟨σ',H',I,q⟩:=h;exact⟨σ',H',I.unsuite ok,q⟩
 |ret u=>obtain⟨v,σ',H',I,r,q⟩:=h;exact⟨v,σ',H',I.unsuite ok,r,q⟩
theorem qem(I:Inv X z6 σ H s)(zt:X.stack=X.env::X.outer)(hfr:X.env.frame=some X.env.locals)(hg:Gl X x)(hm:X.mg x=some c)
 (hd:(x==("__debug__":Str))=false) (F:Flies X.prog X.w X.stack H s cls e H' s1) (hx:PySem.W.exmOne X.K cls c=some true) (hs:PSs (X.suite e) (b₀::suite) ts) (h:ts D σ H'):
 wpAny (model X.prog X.w) X.A (noteFrame (.ref e) X.env) (λ_ s2=>wpAny (model X.prog X.w) X.A (setFlight (.ref e) none) (λ_ s3=>
  wpAny (model X.prog X.w) X.A (handleBy (.ref e) X.env [.ExceptHandler (some (.Name x np)) none (b₀::suite) hpos]) (SP X z6 D) X.xe s3) X.xe s2) X.xe s1:=by
 obtain⟨B,fl,cond⟩:=F.fly;have hfs:X.A.frames=some (X.env::X.outer):=by rw[<-zt];exact I.ok.frames
 rw[zt]at fl;refine qdx hfs hfr fl λh4 fl4 up4=>?_;refine q5n (s:={s1 with heap:=h4}) fl4 λh5 fl5 up5=>?_;have fl5':=fl5;rw[<-zt]at fl5';have I5:=(qas I F fl5' cond (up4.trans up5)).suite e;refine wpAny_handleBy_cons (codeAny_handlers_test (q4i I5 hg hm ?_ hd)) (λq=>nomatch q);obtain⟨oe,vs,T,oT,ts',he,hc,_⟩:=fl5.ex;refine(PySem.W.exm_one I5.kIn (qef he hc) hx).here ?_;show codeAny _ _ _ _ _;refine codeAny_handlers_suite ?_;refine q5n (s:={s1 with heap:=h5}) fl5 λh6 fl6 up6=>?_;have fl6':=fl6;rw[<-zt]at fl6';have I6:=(qas I F fl6' cond ((up4.trans up5).trans up6)).suite e;refine x8 (hs z6 {s1 with heap:=h6} _ _ _ I6 h) (λf s9 q=>?_) λ_ _ z=>z.elim;exact q.unsuite I.ok
end
def PEat(X:Cx)(z6:List (Addr×Obj))(σ:St)(e:Expr)(t:TE):Prop:=∀(s:Shared) (H:Hp) (Q:VK),Inv X z6 σ H s->t σ H Q->wpAny (model X.prog X.w) X.A (eval e X.env) (EP X z6 σ Q) X.xe s
def PSat(X:Cx)(z6:List (Addr×Obj))(σ:St)(st:Stmt)(t:TS):Prop:=∀(s:Shared) (H:Hp) (D:Ends),Inv X z6 σ H s->t D σ H->wpAny (model X.prog X.w) X.A (exec st X.env) (SP X z6 D) X.xe s
def qqg(X:Cx)(z6:List (Addr×Obj))(σ:St)(st:List Stmt)(t:TS):Prop:=∀(s:Shared) (H:Hp) (D:Ends),Inv X z6 σ H s->t D σ H->wpAny (model X.prog X.w) X.A (execs st X.env) (SP X z6 D) X.xe s
def qb2(CX:CXT)(X:Cx)(z6:List (Addr×Obj))(σ:St)(E:XK):Prop:=∀(H:Hp) (s:Shared) (e:Value) (s':Shared),Inv X z6 σ H s->CX X.stack H s E e s'->X.xe e s'
section
variable{X:Cx}{z6:List (Addr×Obj)}{σ:St}{CX:CXT}{k:Nat}{f:Addr}{fd:FuncData}{ps:List Str}{sp:Sp}{dvs:List V}{ds:List Value}{E:XK}{x:Str}{p pos zi:Pos}{e c:Expr}{es:List Expr}{t:TA}{te:TE}{tc:TT}{st:Stmt}{a b:List Stmt}{ta tb u:TS}
theorem qlw(F:FnOk X.prog X.w X.K X.mg X.base CX k f fd ps sp)(hr:Room k X.A)(hg:Gl X x)(hm:X.mg x=some (.ref f))(hk:PySem.W.keepIn X.K (.ref f)=true)(hb:Binds X.K fd ps ds)(hd:Vals dvs ds)(hx:qb2 CX X z6 σ E)
 (ha:PA X (e::es) t) (hdb:(x==("__debug__":Str))=false:=by decide) (he:starEach (e::es) X.env=(false,eval e X.env)::starEach es X.env:=by rfl) (hpl:(backTo pos (starEach es X.env)).any (·.1)=false:=by rfl):
 PEat X z6 σ (.Call (.Name x p) (e::es) [] pos) (q53 sp dvs E t):=by
 intro s H Q I h;refine xn (q4i I hg hm ?_ hdb);refine PySem.W.callWith_K (h₀:=X.base) I.ok.mod.kin hk (thn (ha pos z6 s σ H _ I h) λus s1 ⟨vs,H1,I1,r,q⟩=>⟨I1.kIn,?_⟩) he hpl;have r2:Vals (vs++dvs) (us++ds):=r.append hd;have hl:(us++ds).length=ps.length:=by rw[<-r2.length];exact F.len _ _ _ _ q
 refine wpAny_call (codeAny_mono (F.run X.A X.stack s1 H1 ⟨us,[]⟩ (us++ds) (vs++dvs) Q E hr I1.env0 (hb s1 us I1.kIn hl) r2 q) λr s' hq=>?_);cases r with
 |error e=>exact hx H1 s1 e s' I1 hq
 | ok fl=>
  cases fl with
  |ret u=>exact I1.after hq
  |next=>exact False.elim hq
  |brk=>exact False.elim hq
  |cont=>exact False.elim hq
theorem qlv(he:PEat X z6 σ e te)(hs:swapsWith e none pos.line X.env=pure false:=by rfl):PSat X z6 σ (.Expr e pos) (q4d te):=by intro s H D I h;exact wpAny_Expr_any (thn (he s H _ I h) λv s1 ⟨x,H1,I1,r1,q1⟩=>⟨σ,H1,I1,q1⟩) I.quiet hs
theorem qqc(h1:PSat X z6 σ st ta):qqg X z6 σ [st] ta:=by
 intro s H D I h;refine wpAny_execs_cons (thn (h1 s H D I h) λf s1 q=>?_);cases f with
 |next=>exact kf q
 |ret v=>exact q
 |brk=>exact q
 |cont=>exact q
end
section
variable{X:Cx}{c:Value}{i:Nat}{x n:Str}{np pos hpos:Pos}{body:List Stmt}{b₀:Stmt}{suite:List Stmt}{ts:TS}{tb:XK->TS}
def tTry(K:FrG)(c:Value)(tb:XK->TS)(ts:TS):TS:=λD σ H=>tb (λcls _ H'=>PySem.W.exmOne K cls c=some true/\ts D σ H') D σ H
theorem qn7(zt:X.stack=X.env::X.outer)(hfr:X.env.frame=some X.env.locals)(hg:Gl X x)(hm:X.mg x=some c)
 (hb:∀xe z6 σ E,qb2 (CX1 X.prog X.w) (X.wish xe) z6 σ E->qqg (X.wish xe) z6 σ body (tb E)) (hs:∀e,PSs (X.suite e) (b₀::suite) ts) (hd:(x==("__debug__":Str))=false:=by decide):
 PS X (.Try body [.ExceptHandler (some (.Name x np)) none (b₀::suite) hpos] [] [] pos) (tTry X.K c tb ts):=by
 intro z6 s σ H D I h;refine wpAny_Try_except ?_;refine x8 (hb (λe s1=>wpAny (model X.prog X.w) X.A (noteFrame e X.env) (λ_ s2=>wpAny (model X.prog X.w) X.A (setFlight e none) (λ_ s3=>
  wpAny (model X.prog X.w) X.A (handleBy e X.env [.ExceptHandler (some (.Name x np)) none (b₀::suite) hpos]) (SP X z6 D) X.xe s3) X.xe s2) X.xe s1) z6 σ _ (λH1 s1 e s' I1 q=>?_) s H D (I.wish _) h) (λf s1 q=>?_) λ_ _ z=>z
 ·obtain⟨ea,cls,H',rfl,F,hx,hE⟩:=q;exact qem I1.unwish zt hfr hg hm hd F hx (hs ea) hE
 ·have q:=q.unwish;cases f with
  |next=>exact kf q
  |ret v=>exact q
  |brk=>exact q
  |cont=>exact q
end
section
variable{P:Program}{w:World}{K:FrG}{mg:Str->Option Value}{base:Heap}
theorem Fun.okX{x qual:Str}{st:Stmt}{f:Addr}{fd:FuncData}{N ps:List Str}{k:Nat}{sp:Sp}(F:Fun K x qual st f fd)(S:q0q N ps (q04 st))(len:∀vs H Q E,sp vs H Q E->vs.length=ps.length)
 (zh:∀(cdv:Value) (A:Around) (outer:List Env) (s:Shared) (H:Hp) (vs:List V) (Q:VK) (E:XK),Room k (A.deeper (envOfC qual (q04 st) s.heap.objs.size f cdv))->sp vs H Q E->
   ∃t,PSs (cxX P w K mg base N qual (q04 st) f cdv A outer s H E) (q0j st) t/\t {nx:=λ_ H'=>Q .non H',rt:=Q} (start N vs) H):FnOk P w K mg base (CX1 P w) (k+1) f fd ps sp:=by
 obtain⟨oc,od,kV,doc,pm,an,cdv,ct,osl,rfl,lk,hcd⟩:=F.ex;exact qh5 lk hcd S len λA outer s H vs Q E hr hsp=>zh cdv A outer s H vs Q E hr hsp
end
section
variable{prog:Program}{w:World}{A:Around}{E:Value->Shared->Prop}{s:Shared}{K:FrG}{e C:Addr}{oe:Obj}
end
structure ExcK(K:FrG)(C:Addr):Prop where
 cls:PySem.W.isClsIn K C=true
 ty:PySem.W.typeIn K (.ref C)=some (.type "type")
 sf:PySem.W.subIn K (.ref C) (.ref C)=some true
 ga:PySem.W.findIn K (.ref C) "__getattribute__"=some (some (.builtin "BaseException.__getattribute__"))
 gt:PySem.W.findIn K (.ref C) "__getattr__"=some none
 bs:PySem.W.subIn K (.ref C) (.type "BaseException")=some true
 ha:PySem.W.findIn K (.ref C) "__class__"=some (some (.builtin "object.__class__"))
 hn:PySem.W.specialIn K (.builtin "object.__class__") "__get__"=some (some (.builtin "getset_descriptor.__get__"))
 tk:PySem.W.takesIn K (.builtin "object.__class__")=some true
 hm:PySem.W.mroIn K C (.type "object")=some true
section
variable{X:Cx}{z6:List (Addr×Obj)}{σ:St}{H:Hp}{s:Shared}{A:Around}{E:Value->Shared->Prop}{Q:Value->Shared->Prop}{c:Value}{b:Bool}{a C:Addr}
end
inductive D where
 |non
 |bl (b:Bool)
 |int (i:Int)
 |str (x:Str)
 |lst (xs:List D)
 |tup (xs:List D)
 |obj (x:Str) (fs:List (Str×D))
 |dct (kvs:List (Key×D))
 |dit (kvs:List (List Key×D))
 |exc (x:Str)
 |fn (x:Str)
mutual
inductive Rp(K:FrG)(R:Hp):V->D->Prop
 |non:Rp K R .non .non
 |bl (b:Bool):Rp K R (.bl b) (.bl b)
 |int (i:Int):Rp K R (.int i) (.int i)
 |str (x:Str):Rp K R (.str x) (.str x)
 |lst {a:Addr} {xs:List V} {ds:List D}:SqL K R a xs->Rps K R xs ds->Rp K R (.ref a) (.lst ds)
 |tup {a:Addr} {xs:List V} {ds:List D}:R a=some (.tup xs)->Rps K R xs ds->Rp K R (.ref a) (.tup ds)
 |obj {a C dx:Addr} {x:Str} {fs:List (Str×V)} {gs:List (Str×D)}:PySem.W.nsIn K mainGlobals x=some (some (.ref C))->R a=some (.ins C dx fs)->Rfs K R fs gs->Rp K R (.ref a) (.obj x gs)
 |dct {a:Addr} {kvs:List (Key×V)} {gs:List (Key×D)}:R a=some (.dK kvs)->Rkk K R kvs gs->Rp K R (.ref a) (.dct gs)
 |dit {a:Addr} {kvs:List (List Key×V)} {gs:List (List Key×D)}:R a=some (.dT kvs)->Rkt K R kvs gs->Rp K R (.ref a) (.dit gs)
 |exc {a C:Addr} {x:Str}:PySem.W.nsIn K mainGlobals x=some (some (.ref C))->ExcK K C->R a=some (excO a (.ref C))->Rp K R (.ref a) (.exc x)
 |fn {l:Addr} {x:Str}:PySem.W.nsIn K mainGlobals x=some (some (.ref l))->Rp K R (.ref l) (.fn x)
inductive Rps(K:FrG)(R:Hp):List V->List D->Prop
 |nil:Rps K R [] []
 |cons {x:V} {xs:List V} {d:D} {ds:List D}:Rp K R x d->Rps K R xs ds->Rps K R (x::xs) (d::ds)
inductive Rfs(K:FrG)(R:Hp):List (Str×V)->List (Str×D)->Prop
 |nil:Rfs K R [] []
 |cons {f:Str} {x:V} {xs:List (Str×V)} {d:D} {ds:List (Str×D)}:Rp K R x d->Rfs K R xs ds->Rfs K R ((f,x)::xs) ((f,d)::ds)
inductive Rkk(K:FrG)(R:Hp):List (Key×V)->List (Key×D)->Prop
 |nil:Rkk K R [] []
 |cons {f:Key} {x:V} {xs:List (Key×V)} {d:D} {ds:List (Key×D)}:Rp K R x d->Rkk K R xs ds->Rkk K R ((f,x)::xs) ((f,d)::ds)
inductive Rkt(K:FrG)(R:Hp):List (List Key×V)->List (List Key×D)->Prop
 |nil:Rkt K R [] []
 |cons {f:List Key} {x:V} {xs:List (List Key×V)} {d:D} {ds:List (List Key×D)}:Rp K R x d->Rkt K R xs ds->Rkt K R ((f,x)::xs) ((f,d)::ds)
end
section
variable{K:FrG}{R:Hp}
theorem Rp.isI{x:V}{i:Int}(h:Rp K R x (.int i)):x=.int i:=by cases h;rfl
theorem Rp.isS{x:V}{i:Str}(h:Rp K R x (.str i)):x=.str i:=by cases h;rfl
theorem Rp.isB{x:V}{i:Bool}(h:Rp K R x (.bl i)):x=.bl i:=by cases h;rfl
theorem Rp.isN{x:V}(h:Rp K R x .non):x=.non:=by cases h;rfl
def qs7:D->Option V
 |.int i=>some (.int i)
 |.str i=>some (.str i)
 |.bl i=>some (.bl i)
 |.non=>some .non
 |_=>none
theorem Rp.isA{x v:V}:{d:D}->Rp K R x d->qs7 d=some v->x=v
 |.int _,h,e=>h.isI.trans (jh e)
 |.str _,h,e=>h.isS.trans (jh e)
 |.bl _,h,e=>h.isB.trans (jh e)
 |.non,h,e=>h.isN.trans (jh e)
theorem Rp.isL{x:V}{ds:List D}(h:Rp K R x (.lst ds)):∃a xs,x=.ref a/\SqL K R a xs/\Rps K R xs ds:=by
 cases h with
 |@lst a xs ds h r=>exact⟨a,xs,rfl,h,r⟩
theorem Rp.isT{x:V}{ds:List D}(h:Rp K R x (.tup ds)):∃a xs,x=.ref a/\R a=some (.tup xs)/\Rps K R xs ds:=by
 cases h with
 |@tup a xs ds h r=>exact⟨a,xs,rfl,h,r⟩
theorem Rps.isC{xs:List V}{d:D}{ds:List D}(h:Rps K R xs (d::ds)):∃x ys,xs=x::ys/\Rp K R x d/\Rps K R ys ds:=by
 cases h with
 |@cons x ys d ds h r=>exact⟨x,ys,rfl,h,r⟩
end
abbrev Rho:=List (Option D)
abbrev RhL:=Rho->Option (List D×Rho)
abbrev RhD:=Rho->Option (D×Rho)
abbrev RhB:=Rho->Option (Bool×Rho)
abbrev RhG:=D->Rho->Option Rho
theorem Same.sqL{K:FrG}{H H':Hp}{a:Addr}{xs:List V}(e:Same H H')(h:SqL K H a xs):SqL K H' a xs:=by
 rcases h with(h|⟨o,h⟩)|h
 ·exact .inl (.inl (e _ _ h))
 ·exact .inl (.inr ⟨o,e _ _ h⟩)
 ·exact .inr h
section
variable{K:FrG}{R R':Hp}
theorem Rp.mono(s:Same R R'){v:V}{d:D}(h:Rp K R v d):Rp K R' v d:=
 Rp.rec (motive_1:=λv d _=>Rp K R' v d) (motive_2:=λxs ds _=>Rps K R' xs ds) (motive_3:=λxs ds _=>Rfs K R' xs ds) (motive_4:=λxs ds _=>Rkk K R' xs ds) (motive_5:=λxs ds _=>Rkt K R' xs ds)
  .non .bl .int .str (λh _ r=>.lst (s.sqL h) r) (λh _ r=>.tup (s _ _ h) r) (λn h _ r=>.obj n (s _ _ h) r) (λh _ r=>.dct (s _ _ h) r) (λh _ r=>.dit (s _ _ h) r) (λn k h=>.exc n k (s _ _ h)) (λn=>.fn n)
  .nil (λ_ _ h r=>.cons h r) .nil (λ_ _ h r=>.cons h r) .nil (λ_ _ h r=>.cons h r) .nil (λ_ _ h r=>.cons h r) h
theorem Rps.mono(s:Same R R'){xs:List V}{ds:List D}(h:Rps K R xs ds):Rps K R' xs ds:=
 Rps.rec (motive_1:=λv d _=>Rp K R' v d) (motive_2:=λxs ds _=>Rps K R' xs ds) (motive_3:=λxs ds _=>Rfs K R' xs ds) (motive_4:=λxs ds _=>Rkk K R' xs ds) (motive_5:=λxs ds _=>Rkt K R' xs ds)
  .non .bl .int .str (λh _ r=>.lst (s.sqL h) r) (λh _ r=>.tup (s _ _ h) r) (λn h _ r=>.obj n (s _ _ h) r) (λh _ r=>.dct (s _ _ h) r) (λh _ r=>.dit (s _ _ h) r) (λn k h=>.exc n k (s _ _ h)) (λn=>.fn n)
  .nil (λ_ _ h r=>.cons h r) .nil (λ_ _ h r=>.cons h r) .nil (λ_ _ h r=>.cons h r) .nil (λ_ _ h r=>.cons h r) h
theorem Rfs.mono(s:Same R R'){xs:List (Str×V)}{ds:List (Str×D)}(h:Rfs K R xs ds):Rfs K R' xs ds:=
 Rfs.rec (motive_1:=λv d _=>Rp K R' v d) (motive_2:=λxs ds _=>Rps K R' xs ds) (motive_3:=λxs ds _=>Rfs K R' xs ds) (motive_4:=λxs ds _=>Rkk K R' xs ds) (motive_5:=λxs ds _=>Rkt K R' xs ds)
  .non .bl .int .str (λh _ r=>.lst (s.sqL h) r) (λh _ r=>.tup (s _ _ h) r) (λn h _ r=>.obj n (s _ _ h) r) (λh _ r=>.dct (s _ _ h) r) (λh _ r=>.dit (s _ _ h) r) (λn k h=>.exc n k (s _ _ h)) (λn=>.fn n)
  .nil (λ_ _ h r=>.cons h r) .nil (λ_ _ h r=>.cons h r) .nil (λ_ _ h r=>.cons h r) .nil (λ_ _ h r=>.cons h r) h
theorem Rkk.mono(s:Same R R'){xs:List (Key×V)}{ds:List (Key×D)}(h:Rkk K R xs ds):Rkk K R' xs ds:=
 Rkk.rec (motive_1:=λv d _=>Rp K R' v d) (motive_2:=λxs ds _=>Rps K R' xs ds) (motive_3:=λxs ds _=>Rfs K R' xs ds) (motive_4:=λxs ds _=>Rkk K R' xs ds) (motive_5:=λxs ds _=>Rkt K R' xs ds)
  .non .bl .int .str (λh _ r=>.lst (s.sqL h) r) (λh _ r=>.tup (s _ _ h) r) (λn h _ r=>.obj n (s _ _ h) r) (λh _ r=>.dct (s _ _ h) r) (λh _ r=>.dit (s _ _ h) r) (λn k h=>.exc n k (s _ _ h)) (λn=>.fn n)
  .nil (λ_ _ h r=>.cons h r) .nil (λ_ _ h r=>.cons h r) .nil (λ_ _ h r=>.cons h r) .nil (λ_ _ h r=>.cons h r) h
theorem Rkt.mono(s:Same R R'){xs:List (List Key×V)}{ds:List (List Key×D)}(h:Rkt K R xs ds):Rkt K R' xs ds:=
 Rkt.rec (motive_1:=λv d _=>Rp K R' v d) (motive_2:=λxs ds _=>Rps K R' xs ds) (motive_3:=λxs ds _=>Rfs K R' xs ds) (motive_4:=λxs ds _=>Rkk K R' xs ds) (motive_5:=λxs ds _=>Rkt K R' xs ds)
  .non .bl .int .str (λh _ r=>.lst (s.sqL h) r) (λh _ r=>.tup (s _ _ h) r) (λn h _ r=>.obj n (s _ _ h) r) (λh _ r=>.dct (s _ _ h) r) (λh _ r=>.dit (s _ _ h) r) (λn k h=>.exc n k (s _ _ h)) (λn=>.fn n)
  .nil (λ_ _ h r=>.cons h r) .nil (λ_ _ h r=>.cons h r) .nil (λ_ _ h r=>.cons h r) .nil (λ_ _ h r=>.cons h r) h
theorem Rps.length:∀{xs:List V} {ds:List D},Rps K R xs ds->xs.length=ds.length
 |_,_,.nil=>rfl
 |_,_,.cons _ r=>by rw[jr,jr,Rps.length r]
theorem Rps.get:∀{xs:List V} {ds:List D} {i:Nat} {d:D},Rps K R xs ds->ds[i]? =some d->∃v,xs[i]? =some v/\Rp K R v d
 |_,_,_,_,.nil,e=>by simp at e
 |_,_,0,_,.cons h _,e=>by simp at e;subst e;exact⟨_,rfl,h⟩
 | _,_,i+1,d,.cons _ r,e=>by obtain⟨v,h1,h2⟩:=Rps.get (i:=i) (d:=d) r (by simpa using e);exact⟨v,by simpa using h1,h2⟩
theorem Rps.append:∀{xs ys:List V} {ds es:List D},Rps K R xs ds->Rps K R ys es->Rps K R (xs++ys) (ds++es)
 |_,_,_,_,.nil,s=>s
 |_,_,_,_,.cons r t,s=>.cons r (Rps.append t s)
theorem Rps.take:∀{xs:List V} {ds:List D} (n:Nat),Rps K R xs ds->Rps K R (xs.take n) (ds.take n)
 |_,_,0,_=>.nil
 |_,_,_+1,.nil=>.nil
 |_,_,n+1,.cons r t=>.cons r (Rps.take n t)
theorem Rps.drop:∀{xs:List V} {ds:List D} (n:Nat),Rps K R xs ds->Rps K R (xs.drop n) (ds.drop n)
 |_,_,0,r=>r
 |_,_,_+1,.nil=>.nil
 |_,_,n+1,.cons _ t=>Rps.drop n t
theorem Rps.set{x:V}{d:D}(r:Rp K R x d):∀{xs:List V} {ds:List D} (i:Nat),Rps K R xs ds->Rps K R (xs.set i x) (ds.set i d)
 |_,_,_,.nil=>.nil
 |_,_,0,.cons _ t=>.cons r t
 |_,_,i+1,.cons q t=>.cons q (Rps.set r i t)
theorem Rps.one{x:V}{d:D}(r:Rp K R x d):Rps K R [x] [d]:=.cons r .nil
theorem Rps.ints:∀ns:List Int,Rps K R (ns.map V.int) (ns.map D.int)
 |[]=>.nil
 |n::ns=>.cons (.int n) (Rps.ints ns)
theorem Rps.snoc{xs:List V}{ds:List D}{x:V}{d:D}(h:Rps K R xs ds)(r:Rp K R x d):Rps K R (xs++[x]) (ds++[d]):=h.append (.one r)
end
inductive Sc:V->D->Prop
 |non:Sc .non .non
 |bl (b:Bool):Sc (.bl b) (.bl b)
 |int (i:Int):Sc (.int i) (.int i)
 |str (x:Str):Sc (.str x) (.str x)
theorem Sc.rp{K:FrG}{R:Hp}{v:V}{d:D}(h:Sc v d):Rp K R v d:=by
 cases h with
 |non=>exact .non
 |bl b=>exact .bl b
 |int i=>exact .int i
 |str x=>exact .str x
def Frh(H:Hp)(a:Addr):Prop:=H a=none∨∃xs,H a=some (.tup xs)
def Liv(H H':Hp)(a:Addr):Prop:=H' a≠none/\∀xs,H' a=some (.tup xs)->H a=some (.tup xs)
theorem Liv.refl{H:Hp}{a:Addr}(h:H a≠none):Liv H H a:=⟨h,λ_ e=>e⟩
theorem Liv.trans{H H1 H2:Hp}{a:Addr}(x:Liv H H1 a)(y:Liv H1 H2 a):Liv H H2 a:=⟨y.1,λxs e=>x.2 xs (y.2 xs e)⟩
theorem Frh.back{H H1:Hp}{a:Addr}(h:H a≠none->Liv H H1 a)(z:Frh H1 a):Frh H a:=by
 cases q:H a with
 |none=>exact .inl q
 | some o=>
  have v:=h (by rw[q];exact λz=>nomatch z);rcases z with z|⟨xs,z⟩
  ·exact absurd z v.1
  ·exact .inr ⟨xs,v.2 xs z⟩
structure Ext(H R H' R':Hp):Prop where
 h:Same H H'
 r:Same R R'
 s:∀a o,R' a=some o->H' a=some o
 n:∀a,R' a≠none->R a≠none∨Frh H a
theorem Ext.refl{H R:Hp}(s:∀a o,R a=some o->H a=some o):Ext H R H R:=⟨Same.refl _,Same.refl _,s,λ_ h=>.inl h⟩
theorem Same.some{H H':Hp}(s:Same H H'){a:Addr}(h:H a≠none):H' a≠none:=by
 cases q:H a with
 |none=>exact absurd q h
 |some o=>rw[s a o q];exact λz=>nomatch z
theorem Same.liv{H H':Hp}(s:Same H H'){a:Addr}(h:H a≠none):Liv H H' a:=⟨s.some h,λxs e=>by
 cases q:H a with
 |none=>exact absurd q h
 |some o=>rw[s a o q]at e;exact e⟩
theorem Ext.trans{H R H1 R1 H2 R2:Hp}(x:Ext H R H1 R1)(y:Ext H1 R1 H2 R2):Ext H R H2 R2:=by
 refine⟨x.h.trans y.h,x.r.trans y.r,y.s,λa h=>?_⟩;rcases y.n a h with z|z
 ·exact x.n a z
 ·exact .inr (z.back x.h.liv)
theorem Ext.new{H R:Hp}{a:Addr}{o:HO}(s:∀a o,R a=some o->H a=some o)(h:H a=none):Ext H R (upd H a o) (upd R a o):=by
 have hr:R a=none:=by
  cases q:R a with
  |none=>rfl
  |some u=>rw[s a u q]at h;cases h
 refine⟨Same.new h,Same.new hr,λb u e=>?_,λb e=>?_⟩
 ·by_cases hb:b=a
  ·subst hb;rw[q0m]at e ⊢;exact e
  ·rw[q0i hb]at e ⊢;exact s b u e
 ·by_cases hb:b=a
  ·subst hb;exact .inr (.inl h)
  ·rw[q0i hb]at e;exact .inl e
theorem Ext.hid{H R:Hp}{a:Addr}{o:HO}(s:∀a o,R a=some o->H a=some o)(h:H a=none):Ext H R (upd H a o) R:=
 ⟨Same.new h,Same.refl _,λb u e=>Same.new h _ _ (s b u e),λ_ e=>.inl e⟩
structure Anc where
 H0:Hp
 R0:Hp
 L:Addr->Prop
 P:List Nat
inductive Ob(K:FrG)(R:Hp):HO->D->Prop
 |lst {vs:List V} {ds:List D}:Rps K R vs ds->Ob K R (.lst vs) (.lst ds)
 |dct {kvs:List (Key×V)} {gs:List (Key×D)}:Rkk K R kvs gs->Ob K R (.dK kvs) (.dct gs)
 |dit {kvs:List (List Key×V)} {gs:List (List Key×D)}:Rkt K R kvs gs->Ob K R (.dT kvs) (.dit gs)
theorem Ob.isL{K:FrG}{R:Hp}{o:HO}{ds:List D}(h:Ob K R o (.lst ds)):∃vs,o=.lst vs/\Rps K R vs ds:=by
 cases h with
 |lst r=>exact⟨_,rfl,r⟩
theorem Ob.mono{K:FrG}{R R':Hp}{o:HO}{d:D}(s:Same R R')(h:Ob K R o d):Ob K R' o d:=by
 cases h with
 |lst r=>exact .lst (r.mono s)
 |dct r=>exact .dct (r.mono s)
 |dit r=>exact .dit (r.mono s)
theorem Ob.noF{K:FrG}{H R:Hp}{o:HO}{d:D}{l:Addr}(h:Ob K R o d)(e:H l=some o)(z:Frh H l):False:=by
 rcases z with z|⟨xs,z⟩
 ·rw[e]at z;cases z
 ·rw[e]at z;cases z;cases h
theorem Ob.rp{K:FrG}{R:Hp}{o:HO}{d:D}{l:Addr}(h:Ob K R o d)(e:R l=some o):Rp K R (.ref l) d:=by
 cases h with
 |lst r=>exact .lst (SqL.of e) r
 |dct r=>exact .dct e r
 |dit r=>exact .dit e r
structure StR(K:FrG)(Z:Anc)(O:List Nat)(σ:St)(H R:Hp)(ρ:Rho):Prop where
 sub:∀a o,R a=some o->H a=some o
 len:σ.length=ρ.length
 env:∀i d,i∉O->ρ[i]? =some (some d)->∃v,σ[i]? =some (some v)/\Rp K R v d
 own:∀i,i∈O->∃l vs ds,ρ[i]? =some (some ds)/\σ[i]? =some (some (.ref l))/\H l=some vs/\R l=none/\Ob K R vs ds
 dis:∀i j,i∈O->j∈O->i≠j->∀l,σ[i]? =some (some (.ref l))->σ[j]? ≠some (some (.ref l))
 ah:∀a o,Z.H0 a=some o->¬Z.L a->H a=some o
 ar:Same Z.R0 R
 an:∀a,R a≠none->Z.R0 a≠none∨Frh Z.H0 a
 ad:∀a,Z.H0 a≠none->Liv Z.H0 H a
 ao:∀i,i∈O->i∉Z.P->∀l,σ[i]? =some (some (.ref l))->Z.H0 l=none
 ap:∀i,i∈O->i∈Z.P->∀l,σ[i]? =some (some (.ref l))->Z.L l
structure Stp(O:List Nat)(σ:St)(H R H' R':Hp):Prop where
 r:Same R R'
 h:∀a o,H a=some o->(∀i,i∈O->σ[i]? ≠some (some (.ref a)))->H' a=some o
 n:∀a,R' a≠none->R a≠none∨Frh H a
 d:∀a,H a≠none->Liv H H' a
theorem Stp.refl(O:List Nat)(σ:St)(H R:Hp):Stp O σ H R H R:=⟨Same.refl _,λ_ _ e _=>e,λ_ h=>.inl h,λ_ h=>.refl h⟩
theorem Stp.trans{O:List Nat}{σ:St}{H R H1 R1 H2 R2:Hp}(x:Stp O σ H R H1 R1)(y:Stp O σ H1 R1 H2 R2):Stp O σ H R H2 R2:=by
 refine⟨x.r.trans y.r,λa o e n=>y.h a o (x.h a o e n) n,λa h=>?_,λa h=>(x.d a h).trans (y.d a (x.d a h).1)⟩;rcases y.n a h with z|z
 ·exact x.n a z
 ·exact .inr (z.back (x.d a))
theorem Ext.stp{O:List Nat}{σ:St}{H R H' R':Hp}(x:Ext H R H' R'):Stp O σ H R H' R':=⟨x.r,λa o e _=>x.h a o e,x.n,λ_ h=>x.h.liv h⟩
section
variable{K:FrG}{Z:Anc}{O O':List Nat}{σ σ':St}{H R H' R':Hp}{ρ ρ':Rho}
theorem StR.ext(S:StR K Z O σ H R ρ)(x:Ext H R H' R'):StR K Z O σ H' R' ρ:=by
 refine⟨x.s,S.len,λi d hi e=>?_,λi hi=>?_,S.dis,λa o e n=>x.h a o (S.ah a o e n),S.ar.trans x.r,λa h=>?_,λa h=>(S.ad a h).trans (x.h.liv (S.ad a h).1),S.ao,S.ap⟩
 ·obtain⟨v,h1,h2⟩:=S.env i d hi e;exact⟨v,h1,h2.mono x.r⟩
 ·obtain⟨l,vs,ds,h1,h2,h3,h4,h5⟩:=S.own i hi;refine⟨l,vs,ds,h1,h2,x.h _ _ h3,?_,h5.mono x.r⟩;cases q:R' l with
  |none=>rfl
  | some o=>
   rcases x.n l (by rw[q];exact λz=>nomatch z)with z|z
   ·exact absurd h4 z
   ·exact(h5.noF h3 z).elim
 ·rcases x.n a h with z|z
  ·exact S.an a z
  ·exact .inr (z.back (S.ad a))
noncomputable def frzR(O O':List Nat)(σ:St)(H R:Hp):Hp:=λa=>open Classical in if∃i,i∈O/\i∉O'/\σ[i]? =some (some (.ref a))then H a else R a
theorem StR.freeze(S:StR K Z O σ H R ρ)(hs:∀i,i∈O'->i∈O)(hp:∀i,i∈Z.P->i∈O->i∈O'):StR K Z O' σ H (frzR O O' σ H R) ρ/\Same R (frzR O O' σ H R):=by
 have same:Same R (frzR O O' σ H R):=λa o e=>by
  unfold frzR;split
  ·exact S.sub a o e
  ·exact e
 refine⟨⟨λa o e=>?_,S.len,λi d hi e=>?_,λi hi=>?_,λi j hi hj=>S.dis i j (hs i hi) (hs j hj),S.ah,S.ar.trans same,λa h=>?_,S.ad,λi hi=>S.ao i (hs i hi),λi hi=>S.ap i (hs i hi)⟩,same⟩
 ·unfold frzR at e;split at e
  ·exact e
  ·exact S.sub a o e
 ·by_cases hO:i∈O
  ·obtain⟨l,vs,ds,h1,h2,h3,h4,h5⟩:=S.own i hO;rw[e]at h1;have ed:d=ds:=jh (jh h1);subst ed;refine⟨.ref l,h2,(h5.mono same).rp ?_⟩;unfold frzR;rw[if_pos ⟨i,hO,hi,h2⟩];exact h3
  ·obtain⟨v,h1,h2⟩:=S.env i d hO e;exact⟨v,h1,h2.mono same⟩
 ·obtain⟨l,vs,ds,h1,h2,h3,h4,h5⟩:=S.own i (hs i hi);refine⟨l,vs,ds,h1,h2,h3,?_,h5.mono same⟩;unfold frzR;rw[if_neg ?_]
  ·exact h4
  ·rintro⟨j,hj,hj',e⟩;exact S.dis j i hj (hs i hi) (λz=>hj' (z▸hi)) l e h2
 ·unfold frzR at h;split at h
  ·rename_i z;obtain⟨j,hj,hj',e⟩:=z;exact .inr (.inl (S.ao j hj (λz=>hj' (hp j z hj)) a e))
  ·exact S.an a h
theorem StR.set(S:StR K Z O σ H R ρ){i:Nat}{v:V}{d:D}(hi:i∉O)(r:Rp K R v d):StR K Z O (σ.set i (some v)) H R (ρ.set i (some d)):=by
 have ne:∀j,j∈O->i≠j:=λj hj z=>hi (z▸hj);refine⟨S.sub,by rw[xg,xg];exact S.len,λj e hj q=>?_,λj hj=>?_,λj k hj hk n l e=>?_,S.ah,S.ar,S.an,S.ad,λj hj hp l e=>?_,λj hj hp l e=>?_⟩
 ·by_cases hij:i=j
  ·subst hij;have hl:i<ρ.length:=by
    have:=(List.getElem?_eq_some_iff.mp q).1
    rwa [xg]at this
   rw[jv hl]at q;have e':d=e:=jh (jh q);subst e';exact⟨v,by rw[jv (by rw[S.len];exact hl)],r⟩
  ·rw[ji hij]at q;obtain⟨w,h1,h2⟩:=S.env j e hj q;exact⟨w,by rw[ji hij];exact h1,h2⟩
 ·obtain⟨l,vs,ds,h1,h2,h3,h4,h5⟩:=S.own j hj;exact⟨l,vs,ds,by rw[ji (ne j hj)];exact h1,by rw[ji (ne j hj)];exact h2,h3,h4,h5⟩
 ·rw[ji (ne j hj)]at e;rw[ji (ne k hk)];exact S.dis j k hj hk n l e
 ·rw[ji (ne j hj)]at e;exact S.ao j hj hp l e
 ·rw[ji (ne j hj)]at e;exact S.ap j hj hp l e
theorem StR.write(S:StR K Z O σ H R ρ){i:Nat}{l:Addr}{vs:HO}{ds:D}(hi:i∈O)(hl:σ[i]? =some (some (.ref l)))(r:Ob K R vs ds):StR K Z O σ (upd H l vs) R (ρ.set i (some ds)):=by
 obtain⟨l0,vs0,ds0,h1,h2,h3,h4,h5⟩:=S.own i hi;rw[hl]at h2;cases h2;have other:∀j,j∈O->i≠j->∀k,σ[j]? =some (some (.ref k))->k≠l:=λj hj n k e z=>by subst z;exact S.dis i j hi hj n k hl e
 refine⟨λa o e=>?_,by rw[xg];exact S.len,λj d hj q=>?_,λj hj=>?_,S.dis,λa o e n=>?_,S.ar,S.an,λa h=>?_,S.ao,S.ap⟩
 ·have ne:a≠l:=λz=>by subst z;rw[h4]at e;cases e
  rw[q0i ne];exact S.sub a o e
 ·have n:i≠j:=λz=>hj (z▸hi);rw[ji n]at q;exact S.env j d hj q
 ·by_cases n:i=j
  ·subst n;have z9:i<ρ.length:=(List.getElem?_eq_some_iff.mp h1).1;exact⟨l,vs,ds,by rw[jv z9],hl,q0m,h4,r⟩
  ·obtain⟨k,vs',ds',g1,g2,g3,g4,g5⟩:=S.own j hj;exact⟨k,vs',ds',by rw[ji n];exact g1,g2,by rw[q0i (other j hj n k g2)];exact g3,g4,g5⟩
 ·have ne:a≠l:=λz=>by
   subst z;by_cases hp:i∈Z.P
   ·exact n (S.ap i hi hp a hl)
   ·rw[S.ao i hi hp a hl]at e;cases e
  rw[q0i ne];exact S.ah a o e n
 ·by_cases ha:a=l
  ·subst ha;exact⟨by rw[q0m];exact(λz=>(nomatch z)),λxs e=>by rw[q0m]at e;cases e;cases r⟩
  ·exact⟨by rw[q0i ha];exact(S.ad a h).1,λxs e=>by rw[q0i ha]at e;exact(S.ad a h).2 xs e⟩
theorem StR.take(S:StR K Z O σ H R ρ){i:Nat}{l:Addr}{vs:HO}{ds:D}(hi:i∉O)(hin:i∈O')(hO:∀j,j∈O'->j=i∨j∈O)(hp:i∉Z.P)(z9:i<ρ.length)(h0:Z.H0 l=none)(hH:H l=some vs)(hR:R l=none)(hn:∀j,j∈O->σ[j]? ≠some (some (.ref l)))(hs:∀j,j∈O->j∈O')(r:Ob K R vs ds):
 StR K Z O' (σ.set i (some (.ref l))) H R (ρ.set i (some ds)):=by
 have ne:∀j,j∈O->i≠j:=λj hj z=>hi (z▸hj);have hl:i<σ.length:=by rw[S.len];exact z9
 refine⟨S.sub,by rw[xg,xg];exact S.len,λj e hj q=>?_,λj hj=>?_,λj k hj hk n m e=>?_,S.ah,S.ar,S.an,S.ad,λj hj hp l e=>?_,λj hj hp' l e=>?_⟩
 ·by_cases hij:i=j
  ·subst hij;rw[jv z9]at q;have e':ds=e:=jh (jh q);subst e';exact absurd hin hj
  ·rw[ji hij]at q;obtain⟨w,h1,h2⟩:=S.env j e (λz=>hj (hs j z)) q;exact⟨w,by rw[ji hij];exact h1,h2⟩
 ·rcases hO j hj with rfl|hj'
  ·exact⟨l,vs,ds,by rw[jv z9],by rw[jv hl],hH,hR,r⟩
  ·obtain⟨k,vs',ds',g1,g2,g3,g4,g5⟩:=S.own j hj';exact⟨k,vs',ds',by rw[ji (ne j hj')];exact g1,by rw[ji (ne j hj')];exact g2,g3,g4,g5⟩
 ·rcases hO j hj with rfl|hj'
  ·rw[jv hl]at e;cases e;rcases hO k hk with rfl|hk'
   ·exact absurd rfl n
   ·rw[ji (ne k hk')];exact hn k hk'
  ·rw[ji (ne j hj')]at e;rcases hO k hk with rfl|hk'
   ·rw[jv hl];intro z;cases z;exact hn j hj' e
   ·rw[ji (ne k hk')];exact S.dis j k hj' hk' n m e
 ·rcases hO j hj with rfl|hj'
  ·rw[jv hl]at e;cases e;exact h0
  ·rw[ji (ne j hj')]at e;exact S.ao j hj' hp l e
 ·rcases hO j hj with rfl|hj'
  ·exact absurd hp' hp
  ·rw[ji (ne j hj')]at e;exact S.ap j hj' hp' l e
end
def q1q{α β:Type}(a:Rho->Option (α×Rho))(k:α->Rho->Option (β×Rho)):Rho->Option (β×Rho):=λρ=>match a ρ with
 |none=>none
 |some (x,ρ1)=>k x ρ1
def mRet{α:Type}(x:α):Rho->Option (α×Rho):=λρ=>some (x,ρ)
def q2w{α:Type}(o:Option α):Rho->Option (α×Rho):=λρ=>match o with
 |none=>none
 |some x=>some (x,ρ)
theorem q0b{α β:Type}{a:Rho->Option (α×Rho)}{k:α->Rho->Option (β×Rho)}{ρ:Rho}{r:β×Rho}(h:q1q a k ρ=some r):∃x ρ1,a ρ=some (x,ρ1)/\k x ρ1=some r:=by
 unfold q1q at h;cases e:a ρ with
 |none=>rw[e]at h;cases h
 |some p=>rw[e]at h;exact⟨p.1,p.2,rfl,h⟩
theorem q0k{α:Type}{o:Option α}{ρ:Rho}{x:α}{ρ':Rho}(h:q2w o ρ=some (x,ρ')):o=some x/\ρ'=ρ:=by
 unfold q2w at h;cases o with
 |none=>cases h
 |some y=>cases h;exact⟨rfl,rfl⟩
def mVar(i:Nat):RhD:=λρ=>match ρ[i]? with
 |some (some d)=>some (d,ρ)
 |_=>none
theorem q6d{i:Nat}{ρ ρ':Rho}{d:D}(h:mVar i ρ=some (d,ρ')):ρ[i]? =some (some d)/\ρ'=ρ:=by
 unfold mVar at h;cases e:ρ[i]? with
 |none=>rw[e]at h;cases h
 | some o=>
  rw[e]at h;cases o with
  |none=>cases h
  |some y=>cases h;exact⟨rfl,rfl⟩
section
variable(K:FrG)(O:List Nat)
def ME(t:TE)(f:RhD):Prop:=∀(Z:Anc) (σ:St) (H R:Hp) (ρ:Rho) (d:D) (ρ':Rho) (Q:VK),StR K Z O σ H R ρ->f ρ=some (d,ρ')->(∀v H' R',StR K Z O σ H' R' ρ'->Stp O σ H R H' R'->Rp K R' v d->Q v H')->t σ H Q
def MB(t:TE)(f:RhD):Prop:=∀(Z:Anc) (σ:St) (H R:Hp) (ρ:Rho) (d:D) (ρ':Rho) (Q:VK),StR K Z O σ H R ρ->f ρ=some (d,ρ')->(∀v H' R',StR K Z O σ H' R' ρ'->Stp O σ H R H' R'->Rp K H' v d->Q v H')->t σ H Q
def MT(t:TT)(f:RhB):Prop:=∀(Z:Anc) (σ:St) (H R:Hp) (ρ:Rho) (b:Bool) (ρ':Rho) (Q:Bool->Hp->Prop),StR K Z O σ H R ρ->f ρ=some (b,ρ')->(∀H' R',StR K Z O σ H' R' ρ'->Stp O σ H R H' R'->Q b H')->t σ H Q
def MA(t:TA)(f:RhL):Prop:=∀(Z:Anc) (σ:St) (H R:Hp) (ρ:Rho) (ds:List D) (ρ':Rho) (Q:List V->Hp->Prop),StR K Z O σ H R ρ->f ρ=some (ds,ρ')->(∀vs H' R',StR K Z O σ H' R' ρ'->Stp O σ H R H' R'->Rps K R' vs ds->Q vs H')->t σ H Q
def MN(t:TE)(f:RhL):Prop:=∀(Z:Anc) (σ:St) (H R:Hp) (ρ:Rho) (ds:List D) (ρ':Rho) (Q:VK),StR K Z O σ H R ρ->f ρ=some (ds,ρ')->(∀l vs H' R',StR K Z O σ H' R' ρ'->Stp O σ H R H' R'->H l=none->H' l=some (.lst vs)->R' l=none->Rps K R' vs ds->Q (.ref l) H')->t σ H Q
end
section
variable{K:FrG}{Z:Anc}{O:List Nat}{t ta tb tc:TE}{tA tB':TT}{tr:TA}
theorem StR.same{σ:St}{H R:Hp}{ρ:Rho}(S:StR K Z O σ H R ρ):Same R H:=S.sub
theorem ME.mb{f:RhD}(h:ME K O t f):MB K O t f:=λZ σ H R ρ d ρ' Q S e k=>h Z σ H R ρ d ρ' Q S e λv H' R' S' st r=>k v H' R' S' st (r.mono S'.same)
theorem StR.notnew{σ:St}{H R:Hp}{ρ:Rho}(S:StR K Z O σ H R ρ){l:Addr}(h:H l=none):∀j,j∈O->σ[j]? ≠some (some (.ref l)):=λj hj e=>by
 obtain⟨k,vs,ds,_,h2,h3,_⟩:=S.own j hj;rw[e]at h2
 (first|obtain rfl:=h2.isA rfl|cases h2)
 rw[h]at h3
 (first|obtain rfl:=h3.isA rfl|cases h3)
theorem StR.know{σ:St}{H R:Hp}{ρ:Rho}{l:Addr}{vs:HO}(S:StR K Z O σ H R ρ)(h0:Z.H0 l=none)(hH:H l=some vs)(hR:R l=none)(hn:∀j,j∈O->σ[j]? ≠some (some (.ref l))):StR K Z O σ H (upd R l vs) ρ:=by
 have same:Same R (upd R l vs):=Same.new hR;refine⟨λa o e=>?_,S.len,λi d hi e=>?_,λi hi=>?_,S.dis,S.ah,S.ar.trans same,λa h=>?_,S.ad,S.ao,S.ap⟩
 ·by_cases ha:a=l
  ·subst ha;rw[q0m]at e;rw[hH,e]
  ·rw[q0i ha]at e;exact S.sub a o e
 ·obtain⟨v,h1,h2⟩:=S.env i d hi e;exact⟨v,h1,h2.mono same⟩
 ·obtain⟨k,ws,ds,h1,h2,h3,h4,h5⟩:=S.own i hi;refine⟨k,ws,ds,h1,h2,h3,?_,h5.mono same⟩;rw[q0i (λz=>hn i hi (by rw[<-z];exact h2))];exact h4
 ·by_cases ha:a=l
  ·subst ha;exact .inr (.inl h0)
  ·rw[q0i ha]at h;exact S.an a h
theorem StR.new0{σ:St}{H R:Hp}{ρ:Rho}{l:Addr}(S:StR K Z O σ H R ρ)(h:H l=none):Z.H0 l=none:=by
 cases q:Z.H0 l with
 |none=>rfl
 |some o=>exact absurd h (S.ad l (by rw[q];exact λz=>nomatch z)).1
theorem Stp.know{σ:St}{H R H' R':Hp}{l:Addr}{o:HO}(x:Stp O σ H R H' R')(h:H l=none)(hr:R' l=none):Stp O σ H R H' (upd R' l o):=by
 refine⟨x.r.trans (Same.new hr),x.h,λb e=>?_,x.d⟩;by_cases hb:b=l
 ·subst hb;exact .inr (.inl h)
 ·rw[q0i hb]at e;exact x.n b e
theorem MN.me{f:RhL}(h:MN K O t f):ME K O t (q1q f λds=>mRet (.lst ds)):=λZ σ H R ρ d ρ' Q S e k=>by obtain⟨ds,ρ1,e1,e2⟩:=q0b e;cases e2;refine h Z σ H R ρ ds _ Q S e1 λl vs H' R' S' st h0 hH hR r=>?_;refine k _ H' (upd R' l (.lst vs)) (S'.know (S.new0 h0) hH hR ?_) (st.know h0 hR) (.lst (SqL.of q0m) (r.mono (Same.new hR)));exact S.notnew h0
theorem q03{i:Nat}(hi:i∉O:=by decide):ME K O (tVar i) (mVar i):=λZ σ H R ρ d ρ' Q S e k=>by obtain⟨e1,rfl⟩:=q6d e;obtain⟨v,h1,h2⟩:=S.env i d hi e1;exact⟨v,h1,k v H R S (Stp.refl _ _ _ _) h2⟩
theorem q2a{i:Nat}:MB K O (tVar i) (mVar i):=λZ σ H R ρ d ρ' Q S e k=>by
 obtain⟨e1,rfl⟩:=q6d e;by_cases hi:i∈O
 ·obtain⟨l,vs,ds,h1,h2,h3,h4,h5⟩:=S.own i hi;rw[e1]at h1
  (first|obtain rfl:=h1.isA rfl|cases h1)
  exact⟨.ref l,h2,k _ H R S (Stp.refl _ _ _ _) ((h5.mono S.same).rp h3)⟩
 ·obtain⟨v,h1,h2⟩:=S.env i d hi e1;exact⟨v,h1,k v H R S (Stp.refl _ _ _ _) (h2.mono S.same)⟩
theorem me_c{v:V}{d:D}(h:Sc v d):ME K O (tC v) (mRet d):=λZ σ H R ρ e ρ' Q S q k=>by
 (first|obtain rfl:=q.isA rfl|cases q)
 exact k v H R S (Stp.refl _ _ _ _) h.rp
theorem me_int{i:Int}:ME K O (tC (.int i)) (mRet (.int i)):=me_c (.int i)
theorem me_str{x:Str}:ME K O (tC (.str x)) (mRet (.str x)):=me_c (.str x)
theorem q6c{b:Bool}:ME K O (tC (.bl b)) (mRet (.bl b)):=me_c (.bl b)
theorem me_non:ME K O (tC .non) (mRet .non):=me_c .non
def mOp2(g:D->D->Option D)(fa fb:RhD):RhD:=q1q fa λx=>q1q fb λy=>q2w (g x y)
def OpS(K:FrG)(r:R2)(g:D->D->Option D):Prop:=∀(H:Hp) (x y:V) (d e u:D) (Q:VK),Rp K H x d->Rp K H y e->g d e=some u->(∀v,Sc v u->Q v H)->r x y H Q
def OpG(K:FrG)(r:R2)(g:D->D->Option D):Prop:=∀(H R:Hp) (x y:V) (d e u:D) (Q:VK),(∀a o,R a=some o->H a=some o)->Rp K R x d->Rp K R y e->g d e=some u->(∀v H' R',Ext H R H' R'->Rp K R' v u->Q v H')->r x y H Q
theorem OpS.g{r:R2}{g:D->D->Option D}(h:OpS K r g):OpG K r g:=λH R x y d e u Q s rx ry q k=>
 h H x y d e u Q (rx.mono s) (ry.mono s) q λv z=>k v H R (Ext.refl s) z.rp
theorem q0c{r:R2}{g:D->D->Option D}{fa fb:RhD}(h:OpG K r g)(ha:ME K O ta fa)(hb:ME K O tb fb):ME K O (tOp r ta tb) (mOp2 g fa fb):=λZ σ H R ρ d ρ' Q S e k=>by obtain⟨x,ρ1,e1,e⟩:=q0b e;obtain⟨y,ρ2,e2,e⟩:=q0b e;obtain⟨e3,rfl⟩:=q0k e;refine ha Z σ H R ρ x ρ1 _ S e1 λv H1 R1 S1 st1 r1=>hb Z σ H1 R1 ρ1 y _ _ S1 e2 λw H2 R2 S2 st2 r2=>?_;exact h H2 R2 v w x y d Q S2.sub (r1.mono st2.r) r2 e3 λz H3 R3 x3 r3=>k z H3 R3 (S2.ext x3) ((st1.trans st2).trans x3.stp) r3
theorem q14{r:R2}{g:D->D->Option D}{fa fb:RhD}(h:OpS K r g)(ha:ME K O ta fa)(hb:MB K O tb fb):ME K O (tOp r ta tb) (mOp2 g fa fb):=λZ σ H R ρ d ρ' Q S e k=>by obtain⟨x,ρ1,e1,e⟩:=q0b e;obtain⟨y,ρ2,e2,e⟩:=q0b e;obtain⟨e3,rfl⟩:=q0k e;refine ha Z σ H R ρ x ρ1 _ S e1 λv H1 R1 S1 st1 r1=>hb Z σ H1 R1 ρ1 y _ _ S1 e2 λw H2 R2 S2 st2 r2=>?_;exact h H2 v w x y d Q ((r1.mono st2.r).mono S2.same) r2 e3 λz q=>k z H2 R2 S2 (st1.trans st2) q.rp
def mIxO(i:Nat)(fb:RhD):RhD:=q1q fb λy=>q1q (mVar i) λx=>q2w (match x,y with
 |.lst xs,.int j=>atI xs j
 |_,_=>none)
theorem qa0{R:Hp}{xs:List V}{ds:List D}{i:Int}{d:D}(r:Rps K R xs ds)(h:atI ds i=some d):∃v,atI xs i=some v/\Rp K R v d:=by
 unfold atI at h ⊢;rw[r.length];cases e:ixN ds.length i with
 |none=>rw[e]at h;cases h
 | some j=>
  rw[e]at h;exact r.get h
theorem qoz{i:Nat}{fb:RhD}(hi:i∈O)(hb:ME K O tb fb):ME K O (tOp (rIx K) (tVar i) tb) (mIxO i fb):=λZ σ H R ρ d ρ' Q S e k=>by
 obtain⟨y,ρ1,e1,e⟩:=q0b e;obtain⟨x,ρ2,e2,e⟩:=q0b e;obtain⟨e3,rfl⟩:=q0k e;obtain⟨e4,rfl⟩:=q6d e2;obtain⟨l,vs,ds,h1,h2,h3,_⟩:=S.own i hi;refine⟨.ref l,h2,hb Z σ H R ρ y _ _ S e1 λw H1 R1 S1 st1 r1=>?_⟩;obtain⟨l',vs',ds',g1,g2,g3,g4,g5⟩:=S1.own i hi;rw[h2]at g2;cases g2;rw[e4]at g1;cases g1;split at e3
 ·obtain rfl:=r1.isA rfl;obtain⟨us,rfl,q5⟩:=g5.isL;obtain⟨v,q1,q2⟩:=qa0 q5 e3;exact .inl ⟨l,_,_,v,rfl,rfl,SqL.of g3,q1,k v H1 R1 S1 st1 q2⟩
 ·cases e3
def dIx:D->D->Option D
 |.lst xs,.int i=>atI xs i
 |.tup xs,.int i=>atI xs i
 |.str z,.int i=>if z.length<=sizeLine then(atI z.cps.toList i).map λc=>.str ⟨#[c]⟩else none
 |_,_=>none
theorem q10:OpG K (rIx K) dIx:=λH R x y d e u Q s rx ry q k=>by
 unfold dIx at q;split at q
 ·rename_i xs i
  (first|obtain rfl:=ry.isA rfl|cases ry)
  obtain⟨_,_,rfl,h,r⟩:=rx.isL;obtain⟨v,q1,q2⟩:=qa0 r q;exact .inl ⟨_,_,i,v,rfl,rfl,Same.sqL s h,q1,k v H R (Ext.refl s) q2⟩
 ·rename_i xs i
  (first|obtain rfl:=ry.isA rfl|cases ry)
  obtain⟨_,_,rfl,h,r⟩:=rx.isT;obtain⟨v,q1,q2⟩:=qa0 r q;exact .inr (.inl ⟨_,_,i,v,rfl,rfl,SqT.of (s _ _ h),q1,k v H R (Ext.refl s) q2⟩)
 ·rename_i z i
  (first|obtain rfl:=ry.isA rfl|cases ry)
  (first|obtain rfl:=rx.isA rfl|cases rx)
  split at q
  ·rename_i hz;cases e':atI z.cps.toList i with
   |none=>rw[e']at q;cases q
   | some c=>
    rw[e']at q
    (first|obtain rfl:=q.isA rfl|cases q)
    exact .inr (.inr ⟨z,i,c,rfl,rfl,hz,e',k _ H R (Ext.refl s) (.str _)⟩)
  ·(first|obtain rfl:=q.isA rfl|cases q)
 ·(first|obtain rfl:=q.isA rfl|cases q)
def dI2(C:Int->Int->Bool)(g:Int->Int->Int):D->D->Option D
 |.int i,.int j=>if C i j=true then some (.int (g i j))else none
 |_,_=>none
theorem op_i{C:Int->Int->Bool}{P:Int->Int->Prop}{g:Int->Int->Int}(hc:∀i j,C i j=true->P i j):OpG K (rI P λi j=>.int (g i j)) (dI2 C g):=λH R x y d e u Q s rx ry q k=>by
 unfold dI2 at q;split at q
 ·rename_i i j;split at q
  ·rename_i h
   (first|obtain rfl:=q.isA rfl|cases q)
   (first|obtain rfl:=rx.isA rfl|cases rx)
   (first|obtain rfl:=ry.isA rfl|cases ry)
   exact⟨i,j,rfl,rfl,hc i j h,k _ H R (Ext.refl s) (.int _)⟩
  ·(first|obtain rfl:=q.isA rfl|cases q)
 ·(first|obtain rfl:=q.isA rfl|cases q)
def dI0(g:Int->Int->Int):D->D->Option D
 |.int i,.int j=>some (.int (g i j))
 |_,_=>none
theorem qk0{g:Int->Int->Int}:OpG K (rI0 λi j=>.int (g i j)) (dI0 g):=λH R x y d e u Q s rx ry q k=>by
 unfold dI0 at q;split at q
 ·rename_i i j
  (first|obtain rfl:=q.isA rfl|cases q)
  (first|obtain rfl:=rx.isA rfl|cases rx)
  (first|obtain rfl:=ry.isA rfl|cases ry)
  exact⟨i,j,rfl,rfl,k _ H R (Ext.refl s) (.int _)⟩
 ·(first|obtain rfl:=q.isA rfl|cases q)
def dB0(g:Int->Int->Bool):D->D->Option D
 |.int i,.int j=>some (.bl (g i j))
 |_,_=>none
end
section
variable{K:FrG}{Z:Anc}{O:List Nat}{t ta tb tc:TE}{tA tB':TT}{tr:TA}{fa fb fc:RhD}{ga gb:RhB}{fs:RhL}
def q0d(f:RhD):RhB:=q1q f λd=>q2w (match d with
 |.bl b=>some b
 |_=>none)
theorem q0v(h:ME K O t fa):MT K O (qm9 t) (q0d fa):=λZ σ H R ρ b ρ' Q S e k=>by
 obtain⟨d,ρ1,e1,e⟩:=q0b e;obtain⟨e2,rfl⟩:=q0k e;refine h Z σ H R ρ d _ _ S e1 λv H' R' S' st r=>?_
 (first|split at e2)
 ·obtain rfl:=r.isA rfl;cases e2;exact⟨_,rfl,k H' R' S' st⟩
 ·cases e2
theorem q46(h:ME K O t fa):MT K O (tB t) (q0d fa):=λZ σ H R ρ b ρ' Q S e k=>by
 obtain⟨d,ρ1,e1,e⟩:=q0b e;obtain⟨e2,rfl⟩:=q0k e;refine h Z σ H R ρ d _ _ S e1 λv H' R' S' st r=>?_
 (first|split at e2)
 ·obtain rfl:=r.isA rfl;cases e2;exact⟨_,rfl,k H' R' S' st⟩
 ·cases e2
def mNot(f:RhB):RhB:=q1q f λb=>mRet (!b)
theorem q71(h:MT K O tA ga):MT K O (tNot tA) (mNot ga):=λZ σ H R ρ b ρ' Q S e k=>by obtain⟨c,ρ1,e1,e⟩:=q0b e;cases e;exact h Z σ H R ρ c _ _ S e1 λH' R' S' st=>k H' R' S' st
def mAnd(f g:RhB):RhB:=q1q f λb=>if b=true then g else mRet false
def mOr(f g:RhB):RhB:=q1q f λb=>if b=true then mRet true else g
theorem q8n(h:MT K O tA ga)(h2:MT K O tB' gb):MT K O (tAnd tA tB') (mAnd ga gb):=λZ σ H R ρ b ρ' Q S e k=>by
 obtain⟨c,ρ1,e1,e⟩:=q0b e;refine h Z σ H R ρ c _ _ S e1 λH' R' S' st=>?_;cases c with
 |true=>exact iteT (h2 Z σ H' R' ρ1 b ρ' Q S' e λH2 R2 S2 st2=>k H2 R2 S2 (st.trans st2))
 |false=>cases e;exact iteF (k H' R' S' st)
theorem q9m(h:MT K O tA ga)(h2:MT K O tB' gb):MT K O (tOr tA tB') (mOr ga gb):=λZ σ H R ρ b ρ' Q S e k=>by
 obtain⟨c,ρ1,e1,e⟩:=q0b e;refine h Z σ H R ρ c _ _ S e1 λH' R' S' st=>?_;cases c with
 |true=>cases e;exact iteT (k H' R' S' st)
 |false=>exact iteF (h2 Z σ H' R' ρ1 b ρ' Q S' e λH2 R2 S2 st2=>k H2 R2 S2 (st.trans st2))
def mIf(f:RhB)(g h:RhD):RhD:=q1q f λb=>if b=true then g else h
theorem q9r(h:MT K O tA ga)(h1:ME K O ta fa)(h2:ME K O tb fb):ME K O (tIf tA ta tb) (mIf ga fa fb):=λZ σ H R ρ d ρ' Q S e k=>by
 obtain⟨c,ρ1,e1,e⟩:=q0b e;refine h Z σ H R ρ c _ _ S e1 λH' R' S' st=>?_;cases c with
 |true=>exact iteT (h1 Z σ H' R' ρ1 d ρ' Q S' e λv H2 R2 S2 st2 r2=>k v H2 R2 S2 (st.trans st2) r2)
 |false=>exact iteF (h2 Z σ H' R' ρ1 d ρ' Q S' e λv H2 R2 S2 st2 r2=>k v H2 R2 S2 (st.trans st2) r2)
def mNil:RhL:=mRet []
def q02(f:RhD)(g:RhL):RhL:=q1q f λx=>q1q g λxs=>mRet (x::xs)
theorem q08:MA K O tNil mNil:=λZ σ H R ρ ds ρ' Q S e k=>by cases e;exact k [] H R S (Stp.refl _ _ _ _) .nil
theorem q01(h:ME K O t fa)(h2:MA K O tr fs):MA K O (q2g t tr) (q02 fa fs):=λZ σ H R ρ ds ρ' Q S e k=>by obtain⟨x,ρ1,e1,e⟩:=q0b e;obtain⟨xs,ρ2,e2,e⟩:=q0b e;cases e;refine h Z σ H R ρ x _ _ S e1 λv H1 R1 S1 st1 r1=>h2 Z σ H1 R1 ρ1 xs _ _ S1 e2 λvs H2 R2 S2 st2 r2=>?_;exact k (v::vs) H2 R2 S2 (st1.trans st2) (.cons (r1.mono st2.r) r2)
def mTup(f:RhL):RhD:=q1q f λxs=>q2w (if xs.length<=sizeLine then some (.tup xs)else none)
theorem q47(h:MA K O tr fs):ME K O (tTup tr) (mTup fs):=λZ σ H R ρ d ρ' Q S e k=>by
 obtain⟨xs,ρ1,e1,e⟩:=q0b e;obtain⟨e2,rfl⟩:=q0k e;refine h Z σ H R ρ xs _ _ S e1 λvs H1 R1 S1 st1 r1=>?_;split at e2
 ·rename_i hz;cases e2;refine⟨by rw[r1.length];exact hz,λp np=>?_⟩;have x:=Ext.new (o:=.tup vs) S1.sub np;exact k _ _ _ (S1.ext x) (st1.trans x.stp) (.tup q0m (r1.mono x.r))
 ·cases e2
def mLst(f:RhL):RhL:=q1q f λxs=>q2w (if xs.length<=sizeLine then some xs else none)
theorem StR.out{σ:St}{H R:Hp}{ρ:Rho}{l:Addr}(S:StR K Z O σ H R ρ)(h:H l=none):R l=none:=by
 cases q:R l with
 |none=>rfl
 |some o=>rw[S.sub l o q]at h;cases h
theorem Stp.new{σ:St}{H R H' R':Hp}{l:Addr}(x:Stp O σ H R H' R')(h:H' l=none):H l=none:=by
 cases q:H l with
 |none=>rfl
 |some o=>exact absurd h (x.d l (by rw[q];exact λz=>nomatch z)).1
theorem q2v(h:MA K O tr fs):MN K O (tLst tr) (mLst fs):=λZ σ H R ρ ds ρ' Q S e k=>by
 obtain⟨xs,ρ1,e1,e⟩:=q0b e;obtain⟨e2,rfl⟩:=q0k e;refine h Z σ H R ρ xs _ _ S e1 λvs H1 R1 S1 st1 r1=>?_;split at e2
 ·rename_i hz;cases e2;refine⟨by rw[r1.length];exact hz,λp np=>?_⟩;have x:=Ext.hid (o:=.lst vs) S1.sub np;exact k p vs _ _ (S1.ext x) (st1.trans x.stp) (st1.new np) q0m (S1.out np) r1
 ·cases e2
def qi3(K:FrG)(r:List V->Hp->VK->Prop)(g:D->Option D):Prop:=∀(H:Hp) (x:V) (d u:D) (Q:VK),Rp K H x d->g d=some u->(∀v,Sc v u->Q v H)->r [x] H Q
def mOp1(g:D->Option D)(f:RhD):RhD:=q1q f λx=>q2w (g x)
theorem q1b{r:List V->Hp->VK->Prop}{g:D->Option D}(h:qi3 K r g)(ha:MB K O t fa):ME K O (tCB r (q2g t tNil)) (mOp1 g fa):=λZ σ H R ρ d ρ' Q S e k=>by obtain⟨x,ρ1,e1,e⟩:=q0b e;obtain⟨e2,rfl⟩:=q0k e;refine ha Z σ H R ρ x _ _ S e1 λv H1 R1 S1 st1 r1=>?_;exact h H1 v x d Q r1 e2 λw z=>k w H1 R1 S1 st1 z.rp
def dLen:D->Option D
 |.lst xs=>some (.int xs.length)
 |.tup xs=>some (.int xs.length)
 |_=>none
theorem q35:qi3 K (λxs H Q=>∃p ys,xs=[.ref p]/\(SqL K H p ys∨SqT K H p ys)/\Q (.int ys.length) H) dLen:=λH x d u Q r e k=>by
 (first|split at e|(unfold dLen at e;split at e))
 ·obtain⟨_,_,rfl,h,q⟩:=r.isL;cases e;refine⟨_,_,rfl,.inl h,?_⟩;rw[q.length];exact k _ (.int _)
 ·obtain⟨_,_,rfl,h,q⟩:=r.isT;cases e;refine⟨_,_,rfl,.inr (SqT.of h),?_⟩;rw[q.length];exact k _ (.int _)
 ·cases e
def dInt:D->Option D
 |.int i=>some (.int i)
 |.bl b=>some (.int (if b then 1 else 0))
 |_=>none
theorem qay:qi3 K (λxs H Q=>(∃i,xs=[.int i]/\Q (.int i) H)∨∃k,xs=[.bl k]/\Q (.int (if k then 1 else 0)) H) dInt:=λH x d u Q r e k=>by
 (first|split at e|(unfold dInt at e;split at e))
 ·rename_i i;obtain rfl:=r.isA rfl;cases e;exact .inl ⟨i,rfl,k _ (.int _)⟩
 ·rename_i b;obtain rfl:=r.isA rfl;cases e;exact .inr ⟨b,rfl,k _ (.int _)⟩
 ·cases e
def q4k:List D->Option (List Int)
 |[]=>some []
 |.int i::r=>(q4k r).map (i:: ·)
 |_=>none
def qj5:List D->Option (List Bool)
 |[]=>some []
 |.bl i::r=>(qj5 r).map (i:: ·)
 |_=>none
theorem q6i{R:Hp}:∀{xs:List V} {ds:List D} {ns:List Int},Rps K R xs ds->q4k ds=some ns->xs=ns.map V.int
 |_,_,ns,.nil,e=>by cases e;rfl
 | _,_,ns,.cons (d:=d) h r,e=>by
  cases h with
  | int i=>
   unfold q4k at e;cases q:q4k _ with
   |none=>rw[q]at e;cases e
   |some ms=>rw[q]at e;cases e;rw[q6i r q];rfl
  |_=>cases e
theorem q3n:∀ns:List Int,q4k (ns.map D.int)=some ns
 |[]=>rfl
 |n::ns=>by rw[xh,q4k,q3n ns];rfl
def dSum:D->Option D
 |.lst xs=>(q4k xs).map λns=>.int ns.sum
 |_=>none
theorem qf1:qi3 K (λxs H Q=>∃(p:Addr) (ns:List Int),xs=[.ref p]/\SqL K H p (ns.map V.int)/\Q (.int ns.sum) H) dSum:=λH x d u Q r e k=>by
 cases r with
 | lst h q=>
  rename_i ds;have e':(q4k ds).map (λns=>D.int ns.sum)=some u:=e;cases z:q4k ds with
  |none=>rw[z]at e';cases e'
  | some ns=>
   rw[z]at e';cases e';have ex:=q6i q z;subst ex;exact⟨_,ns,rfl,h,k _ (.int _)⟩
 |_=>cases e
end
def ItOk(K:FrG)(J:It)(R:Hp)(ds:List D):Prop:=∀(H' R':Hp),Same R R'->(∀a o,R' a=some o->H' a=some o)->∀i:Nat,(i=ds.length->J.stop i H')/\∀d,ds[i]? =some d->J.go i H'/\∀x H'',J.yld i H' x H''->∃R'',Ext H' R' H'' R''/\Rp K R'' x d
theorem ItOk.mono{K:FrG}{J:It}{R R1:Hp}{ds:List D}(h:ItOk K J R ds)(s:Same R R1):ItOk K J R1 ds:=λH' R' s' b=>h H' R' (s.trans s') b
def MI(K:FrG)(O:List Nat)(wi:TI)(f:RhL):Prop:=∀(Z:Anc) (σ:St) (H R:Hp) (ρ:Rho) (ds:List D) (ρ':Rho) (Q:It->Hp->Prop),StR K Z O σ H R ρ->f ρ=some (ds,ρ')->(∀J H' R',StR K Z O σ H' R' ρ'->Stp O σ H R H' R'->ItOk K J R' ds->Q J H')->wi σ H Q
def iSeq(K:FrG)(tl:TE):TI:=λσ H R=>qkt K tl σ H R∨iTup K tl σ H R
theorem q24{X:Cx}{K:FrG}{tg l:Expr}{tl:TE}(h:X.K=K)(hl:PE X l tl):PI X tg l (iSeq K tl):=λz6 s σ H R I q=>by
 rcases q with q|q
 ·exact qga h hl z6 s σ H R I q
 ·exact qjr h hl z6 s σ H R I q
def mSeq(f:RhD):RhL:=q1q f λd=>q2w (match d with
 |.lst xs=>some xs
 |.tup xs=>some xs
 |_=>none)
section
variable{K:FrG}{O:List Nat}{t:TE}{tr:TA}{fa:RhD}{fs:RhL}
theorem qkq{R:Hp}{a:Addr}{xs:List V}{ds:List D}(h:SqL K R a xs)(r:Rps K R xs ds):ItOk K (Itl K a) R ds:=λH' R' s b i=>by have q:SqL K H' a xs:=Same.sqL b (Same.sqL s h);refine⟨λe=>⟨xs,q,by rw[r.length];omega⟩,λd e=>?_⟩;obtain⟨v,h1,h2⟩:=r.get e;refine⟨⟨xs,v,q,h1⟩,λx H'' y=>?_⟩;obtain⟨rfl,y⟩:=y;have ex:=y xs q;rw[h1]at ex;cases ex;exact⟨R',Ext.refl b,h2.mono s⟩
theorem qph{R:Hp}{a:Addr}{xs:List V}{ds:List D}(h:SqT K R a xs)(r:Rps K R xs ds):ItOk K (Itt K a) R ds:=λH' R' s b i=>by have q:SqT K H' a xs:=Same.tup b (Same.tup s h);refine⟨λe=>⟨xs,q,by rw[r.length];omega⟩,λd e=>?_⟩;obtain⟨v,h1,h2⟩:=r.get e;refine⟨⟨xs,v,q,h1⟩,λx H'' y=>?_⟩;obtain⟨rfl,y⟩:=y;have ex:=y xs q;rw[h1]at ex;cases ex;exact⟨R',Ext.refl b,h2.mono s⟩
theorem q34(h:ME K O t fa):MI K O (iSeq K t) (mSeq fa):=λZ σ H R ρ ds ρ' Q S e k=>by
 obtain⟨d,ρ1,e1,e⟩:=q0b e;obtain⟨e2,rfl⟩:=q0k e;cases d with
 | lst xs=>
  cases e2;refine .inl (h Z σ H R ρ _ _ _ S e1 λv H1 R1 S1 st1 r1=>?_);obtain⟨_,_,rfl,q,r⟩:=r1.isL;exact⟨_,rfl,⟨_,Same.sqL S1.same q⟩,k _ H1 R1 S1 st1 (qkq q r)⟩
 | tup xs=>
  cases e2;refine .inr (h Z σ H R ρ _ _ _ S e1 λv H1 R1 S1 st1 r1=>?_);obtain⟨_,_,rfl,q,r⟩:=r1.isT;exact⟨_,rfl,⟨_,SqT.of (S1.same _ _ q)⟩,k _ H1 R1 S1 st1 (qph (SqT.of q) r)⟩
 |_=>cases e2
def q17(lo:Int)(n:Nat):List D:=(List.range n).map λ(k:Nat)=>D.int (lo+(k:Int))
theorem qgx{R:Hp}(lo:Int)(n:Nat):ItOk K (Itr lo n) R (q17 lo n):=λH' R' s b i=>by
 have len:(q17 lo n).length=n:=by simp[q17]
 refine⟨λe=>by show n<=i;omega,λd e=>?_⟩;have hi:i<n:=by have:=(List.getElem?_eq_some_iff.mp e).1;omega
 have ed:d=D.int (lo+(i:Int)):=by unfold q17 at e;rw[jk,xr hi]at e;exact(jh e).symm
 subst ed;refine⟨hi,λx H'' y=>?_⟩;obtain⟨rfl,rfl⟩:=y;exact⟨R',Ext.refl b,.int _⟩
def big(j:Int):Bool:=decide (-(2^62)<=j)&&decide (j<2^62)
def q2k(f:RhL):RhL:=q1q f λds=>q2w (match ds with
 |[.int j]=>if big j=true then some (q17 0 j.toNat)else none
 |_=>none)
theorem q1u(h:MA K O tr fs):MI K O (qbx tr) (q2k fs):=λZ σ H R ρ ds ρ' Q S e k=>by
 obtain⟨xs,ρ1,e1,e⟩:=q0b e;obtain⟨e2,rfl⟩:=q0k e;split at e2
 ·rename_i j;split at e2
  ·rename_i hb;cases e2;refine h Z σ H R ρ _ _ _ S e1 λvs H1 R1 S1 st1 r1=>?_;obtain⟨_,_,rfl,q,r⟩:=r1.isC
   (first|obtain rfl:=r.isA rfl|cases r)
   (first|obtain rfl:=q.isA rfl|cases q)
   unfold big at hb;rw[Bool.and_eq_true]at hb;exact⟨j,rfl,of_decide_eq_true hb.1,of_decide_eq_true hb.2,k _ H1 R1 S1 st1 (qgx 0 _)⟩
  ·cases e2
 ·cases e2
end
def MG(K:FrG)(O T:List Nat)(g:TG)(f:RhG):Prop:=∀(Z:Anc) (σ:St) (H R:Hp) (ρ:Rho) (x:V) (d:D) (ρ':Rho) (Q:St->Hp->Prop),StR K Z O σ H R ρ->Rp K R x d->f d ρ=some ρ'->(∀σ',StR K Z O σ' H R ρ'->(∀j,j∉T->σ'[j]? =σ[j]?)->Q σ' H)->g x σ H Q
def MGs(K:FrG)(O T:List Nat)(g:TGs)(f:List D->Rho->Option Rho):Prop:=∀(Z:Anc) (σ:St) (H R:Hp) (ρ:Rho) (xs:List V) (ds:List D) (ρ':Rho) (Q:St->Hp->Prop),StR K Z O σ H R ρ->Rps K R xs ds->f ds ρ=some ρ'->(∀σ',StR K Z O σ' H R ρ'->(∀j,j∉T->σ'[j]? =σ[j]?)->Q σ' H)->g xs σ H Q
def gSet(i:Nat):RhG:=λd ρ=>some (ρ.set i (some d))
def q2y:List D->Rho->Option Rho:=λds ρ=>match ds with
 |[]=>some ρ
 |_=>none
def q11(f:RhG)(g:List D->Rho->Option Rho):List D->Rho->Option Rho:=λds ρ=>match ds with
 | d::r=>match f d ρ with
  |some ρ1=>g r ρ1
  |none=>none
 |[]=>none
def q2p(n:Nat)(f:List D->Rho->Option Rho):RhG:=λd ρ=>match d with
 |.tup ds=>if ds.length=n then f ds ρ else none
 |_=>none
section
variable{K:FrG}{O T T':List Nat}{g:TG}{gs:TGs}{f:RhG}{fs:List D->Rho->Option Rho}
theorem q0u{i:Nat}(hi:i∉O:=by decide):MG K O [i] (q37 i) (gSet i):=λZ σ H R ρ x d ρ' Q S r e k=>by cases e;exact k _ (S.set hi r) λj hj=>ji (λ(z:i=j)=>hj (by rw[z];exact List.mem_singleton_self j))
theorem q3x:MGs K O [] gNil q2y:=λZ σ H R ρ xs ds ρ' Q S r e k=>by
 cases r with
 |nil=>cases e;exact⟨rfl,k σ S λ_ _=>rfl⟩
 |cons _ _=>cases e
theorem q1t(h:MG K O T g f)(h2:MGs K O T' gs fs):MGs K O (T++T') (qh4 g gs) (q11 f fs):=λZ σ H R ρ xs ds ρ' Q S r e k=>by
 cases r with
 |nil=>cases e
 | cons q r=>
  rename_i x xs d ds;unfold q11 at e;cases e1:f d ρ with
  |none=>simp only[e1]at e;cases e
  | some ρ1=>
   simp only[e1]at e;refine⟨x,xs,rfl,h Z σ H R ρ x d ρ1 _ S q e1 λσ1 S1 n1=>h2 Z σ1 H R ρ1 xs ds ρ' _ S1 r e λσ2 S2 n2=>?_⟩;refine k σ2 S2 λj hj=>?_;rw[List.mem_append,not_or]at hj;rw[n2 j hj.2,n1 j hj.1]
theorem q5c{n:Nat}(h:MGs K O T gs fs):MG K O T (gTup K n gs) (q2p n fs):=λZ σ H R ρ x d ρ' Q S r e k=>by
 cases r with
 | tup q rs=>
  unfold q2p at e;simp only at e;split at e
  ·rename_i hn;exact⟨_,_,rfl,SqT.of (S.same _ _ q),by rw[rs.length];exact hn,h Z σ H R ρ _ _ ρ' Q S rs e k⟩
  ·cases e
 |_=>cases e
end
def q50(n:Nat)(js:List Nat)(ρ:Rho):Rho:=List.replicate n none++js.map λj=>(ρ[j]?).join
def bwO:Option (Nat×Nat)->List Nat
 |none=>[]
 |some p=>[p.2]
def q4n(bw:Option (Nat×Nat))(ρ ρb:Rho):Rho:=match bw with
 |none=>ρ
 | some p=>match ρb[p.2]? with
  |some x=>ρ.set p.1 x
  |none=>ρ
def bwOk(n:Nat)(js O:List Nat)(bw:Option (Nat×Nat)):Bool:=match bw with
 |none=>js.all λj=>!O.contains j
 |some p=>O.contains p.1&&decide (n<=p.2)&&decide (js[p.2-n]? =some p.1)&&(List.range js.length).all λk=>decide (n+k=p.2)|| !O.contains (js.getD k 0)
def q0z(n:Nat)(js:List Nat)(bw:Option (Nat×Nat))(fg:RhG)(ft:RhB)(fe:RhD):List D->RhL
 |[],ρ=>some ([],ρ)
 | d::r,ρ=>match fg d (q50 n js ρ)with
  |none=>none
  | some ρ1=>match ft ρ1 with
   |none=>none
   |some (false,ρ2)=>q0z n js bw fg ft fe r (q4n bw ρ ρ2)
   | some (true,ρ2)=>match fe ρ2 with
    |none=>none
    | some (y,ρ3)=>match q0z n js bw fg ft fe r (q4n bw ρ ρ3)with
     |none=>none
     |some (ys,ρ4)=>some (y::ys,ρ4)
section
variable{K:FrG}{Z Z':Anc}{O:List Nat}{σ σ4:St}{H R H6 R6:Hp}{ρ ρ3:Rho}{n:Nat}{js:List Nat}{bw:Option (Nat×Nat)}
theorem qf5:(q50 n js ρ).length=n+js.length:=by simp[q50]
theorem qf6{i:Nat}{d:D}(e:(q50 n js ρ)[i]? =some (some d)):n<=i/\∃j,js[i-n]? =some j/\ρ[j]? =some (some d):=by
 unfold q50 at e;by_cases h:i<n
 ·rw[kj (by simpa using h),kc,if_pos h]at e;cases e
 ·refine⟨by omega,?_⟩;rw[xx (by simp;omega),jx,jk]at e;cases q:js[i-n]? with
  |none=>rw[q]at e;cases e
  | some j=>
   rw[q]at e;refine⟨j,rfl,?_⟩;have e':(ρ[j]?).join=some d:=jh e;cases z:ρ[j]? with
   |none=>rw[z]at e';cases e'
   |some o=>rw[z]at e';have:o=some d:=e';rw[this]
theorem qhh{i j:Nat}(h:n<=i)(e:js[i-n]? =some j){d:D}(q:ρ[j]? =some (some d)):(q50 n js ρ)[i]? =some (some d):=by unfold q50;rw[xx (by simp;omega),jx,jk,e];show some ((ρ[j]?).join)=_;rw[q];rfl
theorem q7x{i j:Nat}(h:n<=i)(e:js[i-n]? =some j){v:V}(q:σ[j]? =some (some v)):(caps n js σ)[i]? =some (some v):=by unfold caps;rw[xx (by simp;omega),jx,jk,e];show some ((σ[j]?).join)=_;rw[q];rfl
def bwL(bw:Option (Nat×Nat))(σ:St):Addr->Prop:=match bw with
 |none=>λ_=>False
 |some p=>λl=>σ[p.1]? =some (some (.ref l))
theorem StR.block(S:StR K Z O σ H R ρ)(hb:bwOk n js O bw=true):StR K ⟨H,R,bwL bw σ,bwO bw⟩ (bwO bw) (caps n js σ) H R (q50 n js ρ):=by
 have noO:∀i j,n<=i->js[i-n]? =some j->i∉bwO bw->j∉O:=λi j hi hj hn hO=>by
  cases bw with
  | none=>
   unfold bwOk at hb;have z:=List.all_eq_true.mp hb j (xq hj);simp at z;exact z hO
  | some p=>
   unfold bwOk at hb;simp only[Bool.and_eq_true]at hb;have hk:i-n<js.length:=(List.getElem?_eq_some_iff.mp hj).1;have z:=List.all_eq_true.mp hb.2 (i-n) (List.mem_range.mpr hk);have ej:js.getD (i-n) 0=j:=by rw[xw,hj];rfl
   rw[ej]at z;simp only[Bool.or_eq_true,decide_eq_true_eq]at z;rcases z with z|z
   ·exact hn (by show i∈[p.2];rw[List.mem_singleton];omega)
   ·simp at z;exact z hO
 have inO:∀p,bw=some p->p.1∈O/\n<=p.2/\js[p.2-n]? =some p.1:=λp e=>by subst e;unfold bwOk at hb;simp only[Bool.and_eq_true,decide_eq_true_eq]at hb;exact⟨by simpa using hb.1.1.1,hb.1.1.2,hb.1.2⟩
 have only:∀i,i∈bwO bw->∃p,bw=some p/\i=p.2:=λi hi=>by
  cases bw with
  |none=>exact absurd hi (by simp[bwO])
  |some p=>exact⟨p,rfl,by simpa[bwO]using hi⟩
 refine⟨S.sub,by rw[qf5,q7w],λi d hi e=>?_,λi hi=>?_,λi j hi hj hn=>?_,λa o e _=>e,Same.refl _,λa h=>.inl h,λa h=>.refl h,λi hi hp=>absurd hi hp,λi hi _ l e=>?_⟩
 ·obtain⟨h1,j,h2,h3⟩:=qf6 e;obtain⟨v,q1,q2⟩:=S.env j d (noO i j h1 h2 hi) h3;exact⟨v,q7x h1 h2 q1,q2⟩
 ·obtain⟨p,rfl,rfl⟩:=only i hi;obtain⟨h1,h2,h3⟩:=inO p rfl;obtain⟨l,vs,ds,q1,q2,q3⟩:=S.own p.1 h1;exact⟨l,vs,ds,qhh h2 h3 q1,q7x h2 h3 q2,q3⟩
 ·obtain⟨p,rfl,rfl⟩:=only i hi;obtain⟨p',e,rfl⟩:=only j hj;cases e;exact absurd rfl hn
 ·obtain⟨p,rfl,rfl⟩:=only i hi;obtain⟨h1,h2,h3⟩:=inO p rfl;obtain⟨l',vs,ds,q1,q2,q3⟩:=S.own p.1 h1;rw[q7x h2 h3 q2]at e;cases e;exact q2
theorem StR.back(S:StR K Z O σ H R ρ)(hb:bwOk n js O bw=true)(Sb:StR K Z' (bwO bw) σ4 H6 R6 ρ3)(st:Stp (bwO bw) σ4 H R H6 R6)(hσ:∀p,bw=some p->σ4[p.2]? =σ[p.1]?):
 StR K Z O σ H6 R6 (q4n bw ρ ρ3)/\Stp O σ H R H6 R6:=by
 have inO:∀p,bw=some p->p.1∈O:=λp e=>by subst e;unfold bwOk at hb;simp only[Bool.and_eq_true,decide_eq_true_eq]at hb;simpa using hb.1.1.1
 have only:∀i,i∈bwO bw->∃p,bw=some p/\i=p.2:=λi hi=>by
  cases bw with
  |none=>exact absurd hi (by simp[bwO])
  |some p=>exact⟨p,rfl,by simpa[bwO]using hi⟩
 have st':Stp O σ H R H6 R6:=⟨st.r,λa o e n=>st.h a o e λi hi z=>by obtain⟨p,e1,rfl⟩:=only i hi;rw[hσ p e1]at z;exact n p.1 (inO p e1) z,st.n,st.d⟩
 have keepH0:∀a o,Z.H0 a=some o->¬Z.L a->H6 a=some o:=λa o e n=>by
  refine st'.h a o (S.ah a o e n) λi hi z=>?_;by_cases hp:i∈Z.P
  ·exact n (S.ap i hi hp a z)
  ·rw[S.ao i hi hp a z]at e;cases e
 have len:(q4n bw ρ ρ3).length=ρ.length:=by
  unfold q4n;cases bw with
  |none=>rfl
  | some p=>
   dsimp only;split
   ·rw[xg]
   ·rfl
 have other:∀i,(∀p,bw=some p->p.1≠i)->(q4n bw ρ ρ3)[i]? =ρ[i]? :=λi h=>by
  unfold q4n;cases bw with
  |none=>rfl
  | some p=>
   dsimp only;split
   ·rw[ji (h p rfl)]
   ·rfl
 refine⟨⟨Sb.sub,by rw[len];exact S.len,λi d hi e=>?_,λi hi=>?_,S.dis,keepH0,S.ar.trans st.r,λa h=>?_,λa h=>(S.ad a h).trans (st.d a (S.ad a h).1),S.ao,S.ap⟩,st'⟩
 ·rw[other i λp e1 z=>hi (z▸inO p e1)]at e;obtain⟨v,h1,h2⟩:=S.env i d hi e;exact⟨v,h1,h2.mono st.r⟩
 ·by_cases hp:∃p,bw=some p/\p.1=i
  ·obtain⟨p,rfl,rfl⟩:=hp;obtain⟨l,vs,ds,q1,q2,q3,q4,q5⟩:=Sb.own p.2 (by simp[bwO]);rw[hσ p rfl]at q2;obtain⟨_,_,_,g1,_⟩:=S.own p.1 hi;have z9:p.1<ρ.length:=(List.getElem?_eq_some_iff.mp g1).1;refine⟨l,vs,ds,?_,q2,q3,q4,q5⟩;unfold q4n;dsimp only;rw[q1];exact jv z9
  ·have hne:∀p,bw=some p->p.1≠i:=λp e z=>hp ⟨p,e,z⟩;obtain⟨l,vs,ds,q1,q2,q3,q4,q5⟩:=S.own i hi;have nob:∀j,j∈bwO bw->σ4[j]? ≠some (some (.ref l)):=λj hj z=>by
    obtain⟨p,e1,rfl⟩:=only j hj;rw[hσ p e1]at z;exact S.dis p.1 i (inO p e1) hi (hne p e1) l z q2
   refine⟨l,vs,ds,by rw[other i hne];exact q1,q2,st.h l _ q3 nob,?_,q5.mono st.r⟩;cases q:R6 l with
   |none=>rfl
   | some o=>
    rcases st.n l (by rw[q];exact λz=>nomatch z)with z|z
    ·exact absurd q4 z
    ·exact(q5.noF q3 z).elim
 ·rcases st.n a h with z|z
  ·exact S.an a z
  ·exact .inr (z.back (S.ad a))
end
theorem qc2{K:FrG}{Z:Anc}{O T:List Nat}{σ:St}{H R:Hp}{ρ ρ':Rho}{n:Nat}{js:List Nat}{bw:Option (Nat×Nat)}{g:TG}{tt:TT}{te:TE}{fg:RhG}{ft:RhB}{fe:RhD}{J:It}{ds ys:List D}{Fin:List V->Hp->Prop}
 (hb:bwOk n js O bw=true) (hg:MG K (bwO bw) T g fg) (hT:∀p,bw=some p->p.2∉T) (ht:MT K (bwO bw) tt ft) (he:ME K (bwO bw) te fe) (S:StR K Z O σ H R ρ) (ok:ItOk K J R ds) (e:q0z n js bw fg ft fe ds ρ=some (ys,ρ')) (hz:ds.length<=sizeLine)
 (fin:∀vs H' R',StR K Z O σ H' R' ρ'->Stp O σ H R H' R'->Rps K R' vs ys->vs.length<=sizeLine->Fin vs H'):cGo g tt te (caps n js σ) Fin J H:=by
 refine⟨λi m vs H2=>m=ds.length-i/\i<=ds.length/\vs.length<=i/\∃R2 ρ2 ys1 ys2,StR K Z O σ H2 R2 ρ2/\Stp O σ H R H2 R2/\Rps K R2 vs ys1/\q0z n js bw fg ft fe (ds.drop i) ρ2=some (ys2,ρ')/\ys1++ys2=ys,
  ⟨ds.length,by simp,Nat.zero_le _,Nat.zero_le _,R,ρ,[],ys,S,Stp.refl _ _ _ _,.nil,by rw[List.drop_zero];exact e,rfl⟩,?_⟩
 rintro i m vs H2 ⟨rfl,hi,hv,R2,ρ2,ys1,ys2,S2,st2,r2,e2,ey⟩;obtain⟨o1,o2⟩:=ok H2 R2 st2.r S2.sub i;by_cases hlt:i<ds.length
 ·obtain⟨g1,g2⟩:=o2 ds[i] (jt hlt);rw[ki hlt]at e2;refine .inr ⟨g1,by omega,λvs' H'=>∃R' ρ2 ys1 ys2,vs'.length<=i+1/\StR K Z O σ H' R' ρ2/\Stp O σ H R H' R'/\Rps K R' vs' ys1/\q0z n js bw fg ft fe (ds.drop (i+1)) ρ2=some (ys2,ρ')/\ys1++ys2=ys,?_,λx H3 y=>?_⟩
  ·rintro vs' H' ⟨R',ρ3,zs1,zs2,q0,q1,q2,q3,q4,q5⟩;exact⟨ds.length-(i+1),by omega,rfl,hlt,q0,R',ρ3,zs1,zs2,q1,q2,q3,q4,q5⟩
  ·obtain⟨R3,x3,r3⟩:=g2 x H3 y;have S3:=S2.ext x3;have B3:=S3.block hb;unfold q0z at e2;cases e3:fg ds[i] (q50 n js ρ2)with
   |none=>rw[e3]at e2;cases e2
   | some ρb1=>
    rw[e3]at e2;dsimp only at e2;refine hg _ _ _ _ _ x _ ρb1 _ B3 r3 e3 λσ4 S4 n4=>?_;have cap:∀p,bw=some p->σ4[p.2]? =σ[p.1]? :=λp e1=>by rw[n4 p.2 (hT p e1)];subst e1;unfold bwOk at hb;simp only[Bool.and_eq_true,decide_eq_true_eq]at hb;obtain⟨l,_,_,_,q2,_⟩:=S3.own p.1 (by simpa using hb.1.1.1);rw[q7x hb.1.1.2 hb.1.2 q2,q2]
    cases e4:ft ρb1 with
    |none=>rw[e4]at e2;cases e2
    | some c=>
     obtain⟨b,ρb2⟩:=c;rw[e4]at e2;refine ht _ σ4 H3 R3 ρb1 b ρb2 _ S4 e4 λH5 R5 S5 st5=>?_;cases b with
     | false=>
      dsimp only at e2;obtain⟨T1,T2⟩:=S3.back hb S5 st5 cap;exact iteF ⟨R5,_,ys1,ys2,by omega,T1,(st2.trans x3.stp).trans T2,(r2.mono x3.r).mono st5.r,e2,ey⟩
     | true=>
      dsimp only at e2;cases e5:fe ρb2 with
      |none=>rw[e5]at e2;cases e2
      | some c=>
       obtain⟨y0,ρb3⟩:=c;rw[e5]at e2;dsimp only at e2;cases e6:q0z n js bw fg ft fe (ds.drop (i+1)) (q4n bw ρ2 ρb3)with
       |none=>rw[e6]at e2;cases e2
       | some c=>
        obtain⟨zs,ρ6⟩:=c;rw[e6]at e2;dsimp only at e2;cases e2;refine iteT (he _ σ4 H5 R5 ρb2 y0 ρb3 _ S5 e5 λw H6 R6 S6 st6 r6=>?_);obtain⟨T1,T2⟩:=S3.back hb S6 (st5.trans st6) cap;refine⟨R6,_,ys1++[y0],zs,by rw[jy];show vs.length+1<=i+1;omega,T1,(st2.trans x3.stp).trans T2,(((r2.mono x3.r).mono st5.r).mono st6.r).snoc r6,e6,?_⟩;rw[<-ey,List.append_assoc];rfl
 ·have ei:i=ds.length:=by omega
  subst ei;rw[List.drop_length]at e2;unfold q0z at e2;cases e2;rw[List.append_nil]at ey;subst ey;exact .inl ⟨o1 rfl,by omega,fin vs H2 R2 S2 st2 r2 (by omega)⟩
def q1n(n:Nat)(js:List Nat)(bw:Option (Nat×Nat))(fi:RhL)(fg:RhG)(ft:RhB)(fe:RhD):RhL:=q1q fi λds ρ=>if ds.length<=sizeLine then q0z n js bw fg ft fe ds ρ else none
theorem q33{K:FrG}{O:List Nat}:MT K O tYes (mRet true):=λZ σ H R ρ b ρ' Q S e k=>by cases e;exact k H R S (Stp.refl _ _ _ _)
theorem q1p{K:FrG}{O T:List Nat}{n:Nat}{js:List Nat}{bw:Option (Nat×Nat)}{wi:TI}{g:TG}{tt:TT}{te:TE}{fi:RhL}{fg:RhG}{ft:RhB}{fe:RhD}
 (hi:MI K O wi fi) (hg:MG K (bwO bw) T g fg) (ht:MT K (bwO bw) tt ft) (he:ME K (bwO bw) te fe) (hb:bwOk n js O bw=true:=by decide) (hT:∀p,bw=some p->p.2∉T:=by decide):MN K O (qfx n js wi g tt te) (q1n n js bw fi fg ft fe):=λZ σ H R ρ ds ρ' Q S e k=>by
 obtain⟨xs,ρ1,e1,e⟩:=q0b e;split at e
 ·rename_i hz;refine hi Z σ H R ρ xs ρ1 _ S e1 λJ H1 R1 S1 st1 ok=>?_;refine qc2 hb hg hT ht he S1 ok e hz λvs H2 R2 S2 st2 r2 l2 D nD=>?_;have x:=Ext.hid (o:=.lst vs) S2.sub nD;exact k D vs _ _ (S2.ext x) ((st1.trans st2).trans x.stp) ((st1.trans st2).new nD) q0m (S2.out nD) r2
 ·cases e
inductive Out where
 |nx (ρ:Rho)
 |rt (d:D) (ρ:Rho)
 |bk (ρ:Rho)
 |ct (ρ:Rho)
abbrev RhO:=Rho->Option Out
structure MC where
 K:PySem.W.Frag
 fr:Bool
 P:List Nat
 Ol:List Nat
def Res(K:FrG)(fr:Bool)(H:Hp)(v:V)(d:D)(H' R':Hp):Prop:=match fr with
 |false=>Rp K R' v d
 |true=>∃l vs ds,v=.ref l/\d=.lst ds/\H l=none/\H' l=some (.lst vs)/\R' l=none/\Rps K R' vs ds
def Ends.ok(c:MC)(Z:Anc)(O':List Nat)(R:Hp)(E:Ends):Out->Prop
 |.nx ρ'=>∀σ' H' R',StR c.K Z O' σ' H' R' ρ'->Same R R'->E.nx σ' H'
 |.bk ρ'=>∀σ' H' R',StR c.K Z c.Ol σ' H' R' ρ'->Same R R'->E.bk σ' H'
 |.ct ρ'=>∀σ' H' R',StR c.K Z c.Ol σ' H' R' ρ'->Same R R'->E.ct σ' H'
 |.rt d ρ'=>∀v σ' H' R',StR c.K Z c.P σ' H' R' ρ'->Res c.K c.fr Z.H0 v d H' R'->E.rt v H'
def MS(c:MC)(O O':List Nat)(t:TS)(f:RhO):Prop:=∀(Z:Anc) (E:Ends) (σ:St) (H R:Hp) (ρ:Rho) (o:Out),Z.P=c.P->StR c.K Z O σ H R ρ->f ρ=some o->E.ok c Z O' R o->t E σ H
def subO(c:MC)(O O':List Nat):Bool:=O'.all (λi=>O.contains i)&&c.P.all λi=>!O.contains i||O'.contains i
section
variable{c:MC}{O O' O1:List Nat}{t u:TS}{te:TE}{tt:TT}{g:TG}{f h:RhO}{fe:RhD}{fn:RhL}{ft:RhB}{fg:RhG}
theorem StR.sub'{Z:Anc}{σ:St}{H R:Hp}{ρ:Rho}(S:StR c.K Z O σ H R ρ)(hP:Z.P=c.P)(hs:subO c O O'=true):StR c.K Z O' σ H (frzR O O' σ H R) ρ/\Same R (frzR O O' σ H R):=by
 unfold subO at hs;simp only[Bool.and_eq_true,List.all_eq_true]at hs;refine S.freeze (λi hi=>by simpa using hs.1 i hi) λi hi hO=>?_;rw[hP]at hi;have z:=hs.2 i hi;simp only[Bool.or_eq_true]at z;rcases z with z|z
 ·simp at z;exact absurd hO z
 ·simpa using z
def sNil:RhO:=λρ=>some (.nx ρ)
theorem q2e(hs:subO c O O'=true):MS c O O' q97 sNil:=λZ E σ H R ρ o hP S e k=>by cases e;obtain⟨S',s⟩:=S.sub' hP hs;exact k σ H _ S' s
def sSeq(f h:RhO):RhO:=λρ=>match f ρ with
 |none=>none
 |some (.nx ρ1)=>h ρ1
 |some o=>some o
theorem q0h(h1:MS c O O1 t f)(h2:MS c O1 O' u h):MS c O O' (tSeq t u) (sSeq f h):=λZ E σ H R ρ o hP S e k=>by
 unfold sSeq at e;cases e1:f ρ with
 |none=>rw[e1]at e;cases e
 | some o1=>
  rw[e1]at e;cases o1 with
  | nx ρ1=>
   refine h1 Z _ σ H R ρ _ hP S e1 λσ' H' R' S' s'=>?_;refine h2 Z E σ' H' R' ρ1 o hP S' e ?_;cases o with
   |nx ρ'=>exact λσ2 H2 R2 S2 s2=>k σ2 H2 R2 S2 (s'.trans s2)
   |bk ρ'=>exact λσ2 H2 R2 S2 s2=>k σ2 H2 R2 S2 (s'.trans s2)
   |ct ρ'=>exact λσ2 H2 R2 S2 s2=>k σ2 H2 R2 S2 (s'.trans s2)
   |rt d ρ'=>exact k
  |bk ρ1=>cases e;exact h1 Z _ σ H R ρ _ hP S e1 k
  |ct ρ1=>cases e;exact h1 Z _ σ H R ρ _ hP S e1 k
  |rt d ρ1=>cases e;exact h1 Z _ σ H R ρ _ hP S e1 k
def sSet(i:Nat)(fe:RhD):RhO:=λρ=>match fe ρ with
 |none=>none
 |some (d,ρ1)=>some (.nx (ρ1.set i (some d)))
theorem q19{i:Nat}(he:ME c.K O te fe)(hs:subO c O O'=true:=by rfl)(hi:i∉O':=by decide):MS c O O' (tAsg te (q37 i)) (sSet i fe):=λZ E σ H R ρ o hP S e k=>by
 unfold sSet at e;cases e1:fe ρ with
 |none=>rw[e1]at e;cases e
 | some p=>
  obtain⟨d,ρ1⟩:=p;rw[e1]at e;cases e;refine he Z σ H R ρ d ρ1 _ S e1 λv H1 R1 S1 st1 r1=>?_;obtain⟨S2,s2⟩:=S1.sub' hP hs;exact k _ H1 _ (S2.set hi (r1.mono s2)) (st1.r.trans s2)
def sOwn(i:Nat)(fn:RhL):RhO:=λρ=>match fn ρ with
 |none=>none
 |some (ds,ρ1)=>if i<ρ1.length then some (.nx (ρ1.set i (some (.lst ds))))else none
def ownO(c:MC)(i:Nat)(O O':List Nat):Bool:=subO c O (O'.filter λj=>decide (j≠i))&&O'.contains i&& !c.P.contains i
theorem q69{i:Nat}(he:MN c.K O te fn)(hs:ownO c i O O'=true):MS c O O' (tAsg te (q37 i)) (sOwn i fn):=λZ E σ H R ρ o hP S e k=>by
 unfold sOwn at e;unfold ownO at hs;simp only[Bool.and_eq_true]at hs;cases e1:fn ρ with
 |none=>rw[e1]at e;cases e
 | some p=>
  obtain⟨ds,ρ1⟩:=p;rw[e1]at e;dsimp only at e;split at e
  ·rename_i z9;cases e;refine he Z σ H R ρ ds ρ1 _ S e1 λl vs H1 R1 S1 st1 h0 hH hR r1=>?_;obtain⟨S2,s2⟩:=S1.sub' hP hs.1.1;have notown:∀j,j∈O->σ[j]? ≠some (some (.ref l)):=S.notnew h0;have hO':∀j,j∈O'.filter (λj=>decide (j≠i))->j∈O:=λj hj=>by
    have z:=hs.1.1;unfold subO at z;simp only[Bool.and_eq_true,List.all_eq_true]at z;simpa using z.1 j hj
   refine k _ H1 _ (S2.take (i:=i) (l:=l) (vs:=.lst vs) (ds:=.lst ds) (by simp) (by simpa using hs.1.2) (λj hj=>?_) (by rw[hP];simpa using hs.2) z9 (S.new0 h0) hH ?_ (λj hj=>notown j (hO' j hj)) (λj hj=>(List.mem_filter.mp hj).1) (.lst (r1.mono s2))) (st1.r.trans s2)
   ·by_cases z:j=i
    ·exact .inl z
    ·exact .inr (List.mem_filter.mpr ⟨hj,by simpa using z⟩)
   ·unfold frzR;rw[if_neg ?_]
    ·exact hR
    ·rintro⟨j,hj,_,z⟩;exact notown j hj z
  ·cases e
def sAsg(fe:RhD)(fg:RhG):RhO:=λρ=>match fe ρ with
 |none=>none
 | some (d,ρ1)=>match fg d ρ1 with
  |none=>none
  |some ρ2=>some (.nx ρ2)
theorem qov{T:List Nat}(he:ME c.K O te fe)(hs:subO c O O'=true)(hg:MG c.K O' T g fg):MS c O O' (tAsg te g) (sAsg fe fg):=λZ E σ H R ρ o hP S e k=>by
 unfold sAsg at e;cases e1:fe ρ with
 |none=>rw[e1]at e;cases e
 | some p=>
  obtain⟨d,ρ1⟩:=p;rw[e1]at e;dsimp only at e;cases e2:fg d ρ1 with
  |none=>rw[e2]at e;cases e
  | some ρ2=>
   rw[e2]at e;cases e;refine he Z σ H R ρ d ρ1 _ S e1 λv H1 R1 S1 st1 r1=>?_;obtain⟨S2,s2⟩:=S1.sub' hP hs;exact hg Z σ H1 _ ρ1 v d ρ2 _ S2 (r1.mono s2) e2 λσ' S3 _=>k σ' H1 _ S3 (st1.r.trans s2)
def sIf(ft:RhB)(f h:RhO):RhO:=λρ=>match ft ρ with
 |none=>none
 |some (b,ρ1)=>if b=true then f ρ1 else h ρ1
theorem q3g(ht:MT c.K O tt ft)(h1:MS c O O' t f)(h2:MS c O O' u h):MS c O O' (tIfS tt t u) (sIf ft f h):=λZ E σ H R ρ o hP S e k=>by
 unfold sIf at e;cases e1:ft ρ with
 |none=>rw[e1]at e;cases e
 | some p=>
  obtain⟨b,ρ1⟩:=p;rw[e1]at e;dsimp only at e;refine ht Z σ H R ρ b ρ1 _ S e1 λH1 R1 S1 st1=>?_;have k':E.ok c Z O' R1 o:=by
   cases o with
   |nx ρ'=>exact λσ2 H2 R2 S2 s2=>k σ2 H2 R2 S2 (st1.r.trans s2)
   |bk ρ'=>exact λσ2 H2 R2 S2 s2=>k σ2 H2 R2 S2 (st1.r.trans s2)
   |ct ρ'=>exact λσ2 H2 R2 S2 s2=>k σ2 H2 R2 S2 (st1.r.trans s2)
   |rt d ρ'=>exact k
  cases b with
  |true=>exact iteT (h1 Z E σ H1 R1 ρ1 o hP S1 e k')
  |false=>exact iteF (h2 Z E σ H1 R1 ρ1 o hP S1 e k')
def sRet(fe:RhD):RhO:=λρ=>match fe ρ with
 |none=>none
 |some (d,ρ1)=>some (.rt d ρ1)
theorem q13(hf:c.fr=false)(he:ME c.K O te fe)(hs:subO c O c.P=true):MS c O O' (tRet te) (sRet fe):=λZ E σ H R ρ o hP S e k=>by
 unfold sRet at e;cases e1:fe ρ with
 |none=>rw[e1]at e;cases e
 | some p=>
  obtain⟨d,ρ1⟩:=p;rw[e1]at e;cases e;refine he Z σ H R ρ d ρ1 _ S e1 λv H1 R1 S1 st1 r1=>?_;obtain⟨S2,s2⟩:=S1.sub' hP hs;refine k v σ H1 _ S2 ?_;unfold Res;rw[hf];exact r1.mono s2
def q7k(fn:RhL):RhO:=λρ=>match fn ρ with
 |none=>none
 |some (ds,ρ1)=>some (.rt (.lst ds) ρ1)
theorem q7p(hf:c.fr=true)(he:MN c.K O te fn)(hs:subO c O c.P=true):MS c O O' (tRet te) (q7k fn):=λZ E σ H R ρ o hP S e k=>by
 unfold q7k at e;cases e1:fn ρ with
 |none=>rw[e1]at e;cases e
 | some p=>
  obtain⟨ds,ρ1⟩:=p;rw[e1]at e;cases e;refine he Z σ H R ρ ds ρ1 _ S e1 λl vs H1 R1 S1 st1 h0 hH hR r1=>?_;obtain⟨S2,s2⟩:=S1.sub' hP hs;refine k _ σ H1 _ S2 ?_;unfold Res;rw[hf];refine⟨l,vs,ds,rfl,rfl,S.new0 h0,hH,?_,r1.mono s2⟩;unfold frzR;rw[if_neg ?_]
  ·exact hR
  ·rintro⟨j,hj,_,z⟩;exact S.notnew h0 j hj z
theorem StR.drop{K:FrG}{Z:Anc}{σ:St}{H R:Hp}{ρ:Rho}{i:Nat}(S:StR K Z O σ H R ρ)(hO:∀j,j∈O'->j∈O/\j≠i)(hc:∀j,j∈O->j≠i->j∈O'):StR K Z O' σ H R (ρ.set i none):=by
 refine⟨S.sub,by rw[xg];exact S.len,λj d hj e=>?_,λj hj=>?_,λj k hj hk=>S.dis j k (hO j hj).1 (hO k hk).1,S.ah,S.ar,S.an,S.ad,λj hj=>S.ao j (hO j hj).1,λj hj=>S.ap j (hO j hj).1⟩
 ·by_cases z:i=j
  ·subst z;have hl:i<ρ.length:=by
    have:=(List.getElem?_eq_some_iff.mp e).1
    rwa [xg]at this
   rw[jv hl]at e;cases e
  ·rw[ji z]at e;exact S.env j d (λq=>hj (hc j q (Ne.symm z))) e
 ·obtain⟨l,vs,ds,h1,h2⟩:=S.own j (hO j hj).1;exact⟨l,vs,ds,by rw[ji (Ne.symm (hO j hj).2)];exact h1,h2⟩
def q89(i:Nat):RhO:=λρ=>match ρ[i]? with
 |some (some (.lst xs))=>some (.rt (.lst xs) (ρ.set i none))
 |_=>none
theorem q9o{i:Nat}(hf:c.fr=true)(hi:i∈O)(hs:subO c O (i::c.P)=true)(hp:i∉c.P):MS c O O' (tRet (tVar i)) (q89 i):=λZ E σ H R ρ o hP S e k=>by
 obtain⟨S2,s2⟩:=S.sub' hP hs;obtain⟨l,vs,ds,h1,h2,h3,h4,h5⟩:=S2.own i jj;unfold q89 at e;rw[h1]at e;have hd:∃xs,ds=.lst xs:=by
  cases h5 with
  |lst _=>exact⟨_,rfl⟩
  |_=>cases e
 obtain⟨xs,rfl⟩:=hd;cases e;refine⟨.ref l,h2,k _ σ H _ (S2.drop (i:=i) (O':=c.P) (λj hj=>⟨jg _ hj,λz=>hp (z▸hj)⟩) λj hj n=>?_) ?_⟩
 ·rcases List.mem_cons.mp hj with z|z
  ·exact absurd z n
  ·exact z
 ·unfold Res;rw[hf];cases h5 with
  |lst h5=>exact⟨l,_,_,rfl,rfl,S2.ao i jj (by rw[hP];exact hp) l h2,h3,h4,h5⟩
def q27(fg:RhG)(fb:RhO):List D->RhO
 |[],ρ=>some (.nx ρ)
 | d::r,ρ=>match fg d ρ with
  |none=>none
  | some ρ1=>match fb ρ1 with
   |none=>none
   |some (.nx ρ2)=>q27 fg fb r ρ2
   |some (.ct ρ2)=>q27 fg fb r ρ2
   |some (.bk ρ2)=>some (.nx ρ2)
   |some (.rt d ρ2)=>some (.rt d ρ2)
def sFor(fi:RhL)(fg:RhG)(fb:RhO):RhO:=λρ=>match fi ρ with
 |none=>none
 |some (ds,ρ1)=>q27 fg fb ds ρ1
theorem q3s{T:List Nat}{wi:TI}{fi:RhL}{tb:TS}{fb:RhO}(hi:MI c.K O wi fi)(hs:subO c O O'=true)(hg:MG c.K O' T g fg)(hb:MS {c with Ol:=O'} O' O' tb fb):MS c O O' (tFor wi g tb) (sFor fi fg fb):=λZ E σ H R ρ o hP S e k=>by
 unfold sFor at e;cases e1:fi ρ with
 |none=>rw[e1]at e;cases e
 | some p=>
  obtain⟨ds,ρ1⟩:=p;rw[e1]at e;dsimp only at e;refine hi Z σ H R ρ ds ρ1 _ S e1 λJ H1 R1 S1 st1 ok=>?_;obtain⟨S2,s2⟩:=S1.sub' hP hs;have ok2:=ok.mono s2;refine⟨λi m σ' H'=>m=ds.length-i/\i<=ds.length/\∃R' ρ',StR c.K Z O' σ' H' R' ρ'/\Same (frzR O O' σ H1 R1) R'/\q27 fg fb (ds.drop i) ρ'=some o,⟨ds.length,by simp,Nat.zero_le _,_,ρ1,S2,Same.refl _,by rw[List.drop_zero];exact e⟩,?_⟩;rintro i m σ' H' ⟨rfl,hi',R',ρ',S',s',e'⟩;obtain⟨o1,o2⟩:=ok2 H' R' s' S'.sub i;by_cases hlt:i<ds.length
  ·obtain⟨g1,g2⟩:=o2 ds[i] (jt hlt);rw[ki hlt]at e';refine .inr ⟨g1,λσ3 H3=>∃R3 ρ3,StR c.K Z O' σ3 H3 R3 ρ3/\Same (frzR O O' σ H1 R1) R3/\q27 fg fb (ds.drop (i+1)) ρ3=some o,?_,λx H3 y=>?_⟩
   ·rintro σ3 H3 ⟨R3,ρ3,q1,q2,q3⟩;exact⟨ds.length-(i+1),by omega,rfl,hlt,R3,ρ3,q1,q2,q3⟩
   ·obtain⟨R3,x3,r3⟩:=g2 x H3 y;have S3:=S'.ext x3;unfold q27 at e';cases e3:fg ds[i] ρ' with
    |none=>rw[e3]at e';cases e'
    | some ρ4=>
     rw[e3]at e';dsimp only at e';refine hg Z σ' H3 R3 ρ' x _ ρ4 _ S3 r3 e3 λσ4 S4 _=>?_;cases e4:fb ρ4 with
     |none=>rw[e4]at e';cases e'
     | some o4=>
           rw[e4]at e';refine hb Z _ σ4 H3 R3 ρ4 o4 hP S4 e4 ?_;cases o4 with
           |nx ρ5=>exact λσ5 H5 R5 S5 s5=>⟨R5,ρ5,S5,(s'.trans x3.r).trans s5,e'⟩
           |ct ρ5=>exact λσ5 H5 R5 S5 s5=>⟨R5,ρ5,S5,(s'.trans x3.r).trans s5,e'⟩
           | bk ρ5=>
            cases e';exact λσ5 H5 R5 S5 s5=>k σ5 H5 R5 S5 (((st1.r.trans s2).trans s').trans (x3.r.trans s5))
           | rt d ρ5=>
            cases e';exact k
  ·have ei:i=ds.length:=by omega
   subst ei;rw[List.drop_length]at e';unfold q27 at e';cases e';exact .inl ⟨o1 rfl,k σ' H' R' S' ((st1.r.trans s2).trans s')⟩
def q2r(ft:RhB)(fb:RhO):Nat->RhO
 |0,_=>none
 | n+1,ρ=>match ft ρ with
  |none=>none
  |some (false,ρ1)=>some (.nx ρ1)
  | some (true,ρ1)=>match fb ρ1 with
   |none=>none
   |some (.nx ρ2)=>q2r ft fb n ρ2
   |some (.ct ρ2)=>q2r ft fb n ρ2
   |some (.bk ρ2)=>some (.nx ρ2)
   |some (.rt d ρ2)=>some (.rt d ρ2)
theorem qgq{n:Nat}{tb:TS}{fb:RhO}(ht:MT c.K O' tt ft)(hs:subO c O O'=true)(hb:MS {c with Ol:=O'} O' O' tb fb):MS c O O' (qi5 tt tb) (q2r ft fb n):=λZ E σ H R ρ o hP S e k=>by
 obtain⟨S2,s2⟩:=S.sub' hP hs;refine⟨λm σ' H'=>∃R' ρ',StR c.K Z O' σ' H' R' ρ'/\Same (frzR O O' σ H R) R'/\q2r ft fb m ρ'=some o,⟨n,_,ρ,S2,Same.refl _,e⟩,?_⟩;rintro m σ' H' ⟨R',ρ',S',s',e'⟩;cases m with
 |zero=>cases e'
 | succ m=>
  unfold q2r at e';cases e1:ft ρ' with
  |none=>rw[e1]at e';cases e'
  | some p=>
   obtain⟨b,ρ1⟩:=p;rw[e1]at e';refine ht Z σ' H' R' ρ' b ρ1 _ S' e1 λH1 R1 S1 st1=>?_;cases b with
   | false=>
    dsimp only at e';cases e';exact iteF (k σ' H1 R1 S1 ((s2.trans s').trans st1.r))
   | true=>
    dsimp only at e';refine iteT ⟨λσ3 H3=>∃R3 ρ3,StR c.K Z O' σ3 H3 R3 ρ3/\Same (frzR O O' σ H R) R3/\q2r ft fb m ρ3=some o,λσ3 H3 q=>⟨m,Nat.lt_succ_self _,q⟩,?_⟩;cases e4:fb ρ1 with
    |none=>rw[e4]at e';cases e'
    | some o4=>
     rw[e4]at e';refine hb Z _ σ' H1 R1 ρ1 o4 hP S1 e4 ?_;cases o4 with
     |nx ρ5=>exact λσ5 H5 R5 S5 s5=>⟨R5,ρ5,S5,(s'.trans st1.r).trans s5,e'⟩
     |ct ρ5=>exact λσ5 H5 R5 S5 s5=>⟨R5,ρ5,S5,(s'.trans st1.r).trans s5,e'⟩
     | bk ρ5=>
           cases e';exact λσ5 H5 R5 S5 s5=>k σ5 H5 R5 S5 ((s2.trans s').trans (st1.r.trans s5))
     | rt d ρ5=>
           cases e';exact k
end
section
variable{c:MC}{O O':List Nat}{te ti:TE}{fe fi:RhD}{tr:TA}{fs:RhL}
def isL(ρ:Rho)(i:Nat):Bool:=match ρ[i]? with
 |some (some (.lst _))=>true
 |_=>false
theorem qiz{K:FrG}{R:Hp}{ρ:Rho}{i:Nat}{o:HO}{d:D}(h:isL ρ i=true)(e:ρ[i]? =some (some d))(b:Ob K R o d):∃vs ds,o=.lst vs/\d=.lst ds/\Rps K R vs ds:=by
 unfold isL at h;rw[e]at h;cases b with
 |lst r=>exact⟨_,_,rfl,rfl,r⟩
 |_=>cases h
def sMut(g:List D->List D->Option (List D))(i:Nat)(fs:RhL):RhO:=λρ=>if isL ρ i=true then(match fs ρ with
 |none=>none
 | some (as,ρ1)=>match ρ1[i]? with
  | some (some (.lst xs))=>match g xs as with
   |some ys=>some (.nx (ρ1.set i (some (.lst ys))))
   |none=>none
  |_=>none)else none
def qqh(K:FrG)(r:V->List V->Hp->VK->Prop)(g:List D->List D->Option (List D)):Prop:=∀(H R:Hp) (l:Addr) (xs:List V) (ds:List D) (vs:List V) (as bs:List D) (Q:VK),(∀a o,R a=some o->H a=some o)->H l=some (.lst xs)->R l=none->Rps K R xs ds->Rps K R vs as->g ds as=some bs->(∀ys,Rps K R ys bs->Q .non (upd H l (.lst ys)))->r (.ref l) vs H Q
theorem qam{r:V->List V->Hp->VK->Prop}{g:List D->List D->Option (List D)}{i:Nat}(hm:qqh c.K r g)(hi:i∈O)(ha:MA c.K O tr fs)(hs:subO c O O'=true):MS c O O' (q4d (tBM c.K "list" r (tVar i) tr)) (sMut g i fs):=λZ E σ H R ρ o hP S e k=>by
 unfold sMut at e;split at e
 case isFalse=>cases e
 rename_i hL;cases e1:fs ρ with
 |none=>rw[e1]at e;cases e
 | some p=>
  obtain⟨as,ρ1⟩:=p;rw[e1]at e;dsimp only at e;obtain⟨l,vs,ds,h1,h2,h3,h4,h5⟩:=S.own i hi;obtain⟨us,_,rfl,rfl,_⟩:=qiz hL h1 h5;refine⟨.ref l,h2,.inl ⟨rfl,us,SqL.of h3⟩,ha Z σ H R ρ as ρ1 _ S e1 λws H1 R1 S1 st1 r1=>?_⟩;obtain⟨l',vs',ds',g1,g2,g3,g4,g5⟩:=S1.own i hi;rw[h2]at g2;cases g2;rw[g1]at e;cases g5 with
  |dct _=>cases e
  |dit _=>cases e
  |lst g5=>
  rename_i vs' ds';dsimp only at e;cases e2:g ds' as with
  |none=>rw[e2]at e;cases e
  | some ys=>
   rw[e2]at e;cases e;refine hm H1 R1 l vs' ds' ws as ys _ S1.sub g3 g4 g5 r1 e2 λzs rz=>?_;obtain⟨S2,s2⟩:=(S1.write hi h2 (.lst rz)).sub' hP hs;exact k σ _ _ S2 (st1.r.trans s2)
def q2q:List D->List D->Option (List D):=λxs as=>match as with
 |[d]=>if xs.length<sizeLine then some (xs++[d])else none
 |_=>none
theorem q4u{K:FrG}:qqh K q39 q2q:=λH R l xs ds vs as bs Q s h hr r ra e k=>by
 cases ra with
 |nil=>cases e
 | cons q t=>
  cases t with
  |cons _ _=>cases e
  | nil=>
   rename_i x d;have e':(if ds.length<sizeLine then some (ds++[d])else none)=some bs:=e;split at e'
   ·rename_i hz;cases e';exact⟨l,xs,x,rfl,rfl,h,by rw[r.length];exact hz,k _ (r.snoc q)⟩
   ·cases e'
end
def runP(fr:Bool)(n N:Nat)(f:RhO)(ds:List D):Option D:=if ds.length=n then match f (ds.map some++List.replicate (N-n) none)with
 |some (.rt d _)=>some d
 |some (.nx _)=>if fr=true then none else some .non
 |_=>none
 else none
def spP(K:FrG)(fr:Bool)(n:Nat)(f:List D->Option D):Sp:=λvs H Q _=>vs.length=n/\∃R ds d,(∀a o,R a=some o->H a=some o)/\Rps K R vs ds/\f ds=some d/\∀v H' R',Ext H R H' R'->Res K fr H v d H' R'->Q v H'
theorem q5u{N:List Str}{vs:List V}{i:Nat}{v:V}(h:vs[i]? =some v):(start N vs)[i]? =some (some v):=by unfold start;have hi:i<vs.length:=(List.getElem?_eq_some_iff.mp h).1;rw[kj (by simpa using hi),jk,h];rfl
theorem q5v{ds:List D}{m i:Nat}{d:D}(h:(ds.map some++List.replicate m none)[i]? =some (some d)):ds[i]? =some d:=by
 by_cases hi:i<ds.length
 ·rw[kj (by simpa using hi),jk]at h;cases q:ds[i]? with
  |none=>rw[q]at h;cases h
  |some e=>rw[q]at h;cases h;rfl
 ·rw[xx (by simpa using hi),kc]at h;split at h<;>cases h
theorem q0t{K:FrG}{fr:Bool}{n:Nat}{Nms:List Str}{O':List Nat}{t:TS}{f:RhO}{vs:List V}{H:Hp}{Q:VK}{E:XK}(hm:MS ⟨K,fr,[],[]⟩ [] O' t f)(h:spP K fr n (runP fr n Nms.length f) vs H Q E):t {nx:=λ_ H'=>Q .non H',rt:=Q} (start Nms vs) H:=by
 obtain⟨hn,R,ds,d,sub,r,e,k⟩:=h;unfold runP at e;split at e
 ·rename_i hl;have S:StR K ⟨H,R,λ_=>False,[]⟩ [] (start Nms vs) H R (ds.map some++List.replicate (Nms.length-n) none):=by
   refine⟨sub,?_,λi d _ q=>?_,λi hi=>absurd hi (by simp),λi j hi=>absurd hi (by simp),λa o q _=>q,Same.refl _,λa q=>.inl q,λa q=>.refl q,λi hi=>absurd hi (by simp),λi hi=>absurd hi (by simp)⟩
   ·unfold start;rw[jy,jy,jb,jb,jx,jx,hn,hl]
   ·obtain⟨v,h1,h2⟩:=r.get (q5v q);exact⟨v,q5u h1,h2⟩
  have ext:∀{O1:List Nat} {σ':St} {H' R':Hp} {ρ':Rho},StR K ⟨H,R,λ_=>False,[]⟩ O1 σ' H' R' ρ'->Ext H R H' R':=λS'=>⟨λa o q=>S'.ah a o q (λz=>z),S'.ar,S'.sub,S'.an⟩;cases e1:f (ds.map some++List.replicate (Nms.length-n) none)with
  |none=>rw[e1]at e;cases e
  | some o=>
   rw[e1]at e;refine hm _ _ _ _ _ _ o rfl S e1 ?_;cases o with
   | nx ρ'=>
    dsimp only at e;split at e
    ·cases e
    ·rename_i hf;cases e;refine λσ' H' R' S' _=>k .non H' R' (ext S') ?_;cases fr with
     |false=>exact .non
     |true=>exact absurd rfl hf
   |bk ρ'=>cases e
   |ct ρ'=>cases e
   | rt d' ρ'=>
    cases e;exact λv σ' H' R' S' q=>k v H' R' (ext S') q
 ·cases e
structure ExtS(l:Addr)(H R H' R':Hp):Prop where
 h:∀a o,a≠l->H a=some o->H' a=some o
 r:Same R R'
 s:∀a o,R' a=some o->H' a=some o
 n:∀a,R' a≠none->R a≠none∨Frh H a
 d:∀a,H a≠none->Liv H H' a
section
variable{K:FrG}{O:List Nat}{tr:TA}{fs:RhL}{E:XK}{n:Nat}
def q0l(f:List D->Option D)(fs:RhL):RhD:=q1q fs λds=>q2w (f ds)
def q1f(n:Nat)(f:List D->Option D):Prop:=∀ds d,f ds=some d->ds.length=n
theorem q1a{fr:Bool}{n N:Nat}{f:RhO}:q1f n (runP fr n N f):=λds d e=>by
 unfold runP at e;split at e
 ·assumption
 ·cases e
theorem q0o{f:List D->Option D}(hf:q1f n f)(h:MA K O tr fs):ME K O (q53 (spP K false n f) [] E tr) (q0l f fs):=λZ σ H R ρ d ρ' Q S e k=>by obtain⟨ds,ρ1,e1,e⟩:=q0b e;obtain⟨e2,rfl⟩:=q0k e;refine h Z σ H R ρ ds _ _ S e1 λvs H1 R1 S1 st1 r1=>?_;show spP K false n f (vs++[]) H1 Q E;rw[List.append_nil];exact⟨by rw[r1.length];exact hf ds d e2,R1,ds,d,S1.sub,r1,e2,λv H2 R2 x q=>k v H2 R2 (S1.ext x) (st1.trans x.stp) q⟩
def qee(o:Option D):Option (List D):=match o with
 |some (.lst ds)=>some ds
 |_=>none
def q2b(f:List D->Option D)(fs:RhL):RhL:=q1q fs λds=>q2w (qee (f ds))
theorem q75{o:Option D}{ds:List D}(h:qee o=some ds):o=some (.lst ds):=by
 unfold qee at h;split at h
 ·cases h;rfl
 ·(first|obtain rfl:=h.isA rfl|cases h)
theorem q2s{f:List D->Option D}(hf:q1f n f)(h:MA K O tr fs):MN K O (q53 (spP K true n f) [] E tr) (q2b f fs):=λZ σ H R ρ d ρ' Q S e k=>by obtain⟨ds,ρ1,e1,e⟩:=q0b e;obtain⟨e2,rfl⟩:=q0k e;have e3:=q75 e2;refine h Z σ H R ρ ds _ _ S e1 λvs H1 R1 S1 st1 r1=>?_;show spP K true n f (vs++[]) H1 Q E;rw[List.append_nil];refine⟨by rw[r1.length];exact hf ds _ e3,R1,ds,_,S1.sub,r1,e3,λv H2 R2 x q=>?_⟩;obtain⟨l,us,gs,rfl,e4,h0,hH,hR,r⟩:=q;cases e4;exact k l us H2 R2 (S1.ext x) (st1.trans x.stp) (st1.new h0) hH hR r
end
def qn6(K:FrG):R2:=λx y H Q=>∃l b xs zs,x=.ref l/\y=.ref b/\SqL K H l xs/\SqL K H b zs/\xs.length+zs.length<=sizeLine/\∀p,H p=none->Q (.ref p) (upd H p (.lst (xs++zs)))
def qn5(K:FrG):R2:=λx y H Q=>∃a b xs ys,x=.ref a/\y=.ref b/\SqT K H a xs/\SqT K H b ys/\xs.length+ys.length<=sizeLine/\
 (xs=[]->Q (.ref b) H)/\(xs≠[]->ys=[]->Q (.ref a) H)/\(xs≠[]->ys≠[]->∀p,H p=none->Q (.ref p) (upd H p (.tup (xs++ys))))
section
variable{X:Cx}{K:FrG}
theorem qk2(hK:X.K=K):OpR X (binaryOp .Add) (qn6 K):=by
 subst hK;intro z6 s σ H x y v u Q I rx ry h;obtain⟨l,b,xs,zs,rfl,rfl,hH,hB,hz,q⟩:=h
 (first|obtain rfl:=rx.isA rfl|cases rx)
 (first|obtain rfl:=ry.isA rfl|cases ry)
 obtain⟨its,r,pl,z⟩:=I.list hH;obtain⟨its2,r2,pl2,z2⟩:=I.list hB;obtain⟨⟨cls,dd,data,sl⟩,ho,hc,n,hd⟩:=pl.isList;obtain⟨⟨cls2,dd2,data2,sl2⟩,ho2,hc2,n2,hd2⟩:=pl2.isList;simp only at hc hd hc2 hd2;subst hc hd hc2 hd2;have e:its.toArray++its2.toArray=(its++its2).toArray:=by simp
 refine concat_meets ⟨_,ho,rfl⟩ ⟨_,ho2,rfl⟩ noFill_list_add seq_list_add PySem.F.slot_list_add PySem.F.entry_list_add (PySem.F.args_list_add_2 _ _) (list_addW l b its.toArray its2.toArray n n2 dd dd2 sl sl2 (by rw[x9,x9,<-r.length,<-r2.length];exact hz)) ⟨ho,ho2,?_⟩;rw[e];exact⟨.ref _,_,I.lnew (t':=s.toks) (r.append r2) (by rw[jy];omega),rfl,q _ I.fresh⟩
theorem qk1(hK:X.K=K):OpR X (binaryOp .Add) (qn5 K):=by
 subst hK;intro z6 s σ H x y v u Q I rx ry h;obtain⟨a,b,xs,ys,rfl,rfl,ha,hb,hz,q0,q1,q2⟩:=h
 (first|obtain rfl:=rx.isA rfl|cases rx)
 (first|obtain rfl:=ry.isA rfl|cases ry)
 obtain⟨its,r1,p1,_⟩:=I.tuple ha;obtain⟨its2,r2,p2,_⟩:=I.tuple hb;obtain⟨⟨cls,dd,data,sl⟩,ho,hc,n,hd⟩:=id p1;obtain⟨⟨cls2,dd2,data2,sl2⟩,ho2,hc2,n2,hd2⟩:=id p2;simp only at hc hd hc2 hd2;subst hc hd hc2 hd2;have e:its.toArray++its2.toArray=(its++its2).toArray:=by simp
 by_cases hv:its=[]
 ·exact concat_meets ⟨_,ho,rfl⟩ ⟨_,ho2,rfl⟩ noFill_tuple_add seq_tuple_add PySem.F.slot_tuple_add PySem.F.entry_tuple_add (PySem.F.args_tuple_add_2 _ _)
   (tuple_addW0 a b its.toArray its2.toArray n n2 dd dd2 sl sl2 (by simp[hv])) ⟨ho,ho2,⟨.ref b,H,I,rfl,q0 (r1.nil_iff.mp hv)⟩⟩
 ·have hx:xs≠[]:=λz=>hv (r1.nil_iff.mpr z);by_cases hw:its2=[]
  ·exact concat_meets ⟨_,ho,rfl⟩ ⟨_,ho2,rfl⟩ noFill_tuple_add seq_tuple_add PySem.F.slot_tuple_add PySem.F.entry_tuple_add (PySem.F.args_tuple_add_2 _ _)
    (tuple_addW1 a b its.toArray its2.toArray n n2 dd dd2 sl sl2 (by simpa using hv) (by simp[hw])) ⟨ho,ho2,⟨.ref a,H,I,rfl,q1 hx (r2.nil_iff.mp hw)⟩⟩
  ·refine concat_meets ⟨_,ho,rfl⟩ ⟨_,ho2,rfl⟩ noFill_tuple_add seq_tuple_add PySem.F.slot_tuple_add PySem.F.entry_tuple_add (PySem.F.args_tuple_add_2 _ _)
    (tuple_addW2 a b its.toArray its2.toArray n n2 dd dd2 sl sl2 (by simpa using hv) (by simpa using hw) (by rw[List.size_toArray,List.size_toArray,<-r1.length,<-r2.length];exact hz)) ⟨ho,ho2,?_⟩
   rw[e];refine⟨.ref s.heap.objs.size,_,I.laid (t':=s.toks) (o:=.tup (xs++ys)) (λb ob q=>je _ q) (jf _) ?_,rfl,q2 hx (λw=>hw (r2.nil_iff.mpr w)) _ (I.hok.fresh (jf _))⟩;exact⟨by rw[jy];exact hz,_,r1.append r2,TupN.new _ _⟩
def qjn(K:FrG):R2:=λx y H Q=>rI0 (λi j=>.int (i+j)) x y H Q∨qn6 K x y H Q∨qn5 K x y H Q∨∃i j,x=.str i/\y=.str j/\i.length+j.length<=sizeLine/\Q (.str (i++j)) H
theorem q1x(hK:X.K=K):OpR X (binaryOp .Add) (qjn K):=op_add.or ((qk2 hK).or ((qk1 hK).or qbr))
end
section
variable{K:FrG}{O:List Nat}
def dAdd:D->D->Option D
 |.int i,.int j=>some (.int (i+j))
 |.lst xs,.lst ys=>if xs.length+ys.length<=sizeLine then some (.lst (xs++ys))else none
 |.tup xs,.tup ys=>if xs.length+ys.length<=sizeLine then some (.tup (xs++ys))else none
 |.str x,.str y=>if x.length+y.length<=sizeLine then some (.str (x++y))else none
 |_,_=>none
theorem q2m:OpG K (qjn K) dAdd:=λH R x y d e u Q s rx ry q k=>by
 unfold dAdd at q;split at q
 ·rename_i i j
  (first|obtain rfl:=q.isA rfl|cases q)
  (first|obtain rfl:=rx.isA rfl|cases rx)
  (first|obtain rfl:=ry.isA rfl|cases ry)
  exact .inl ⟨i,j,rfl,rfl,k _ H R (Ext.refl s) (.int _)⟩
 ·split at q
  ·rename_i hz
   (first|obtain rfl:=q.isA rfl|cases q)
   obtain⟨a1,xs,rfl,h,r⟩:=rx.isL;obtain⟨a2,ys,rfl,h2,r2⟩:=ry.isL;refine .inr (.inl ⟨_,_,_,_,rfl,rfl,Same.sqL s h,Same.sqL s h2,by rw[r.length,r2.length];exact hz,λp np=>?_⟩);have x:=Ext.new (o:=.lst (xs++ys)) s np;exact k _ _ _ x (.lst (SqL.of q0m) ((r.append r2).mono x.r))
  ·(first|obtain rfl:=q.isA rfl|cases q)
 ·split at q
  ·rename_i hz
   (first|obtain rfl:=q.isA rfl|cases q)
   obtain⟨a1,xs,rfl,h,r⟩:=rx.isT;obtain⟨a2,ys,rfl,h2,r2⟩:=ry.isT;refine .inr (.inr (.inl ⟨_,_,_,_,rfl,rfl,SqT.of (s _ _ h),SqT.of (s _ _ h2),by rw[r.length,r2.length];exact hz,λz=>?_,λ_ z=>?_,λ_ _ p np=>?_⟩))
   ·subst z
    (first|obtain rfl:=r.isA rfl|cases r)
    exact k _ H R (Ext.refl s) (.tup h2 r2)
   ·subst z
    (first|obtain rfl:=r2.isA rfl|cases r2)
    rw[List.append_nil]at k;exact k _ H R (Ext.refl s) (.tup h r)
   ·have x:=Ext.new (o:=.tup (xs++ys)) s np;exact k _ _ _ x (.tup q0m ((r.append r2).mono x.r))
  ·(first|obtain rfl:=q.isA rfl|cases q)
 ·rename_i i j;split at q
  ·rename_i hz
   (first|obtain rfl:=q.isA rfl|cases q)
   (first|obtain rfl:=rx.isA rfl|cases rx)
   (first|obtain rfl:=ry.isA rfl|cases ry)
   exact .inr (.inr (.inr ⟨i,j,rfl,rfl,hz,k _ H R (Ext.refl s) (.str _)⟩))
  ·(first|obtain rfl:=q.isA rfl|cases q)
 ·(first|obtain rfl:=q.isA rfl|cases q)
def OpN(K:FrG)(r:R2)(g:D->D->Option (List D)):Prop:=∀(H R:Hp) (x y:V) (d e:D) (us:List D) (Q:VK),(∀a o,R a=some o->H a=some o)->Rp K R x d->Rp K R y e->g d e=some us->(∀l vs,H l=none->Rps K R vs us->Q (.ref l) (upd H l (.lst vs)))->r x y H Q
def qgv(g:D->D->Option (List D))(fa fb:RhD):RhL:=q1q fa λx=>q1q fb λy=>q2w (g x y)
theorem qrx{ta tb:TE}{r:R2}{g:D->D->Option (List D)}{fa fb:RhD}(h:OpN K r g)(ha:ME K O ta fa)(hb:ME K O tb fb):MN K O (tOp r ta tb) (qgv g fa fb):=λZ σ H R ρ d ρ' Q S e k=>by obtain⟨x,ρ1,e1,e⟩:=q0b e;obtain⟨y,ρ2,e2,e⟩:=q0b e;obtain⟨e3,rfl⟩:=q0k e;refine ha Z σ H R ρ x ρ1 _ S e1 λv H1 R1 S1 st1 r1=>hb Z σ H1 R1 ρ1 y _ _ S1 e2 λw H2 R2 S2 st2 r2=>?_;refine h H2 R2 v w x y d Q S2.sub (r1.mono st2.r) r2 e3 λl vs hl rv=>?_;have x:=Ext.hid (o:=.lst vs) S2.sub hl;exact k l vs _ _ (S2.ext x) ((st1.trans st2).trans x.stp) ((st1.trans st2).new hl) q0m (S2.out hl) rv
def qhf:D->D->Option (List D)
 |.lst xs,.lst ys=>if xs.length+ys.length<=sizeLine then some (xs++ys)else none
 |_,_=>none
theorem qni:OpN K (qjn K) qhf:=λH R x y d e u Q s rx ry q k=>by
 unfold qhf at q;split at q
 ·split at q
  ·rename_i hz
   (first|obtain rfl:=q.isA rfl|cases q)
   obtain⟨_,_,rfl,h,r⟩:=rx.isL;obtain⟨_,_,rfl,h2,r2⟩:=ry.isL;exact .inr (.inl ⟨_,_,_,_,rfl,rfl,Same.sqL s h,Same.sqL s h2,by rw[r.length,r2.length];exact hz,λp np=>k p _ np (r.append r2)⟩)
  ·(first|obtain rfl:=q.isA rfl|cases q)
 ·(first|obtain rfl:=q.isA rfl|cases q)
end
mutual
def D.toP:D->Option PyData
 |.non=>some .none
 |.bl b=>some (.bool b)
 |.int i=>some (.int i)
 |.str x=>some (.str x)
 |.lst xs=>(D.toPs xs).map PyData.list
 |.tup xs=>(D.toPs xs).map PyData.tuple
 |.obj _ _=>none
 |.dct _=>none
 |.exc _=>none
 |.fn _=>none
 |.dit _=>none
def D.toPs:List D->Option (List PyData)
 |[]=>some []
 | d::r=>match D.toP d,D.toPs r with
  |some p,some ps=>some (p::ps)
  |_,_=>none
end
section
variable{K:FrG}{O:List Nat}{R:Hp}
theorem qq7(p:PyData)(e:D.toP .non=some p):DV K R .non p:=by simp only[D.toP]at e;cases e;exact .non
theorem qs6(b:Bool)(p:PyData)(e:D.toP (.bl b)=some p):DV K R (.bl b) p:=by simp only[D.toP]at e;cases e;exact .bl b
theorem qq9(b:Int)(p:PyData)(e:D.toP (.int b)=some p):DV K R (.int b) p:=by simp only[D.toP]at e;cases e;exact .int b
theorem qq6(b:Str)(p:PyData)(e:D.toP (.str b)=some p):DV K R (.str b) p:=by simp only[D.toP]at e;cases e;exact .str b
theorem qq8{a:Addr}{xs:List V}{ds:List D}{p:PyData}(h:SqL K R a xs)(r:∀ps,D.toPs ds=some ps->DVs K R xs ps)(e:D.toP (.lst ds)=some p):DV K R (.ref a) p:=by
 simp only[D.toP]at e;cases z:D.toPs ds with
 |none=>rw[z]at e;cases e
 |some ps=>rw[z]at e;cases e;exact .lst h (r _ z)
theorem qq5{a:Addr}{xs:List V}{ds:List D}{p:PyData}(h:R a=some (.tup xs))(r:∀ps,D.toPs ds=some ps->DVs K R xs ps)(e:D.toP (.tup ds)=some p):DV K R (.ref a) p:=by
 simp only[D.toP]at e;cases z:D.toPs ds with
 |none=>rw[z]at e;cases e
 |some ps=>rw[z]at e;cases e;exact .tup (SqT.of h) (r _ z)
theorem qlg(ps:List PyData)(e:D.toPs []=some ps):DVs K R [] ps:=by simp only[D.toPs]at e;cases e;exact .nil
theorem qhe{x:V}{xs:List V}{d:D}{ds:List D}{ps:List PyData}(h:∀p,d.toP=some p->DV K R x p)(r:∀ps,D.toPs ds=some ps->DVs K R xs ps)(e:D.toPs (d::ds)=some ps):DVs K R (x::xs) ps:=by
 simp only[D.toPs]at e;cases z:d.toP with
 |none=>rw[z]at e;cases e
 | some p=>
  cases w:D.toPs ds with
  |none=>rw[z,w]at e;cases e
  |some qs=>rw[z,w]at e;cases e;exact .cons (h _ z) (r _ w)
theorem Rp.dv{v:V}{d:D}{p:PyData}(h:Rp K R v d)(e:d.toP=some p):DV K R v p:=
 Rp.rec (motive_1:=λv d _=>∀p,d.toP=some p->DV K R v p) (motive_2:=λxs ds _=>∀ps,D.toPs ds=some ps->DVs K R xs ps) (motive_3:=λ_ _ _=>True) (motive_4:=λ_ _ _=>True) (motive_5:=λ_ _ _=>True)
  qq7 qs6 qq9 qq6 (λh _ r _=>qq8 h r) (λh _ r _=>qq5 h r) (λ_ _ _ _ _ e=>by simp only[D.toP]at e;cases e) (λ_ _ _ _ e=>by simp only[D.toP]at e;cases e) (λ_ _ _ _ e=>by simp only[D.toP]at e;cases e) (λ_ _ _ _ e=>by simp only[D.toP]at e;cases e) (λ_ _ e=>by simp only[D.toP]at e;cases e)
  qlg (λ_ _ h r _=>qhe h r) trivial (λ_ _ _ _=>trivial) trivial (λ_ _ _ _=>trivial) trivial (λ_ _ _ _=>trivial) h _ e
def eqD(d e:D):Option Bool:=match d.toP,e.toP with
 |some p,some q=>if SeqAt.shaped p=true/\SeqAt.shaped q=true then some (PyData.eqv p q)else none
 |_,_=>none
def dEq(d e:D):Option D:=(eqD d e).map .bl
def dNe(d e:D):Option D:=(eqD d e).map λb=>.bl (!b)
theorem qav{d e:D}{b:Bool}(h:eqD d e=some b):∃p q,d.toP=some p/\e.toP=some q/\SeqAt.shaped p=true/\SeqAt.shaped q=true/\PyData.eqv p q=b:=by
 unfold eqD at h;cases h1:d.toP with
 |none=>rw[h1]at h;cases h
 | some p=>
  cases h2:e.toP with
  |none=>rw[h1,h2]at h;cases h
  | some q=>
   rw[h1,h2]at h;dsimp only at h;split at h
   ·rename_i z;exact⟨p,q,rfl,rfl,z.1,z.2,jh h⟩
   ·(first|obtain rfl:=h.isA rfl|cases h)
theorem os_eq:OpS K (rEqD K) dEq:=λH x y d e u Q rx ry q k=>by
 unfold dEq at q;cases h:eqD d e with
 |none=>rw[h]at q;cases q
 | some b=>
  rw[h]at q
  (first|obtain rfl:=q.isA rfl|cases q)
  obtain⟨p,r,h1,h2,h3,h4,h5⟩:=qav h;refine⟨p,r,rx.dv h1,ry.dv h2,h3,h4,?_⟩;rw[h5];exact k _ (.bl _)
theorem q6r:OpS K (rNeD K) dNe:=λH x y d e u Q rx ry q k=>by
 unfold dNe at q;cases h:eqD d e with
 |none=>rw[h]at q;cases q
 | some b=>
  rw[h]at q
  (first|obtain rfl:=q.isA rfl|cases q)
  obtain⟨p,r,h1,h2,h3,h4,h5⟩:=qav h;refine⟨p,r,rx.dv h1,ry.dv h2,h3,h4,?_⟩;rw[h5];exact k _ (.bl _)
def dIsN(d e:D):Option D:=match e with
 |.non=>some (.bl (match d with|.non=>true|_=>false))
 |_=>none
def q43(d e:D):Option D:=match e with
 |.non=>some (.bl (match d with|.non=>false|_=>true))
 |_=>none
theorem qid:OpS K (λx y H Q=>y=.non/\Q (.bl (decide (x=.non))) H) dIsN:=λH x y d e u Q rx ry q k=>by
 (first|split at q|(unfold dIsN at q;split at q))
 ·obtain rfl:=ry.isA rfl;refine⟨rfl,?_⟩;cases rx<;>(cases q;exact k _ (.bl _))
 ·cases q
theorem q9i:OpS K (λx y H Q=>y=.non/\Q (.bl (!decide (x=.non))) H) q43:=λH x y d e u Q rx ry q k=>by
 (first|split at q|(unfold q43 at q;split at q))
 ·obtain rfl:=ry.isA rfl;refine⟨rfl,?_⟩;cases rx<;>(cases q;exact k _ (.bl _))
 ·cases q
end
section
variable{K:FrG}{O:List Nat}{t ta tb tc:TE}{tr:TA}{fa fb fc:RhD}{fs:RhL}
def qqj(K:FrG)(r:List V->Hp->VK->Prop)(g:D->Option D):Prop:=∀(H R:Hp) (x:V) (d u:D) (Q:VK),(∀a o,R a=some o->H a=some o)->Rp K R x d->g d=some u->(∀v H' R',Ext H R H' R'->Rp K R' v u->Q v H')->r [x] H Q
theorem q4w{r:List V->Hp->VK->Prop}{g:D->Option D}(h:qqj K r g)(ha:ME K O t fa):ME K O (tCB r (q2g t tNil)) (mOp1 g fa):=λZ σ H R ρ d ρ' Q S e k=>by obtain⟨x,ρ1,e1,e⟩:=q0b e;obtain⟨e2,rfl⟩:=q0k e;refine ha Z σ H R ρ x _ _ S e1 λv H1 R1 S1 st1 r1=>?_;exact h H1 R1 v x d Q S1.sub r1 e2 λw H2 R2 x2 r2=>k w H2 R2 (S1.ext x2) (st1.trans x2.stp) r2
def qqi(K:FrG)(r:List V->Hp->VK->Prop)(g:D->Option (List D)):Prop:=∀(H R:Hp) (x:V) (d:D) (us:List D) (Q:VK),(∀a o,R a=some o->H a=some o)->Rp K R x d->g d=some us->(∀l vs,H l=none->Rps K R vs us->Q (.ref l) (upd H l (.lst vs)))->r [x] H Q
def qea(g:D->Option (List D))(f:RhD):RhL:=q1q f λx=>q2w (g x)
theorem qgr{r:List V->Hp->VK->Prop}{g:D->Option (List D)}(h:qqi K r g)(ha:ME K O t fa):MN K O (tCB r (q2g t tNil)) (qea g fa):=λZ σ H R ρ d ρ' Q S e k=>by obtain⟨x,ρ1,e1,e⟩:=q0b e;obtain⟨e2,rfl⟩:=q0k e;refine ha Z σ H R ρ x _ _ S e1 λv H1 R1 S1 st1 r1=>?_;refine h H1 R1 v x d Q S1.sub r1 e2 λl vs hl rv=>?_;have y:=Ext.hid (o:=.lst vs) S1.sub hl;exact k l vs _ _ (S1.ext y) (st1.trans y.stp) (st1.new hl) q0m (S1.out hl) rv
def dSeq:D->Option (List D)
 |.lst xs=>some xs
 |.tup xs=>some xs
 |_=>none
theorem qli:qqi K (λxs H Q=>∃p ys,xs=[.ref p]/\(SqL K H p ys∨SqT K H p ys)/\∀l,H l=none->Q (.ref l) (upd H l (.lst ys))) dSeq:=λH R x d us Q s r e k=>by
 (first|split at e|(unfold dSeq at e;split at e))
 ·obtain⟨_,_,rfl,h,q⟩:=r.isL;cases e;exact⟨_,_,rfl,.inl (Same.sqL s h),λl hl=>k l _ hl q⟩
 ·obtain⟨_,_,rfl,h,q⟩:=r.isT;cases e;exact⟨_,_,rfl,.inr (SqT.of (s _ _ h)),λl hl=>k l _ hl q⟩
 ·cases e
def q4a:D->Option D
 |.lst xs=>some (.tup xs)
 |.tup xs=>some (.tup xs)
 |_=>none
theorem q4z:qqj K (λxs H Q=>∃p ys,xs=[.ref p]/\((SqL K H p ys/\∀l,H l=none->Q (.ref l) (upd H l (.tup ys)))∨(SqT K H p ys/\Q (.ref p) H))) q4a:=λH R x d u Q s r e k=>by
 cases r with
 | lst h q=>
  cases e;refine⟨_,_,rfl,.inl ⟨Same.sqL s h,λl hl=>?_⟩⟩;rename_i a xs ds;have y:=Ext.new (o:=.tup xs) s hl;exact k _ _ _ y (.tup q0m (q.mono y.r))
 |tup h q=>cases e;exact⟨_,_,rfl,.inr ⟨SqT.of (s _ _ h),k _ H R (Ext.refl s) (.tup h q)⟩⟩
 |_=>cases e
def MO(K:FrG)(O:List Nat)(t:TO)(f:Rho->Option (Option Int×Rho)):Prop:=∀(Z:Anc) (σ:St) (H R:Hp) (ρ:Rho) (o:Option Int) (ρ':Rho) (Q:Option Int->Hp->Prop),StR K Z O σ H R ρ->f ρ=some (o,ρ')->(∀H' R',StR K Z O σ H' R' ρ'->Stp O σ H R H' R'->Q o H')->t σ H Q
theorem q9p:MO K O qcg (mRet none):=λZ σ H R ρ o ρ' Q S e k=>by cases e;exact k H R S (Stp.refl _ _ _ _)
def q58(f:RhD):Rho->Option (Option Int×Rho):=q1q f λd=>q2w (match d with
 |.int i=>some (some i)
 |_=>none)
theorem q4g(h:ME K O t fa):MO K O (qma t) (q58 fa):=λZ σ H R ρ o ρ' Q S e k=>by
 obtain⟨x,ρ1,e1,e⟩:=q0b e;obtain⟨e2,rfl⟩:=q0k e;refine h Z σ H R ρ x _ _ S e1 λv H1 R1 S1 st1 r1=>?_
 (first|split at e2)
 ·rename_i i;obtain rfl:=r1.isA rfl;cases e2;exact⟨i,rfl,k H1 R1 S1 st1⟩
 ·cases e2
def cutD(xs:List D)(lo hi:Option Int):List D:=(xs.drop (HT.sIx xs.length 0 lo)).take (HT.sIx xs.length xs.length hi-HT.sIx xs.length 0 lo)
theorem Rps.cut{R:Hp}{xs:List V}{ds:List D}(r:Rps K R xs ds)(lo hi:Option Int):Rps K R (cutV xs lo hi) (cutD ds lo hi):=by unfold cutV cutD;rw[r.length];exact(r.drop _).take _
def rSlG(K:FrG):V->Option Int->Option Int->Hp->VK->Prop:=λx lo hi H Q=>rSlL K x lo hi H Q∨rSlT K x lo hi H Q
theorem q5w{X:Cx}(h:X.K=K):SlR X (rSlG K):=by subst h;exact sl_list.or qmi
def dSl(d:D)(lo hi:Option Int):Option D:=match d with
 |.lst xs=>some (.lst (cutD xs lo hi))
 |.tup xs=>if HT.sIx xs.length 0 lo=0/\HT.sIx xs.length xs.length hi=xs.length then none else some (.tup (cutD xs lo hi))
 |_=>none
def mSl(f:RhD)(fl fh:Rho->Option (Option Int×Rho)):RhD:=q1q f λd=>q1q fl λlo=>q1q fh λhi=>q2w (dSl d lo hi)
theorem q4v{tl th:TO}{fl fh:Rho->Option (Option Int×Rho)}(h:ME K O t fa)(hl:MO K O tl fl)(hh:MO K O th fh):ME K O (tSl (rSlG K) t tl th) (mSl fa fl fh):=λZ σ H R ρ d ρ' Q S e k=>by
 obtain⟨x,ρ1,e1,e⟩:=q0b e;obtain⟨lo,ρ2,e2,e⟩:=q0b e;obtain⟨hi,ρ3,e3,e⟩:=q0b e;obtain⟨e4,rfl⟩:=q0k e;refine h Z σ H R ρ x _ _ S e1 λv H1 R1 S1 st1 r1=>hl Z σ H1 R1 ρ1 lo _ _ S1 e2 λH2 R2 S2 st2=>hh Z σ H2 R2 ρ2 hi _ _ S2 e3 λH3 R3 S3 st3=>?_;have r3:=(r1.mono st2.r).mono st3.r;have st:=(st1.trans st2).trans st3;cases r3 with
 | @lst a xs ds q r=>
  cases e4;refine .inl ⟨a,xs,rfl,Same.sqL S3.same q,λp np=>?_⟩;have y:=Ext.new (o:=.lst (cutV xs lo hi)) S3.sub np;exact k _ _ _ (S3.ext y) (st.trans y.stp) (.lst (SqL.of q0m) ((r.cut lo hi).mono y.r))
 | @tup a xs ds q r=>
  have e5:(if HT.sIx ds.length 0 lo=0/\HT.sIx ds.length ds.length hi=ds.length then none else some (D.tup (cutD ds lo hi)))=some d:=e4;split at e5
  ·cases e5
  ·rename_i hn;cases e5;refine .inr ⟨a,xs,rfl,SqT.of (S3.same _ _ q),by rw[r.length];exact hn,λp np=>?_⟩;have y:=Ext.new (o:=.tup (cutV xs lo hi)) S3.sub np;exact k _ _ _ (S3.ext y) (st.trans y.stp) (.tup q0m ((r.cut lo hi).mono y.r))
 |_=>cases e4
theorem q7o{g:Int->Int->Bool}:OpS K (rI0 λi j=>.bl (g i j)) (dB0 g):=λH x y d e u Q rx ry q k=>by
 unfold dB0 at q;split at q
 ·rename_i i j
  (first|obtain rfl:=q.isA rfl|cases q)
  (first|obtain rfl:=rx.isA rfl|cases rx)
  (first|obtain rfl:=ry.isA rfl|cases ry)
  exact⟨i,j,rfl,rfl,k _ (.bl _)⟩
 ·(first|obtain rfl:=q.isA rfl|cases q)
def qry(f:RhL):RhD:=q1q f λds=>q2w (match ds with
 |[.int i,.int j]=>if 0<j/\j<1073741824 then some (.tup [.int (i / j),.int (i % j)])else none
 |_=>none)
def qpj(K:FrG)(ta:TA):TI:=λσ H R=>(iZip K true true ta σ H R∨iZip K true false ta σ H R)∨(iZip K false true ta σ H R∨iZip K false false ta σ H R)
theorem q54{X:Cx}{a b:Expr}{ta:TA}{p pos:Pos}{zq:List Expr}{x1:Nat}{tp:Pos}(hK:X.K=K)(hg:Gl X "zip")(hm:X.mg "zip"=none)(ha:PA X [a,b] ta)(he:starEach [a,b] X.env=(false,eval a X.env)::starEach [b] X.env:=by rfl)(hpl:(backTo pos (starEach [b] X.env)).any (·.1)=false:=by rfl):
 PI X (.Tuple zq x1 tp) (.Call (.Name "zip" p) [a,b] [] pos) (qpj K ta):=λz6 s σ H R I q=>by
 rcases q with(q|q)|(q|q)
 ·exact qad true true hK hg hm ha he hpl z6 s σ H R I q
 ·exact qad true false hK hg hm ha he hpl z6 s σ H R I q
 ·exact qad false true hK hg hm ha he hpl z6 s σ H R I q
 ·exact qad false false hK hg hm ha he hpl z6 s σ H R I q
def zipD(xs ys:List D):List D:=List.zipWith (λx y=>D.tup [x,y]) xs ys
def mZip(f:RhL):RhL:=q1q f λds=>q2w (match ds with
 | [x,y]=>match dSeq x,dSeq y with
  |some xs,some ys=>some (zipD xs ys)
  |_,_=>none
 |_=>none)
theorem SqB.inj_same{K:FrG}{b:Bool}{R H:Hp}{p:Addr}{xs:List V}(s:Same R H)(h:SqB K b R p xs):SqB K b H p xs:=by
 cases b
 ·exact Same.tup s h
 ·exact Same.sqL s h
theorem qpg{R:Hp}{b1 b2:Bool}{p1 p2:Addr}{xs ys:List V}{ds es:List D}(h1:SqB K b1 R p1 xs)(h2:SqB K b2 R p2 ys)(r1:Rps K R xs ds)(r2:Rps K R ys es):ItOk K (Itz K b1 b2 p1 p2) R (zipD ds es):=λH' R' s b i=>by
 have q1:=(SqB.inj_same s h1);have q2:=(SqB.inj_same s h2);have g1:=(SqB.inj_same b q1);have g2:=(SqB.inj_same b q2);have len:(zipD ds es).length=min ds.length es.length:=by simp[zipD]
 have l1:=r1.length;have l2:=r2.length;refine⟨λe=>⟨xs,ys,g1,g2,by omega⟩,λd e=>?_⟩;unfold zipD at e;rw[List.getElem?_zipWith]at e;cases e1:ds[i]? with
 |none=>rw[e1]at e;cases e
 | some d1=>
  cases e2:es[i]? with
  |none=>rw[e1,e2]at e;cases e
  | some d2=>
   rw[e1,e2]at e;cases e;obtain⟨v1,a1,a2⟩:=r1.get e1;obtain⟨v2,c1,c2⟩:=r2.get e2;refine⟨⟨xs,ys,v1,v2,g1,g2,a1,c1⟩,λx H'' y=>?_⟩;obtain⟨T,x1,y1,rfl,hT,rfl,z1,z2⟩:=y;have w1:=z1 xs g1;have w2:=z2 ys g2;rw[a1]at w1;rw[c1]at w2;cases w1;cases w2;have y:=Ext.new (o:=.tup [v1,v2]) b hT;exact⟨_,y,.tup q0m (.cons ((a2.mono s).mono y.r) (.cons ((c2.mono s).mono y.r) .nil))⟩
theorem q8w{x:D}{ds:List D}(h:dSeq x=some ds):x=.lst ds∨x=.tup ds:=by
 unfold dSeq at h;split at h
 ·cases h;exact .inl rfl
 ·cases h;exact .inr rfl
 ·(first|obtain rfl:=h.isA rfl|cases h)
theorem q74(h:MA K O tr fs):MI K O (qpj K tr) (mZip fs):=λZ σ H R ρ ds ρ' Q S e k=>by
 obtain⟨xs,ρ1,e1,e⟩:=q0b e;obtain⟨e2,rfl⟩:=q0k e;have go:∀(b1 b2:Bool) (x y:D) (as bs:List D),xs=[x,y]->ds=zipD as bs->(∀(R1:Hp) (v:V),Rp K R1 v x->∃p vs,v=.ref p/\SqB K b1 R1 p vs/\Rps K R1 vs as)->(∀(R1:Hp) (v:V),Rp K R1 v y->∃p vs,v=.ref p/\SqB K b2 R1 p vs/\Rps K R1 vs bs)->iZip K b1 b2 tr σ H Q:=λb1 b2 x y as bs hx hd g1 g2=>by
  subst hx hd;refine h Z σ H R ρ _ _ _ S e1 λvs H1 R1 S1 st1 r1=>?_;obtain⟨_,_,rfl,q,r⟩:=r1.isC;obtain⟨_,_,rfl,q',r⟩:=r.isC
  (first|obtain rfl:=r.isA rfl|cases r)
  obtain⟨p1,us,rfl,s1,t1⟩:=g1 _ _ q;obtain⟨p2,ws,rfl,s2,t2⟩:=g2 _ _ q';exact⟨p1,p2,rfl,⟨us,SqB.inj_same S1.same s1⟩,⟨ws,SqB.inj_same S1.same s2⟩,k _ H1 R1 S1 st1 (qpg s1 s2 t1 t2)⟩
 have gl:∀(as:List D) (R1:Hp) (v:V),Rp K R1 v (.lst as)->∃p vs,v=.ref p/\SqB K true R1 p vs/\Rps K R1 vs as:=λas R1 v r=>by obtain⟨_,_,rfl,h,q⟩:=r.isL;exact⟨_,_,rfl,h,q⟩
 have gt:∀(as:List D) (R1:Hp) (v:V),Rp K R1 v (.tup as)->∃p vs,v=.ref p/\SqB K false R1 p vs/\Rps K R1 vs as:=λas R1 v r=>by obtain⟨_,_,rfl,h,q⟩:=r.isT;exact⟨_,_,rfl,SqT.of h,q⟩
 split at e2
 ·rename_i x y;split at e2
  ·rename_i as bs h1 h2;cases e2;rcases q8w h1 with rfl|rfl<;>rcases q8w h2 with rfl|rfl
   ·exact .inl (.inl (go true true _ _ as bs rfl rfl (gl as) (gl bs)))
   ·exact .inl (.inr (go true false _ _ as bs rfl rfl (gl as) (gt bs)))
   ·exact .inr (.inl (go false true _ _ as bs rfl rfl (gt as) (gl bs)))
   ·exact .inr (.inr (go false false _ _ as bs rfl rfl (gt as) (gt bs)))
  ·cases e2
 ·cases e2
end
inductive TyO(K:FrG)(H:Hp):V->Value->Prop where
 |of {x:V} {t:Value} (h:TyOf K H x t):TyO K H x t
 |sl {a:Addr} {xs:List V} (h:SqL K H a xs):TyO K H (.ref a) (.type "list")
 |st {a:Addr} {xs:List V} (h:SqT K H a xs):TyO K H (.ref a) (.type "tuple")
def rIsO(K:FrG):List V->Hp->VK->Prop:=λxs H Q=>∃x y t c b,xs=[x,y]/\clsV y=some c/\TyO K H x t/\PySem.W.kitOne K t c=some b/\Q (.bl b) H
section
variable{X:Cx}{K:FrG}{O:List Nat}{t:TE}{fa:RhD}
theorem q5q(hK:X.K=K):q5j X (.builtin "isinstance") (rIsO K):=by
 subst hK;intro z6 s σ H xs us Q I r h;obtain⟨x,y,t,c,b,rfl,hc,ty,e,q⟩:=h;cases ty with
 |of h=>exact qhj rfl z6 s σ H [x,y] us Q I r ⟨x,y,t,c,b,rfl,hc,h,e,q⟩
 | sl h=>
  obtain⟨u,w,rfl,ru,rw'⟩:=vals2 r
  (first|obtain rfl:=ru.isA rfl|cases ru)
  have ew:w=c:=by
   cases y with
   |ref a=>exact(show w=Value.ref a from rw').trans (jh hc)
   |ty n=>exact(show w=Value.type n from rw').trans (jh hc)
   |_=>cases hc
  subst ew;obtain⟨its,rv,pl,_⟩:=I.list h;obtain⟨o,e1,c1,_⟩:=pl.isList;exact PySem.W.kia_one PySem.W.kitx_list I.kIn ⟨o,e1,c1⟩ e (λz=>nomatch z) λtk=>⟨.bl b,H,I.tok tk,rfl,q⟩
 | st h=>
  obtain⟨u,w,rfl,ru,rw'⟩:=vals2 r
  (first|obtain rfl:=ru.isA rfl|cases ru)
  have ew:w=c:=by
   cases y with
   |ref a=>exact(show w=Value.ref a from rw').trans (jh hc)
   |ty n=>exact(show w=Value.type n from rw').trans (jh hc)
   |_=>cases hc
  subst ew;obtain⟨its,rv,pl,_⟩:=I.tuple h;obtain⟨o,e1,c1,_⟩:=pl;exact PySem.W.kia_one PySem.W.kitx_tuple I.kIn ⟨o,e1,c1⟩ e (λz=>nomatch z) λtk=>⟨.bl b,H,I.tok tk,rfl,q⟩
def tyN:D->Option String
 |.non=>some "NoneType"
 |.bl _=>some "bool"
 |.int _=>some "int"
 |.str _=>some "str"
 |.lst _=>some "list"
 |.tup _=>some "tuple"
 |.dct _=>some "dict"
 |.exc _=>none
 |.fn _=>none
 |.dit _=>some "dict"
 |.obj _ _=>none
theorem qm7{H:Hp}{v:V}{d:D}{n:String}(r:Rp K H v d)(e:tyN d=some n):TyO K H v (.type n):=by
 cases r with
 |non=>cases e;exact .of .non
 |bl b=>cases e;exact .of (.bl b)
 |int i=>cases e;exact .of (.int i)
 |str x=>cases e;exact .of (.str x)
 |lst h _=>cases e;exact .sl h
 |tup h _=>cases e;exact .st (SqT.of h)
 |dct h _=>cases e;exact .of (.dK h)
 |dit h _=>cases e;exact .of (.dT h)
 |obj _ _=>cases e
 |exc _ _ _=>cases e
 |fn _=>cases e
def KitB(K:FrG)(Y:String)(f:String->Option Bool):Prop:=∀s b,f s=some b->PySem.W.kitOne K (.type s) (.type Y)=some b
def q3i(Y:String):String->Option Bool:=λs=>
 if s="NoneType" then some (decide (Y="NoneType"))else if s="bool" then some (decide (Y="bool")||decide (Y="int"))else if s="int" then some (decide (Y="int"))else if s="str" then some (decide (Y="str"))
 else if s="list" then some (decide (Y="list"))else if s="tuple" then some (decide (Y="tuple"))else if s="dict" then some (decide (Y="dict"))else none
theorem q9s{Y:String}(h1:PySem.W.kitOne K (.type "NoneType") (.type Y)=some (decide (Y="NoneType")))(h2:PySem.W.kitOne K (.type "bool") (.type Y)=some (decide (Y="bool")||decide (Y="int")))(h3:PySem.W.kitOne K (.type "int") (.type Y)=some (decide (Y="int")))
 (h4:PySem.W.kitOne K (.type "str") (.type Y)=some (decide (Y="str"))) (h5:PySem.W.kitOne K (.type "list") (.type Y)=some (decide (Y="list"))) (h6:PySem.W.kitOne K (.type "tuple") (.type Y)=some (decide (Y="tuple"))) (h7:PySem.W.kitOne K (.type "dict") (.type Y)=some (decide (Y="dict"))):KitB K Y (q3i Y):=λs b e=>by
 unfold q3i at e;split at e
 ·rename_i z;subst z;rw[<-e];exact h1
 split at e
 ·rename_i z;subst z;rw[<-e];exact h2
 split at e
 ·rename_i z;subst z;rw[<-e];exact h3
 split at e
 ·rename_i z;subst z;rw[<-e];exact h4
 split at e
 ·rename_i z;subst z;rw[<-e];exact h5
 split at e
 ·rename_i z;subst z;rw[<-e];exact h6
 split at e
 ·rename_i z;subst z;rw[<-e];exact h7
 ·cases e
def dIsi(f:String->Option Bool)(d:D):Option D:=match tyN d with
 |some s=>(f s).map .bl
 |none=>none
theorem qan{Y:String}{f:String->Option Bool}(hk:KitB K Y f)(ha:MB K O t fa):ME K O (tCB (rIsO K) (q2g t (q2g (tC (.ty Y)) tNil))) (mOp1 (dIsi f) fa):=λZ σ H R ρ d ρ' Q S e k=>by
 obtain⟨x,ρ1,e1,e⟩:=q0b e;obtain⟨e2,rfl⟩:=q0k e;refine ha Z σ H R ρ x _ _ S e1 λv H1 R1 S1 st1 r1=>?_;unfold dIsi at e2;cases e3:tyN x with
 |none=>rw[e3]at e2;cases e2
 | some s=>
  rw[e3]at e2;dsimp only at e2;cases e4:f s with
  |none=>rw[e4]at e2;cases e2
  | some b=>
   rw[e4]at e2;cases e2;exact⟨v,.ty Y,.type s,.type Y,b,rfl,rfl,qm7 r1 e3,hk s b e4,k _ H1 R1 S1 st1 (.bl b)⟩
end
def mOf(f:RhL):RhD:=q1q f λds=>mRet (D.lst ds)
section
variable{K:FrG}{O O1 O':List Nat}{t:TE}{c:MC}{u:TS}{f:RhO}{fn:RhL}
theorem q1h(h:MN K O t fn):ME K O t (mOf fn):=h.me
theorem q9n(h:MS c O O1 u f)(hs:subO c O1 O'=true):MS c O O' u f:=λZ E σ H R ρ o hP S e k=>by
 refine h Z E σ H R ρ o hP S e ?_;cases o with
 | nx ρ'=>
  intro σ' H' R' S' s';obtain⟨S2,s2⟩:=S'.sub' hP hs;exact k σ' H' _ S2 (s'.trans s2)
 |bk ρ'=>exact k
 |ct ρ'=>exact k
 |rt d ρ'=>exact k
theorem q68{k n:Nat}{js:List Nat}{wi:TI}{g:TG}{tt:TT}{te:TE}(he:MN c.K O (qfx n js wi g tt te) fn)(hs:subO c O O'=true)(hi:k∉O'):MS c O O' (q9d k n js wi g tt te) (sSet k (mOf fn)):=
 show MS c O O' (tAsg (qfx n js wi g tt te) (q37 k)) (sSet k (mOf fn))from q19 (q1h he) hs hi
def q6q(fe:RhD):RhO:=λρ=>match fe ρ with
 |none=>none
 |some (_,ρ1)=>some (.nx ρ1)
theorem q6a{fe:RhD}(he:ME c.K O t fe)(hs:subO c O O'=true):MS c O O' (q4d t) (q6q fe):=λZ E σ H R ρ o hP S e k=>by
 unfold q6q at e;cases e1:fe ρ with
 |none=>rw[e1]at e;cases e
 | some p=>
  obtain⟨d,ρ1⟩:=p;rw[e1]at e;cases e;refine he Z σ H R ρ d ρ1 _ S e1 λv H1 R1 S1 st1 r1=>?_;obtain⟨S2,s2⟩:=S1.sub' hP hs;exact k σ H1 _ S2 (st1.r.trans s2)
end
def qk4(i j:Int):Bool:=(decide (-(2^64)<i)&&decide (i<2^64))||(decide (-(2^64)<j)&&decide (j<2^64))
def qk5(_ j:Int):Bool:=decide (0<j)&&decide (j<1073741824)
def qog(_ j:Int):Bool:=decide (0<j)
def qdt(i j:Int):Bool:=decide (0<=j)&&decide (j<=1000000)&&decide (i.natAbs<2^64)
def qof(_ j:Int):Bool:=decide (0<=j)
abbrev dDiv:D->D->Option D:=dI2 qk5 λi j=>i / j
abbrev dMod:D->D->Option D:=dI2 qog λi j=>i % j
abbrev dPow:D->D->Option D:=dI2 qdt λi j=>i^j.toNat
abbrev dShl:D->D->Option D:=dI2 qdt λi j=>i*2^j.toNat
abbrev dShr:D->D->Option D:=dI2 qof λi j=>i / 2^j.toNat
abbrev dSub:D->D->Option D:=dI0 λi j=>i-j
abbrev dAnd:D->D->Option D:=dI0 λi j=>Builtin.bitAnd i j
abbrev dXor:D->D->Option D:=dI0 λi j=>Builtin.bitXor i j
abbrev dLt:D->D->Option D:=dB0 λi j=>decide (i<j)
abbrev dGt:D->D->Option D:=dB0 λi j=>decide (j<i)
section
variable{K:FrG}
theorem qdv:OpG K (rI CDiv λi j=>.int (i / j)) dDiv:=op_i λi j h=>by unfold qk5 at h;simp only[Bool.and_eq_true,decide_eq_true_eq]at h;exact h
theorem q23:OpG K (rI (λ_ j=>0<j) λi j=>.int (i % j)) dMod:=op_i λi j h=>of_decide_eq_true h
theorem qip:OpG K (rI CPow λi j=>.int (i^j.toNat)) dPow:=op_i λi j h=>by unfold qdt at h;simp only[Bool.and_eq_true,decide_eq_true_eq]at h;exact⟨h.1.1,h.1.2,h.2⟩
theorem q65:OpG K (rI CPow λi j=>.int (i*2^j.toNat)) dShl:=op_i λi j h=>by unfold qdt at h;simp only[Bool.and_eq_true,decide_eq_true_eq]at h;exact⟨h.1.1,h.1.2,h.2⟩
theorem qio:OpG K (rI (λ_ j=>0<=j) λi j=>.int (i / 2^j.toNat)) dShr:=op_i λi j h=>of_decide_eq_true h
theorem q64:OpG K (rI0 λi j=>.int (i-j)) dSub:=qk0
theorem q8k:OpG K (rI0 λi j=>.int (Builtin.bitAnd i j)) dAnd:=qk0
theorem qoh:OpG K (rI0 λi j=>.int (Builtin.bitXor i j)) dXor:=qk0
def qjg(K:FrG)(n:Nat):Sp:=λvs H Q _=>∃(b:Addr) (ns:List Int),vs=[.ref b]/\SqL K H b (ns.map V.int)/\ns.length<=n/\∀H',Q (.bl true) H'
theorem qp4{P:Program}{w:World}{mg:Str->Option Value}{base:Heap}{CX:CXT}{k n:Nat}{fa:Addr}{fd:FuncData}{x:Str}{f:List D->Option D}(F:FnOk P w K mg base CX k fa fd [x] (spP K false 1 f))(h:∀ns:List Int,ns.length<=n->f [.lst (ns.map D.int)]=some (.bl true)):FnOk P w K mg base CX k fa fd [x] (qjg K n):=
 F.imp λvs H Q E q=>by obtain⟨b,ns,rfl,hb,hl,k⟩:=q;refine⟨rfl,H,[.lst (ns.map D.int)],.bl true,λ_ _ e=>e,.cons (.lst hb (Rps.ints ns)) .nil,h ns hl,λv H' R' _ r=>?_⟩;have r':Rp K R' v (.bl true):=r;cases r';exact k H'
end
section
variable{K:FrG}{O O':List Nat}{t ta tb:TE}{fa fb:RhD}{fn:RhL}{c:MC}
def dNeg:D->Option D
 |.int i=>some (.int (-i))
 |_=>none
theorem qiw(h:ME K O t fa):ME K O (tUn (rU λi=>.int (-i)) t) (mOp1 dNeg fa):=λZ σ H R ρ d ρ' Q S e k=>by
 obtain⟨x,ρ1,e1,e⟩:=q0b e;obtain⟨e2,rfl⟩:=q0k e;refine h Z σ H R ρ x _ _ S e1 λv H1 R1 S1 st1 r1=>?_
 (first|split at e2|(unfold dNeg at e2;split at e2))
 ·rename_i i;obtain rfl:=r1.isA rfl;cases e2;exact⟨i,rfl,k _ H1 R1 S1 st1 (.int _)⟩
 ·cases e2
def dAny:D->Option D
 |.lst xs=>(qj5 xs).map λbs=>.bl (bs.any id)
 |_=>none
def sExt(i:Nat)(fn:RhL):RhO:=λρ=>if isL ρ i=true then(match fn ρ with
 |none=>none
 | some (ys,ρ1)=>match ρ1[i]? with
  |some (some (.lst xs))=>if xs.length+ys.length<=sizeLine then some (.nx (ρ1.set i (some (.lst (xs++ys)))))else none
  |_=>none)else none
theorem qe0{i:Nat}(hi:i∈O)(ha:MN c.K O ta fn)(hs:subO c O O'=true):MS c O O' (q4d (tBM c.K "list" qdf (tVar i) (q2g ta tNil))) (sExt i fn):=λZ E σ H R ρ o hP S e k=>by
 unfold sExt at e;split at e
 case isFalse=>cases e
 rename_i hL;cases e1:fn ρ with
 |none=>rw[e1]at e;cases e
 | some p=>
  obtain⟨ys,ρ1⟩:=p;rw[e1]at e;dsimp only at e;obtain⟨l,vs,ds,h1,h2,h3,h4,h5⟩:=S.own i hi;obtain⟨us,_,rfl,rfl,_⟩:=qiz hL h1 h5;refine⟨.ref l,h2,.inl ⟨rfl,us,SqL.of h3⟩,ha Z σ H R ρ ys ρ1 _ S e1 λb zs H1 R1 S1 st1 b0 bH bR r1=>?_⟩;obtain⟨l',vs',ds',g1,g2,g3,g4,g5⟩:=S1.own i hi;rw[h2]at g2;cases g2;rw[g1]at e;cases g5 with
  |dct _=>cases e
  |dit _=>cases e
  |lst g5=>
  rename_i vs' ds';dsimp only at e;split at e
  ·rename_i hz;cases e;refine⟨l,b,vs',zs,rfl,rfl,g3,bH,by rw[g5.length,r1.length];exact hz,?_⟩;obtain⟨S2,s2⟩:=(S1.write hi h2 (.lst (g5.append r1))).sub' hP hs;exact k σ _ _ S2 (st1.r.trans s2)
  ·cases e
def mRep(fn:RhL)(fb:RhD):RhL:=q1q fn λxs=>q1q fb λy=>q2w (match y with
 |.int k=>if -(2^63)<=k/\k<2^63/\xs.length*k.toNat<=sizeLine then some (List.replicate k.toNat xs).flatten else none
 |_=>none)
theorem Rps.rep{R:Hp}{xs:List V}{ds:List D}(r:Rps K R xs ds):∀k:Nat,Rps K R (List.replicate k xs).flatten (List.replicate k ds).flatten
 |0=>.nil
 | k+1=>by rw[List.replicate_succ,List.replicate_succ,List.flatten_cons,List.flatten_cons];exact r.append (Rps.rep r k)
theorem qe1(ha:MN K O ta fn)(hb:ME K O tb fb):MN K O (tOp rRep ta tb) (mRep fn fb):=λZ σ H R ρ d ρ' Q S e k=>by
 obtain⟨xs,ρ1,e1,e⟩:=q0b e;obtain⟨y,ρ2,e2,e⟩:=q0b e;obtain⟨e3,rfl⟩:=q0k e;refine ha Z σ H R ρ xs ρ1 _ S e1 λl vs H1 R1 S1 st1 h0 hH hR r1=>hb Z σ H1 R1 ρ1 y _ _ S1 e2 λw H2 R2 S2 st2 r2=>?_
 (first|split at e3)
 ·rename_i j;obtain rfl:=r2.isA rfl;have e4:(if -(2^63)<=j/\j<2^63/\xs.length*j.toNat<=sizeLine then some (List.replicate j.toNat xs).flatten else none)=some d:=e3;split at e4
  ·rename_i hz;cases e4;refine⟨l,j,vs,rfl,rfl,st2.h l _ hH (λi hi=>S.notnew h0 i hi),hz.1,hz.2.1,by rw[r1.length];exact hz.2.2,λp np=>?_⟩;have y:=Ext.hid (o:=.lst (List.replicate j.toNat vs).flatten) S2.sub np;exact k p _ _ _ (S2.ext y) ((st1.trans st2).trans y.stp) ((st1.trans st2).new np) q0m (S2.out np) ((r1.mono st2.r).rep _)
  ·cases e4
 ·cases e3
end
section
variable{M:Model}{A:Around}{E:Value->Shared->Prop}{s:Shared}
end
section
variable{X:Cx}{K:FrG}
end
section
variable{c:MC}{O O':List Nat}{te:TE}{fn:RhL}
end
theorem foldl_size{α:Type}(a:Array α):∀(k:Nat) (acc:Array α),(List.foldl (λx1 x2=>x1++x2) acc (List.replicate k a)).size=acc.size+k*a.size
 |0,acc=>by simp
 | k+1,acc=>by rw[List.replicate_succ,List.foldl_cons,foldl_size a k,Array.size_append,Nat.succ_mul];omega
theorem q5h:fillsNumberSlot (.type "tuple") "mul"=pure false:=
 PySem.fillsNumberSlot_seq (id:="tuple.__mul__") (r:=some (.builtin "tuple.__rmul__")) F.slot_tuple_mul.lookup (by decide+kernel) F.slot_tuple_rmul.lookup (by decide+kernel)
theorem q8b:seqRepeat? (.type "tuple")=pure (some (.builtin "tuple.__mul__")):=by unfold seqRepeat?;rw[PySem.seqSlot_of (T:="tuple") (name:="__mul__") (id:="tuple.__mul__") F.slot_tuple_mul.lookup (by decide+kernel),PySem.seqSlot_of (T:="tuple") (name:="__rmul__") (id:="tuple.__rmul__") F.slot_tuple_rmul.lookup (by decide+kernel)];rfl
theorem q6t(a:Int)(t:Tok)(l:Addr)(items:Array Value)(n:Nat)(dd:Option Addr)(sl:Array (Option Value)):
 Meets (Builtin.«int.__rmul__» ⟨[.int a t,.ref l],[]⟩) (λ_ R s=>s.heap.get? l=some {cls:=.type "tuple",dict:=dd,data:=.seq items n,slots:=sl}/\R (.ok (.ret Value.notImplemented)) s):=
 .of_wp λprog w A R s h=>by obtain⟨hp,g,d,tk,os⟩:=s;obtain⟨hl,h⟩:=h;wp_walk;exact⟨_,rfl,h⟩
theorem qb9(l:Addr)(items:Array Value)(n:Nat)(dd:Option Addr)(sl:Array (Option Value))(x:Int)(u:Tok)(h1:1<x)(h2:x<=1000)(he:items.isEmpty=false)(hz:items.size<=1000):
 Meets (Builtin.«tuple.__mul__» ⟨[.ref l,.int x u],[]⟩) (λ_ R s=>s.heap.get? l=some {cls:=.type "tuple",dict:=dd,data:=.seq items n,slots:=sl}/\R (.ok (.ret (Value.ref s.heap.objs.size))) {s with heap:=s.heap.push {cls:=Value.type "tuple",data:=Data.seq (List.foldl (λx1 x2=>x1++x2) #[] (List.replicate x.toNat items))},toks:=s.toks}):=
 .of_wp λprog w A R s h=>by
  obtain⟨hp,g,d,tk,os⟩:=s;obtain⟨hl,h⟩:=h;have f1:=AutoSeq1.idx_int;have f2:=AutoSeq1.sub_tuple_tuple;have hc0:¬(decide (x< -2^63)||decide (x≥2^63))=true:=by simp only[Bool.or_eq_true,decide_eq_true_eq];omega
  have hc1:¬(items.isEmpty||x==1)=true:=by rw[he,Bool.false_or];simp;omega
  have hc2:¬(decide (x<=0)||items.isEmpty)=true:=by rw[he,Bool.or_false];simp;omega
  have hm:(items.size:Int)*x<=1000*1000:=Int.le_trans (Int.mul_le_mul_of_nonneg_left h2 (Int.natCast_nonneg _)) (Int.mul_le_mul_of_nonneg_right (by omega) (by decide));have hc3:¬(items.size:Int)*x>(2^63-1) / 8:=by omega
  have hc4:¬Builtin.Tuple.tupleTooMany ((items.size:Int)*x)=true:=by
   unfold Builtin.Tuple.tupleTooMany;have:(sizeLine:Int)≥1000*1000:=by decide
   simp;omega
  wp_walk using wpAny_loadPart' hl
  rw[if_neg hc0]
  wp_walk using wpAny_loadPart' hl
  rw[if_neg hc1];rw[if_neg hc2];rw[if_neg hc3];rw[if_neg hc4]
  wp_walk using wpAny_loadPart' hl
  have hc5:¬(List.foldl (λx1 x2=>x1++x2) #[] (List.replicate x.toNat items)).size>sizeLine:=by
   rw[foldl_size];have h7:x.toNat*items.size<=1000*1000:=Nat.mul_le_mul (by omega) hz;have h8:(sizeLine:Nat)≥1000*1000:=by decide
   simp;omega
  rw[if_neg hc5]
  wp_walk using wpAny_loadPart' hl
  exact⟨_,rfl,h⟩
def qn3(K:FrG):R2:=λx y H Q=>∃l k xs,x=.ref l/\y=.int k/\SqT K H l xs/\1<k/\k<=1000/\xs≠[]/\xs.length<=1000/\∀p,H p=none->Q (.ref p) (upd H p (.tup (List.replicate k.toNat xs).flatten))
section
variable{X:Cx}{K:FrG}
theorem qjz(hK:X.K=K):OpR X (binaryOp .Mult) (qn3 K):=by
 subst hK;intro z6 s σ H x y v u Q I rx ry h;obtain⟨l,k,xs,rfl,rfl,hH,h1,h2,hx,hz,q⟩:=h
 (first|obtain rfl:=rx.isA rfl|cases rx)
 obtain⟨t,rfl⟩:=ry;obtain⟨its,r1,p1,_⟩:=I.tuple hH;obtain⟨⟨cls,dd,data,sl⟩,ho,hc,n,hd⟩:=id p1;simp only at hc hd;subst hc hd;have z9:=r1.length;have he:its.toArray.isEmpty=false:=by
  cases its with
  |nil=>exact absurd (r1.nil_iff.mp rfl) hx
  |cons a r=>rfl
 have f0:List.foldl (λx1 x2=>x1++x2) #[] (List.replicate k.toNat its.toArray)=(List.replicate k.toNat its).flatten.toArray:=by have:=foldl_rep its k.toNat [];rw[List.nil_append]at this;exact this
 refine wpAny_binaryOp_repeat_ref (T:="tuple") (U:="int") (by decide) ⟨_,ho,rfl⟩ (λs'=>typeIs_int s' k t) q5h F.fills_int_mul F.slot_int_rmul q8b F.slot_int_index.lookup
  (call_meets F.slot_int_rmul (typeIs_int s k t) F.entry_int_rmul (F.args_int_rmul_2 _ _) (q6t k t l its.toArray n dd sl)
    ⟨ho,rfl,⟨_,ho,rfl⟩,call_meets F.slot_tuple_mul ⟨_,ho,rfl⟩ F.entry_tuple_mul (F.args_tuple_mul_2 _ _) (qb9 l its.toArray n dd sl k t h1 h2 he (by rw[x9];omega)) ⟨ho,?_⟩⟩)
 rw[f0];have hsz:(List.replicate k.toNat xs).flatten.length<=sizeLine:=by rw[len_rep];exact ju (Nat.mul_le_mul (by omega:k.toNat<=1000) hz) (by decide)
 refine⟨.ref s.heap.objs.size,_,I.laid (t':=s.toks) (o:=.tup (List.replicate k.toNat xs).flatten) (λb ob q=>je _ q) (jf _) ?_,rfl,q _ (I.hok.fresh (jf _))⟩;exact⟨hsz,_,r1.rep k.toNat,TupN.new _ _⟩
def qa7(z:Str)(k:Int):Str:=if(k==1||z.length==0)=true then z else⟨List.foldl (λx1 x2=>x1++x2) #[] (List.replicate k.toNat z.cps)⟩
theorem qdq:OpR X (binaryOp .Mult) (λx y H Q=>∃z k,x=.str z/\y=.int k/\0<k/\k<=1000/\0<z.length/\z.length<=1000/\Q (.str (qa7 z k)) H):=by
 intro z6 s σ H x y v u Q I rx ry h;obtain⟨z,k,rfl,rfl,h1,h2,h3,h4,q⟩:=h;obtain⟨t,rfl⟩:=rx;obtain⟨t',rfl⟩:=ry;have hm:z.length*k.toNat<=1000*1000:=Nat.mul_le_mul h4 (by omega);refine PySem.P.mul_str (by simp;omega) (λ_ _=>?_) (λ_ _=>?_) ?_
 ·intro hgt;have h5:((2:Int)^63-1) / 1000<=(2^63-1) / k:=by
   refine Int.le_ediv_of_mul_le h1 ?_;have:((2:Int)^63-1) / 1000*k<=(2^63-1) / 1000*1000:=Int.mul_le_mul_of_nonneg_left h2 (by decide);exact Int.le_trans this (by decide)
  have h6:(1000:Int)<(2^63-1) / 1000:=by decide
  omega
 ·unfold Builtin.Str.tooLong;have:(sizeLine:Nat)≥1000*1000:=by decide
  simp;omega
 ·rw[if_neg (by omega)];unfold qa7 at q;split
  ·rename_i hh;rw[if_pos hh]at q;exact⟨.str z,H,I,⟨t,rfl⟩,q⟩
  ·rename_i hh;rw[if_neg hh]at q;refine⟨?_,⟨.str _,H,I.tok _,⟨_,rfl⟩,q⟩⟩;show(List.foldl (λx1 x2=>x1++x2) #[] (List.replicate k.toNat z.cps)).size<=sizeLine;rw[foldl_size];have h7:k.toNat*z.cps.size<=1000*1000:=Nat.mul_le_mul (by omega) h4;have h8:(sizeLine:Nat)≥1000*1000:=by decide
   simp;omega
def CMul2(i j:Int):Prop:=CMul i j∨(i.natAbs<2^250/\j.natAbs<2^250)
theorem qf9{k:Int}(h:k.natAbs<2^250):Builtin.Int.intBits k<=250:=by
 unfold Builtin.Int.intBits;split
 ·exact Nat.zero_le _
 ·rename_i h0;have hk:k.natAbs≠0:=λz=>h0 (by simpa using z);have:k.natAbs.log2<250:=(Nat.log2_lt hk).mpr h;omega
theorem CMul2.ok{i j:Int}(h:CMul2 i j):IntMulOk i j:=by
 rcases h with h|⟨h1,h2⟩
 ·exact h.ok
 ·exact IntMulOk.of_le (qf9 h1) (qf9 h2) (by decide)
theorem op_mul2:OpR X (binaryOp .Mult) (rI CMul2 λi j=>.int (i*j)):=opI λ_ _ _ _ _ _ _ hc q=>mul_int q hc.ok
def bigM(i:Int):Bool:=decide (i.natAbs<2^250)
def qah(i j:Int):Bool:=qk4 i j||(bigM i&&bigM j)
theorem qdu{i j:Int}(h:qah i j=true):CMul2 i j:=by
 unfold qah qk4 bigM at h;simp only[Bool.or_eq_true,Bool.and_eq_true,decide_eq_true_eq]at h;rcases h with h|h
 ·exact .inl h
 ·exact .inr h
def qn4(K:FrG):R2:=λx y H Q=>rI CMul2 (λi j=>.int (i*j)) x y H Q∨qn3 K x y H Q∨∃z k,x=.str z/\y=.int k/\0<k/\k<=1000/\0<z.length/\z.length<=1000/\Q (.str (qa7 z k)) H
theorem q3e(hK:X.K=K):OpR X (binaryOp .Mult) (qn4 K):=op_mul2.or ((qjz hK).or qdq)
end
def q3l:D->D->Option D
 |.int i,.int j=>if qah i j=true then some (.int (i*j))else none
 |.tup xs,.int k=>if 1<k/\k<=1000/\xs≠[]/\xs.length<=1000 then some (.tup (List.replicate k.toNat xs).flatten)else none
 |.str z,.int k=>if 0<k/\k<=1000/\0<z.length/\z.length<=1000 then some (.str (qa7 z k))else none
 |_,_=>none
theorem q3f{K:FrG}:OpG K (qn4 K) q3l:=λH R x y d e u Q s rx ry q k=>by
 unfold q3l at q;split at q
 ·rename_i i j;split at q
  ·rename_i h
   (first|obtain rfl:=q.isA rfl|cases q)
   (first|obtain rfl:=rx.isA rfl|cases rx)
   (first|obtain rfl:=ry.isA rfl|cases ry)
   exact .inl ⟨i,j,rfl,rfl,qdu h,k _ H R (Ext.refl s) (.int _)⟩
  ·(first|obtain rfl:=q.isA rfl|cases q)
 ·rename_i ds j;split at q
  ·rename_i hc
   (first|obtain rfl:=q.isA rfl|cases q)
   (first|obtain rfl:=ry.isA rfl|cases ry)
   obtain⟨a,xs,rfl,h,r⟩:=rx.isT;refine .inr (.inl ⟨a,j,xs,rfl,rfl,SqT.of (s _ _ h),hc.1,hc.2.1,λz=>?_,by rw[r.length];exact hc.2.2.2,λp np=>?_⟩)
   ·subst z
    (first|obtain rfl:=r.isA rfl|cases r)
    exact hc.2.2.1 rfl
   ·have y:=Ext.new (o:=.tup (List.replicate j.toNat xs).flatten) s np;exact k _ _ _ y (.tup q0m ((r.rep _).mono y.r))
  ·(first|obtain rfl:=q.isA rfl|cases q)
 ·rename_i z j;split at q
  ·rename_i hc
   (first|obtain rfl:=q.isA rfl|cases q)
   (first|obtain rfl:=ry.isA rfl|cases ry)
   (first|obtain rfl:=rx.isA rfl|cases rx)
   exact .inr (.inr ⟨z,j,rfl,rfl,hc.1,hc.2.1,hc.2.2.1,hc.2.2.2,k _ H R (Ext.refl s) (.str _)⟩)
  ·(first|obtain rfl:=q.isA rfl|cases q)
 ·(first|obtain rfl:=q.isA rfl|cases q)
section
variable{X:Cx}{K:FrG}{O:List Nat}{pos:Pos}
end
inductive TyX(K:FrG)(H:Hp):V->Value->Prop where
 |exc {a C:Addr} (h:H a=some (excO a (.ref C))) (k:ExcK K C):TyX K H (.ref a) (.ref C)
 |non:TyX K H .non (.type "NoneType")
section
variable{X:Cx}{K:FrG}{O:List Nat}{t:TE}{fa:RhD}
structure KitE(K:FrG)(c:Value)(sub:Str->Option Bool):Prop where
 exc:∀x C b,PySem.W.nsIn K mainGlobals x=some (some (.ref C))->sub x=some b->PySem.W.kitOne K (.ref C) c=some b
 non:PySem.W.kitOne K (.type "NoneType") c=some false
structure qsa(K:FrG)(cs:List Value)(sub:Str->Option Bool):Prop where
 exc:∀x C b,PySem.W.nsIn K mainGlobals x=some (some (.ref C))->sub x=some b->PySem.W.kitAny K (.ref C) cs=some b
 non:PySem.W.kitAny K (.type "NoneType") cs=some false
end
abbrev Xr:=Rho->Option (Str×Rho)
def ExE(K:FrG)(E:XK)(C:Str)(H:Hp):Prop:=∀v,PySem.W.nsIn K mainGlobals C=some (some v)->E v none H
section
variable(K:FrG)(O:List Nat)
def MX(t:TE)(E:XK)(fx:Xr):Prop:=∀(Z:Anc) (σ:St) (H R:Hp) (ρ:Rho) (C:Str) (ρ':Rho) (Q:VK),StR K Z O σ H R ρ->fx ρ=some (C,ρ')->(∀H' R',StR K Z O σ H' R' ρ'->Stp O σ H R H' R'->ExE K E C H')->t σ H Q
def MTX(t:TT)(E:XK)(fx:Xr):Prop:=∀(Z:Anc) (σ:St) (H R:Hp) (ρ:Rho) (C:Str) (ρ':Rho) (Q:Bool->Hp->Prop),StR K Z O σ H R ρ->fx ρ=some (C,ρ')->(∀H' R',StR K Z O σ H' R' ρ'->Stp O σ H R H' R'->ExE K E C H')->t σ H Q
def MAX(t:TA)(E:XK)(fx:Xr):Prop:=∀(Z:Anc) (σ:St) (H R:Hp) (ρ:Rho) (C:Str) (ρ':Rho) (Q:List V->Hp->Prop),StR K Z O σ H R ρ->fx ρ=some (C,ρ')->(∀H' R',StR K Z O σ H' R' ρ'->Stp O σ H R H' R'->ExE K E C H')->t σ H Q
def MIX(t:TI)(E:XK)(fx:Xr):Prop:=∀(Z:Anc) (σ:St) (H R:Hp) (ρ:Rho) (C:Str) (ρ':Rho) (Q:It->Hp->Prop),StR K Z O σ H R ρ->fx ρ=some (C,ρ')->(∀H' R',StR K Z O σ H' R' ρ'->Stp O σ H R H' R'->ExE K E C H')->t σ H Q
end
def xNo:Xr:=λ_=>none
def qb5{α:Type}(fa:Rho->Option (α×Rho))(xa xb:Xr):Xr:=λρ=>match xa ρ with
 |some r=>some r
 | none=>match fa ρ with
  |some (_,ρ1)=>xb ρ1
  |none=>none
theorem qb4{α:Type}{fa:Rho->Option (α×Rho)}{xa xb:Xr}{ρ:Rho}{r:Str×Rho}(h:qb5 fa xa xb ρ=some r):xa ρ=some r∨∃a ρ1,fa ρ=some (a,ρ1)/\xb ρ1=some r:=by
 unfold qb5 at h;cases e:xa ρ with
 |some q=>rw[e]at h;cases h;exact .inl rfl
 | none=>
  rw[e]at h;cases e2:fa ρ with
  |none=>rw[e2]at h;cases h
  |some p=>rw[e2]at h;exact .inr ⟨p.1,p.2,rfl,h⟩
section
variable{K:FrG}{O:List Nat}{E:XK}{t ta tb:TE}{tr:TA}{tt:TT}{fa fb:RhD}{fs:RhL}{xa xb xs:Xr}
theorem qir:MTX K O tt E xNo:=λ_ _ _ _ _ _ _ _ _ e=>by cases e
theorem q5d:MAX K O tr E xNo:=λ_ _ _ _ _ _ _ _ _ e=>by cases e
theorem max_cons(ha:ME K O ta fa)(ka:MX K O ta E xa)(kr:MAX K O tr E xs):MAX K O (q2g ta tr) E (qb5 fa xa xs):=λZ σ H R ρ C ρ' Q S e k=>by
 rcases qb4 e with e|⟨a,ρ1,e1,e2⟩
 ·exact ka Z σ H R ρ C ρ' _ S e k
 ·exact ha Z σ H R ρ a ρ1 _ S e1 λv H1 R1 S1 st1 r1=>kr Z σ H1 R1 ρ1 C ρ' _ S1 e2 λH2 R2 S2 st2=>k H2 R2 S2 (st1.trans st2)
def spPX(K:FrG)(fr:Bool)(n:Nat)(f:List D->Option D)(fx:List D->Option Str):Sp:=λvs H Q E=>spP K fr n f vs H Q E∨
 (vs.length=n/\∃R ds C,(∀a o,R a=some o->H a=some o)/\Rps K R vs ds/\fx ds=some C/\∀H' R',Ext H R H' R'->ExE K E C H')
theorem q41{fr:Bool}{n:Nat}{f:List D->Option D}{fx:List D->Option Str}{vs:List V}{H:Hp}{Q:VK}(h:spPX K fr n f fx vs H Q E):vs.length=n:=by
 rcases h with h|h
 ·exact h.1
 ·exact h.1
def q7f(fx:List D->Option Str)(fs:RhL)(xs:Xr):Xr:=λρ=>match xs ρ with
 |some r=>some r
 | none=>match fs ρ with
  |some (ds,ρ1)=>(fx ds).map λC=>(C,ρ1)
  |none=>none
def q8a(n:Nat)(fx:List D->Option Str):Prop:=∀ds C,fx ds=some C->ds.length=n
theorem q56{n:Nat}{fr:Bool}{f:List D->Option D}{fx:List D->Option Str}(hf:q8a n fx)(h:MA K O tr fs)(hx:MAX K O tr E xs):MX K O (q53 (spPX K fr n f fx) [] E tr) E (q7f fx fs xs):=λZ σ H R ρ C ρ' Q S e k=>by
 unfold q7f at e;cases e1:xs ρ with
 |some r=>rw[e1]at e;cases e;exact hx Z σ H R ρ C ρ' _ S e1 k
 | none=>
  rw[e1]at e;cases e2:fs ρ with
  |none=>rw[e2]at e;cases e
  | some p=>
   obtain⟨ds,ρ1⟩:=p;rw[e2]at e;dsimp only at e;cases e3:fx ds with
   |none=>rw[e3]at e;cases e
   | some C1=>
    rw[e3]at e;cases e;refine h Z σ H R ρ ds _ _ S e2 λvs H1 R1 S1 st1 r1=>?_;show spPX K fr n f fx (vs++[]) H1 Q E;rw[List.append_nil];exact .inr ⟨by rw[r1.length];exact hf ds C e3,R1,ds,C,S1.sub,r1,e3,λH2 R2 x=>k H2 R2 (S1.ext x) (st1.trans x.stp)⟩
theorem q2f{n:Nat}{f:List D->Option D}{fx:List D->Option Str}(hf:q1f n f)(h:MA K O tr fs):ME K O (q53 (spPX K false n f fx) [] E tr) (q0l f fs):=λZ σ H R ρ d ρ' Q S e k=>by obtain⟨ds,ρ1,e1,e⟩:=q0b e;obtain⟨e2,rfl⟩:=q0k e;refine h Z σ H R ρ ds _ _ S e1 λvs H1 R1 S1 st1 r1=>?_;show spPX K false n f fx (vs++[]) H1 Q E;rw[List.append_nil];exact .inl ⟨by rw[r1.length];exact hf ds d e2,R1,ds,d,S1.sub,r1,e2,λv H2 R2 x q=>k v H2 R2 (S1.ext x) (st1.trans x.stp) q⟩
end
def MSX(c:MC)(O:List Nat)(t:TS)(E:XK)(fx:Xr):Prop:=∀(Z:Anc) (D:Ends) (σ:St) (H R:Hp) (ρ:Rho) (C:Str) (ρ':Rho),Z.P=c.P->StR c.K Z O σ H R ρ->fx ρ=some (C,ρ')->(∀O' σ' H' R',StR c.K Z O' σ' H' R' ρ'->ExE c.K E C H')->t D σ H
def MSXa(c:MC)(O:List Nat)(t:TS)(E:XK)(fx:Xr):Prop:=∀(Z:Anc) (D:Ends) (σ:St) (H R:Hp) (ρ:Rho) (C:Str) (ρ':Rho),Z.P=c.P->StR c.K Z O σ H R ρ->fx ρ=some (C,ρ')->(∀H' R',StR c.K Z O σ H' R' ρ'->Same R R'->ExE c.K E C H')->t D σ H
theorem MSXa.g{c:MC}{O:List Nat}{t:TS}{E:XK}{fx:Xr}(h:MSXa c O t E fx):MSX c O t E fx:=λZ D σ H R ρ C ρ' hP S e k=>h Z D σ H R ρ C ρ' hP S e λH' R' S' _=>k O σ H' R' S'
section
variable{c:MC}{O O' O1:List Nat}{t u:TS}{te:TE}{tt:TT}{tr:TA}{g:TG}{f h:RhO}{fe:RhD}{fs:RhL}{ft:RhB}{E:XK}{xe xt fx hx:Xr}
theorem q67:MSX c O t E xNo:=λ_ _ _ _ _ _ _ _ _ _ e=>by cases e
theorem q66(h:MX c.K O te E xe):MSXa c O (q4d te) E xe:=λZ D σ H R ρ C ρ' hP S e k=>h Z σ H R ρ C ρ' _ S e λH' R' S' st=>k H' R' S' st.r
theorem qgo(h:MX c.K O te E xe):MSXa c O (tAsg te g) E xe:=λZ D σ H R ρ C ρ' hP S e k=>h Z σ H R ρ C ρ' _ S e λH' R' S' st=>k H' R' S' st.r
theorem qgn(h:MX c.K O te E xe):MSXa c O (tRet te) E xe:=λZ D σ H R ρ C ρ' hP S e k=>h Z σ H R ρ C ρ' _ S e λH' R' S' st=>k H' R' S' st.r
def q83(C:Str)(fs:RhL):Xr:=λρ=>match fs ρ with
 |some (ds,ρ1)=>if ds.length<=sizeLine then some (C,ρ1)else none
 |none=>none
theorem q72{x:Str}{a:Addr}(hx:PySem.W.nsIn c.K mainGlobals x=some (some (.ref a)))(h:MA c.K O tr fs):MSXa c O (qcf a E tr) E (q83 x fs):=λZ D σ H R ρ C ρ' hP S e k=>by
 unfold q83 at e;cases e1:fs ρ with
 |none=>rw[e1]at e;cases e
 | some p=>
  obtain⟨ds,ρ1⟩:=p;rw[e1]at e;dsimp only at e;split at e
  ·rename_i hl;cases e;refine h Z σ H R ρ ds _ _ S e1 λvs H1 R1 S1 st1 r1=>⟨by rw[r1.length];exact hl,k H1 R1 S1 st1.r _ hx⟩
  ·cases e
theorem qal{a:Addr}:MS c O O' (qcf a E tr) (λ_=>none):=λ_ _ _ _ _ _ _ _ _ e=>by cases e
def xIf(ft:RhB)(xt fx hx:Xr):Xr:=λρ=>match xt ρ with
 |some r=>some r
 | none=>match ft ρ with
  |some (true,ρ1)=>fx ρ1
  |some (false,ρ1)=>hx ρ1
  |none=>none
theorem qfn{ρ:Rho}{r:Str×Rho}(e:xIf ft xt fx hx ρ=some r):xt ρ=some r∨(∃ρ1,ft ρ=some (true,ρ1)/\fx ρ1=some r)∨∃ρ1,ft ρ=some (false,ρ1)/\hx ρ1=some r:=by
 unfold xIf at e;cases e1:xt ρ with
 |some q=>rw[e1]at e;cases e;exact .inl rfl
 | none=>
  rw[e1]at e;cases e2:ft ρ with
  |none=>rw[e2]at e;cases e
  | some p=>
   obtain⟨b,ρ1⟩:=p;rw[e2]at e;cases b with
   |true=>exact .inr (.inl ⟨ρ1,rfl,e⟩)
   |false=>exact .inr (.inr ⟨ρ1,rfl,e⟩)
theorem qis(ht:MT c.K O tt ft)(kt:MTX c.K O tt E xt)(k1:MSX c O t E fx)(k2:MSX c O u E hx):MSX c O (tIfS tt t u) E (xIf ft xt fx hx):=λZ D σ H R ρ C ρ' hP S e k=>by
 rcases qfn e with e|⟨ρ1,e1,e2⟩|⟨ρ1,e1,e2⟩
 ·exact kt Z σ H R ρ C ρ' _ S e λH' R' S' st=>k O σ H' R' S'
 ·exact ht Z σ H R ρ true ρ1 _ S e1 λH1 R1 S1 st1=>iteT (k1 Z D σ H1 R1 ρ1 C ρ' hP S1 e2 k)
 ·exact ht Z σ H R ρ false ρ1 _ S e1 λH1 R1 S1 st1=>iteF (k2 Z D σ H1 R1 ρ1 C ρ' hP S1 e2 k)
def xSeq(f:RhO)(fx hx:Xr):Xr:=λρ=>match fx ρ with
 |some r=>some r
 | none=>match f ρ with
  |some (.nx ρ1)=>hx ρ1
  |_=>none
theorem q57(h1:MS c O O1 t f)(k1:MSX c O t E fx)(k2:MSX c O1 u E hx):MSX c O (tSeq t u) E (xSeq f fx hx):=λZ D σ H R ρ C ρ' hP S e k=>by
 unfold xSeq at e;cases e1:fx ρ with
 |some q=>rw[e1]at e;cases e;exact k1 Z _ σ H R ρ C ρ' hP S e1 k
 | none=>
  rw[e1]at e;cases e2:f ρ with
  |none=>rw[e2]at e;cases e
  | some o=>
   rw[e2]at e;cases o with
   |nx ρ1=>exact h1 Z _ σ H R ρ _ hP S e2 λσ1 H1 R1 S1 _=>k2 Z D σ1 H1 R1 ρ1 C ρ' hP S1 e k
   |_=>cases e
end
def qjy(i:Nat):Out->Out
 |.nx ρ=>.nx (ρ.set i none)
 |.bk ρ=>.bk (ρ.set i none)
 |.ct ρ=>.ct (ρ.set i none)
 |.rt d ρ=>.rt d (ρ.set i none)
def qs9(i:Nat)(sub:Str->Bool)(fb:RhO)(xb:Xr)(fh:RhO):RhO:=λρ=>match xb ρ with
 |some (C,ρ1)=>if sub C=true then(fh (ρ1.set i (some (.exc C)))).map (qjy i)else none
 |none=>fb ρ
def sTry(sub:Str->Bool)(fb:RhO)(xb:Xr)(fh:RhO):RhO:=λρ=>match xb ρ with
 |some (C,ρ1)=>if sub C=true then fh ρ1 else none
 |none=>fb ρ
def KitM(K:FrG)(c:Value)(sub:Str->Bool):Prop:=∀C v,PySem.W.nsIn K mainGlobals C=some (some v)->sub C=true->PySem.W.exmOne K v c=some true/\∃a,v=.ref a/\ExcK K a
section
variable{c:MC}{O O':List Nat}{cv:Value}{i:Nat}{sub:Str->Bool}{tb:XK->TS}{ts:TS}{fb fh:RhO}{xb:Xr}
theorem qou(km:KitM c.K cv sub)(hb:∀E,MS c O O' (tb E) fb)(kb:∀E,MSXa c O (tb E) E xb)(hs:MS c O O' ts fh):
 MS c O O' (tTry c.K cv tb ts) (sTry sub fb xb fh):=λZ D σ H R ρ o hP S e k=>by
 unfold sTry at e;cases e1:xb ρ with
 |none=>rw[e1]at e;exact hb _ Z D σ H R ρ o hP S e k
 | some p=>
  obtain⟨C,ρ1⟩:=p;rw[e1]at e;dsimp only at e;split at e
  ·rename_i hsub;refine kb _ Z D σ H R ρ C ρ1 hP S e1 λH' R' S' s' v hv=>?_;obtain⟨q1,_⟩:=km C v hv hsub;refine⟨q1,hs Z D _ _ _ _ o hP S' e ?_⟩;cases o with
   |nx ρ2=>exact λσ3 H3 R3 S3 s3=>k _ H3 R3 S3 (s'.trans s3)
   |bk ρ2=>exact λσ3 H3 R3 S3 s3=>k _ H3 R3 S3 (s'.trans s3)
   |ct ρ2=>exact λσ3 H3 R3 S3 s3=>k _ H3 R3 S3 (s'.trans s3)
   |rt d ρ2=>exact k
  ·cases e
end
def runX(n N:Nat)(fx:Xr)(ds:List D):Option Str:=if ds.length=n then(fx (ds.map some++List.replicate (N-n) none)).map (·.1)else none
theorem q6x{n N:Nat}{fx:Xr}:q8a n (runX n N fx):=λds C e=>by
 unfold runX at e;split at e
 ·assumption
 ·cases e
theorem q3m{K:FrG}{fr:Bool}{n:Nat}{Nms:List Str}{O':List Nat}{t:TS}{f:RhO}{fx:Xr}{vs:List V}{H:Hp}{Q:VK}{E:XK}(hm:MS ⟨K,fr,[],[]⟩ [] O' t f)(hx:MSX ⟨K,fr,[],[]⟩ [] t E fx)
 (h:spPX K fr n (runP fr n Nms.length f) (runX n Nms.length fx) vs H Q E):t {nx:=λ_ H'=>Q .non H',rt:=Q} (start Nms vs) H:=by
 rcases h with h|⟨hn,R,ds,C,sub,r,e,k⟩
 ·exact q0t hm h
 ·unfold runX at e;split at e
  ·rename_i hl;have S:StR K ⟨H,R,λ_=>False,[]⟩ [] (start Nms vs) H R (ds.map some++List.replicate (Nms.length-n) none):=by
    refine⟨sub,?_,λi d _ q=>?_,λi hi=>absurd hi (by simp),λi j hi=>absurd hi (by simp),λa o q _=>q,Same.refl _,λa q=>.inl q,λa q=>.refl q,λi hi=>absurd hi (by simp),λi hi=>absurd hi (by simp)⟩
    ·unfold start;rw[jy,jy,jb,jb,jx,jx,hn,hl]
    ·obtain⟨v,h1,h2⟩:=r.get (q5v q);exact⟨v,q5u h1,h2⟩
   cases e1:fx (ds.map some++List.replicate (Nms.length-n) none)with
   |none=>rw[e1]at e;cases e
   | some p=>
    obtain⟨C1,ρ1⟩:=p;rw[e1]at e;cases e;exact hx _ _ _ _ _ _ _ ρ1 rfl S e1 λO2 σ' H' R' S'=>k H' R' ⟨λa o q=>S'.ah a o q (λz=>z),S'.ar,S'.sub,S'.an⟩
  ·cases e
theorem qbp{X:Cx}{P:Program}{w:World}:q4c (CX1 P w) X E0:=λ_ _ _ _ _ _ _ h=>by obtain⟨_,_,_,_,_,z⟩:=h;exact z.elim
section
variable{K:FrG}{O:List Nat}{tr:TA}{fs:RhL}{E:XK}{n:Nat}
theorem q7q{f:List D->Option D}{fx:List D->Option Str}(hf:q1f n f)(h:MA K O tr fs):MN K O (q53 (spPX K true n f fx) [] E tr) (q2b f fs):=λZ σ H R ρ ds ρ' Q S e k=>by obtain⟨as,ρ1,e1,e⟩:=q0b e;obtain⟨e2,rfl⟩:=q0k e;have e3:=q75 e2;refine h Z σ H R ρ as _ _ S e1 λvs H1 R1 S1 st1 r1=>?_;show spPX K true n f fx (vs++[]) H1 Q E;rw[List.append_nil];refine .inl ⟨by rw[r1.length];exact hf as _ e3,R1,as,_,S1.sub,r1,e3,λv H2 R2 x q=>?_⟩;obtain⟨l,us,gs,rfl,e4,h0,hH,hR,r⟩:=q;cases e4;exact k l us H2 R2 (S1.ext x) (st1.trans x.stp) (st1.new h0) hH hR r
end
section
variable{K:FrG}
theorem qpn{t:Value}{d:Addr}{b:Bool}(h0:PySem.W.subIn K (.ref d) (.type "BaseException")=some true)(h1:PySem.W.isClsIn K d=true)(h2:PySem.W.typeIn K (.ref d)=some (.type "type"))(h3:PySem.W.subIn K t (.ref d)=some b):PySem.W.exmOne K t (.ref d)=some b:=by
 unfold PySem.W.exmOne;rw[h0,if_pos (beq_self_eq_true _)];unfold PySem.W.kitCls;have e:((PySem.W.clsIn K d).isSome&&PySem.W.typeIn K (.ref d)==some (.type "type"))=true:=by rw[h2,beq_self_eq_true,Bool.and_true];exact h1
 dsimp only;rw[if_pos e];exact h3
theorem qko{c:Value}{tab:List Str}(h:∀x∈tab,∃a,PySem.W.nsIn K mainGlobals x=some (some (.ref a))/\PySem.W.exmOne K (.ref a) c=some true/\ExcK K a):KitM K c (λx=>tab.contains x):=λC v e q=>by obtain⟨a,e2,k,x⟩:=h C (by simpa using q);rw[e]at e2;cases e2;exact⟨k,a,rfl,x⟩
end
theorem PS.nox{X:Cx}{st:Stmt}{t:TS}(h:PS X.nox st t):PS X st t:=λz6 s σ H D I hw=>
 x8 (h z6 s σ H D (I.wish _) hw) (λ_ _ q=>q.unwish) λ_ _ z=>False.elim z
theorem PS.or{X:Cx}{st:Stmt}{t u:TS}(h1:PS X st t)(h2:PS X st u):PS X st (λD σ H=>t D σ H∨u D σ H):=λz6 s σ H D I h=>by
 rcases h with h|h
 ·exact h1 z6 s σ H D I h
 ·exact h2 z6 s σ H D I h
def qme(wi:TI):TS:=λ_ σ H=>wi σ H λ_ _=>False
theorem qjo{X:Cx}{tg ze:Expr}{body:List Stmt}{wi:TI}{pos:Pos}(hi:PI X tg ze wi)(hs:∀x,foldedSetIterable ze X.env x=pure x:=by intro _;rfl):PS X (.For tg ze body [] pos) (qme wi):=by intro z6 s σ H D I h;refine wpAny_For (thn (hi z6 s σ H _ I h) λv s1 h1=>thn h1 λitv s2 h2=>?_) hs;obtain⟨_,_,_,_,_,_,_,_,_,_,z⟩:=h2;exact z.elim
theorem qit{c:MC}{O O':List Nat}{t u:TS}{f:RhO}(h:MS c O O' t f):MS c O O' (λD σ H=>t D σ H∨u D σ H) f:=λZ E σ H R ρ o hP S e k=>.inl (h Z E σ H R ρ o hP S e k)
theorem qgp{c:MC}{O:List Nat}{t:TS}{wi:TI}{E:XK}{xi:Xr}(h:MIX c.K O wi E xi):MSX c O (λD σ H=>t D σ H∨qme wi D σ H) E xi:=λZ D σ H R ρ C ρ' hP S e k=>.inr (h Z σ H R ρ C ρ' _ S e λH' R' S' _=>k O σ H' R' S')
theorem qgs{K:FrG}{O:List Nat}{ta:TA}{E:XK}{xs:Xr}(h:MAX K O ta E xs):MIX K O (qbx ta) E xs:=λZ σ H R ρ C ρ' Q S e k=>h Z σ H R ρ C ρ' _ S e k
section
variable(K:FrG)(O:List Nat)
end
section
variable{K:FrG}{O:List Nat}{ta:TE}{tr:TA}{fa:RhD}{fs:RhL}{E:XK}{n:Nat}
end
theorem q7u{α:Type}{o:Option (α×Rho)}{x:α}(h:o.map (·.1)=some x):∃ρ,o=some (x,ρ):=by
 cases o with
 |none=>cases h
 |some p=>cases h;exact⟨p.2,rfl⟩
theorem q4b{n:Nat}{js:List Nat}{fg:RhG}{fe:RhD}{ρ:Rho}(g:D->D):∀(xs:List D),(∀x∈xs,∃ρ1,fg x (q50 n js ρ)=some ρ1/\(fe ρ1).map (·.1)=some (g x))->q0z n js none fg (mRet true) fe xs ρ=some (xs.map g,ρ)
 |[],_=>rfl
 | x::xs,h=>by obtain⟨ρ1,h1,h2⟩:=h x jj;obtain⟨ρ2,h2⟩:=q7u h2;have ih:=q4b (n:=n) (js:=js) (fg:=fg) (fe:=fe) (ρ:=ρ) g xs λy hy=>h y (jg _ hy);simp only[q0z,h1,mRet,h2,q4n];rw[ih];rfl
theorem q3o{n:Nat}{js:List Nat}{fg:RhG}{ft:RhB}{fe:RhD}{ρ:Rho}(p:D->Bool)(g:D->D):∀(xs:List D),(∀x∈xs,∃ρ1,fg x (q50 n js ρ)=some ρ1/\ft ρ1=some (p x,ρ1)/\(p x=true->(fe ρ1).map (·.1)=some (g x)))->q0z n js none fg ft fe xs ρ=some ((xs.filter p).map g,ρ)
 |[],_=>rfl
 | x::xs,h=>by
  obtain⟨ρ1,h1,h2,h3⟩:=h x jj;have ih:=q3o (n:=n) (js:=js) (fg:=fg) (ft:=ft) (fe:=fe) (ρ:=ρ) p g xs λy hy=>h y (jg _ hy);cases hp:p x with
  | false=>
   rw[hp]at h2;simp only[q0z,h1,h2,q4n];rw[ih,List.filter_cons_of_neg (by rw[hp];exact Bool.false_ne_true)]
  | true=>
   rw[hp]at h2;obtain⟨ρ3,h4⟩:=q7u (h3 hp);simp only[q0z,h1,h2,h4,q4n];rw[ih,List.filter_cons_of_pos hp];rfl
theorem q3j{fg:RhG}{fb:RhO}(I:Nat->Rho->Prop):∀(xs:List D) (k:Nat) (ρ:Rho),I k ρ->(∀i x ρ,xs[i]? =some x->I (k+i) ρ->∃ρ1 ρ2,fg x ρ=some ρ1/\(fb ρ1=some (.nx ρ2)∨fb ρ1=some (.ct ρ2))/\I (k+i+1) ρ2)->∃ρ',q27 fg fb xs ρ=some (.nx ρ')/\I (k+xs.length) ρ'
 |[],k,ρ,h0,_=>⟨ρ,rfl,h0⟩
 | x::xs,k,ρ,h0,hs=>by
  obtain⟨ρ1,ρ2,h1,h2,h3⟩:=hs 0 x ρ rfl h0;obtain⟨ρ',g1,g2⟩:=q3j I xs (k+1) ρ2 h3 λi y ρ e hi=>by
   have e1:k+1+i=k+(i+1):=by omega
   rw[e1]at hi ⊢;exact hs (i+1) y ρ (by simpa using e) hi
  refine ⟨ρ', ?_, by rw[jr];have e1:k+(xs.length+1)=k+1+xs.length:=by omega
                     rw[e1];exact g2⟩
  simp only[q27,h1];rcases h2 with h2|h2
  ·rw[h2];exact g1
  ·rw[h2];exact g1
theorem qes{fg:RhG}{fb:RhO}(I:Rho->Prop):∀(xs:List D) (ρ:Rho),I ρ->(∀x ρ,x∈xs->I ρ->∃ρ1 ρ2,fg x ρ=some ρ1/\(fb ρ1=some (.nx ρ2)∨fb ρ1=some (.ct ρ2))/\I ρ2)->∃ρ',q27 fg fb xs ρ=some (.nx ρ')/\I ρ':=λxs ρ h0 hs=>by obtain⟨ρ',h1,h2⟩:=q3j (fg:=fg) (fb:=fb) (λ_=>I) xs 0 ρ h0 λi x ρ e hi=>hs x ρ (xq e) hi;exact⟨ρ',h1,h2⟩
theorem at0{α:Type}(x:α)(xs:List α):atI (x::xs) 0=some x:=by unfold atI ixN;simp
theorem at1{α:Type}(x y:α)(xs:List α):atI (x::y::xs) 1=some y:=qa1 (j:=1) rfl
theorem at2{α:Type}(x y z:α)(xs:List α):atI (x::y::z::xs) 2=some z:=qa1 (j:=2) rfl
theorem at3{α:Type}(x y z u:α)(xs:List α):atI (x::y::z::u::xs) 3=some u:=qa1 (j:=3) rfl
theorem q52{α:Type}{xs:List α}{i:Int}(h0:0<=i)(h:i<xs.length):atI xs i=xs[i.toNat]? :=by unfold atI ixN;rw[if_pos h0,if_pos h];rfl
theorem q1c{n:Nat}(h:n<=1000000):n<=sizeLine:=ju h (by decide)
theorem q1l(lo:Int)(n:Nat):(q17 lo n).length=n:=by simp[q17]
theorem q20{lo:Int}{n i:Nat}{d:D}(h:(q17 lo n)[i]? =some d):i<n/\d=.int (lo+(i:Int)):=by
 have hi:i<n:=by
  have:=(List.getElem?_eq_some_iff.mp h).1
  rwa [q1l]at this
 refine⟨hi,?_⟩;unfold q17 at h;rw[jk,xr hi]at h;exact(jh h).symm
def nx(s:Int):Int:=(s*1181783497276652981+12345678910987) % (2^61-1)
theorem qew(i j:Int):eqD (.int i) (.int j)=some (i==j):=by simp[eqD,D.toP,SeqAt.shaped,PyData.canLay0,PyData.depth,PyData.eqv]
theorem q2j{i j:Str}(hi:PyData.strOk i=true)(hj:PyData.strOk j=true):eqD (.str i) (.str j)=some (i==j):=by simp[eqD,D.toP,SeqAt.shaped,PyData.canLay0,PyData.depth,PyData.eqv,hi,hj]
theorem q5e(j:Int):eqD .non (.int j)=some false:=by simp[eqD,D.toP,SeqAt.shaped,PyData.canLay0,PyData.depth,PyData.eqv]
theorem q5f(j:Int):eqD (.int j) .non=some false:=by simp[eqD,D.toP,SeqAt.shaped,PyData.canLay0,PyData.depth,PyData.eqv]
theorem eqD_none:eqD .non .non=some true:=by simp[eqD,D.toP,SeqAt.shaped,PyData.canLay0,PyData.depth,PyData.eqv]
section
variable{α β:Type}{a:Rho->Option (α×Rho)}{k:α->Rho->Option (β×Rho)}{ρ:Rho}{fa fb fc:RhD}{ga gb:RhB}{fs:RhL}{g g':D->D->Option D}{g1:D->Option D}{gl:D->Option (List D)}{g2:D->D->Option (List D)}{fl fh:Rho->Option (Option Int×Rho)}
theorem q15:q1q a k ρ=(a ρ).bind λp=>k p.1 p.2:=by unfold q1q;cases a ρ<;>rfl
theorem qpt{x:α}:mRet x ρ=some (x,ρ):=rfl
theorem q1v{o:Option α}:q2w o ρ=o.map λx=>(x,ρ):=by cases o<;>rfl
theorem qj2{i:Nat}:mVar i ρ=(ρ[i]?).join.map λd=>(d,ρ):=by
 unfold mVar;cases h:ρ[i]? with
 |none=>rfl
 |some o=>cases o<;>rfl
theorem qj4:mOp2 g fa fb ρ=(fa ρ).bind λp=>(fb p.2).bind λq=>(g p.1 q.1).map λx=>(x,q.2):=by unfold mOp2;rw[q15];congr 1;funext p;rw[q15];congr 1;funext q;rw[q1v]
theorem qpv:mOp1 g1 fa ρ=(fa ρ).bind λp=>(g1 p.1).map λx=>(x,p.2):=by unfold mOp1;rw[q15];congr 1;funext p;rw[q1v]
theorem ql7:qea gl fa ρ=(fa ρ).bind λp=>(gl p.1).map λx=>(x,p.2):=by unfold qea;rw[q15];congr 1;funext p;rw[q1v]
theorem ql6:qgv g2 fa fb ρ=(fa ρ).bind λp=>(fb p.2).bind λq=>(g2 p.1 q.1).map λx=>(x,q.2):=by unfold qgv;rw[q15];congr 1;funext p;rw[q15];congr 1;funext q;rw[q1v]
def ixO:D->D->Option D
 |.lst xs,.int j=>atI xs j
 |_,_=>none
def blO:D->Option Bool
 |.bl b=>some b
 |_=>none
theorem qet:q0d fa ρ=(fa ρ).bind λp=>(blO p.1).map λx=>(x,p.2):=by
 unfold q0d;rw[q15];congr 1;funext p;rw[q1v]
 first|rfl|(cases p.1<;>rfl)
theorem qpw:mNot ga ρ=(ga ρ).map λp=>(!p.1,p.2):=by unfold mNot;rw[q15];cases ga ρ<;>rfl
theorem qq0:mAnd ga gb ρ=(ga ρ).bind λp=>if p.1=true then gb p.2 else some (false,p.2):=by unfold mAnd;rw[q15];congr 1;funext p;split<;>rfl
theorem qs3:mOr ga gb ρ=(ga ρ).bind λp=>if p.1=true then some (true,p.2)else gb p.2:=by unfold mOr;rw[q15];congr 1;funext p;split<;>rfl
theorem qs5:mIf ga fa fb ρ=(ga ρ).bind λp=>if p.1=true then fa p.2 else fb p.2:=by unfold mIf;rw[q15];congr 1;funext p;split<;>rfl
theorem qpx:mNil ρ=some ([],ρ):=rfl
theorem qlc:q02 fa fs ρ=(fa ρ).bind λp=>(fs p.2).map λq=>(p.1::q.1,q.2):=by unfold q02;rw[q15];congr 1;funext p;rw[q15];cases fs p.2<;>rfl
theorem qpp:mTup fs ρ=(fs ρ).bind λp=>if p.1.length<=sizeLine then some (.tup p.1,p.2)else none:=by unfold mTup;rw[q15];congr 1;funext p;rw[q1v];split<;>rfl
theorem qpy:mLst fs ρ=(fs ρ).bind λp=>if p.1.length<=sizeLine then some (p.1,p.2)else none:=by unfold mLst;rw[q15];congr 1;funext p;rw[q1v];split<;>rfl
theorem qs4:mOf fs ρ=(fs ρ).map λp=>(.lst p.1,p.2):=by unfold mOf;rw[q15];cases fs ρ<;>rfl
theorem qle{f:List D->Option D}:q0l f fs ρ=(fs ρ).bind λp=>(f p.1).map λx=>(x,p.2):=by unfold q0l;rw[q15];congr 1;funext p;rw[q1v]
theorem qhb{f:List D->Option D}:q2b f fs ρ=(fs ρ).bind λp=>(qee (f p.1)).map λx=>(x,p.2):=by unfold q2b;rw[q15];congr 1;funext p;rw[q1v]
def lsO:D->Option (List D)
 |.lst xs=>some xs
 |_=>none
theorem qld{n:Nat}{js:List Nat}{bw:Option (Nat×Nat)}{fg:RhG}:q1n n js bw fs fg ga fa ρ=(fs ρ).bind λp=>if p.1.length<=sizeLine then q0z n js bw fg ga fa p.1 p.2 else none:=by unfold q1n;rw[q15]
theorem qpr:mSeq fa ρ=(fa ρ).bind λp=>(dSeq p.1).map λx=>(x,p.2):=by unfold mSeq;rw[q15];congr 1;funext p;rw[q1v];cases p.1<;>rfl
def rng1:List D->Option (List D)
 |[.int j]=>if big j=true then some (q17 0 j.toNat)else none
 |_=>none
theorem qeu:q2k fs ρ=(fs ρ).bind λp=>(rng1 p.1).map λx=>(x,p.2):=by unfold q2k;rw[q15];congr 1;funext p;rw[q1v];rfl
def zip2:List D->Option (List D)
 | [x,y]=>match dSeq x,dSeq y with
  |some xs,some ys=>some (zipD xs ys)
  |_,_=>none
 |_=>none
theorem qpo:mZip fs ρ=(fs ρ).bind λp=>(zip2 p.1).map λx=>(x,p.2):=by unfold mZip;rw[q15];congr 1;funext p;rw[q1v];rfl
def inO:D->Option (Option Int)
 |.int i=>some (some i)
 |_=>none
theorem ql5:q58 fa ρ=(fa ρ).bind λp=>(inO p.1).map λx=>(x,p.2):=by unfold q58;rw[q15];congr 1;funext p;rw[q1v];cases p.1<;>rfl
theorem qs2:mSl fa fl fh ρ=(fa ρ).bind λp=>(fl p.2).bind λq=>(fh q.2).bind λr=>(dSl p.1 q.1 r.1).map λx=>(x,r.2):=by unfold mSl;rw[q15];congr 1;funext p;rw[q15];congr 1;funext q;rw[q15];congr 1;funext r;rw[q1v]
theorem q9v{f h:RhO}:sSeq f h ρ=(f ρ).bind λo=>match o with
 |.nx ρ1=>h ρ1
 |o=>some o:=by
 unfold sSeq;cases f ρ with
 |none=>rfl
 |some o=>cases o<;>rfl
theorem qkx{i:Nat}:sSet i fa ρ=(fa ρ).map λp=>.nx (p.2.set i (some p.1)):=by unfold sSet;cases fa ρ<;>rfl
theorem qkz{i:Nat}:sOwn i fs ρ=(fs ρ).bind λp=>if i<p.2.length then some (.nx (p.2.set i (some (.lst p.1))))else none:=by unfold sOwn;cases fs ρ<;>rfl
theorem ql4{fg:RhG}:sAsg fa fg ρ=(fa ρ).bind λp=>(fg p.1 p.2).map .nx:=by
 unfold sAsg;cases fa ρ with
 |none=>rfl
 | some p=>
  obtain⟨d,ρ1⟩:=p;show(match fg d ρ1 with|none=>none|some ρ2=>some (Out.nx ρ2))=(fg d ρ1).map _;cases fg d ρ1<;>rfl
theorem qpq{f h:RhO}:sIf ga f h ρ=(ga ρ).bind λp=>if p.1=true then f p.2 else h p.2:=by unfold sIf;cases ga ρ<;>rfl
theorem qky:sRet fa ρ=(fa ρ).map λp=>.rt p.1 p.2:=by unfold sRet;cases fa ρ<;>rfl
theorem qh9:q7k fs ρ=(fs ρ).map λp=>.rt (.lst p.1) p.2:=by unfold q7k;cases fs ρ<;>rfl
theorem qh8{i:Nat}:q89 i ρ=((ρ[i]?).join.bind lsO).map λd=>.rt (.lst d) (ρ.set i none):=by
 unfold q89;cases h:ρ[i]? with
 |none=>rfl
 | some o=>
  cases o with
  |none=>rfl
  |some d=>cases d<;>rfl
theorem qaq{α:Type}(i:Nat)(x:Option α):(if isL ρ i=true then x else none)=((ρ[i]?).join.bind lsO).bind λ_=>x:=by
 unfold isL;cases h:ρ[i]? with
 |none=>rfl
 | some o=>
  cases o with
  |none=>rfl
  |some d=>cases d<;>rfl
theorem ql0:sNil ρ=some (.nx ρ):=rfl
theorem qha:q6q fa ρ=(fa ρ).map λp=>.nx p.2:=by unfold q6q;cases fa ρ<;>rfl
theorem ql1{gm:List D->List D->Option (List D)}{i:Nat}:sMut gm i fs ρ=((ρ[i]?).join.bind lsO).bind λ_=>(fs ρ).bind λp=>((p.2[i]?).join.bind lsO).bind λxs=>(gm xs p.1).map λys=>.nx (p.2.set i (some (.lst ys))):=by
 refine Eq.trans ?_ (qaq _ _);unfold sMut;congr 1;cases fs ρ with
 |none=>rfl
 | some p=>
  show(match p.2[i]? with|some (some (.lst xs))=>_|_=>none)=_;show _=((p.2[i]?).join.bind lsO).bind _;cases h:p.2[i]? with
  |none=>rfl
  | some o=>
   cases o with
   |none=>rfl
   | some d=>
    cases d with
    | lst xs=>
     show(match gm xs p.1 with|some ys=>some (Out.nx _)|none=>none)=(gm xs p.1).map _;cases gm xs p.1<;>rfl
    |_=>rfl
theorem ql3{i:Nat}:sExt i fs ρ=((ρ[i]?).join.bind lsO).bind λ_=>(fs ρ).bind λp=>((p.2[i]?).join.bind lsO).bind λxs=>if xs.length+p.1.length<=sizeLine then some (.nx (p.2.set i (some (.lst (xs++p.1)))))else none:=by
 refine Eq.trans ?_ (qaq _ _);unfold sExt;congr 1;cases fs ρ with
 |none=>rfl
 | some p=>
  show(match p.2[i]? with|some (some (.lst xs))=>_|_=>none)=_;show _=((p.2[i]?).join.bind lsO).bind _;cases h:p.2[i]? with
  |none=>rfl
  | some o=>
   cases o with
   |none=>rfl
   |some d=>cases d<;>rfl
theorem ql2{fg:RhG}{f:RhO}:sFor fs fg f ρ=(fs ρ).bind λp=>q27 fg f p.1 p.2:=by unfold sFor;cases fs ρ<;>rfl
theorem qla{i:Nat}{d:D}:gSet i d ρ=some (ρ.set i (some d)):=rfl
end
theorem qkm{n:Nat}(h:n<=1000000):(n<=sizeLine)=True:=eq_true (q1c h)
theorem q7l{n d:Nat}{k:Int}(h:0<=k):HT.sIx n d (some k)=min k.toNat n:=by show(if k<0 then(k+(n:Int)).toNat else min k.toNat n)=_;rw[if_neg (by omega)]
theorem qlh(xs:List D){k:Int}(h:0<=k):cutD xs none (some k)=xs.take k.toNat:=by unfold cutD;rw[q7l h,HT.sIx_none,List.drop_zero,Nat.sub_zero];exact List.take_eq_take_min.symm
theorem qf0(xs:List D){k:Int}(h:0<=k):cutD xs (some k) none=xs.drop k.toNat:=by
 unfold cutD;rw[q7l h,HT.sIx_none];by_cases hk:k.toNat<=xs.length
 ·rw[Nat.min_eq_left hk];exact List.take_of_length_le (by rw[kg];exact jf _)
 ·rw[Nat.min_eq_right (by omega),List.drop_eq_nil_of_le (jf _),List.drop_eq_nil_of_le (by omega)];simp
theorem qez{xs:List D}{k:Int}(h0:0<=k):dSl (.lst xs) none (some k)=some (.lst (xs.take k.toNat)):=by show some (D.lst (cutD xs none (some k)))=_;rw[qlh xs h0]
theorem q8v{xs:List D}{k:Int}(h0:0<=k):dSl (.lst xs) (some k) none=some (.lst (xs.drop k.toNat)):=by show some (D.lst (cutD xs (some k) none))=_;rw[qf0 xs h0]
def Ite(K:FrG)(p:Addr):It:=
 ⟨λi H=>∃xs x,SqL K H p xs/\xs[i]? =some x,
  λi H v H'=>∃T x,v=.ref T/\H T=none/\H'=upd H T (.tup [.int (i:Int),x])/\∀xs,SqL K H p xs->xs[i]? =some x,
  λi H=>∃xs,SqL K H p xs/\xs.length<=i⟩
def qq3(p e it:Addr)(i:Nat)(h:Heap):Prop:=(∃old,IsEnum h e it (i:Int) old)/\h.IsListIter it p i
theorem qce{P:Program}{w:World}{K:FrG}{zq:List Expr}{x1:Nat}{pos:Pos}{p e it:Addr}(hei:e≠it):
 Turn P w K (.Tuple zq x1 pos) (Ite K p) [e,it] e (qq3 p e it) where
 mem:=by simp
 obj:=λi h st c hc=>by
  obtain⟨⟨old,he⟩,o,go,_,gd⟩:=st;simp only[List.mem_cons,List.not_mem_nil,or_false]at hc;rcases hc with rfl|rfl
  ·exact⟨_,he,λv e=>by cases e⟩
  ·exact⟨o,go,λv e=>by rw[gd]at e;cases e⟩
 keep:=λi h h' st k=>by obtain⟨⟨old,he⟩,o,go,r⟩:=st;exact⟨⟨old,k e (by simp) _ he⟩,o,k it (by simp) _ go,r⟩
 item:=by
  intro X hP hw hK hc i z6 s σ H E I hf st hg;subst hP hw hK;obtain⟨xs,x,q1,ex⟩:=hg;obtain⟨it1,r1,t1,_⟩:=I.list q1;obtain⟨u,eu,ru⟩:=r1.get ex;obtain⟨⟨old,he⟩,j1⟩:=st;refine wpAny_pyNext_enum_item he j1 t1.isList (x:=u) (by simpa using eu) hei λh' ho n1 tp sz kk=>?_;refine⟨_,rfl,?_⟩;refine wpAny_letOwnedTupleGo_enum ho λh'' z'' s''=>?_;have fresh:H s.heap.objs.size=none:=I.hok.fresh (jf _);have zne:s.heap.objs.size≠e:=λq=>by have:=jd he;rw[<-q]at this;exact xc _ this
  have keep:∀c o,c∉[e,it]->s.heap.get? c=some o->h''.get? c=some o:=λc o hc q=>by simp only[List.mem_cons,List.not_mem_nil,or_false,not_or]at hc;exact s''.extBut c o hc.1 (kk c o hc.1 hc.2 q)
  have tp':h''.get? s.heap.objs.size=some {cls:=.type "tuple",data:=.seq #[.int i s.toks,u]}:=s''.extBut _ _ zne tp;have I':Inv X z6 σ (upd H s.heap.objs.size (.tup [.int (i:Int),x])) {s with heap:=h'',toks:=s.toks+1}:=by
   refine I.step (g':=s.gens) (d':=s.drawn) (ch:=[e,it]) (λc hc=>?_) (λc o _ _ hc e _=>keep c o hc e) (λc o _ _ hc e _=>⟨o.slots,keep c o hc e⟩) (λc o _ e n=>?_) (λc o hc e=>⟨o,keep c o hc e⟩)
    (λc zs e=>?_) (λc o w' e=>?_) (λc ps e=>⟨#[],?_⟩) (λm hm=>?_) (λc o e=>?_) I.bare
   ·obtain⟨_,f1,f2,f3,f4,f5⟩:=hf c hc;exact⟨f3,f1,f4,f5⟩
   ·rw[q0i (jl (jd e))];exact n
   ·rw[q0i (q18 e fresh)];exact e
   ·rw[q0i (q18 e fresh)];exact e
   ·rw[q0i (q18 e fresh),e];simp
   ·obtain⟨o,es,ep,ho,r⟩:=hm;exact⟨o,es,ep,keep _ o (λq=>(hf _ q).2.1 rfl) ho,r⟩
   ·by_cases hb:c=s.heap.objs.size
    ·subst hb;rw[q0m]at e;cases e;exact⟨by show 2<=sizeLine;decide,[.int i s.toks,u],.cons ⟨_,rfl⟩ (.cons ru .nil),⟨_,tp',⟨rfl,_,rfl⟩,rfl⟩⟩
    ·rw[q0i hb]at e;refine(I.hok c o e).stay (λd w' hd q=>keep d w' (λm=>?_) q) (λd q=>?_) λd zs q=>?_
     ·have n:=(hf d m).1;rcases hd with rfl|hd
      ·rw[n]at e;cases e
      ·rw[n]at hd;cases hd
     ·rw[q0i (q18 q fresh)];exact q
     ·rw[q0i (q18 q fresh)];exact q
  have lt:∀c∈[e,it],c<s.heap.objs.size:=λc hc=>by
   simp only[List.mem_cons,List.not_mem_nil,or_false]at hc;rcases hc with rfl|rfl
   ·exact jd he
   ·obtain⟨o,e,_⟩:=j1;exact jd e
  refine⟨.ref s.heap.objs.size,_,I',rfl,⟨_,x,rfl,fresh,rfl,λzs q=>by rw[I.list_inj q q1];exact ex⟩,?_,λc hc=>?_⟩
  ·obtain⟨o,go,r⟩:=n1;exact⟨⟨u,by simpa using z''⟩,o,s''.extBut _ _ hei.symm go,r⟩
  ·rw[q0i (jl (lt c hc))];exact(hf c hc).1
 done:=by
  intro X hP hw hK hc i z6 s σ H E I hf st hg;subst hP hw hK;obtain⟨xs,q1,hl⟩:=hg;obtain⟨it1,r1,t1,_⟩:=I.list q1;obtain⟨⟨old,he⟩,j1⟩:=st;have l1:=r1.length;refine wpAny_pyNext_enum_end (I.ok.hd hc) he j1 t1.isList (by simp;omega) λh' kk=>⟨rfl,?_⟩;have keep:∀c o,c∉[e,it]->s.heap.get? c=some o->h'.get? c=some o:=λc o hc q=>by simp only[List.mem_cons,List.not_mem_nil,or_false,not_or]at hc;exact kk c o hc.2 q
  show Inv X z6 σ H {s with heap:=h',toks:=s.toks};refine I.step (g':=s.gens) (d':=s.drawn) (ch:=[e,it]) (λc hc=>?_) (λc o _ _ hc e _=>keep c o hc e) (λc o _ _ hc e _=>⟨o.slots,keep c o hc e⟩) (λc o _ e n=>n) (λc o hc e=>⟨o,keep c o hc e⟩)
   (λc zs e=>e) (λc o w' e=>e) (λc ps e=>⟨#[],by rw[e];simp⟩) (λm hm=>?_) (λc o e=>?_) I.bare
  ·obtain⟨_,f1,f2,f3,f4,f5⟩:=hf c hc;exact⟨f3,f1,f4,f5⟩
  ·obtain⟨o,es,ep,ho,r⟩:=hm;exact⟨o,es,ep,keep _ o (λq=>(hf _ q).2.1 rfl) ho,r⟩
  ·refine(I.hok c o e).stay (λd w' hd q=>keep d w' (λm=>?_) q) (λd q=>q) λd zs q=>q;have n:=(hf d m).1;rcases hd with rfl|hd
   ·rw[n]at e;cases e
   ·rw[n]at hd;cases hd
 self:=λ_ _ _ _ _ st h=>by obtain⟨⟨old,he⟩,_⟩:=st;exact wpAny_pyIter_enum he h
section
variable{X:Cx}{a:Expr}{ta:TE}{p pos:Pos}{zq:List Expr}{x1:Nat}{tp:Pos}
def qpk(K:FrG)(ta:TE):TI:=λσ H R=>ta σ H λv H1=>∃p1,[v]=[V.ref p1]/\(∃xs,SqL K H1 p1 xs)/\R (Ite K p1) H1
theorem qjt{K:FrG}(hK:X.K=K)(hg:Gl X "enumerate")(hm:X.mg "enumerate"=none)(ha:PE X a ta)(he:starEach [a] X.env=(false,eval a X.env)::starEach [] X.env:=by rfl)(hpl:(backTo pos (starEach [] X.env)).any (·.1)=false:=by rfl):
 PI X (.Tuple zq x1 tp) (.Call (.Name "enumerate" p) [a] [] pos) (qpk K ta):=by
 subst hK;intro z6 s σ H R I h;refine xn (q48 I hg hm (u:=.type "enumerate") (by rfl) ?_);refine PyProof.Rows.callWith_type1 (thn ((q00 ha q06 he) pos z6 s σ H (λvs H1=>∃p1,vs=[.ref p1]/\(∃xs,SqL X.K H1 p1 xs)/\R (Ite X.K p1) H1) I h) λus s1 h1=>?_) he hpl;obtain⟨vs,H1,I1,r1,p1,rfl,⟨xs,q1⟩,k⟩:=h1;obtain⟨u,rfl,ru⟩:=vals1 r1;cases(show u=Value.ref p1 from ru);obtain⟨it1,r1,t1,_⟩:=I1.list q1;have lt:p1<s1.heap.objs.size:=by obtain⟨o,e,_⟩:=t1.isList;exact jd e
 refine call_enumerate_list t1.isList λh' hz j1 sz kk=>wpAny_pyIter_enum hz ?_;have I2:Inv X z6 σ H1 {s1 with heap:=h',toks:=s1.toks}:=I1.kept kk;refine⟨_,_,_,_,H1,rfl,I2,qce (p:=p1) (e:=s1.heap.objs.size+1) (it:=s1.heap.objs.size) (Nat.ne_of_gt (Nat.lt_succ_self _)),⟨⟨_,hz⟩,j1⟩,λc hc=>?_,k⟩;have le:s1.heap.objs.size<=c:=by simp only[List.mem_cons,List.not_mem_nil,or_false]at hc;rcases hc with rfl|rfl<;>first|exact jf _|exact Nat.le_add_right _ _
 exact I1.fpOk le (I1.hok.fresh le)
end
def q6l(xs:List D):List D:=xs.zipIdx.map λq=>D.tup [.int (q.2:Int),q.1]
section
variable{K:FrG}{O:List Nat}{t:TE}{fa:RhD}
theorem q8u{xs:List D}{i:Nat}:(q6l xs)[i]? =(xs[i]?).map λx=>D.tup [.int (i:Int),x]:=by
 unfold q6l;rw[jk,List.getElem?_zipIdx];cases xs[i]? with
 |none=>rfl
 |some x=>simp
theorem qkr{R:Hp}{p:Addr}{xs:List V}{ds:List D}(h:SqL K R p xs)(r:Rps K R xs ds):ItOk K (Ite K p) R (q6l ds):=λH' R' s b i=>by
 have g1:=Same.sqL b (Same.sqL s h);have l1:=r.length;have len:(q6l ds).length=ds.length:=by simp[q6l]
 refine⟨λe=>⟨xs,g1,by omega⟩,λd e=>?_⟩;rw[q8u]at e;cases e1:ds[i]? with
 |none=>rw[e1]at e;cases e
 | some d1=>
  rw[e1]at e;cases e;obtain⟨v1,a1,a2⟩:=r.get e1;refine⟨⟨xs,v1,g1,a1⟩,λx H'' y=>?_⟩;obtain⟨T,x1,rfl,hT,rfl,z1⟩:=y;have w1:=z1 xs g1;rw[a1]at w1;cases w1;have y:=Ext.new (o:=.tup [.int (i:Int),v1]) b hT;exact⟨_,y,.tup q0m (.cons (.int _) (.cons ((a2.mono s).mono y.r) .nil))⟩
def qed(f:RhD):RhL:=q1q f λd=>q2w (match d with
 |.lst xs=>some (q6l xs)
 |_=>none)
theorem qkl(h:ME K O t fa):MI K O (qpk K t) (qed fa):=λZ σ H R ρ ds ρ' Q S e k=>by
 obtain⟨d,ρ1,e1,e⟩:=q0b e;obtain⟨e2,rfl⟩:=q0k e;cases d with
 | lst xs=>
  cases e2;refine h Z σ H R ρ _ _ _ S e1 λv H1 R1 S1 st1 r1=>?_;obtain⟨_,_,rfl,q,r⟩:=r1.isL;exact⟨_,rfl,⟨_,Same.sqL S1.same q⟩,k _ H1 R1 S1 st1 (qkr q r)⟩
 |_=>cases e2
def qq2:D->Option (List D)
 |.lst xs=>some (q6l xs)
 |_=>none
theorem qlb{ρ:Rho}:qed fa ρ=(fa ρ).bind λp=>(qq2 p.1).map λx=>(x,p.2):=by unfold qed;rw[q15];congr 1;funext p;rw[q1v];cases p.1<;>rfl
end
section
variable{X:Cx}{K:FrG}{c:MC}{O O':List Nat}{t:TE}{fa:RhD}
end
section
variable{ρ:Rho}{fa fb:RhD}{fs:RhL}
def repO(xs:List D):D->Option (List D)
 |.int k=>if -(2^63)<=k/\k<2^63/\xs.length*k.toNat<=sizeLine then some (List.replicate k.toNat xs).flatten else none
 |_=>none
theorem qj3:mRep fs fb ρ=(fs ρ).bind λp=>(fb p.2).bind λq=>(repO p.1 q.1).map λx=>(x,q.2):=by unfold mRep;rw[q15];congr 1;funext p;rw[q15];congr 1;funext q;rw[q1v];cases q.1<;>rfl
theorem qib{ρ1 ρ2:Rho}{xs zs:List D}{y:D}(h1:fs ρ=some (xs,ρ1))(h2:fb ρ1=some (y,ρ2))(h3:repO xs y=some zs):mRep fs fb ρ=some (zs,ρ2):=by rw[qj3,h1];show(fb ρ1).bind _=_;rw[h2];show(repO xs y).map _=_;rw[h3];rfl
theorem qde(x:D){k:Int}(h0:0<=k)(h:k<=1000000):repO [x] (.int k)=some (List.replicate k.toNat x):=by
 have hz:[x].length*k.toNat<=sizeLine:=by rw[List.length_singleton,Nat.one_mul];exact q1c (by omega)
 show(if -(2^63)<=k/\k<2^63/\[x].length*k.toNat<=sizeLine then some (List.replicate k.toNat [x]).flatten else none)=_;rw[if_pos ⟨by omega,by omega,hz⟩,List.flatten_replicate_singleton]
theorem q82(xs ys:List Int):zipD (xs.map D.int) (ys.map D.int)=(xs.zip ys).map λq=>D.tup [.int q.1,.int q.2]:=by unfold zipD;rw[List.zipWith_map,List.zip,List.map_zipWith]
end
def qci(C:Addr)(names:List Str):Sp:=λvs H Q _=>∃(x dx:Addr) (args:List V),vs=.ref x::args/\args.length=names.length/\H x=some (.ins C dx [])/\Q .non (upd H x (.ins C dx (names.zip args)))
section
variable{K:FrG}{R:Hp}{O:List Nat}{t ta:TE}{tr:TA}{fa fb:RhD}{fs:RhL}{E:XK}{C:Addr}{x m f:Str}
theorem Rfs.zip:∀{names:List Str} {vs:List V} {ds:List D},Rps K R vs ds->Rfs K R (names.zip vs) (names.zip ds)
 |[],_,_,_=>.nil
 |_::_,_,_,.nil=>.nil
 |_::_,_,_,.cons h r=>.cons h (Rfs.zip r)
theorem Rfs.lookup:∀{fs:List (Str×V)} {gs:List (Str×D)} {d:D},Rfs K R fs gs->gs.lookup f=some d->∃v,fs.lookup f=some v/\Rp K R v d
 |_,_,_,.nil,e=>by cases e
 | _,_,d,.cons (f:=g) (x:=v) (d:=d') h r,e=>by
  rw[List.lookup_cons]at e ⊢;cases q:f==g with
  | true=>
   rw[q]at e;cases e;exact⟨v,rfl,h⟩
  | false=>
   rw[q]at e;exact Rfs.lookup r e
theorem Rfs.lookup_none:∀{fs:List (Str×V)} {gs:List (Str×D)},Rfs K R fs gs->gs.lookup f=none->fs.lookup f=none
 |_,_,.nil,_=>rfl
 | _,_,.cons (f:=g) h r,e=>by
  rw[List.lookup_cons]at e ⊢;cases q:f==g with
  |true=>rw[q]at e;cases e
  | false=>
   rw[q]at e;exact Rfs.lookup_none r e
def qec(x:Str)(names:List Str)(fs:RhL):RhD:=q1q fs λds=>q2w (if ds.length=names.length then some (.obj x (names.zip ds))else none)
theorem qe6{names:List Str}(n:PySem.W.nsIn K mainGlobals x=some (some (.ref C)))(h:MA K O tr fs):ME K O (qmd C (qci C names) [] E tr) (qec x names fs):=λZ σ H R ρ d ρ' Q S e k=>by
 obtain⟨ds,ρ1,e1,e⟩:=q0b e;obtain⟨e2,rfl⟩:=q0k e;split at e2
 ·rename_i hl;cases e2;refine h Z σ H R ρ ds _ _ S e1 λvs H1 R1 S1 st1 r1=>?_;intro a dx ha hdx hne;refine⟨a,dx,vs,by rw[List.append_nil],by rw[r1.length,hl],q0m,rfl,?_⟩;rw[qca];have y1:=Ext.hid (o:=.own a) S1.sub hdx;have ha2:(upd H1 dx (HO.own a)) a=none:=by rw[q0i (Ne.symm hne)];exact ha
  have y2:=Ext.new (o:=.ins C dx (names.zip vs)) y1.s ha2;exact k _ _ _ ((S1.ext y1).ext y2) ((st1.trans y1.stp).trans y2.stp) (.obj n q0m (Rfs.zip (r1.mono y2.r)))
 ·cases e2
def qeb(x:Str):RhD:=mRet (.obj x [])
theorem qgt(n:PySem.W.nsIn K mainGlobals x=some (some (.ref C))):ME K O (qi6 C) (qeb x):=λZ σ H R ρ d ρ' Q S e k=>by
 cases e;intro a dx ha hdx hne;have y1:=Ext.hid (o:=.own a) S.sub hdx;have ha2:(upd H dx (HO.own a)) a=none:=by rw[q0i (Ne.symm hne)];exact ha
 have y2:=Ext.new (o:=.ins C dx []) y1.s ha2;exact k _ _ _ ((S.ext y1).ext y2) (y1.stp.trans y2.stp) (.obj n q0m .nil)
def fldO(x f:Str):D->Option D
 |.obj y gs=>if y=x then gs.lookup f else none
 |_=>none
def mFld(x f:Str)(fa:RhD):RhD:=q1q fa λd=>q2w (fldO x f d)
theorem qiq{C':Addr}(n:PySem.W.nsIn K mainGlobals x=some (some (.ref C)))(n':PySem.W.nsIn K mainGlobals x=some (some (.ref C'))):C'=C:=by rw[n]at n';cases n';rfl
theorem qe7(n:PySem.W.nsIn K mainGlobals x=some (some (.ref C)))(c:Cls K C)(na:NoAttr K C f)(h:ME K O ta fa):ME K O (tFld K ta f) (mFld x f fa):=λZ σ H R ρ d ρ' Q S e k=>by
 obtain⟨d0,ρ1,e1,e⟩:=q0b e;obtain⟨e2,rfl⟩:=q0k e;refine h Z σ H R ρ _ _ _ S e1 λv H1 R1 S1 st1 r1=>?_;cases d0 with
 | obj y gs=>
  have e3:(if y=x then gs.lookup f else none)=some d:=e2;split at e3
  ·rename_i hy;subst hy;cases r1 with
   | obj n' hR rf=>
    have hC:=qiq n n';subst hC;obtain⟨v',hl,rv⟩:=rf.lookup e3;exact⟨_,_,_,_,v',rfl,S1.sub _ _ hR,c,na,hl,k v' H1 R1 S1 st1 rv⟩
  ·cases e3
 |_=>cases e2
def q6s(x m:Str)(f:List D->Option D)(d:D)(ds:List D):Option D:=match d with
 |.obj y gs=>if y=x/\gs.lookup m=none then f (d::ds)else none
 |_=>none
def q4h(x m:Str)(f:List D->Option D)(fa:RhD)(fs:RhL):RhD:=q1q fa λd=>q1q fs λds=>q2w (q6s x m f d ds)
theorem q9q{k0:Nat}{g:List D->Option D}(n:PySem.W.nsIn K mainGlobals x=some (some (.ref C)))(hg:q1f k0 g)(h:ME K O ta fa)(ha:MA K O tr fs):ME K O (qmc C m (spP K false k0 g) [] E ta tr) (q4h x m g fa fs):=λZ σ H R ρ d ρ' Q S e k=>by
 obtain⟨d0,ρ1,e1,e⟩:=q0b e;obtain⟨ds,ρ2,e2,e⟩:=q0b e;obtain⟨e3,rfl⟩:=q0k e;refine h Z σ H R ρ _ _ _ S e1 λv H1 R1 S1 st1 r1=>?_;cases d0 with
 | obj y gs=>
  have e4:(if y=x/\gs.lookup m=none then g (.obj y gs::ds)else none)=some d:=e3;split at e4
  ·rename_i hy;obtain⟨hy,hm⟩:=hy;subst hy;have r1':=r1;cases r1 with
   | obj n' hR rf=>
    have hC:=qiq n n';subst hC;refine⟨_,_,_,rfl,S1.sub _ _ hR,rf.lookup_none hm,?_⟩;refine ha Z σ H1 R1 ρ1 ds _ _ S1 e2 λvs H2 R2 S2 st2 r2=>?_;rw[List.append_nil];have r3:=Rps.cons (r1'.mono st2.r) r2;exact⟨by rw[r3.length];exact hg _ d e4,R2,_,d,S2.sub,r3,e4,λv H3 R3 y q=>k v H3 R3 (S2.ext y) ((st1.trans st2).trans y.stp) q⟩
  ·cases e4
 |_=>cases e3
def mOrE(f g:RhD):RhD:=λρ=>match f ρ with
 |some r=>some r
 |none=>g ρ
theorem qiv{t1 t2:TE}(h1:ME K O t1 fa)(h2:ME K O t2 fb):ME K O (λσ H Q=>t1 σ H Q∨t2 σ H Q) (mOrE fa fb):=λZ σ H R ρ d ρ' Q S e k=>by
 unfold mOrE at e;cases e1:fa ρ with
 | some q=>
  rw[e1]at e;cases e;exact .inl (h1 Z σ H R ρ d ρ' Q S e1 k)
 | none=>
  rw[e1]at e;exact .inr (h2 Z σ H R ρ d ρ' Q S e k)
theorem ql9{ρ:Rho}{names:List Str}:qec x names fs ρ=(fs ρ).bind λp=>(if p.1.length=names.length then some (D.obj x (names.zip p.1))else none).map λy=>(y,p.2):=by unfold qec;rw[q15];congr 1;funext p;rw[q1v]
theorem qpz{ρ:Rho}:mFld x f fa ρ=(fa ρ).bind λp=>(fldO x f p.1).map λy=>(y,p.2):=by unfold mFld;rw[q15];congr 1;funext p;rw[q1v]
theorem ql8{ρ:Rho}{g:List D->Option D}:q4h x m g fa fs ρ=(fa ρ).bind λp=>(fs p.2).bind λq=>(q6s x m g p.1 q.1).map λy=>(y,q.2):=by unfold q4h;rw[q15];congr 1;funext p;rw[q15];congr 1;funext q;rw[q1v]
theorem qpu{ρ:Rho}:mOrE fa fb ρ=(fa ρ).or (fb ρ):=by unfold mOrE;cases fa ρ<;>rfl
end
theorem q6o{x0:Str}:∀{names:List (Str×NameKind)} (n:Nat) (acc:List (Str×Addr)),names.filter (λy=>y.2==NameKind.cell)=[(x0,.cell)]->cellsFrom n names acc=(x0,n)::acc
 |[],_,_,h=>by cases h
 | (a,kd)::r,n,acc,h=>by
  unfold cellsFrom;cases hk:kd==NameKind.cell with
  | true=>
   rw[List.filter_cons_of_pos (by exact hk)]at h;have e1:(a,kd)=(x0,NameKind.cell):=(List.cons.inj h).1;have e2:r.filter (λy=>y.2==NameKind.cell)=[]:=(List.cons.inj h).2;have none:∀(r:List (Str×NameKind)) (n:Nat) (acc:List (Str×Addr)),r.filter (λy=>y.2==NameKind.cell)=[]->cellsFrom n r acc=acc:=λr=>by
    induction r with
    |nil=>intro n acc _;rfl
    | cons q r ih=>
     intro n acc h;obtain⟨b,kb⟩:=q;cases hb:kb==NameKind.cell with
     |true=>rw[List.filter_cons_of_pos (by exact hb)]at h;cases h
     | false=>
          rw[List.filter_cons_of_neg (by show¬(kb==NameKind.cell)=true;rw[hb];exact Bool.false_ne_true)]at h;unfold cellsFrom;rw[hb];exact ih n acc h
   rw[if_pos rfl,none r _ _ e2];cases e1;rfl
  | false=>
   rw[List.filter_cons_of_neg (by show¬(kd==NameKind.cell)=true;rw[hk];exact Bool.false_ne_true)]at h;rw[if_neg Bool.false_ne_true];exact q6o n acc h
theorem qex{M:Model}{A:Around}{E:Value->Shared->Prop}{s:Shared}{scope:Scope}{globals:Addr}{zj:List (Str×Addr)}{qual:Str}{j9:Env}{x0:Str}{Q:Env->Shared->Prop}
 (hf:scope.names.filter (λy=>y.2==NameKind.cell)=[(x0,.cell)])
 (hQ:∀h',h'.Ns s.heap.objs.size (λ_=>none)->h'.IsCell (s.heap.objs.size+1) none->(∀b o,s.heap.get? b=some o->h'.get? b=some o)->
   Q (newEnv scope s.heap.objs.size globals ((x0,s.heap.objs.size+1)::zj) qual none .none (some j9) builtinsNs) {s with heap:=h'}):
 wpAny M A (newFunctionEnv scope globals zj [] qual none .none (some j9)) Q E s:=by
 simp only[newFunctionEnv,Option.isSome_some,if_true];refine ja (wpAny_alloc ?_);refine ja (wpAny_layCells _ (λname kind cells=>by cases hkc:kind==NameKind.cell<;>simp[hkc]) _ _ _ _ ?_);have sz:(s.heap.push {cls:=.type "dict",data:=.dict #[]}).objs.size=s.heap.objs.size+1:=xk ..;have ok:=cellsFrom_ok scope.names (s.heap.push {cls:=.type "dict",data:=.dict #[]}) (s.heap.objs.size+1) [] ⟨λ_ _ hm=>(nomatch hm),List.Pairwise.nil⟩ (by rw[sz];exact jf _);rw[sz,q6o _ _ hf]at ok;show wpAny M A (forIn [] _ _ >>= _) Q E _;rw[List.forIn_nil];refine ja (jc (jc ?_));have e1:cellsFrom ({s with heap:=s.heap.push {cls:=.type "dict",data:=.dict #[]}}:Shared).heap.objs.size scope.names zj=(x0,s.heap.objs.size+1)::zj:=by rw[q6o _ _ hf];show(x0,(s.heap.push {cls:=.type "dict",data:=.dict #[]}).objs.size)::zj=_;rw[sz]
 rw[e1];exact hQ _ ((Heap.Ns.new s.heap (.type "dict")).keeps (pushCells_keeps _ _)) (ok.empty x0 _ jj).1 λb o e=>pushCells_keeps _ _ b o (je _ e)
theorem q4p{env:Env}:∀{names:List (Str×NameKind)} {x:Str},(names.map λ(n,k)=>if(k==NameKind.free&&env.scope.kind==.function&&env.kindOf n==some .cell)then(n,NameKind.cell)else(n,k)).lookup x=some .cell∨
 (names.map λ(n,k)=>if(k==NameKind.free&&env.scope.kind==.function&&env.kindOf n==some .cell)then(n,NameKind.cell)else(n,k)).lookup x=some .free->∃y∈names,y.1=x/\(y.2=.free∨y.2=.cell)
 |[],_,h=>by rcases h with h|h<;>simp at h
 | (n,k)::r,x,h=>by
  have ih:=@q4p env r x;by_cases hx:x=n
  ·subst hx;refine⟨(x,k),jj,rfl,?_⟩;by_cases hf:k=.free
   ·exact .inl hf
   ·have hb:(k==NameKind.free)=false:=by simpa using hf
    simp only[List.map_cons,hb,Bool.false_and,Bool.false_eq_true,if_false,List.lookup_cons,beq_self_eq_true]at h;rcases h with h|h
    ·exact .inr (jh h)
    ·exact .inl (jh h)
  ·have hb:(x==n)=false:=beq_eq_false_iff_ne.mpr hx;have step:∀(q:Str×NameKind) (l:List (Str×NameKind)),q.1=n->List.lookup x (q::l)=List.lookup x l:=λq l e=>by
    obtain⟨a,b⟩:=q;have e':a=n:=e;subst e';rw[List.lookup_cons,hb]
   have nm:(if(k==NameKind.free&&env.scope.kind==.function&&env.kindOf n==some .cell)then(n,NameKind.cell)else(n,k)).1=n:=by split<;>rfl
   rw[xh,step _ _ nm]at h;obtain⟨y,hy,r1,r2⟩:=ih h;exact⟨y,jg _ hy,r1,r2⟩
def cxC(X:Cx)(N:List Str)(scope:Scope)(s:Shared)(H:Hp)(C:Addr)(cl:List (Str×Addr))(fp:List Addr)(x0:Str):Cx where
 prog:=X.prog
 w:=X.w
 K:=X.K
 mg:=X.mg
 base:=X.base
 A:=X.A
 N:=N
 s₀:=s
 H₀:=H
 env:=compEnvC scope cl C X.env
 outer:=X.stack
 stack:=X.stack
 ex:=fp
 fn:=λx=>decide (x=x0)
 calm:=X.calm
 pn:=[]
 xe:=λ_ _=>False
def q3z(sc:Scope)(N0 N:List Str)(js:List Nat)(scope:Scope)(x0:Str):Bool:=
 decide (scope.kind=.function)&&decide (scope.names.filter (λy=>y.2==NameKind.cell)=[(x0,.cell)])&&decide (scope.names.lookup x0=some .cell)&&scope.names.all (λy=>decide (y.2≠.free)||decide (sc.names.lookup y.1=some .cell)||decide (sc.names.lookup y.1=some .free))&&
 scope.names.all (λy=>decide (y.2≠.local)||decide (scope.names.lookup y.1=some .local))&&decide (js.map (λj=>N0[j]?)=(N.drop 1).map some)&&
 (N.drop 1).all (λx=>decide (sc.names.lookup x=some .cell)||decide (sc.names.lookup x=some .free))&&(N.drop 1).all (λx=>decide (scope.names.lookup x=some .free))&&decide (1+js.length=N.length)
section
variable{X:Cx}{tg elt ze:Expr}{ifs:List Expr}{scope:Scope}{pos:Pos}{N N0:List Str}{js:List Nat}{sc:Scope}{wi:TI}{g:TG}{tt:TT}{te:TE}
theorem q9x{x0:Str}{z6:List (Addr×Obj)}{σ:St}{H:Hp}{s:Shared}{it:Addr}{fp:List Addr}{tn:Nat->Heap->Prop}{J:It}{cl:List (Str×Addr)}{Fin:List V->Hp->Prop}{RR:Value->Addr->Result->Shared->Prop}{E:Value->Shared->Prop}
 (hc:X.calm=true) (hsc:X.env.scope=sc) (hN0:X.N=N0) (ok:q3z sc N0 N js scope x0=true)
 (hg:∀s H C cl fp,PG (cxC X N scope s H C cl fp x0) tg g) (hgo:Own 1 g) (ht:∀s H C cl fp,PIf (cxC X N scope s H C cl fp x0) ifs tt) (he:∀s H C cl fp,PE (cxC X N scope s H C cl fp x0) elt te)
 (I:Inv X z6 σ H s) (T:Turn X.prog X.w X.K tg J fp it tn) (st:tn 0 s.heap) (fo:∀b∈fp,FpOk X z6 H b)
 (hcl:∀x c,cl.lookup x=some c->X.env.cells.lookup x=some c) (j6:∀y∈scope.names,y.2=.free->∃c,cl.lookup y.1=some c)
 (G:cGo g tt te (caps 1 js σ) Fin J H)
 (k:∀(D C:Addr) (oC:Obj) (m:Str->Option Value) (ys:List V) (H':Hp) (s':Shared),Inv X (z6++[(C,oC)]) σ (upd H' D (.lst ys)) s'->H' D=none->s'.heap.Ns C m->X.s₀.heap.objs.size<=C->C≠X.env.locals->(∀x c,X.env.cells.lookup x=some c->c≠C)->
   (∀p∈X.pn++z6,p.1≠C)->upd H' D (.lst ys) C=none->Fin ys H'->RR (.ref D) C (.ok .next) s'):
 wpAny (model X.prog X.w) X.A (newList []) (λacc s₃=>wpAny (model X.prog X.w) X.A (newFunctionEnv scope X.env.globals cl [] X.env.qual none .none (some X.env)) (λj8 s₄=>
  codeAny (model X.prog X.w) X.A (.compStart (.ListComp elt [⟨tg,ze,ifs,0⟩] scope pos) 0 (.ref it) acc {j8 with scope:=relabel scope X.env}) (RR acc j8.locals) s₄) E s₃) E s:=by
 simp only[q3z,Bool.and_eq_true,decide_eq_true_eq,List.all_eq_true,Bool.or_eq_true]at ok;obtain⟨⟨⟨⟨⟨⟨⟨⟨kind,cell⟩,cell0⟩,free⟩,nms⟩,cap⟩,lc⟩,lf⟩,len⟩:=ok;subst hN0 hsc;refine xv (qex cell λh1 ns1 cn1 sb1=>?_);dsimp only at ns1 cn1 sb1 ⊢;generalize eG:s.heap.push {cls:=.type "list",dict:=none,data:=.seq ([]:List Value).toArray}=G2 at ns1 cn1 sb1 ⊢;have eC:G2.objs.size=s.heap.objs.size+1:=by rw[<-eG,xk]
 generalize eCC:G2.objs.size=C at ns1 cn1 eC ⊢;generalize eD:s.heap.objs.size=D at eC ⊢;have ltD:∀b o,s.heap.get? b=some o->b<D:=λb o e=>eD▸jd e;have DC:D≠C:=by rw[eC];exact jl (Nat.lt_succ_self _)
 have bC:∀b:Nat,b<D->b≠C:=λb hb z=>by rw[z,eC]at hb;exact absurd hb (Nat.not_lt.mpr (Nat.le_succ _))
 have old:∀b o,s.heap.get? b=some o->h1.get? b=some o:=λb o e=>by refine sb1 b o ?_;rw[<-eG];exact je _ e
 have accD:h1.get? D=some {cls:=.type "list",data:=.seq ([]:List Value).toArray 0}:=by refine sb1 _ _ ?_;rw[<-eG,<-eD];exact jo _ rfl
 have freeD:H D=none:=I.hok.fresh (by rw[eD];exact jf _);have freeC:H C=none:=I.hok.fresh (by rw[eD,eC];exact Nat.le_succ _);have fpD:∀b∈fp,b<D:=λb hb=>let ⟨o,e,_⟩:=T.obj 0 _ st b hb;ltD b o e
 have cellD:∀x c,X.env.cells.lookup x=some c->c<D:=λx c e=>let ⟨v,o,ho,_⟩:=I.cell x c e;ltD c o ho
 have pinD:∀p∈X.pn++z6,p.1<D:=λp hp=>ltD _ _ (I.pin p hp).1;have stkD:∀b∈frs X.stack,b<D:=λb hb=>by
  rcases List.mem_cons.mp (I.stkSub b hb)with e|z
  ·subst e;rw[<-eD];exact I.lt
  ·obtain⟨_,o,ho,_⟩:=I.ok.funs.mem z;rw[<-eD];exact jm (jd ho) I.sz
 have fpS:∀b∈fp,b∉frs X.stack:=λb hb z=>by
  obtain⟨_,f1,f2,_⟩:=fo b hb;rcases List.mem_cons.mp (I.stkSub b z)with e|q
  ·exact f1 e
  ·exact f2 q
 have lk:∀x c,((x0,C+1)::cl).lookup x=some c->(x=x0/\c=C+1)∨(x≠x0/\cl.lookup x=some c):=λx c e=>by
  rw[List.lookup_cons]at e;by_cases hx:x=x0
  ·subst hx;simp only[beq_self_eq_true]at e;cases e;exact .inl ⟨rfl,rfl⟩
  ·rw[beq_eq_false_iff_ne.mpr hx]at e;exact .inr ⟨hx,e⟩
 have lkn:∀x c,x≠x0->cl.lookup x=some c->((x0,C+1)::cl).lookup x=some c:=λx c hx e=>by rw[List.lookup_cons,beq_eq_false_iff_ne.mpr hx];exact e
 have c0D:D<C+1:=by rw[eC];exact Nat.lt_succ_of_lt (Nat.lt_succ_self _)
 have cne:∀b:Nat,b<D->C+1≠b:=λb hb z=>by rw[<-z]at hb;exact absurd (Nat.lt_trans hb c0D) (xc _)
 have fpc:∀b∈fp,∀x c,((x0,C+1)::cl).lookup x=some c->c≠b:=λb hb x c e=>by
  rcases lk x c e with⟨_,h⟩|⟨_,h⟩
  ·rw[h];exact cne b (fpD b hb)
  ·exact(fo b hb).2.2.2.2.1 x c (hcl x c h)
 have freeK:H (C+1)=none:=I.hok.fresh (by rw[eD];exact Nat.le_of_lt c0D);have okB:(cxC X N scope s H C ((x0,C+1)::cl) fp x0).Ok:={
  mod:=I.ok.mod
  kind:=kind
  glob:=I.ok.glob
  blt:=I.ok.blt
  above:=by show s.heap.objs.size<=C;rw[eD,eC];exact Nat.le_succ _
  inj:=λx y c e1 e2=>by
   rcases lk x c e1 with⟨a1,a2⟩|⟨a1,a2⟩<;>rcases lk y c e2 with⟨b1,b2⟩|⟨b1,b2⟩
   ·rw[a1,b1]
   ·exact absurd a2.symm (cne c (cellD y c (hcl y c b2)))
   ·exact absurd b2.symm (cne c (cellD x c (hcl x c a2)))
   ·exact I.ok.inj x y c (hcl x c a2) (hcl y c b2)
  has:=λx hx=>by
   by_cases h0:x=x0
   ·subst h0;exact⟨C+1,by show List.lookup x ((x,C+1)::cl)=_;simp[List.lookup_cons]⟩
   ·obtain⟨y,hy,e,f⟩:=q4p (env:=X.env) (names:=scope.names) (x:=x) hx;rcases f with f|f
    ·subst e;obtain⟨c,q⟩:=j6 y hy f;exact⟨c,lkn _ _ h0 q⟩
    ·have hm:y∈scope.names.filter (λy=>y.2==NameKind.cell):=List.mem_filter.mpr ⟨hy,by rw[f];rfl⟩;rw[cell]at hm;have:=List.mem_singleton.mp hm;subst this;exact absurd e.symm h0
  cab:=λx c z e=>by
   have hx:x=x0:=of_decide_eq_true z;rcases lk x c e with⟨_,h⟩|⟨h,_⟩
   ·rw[h];show s.heap.objs.size<=C+1;rw[eD];exact Nat.le_of_lt c0D
   ·exact absurd hx h
  hd:=I.ok.hd
  frames:=I.ok.frames
  stk:=.inl rfl
  exf:=λb hb=>⟨bC b (fpD b hb),fpc b hb⟩
  bs:=λb o e=>I.bs b o e
  bsz:=ju I.ok.bsz I.sz
  noex:=λb o e hb=>by
   rcases(fo b hb).2.2.2.1 with z|z
   ·exact I.ok.noex b o e z
   ·exact absurd (jm (jd e) (ju I.ok.bsz z)) (xc _)
  exfs:=fpS
  funs:=I.stack
  frf:=I.stkFree}
 have upH:∀b o,s.heap.get? b=some o->h1.get? b=some o:=old;have IB:Inv (cxC X N scope s H C ((x0,C+1)::cl) fp x0) [(D,{cls:=.type "list",data:=.seq ([]:List Value).toArray 0})] (caps 1 js σ) H {s with heap:=h1}:=by
  refine⟨okB,rfl,I.bare,Un.kept old,⟨_,ns1,λi x v e1 e2 e3=>?_⟩,λx c e=>?_,freeC,λx c e=>?_,λp hp=>?_,I.hok.kept old,?_⟩
  ·have hi:1<=i:=by
    by_cases hlt:i<1
    ·rw[q5p hlt]at e2;cases e2
    ·omega
   obtain⟨j,ej,ev⟩:=qb1 hi e2;have hxN:(N.drop 1)[i-1]? =some x:=by rw[List.getElem?_drop,show 1+(i-1)=i by omega];exact e1
   have hxm:x∈N.drop 1:=xq hxN;have eN:X.N[j]? =some x:=by
    have q:(js.map λj=>X.N[j]?)[i-1]? =some (X.N[j]?):=by rw[jk,ej];rfl
    rw[cap,jk,hxN]at q;exact(jh q).symm
   obtain⟨m0,_,hl⟩:=I.loc;have kx:=lc x hxm;have vis:Vis X.env.scope x:=by
    rcases kx with z|z
    ·exact .inr (.inl z)
    ·exact .inr (.inr z)
   obtain⟨u,r,lk⟩:=hl j x v eN ev vis;refine⟨u,r,?_⟩;rcases lk with⟨q,_⟩|⟨_,c,ec,o,ho,hd⟩
   ·exfalso;have q':X.env.scope.names.lookup x=some .local:=q;rcases kx with z|z
    ·rw[z]at q';cases q'
    ·rw[z]at q';cases q'
   ·have fx:scope.names.lookup x=some .free:=lf x hxm;obtain⟨c',ec'⟩:∃c',cl.lookup x=some c':=by
     have hm:(x,NameKind.free)∈scope.names:=mem_of_lookup fx;exact j6 _ hm rfl
    have ecc:c'=c:=by have z:=hcl x c' ec';rw[ec]at z;exact(jh z).symm
    subst ecc;have hx0:x≠x0:=λz=>by rw[z,cell0]at fx;cases fx
    refine .inr ⟨?_,c',lkn _ _ hx0 ec',o,old _ _ ho,hd⟩;rcases e3 with z|z|z
    ·exfalso;have z':(relabel scope X.env).names.lookup x=some .local:=z;exact q30 _ fx z'
    ·exact .inl z
    ·exact .inr z
  ·rcases lk x c e with⟨_,h⟩|⟨_,h⟩
   ·rw[h];exact⟨none,cn1⟩
   ·obtain⟨v,o,ho,hd⟩:=I.cell x c (hcl x c h);exact⟨v,o,old _ _ ho,hd⟩
  ·rcases lk x c e with⟨_,h⟩|⟨_,h⟩
   ·rw[h];exact freeK
   ·exact I.freeC x c (hcl x c h)
  ·have e:p=(D,{cls:=.type "list",data:=.seq ([]:List Value).toArray 0}):=by simpa[cxC]using hp
   subst e;exact⟨accD,freeD,DC,λz=>absurd (stkD D z) (xc _),λv=>by intro z;cases z⟩
  ·show(caps 1 js σ).length=N.length;rw[q7w];exact len
 -- what stays true of the iterator's records
 have stat:∀{H':Hp} {oD:Obj},(∀b∈fp,H' b=none)->∀b∈fp,FpOk (cxC X N scope s H C ((x0,C+1)::cl) fp x0) [(D,oD)] H' b:=λ{H' oD} hn b hb=>
  ⟨hn b hb,bC b (fpD b hb),fpS b hb,.inl hb,fpc b hb,λp hp=>by
    have e:p=(D,oD):=by simpa[cxC]using hp
    subst e;exact Nat.ne_of_gt (fpD b hb)⟩
 obtain⟨W,⟨m0,w0⟩,zr⟩:=G;have loop:codeAny (model X.prog X.w) X.A (.compLoop (.ListComp elt [⟨tg,ze,ifs,0⟩] scope pos) 0 (.ref it) (.ref D) (compEnvC scope ((x0,C+1)::cl) C X.env)) (RR (.ref D) C) {s with heap:=h1}:=by
  refine q8y (λm s'=>∃(i:Nat) (ys:List V) (its:List Value) (kk:Nat) (σ':St) (H':Hp),Inv (cxC X N scope s H C ((x0,C+1)::cl) fp x0) [(D,{cls:=.type "list",data:=.seq its.toArray kk})] σ' H' s'/\Vals ys its/\(σ'.length=(caps 1 js σ).length/\∀i,1<=i->σ'[i]? =(caps 1 js σ)[i]?)/\
   tn i s'.heap/\(∀b∈fp,H' b=none)/\W i m ys H') ?_ m0 ⟨0,[],[],0,_,H,IB,.nil,⟨rfl,λ_ _=>rfl⟩,T.keep _ _ _ st λb hb o e=>old b o e,λb hb=>(fo b hb).1,w0⟩
  rintro m s3 ⟨i,ys,its,kk,σ3,H3,I3,r3,⟨l3,a3⟩,st3,fr3,w3⟩;have I3':Inv (cxC X N scope s H C ((x0,C+1)::cl) fp x0) [(D,{cls:=.type "list",data:=.seq its.toArray kk})] (caps 1 js σ) H3 s3:=I3.weak l3.symm λj v e=>by
   by_cases hj:j<1
   ·rw[q5p hj]at e;cases e
   ·rw[a3 j (by omega)];exact e
  rcases zr i m ys H3 w3 with⟨stop,hz,fin⟩|⟨go,hz,Nn,hNn,step⟩
  ·refine x8 (T.done (cxC X N scope s H C ((x0,C+1)::cl) fp x0) rfl rfl rfl hc i _ s3 _ H3 (λ_ _=>False) I3' (stat fr3) st3 stop) (λr s4 h4=>?_) λ_ _ z=>z;obtain⟨hr,I4⟩:=h4;refine .inl ⟨hr,?_⟩;have pD:=I4.pin (D,{cls:=.type "list",data:=.seq its.toArray kk}) (by simp[cxC]);obtain⟨mC,nsC,_⟩:=I4.loc;obtain⟨oC,es,ep,hoC,dC,rC⟩:=id nsC;have J4:Inv X z6 σ H3 s4:=I.call' (s':=s4) I4.os (ch:=fp) I4.base I4.hok I4.bare λb hb=>by
    obtain⟨_,f1,f2,f3,f4,f5⟩:=fo b hb;exact⟨f3,f1,f4,f5⟩
   have fC:H3 C=none:=I4.free;have ltL:X.env.locals<D:=eD▸I.lt;have cL:C≠X.env.locals:=(bC _ ltL).symm;have cC:∀x c,X.env.cells.lookup x=some c->c≠C:=λx c e=>bC c (cellD x c e);have cP:∀p∈X.pn++z6,p.1≠C:=λp hp=>bC p.1 (pinD p hp);have cS:X.s₀.heap.objs.size<=C:=ju I.sz (by rw[eD,eC];exact Nat.le_succ _);have dS:X.s₀.heap.objs.size<=D:=by have:=I.sz;rw[eD]at this;exact this
   have cF:C∉X.fs:=λz=>by obtain⟨_,o,ho,_⟩:=I.ok.funs.mem z;exact xc _ (jm (jd ho) cS)
   have J5:Inv X (z6++[(C,oC)]) σ H3 s4:=J4.pins_of λp hp=>(List.mem_append.mp hp).elim (λz=>J4.pin p (jw _ z)) λz=>by
    have e:p=(C,oC):=by simpa using z
    subst e;exact⟨hoC,fC,cL,cF,λv z=>by have z':oC.data=.cell v:=z;rw[dC]at z';cases z'⟩
   refine k D C oC mC ys H3 s4 (J5.track pD.2.1 dS (Nat.ne_of_gt ltL) (λx c e=>jl (cellD x c e)) (λp hp=>?_) ?_) pD.2.1 nsC cS cL cC cP ?_ fin
   ·rcases List.mem_append.mp hp with z|z
    ·exact jl (pinD p (List.mem_append_left _ z))
    ·rcases List.mem_append.mp z with z|z
     ·exact jl (pinD p (jw _ z))
     ·have e:p=(C,oC):=by simpa using z
      subst e;exact Ne.symm DC
   ·exact⟨hz,its,kk,r3,pD.1⟩
   ·rw[q0i (Ne.symm DC)];exact fC
  ·refine x8 (T.item (cxC X N scope s H C ((x0,C+1)::cl) fp x0) rfl rfl rfl hc i _ s3 _ H3 (λ_ _=>False) I3' (stat fr3) st3 go) (λr s4 h4=>?_) λ_ _ z=>z;obtain⟨u,hr,h4⟩:=h4;refine .inr ⟨u,hr,?_⟩;refine thn h4 λ_ s5 h5=>?_;obtain⟨x,H5,I5,r5,y5,st5,fr5⟩:=h5;have I5':=I5.pinned (stat fr5) (T.obj _ _ st5);refine thn (hg s H C ((x0,C+1)::cl) fp _ s5 _ H5 x u _ I5' r5 (hgo _ _ _ _ (step x H5 y5))) λ_ s6 h6=>?_;obtain⟨σ6,H6,I6,q6,l6,a6⟩:=h6;refine thn (ht s H C ((x0,C+1)::cl) fp _ s6 σ6 H6 _ I6 q6) λok s7 h7=>?_;obtain⟨H7,I7,q7⟩:=h7;have stays:∀{H8:Hp} {s8:Shared},Inv (cxC X N scope s H C ((x0,C+1)::cl) fp x0) ([(D,{cls:=.type "list",data:=.seq its.toArray kk})]++q70 fp s5.heap) σ6 H8 s8->(∀b∈fp,∀o,s5.heap.get? b=some o->s8.heap.get? b=some o)/\∀b∈fp,H8 b=none:=λ{H8 s8} I8=>
    ⟨λb hb o e=>(I8.pin (b,o) (jw _ (jw _ (q38 hb e)))).1,λb hb=>by obtain⟨o,e,d⟩:=T.obj _ _ st5 b hb;exact(I8.pin (b,o) (jw _ (jw _ (q38 hb e)))).2.1⟩
   cases ok with
   | false=>
    obtain⟨m',hm,w7⟩:=hNn ys H7 (show Nn ys H7 from q7);obtain⟨z1,z2⟩:=stays I7;exact⟨m',hm,i+1,ys,its,kk,σ6,H7,I7.unpinned,r3,⟨l6,a6⟩,T.keep _ _ _ st5 z1,z2,w7⟩
   | true=>
    show wpAny _ _ (eval elt _) _ _ s7;refine thn (he s H C ((x0,C+1)::cl) fp _ s7 σ6 H7 _ I7 q7) λy s8 h8=>?_;obtain⟨vy,H8,I8,ry,n8⟩:=h8;obtain⟨m',hm,w8⟩:=hNn _ _ n8;obtain⟨z1,z2⟩:=stays I8;have pD:=I8.pin (D,{cls:=.type "list",data:=.seq its.toArray kk}) (by simp[cxC]);have lenits:its.length<sizeLine:=by rw[<-r3.length];exact hz
    refine append_at pD.1 (λh9 hs9 hD9=>?_) (by simpa using Nat.le_of_lt lenits);have keep9:∀b o,b≠D->s8.heap.get? b=some o->h9.get? b=some o:=λb o hb e=>hs9.extBut b o hb e;have I9:Inv (cxC X N scope s H C ((x0,C+1)::cl) fp x0) [] σ6 H8 {s8 with heap:=h9}:=(I8.pins_of (pins':=[]) λp hp=>nomatch hp).turned (it:=D) keep9 pD.2.1 DC (.inr (by show s.heap.objs.size<=D;rw[eD];exact jf _))
     (λx c e=>by
           rcases lk x c e with⟨_,h⟩|⟨_,h⟩
           ·rw[h];exact Nat.ne_of_gt c0D
           ·exact jl (cellD x c (hcl x c h))) λp hp=>by simp[cxC]at hp
    refine⟨m',hm,i+1,ys++[vy],its++[y],kk+1,σ6,H8,I9.pins_of λp hp=>?_,r3.append (.cons ry .nil),⟨l6,a6⟩,T.keep _ _ _ st5 λb hb o e=>keep9 b o (jl (fpD b hb)) (z1 b hb o e),z2,w8⟩;have e:p=(D,{cls:=.type "list",data:=.seq (its++[y]).toArray (kk+1)}):=by simpa using hp
    subst e;refine⟨?_,pD.2.1,DC,λz=>absurd (stkD D z) (xc _),λv z=>by cases z⟩;show h9.get? D=_;rw[hD9,List.push_toArray]
 exact codeAny_compStart_list loop (T.self _ 0 _ _ _ (T.keep _ _ _ st λb hb o e=>old b o e) loop)
theorem qf3{x0:Str}{z6:List (Addr×Obj)}{σ:St}{H:Hp}{s:Shared}(I:Inv X z6 σ H s)(hsc:X.env.scope=sc)(ok:q3z sc N0 N js scope x0=true):∀y∈scope.names,y.2=.free->∃c,X.env.cells.lookup y.1=some c:=by
 simp only[q3z,Bool.and_eq_true,decide_eq_true_eq,List.all_eq_true,Bool.or_eq_true]at ok;obtain⟨⟨⟨⟨⟨⟨⟨⟨kind,cell⟩,cell0⟩,free⟩,nms⟩,cap⟩,lc⟩,lf⟩,len⟩:=ok;subst hsc;intro y hy hf;rcases free y hy with(z|z)|z
 ·exact absurd hf z
 ·exact I.ok.has y.1 (.inl z)
 ·exact I.ok.has y.1 (.inr z)
theorem q9w{x0:Str}(ok:q3z sc N0 N js scope x0=true):scope.kind=.function/\∀x∈scope.names,x.2=.local->scope.names.lookup x.1=some .local:=by
 simp only[q3z,Bool.and_eq_true,decide_eq_true_eq,List.all_eq_true,Bool.or_eq_true]at ok;obtain⟨⟨⟨⟨⟨⟨⟨⟨kind,cell⟩,cell0⟩,free⟩,nms⟩,cap⟩,lc⟩,lf⟩,len⟩:=ok;refine⟨kind,λx hx hl=>?_⟩;rcases nms x hx with z|z
 ·exact absurd hl z
 ·exact z
theorem qg8{x0:Str}{k:Nat}{y:Str}{py j3:Pos}(hc:X.calm=true)(hsc:X.env.scope=sc)(hN0:X.N=N0)(ok:q3z sc N0 N js scope x0=true)(hN:X.N.Nodup)(hk:X.N[k]? =some y)(hy:Loc X.env.scope y)
 (hi:PI X tg ze wi) (hg:∀s H C cl fp,PG (cxC X N scope s H C cl fp x0) tg g) (hgo:Own 1 g) (ht:∀s H C cl fp,PIf (cxC X N scope s H C cl fp x0) ifs tt) (he:∀s H C cl fp,PE (cxC X N scope s H C cl fp x0) elt te)
 (hsw:swapsWith (.ListComp elt [⟨tg,ze,ifs,0⟩] scope pos) (some (.Name y py)) j3.line X.env=pure true:=by rfl) (hs:∀x,foldedSetIterable ze X.env x=pure x:=by intro _;rfl)
 (hf:X.fn y=true∨X.env.scope.names.lookup y=some .local:=by first|exact .inl rfl|exact .inr rfl):PS X (.Assign [.Name y py] (.ListComp elt [⟨tg,ze,ifs,0⟩] scope pos) j3) (q9d k 1 js wi g tt te):=by
 intro z6 s σ H D0 I h;obtain⟨cl,hclos,c1,c2⟩:=q40 (qf3 I hsc ok);obtain⟨kd,nm⟩:=q9w ok;rw[exec_Assign_Name_used _ _ _ _ hsw];refine ja (wpAny_standAt (ja ?_));show wpAny _ X.A (comprehension (.ListComp elt [⟨tg,ze,ifs,0⟩] scope pos) scope X.env _ (newList []) false (eval ze X.env) (some (assign (.Name y py) X.env)) >>= λ_=>pure ()) _ _ s;refine ja (x8 (wpAny_comprehension_free (use:=some (assign (.Name y py) X.env)) (Q:=λ_ s'=>SP X z6 D0 .next s') rfl hs hclos kd nm ?_) (λ_ s' q=>jc (jc q)) λ_ _ z=>z);refine thn (hi z6 s σ H _ I h) λv s1 h1=>thn h1 λitv s2 h2=>?_;obtain⟨it,fp,tn,J,H2,e,I2,T,st2,f2,G⟩:=h2;subst e;refine q9x (RR:=λacc C=>compPost (model X.prog X.w) X.A X.xe (some (assign (.Name y py) X.env)) (λ_ s'=>SP X z6 D0 .next s') acc C) hc hsc hN0 ok hg hgo ht he I2 T st2 f2 c1 c2 G ?_;intro D C oC m ys H' s' I' hD ns k1 k2 k3 k4 k5 fin;show wpAny _ X.A (assign (.Name y py) X.env (.ref D)) _ _ s';refine wpAny_assign_Name (q5l I' hN hk hy (v:=.ref D) rfl (λs'' I''=>?_) hf);have pc:=I''.pin (C,oC) (jw _ (jw _ jj));obtain⟨o,es,ep,ho,r⟩:=ns;have pc':=I'.pin (C,oC) (jw _ (jw _ jj));have eo:o=oC:=by have z:=pc'.1;rw[ho]at z;exact jh z
 subst eo;exact⟨m,⟨o,es,ep,pc.1,r⟩,λh' hs'=>⟨_,_,I''.butC hs' k1 k2 k3 k4 k5,fin D hD⟩⟩
end
end L2
namespace L2
def Bits(w:List Int):Prop:=∀b∈w,b=0∨b=1
theorem take_snoc{α:Type}{u:List α}{i:Nat}{b:α}(q:u[i]? =some b):u.take (i+1)=u.take i++[b]:=List.take_add_one.trans (by rw[q];rfl)
def parF:Nat->Nat->Nat
 |0,_=>0
 |f+1,n=>(n % 2+parF f (n / 2)) % 2
theorem q8g:∀f,parF f 0=0
 |0=>rfl
 |f+1=>by unfold parF;rw[show(0:Nat) / 2=0 from rfl,q8g f]
theorem qdm:∀f n,parF f n<2
 |0,_=>Nat.zero_lt_two
 |f+1,n=>Nat.mod_lt _ (by decide)
def sgn(win tap:Int):Int:=(parF 5 (win.toNat &&& tap.toNat):Nat)
theorem qjh(a t:Int):sgn a t=0∨sgn a t=1:=by have:=qdm 5 (a.toNat &&& t.toNat);unfold sgn;omega
def q2u(row:List Int)(signs:List Int):List Int:=((signs.zip row).filter λq=>q.2==1).map (·.1)
theorem q8f(row taps:List Int)(g:Int->Int):q2u row (taps.map g)=((taps.zip row).filter λq=>q.2==1).map λq=>g q.1:=by unfold q2u;rw[List.zip_map_left,List.filter_map,jn];rfl
theorem qdi(row signs:List Int):(q2u row signs).length<=signs.length:=by unfold q2u;rw[jb];refine ju (List.length_filter_le _ _) ?_;rw[xo];exact xl _ _
def rowAt(rows:List (List Int))(k:Nat):List Int:=(rows[k % rows.length]?).getD []
theorem q3y{α:Type}(f:Nat->List α)(k:Nat):(List.range (k+1)).flatMap f=(List.range k).flatMap f++f k:=by rw[List.range_succ,List.flatMap_append];simp
theorem q42{α:Type}(f:Nat->List α)(m:Nat)(h:∀k,(f k).length<=m):∀n,((List.range n).flatMap f).length<=n*m
 |0=>by simp
 | n+1=>by rw[q3y,jy];have:=q42 f m h n;have:=h n;rw[Nat.succ_mul];omega
def selK(taps:List Int)(rows:List (List Int))(k:Nat):List (Int×Int):=(taps.zip (rowAt rows k)).filter λq=>q.2==1
end L2
namespace L2
open PySem
def rowD(row:List Int):D:=.tup (row.map D.int)
def schD(r:Int)(taps:List Int)(rows:List (List Int))(e:Str):D:=.tup [.int r,.tup (taps.map D.int),.tup (rows.map rowD),.str e]
structure q28(r:Int)(taps:List Int)(rows:List (List Int))(e:Str):Prop where
 r0:0<=r
 r4:r<=4
 t1:1<=taps.length
 t4:taps.length<=4
 tb:∀t∈taps,0<=t/\t<2*2^r.toNat
 m1:1<=rows.length
 m6:rows.length<=6
 rw:∀row∈rows,row.length=taps.length/\∀b∈row,b=0∨b=1
 en:e="open"∨e="ended"∨e="ring"
theorem qqu{a b:Int}(k:Prop)[Decidable k]:∃r:Int,atI [D.int a,D.int b] (if k then 1 else 0)=some (.int r)/\(r=a∨r=b):=by
 by_cases h:k
 ·rw[if_pos h];exact⟨b,rfl,.inr rfl⟩
 ·rw[if_neg h];exact⟨a,rfl,.inl rfl⟩
theorem q9t{P:Int->Prop}:∀{ys:List D},(∀y∈ys,∃t,y=.int t/\P t)->∃ts:List Int,ys=ts.map D.int/\∀t∈ts,P t
 |[],_=>⟨[],rfl,λ_ h=>nomatch h⟩
 | y::ys,h=>by
  obtain⟨t,rfl,ht⟩:=h y jj;obtain⟨ts,rfl,hs⟩:=q9t (P:=P) λz hz=>h z (jg _ hz);refine⟨t::ts,rfl,λu hu=>?_⟩;rcases List.mem_cons.mp hu with rfl|hu
  ·exact ht
  ·exact hs u hu
theorem s_or:eqD (.str "open") (.str "ring")=some false:=by rw[q2j (by decide+kernel) (by decide+kernel)];decide+kernel
theorem s_er:eqD (.str "ended") (.str "ring")=some false:=by rw[q2j (by decide+kernel) (by decide+kernel)];decide+kernel
theorem s_rr:eqD (.str "ring") (.str "ring")=some true:=by rw[q2j (by decide+kernel) (by decide+kernel)];decide+kernel
theorem s_oe:eqD (.str "open") (.str "ended")=some false:=by rw[q2j (by decide+kernel) (by decide+kernel)];decide+kernel
theorem s_ee:eqD (.str "ended") (.str "ended")=some true:=by rw[q2j (by decide+kernel) (by decide+kernel)];decide+kernel
theorem s_re:eqD (.str "ring") (.str "ended")=some false:=by rw[q2j (by decide+kernel) (by decide+kernel)];decide+kernel
theorem qlu{α:Type}(xs:List α)(x:α):atI (xs++[x]) (-1)=some x:=by
 unfold atI ixN;have h1:¬((0:Int)<= -1):=by decide
 have h2:(-(((xs++[x]).length:Nat):Int)<= -1):=by rw[jy,List.length_singleton];omega
 have h3:((-1:Int)+(((xs++[x]).length:Nat):Int)).toNat=xs.length:=by rw[jy,List.length_singleton];omega
 rw[if_neg h1,if_pos h2,h3];show(xs++[x])[xs.length]? =some x;rw[xx (jf _),Nat.sub_self];rfl
def isRing(e:Str):Bool:=decide (e="ring")
def q0e(r:Int)(e:Str):Nat:=if e="ended" then r.toNat else 0
theorem qff{x:Int}(h:0<=x):Builtin.bitAnd x 1=x % 2:=by unfold Builtin.bitAnd;rw[decide_eq_true h,decide_eq_true (by decide:(0:Int)<=1)];show((x.toNat &&& 1:Nat):Int)=x % 2;rw[Nat.and_one_is_mod];omega
theorem qa3{x y:Int}(h:0<=x)(g:0<=y):Builtin.bitAnd x y=((x.toNat &&& y.toNat:Nat):Int):=by unfold Builtin.bitAnd;rw[decide_eq_true h,decide_eq_true g]
theorem qfh{x y:Int}(h:x=0∨x=1)(g:y=0∨y=1):Builtin.bitXor x y=(x+y) % 2:=by rcases h with rfl|rfl<;>rcases g with rfl|rfl<;>decide
theorem q3b{r:Int}(r0:0<=r)(r4:r<=4):(1:Int)<=2^r.toNat/\(2:Int)^r.toNat<=16:=by rcases(by omega:r=0∨r=1∨r=2∨r=3∨r=4)with rfl|rfl|rfl|rfl|rfl<;>decide
end L2
namespace L2
open PySem PySem.Spec PyProof.Rows
section
variable{prog:Program}{w:World}{A:Around}{E:Value->Shared->Prop}{s:Shared}{a₀:Array Keyed}
end
section
variable{X:Cx}{K:FrG}
end
section
variable{K:FrG}{O:List Nat}{t tb:TE}{fa fb:RhD}
end
section
variable{X:Cx}
end
section
variable{X:Cx}
end
section
variable{K:FrG}{O:List Nat}{t tb:TE}{fa fb:RhD}
end
section
variable{c:MC}{O O':List Nat}{te:TE}{fe:RhD}
end
section
variable{K:FrG}{O:List Nat}{tr:TA}{fs:RhL}{E:XK}{n:Nat}
end
section
variable{X:Cx}{K:FrG}{o e:Expr}{es:List Expr}{to:TE}{t:TA}{name:Str}{zv zi:Pos}{T id:String}{r:V->List V->Hp->VK->Prop}
end
end L2
namespace L2
open PySem PySem.NumText
end L2
namespace L2
open PySem PySem.NumText
end L2
namespace L2
open PySem PySem.Spec
section
variable{fa:RhD}{fl fh:Rho->Option (Option Int×Rho)}{ρ:Rho}
end
end L2
namespace L2
open PySem PySem.Spec
def DOk(n:Nat)(d:D):Prop:=∃p,d.toP=some p/\p.canLay0=true/\p.depth<=n
def DOks(n:Nat)(ds:List D):Prop:=∃ps,D.toPs ds=some ps/\PyData.canLayAll0 ps=true/\PyData.depthAll ps<=n
theorem DOk.int(n:Nat)(i:Int):DOk n (.int i):=⟨.int i,by simp only[D.toP],by simp only[PyData.canLay0],by simp only[PyData.depth];exact Nat.zero_le _⟩
theorem DOk.bl(n:Nat)(i:Bool):DOk n (.bl i):=⟨.bool i,by simp only[D.toP],by simp only[PyData.canLay0],by simp only[PyData.depth];exact Nat.zero_le _⟩
theorem DOk.str(n:Nat){x:Str}(h:PyData.strOk x=true):DOk n (.str x):=⟨.str x,by simp only[D.toP],by simp only[PyData.canLay0];exact h,by simp only[PyData.depth];exact Nat.zero_le _⟩
theorem DOks.nil(n:Nat):DOks n []:=⟨[],by simp only[D.toPs],by simp only[PyData.canLayAll0],by simp only[PyData.depthAll];exact Nat.zero_le _⟩
theorem DOks.cons{n:Nat}{d:D}{ds:List D}(h:DOk n d)(r:DOks n ds):DOks n (d::ds):=by obtain⟨p,h1,h2,h3⟩:=h;obtain⟨ps,g1,g2,g3⟩:=r;refine⟨p::ps,by simp only[D.toPs,h1,g1],by simp only[PyData.canLayAll0,h2,g2];rfl,?_⟩;simp only[PyData.depthAll];exact Nat.max_le.mpr ⟨h3,g3⟩
theorem DOks.all{n:Nat}:∀{ds:List D},(∀d∈ds,DOk n d)->DOks n ds
 |[],_=>DOks.nil n
 |d::ds,h=>DOks.cons (h d jj) (DOks.all λx hx=>h x (jg _ hx))
theorem DOks.lst{n:Nat}{ds:List D}(h:DOks n ds):DOk (n+1) (.lst ds):=by obtain⟨ps,g1,g2,g3⟩:=h;exact⟨.list ps,by simp only[D.toP,g1];rfl,by simp only[PyData.canLay0];exact g2,by simp only[PyData.depth];omega⟩
theorem DOks.tup{n:Nat}{ds:List D}(h:DOks n ds):DOk (n+1) (.tup ds):=by obtain⟨ps,g1,g2,g3⟩:=h;exact⟨.tuple ps,by simp only[D.toP,g1];rfl,by simp only[PyData.canLay0];exact g2,by simp only[PyData.depth];omega⟩
theorem qaw{n:Nat}{d:D}(h:DOk n d)(hn:n<=64):eqD d d=some true:=by
 obtain⟨p,h1,h2,h3⟩:=h;have hs:SeqAt.shaped p=true:=by unfold SeqAt.shaped;rw[h2,decide_eq_true (by omega:p.depth<=64)];rfl
 unfold eqD;rw[h1];show(if SeqAt.shaped p=true/\SeqAt.shaped p=true then some (PyData.eqv p p)else none)=some true;rw[if_pos ⟨hs,hs⟩,SeqAt.eqv_refl p h2]
theorem DOk.le{n m:Nat}{d:D}(h:DOk n d)(hn:n<=m):DOk m d:=by obtain⟨p,h1,h2,h3⟩:=h;exact⟨p,h1,h2,by omega⟩
end L2
namespace L2
open PySem PySem.Spec
end L2
namespace L2
open PySem
inductive Told where
 |clear (b:Int)
 |gap
 |soft (z o:Int)
def q0n:Told->D
 |.clear b=>.tup [.str "clear",.int b]
 |.gap=>.tup [.str "gap"]
 |.soft z o=>.tup [.str "soft",.int z,.int o]
def objD:Told->D
 |.clear b=>.obj "Clear" [("bit",.int b)]
 |.gap=>.obj "Gap" []
 |.soft z o=>.obj "Soft" [("zero",.int z),("one",.int o)]
def q3t:Told->Int->Int
 |.clear b,x=>if x=b then 0 else 1
 |.gap,_=>0
 |.soft z o,x=>if x=1 then o else z
def qf2(ts:List Told)(bits:List Int):Int:=((ts.zip bits).map λq=>q3t q.1 q.2).sum
theorem q7r{x m:Str}{f:List D->Option D}{gs:List (Str×D)}{ds:List D}(h:gs.lookup m=none):q6s x m f (.obj x gs) ds=f (.obj x gs::ds):=if_pos ⟨rfl,h⟩
theorem q6b{x y m:Str}{f:List D->Option D}{gs:List (Str×D)}{ds:List D}(h:¬y=x):q6s x m f (.obj y gs) ds=none:=if_neg λq=>h q.1
theorem q9u{x f:Str}{gs:List (Str×D)}{d:D}(h:gs.lookup f=some d):fldO x f (.obj x gs)=some d:=(if_pos rfl).trans h
def q0f(taps:List Int)(rows:List (List Int))(N:Nat):List Int:=(List.range N).flatMap λk=>List.replicate (selK taps rows k).length (k:Int)
theorem q5k(xs ys:List D):zipD xs ys=(xs.zip ys).map λq=>D.tup [q.1,q.2]:=by unfold zipD;rw[List.zip,List.map_zipWith]
theorem q4o{α β γ δ:Type}(f:α->γ)(g:β->δ):∀(xs:List α) (ys:List β),(xs.map f).zip (ys.map g)=(xs.zip ys).map λq=>(f q.1,g q.2)
 |[],_=>rfl
 |_::_,[]=>rfl
 | x::xs,y::ys=>by show(f x,g y)::(xs.map f).zip (ys.map g)=(f x,g y)::(xs.zip ys).map _;rw[q4o f g xs ys]
theorem t_cg:eqD (.str "gap") (.str "clear")=some false:=by rw[q2j (by decide+kernel) (by decide+kernel)];decide+kernel
theorem t_cs:eqD (.str "soft") (.str "clear")=some false:=by rw[q2j (by decide+kernel) (by decide+kernel)];decide+kernel
theorem t_gs:eqD (.str "soft") (.str "gap")=some false:=by rw[q2j (by decide+kernel) (by decide+kernel)];decide+kernel
theorem t_cc:eqD (.str "clear") (.str "clear")=some true:=by rw[q2j (by decide+kernel) (by decide+kernel)];decide+kernel
theorem t_gg:eqD (.str "gap") (.str "gap")=some true:=by rw[q2j (by decide+kernel) (by decide+kernel)];decide+kernel
theorem qc8(f:RhO)(fx:Xr):xSeq f fx xNo=fx:=by
 funext ρ;unfold xSeq;cases h:fx ρ with
 |some q=>rfl
 | none=>
  cases f ρ with
  |none=>rfl
  |some o=>cases o<;>rfl
theorem DOk.told(t:Told):DOk 1 (q0n t):=by
 cases t with
 |clear b=>exact DOks.tup (.cons (.str _ (by decide+kernel)) (.cons (.int _ _) (.nil _)))
 |gap=>exact DOks.tup (.cons (.str _ (by decide+kernel)) (.nil _))
 |soft z o=>exact DOks.tup (.cons (.str _ (by decide+kernel)) (.cons (.int _ _) (.cons (.int _ _) (.nil _))))
theorem DOk.tolds(ts:List Told):DOk 2 (.lst (ts.map q0n)):=DOks.lst (.all λd hd=>by obtain⟨i,_,rfl⟩:=List.mem_map.mp hd;exact .told i)
end L2
namespace L2
open PySem PySem.Spec PyProof.Rows
section
variable{X:Cx}
end
section
variable{K:FrG}{O:List Nat}{t tb:TE}{fa fb:RhD}
end
end L2
namespace L2
open PySem PySem.Spec
end L2
namespace L2
open PySem PySem.Spec PyProof.Rows
section
variable{X:Cx}
end
section
variable{K:FrG}{O:List Nat}{t tb:TE}{fa fb:RhD}
end
section
variable{X:Cx}{z6:List (Addr×Obj)}{σ:St}{CX:CXT}{k:Nat}{f:Addr}{fd:FuncData}{ps:List Str}{sp:Sp}{dvs:List V}{ds:List Value}{E:XK}{x:Str}{p pos:Pos}{e:Expr}{es:List Expr}{t:TA}{i:Nat}
end
section
variable{K:FrG}{O:List Nat}{tr:TA}{fs:RhL}{E:XK}{n:Nat}
end
section
variable{prog:Program}{w:World}{A:Around}{E:Value->Shared->Prop}{s:Shared}
end
section
variable{X:Cx}{a b:Expr}{ta:TA}{p pos:Pos}{zq:List Expr}{x1:Nat}{tp:Pos}
end
section
variable{K:FrG}{O:List Nat}{tr:TA}{fs:RhL}
end
end L2
namespace L2
open PySem PySem.Spec PySem.NumText
section
variable{K:FrG}{O:List Nat}{E:XK}
end
end L2
namespace L2
open PySem PySem.Spec PyProof.Rows
section
variable{c:MC}{O O':List Nat}{te:TE}{fa:RhD}
end
section
variable{M:Model}{A:Around}{E:Value->Shared->Prop}{s:Shared}{B:Heap}{env:Env}{outer l:List Env}{L e:Addr}{cls fl:Value}{Q:Unit->Shared->Prop}
end
section
variable{X:Cx}{z6:List (Addr×Obj)}{σ:St}{H H':Hp}{s:Shared}
end
section
variable{P:Program}{w:World}{K:FrG}{mg:Str->Option Value}{base:Heap}{N:List Str}{qual:Str}{scope:Scope}{f:Addr}{cd:Value}{A:Around}{outer:List Env}{s₀:Shared}{H₀:Hp}{E:XK}
end
section
variable{X:Cx}{tg elt ze:Expr}{ifs:List Expr}{scope:Scope}{pos:Pos}{N N0:List Str}{n:Nat}{js:List Nat}{sc:Scope}{wi:TI}{g:TG}{tt:TT}{te:TE}
end
section
variable{X:Cx}{tg elt ze:Expr}{ifs:List Expr}{scope:Scope}{pos:Pos}{N N0:List Str}{n:Nat}{js:List Nat}{sc:Scope}{wi:TI}{g:TG}{tt:TT}{te:TE}
end
@[irreducible] def QSs(X:Cx)(st:List Stmt)(t:TS):Prop:=PSs X st t
section
variable{X:Cx}{st:Stmt}{sts a b:List Stmt}{t u:TS}{tc:TT}{c tg ze:Expr}{wi:TI}{g:TG}{pos:Pos}
end
inductive Inn(K:FrG)(H R:Hp):List Addr->List (List D)->Prop
 |nil:Inn K H R [] []
 |cons {a:Addr} {as:List Addr} {vs:List V} {ds:List D} {dss:List (List D)}:H a=some (.lst vs)->R a=none->Rps K R vs ds->Inn K H R as dss->Inn K H R (a::as) (ds::dss)
structure Deep(K:FrG)(H R:Hp)(l:Addr)(as:List Addr)(dss:List (List D)):Prop where
 top:H l=some (.lst (as.map V.ref))
 rl:R l=none
 inn:Inn K H R as dss
 nd:(l::as).Nodup
theorem StR.put{K:FrG}{Z:Anc}{O:List Nat}{σ:St}{H R:Hp}{ρ:Rho}{a:Addr}{o:HO}(S:StR K Z O σ H R ρ)(hr:R a=none)(n:∀i,i∈O->σ[i]? ≠some (some (.ref a)))(z:Z.H0 a=none):StR K Z O σ (upd H a o) R ρ:=by
 have ne:∀b u,Z.H0 b=some u->b≠a:=λb u e q=>by rw[q,z]at e;cases e
 refine⟨λb u e=>?_,S.len,S.env,λi hi=>?_,S.dis,λb u e nl=>?_,S.ar,S.an,λb h=>?_,S.ao,S.ap⟩
 ·have q:b≠a:=λq=>by rw[q,hr]at e;cases e
  rw[q0i q];exact S.sub b u e
 ·obtain⟨l,vs,ds,h1,h2,h3,h4,h5⟩:=S.own i hi;have q:l≠a:=λq=>n i hi (by rw[h2,q]);exact⟨l,vs,ds,h1,h2,by rw[q0i q];exact h3,h4,h5⟩
 ·rw[q0i (ne b u e)];exact S.ah b u e nl
 ·have q:b≠a:=λq=>h (by rw[q];exact z);have l:=S.ad b h;unfold Liv at l ⊢;rw[q0i q];exact l
theorem Inn.has{K:FrG}{H R:Hp}{as:List Addr}{dss:List (List D)}(h:Inn K H R as dss):∀a∈as,∃vs,H a=some (.lst vs):=by
 induction h with
 |nil=>exact λ_ h=>nomatch h
 | cons h1 _ _ _ ih=>
  intro a ha;rcases List.mem_cons.mp ha with rfl|ha
  ·exact⟨_,h1⟩
  ·exact ih a ha
theorem Inn.wr{K:FrG}{H R:Hp}{as:List Addr}{dss:List (List D)}{b:Addr}{o:HO}(h:Inn K H R as dss)(n:b∉as):Inn K (upd H b o) R as dss:=by
 induction h with
 |nil=>exact .nil
 | cons h1 h2 h3 _ ih=>
  exact .cons (by rw[q0i λq=>n (by rw[q];exact jj)];exact h1) h2 h3 (ih λq=>n (jg _ q))
theorem Inn.snoc{K:FrG}{H R:Hp}{as:List Addr}{dss:List (List D)}{b:Addr}{vs:List V}{ds:List D}(h:Inn K H R as dss)(h1:H b=some (.lst vs))(h2:R b=none)(h3:Rps K R vs ds):Inn K H R (as++[b]) (dss++[ds]):=by
 induction h with
 |nil=>exact .cons h1 h2 h3 .nil
 |cons g1 g2 g3 _ ih=>exact .cons g1 g2 g3 ih
theorem Inn.len{K:FrG}{H R:Hp}{as:List Addr}{dss:List (List D)}(h:Inn K H R as dss):as.length=dss.length:=by
 induction h with
 |nil=>rfl
 |cons _ _ _ _ ih=>rw[jr,jr,ih]
theorem Inn.at{K:FrG}{H R:Hp}{as:List Addr}{dss:List (List D)}(h:Inn K H R as dss):∀{k:Nat} {a:Addr},as[k]? =some a->∃vs ds,dss[k]? =some ds/\H a=some (.lst vs)/\R a=none/\Rps K R vs ds:=by
 induction h with
 |nil=>intro k a e;simp at e
 | cons h1 h2 h3 _ ih=>
  intro k a e;cases k with
  | zero=>
   cases e;exact⟨_,_,rfl,h1,h2,h3⟩
  |succ k=>exact ih e
theorem Inn.setAt{K:FrG}{H R:Hp}{as:List Addr}{dss:List (List D)}{vs:List V}{ds:List D}(h:Inn K H R as dss)(r:Rps K R vs ds):∀{k:Nat} {a:Addr},as.Nodup->as[k]? =some a->Inn K (upd H a (.lst vs)) R as (dss.set k ds):=by
 induction h with
 |nil=>intro k a _ e;simp at e
 | @cons b _ _ _ _ h1 h2 h3 t ih=>
  intro k a nd e;obtain⟨n1,n2⟩:=List.nodup_cons.mp nd;cases k with
  | zero=>
   cases e;exact .cons q0m h2 r (t.wr n1)
  | succ k=>
   rw[List.getElem?_cons_succ]at e;have m:=xq e;have ne:b≠a:=λq=>n1 (by rw[q];exact m);exact .cons (by rw[q0i ne];exact h1) h2 h3 (ih n2 e)
theorem Deep.setAt{K:FrG}{H R:Hp}{l a:Addr}{as:List Addr}{dss:List (List D)}{vs:List V}{ds:List D}{k:Nat}(h:Deep K H R l as dss)(e:as[k]? =some a)(r:Rps K R vs ds):Deep K (upd H a (.lst vs)) R l as (dss.set k ds):=by obtain⟨n1,n2⟩:=List.nodup_cons.mp h.nd;have ne:l≠a:=λq=>n1 (by rw[q];exact xq e);exact⟨by rw[q0i ne];exact h.top,h.rl,h.inn.setAt r n2 e,h.nd⟩
theorem Inn.other{K:FrG}{H R:Hp}{as:List Addr}{dss:List (List D)}{b:Addr}{o:HO}(h:Inn K H R as dss)(n:b∉as)(hb:R b=none):Inn K H (upd R b o) as dss:=by
 have s:Same R (upd R b o):=λa u e=>by
  have q:a≠b:=λq=>by rw[q,hb]at e;cases e
  rw[q0i q];exact e
 induction h with
 |nil=>exact .nil
 | cons h1 h2 h3 _ ih=>
  exact .cons h1 (by rw[q0i λq=>n (by rw[q];exact jj)];exact h2) (h3.mono s) (ih λq=>n (jg _ q))
theorem StR.knowAll{K:FrG}{Z:Anc}{O:List Nat}{σ:St}{H:Hp}{ρ:Rho}:∀{as:List Addr} {dss:List (List D)} {R:Hp},StR K Z O σ H R ρ->Inn K H R as dss->as.Nodup->(∀a∈as,Z.H0 a=none/\∀j,j∈O->σ[j]? ≠some (some (.ref a)))->∃R1,StR K Z O σ H R1 ρ/\Same R R1/\Rps K R1 (as.map V.ref) (dss.map D.lst)/\∀b,b∉as->R1 b=R b
 | [],dss,R,S,h,_,_=>by
  have l:=h.len;cases dss with
  |cons x r=>simp at l
  |nil=>exact⟨R,S,Same.refl _,.nil,λ_ _=>rfl⟩
 | a::as,dss,R,S,h,nd,hz=>by
  cases h with
  | @cons _ _ vs ds dss h1 h2 h3 h4=>
   obtain⟨na,nd'⟩:=List.nodup_cons.mp nd;obtain⟨z1,z2⟩:=hz a jj;have s:Same R (upd R a (.lst vs)):=λb u e=>by
    have q:b≠a:=λq=>by rw[q,h2]at e;cases e
    rw[q0i q];exact e
   obtain⟨R1,S1,s1,r1,o1⟩:=StR.knowAll (S.know z1 h1 h2 z2) (h4.other na h2) nd' λb hb=>hz b (jg _ hb);refine⟨R1,S1,s.trans s1,.cons (.lst (SqL.of (s1 _ _ q0m)) ((h3.mono s).mono s1)) r1,λb hb=>?_⟩;have hb1:b≠a:=λq=>hb (by rw[q];exact jj);rw[o1 b λq=>hb (jg _ q),q0i hb1]
theorem Inn.stp{K:FrG}{O:List Nat}{σ:St}{H R H' R':Hp}{as:List Addr}{dss:List (List D)}(h:Inn K H R as dss)(s:Stp O σ H R H' R')(ow:∀a∈as,∀j,j∈O->σ[j]? ≠some (some (.ref a))):Inn K H' R' as dss:=by
 induction h with
 |nil=>exact .nil
 | @cons a as vs ds dss h1 h2 h3 _ ih=>
  refine .cons (s.h _ _ h1 (ow a jj)) ?_ (h3.mono s.r) (ih λb hb=>ow b (jg _ hb));cases q:R' a with
  |none=>rfl
  | some o=>
   rcases s.n a (by rw[q];exact λz=>nomatch z)with z|z
   ·exact absurd h2 z
   ·rcases z with z|⟨xs,z⟩<;>(rw[h1]at z;cases z)
theorem Inn.rps{K:FrG}{H R:Hp}{as:List Addr}{dss:List (List D)}(h:Inn K H R as dss)(s:Same R H):Rps K H (as.map V.ref) (dss.map D.lst):=by
 induction h with
 |nil=>exact .nil
 |cons h1 h2 h3 _ ih=>exact .cons (.lst (SqL.of h1) (h3.mono s)) ih
structure StD(K:FrG)(Z:Anc)(O:List Nat)(i:Nat)(σ:St)(H R:Hp)(ρ:Rho)(l:Addr)(as:List Addr)(dss:List (List D)):Prop where
 st:StR K Z O σ H R ρ
 hi:i∉O
 no:ρ[i]? =some none
 at':σ[i]? =some (some (.ref l))
 dp:Deep K H R l as dss
 z0:∀a∈l::as,Z.H0 a=none
 ow:∀a∈l::as,∀j,j∈O->σ[j]? ≠some (some (.ref a))
section
variable{K:FrG}{Z:Anc}{O:List Nat}{i j:Nat}{σ:St}{H R H' R':Hp}{ρ ρ':Rho}{l:Addr}{as:List Addr}{dss:List (List D)}
theorem StD.stp(S:StD K Z O i σ H R ρ l as dss)(T:StR K Z O σ H' R' ρ')(s:Stp O σ H R H' R')(no:ρ'[i]? =some none):StD K Z O i σ H' R' ρ' l as dss:=by
 refine⟨T,S.hi,no,S.at',⟨s.h _ _ S.dp.top (S.ow l jj),?_,S.dp.inn.stp s λa ha=>S.ow a (jg _ ha),S.dp.nd⟩,S.z0,S.ow⟩;cases q:R' l with
 |none=>rfl
 | some o=>
  rcases s.n l (by rw[q];exact λz=>nomatch z)with z|z
  ·exact absurd S.dp.rl z
  ·rcases z with z|⟨xs,z⟩<;>(rw[S.dp.top]at z;cases z)
theorem StD.grown(S:StD K Z O i σ H R ρ l as dss)(s:Same H H'):StD K Z O i σ H' R ρ l as dss:=
 have y:Ext H R H' R:=⟨s,Same.refl _,λa o z=>s _ _ (S.st.sub a o z),λ_ z=>.inl z⟩
 S.stp (S.st.ext y) y.stp S.no
theorem StD.lent(S:StD K Z O i σ H R ρ l as dss):StR K ⟨H,H,λ_=>False,[]⟩ [] σ H H (ρ.set i (some (.lst (dss.map D.lst)))):=by
 have hl:i<ρ.length:=(List.getElem?_eq_some_iff.mp S.no).1;refine⟨λ_ _ z=>z,by rw[xg];exact S.st.len,λj d _ z=>?_,λi hi=>(nomatch hi),λi j hi _=>(nomatch hi),λ_ _ z _=>z,Same.refl _,λ_ z=>.inl z,λ_ z=>.refl z,λi hi _=>(nomatch hi),λi hi _=>(nomatch hi)⟩;by_cases q:i=j
 ·subst q;rw[jv hl]at z;cases z;exact⟨_,S.at',.lst (SqL.of S.dp.top) (S.dp.inn.rps S.st.sub)⟩
 ·rw[ji q]at z;by_cases hO:j∈O
  ·obtain⟨m,vs,ds,h1,h2,h3,h4,h5⟩:=S.st.own j hO;rw[h1]at z;cases z;exact⟨_,h2,(h5.mono S.st.sub).rp h3⟩
  ·obtain⟨v,h1,h2⟩:=S.st.env j d hO z;exact⟨v,h1,h2.mono S.st.sub⟩
theorem StD.test{tt:TT}{f:RhB}{b:Bool}{ρ1:Rho}{Q:Bool->Hp->Prop}(S:StD K Z O i σ H R ρ l as dss)(h:MT K [] tt f)(e:f (ρ.set i (some (.lst (dss.map D.lst))))=some (b,ρ1))(k:∀H',StD K Z O i σ H' R ρ l as dss->Q b H'):tt σ H Q:=
 h _ σ H H _ b ρ1 Q S.lent e λH' R' S' st=>k H' (S.grown λa o z=>st.h a o z λi hi=>(nomatch hi))
theorem StD.set(S:StD K Z O i σ H R ρ l as dss){v:V}{d:D}(hj:j∉O)(ij:j≠i)(r:Rp K R v d):StD K Z O i (σ.set j (some v)) H R (ρ.set j (some d)) l as dss:=
 ⟨S.st.set hj r,S.hi,by rw[ji ij];exact S.no,by rw[ji ij];exact S.at',S.dp,S.z0,λa ha k hk=>by rw[ji λ(q:j=k)=>hj (q▸hk)];exact S.ow a ha k hk⟩
theorem StR.blind{v:V}(S:StR K Z O σ H R ρ)(hj:j∉O):StR K Z O (σ.set j (some v)) H R (ρ.set j none):=by
 have ne:∀k,k∈O->j≠k:=λk hk z=>hj (z▸hk);refine⟨S.sub,by rw[xg,xg];exact S.len,λk e hk q=>?_,λk hk=>?_,λk m hk hm n l e=>?_,S.ah,S.ar,S.an,S.ad,λk hk hp l e=>?_,λk hk hp l e=>?_⟩
 ·by_cases hij:j=k
  ·subst hij;have hl:j<ρ.length:=by
    have:=(List.getElem?_eq_some_iff.mp q).1
    rwa [xg]at this
   rw[jv hl]at q;cases q
  ·rw[ji hij]at q ⊢;exact S.env k e hk q
 ·rw[ji (ne k hk),ji (ne k hk)];exact S.own k hk
 ·rw[ji (ne k hk)]at e;rw[ji (ne m hm)];exact S.dis k m hk hm n l e
 ·rw[ji (ne k hk)]at e;exact S.ao k hk hp l e
 ·rw[ji (ne k hk)]at e;exact S.ap k hk hp l e
theorem StD.blind{v:V}(S:StD K Z O i σ H R ρ l as dss)(hj:j∉O)(ij:j≠i)(nj:ρ[j]? =some none):StD K Z O i (σ.set j (some v)) H R ρ l as dss:=by
 have e:ρ.set j none=ρ:=by
  apply List.ext_getElem?;intro k;by_cases q:j=k
  ·subst q;rw[jv (List.getElem?_eq_some_iff.mp nj).1,nj]
  ·rw[ji q]
 refine⟨e▸S.st.blind hj,S.hi,S.no,by rw[ji ij];exact S.at',S.dp,S.z0,λa ha k hk=>?_⟩;rw[ji λ(q:j=k)=>hj (q▸hk)];exact S.ow a ha k hk
theorem StD.wrAt{k:Nat}{a:Addr}{vs:List V}{ds:List D}(S:StD K Z O i σ H R ρ l as dss)(e:as[k]? =some a)(r:Rps K R vs ds):StD K Z O i σ (upd H a (.lst vs)) R ρ l as (dss.set k ds):=by have m:a∈l::as:=jg _ (xq e);obtain⟨_,_,_,_,hr,_⟩:=S.dp.inn.at e;exact⟨S.st.put hr (λj hj=>S.ow a m j hj) (S.z0 a m),S.hi,S.no,S.at',S.dp.setAt e r,S.z0,S.ow⟩
end
abbrev Fd:=Rho->List (List D)->Option (Rho×List (List D))
def MSD(K:FrG)(O:List Nat)(i:Nat)(t:TS)(f:Fd):Prop:=∀(Z:Anc) (E:Ends) (σ:St) (H R:Hp) (ρ:Rho) (l:Addr) (as:List Addr) (dss:List (List D)) (ρ':Rho) (zm:List (List D)),StD K Z O i σ H R ρ l as dss->f ρ dss=some (ρ',zm)->
 (∀σ' H' R' as',StD K Z O i σ' H' R' ρ' l as' zm->Same R R'->E.nx σ' H')->t E σ H
section
variable{K:FrG}{O:List Nat}{i j:Nat}{t u:TS}{te:TE}{tt:TT}{tr:TA}{f h:Fd}{fe:RhD}{fs:RhL}{ft:RhB}
def isFree(ρ:Rho)(i:Nat):Bool:=match ρ[i]? with
 |some none=>true
 |_=>false
theorem q2x{ρ:Rho}{i:Nat}(h:isFree ρ i=true):ρ[i]? =some none:=by
 unfold isFree at h;split at h
 ·assumption
 ·cases h
def q8q(j:Nat)(f:Fd):List D->Fd
 |[],ρ,dss=>some (ρ,dss)
 | d::r,ρ,dss=>match f (ρ.set j (some d)) dss with
  |some p=>q8q j f r p.1 p.2
  |none=>none
def qh6(i j:Nat)(fi:RhL)(f:Fd):Fd:=λρ dss=>match fi ρ with
 |some (ds,ρ1)=>if isFree ρ1 i=true then q8q j f ds ρ1 dss else none
 |none=>none
theorem qki{wi:TI}{fi:RhL}{tb:TS}(hi:MI K O wi fi)(hj:j∉O)(ij:j≠i)(hb:MSD K O i tb f):MSD K O i (tFor wi (q37 j) tb) (qh6 i j fi f):=λZ E σ H R ρ l as dss ρ' zm S e k=>by
 unfold qh6 at e;split at e
 ·rename_i ds ρ1 q;split at e
  ·rename_i z;have no:=q2x z;refine hi Z σ H R ρ ds ρ1 _ S.st q λJ H1 R1 S1 st1 ok=>?_;have S2:=S.stp S1 st1 no;refine⟨λn m σ' H'=>m=ds.length-n/\n<=ds.length/\∃R2 ρ2 as2 dss2,StD K Z O i σ' H' R2 ρ2 l as2 dss2/\Same R1 R2/\q8q j f (ds.drop n) ρ2 dss2=some (ρ',zm),⟨ds.length,by simp,Nat.zero_le _,R1,ρ1,as,dss,S2,Same.refl _,by rw[List.drop_zero];exact e⟩,?_⟩;rintro n m σ' H' ⟨rfl,hn,R2,ρ2,as2,dss2,S3,s3,e3⟩;obtain⟨o1,o2⟩:=ok H' R2 s3 S3.st.sub n;by_cases hlt:n<ds.length
   ·obtain⟨g1,g2⟩:=o2 ds[n] (jt hlt);rw[ki hlt]at e3;refine .inr ⟨g1,λσ3 H3=>∃R2 ρ2 as2 dss2,StD K Z O i σ3 H3 R2 ρ2 l as2 dss2/\Same R1 R2/\q8q j f (ds.drop (n+1)) ρ2 dss2=some (ρ',zm),?_,λx H3 y=>?_⟩
    ·rintro σ3 H3 ⟨R3,ρ3,as3,dss3,q1,q2,q3⟩;exact⟨ds.length-(n+1),by omega,rfl,hlt,R3,ρ3,as3,dss3,q1,q2,q3⟩
    ·obtain⟨R3,x3,r3⟩:=g2 x H3 y;have S4:=(S3.stp (S3.st.ext x3) x3.stp S3.no).set hj ij r3;unfold q8q at e3;split at e3
     ·rename_i p e4;exact hb Z _ _ H3 R3 _ l as2 dss2 p.1 p.2 S4 e4 λσ5 H5 R5 as5 S5 s5=>⟨R5,p.1,as5,p.2,S5,(s3.trans x3.r).trans s5,e3⟩
     ·cases e3
   ·have en:n=ds.length:=by omega
    subst en;rw[List.drop_length]at e3;unfold q8q at e3;cases e3;exact .inl ⟨o1 rfl,k σ' H' R2 as2 S3 (st1.r.trans s3)⟩
  ·cases e
 ·cases e
end
def spD(K:FrG)(n:Nat)(f:List D->Option (List (List D))):Sp:=λvs H Q _=>vs.length=n/\∃R ds dss,(∀a o,R a=some o->H a=some o)/\Rps K R vs ds/\f ds=some dss/\
 ∀l as H' R',Ext H R H' R'->(∀a∈l::as,H a=none)->Deep K H' R' l as dss->Q (.ref l) H'
def q4y(o:Option (List (List D))):Option D:=o.map λdss=>.lst (dss.map D.lst)
theorem Deep.known{K:FrG}{H R H' R':Hp}{l:Addr}{as:List Addr}{dss:List (List D)}(x:Ext H R H' R')(z:∀a∈l::as,H a=none)(h:Deep K H' R' l as dss):∃R1,Ext H R H' R1/\Rp K R1 (.ref l) (.lst (dss.map D.lst)):=by
 have S:StR K ⟨H,R,λ_=>False,[]⟩ [] [] H' R' []:=⟨x.s,rfl,λi d _ q=>by simp at q,λi hi=>(nomatch hi),λi j hi=>(nomatch hi),λa o q _=>x.h a o q,x.r,x.n,λa q=>x.h.liv q,λi hi=>(nomatch hi),λi hi=>(nomatch hi)⟩;obtain⟨nl,nd⟩:=List.nodup_cons.mp h.nd;obtain⟨R1,S1,s1,r1,o1⟩:=S.knowAll h.inn nd λa ha=>⟨z a (jg _ ha),λj hj=>(nomatch hj)⟩;have e1:R1 l=none:=by rw[o1 l nl];exact h.rl
 have S2:=S1.know (z l jj) h.top e1 λj hj=>(nomatch hj);exact⟨_,⟨λa o q=>S2.ah a o q (λz=>z),S2.ar,S2.sub,S2.an⟩,.lst (SqL.of q0m) (r1.mono (Same.new e1))⟩
theorem qmh{K:FrG}{n:Nat}{f:List D->Option (List (List D))}{vs:List V}{H:Hp}{Q:VK}{E:XK}(h:spP K false n (λds=>q4y (f ds)) vs H Q E):spD K n f vs H Q E:=by
 obtain⟨hn,R,ds,d,sub,r,e,k⟩:=h;have e:q4y (f ds)=some d:=e;cases q:f ds with
 |none=>rw[q]at e;cases e
 | some dss=>
  rw[q]at e;cases e;refine⟨hn,R,ds,dss,sub,r,q,λl as H' R' x z dp=>?_⟩;obtain⟨R1,x1,r1⟩:=dp.known x z;exact k _ H' R1 x1 r1
theorem qat{K:FrG}{Nms:List Str}{n:Nat}{H R:Hp}{vs:List V}{ds:List D}(hn:vs.length=n)(hl:ds.length=n)(sub:∀a o,R a=some o->H a=some o)(r:Rps K R vs ds):StR K ⟨H,R,λ_=>False,[]⟩ [] (start Nms vs) H R (ds.map some++List.replicate (Nms.length-n) none):=by
 refine⟨sub,?_,λi d _ q=>?_,λi hi=>absurd hi (by simp),λi j hi=>absurd hi (by simp),λa o q _=>q,Same.refl _,λa q=>.inl q,λa q=>.refl q,λi hi=>absurd hi (by simp),λi hi=>absurd hi (by simp)⟩
 ·unfold start;rw[jy,jy,jb,jb,jx,jx,hn,hl]
 ·obtain⟨v,h1,h2⟩:=r.get (q5v q);exact⟨v,q5u h1,h2⟩
section
variable{K:FrG}{O T:List Nat}{i:Nat}{t:TS}{te:TE}{tr:TA}{g:TG}{f:Fd}{fe:RhD}{fs:RhL}{fg:RhG}
def q49(i:Nat)(fg:RhG)(f:Fd):List D->Fd
 |[],ρ,dss=>some (ρ,dss)
 | d::r,ρ,dss=>match fg d ρ with
  | some ρ1=>if isFree ρ1 i=true then(match f ρ1 dss with
   |some p=>q49 i fg f r p.1 p.2
   |none=>none)else none
  |none=>none
def q78(i:Nat)(fg:RhG)(fi:RhL)(f:Fd):Fd:=λρ dss=>match fi ρ with
 |some (ds,ρ1)=>if isFree ρ1 i=true then q49 i fg f ds ρ1 dss else none
 |none=>none
theorem StD.tgt{Z:Anc}{σ σ':St}{H R:Hp}{ρ ρ':Rho}{l:Addr}{as:List Addr}{dss:List (List D)}(S:StD K Z O i σ H R ρ l as dss)(S':StR K Z O σ' H R ρ')(n:∀j,j∉T->σ'[j]? =σ[j]?)(hT:∀k∈i::O,k∉T)(no:ρ'[i]? =some none):StD K Z O i σ' H R ρ' l as dss:=
 ⟨S',S.hi,no,by rw[n i (hT i jj)];exact S.at',S.dp,S.z0,λa ha k hk=>by rw[n k (hT k (jg _ hk))];exact S.ow a ha k hk⟩
theorem qak{wi:TI}{fi:RhL}{tb:TS}(hi:MI K O wi fi)(hg:MG K O T g fg)(hT:∀k∈i::O,k∉T)(hb:MSD K O i tb f):MSD K O i (tFor wi g tb) (q78 i fg fi f):=λZ E σ H R ρ l as dss ρ' zm S e k=>by
 unfold q78 at e;split at e
 ·rename_i ds ρ1 q;split at e
  ·rename_i z;have no:=q2x z;refine hi Z σ H R ρ ds ρ1 _ S.st q λJ H1 R1 S1 st1 ok=>?_;have S2:=S.stp S1 st1 no;refine⟨λn m σ' H'=>m=ds.length-n/\n<=ds.length/\∃R2 ρ2 as2 dss2,StD K Z O i σ' H' R2 ρ2 l as2 dss2/\Same R1 R2/\q49 i fg f (ds.drop n) ρ2 dss2=some (ρ',zm),⟨ds.length,by simp,Nat.zero_le _,R1,ρ1,as,dss,S2,Same.refl _,by rw[List.drop_zero];exact e⟩,?_⟩;rintro n m σ' H' ⟨rfl,hn,R2,ρ2,as2,dss2,S3,s3,e3⟩;obtain⟨o1,o2⟩:=ok H' R2 s3 S3.st.sub n;by_cases hlt:n<ds.length
   ·obtain⟨g1,g2⟩:=o2 ds[n] (jt hlt);rw[ki hlt]at e3;refine .inr ⟨g1,λσ3 H3=>∃R2 ρ2 as2 dss2,StD K Z O i σ3 H3 R2 ρ2 l as2 dss2/\Same R1 R2/\q49 i fg f (ds.drop (n+1)) ρ2 dss2=some (ρ',zm),?_,λx H3 y=>?_⟩
    ·rintro σ3 H3 ⟨R3,ρ3,as3,dss3,q1,q2,q3⟩;exact⟨ds.length-(n+1),by omega,rfl,hlt,R3,ρ3,as3,dss3,q1,q2,q3⟩
    ·obtain⟨R3,x3,r3⟩:=g2 x H3 y;have S4:=S3.stp (S3.st.ext x3) x3.stp S3.no;unfold q49 at e3;split at e3
     ·rename_i ρ4 e4;split at e3
      ·rename_i z4;have no4:=q2x z4;refine hg Z σ' H3 R3 ρ2 x ds[n] ρ4 _ S4.st r3 e4 λσ4 S5 n5=>?_;have S6:=S4.tgt S5 n5 hT no4;split at e3
       ·rename_i p e5;exact hb Z _ _ H3 R3 _ l as2 dss2 p.1 p.2 S6 e5 λσ5 H5 R5 as5 S7 s5=>⟨R5,p.1,as5,p.2,S7,(s3.trans x3.r).trans s5,e3⟩
       ·cases e3
      ·cases e3
     ·cases e3
   ·have en:n=ds.length:=by omega
    subst en;rw[List.drop_length]at e3;unfold q49 at e3;cases e3;exact .inl ⟨o1 rfl,k σ' H' R2 as2 S3 (st1.r.trans s3)⟩
  ·cases e
 ·cases e
def q4m(dss:List (List D))(n:Int)(d:D):Option (List (List D)):=if 0<=n then(match dss[n.toNat]? with
 |some ds=>if ds.length<sizeLine then some (dss.set n.toNat (ds++[d]))else none
 |none=>none)else none
def q2t(i:Nat)(fe:RhD)(fs:RhL):Fd:=λρ dss=>match fe ρ with
 | some (.int n,ρ0)=>if isFree ρ0 i=true then(match fs ρ0 with
  |some ([d],ρ1)=>if isFree ρ1 i=true then(q4m dss n d).map λx=>(ρ1,x)else none
  |_=>none)else none
 |_=>none
theorem q73(he:ME K O te fe)(ha:MA K O tr fs):MSD K O i (q4d (tBM K "list" q39 (tOp (rIx K) (tVar i) te) tr)) (q2t i fe fs):=λZ E σ H R ρ l as dss ρ' zm S e k=>by
 unfold q2t at e;split at e
 ·rename_i n ρ0 q0;split at e
  ·rename_i z0;have no0:=q2x z0;split at e
   ·rename_i d ρ1 q;split at e
    ·rename_i z;have no:=q2x z;cases w:q4m dss n d with
     |none=>rw[w]at e;cases e
     | some x=>
      rw[w]at e;cases e;unfold q4m at w;split at w
      ·rename_i hn0;split at w
       ·rename_i ds w1;split at w
        ·rename_i w2;cases w;refine⟨.ref l,S.at',he Z σ H R ρ (.int n) ρ0 _ S.st q0 λv0 H0 R0 S0 st0 r0=>?_⟩;cases r0;have T0:=S.stp S0 st0 no0;have ln:=T0.dp.inn.len;have hk:n.toNat<as.length:=by rw[ln];exact(List.getElem?_eq_some_iff.mp w1).1
         have ea:as[n.toNat]? =some as[n.toNat]:=jt hk;obtain⟨vs,ds2,g1,g2,g3,g4⟩:=T0.dp.inn.at ea;rw[w1]at g1;cases g1;refine .inl ⟨l,_,n,.ref as[n.toNat],rfl,rfl,SqL.of T0.dp.top,?_,?_⟩
         ·unfold atI;have e1:ixN (as.map V.ref).length n=some n.toNat:=by
           rw[jb];unfold ixN;rw[if_pos hn0,if_pos (by omega)]
          rw[e1];show(as.map V.ref)[n.toNat]? =_;rw[jk,ea];rfl
         ·refine⟨.inl ⟨rfl,vs,SqL.of g2⟩,ha Z σ H0 R0 ρ0 [d] _ _ T0.st q λws H1 R1 S1 st1 r1=>?_⟩;obtain⟨v,_,rfl,rv,rn⟩:=r1.isC;cases rn;have S2:=T0.stp S1 st1 no;obtain⟨vs2,ds3,g1,g2,g3,g4⟩:=S2.dp.inn.at ea;rw[w1]at g1;cases g1;exact⟨_,vs2,v,rfl,rfl,g2,by rw[g4.length];exact w2,k σ _ R1 as (S2.wrAt ea (g4.snoc rv)) (st0.r.trans st1.r)⟩
        ·cases w
       ·cases w
      ·cases w
    ·cases e
   ·cases e
  ·cases e
 ·cases e
end
def qi7(i n:Nat)(js:List Nat)(wi:TI)(t:TS):TS:=tSeq (q9d i n js wi (q37 0) tYes (tLst tNil)) (tSeq t (tRet (tVar i)))
theorem Inn.empty{K:FrG}{H R:Hp}:∀{as:List Addr},(∀a∈as,H a=some (.lst []))->(∀a∈as,R a=none)->Inn K H R as (List.replicate as.length [])
 |[],_,_=>.nil
 |a::as,h,r=>.cons (h a jj) (r a jj) .nil (Inn.empty (λb hb=>h b (jg _ hb)) λb hb=>r b (jg _ hb))
theorem qc1{K:FrG}{i n:Nat}{js:List Nat}{wi:TI}{fi:RhL}{t:TS}{f:Fd}{H R H1 R1:Hp}{σ:St}{ρ ρ1:Rho}{ds:List D}{dss:List (List D)}{Q:VK}(hw:MI K [] wi fi)(hm:MSD K [] i t f)(S:StR K ⟨H,R,λ_=>False,[]⟩ [] σ H1 R1 ρ)(e1:fi ρ=some (ds,ρ1))(hl:i<ρ1.length)(hz:ds.length<=sizeLine){ρ':Rho}(e:f (ρ1.set i none) (List.replicate ds.length [])=some (ρ',dss))
 (k:∀l as H' R',Ext H R H' R'->(∀a∈l::as,H a=none)->Deep K H' R' l as dss->Q (.ref l) H'):qi7 i n js wi t {nx:=λ_ H'=>Q .non H',rt:=Q} σ H1:=by
 refine hw _ σ H1 R1 ρ ds ρ1 _ S e1 λJ H2 R2 S2 st2 ok=>?_;refine⟨λc m ys H3=>m=ds.length-c/\c<=ds.length/\∃(R3:Hp) (as:List Addr),ys=as.map V.ref/\as.length=c/\as.Nodup/\(∀a∈as,H a=none)/\(∀a∈as,H3 a=some (.lst []))/\(∀a∈as,R3 a=none)/\Same R2 R3/\StR K ⟨H,R,λ_=>False,[]⟩ [] σ H3 R3 ρ1,
  ⟨ds.length,by simp,Nat.zero_le _,R2,[],rfl,rfl,List.nodup_nil,λ_ h=>(nomatch h),λ_ h=>(nomatch h),λ_ h=>(nomatch h),Same.refl _,S2⟩,?_⟩
 rintro c m ys H3 ⟨rfl,hc,R3,as,rfl,la,nd,a1,a2,a3,s3,S3⟩;obtain⟨o1,o2⟩:=ok H3 R3 s3 S3.sub c;by_cases hlt:c<ds.length
 ·obtain⟨g1,g2⟩:=o2 ds[c] (jt hlt);refine .inr ⟨g1,by rw[jb];omega,λys' H'=>∃(R3:Hp) (as:List Addr),ys'=as.map V.ref/\as.length=c+1/\as.Nodup/\(∀a∈as,H a=none)/\(∀a∈as,H' a=some (.lst []))/\(∀a∈as,R3 a=none)/\Same R2 R3/\StR K ⟨H,R,λ_=>False,[]⟩ [] σ H' R3 ρ1,?_,λx H4 y=>?_⟩
  ·rintro ys' H' ⟨R4,as4,q⟩;exact⟨ds.length-(c+1),by omega,rfl,hlt,R4,as4,q⟩
  ·obtain⟨R4,x4,r4⟩:=g2 x H4 y;have S4:=S3.ext x4;dsimp only[q37,tYes];rw[if_pos rfl];refine⟨by show 0<=sizeLine;exact Nat.zero_le _,λp hp=>?_⟩;have b2:∀a∈as,H4 a=some (.lst []):=λa ha=>x4.h a _ (a2 a ha);have np:p∉as:=λq=>by have:=b2 p q;rw[hp]at this;cases this
   have b3:∀a∈as,R4 a=none:=λa ha=>by
    cases q:R4 a with
    |none=>rfl
    | some o=>
     rcases x4.n a (by rw[q];exact λz=>nomatch z)with z|z
     ·exact absurd (a3 a ha) z
     ·rcases z with z|⟨xs,z⟩<;>(rw[a2 a ha]at z;cases z)
   refine⟨R4,as++[p],by rw[xm];rfl,by rw[jy,la];rfl,List.nodup_append.mpr ⟨nd,by simp,λu hu v hv q=>np (by rw[List.mem_singleton.mp hv]at q;exact q▸hu)⟩,λa ha=>?_,λa ha=>?_,λa ha=>?_,s3.trans x4.r,S4.ext (Ext.hid S4.sub hp)⟩
   ·rcases List.mem_append.mp ha with ha|ha
    ·exact a1 a ha
    ·rw[List.mem_singleton.mp ha];exact S4.new0 hp
   ·rcases List.mem_append.mp ha with ha|ha
    ·rw[q0i λq=>np (by rw[<-q];exact ha)];exact b2 a ha
    ·rw[List.mem_singleton.mp ha];exact q0m
   ·rcases List.mem_append.mp ha with ha|ha
    ·exact b3 a ha
    ·rw[List.mem_singleton.mp ha];exact S4.out hp
 ·have ec:c=ds.length:=by omega
  subst ec;refine .inl ⟨o1 rfl,by rw[jb,la];exact hz,λp hp=>?_⟩;have np:p∉as:=λq=>by have:=a2 p q;rw[hp]at this;cases this
  have x:=Ext.hid (o:=.lst (as.map V.ref)) S3.sub hp;have S4:=S3.ext x;have T:StD K ⟨H,R,λ_=>False,[]⟩ [] i (σ.set i (some (.ref p))) (upd H3 p (.lst (as.map V.ref))) R3 (ρ1.set i none) p as (List.replicate ds.length []):=by
   refine⟨S4.blind (by simp),by simp,List.getElem?_set_self hl,List.getElem?_set_self (by rw[S3.len];exact hl),⟨q0m,S3.out hp,?_,List.nodup_cons.mpr ⟨np,nd⟩⟩,λa ha=>?_,λa ha j hj=>(nomatch hj)⟩
   ·rw[<-la];exact Inn.empty (λa ha=>by rw[q0i λq=>np (by rw[<-q];exact ha)];exact a2 a ha) a3
   ·rcases List.mem_cons.mp ha with ha|ha
    ·rw[ha];exact S3.new0 hp
    ·exact a1 a ha
  refine hm _ _ _ _ R3 _ p as _ ρ' dss T e λσ' H' R' as' S' s'=>?_;exact⟨.ref p,S'.at',k p as' H' R' ⟨λa o q=>S'.st.ah a o q (λz=>z),S'.st.ar,S'.st.sub,S'.st.an⟩ S'.z0 S'.dp⟩
def q7m(n N i:Nat)(fi:RhL)(f:Fd)(ds:List D):Option (List (List D)):=if ds.length=n then match fi (ds.map some++List.replicate (N-n) none)with
 | some (xs,ρ1)=>if i<ρ1.length/\xs.length<=sizeLine then(match f (ρ1.set i none) (List.replicate xs.length [])with
  |some p=>some p.2
  |none=>none)else none
 |none=>none
 else none
theorem qd8{n N i:Nat}{fi:RhL}{f:Fd}:q1f n (λds=>q4y (q7m n N i fi f ds)):=λds d e=>by
 have e:q4y (q7m n N i fi f ds)=some d:=e;unfold q7m at e;split at e
 ·assumption
 ·cases e
theorem q86{K:FrG}{n i m:Nat}{js:List Nat}{Nms:List Str}{wi:TI}{fi:RhL}{t:TS}{f:Fd}{vs:List V}{H:Hp}{Q:VK}{E:XK}(hw:MI K [] wi fi)(hm:MSD K [] i t f)(h:spD K n (q7m n Nms.length i fi f) vs H Q E):qi7 i m js wi t {nx:=λ_ H'=>Q .non H',rt:=Q} (start Nms vs) H:=by
 obtain⟨hn,R,ds,dss,sub,r,e,k⟩:=h;unfold q7m at e;split at e
 ·rename_i hl;split at e
  ·rename_i xs ρ1 e1;split at e
   ·rename_i hz;split at e
    ·rename_i p e2;cases e;exact qc1 hw hm (qat hn hl sub r) e1 hz.1 hz.2 e2 k
    ·cases e
   ·cases e
  ·cases e
 ·cases e
theorem qdy:typeLookup (.type "list_reverseiterator") (Str.ofString "__len__")=pure none:=by kernel_rfl
theorem qh0:typeLookup (.type "list_reverseiterator") (Str.ofString "__length_hint__")=pure (some (.builtin "list_reverseiterator.__length_hint__")):=by kernel_rfl
def Itv(K:FrG)(a:Addr)(n:Nat):It:=
 ⟨λi H=>∃xs,SqL K H a xs/\xs.length=n/\i<n,λi H x H'=>H'=H/\∀xs,SqL K H a xs->xs[n-1-i]? =some x,λi H=>i=n⟩
theorem qfu{P:Program}{w:World}{K:FrG}{tg:Expr}(a it:Addr)(n:Nat):Turn P w K tg (Itv K a n) [it] it (λi h=>i<=n/\h.IsRevIter it a ((n:Int)-1-i)) where
 mem:=by simp
 obj:=λi h st b hb=>by
  have e:b=it:=by simpa using hb
  subst e;obtain⟨_,o,e,c,d⟩:=st;exact⟨o,e,λv z=>by rw[d]at z;cases z⟩
 keep:=λi h h' st k=>⟨st.1,by obtain⟨o,e,c⟩:=st.2;exact⟨o,k it (by simp) o e,c⟩⟩
 item:=by
  intro X hP hw hK hc i z6 s σ H E I hf st hg;subst hP hw hK;obtain⟨xs,hq,hl,hi⟩:=hg;obtain⟨its,rv,p,hz⟩:=I.list hq;have hx:xs[n-1-i]? =some (xs[n-1-i]'(by omega)):=jt (by omega);obtain⟨u,hu,ru⟩:=rv.get hx;obtain⟨f0,f1,f2,f3,f4,f5⟩:=hf it (by simp);have st2:=st.2;have en:((n:Int)-1-i)=((n-1-i:Nat):Int):=by omega
  rw[en]at st2;refine wpAny_pyNext_rev_item st2 p.isList (x:=u) (by simpa using hu) λh' st' sb=>?_;have I1:Inv X z6 σ H {s with heap:=h'}:=I.turned (t':=s.toks) (λb o hb e=>(sb.2 b hb).trans e) f0 f1 f3 f4 f5;have st3:h'.IsRevIter it a ((n:Int)-1-(i+1:Nat)):=by
   have e2:((n:Int)-1-(i+1:Nat))=((n-1-i:Nat):Int)-1:=by omega
   rw[e2];exact st'
  obtain⟨o,e,c,d⟩:=id st';exact⟨u,rfl,qh2 (s:={s with heap:=h'}) e c d (by decide) ⟨_,H,I1,ru,⟨rfl,λys hy=>by rw[I.list_inj hy hq];exact hx⟩,⟨by omega,st3⟩,λb hb=>(hf b hb).1⟩⟩
 done:=by
  intro X hP hw hK hc i z6 s σ H E I hf st hg;subst hP hw hK;have hi:i=n:=hg;obtain⟨f0,f1,f2,f3,f4,f5⟩:=hf it (by simp);have st2:=st.2;have en:((n:Int)-1-i)= -1:=by omega
  rw[en]at st2;exact wpAny_pyNext_rev_end (I.ok.hd hc) st2 λh' eb=>⟨rfl,I.turned (t':=s.toks) (λb o hb e=>eb b o hb e) f0 f1 f3 f4 f5⟩
 self:=λ_ _ _ _ _ st h=>wpAny_pyIter_revIter st.2 h
section
variable{X:Cx}{K:FrG}{a tg:Expr}{ta:TE}{p pos:Pos}
def iRev(K:FrG)(ta:TE):TI:=λσ H R=>ta σ H λv H1=>∃p1 xs,[v]=[V.ref p1]/\SqL K H1 p1 xs/\R (Itv K p1 xs.length) H1
theorem qic(hK:X.K=K)(hg:Gl X "reversed")(hm:X.mg "reversed"=none)(ha:PE X a ta)(he:starEach [a] X.env=(false,eval a X.env)::starEach [] X.env:=by rfl)(hpl:(backTo pos (starEach [] X.env)).any (·.1)=false:=by rfl):
 PI X tg (.Call (.Name "reversed" p) [a] [] pos) (iRev K ta):=by
 subst hK;intro z6 s σ H R I h;refine xn (q48 I hg hm (u:=.type "reversed") (by rfl) ?_);refine PyProof.Rows.callWith_type1 (thn ((q00 ha q06 he) pos z6 s σ H (λvs H1=>∃p1 xs,vs=[V.ref p1]/\SqL X.K H1 p1 xs/\R (Itv X.K p1 xs.length) H1) I h) λus s1 h1=>?_) he hpl;obtain⟨vs,H1,I1,r1,p1,xs,rfl,q1,k⟩:=h1;obtain⟨u,rfl,ru⟩:=vals1 r1;cases(show u=Value.ref p1 from ru);obtain⟨its,rv,pl,hz⟩:=I1.list q1;have ln:its.length=xs.length:=by have:=rv.length;omega
 refine call_reversed_list pl.isList (wpAny_pyIter_revIter ⟨_,jo _ rfl,rfl,rfl⟩ ?_);refine⟨s1.heap.objs.size,[s1.heap.objs.size],_,_,H1,rfl,I1.kept (t':=s1.toks) λb o e=>je _ e,qfu p1 _ xs.length,⟨Nat.zero_le _,_,jo _ rfl,rfl,?_⟩,λb hb=>?_,k⟩
 ·show Data.fields #[Value.ref p1,rawInt ((its.toArray.size:Int)-1)]=_;rw[x9,ln];simp
 ·have e:b=s1.heap.objs.size:=by simpa using hb
  subst e;exact I1.fpOk (jf _) (I1.hok.fresh (jf _))
end
theorem qc0{prog:Program}{w:World}{A:Around}{s:Shared}{R:Result->Shared->Prop}{I l S:Addr}{items:Array Value}{c₀:Nat}{res:Value}(hh:A.in1.handled=none)(hn:items.size<=sizeLine)(gI:s.heap.IsRevIter I l ((items.size:Int)-1))(gl:s.heap.IsList l items)(lI:l≠I)(SI:S≠I)(Sl:S≠l)
 (hS:s.heap.get? S=some {cls:=.type "list",data:=.seq #[] c₀})
 (hR:∀s' acc c',Moved [S,I] (λa b=>b=a) s s'->s'.heap.get? S=some {cls:=.type "list",data:=.seq acc c'}->ItemsOf (λi v=>items[items.size-1-i]? =some v) acc items.size->R (.ok (.ret res)) s'):
 wpAny (model prog w) A.in1 (Builtin.List.listExtendWith (.ref S) (.ref I) res) (λfin s'=>match fin with
  |.done f=>R (.ok f) s'
  |.again c'=>c'.quiet=true/\codeAny (model prog w) A c' R s') (λe s'=>R (.error e) s') s:=by
 have ty:s.TypeIs (.ref I) "list_reverseiterator":=by obtain⟨o,e,c,_⟩:=gI;exact⟨o,e,c⟩
 have W:=(Walks.listRev (prog:=prog) (w:=w) hh I l lI items).toS;unfold Builtin.List.listExtendWith;refine ja (wpAny_typeOf ty ?_);have h1:Builtin.List.listSameRef (.ref S) (.ref I)=false:=by unfold Builtin.List.listSameRef;simp[SI]
 have h2:(Value.type "list_reverseiterator"==Value.type "list")=false:=by decide
 have h3:(Value.type "list_reverseiterator"==Value.type "tuple")=false:=by decide
 simp only[h1,h2,h3,Bool.or_false,Bool.false_eq_true,if_false];refine ja (wpAny_pyIter_revIter gI ?_);refine ja (wpAny_holding ?_);unfold Builtin.List.listLengthHint;refine ja (wpAny_specialOf ty qdy ?_);show wpAny _ _ (specialOf (.ref I) (Str.ofString "__length_hint__") >>= _) _ _ s;refine ja (wpAny_specialOf ty qh0 ?_);show wpAny _ _ (isInstance (.ref I) (.type "list_reverseiterator") >>= _) _ _ s;refine ja (wpAny_isInstance ty (b:=true) (by kernel_rfl) ?_);show wpAny _ _ (pure false) _ _ s;refine jc ?_;show wpAny _ _ (again (.builtin "list.extend.loop" ⟨[.ref S,.ref I,res],[]⟩)) _ _ s;refine jc ⟨plainId_quiet F.plain_extend_loop _,?_⟩;refine codeAny_extend_loopS W hn S (by simp;exact⟨SI,Sl⟩) res items.size 0 s #[] c₀ rfl (Nat.zero_le _) ⟨Nat.zero_le _,by simpa using gI,gl⟩ hS (.nil _) λs' acc c' m e i=>hR s' acc c' ?_ e i;exact m
theorem qgz{prog:Program}{w:World}{A:Around}{s:Shared}{R:Result->Shared->Prop}{I l S:Addr}{items:Array Value}(hh:A.in1.handled=none)(hn:items.size<=sizeLine)(gI:s.heap.IsRevIter I l ((items.size:Int)-1))(gl:s.heap.IsList l items)(lI:l≠I)(SI:S≠I)(Sl:S≠l)
 (hS:s.heap.get? S=some {cls:=.type "list",data:=.seq #[]})
 (hR:∀s' acc c',Moved [S,I] (λa b=>b=a) s s'->s'.heap.get? S=some {cls:=.type "list",data:=.seq acc c'}->ItemsOf (λi v=>items[items.size-1-i]? =some v) acc items.size->R (.ok (.ret .none)) s'):
 wpAny (model prog w) A.in1 (Builtin.«list.__init__» ⟨[.ref S,.ref I],[]⟩) (λfin s'=>match fin with
  |.done f=>R (.ok f) s'
  |.again c'=>c'.quiet=true/\codeAny (model prog w) A c' R s') (λe s'=>R (.error e) s') s:=by
 show wpAny _ _ (Builtin.List.listItems (.ref S) >>= _) _ _ s;refine ja ?_;unfold Builtin.List.listItems;refine ja (xp hS rfl (jc ?_));show wpAny _ _ (Builtin.List.listUpdate (.ref S) _ >>= _) _ _ s;unfold Builtin.List.listUpdate;refine ja (wpAny_updateSeq hS rfl ?_ (by simp) (by simp));have hS2:=kn (Obj.mapSeq λ_=>#[]) hS rfl;have oth:∀b o,b≠S->s.heap.get? b=some o->(s.heap.update S (Obj.mapSeq λ_=>#[])).get? b=some o:=λb o hb e=>(k7 s.heap (Obj.mapSeq λ_=>#[]) (Ne.symm hb)).trans e;refine ja (wpAny_letGo ?_);refine qc0 (s:={s with heap:=s.heap.update S (Obj.mapSeq λ_=>#[])}) hh hn ?_ ?_ lI SI Sl hS2 λs' acc c' m e i=>hR s' acc c' ?_ e i
 ·obtain⟨o,e,c⟩:=gI;exact⟨o,oth I o (Ne.symm SI) e,c⟩
 ·obtain⟨o,e,c⟩:=gl;exact⟨o,oth l o (Ne.symm Sl) e,c⟩
 ·exact⟨λb o nb e=>m.heap b o nb (oth b o (λq=>nb (by rw[q];simp)) e),m.gens,m.drawn,m.os,m.toks⟩
theorem q80{prog:Program}{w:World}{A:Around}{E:Value->Shared->Prop}{s:Shared}{Q:Value->Shared->Prop}{I l:Addr}{items:Array Value}(hh:A.in1.in1.handled=none)(hn:items.size<=sizeLine)(gI:s.heap.IsRevIter I l ((items.size:Int)-1))(gl:s.heap.IsList l items)(lI:l≠I)
 (hQ:∀s' acc c',(∀b o,b≠I->s.heap.get? b=some o->s'.heap.get? b=some o)->s'.gens=s.gens->s'.drawn=s.drawn->s'.os=s.os->s'.heap.get? s.heap.objs.size=some {cls:=.type "list",data:=.seq acc c'}->ItemsOf (λi v=>items[items.size-1-i]? =some v) acc items.size->Q (.ref s.heap.objs.size) s'):
 wpAny (model prog w) A (call (.type "list") [.ref I]) Q E s:=by
 have ltI:I<s.heap.objs.size:=by obtain⟨o,e,_⟩:=gI;exact jd e
 have ltl:l<s.heap.objs.size:=by obtain⟨o,e,_⟩:=gl;exact jd e
 refine callType_codes F.called_list (F.typeCall_list_1 _) F.entry_list_init (Q₁:=λv s1=>v=.ref s.heap.objs.size/\s1={s with heap:=s.heap.push {cls:=.type "list",data:=.seq #[]}}) (code_list_new _ ⟨rfl,rfl⟩) λobj s1 h1=>?_;obtain⟨rfl,rfl⟩:=h1;have hS:=jo s.heap (o:={cls:=.type "list",data:=.seq #[]}) rfl;refine⟨⟨_,hS,rfl⟩,F.args_list_init_2 _ _,?_⟩;refine qgz (l:=l) (items:=items) hh hn ?_ ?_ lI (Nat.ne_of_gt ltI) (Nat.ne_of_gt ltl) hS λs' acc c' m e i=>⟨rfl,hQ s' acc c' (λb o nb eb=>?_) m.gens m.drawn m.os e i⟩
 ·obtain⟨o,e,c⟩:=gI;exact⟨o,je _ e,c⟩
 ·obtain⟨o,e,c⟩:=gl;exact⟨o,je _ e,c⟩
 ·refine m.heap b o (λq=>?_) (je _ eb);rcases List.mem_cons.mp q with q|q
  ·have:=jd eb;rw[q]at this;exact xc _ this
  ·exact nb (List.mem_singleton.mp q)
section
variable{X:Cx}{K:FrG}{O:List Nat}{a:Expr}{ta:TE}{p p2 pos zy:Pos}{fa:RhD}
def qjf(K:FrG)(ta:TE):TE:=λσ H Q=>ta σ H λv H1=>∃p xs,[v]=[V.ref p]/\SqL K H1 p xs/\∀q,H1 q=none->Q (.ref q) (upd H1 q (.lst xs.reverse))
theorem qdl(hK:X.K=K)(hc:X.calm=true)(hg:Gl X "list")(hm:X.mg "list"=none)(hg2:Gl X "reversed")(hm2:X.mg "reversed"=none)(ha:PE X a ta)(he2:starEach [a] X.env=(false,eval a X.env)::starEach [] X.env:=by rfl)(hpl2:(backTo pos (starEach [] X.env)).any (·.1)=false:=by rfl)
 (he:starEach [.Call (.Name "reversed" p) [a] [] pos] X.env=(false,eval (.Call (.Name "reversed" p) [a] [] pos) X.env)::starEach [] X.env:=by rfl) (hpl:(backTo zy (starEach [] X.env)).any (·.1)=false:=by rfl):
 PE X (.Call (.Name "list" p2) [.Call (.Name "reversed" p) [a] [] pos] [] zy) (qjf K ta):=by
 subst hK;intro z6 s σ H Q I h;refine xn (q48 I hg hm (u:=.type "list") (by rfl) ?_);refine PyProof.Rows.callWith_type1 ?_ he hpl;rw[he];show wpAny _ _ (spliced ((false,eval (.Call (.Name "reversed" p) [a] [] pos) X.env)::backTo zy (starEach [] X.env))) _ _ s;refine Calls.spliced_cons ?_;refine xn (q48 I hg2 hm2 (u:=.type "reversed") (by rfl) ?_);refine PyProof.Rows.callWith_type1 (thn ((q00 ha q06 he2) pos z6 s σ H (λvs H1=>∃p1 xs,vs=[V.ref p1]/\SqL X.K H1 p1 xs/\∀q,H1 q=none->Q (.ref q) (upd H1 q (.lst xs.reverse))) I h) λus s1 h1=>?_) he2 hpl2;obtain⟨vs,H1,I1,r1,p1,xs,rfl,q1,k⟩:=h1;obtain⟨u,rfl,ru⟩:=vals1 r1;cases(show u=Value.ref p1 from ru);obtain⟨its,rv,pl,hz⟩:=I1.list q1;have ln:its.length=xs.length:=by have:=rv.length;omega
 have lp:p1<s1.heap.objs.size:=by obtain⟨o,e,_⟩:=pl.isList;exact jd e
 refine call_reversed_list pl.isList (Calls.spliced_nil ?_);have gl:(s1.heap.push (revObj p1 ((its.toArray.size:Int)-1))).IsList p1 its.toArray:=by obtain⟨o,e,c⟩:=pl.isList;exact⟨o,je _ e,c⟩
 refine q80 (l:=p1) (items:=its.toArray) (I1.ok.hd hc) (by rw[x9];omega) ⟨_,jo _ rfl,rfl,rfl⟩ gl (jl lp) λs2 acc c' kp eg ed eo e i=>?_;have es:s2={s1 with heap:=s2.heap,toks:=s2.toks}:=by obtain⟨h2,g2,d2,t2,o2⟩:=s2;cases eg;cases ed;cases eo;rfl
 have hf:H1 (s1.heap.push (revObj p1 ((its.toArray.size:Int)-1))).objs.size=none:=I1.hok.fresh (by rw[xk];exact Nat.le_succ _);have ea:acc.toList=its.reverse:=by
  apply List.ext_getElem?;intro j;by_cases hj:j<its.length
  ·have hj2:j<acc.size:=by rw[i.1,x9];exact hj
   have v2:=i.2 j acc[j] (Array.getElem?_eq_getElem hj2);rw[List.getElem?_reverse hj];have v2':its[its.length-1-j]? =some acc[j]:=by simpa using v2
   rw[v2'];simp
  ·rw[xy (by simp;have:=i.1;simp at this;omega),xy (by simp;omega)]
 refine⟨.ref _,_,?_,rfl,k _ hf⟩;rw[es];refine I1.laid (t':=s2.toks) (λb o eb=>kp b o (jl (jd eb)) (je _ eb)) (by rw[xk];exact Nat.le_succ _) ?_;refine⟨by rw[List.length_reverse];exact hz,its.reverse,c',rv.reverse,?_⟩;rw[e,<-ea]
theorem qpi{R:Hp}{b:Addr}{xs:List V}{ds:List D}(h:SqL K R b xs)(r:Rps K R xs ds):ItOk K (Itv K b xs.length) R ds.reverse:=λH' R' s sb i=>by
 have q:SqL K H' b xs:=Same.sqL sb (Same.sqL s h);have ln:=r.length;refine⟨λe=>by show i=xs.length;rw[e,List.length_reverse];exact ln.symm,λd e=>?_⟩;have hi:i<ds.length:=by
  have:=(List.getElem?_eq_some_iff.mp e).1
  rwa [List.length_reverse]at this
 rw[List.getElem?_reverse hi]at e;obtain⟨v,h1,h2⟩:=r.get e;refine⟨⟨xs,q,rfl,by omega⟩,λx H'' y=>?_⟩;obtain⟨rfl,y⟩:=y;have ex:=y xs q;rw[ln,h1]at ex;cases ex;exact⟨R',Ext.refl sb,h2.mono s⟩
def revO:D->Option (List D)
 |.lst xs=>some xs.reverse
 |_=>none
def mRev(f:RhD):RhL:=q1q f λd=>q2w (revO d)
theorem qiu(h:ME K O ta fa):MI K O (iRev K ta) (mRev fa):=λZ σ H R ρ ds ρ' Q S e k=>by
 obtain⟨x,ρ1,e1,e⟩:=q0b e;obtain⟨e3,rfl⟩:=q0k e;refine h Z σ H R ρ x _ _ S e1 λv H1 R1 S1 st1 r1=>?_;unfold revO at e3;split at e3
 ·cases e3;obtain⟨b,xs,rfl,q,r⟩:=r1.isL;exact⟨b,xs,rfl,Same.sqL S1.sub q,k _ H1 R1 S1 st1 (qpi q r)⟩
 ·cases e3
theorem qps{ρ:Rho}:mRev fa ρ=(fa ρ).bind λp=>(revO p.1).map λx=>(x,p.2):=by
 unfold mRev q1q q2w;cases fa ρ with
 |none=>rfl
 |some p=>cases h:revO p.1<;>simp[h]
theorem Rps.rev{R:Hp}:∀{xs:List V} {ds:List D},Rps K R xs ds->Rps K R xs.reverse ds.reverse
 |_,_,.nil=>.nil
 | _,_,.cons h r=>by rw[List.reverse_cons,List.reverse_cons];exact(Rps.rev r).snoc h
end
structure Kp(I S:Addr)(s0 s:Shared):Prop where
 heap:∀b o,b≠I->b≠S->s0.heap.get? b=some o->s.heap.get? b=some o
 gens:s.gens=s0.gens
 drawn:s.drawn=s0.drawn
 os:s.os=s0.os
structure Kq(s s':Shared):Prop where
 heap:∀b o,s.heap.get? b=some o->s'.heap.get? b=some o
 gens:s'.gens=s.gens
 drawn:s'.drawn=s.drawn
 os:s'.os=s.os
theorem Kp.on{I S:Addr}{s0 s s':Shared}(x:Kp I S s0 s)(heap:∀b o,b≠I->b≠S->s.heap.get? b=some o->s'.heap.get? b=some o)(g:s'.gens=s.gens)(d:s'.drawn=s.drawn)(o:s'.os=s.os):Kp I S s0 s':=
 ⟨λb u h1 h2 e=>heap b u h1 h2 (x.heap b u h1 h2 e),g.trans x.gens,d.trans x.drawn,o.trans x.os⟩
def CmpK(prog:Program)(w:World)(A:Around)(I S:Addr)(s0:Shared)(its:Array Value)(bt:Nat->Nat->Bool):Prop:=
 ∀(i j:Nat) (vi vj:Value) (s:Shared) (Q:Value->Shared->Prop) (E:Value->Shared->Prop),its[i]? =some vi->its[j]? =some vj->Kp I S s0 s->(∀s',Kq s s'->Q (.bool (bt i j)) s')->wpAny (model prog w) A (richCompare .Lt vi vj) Q E s
section
variable{prog:Program}{w:World}{A:Around}{R:Result->Shared->Prop}{I S l:Addr}{its:Array Value}{s0:Shared}{bt:Nat->Nat->Bool}{kw:List (Str×Value)}
abbrev StL(I l:Addr)(its:Array Value)(i:Nat)(h:Heap):Prop:=h.IsListIter I l i/\h.IsList l its
theorem StL.keep{i:Nat}{h h':Heap}(st:StL I l its i h)(k:∀b o,b=I∨b=l->h.get? b=some o->h'.get? b=some o):StL I l its i h':=by obtain⟨⟨o,e,c⟩,⟨o2,e2,c2⟩⟩:=st;exact⟨⟨o,k I o (.inl rfl) e,c⟩,⟨o2,k l o2 (.inr rfl) e2,c2⟩⟩
theorem qe4(hh:A.in1.handled=none)(lI:l≠I)(SI:S≠I)(Sl:S≠l)(zw:CmpK prog w A.in1 I S s0 its bt)(hR:∀v s',its[argBest bt (its.size-1)]? =some v->Kp I S s0 s'->R (.ok (.ret v)) s'):
 ∀(k j:Nat) (s:Shared) (vb:Value) (c:Nat),its.size-(j+1)=k->j+1<=its.size->StL I l its (j+1) s.heap->its[argBest bt j]? =some vb->s.heap.get? S=some {cls:=.type "list",data:=.seq #[vb,vb] c}->Kp I S s0 s->
   codeAny (model prog w) A (.builtin "min.loop" ⟨[.ref I,.none,.ref S],kw⟩) R s:=by
 intro k;induction k with
 | zero=>
  intro j s vb c hk hj st hb hS K;have en:j+1=its.size:=by omega
  refine codeAny_builtin F.entry_min_loop ?_;rw[Around.under_plainId ke];show wpAny _ _ (seqItems? (.ref S) >>= _) _ _ s;refine ja (xp hS rfl ?_);refine ja (wpAny_tryCatch ?_);refine wpAny_pyNext_list_end hh st.1 st.2 (Array.getElem?_eq_none (by omega)) λh' eb=>?_;have hS2:h'.get? S=some {cls:=.type "list",data:=.seq #[vb,vb] c}:=eb S _ SI hS;show wpAny _ _ (updateSeq S (λ_=>#[]) >>= _) _ _ {s with heap:=h'};refine ja (wpAny_updateSeq (s:={s with heap:=h'}) hS2 rfl ?_ (by simp[sizeLine_eq]) (by simp[sizeLine_eq]));refine ja (wpAny_letGo ?_);refine jc ?_;have ej:its.size-1=j:=by omega
  refine hR vb _ (by rw[ej];exact hb) (K.on (λb o h1 h2 e=>?_) rfl rfl rfl);exact(k7 h' _ (Ne.symm h2)).trans (eb b o h1 e)
 | succ k ih=>
  intro j s vb c hk hj st hb hS K;have lt:j+1<its.size:=by omega
  refine codeAny_builtin F.entry_min_loop ?_;rw[Around.under_plainId ke];show wpAny _ _ (seqItems? (.ref S) >>= _) _ _ s;refine ja (xp hS rfl ?_);refine ja (wpAny_tryCatch ?_);have hx:its[j+1]? =some its[j+1]:=Array.getElem?_eq_getElem lt;refine wpAny_pyNext_list_item st.1 st.2 (x:=its[j+1]) hx λh' st' sb=>?_;have kI:∀b o,b≠I->s.heap.get? b=some o->h'.get? b=some o:=λb o hb e=>(sb.2 b hb).trans e;have hS2:h'.get? S=some {cls:=.type "list",data:=.seq #[vb,vb] c}:=kI S _ SI hS;have L2:h'.IsList l its:=by obtain⟨o,e,q⟩:=st.2;exact⟨o,kI l o lI e,q⟩
  have K2:Kp I S s0 {s with heap:=h'}:=K.on (λb o h1 _ e=>kI b o h1 e) rfl rfl rfl;show wpAny _ _ (pure its[j+1] >>= _) _ _ {s with heap:=h'};refine ja (jc ?_);show wpAny _ _ (Sem.tryCatch _ _ >>= _) _ _ {s with heap:=h'};refine ja (wpAny_tryCatch (wpAny_holding ?_));refine ja (zw (j+1) (argBest bt j) _ vb _ _ _ hx hb K2 λs3 q3=>?_);refine ja (wpAny_holding (wpAny_truthy_bool ?_));refine ja (wpAny_letGo ?_);refine jc ?_;have hS3:=q3.heap S _ hS2;have st3:StL I l its (j+1+1) s3.heap:=StL.keep ⟨st',L2⟩ λb o _ e=>q3.heap b o e;have K3:Kp I S s0 s3:=K2.on (λb o _ _ e=>q3.heap b o e) q3.gens q3.drawn q3.os;have eb:argBest bt (j+1)=if bt (j+1) (argBest bt j)=true then j+1 else argBest bt j:=by rw[argBest]
  cases q:bt (j+1) (argBest bt j)with
  | true=>
   rw[q,if_pos rfl]at eb;show wpAny _ _ (updateSeq S _ >>= _) _ _ s3;refine ja (wpAny_updateSeq hS3 rfl ?_ (by simp[sizeLine_eq]) (by simp[sizeLine_eq]));refine ja (wpAny_letGo ?_);refine jc ⟨plainId_quiet ke _,?_⟩;have hS4:=kn (Obj.mapSeq λ_=>#[its[j+1],its[j+1]]) hS3 rfl;refine ih (j+1) _ its[j+1] _ (by omega) lt (st3.keep λb o hb e=>?_) (by rw[eb];exact hx) hS4 (K3.on (λb o h1 h2 e=>(k7 s3.heap _ (Ne.symm h2)).trans e) rfl rfl rfl);refine(k7 s3.heap _ ?_).trans e;rcases hb with rfl|rfl
   ·exact SI
   ·exact Sl
  | false=>
   rw[q,if_neg (by decide)]at eb;show wpAny _ _ (letGo _ >>= _) _ _ s3;refine ja (wpAny_letGo ?_);refine jc ⟨plainId_quiet ke _,?_⟩;exact ih (j+1) s3 vb c (by omega) lt st3 (by rw[eb];exact hb) hS3 K3
theorem qbs(hh:A.in1.handled=none)(lI:l≠I)(SI:S≠I)(Sl:S≠l)(zw:CmpK prog w A.in1 I S s0 its bt)(hR:∀v s',its[argBest bt (its.size-1)]? =some v->Kp I S s0 s'->R (.ok (.ret v)) s')
 (hD:its.size=0->∃x d r,kw=(x,d)::r/\∀s',Kp I S s0 s'->R (.ok (.ret d)) s')
 {s:Shared} {c:Nat} (st:StL I l its 0 s.heap) (hS:s.heap.get? S=some {cls:=.type "list",data:=.seq #[] c}) (K:Kp I S s0 s):codeAny (model prog w) A (.builtin "min.loop" ⟨[.ref I,.none,.ref S],kw⟩) R s:=by
 refine codeAny_builtin F.entry_min_loop ?_;rw[Around.under_plainId ke];show wpAny _ _ (seqItems? (.ref S) >>= _) _ _ s;refine ja (xp hS rfl ?_);refine ja (wpAny_tryCatch ?_);by_cases h0:its.size=0
 ·obtain⟨x,d,r,rfl,hE⟩:=hD h0;refine wpAny_pyNext_list_end hh st.1 st.2 (Array.getElem?_eq_none (by omega)) λh' eb=>?_;show wpAny _ _ (rule _ >>= _) _ _ {s with heap:=h'};refine ja (wpAny_rule ?_);refine jc ?_;exact hE _ (K.on (λb o h1 h2 e=>eb b o h1 e) rfl rfl rfl)
 ·have lt:0<its.size:=by omega
  have hx:its[0]? =some its[0]:=Array.getElem?_eq_getElem lt;refine wpAny_pyNext_list_item st.1 st.2 (x:=its[0]) hx λh' st' sb=>?_;have kI:∀b o,b≠I->s.heap.get? b=some o->h'.get? b=some o:=λb o hb e=>(sb.2 b hb).trans e;have hS2:h'.get? S=some {cls:=.type "list",data:=.seq #[] c}:=kI S _ SI hS;have L2:h'.IsList l its:=by obtain⟨o,e,q⟩:=st.2;exact⟨o,kI l o lI e,q⟩
  show wpAny _ _ (pure its[0] >>= _) _ _ {s with heap:=h'};refine ja (jc ?_);show wpAny _ _ (updateSeq S _ >>= _) _ _ {s with heap:=h'};refine ja (wpAny_updateSeq (s:={s with heap:=h'}) hS2 rfl ?_ (by simp[sizeLine_eq]) (by simp[sizeLine_eq]));refine jc ⟨plainId_quiet ke _,?_⟩;have hS4:=kn (Obj.mapSeq λ_=>#[its[0],its[0]]) hS2 rfl;refine qe4 hh lI SI Sl zw hR (its.size-1) 0 _ its[0] _ rfl lt (StL.keep ⟨st',L2⟩ λb o hb e=>?_) hx hS4 (K.on (λb o h1 h2 e=>(k7 h' _ (Ne.symm h2)).trans (kI b o h1 e)) rfl rfl rfl);refine(k7 h' _ ?_).trans e;rcases hb with rfl|rfl
  ·exact SI
  ·exact Sl
end
section
open PySem.SeqAt PySem.MeetsSeq PySem.MeetsSeq2 PySem.MeetsSeq3
end
section
variable{prog:Program}{w:World}{A:Around}{E:Value->Shared->Prop}{s:Shared}
end
inductive Cmps(A:Around)(s:Shared):List Value->List Value->Bool->Prop
 |nil:Cmps A s [] [] false
 |eq {x y:Value} {vs ws:List Value} {r:Bool}:SeqAt.EqAt A s x y true->Cmps A s vs ws r->Cmps A s (x::vs) (y::ws) r
 |ne {x y:Value} {vs ws:List Value} {r:Bool}:SeqAt.EqAt A s x y false->(∀(prog:Program) (w:World) (E Q:Value->Shared->Prop),Q (.bool r) s->wpAny (model prog w) A (richCompare .Lt x y) Q E s)->vs.length=ws.length->Cmps A s (x::vs) (y::ws) r
theorem Cmps.len{A:Around}{s:Shared}{vs ws:List Value}{r:Bool}(h:Cmps A s vs ws r):vs.length=ws.length:=by
 induction h with
 |nil=>rfl
 |eq _ _ ih=>rw[jr,jr,ih]
 |ne _ _ e=>rw[jr,jr,e]
section
open PySem.SeqAt
open PySem.AutoSeq1 (wpAny_loadPart')
open PySem.MeetsSeq PySem.MeetsSeq2 PySem.MeetsSeq3
end
section
variable{prog:Program}{w:World}{A:Around}{E:Value->Shared->Prop}{s:Shared}
end
def qnf(a c:Int)(ns ms:List Int):Bool:=if a=c then HT.lexLt ns ms else decide (a<c)
theorem qfd(a d:Value):argsOk "min" ⟨[a],[(Str.ofString "default",d)]⟩:=by kernel_rfl
section
variable{prog:Program}{w:World}{A:Around}{E:Value->Shared->Prop}{s:Shared}{Q:Value->Shared->Prop}{p:Addr}{its:Array Value}{bt:Nat->Nat->Bool}
theorem qow(hh:A.in1.handled=none)(hl:s.heap.IsList p its){kw:List (Str×Value)}{dflt:Option Value}(hk:kw=dflt.toList.map λd=>(Str.ofString "default",d))
 (zw:CmpK prog w A.in1 s.heap.objs.size (s.heap.objs.size+1) s its bt)
 (hD:its.size=0->∃d,dflt=some d/\∀s',Kq s s'->Q d s') (hQ:∀v s',its[argBest bt (its.size-1)]? =some v->Kq s s'->Q v s'):
 wpAny (model prog w) A.in1 (do let it <-pyIter (.ref p);let b <-newList [];again (.builtin "min.loop" ⟨[it,.none,b],kw⟩)) (λfin s'=>match fin with
  | .done f=>(match (Except.ok f:Result)with
   |.ok (.ret v)=>Q v s'
   |.ok _=>False
   |.error e=>E e s')
  | .again c'=>c'.quiet=true/\codeAny (model prog w) A c' (λr s'=>match r with
   |.ok (.ret v)=>Q v s'
   |.ok _=>False
   |.error e=>E e s') s') E s:=by
 have lp:p<s.heap.objs.size:=by obtain⟨o,e,_⟩:=hl;exact jd e
 refine ja (wpAny_pyIter_list hl ?_);refine ja (xv ?_ (by first|exact Nat.zero_le _|(show(0:Nat)<=sizeLine;exact Nat.zero_le _)));refine jc ⟨plainId_quiet ke _,?_⟩;have push2:∀b o,s.heap.get? b=some o->((s.heap.push {cls:=.type "list_iterator",data:=.fields #[.ref p,.int 0 0]}).push {cls:=.type "list",data:=.seq #[]}).get? b=some o:=λb o e=>je _ (je _ e);have sz:(s.heap.push {cls:=.type "list_iterator",data:=.fields #[.ref p,.int 0 0]}).objs.size=s.heap.objs.size+1:=xk _ _;have kq:∀s',Kp s.heap.objs.size (s.heap.objs.size+1) s s'->Kq s s':=λs' k=>⟨λb o e=>k.heap b o (jl (jd e)) (jl (Nat.lt_succ_of_lt (jd e))) e,k.gens,k.drawn,k.os⟩;dsimp only;rw[sz];refine qbs (s0:=s) hh (jl lp) (Nat.ne_of_gt (Nat.lt_succ_self _)) (Nat.ne_of_gt (Nat.lt_succ_of_lt lp)) zw (λv s' e k=>hQ v s' e (kq s' k)) (λh0=>?_) (c:=0) ⟨⟨_,je _ (jo _ rfl),rfl,rfl⟩,?_⟩ ?_ ⟨λb o _ _ e=>push2 b o e,rfl,rfl,rfl⟩
 ·obtain⟨d,e,k⟩:=hD h0;subst e;exact⟨_,d,[],by rw[hk];rfl,λs' k'=>k s' (kq s' k')⟩
 ·obtain⟨o,e,c⟩:=hl;exact⟨o,push2 p o e,c⟩
 ·have:=jo (s.heap.push {cls:=.type "list_iterator",data:=.fields #[.ref p,.int 0 0]}) (o:={cls:=.type "list",data:=.seq #[]}) rfl;rw[sz]at this;exact this
theorem qf7(hh:A.in1.handled=none)(hl:s.heap.IsList p its){d:Value}(zw:CmpK prog w A.in1 s.heap.objs.size (s.heap.objs.size+1) s its bt)
 (hD:its.size=0->∀s',Kq s s'->Q d s') (hQ:∀v s',0<its.size->its[argBest bt (its.size-1)]? =some v->Kq s s'->Q v s'):wpAny (model prog w) A (call (.builtin "min") [.ref p] [(Str.ofString "default",d)]) Q E s:=by
 refine kmk_tree F.kind_min F.plain_min F.entry_min (qfd _ _) ?_;show wpAny _ _ (Builtin.Builtins.bindParams "min" ["key","default"] 0 ⟨[],[(Str.ofString "default",d)]⟩ >>= _) _ _ s;refine ja (wpAny_of_eq (show _=pure [none,some d]from by rfl) ?_);show wpAny _ _ (pure (Value.ref p) >>= _) _ _ s;refine ja (jc ?_);dsimp only;rw[show(toString "min"++toString ".loop")="min.loop" from by decide];exact qow hh hl (dflt:=some d) rfl zw (λh=>⟨d,rfl,hD h⟩) λv s' e k=>hQ v s' (by
  rcases Nat.eq_zero_or_pos its.size with z|z
  ·rw[Array.getElem?_eq_none (by omega)]at e;cases e
  ·exact z) e k
end
theorem qiy{X:Cx}{z6:List (Addr×Obj)}{σ:St}{H:Hp}{s s':Shared}(I:Inv X z6 σ H s)(k:Kq s s'):Inv X z6 σ H s':=by
 have es:s'={s with heap:=s'.heap,toks:=s'.toks}:=by obtain⟨h2,g2,d2,t2,o2⟩:=s';obtain⟨_,eg,ed,eo⟩:=k;cases eg;cases ed;cases eo;rfl
 rw[es];exact I.kept k.heap
def btI(ns:List Int):Nat->Nat->Bool:=λi j=>decide (ns.getD i 0<ns.getD j 0)
def minI(ns:List Int):Option Int:=match ns with
 |[]=>none
 |_=>some (ns.getD (argBest (btI ns) (ns.length-1)) 0)
def qe3(ns:List Int):V:=match minI ns with
 |none=>.non
 |some m=>.int m
section
variable{X:Cx}{K:FrG}{O:List Nat}{e:Expr}{d:Expr}{te:TE}{p kp pos:Pos}{fe:RhD}
def qmb(K:FrG)(te:TE):TE:=λσ H Q=>te σ H λv H1=>∃(p:Addr) (ns:List Int),[v]=[V.ref p]/\SqL K H1 p (ns.map V.int)/\Q (qe3 ns) H1
theorem qdj(hK:X.K=K)(hc:X.calm=true)(hg:Gl X "min")(hm:X.mg "min"=none)(ha:PE X e te)(hd:PE X d (tC .non))(he:starEach [e] X.env=(false,eval e X.env)::starEach [] X.env:=by rfl)
 (h1:backTo pos (starEach [e] X.env)=(false,eval e X.env)::backTo pos (starEach [] X.env):=by rfl) (h2:(backTo pos (starEach [e] X.env)).any (·.1)=false:=by rfl)
 (h3:(backToKw pos (keywordEach [⟨some "default",d,kp⟩] X.env)).all (λx=>x.1.isSome)=true:=by rfl) (h4:(backToKw pos (keywordEach [⟨some "default",d,kp⟩] X.env)).any (λx=>x.1.isNone)=false:=by rfl)
 (h5:(backToKw pos (keywordEach [⟨some "default",d,kp⟩] X.env)).filterMap (·.1)=[Str.ofString "default"]:=by rfl):
 PE X (.Call (.Name "min" p) [e] [⟨some "default",d,kp⟩] pos) (qmb K te):=by
 subst hK;intro z6 s σ H Q I h;refine xn (q48 I hg hm (u:=.builtin "min") (by rfl) ?_);refine callWith_kw (thn ((q00 ha q06 he) pos z6 s σ H (λvs H1=>∃(p1:Addr) (ns:List Int),vs=[V.ref p1]/\SqL X.K H1 p1 (ns.map V.int)/\Q (qe3 ns) H1) I h) λus s1 hh1=>?_) h1 h2 h3 h4;obtain⟨vs,H1,I1,r1,p1,ns,rfl,q1,k⟩:=hh1;obtain⟨u,rfl,ru⟩:=vals1 r1;cases(show u=Value.ref p1 from ru);refine kws_cons (thn (hd z6 s1 σ H1 (λv H2=>v=.non/\H2=H1) I1 ⟨rfl,rfl⟩) λdv s2 hh2=>?_);obtain⟨x,H2,I2,r2,rfl,rfl⟩:=hh2;cases r2;refine kws_nil ?_;rw[h5];obtain⟨its,rv,pl,hz⟩:=I2.list q1;have ln:its.length=ns.length:=by have:=rv.length;simp at this;omega
 have hh:X.A.in1.handled=none:=I2.ok.hd hc;show wpAny _ _ (call (.builtin "min") [.ref p1] [(Str.ofString "default",.none)]) _ _ s2;refine qf7 (its:=its.toArray) (bt:=btI ns) hh pl.isList (λi j vi vj s Q E hi hj _ q=>?_) (λh0 s' k'=>?_) λv s' h0 ev k'=>?_
 ·obtain⟨t,rfl⟩:=q2h rv (by simpa using hi);obtain⟨t',rfl⟩:=q2h rv (by simpa using hj);exact HT.rcLt_int _ s _ t _ t' _ _ _ _ (q s ⟨λ_ _ e=>e,rfl,rfl,rfl⟩)
 ·have en:ns=[]:=List.eq_nil_of_length_eq_zero (by simp at h0;rw[h0]at ln;simpa using ln.symm);subst en;exact⟨.non,_,qiy I2 k',rfl,k⟩
 ·have hn:ns≠[]:=λz=>by rw[z]at ln;simp at h0 ln;rw[ln]at h0;exact absurd h0 (by simp)
  rw[x9,ln]at ev;obtain⟨t,rfl⟩:=q2h rv (by simpa using ev);refine⟨_,_,qiy I2 k',?_,k⟩;unfold qe3 minI;cases ns with
  |nil=>exact absurd rfl hn
  |cons a r=>exact⟨t,rfl⟩
def optI:Option Int->D
 |none=>.non
 |some m=>.int m
def q6m:D->Option D
 |.lst xs=>(q4k xs).map λns=>optI (minI ns)
 |_=>none
theorem qe5(h:MB K O te fe):ME K O (qmb K te) (mOp1 q6m fe):=λZ σ H R ρ d ρ' Q S e k=>by
 obtain⟨x,ρ1,e1,e⟩:=q0b e;obtain⟨e3,rfl⟩:=q0k e;refine h Z σ H R ρ x _ _ S e1 λv H1 R1 S1 st1 r1=>?_;unfold q6m at e3;split at e3
 ·rename_i xs;obtain⟨b,vs,rfl,q,r⟩:=r1.isL;cases z:q4k xs with
  |none=>rw[z]at e3;cases e3
  | some ns=>
   rw[z]at e3;cases e3;have ex:=q6i r z;subst ex;refine⟨b,ns,rfl,q,k _ H1 R1 S1 st1 ?_⟩;show Rp K R1 (qe3 ns) (optI (minI ns));unfold qe3;cases minI ns with
   |none=>exact .non
   |some m=>exact .int m
 ·cases e3
end
def qLt(x y:Int×List Int):Bool:=qnf x.1 y.1 x.2 y.2
section
variable{X:Cx}{K:FrG}{O:List Nat}
def PrV(K:FrG)(H:Hp)(v:V)(q:Int×List Int):Prop:=∃a b,v=.ref a/\SqT K H a [.int q.1,.ref b]/\SqL K H b (q.2.map V.int)
theorem PrV.mono{H R:Hp}{v:V}{q:Int×List Int}(s:Same R H)(h:PrV K R v q):PrV K H v q:=by obtain⟨a,b,e,h1,h2⟩:=h;exact⟨a,b,e,Same.tup s h1,Same.sqL s h2⟩
end
section
variable{prog:Program}{w:World}{A:Around}{E:Value->Shared->Prop}{s:Shared}
end
section
variable{prog:Program}{w:World}{κ:Type}[DecidableEq κ]{knd:KeyKind prog w κ}{A:Around}{E:Value->Shared->Prop}{s:Shared}
end
theorem KV.len{κ:Type}{kvs:List (κ×V)}{vs:List (κ×Value)}(r:KV kvs vs):kvs.length=vs.length:=Paired.length r
section
variable{X:Cx}{K:FrG}
def getK(kvs:List (Key×V))(k:Int):Option V:=(kvs.find? λp=>decide (p.1=Sum.inl k)).map (·.2)
end
section
variable{K:FrG}{O O':List Nat}{R:Hp}
theorem Rkk.length:∀{kvs:List (Key×V)} {gs:List (Key×D)},Rkk K R kvs gs->kvs.length=gs.length
 |_,_,.nil=>rfl
 |_,_,.cons _ r=>by rw[jr,jr,Rkk.length r]
def qkv(gs:List (Key×D))(k:Int):Option D:=(gs.find? λp=>decide (p.1=Sum.inl k)).map (·.2)
theorem Rkk.val{k:Int}{d:D}:∀{kvs:List (Key×V)} {gs:List (Key×D)},Rkk K R kvs gs->qkv gs k=some d->∃v,getK kvs k=some v/\Rp K R v d
 |_,_,.nil,e=>by cases e
 | _,_,@Rkk.cons _ _ f x xs d' ds h t,e=>by
  unfold qkv at e;by_cases z:f=Sum.inl k
  ·simp[List.find?_cons,z]at e;subst e;exact⟨x,by simp[getK,List.find?_cons,z],h⟩
  ·simp[List.find?_cons,z]at e;obtain⟨v,h1,h2⟩:=Rkk.val (k:=k) (d:=d) t (by unfold qkv;simpa using e);exact⟨v,by rw[<-h1];simp[getK,List.find?_cons,z],h2⟩
end
section
variable{c:MC}{O O':List Nat}{te ti:TE}{fe fi:RhD}
end
theorem qkj{K:FrG}{O:List Nat}{ta:TE}{fa:RhD}(h:ME K O ta fa):MN K O (qjf K ta) (mRev fa):=λZ σ H R ρ ds ρ' Q S e k=>by
 obtain⟨x,ρ1,e1,e⟩:=q0b e;obtain⟨e3,rfl⟩:=q0k e;refine h Z σ H R ρ x _ _ S e1 λv H1 R1 S1 st1 r1=>?_;unfold revO at e3;split at e3
 ·cases e3;obtain⟨b,xs,rfl,q,r⟩:=r1.isL;refine⟨b,xs,rfl,Same.sqL S1.sub q,λl hl=>?_⟩;have x:=Ext.hid (o:=.lst xs.reverse) S1.sub hl;exact k l xs.reverse _ _ (S1.ext x) (st1.trans x.stp) (st1.new hl) q0m (S1.out hl) r.rev
 ·cases e3
section
variable{X:Cx}{K:FrG}{O:List Nat}{a:Expr}{ta:TE}{p p2 pos zy:Pos}{fa:RhD}
end
end L2
namespace L2
open PySem
abbrev Mv:=Int×Int
abbrev Sx:=List (List Mv)
abbrev Rw:=List (Option Int)
def atR(t:Rw)(room:Int):Option Int:=(t[room.toNat]?).join
def q2z(q:Mv)(zf:Rw):Option Int:=(atR zf q.1).map λx=>q.2+x
def q3h(ch:List Mv)(zf:Rw):Option Int:=minI ((ch.map λq=>q2z q zf).filterMap id)
def q1r:List Sx->Rw->List Rw
 |[],zc=>[zc]
 |st::rest,zc=>(st.map λch=>q3h ch ((q1r rest zc).headD []))::q1r rest zc
theorem q5a:∀(zd:List Sx) (zc:Rw),(q1r zd zc).length=zd.length+1
 |[],_=>rfl
 | _::rest,zc=>by unfold q1r;rw[jr,q5a rest zc,jr]
theorem q3d:∀(zd:List Sx) (zc:Rw) (k:Nat),k<=zd.length->(q1r zd zc).drop k=q1r (zd.drop k) zc
 |_,_,0,_=>rfl
 |[],_,k+1,h=>by simp at h
 | _::rest,zc,k+1,h=>by show(q1r rest zc).drop k=q1r (rest.drop k) zc;exact q3d rest zc k (by simpa using h)
theorem qlx{st:Sx}{f:List Mv->Option Int}{room:Int}{ch:List Mv}(h:st[room.toNat]? =some ch):atR (st.map f) room=f ch:=by unfold atR;rw[jk,h];rfl
def OkS(M:Nat):Nat->List Sx->Prop
 |_,[]=>True
 |n,st::rest=>st.length=M/\(∀ch∈st,ch.length=(if n=0 then 1 else 2)/\∀q∈ch,0<=q.1/\q.1.toNat<M)/\OkS M (n-1) rest
end L2
namespace L2
open PySem
structure Near(n:Nat)(cost:List Int->Int)(x:Int×List Int):Prop where
 bits:Bits x.2
 len:x.2.length=n
 val:x.1=cost x.2
 least:∀w,Bits w->w.length=n->qLt (cost w,w) x=false
section
variable(r:Int)(taps:List Int)(rows:List (List Int))(e:Str)(ts:List Told)(n:Nat)
def chunk(k:Nat):List Told:=(ts.drop (q0f taps rows k).length).take (selK taps rows k).length
def mvK(k:Nat)(room bit:Int):Mv:=((2*room+bit) % 2^r.toNat,qf2 (chunk taps rows ts k) (q2u (rowAt rows k) (taps.map (sgn (2*room+bit)))))
def q1z(k:Nat):List Int:=if k<n then [0,1]else [0]
def stepK(k:Nat):Sx:=(List.range (2^r.toNat)).map λ(room:Nat)=>(q1z n k).map λb=>mvK r taps rows ts k (room:Int) b
def q21(k len:Nat):List Sx:=(List.range' k len).map (stepK r taps rows ts n)
def q3k(s:Int):Rw:=(List.range (2^r.toNat)).map λ(room:Nat)=>if e="open"∨(room:Int)=(if e="ring" then s else 0)then some 0 else none
end
section
variable{r:Int}{taps:List Int}{rows:List (List Int)}{e:Str}{ts:List Told}{n:Nat}
theorem q5t(k len:Nat):q21 r taps rows ts n k (len+1)=stepK r taps rows ts n k::q21 r taps rows ts n (k+1) len:=by unfold q21;rw[List.range'_succ];rfl
theorem q32:((2^r.toNat:Nat):Int)=(2:Int)^r.toNat:=by rw[Int.natCast_pow];rfl
theorem q8j:∀(len k:Nat),OkS (2^r.toNat) (n-k) (q21 r taps rows ts n k len)
 |0,k=>True.intro
 | len+1,k=>by
  rw[q5t];refine⟨by unfold stepK;simp,λch hch=>?_,by rw[Nat.sub_sub];exact q8j len (k+1)⟩;unfold stepK at hch;obtain⟨room,hr,rfl⟩:=List.mem_map.mp hch;refine⟨?_,λq hq=>?_⟩
  ·unfold q1z;by_cases h:k<n
   ·rw[if_pos h,if_neg (by omega)];rfl
   ·rw[if_neg h,if_pos (by omega)];rfl
  ·obtain⟨b,_,rfl⟩:=List.mem_map.mp hq;have h1:(0:Int)<2^r.toNat:=Int.pow_pos (by decide);have h2:=Int.emod_nonneg (2*(room:Int)+b) (by omega:(2:Int)^r.toNat≠0);have h3:=Int.emod_lt_of_pos (2*(room:Int)+b) h1;have h4:=q32 (r:=r);refine⟨h2,?_⟩;show((2*(room:Int)+b) % 2^r.toNat).toNat<_;omega
theorem q8e(N:Nat):(q0f taps rows (N+1)).length=(q0f taps rows N).length+(selK taps rows N).length:=by unfold q0f;rw[q3y,jy,jx]
theorem qi2{s room:Int}(h0:0<=room)(h1:room<2^r.toNat):atR (q3k r e s) room=if e="open"∨room=(if e="ring" then s else 0)then some 0 else none:=by
 have h4:=q32 (r:=r);have lt:room.toNat<2^r.toNat:=by omega
 unfold atR q3k;rw[jk,xr lt];simp only[Option.map_some,Option.join_some,Int.toNat_of_nonneg h0]
section
variable(r:Int)(taps:List Int)(rows:List (List Int))(e:Str)(ts:List Told)(n:Nat)
def q1k(s:Int):List Rw:=q1r (q21 r taps rows ts n 0 (n+q0e r e)) (q3k r e s)
end
end
end L2
namespace L2
open PySem
def mvD(q:Mv):D:=.tup [.int q.1,.int q.2]
def chD(ch:List Mv):D:=.lst (ch.map mvD)
def sxD(st:Sx):D:=.lst (st.map chD)
def stD(zd:List Sx):D:=.lst (zd.map sxD)
def rwD(t:Rw):D:=.lst (t.map optI)
def tbD(t:List Rw):D:=.lst (t.map rwD)
def q3q{α:Type}(c:List (List α))(q:Int×α):List (List α):=c.set q.1.toNat (c.getD q.1.toNat []++[q.2])
theorem qa9{α:Type}(j:Nat):∀(xs:List α) (c:List (List α)),j<c.length->((List.replicate xs.length (j:Int)).zip xs).foldl q3q c=c.set j (c.getD j []++xs)
 | [],c,h=>by
  have e:c.set j (c.getD j []++[])=c:=by rw[List.append_nil,xw,jt h];exact List.set_getElem_self h
  rw[e];rfl
 | x::xs,c,h=>by
  have e1:((List.replicate (x::xs).length (j:Int)).zip (x::xs))=((j:Int),x)::(List.replicate xs.length (j:Int)).zip xs:=rfl;rw[e1,List.foldl_cons];have e2:q3q c ((j:Int),x)=c.set j (c.getD j []++[x]):=by unfold q3q;simp only[Int.toNat_natCast]
  rw[e2,qa9 j xs _ (by rw[xg];exact h),List.set_set];congr 1;rw[xw,jv h];simp
theorem q7e{α β:Type}:∀{xs:List α} {ys zs:List β},xs.length=ys.length->xs.zip (ys++zs)=xs.zip ys
 |[],[],_,_=>rfl
 | x::xs,y::ys,zs,h=>by rw[List.cons_append,List.zip_cons_cons,List.zip_cons_cons,q7e (by simpa using h)]
 |[],_::_,_,h=>by simp at h
 |_::_,[],_,h=>by simp at h
section
variable{taps:List Int}{rows:List (List Int)}{ts:List Told}
theorem qab(N:Nat):∀j,j<=N->(q0f taps rows j).length<=ts.length->((q0f taps rows j).zip ts).foldl q3q (List.replicate N [])=(List.range N).map λk=>if k<j then chunk taps rows ts k else []
 | 0,_,_=>by
  show List.replicate N []=_;apply List.ext_getElem?;intro i;by_cases h:i<N
  ·rw[jk,xr h,kc,if_pos h];simp
  ·rw[xy (by simp;omega),xy (by simp;omega)]
 | j+1,hj,hl=>by
  rw[q8e]at hl;have eP:q0f taps rows (j+1)=q0f taps rows j++List.replicate (selK taps rows j).length (j:Int):=q3y _ _;have lc:(chunk taps rows ts j).length=(selK taps rows j).length:=by unfold chunk;rw[xu,kg];omega
  have eT:ts=ts.take (q0f taps rows j).length++(chunk taps rows ts j++(ts.drop (q0f taps rows j).length).drop (selK taps rows j).length):=by unfold chunk;rw[List.take_append_drop,List.take_append_drop]
  have ez:(q0f taps rows (j+1)).zip ts=(q0f taps rows j).zip ts++(List.replicate (selK taps rows j).length (j:Int)).zip (chunk taps rows ts j):=by
   have h1:(q0f taps rows j).length=(ts.take (q0f taps rows j).length).length:=by rw[xu];omega
   have e1:(q0f taps rows j).zip ts=(q0f taps rows j).zip (ts.take (q0f taps rows j).length):=by have:=q7e (zs:=chunk taps rows ts j++(ts.drop (q0f taps rows j).length).drop (selK taps rows j).length) h1;rw[<-eT]at this;exact this
   rw[e1,eP];have:=List.zip_append (r₁:=List.replicate (selK taps rows j).length (j:Int)) (r₂:=chunk taps rows ts j++(ts.drop (q0f taps rows j).length).drop (selK taps rows j).length) h1;rw[<-eT]at this;rw[this,q7e (by rw[jx,lc])]
  rw[ez,List.foldl_append,qab N j (by omega) (by omega),<-lc,qa9 j _ _ (by simp;omega)];apply List.ext_getElem?;intro i;by_cases h:i<N
  ·rw[jk,xr h];by_cases q:j=i
   ·subst q;rw[jv (by simp;omega)];rw[xw,jk,xr h];simp
   ·rw[ji q,jk,xr h];simp only[Option.map_some];congr 1;by_cases z:i<j
    ·rw[if_pos z,if_pos (by omega)]
    ·rw[if_neg z,if_neg (by omega)]
  ·rw[xy (by simp;omega),xy (by simp;omega)]
theorem q8d(N:Nat)(hl:(q0f taps rows N).length<=ts.length):((q0f taps rows N).zip ts).foldl q3q (List.replicate N [])=(List.range N).map (chunk taps rows ts):=by rw[qab N N (jf _) hl];refine List.map_congr_left λk hk=>?_;rw[if_pos (List.mem_range.mp hk)]
end
theorem q6k{i:Nat}{fg:RhG}{f:Fd}(d:D)(r:List D)(ρ:Rho)(dss:List (List D)):q49 i fg f (d::r) ρ dss=match fg d ρ with
 | some ρ1=>if isFree ρ1 i=true then(match f ρ1 dss with
  |some p=>q49 i fg f r p.1 p.2
  |none=>none)else none
 |none=>none:=rfl
theorem qa8{i a b:Nat}{fe:RhD}{fs:RhL}{α:Type}(dat obj:α->D)(ρ0:Option D->Option D->Rho)(hf:∀u v,isFree (ρ0 u v) i=true)
 (hg:∀(k:Int) (t:α) (u v:Option D),(q2p 2 (q11 (gSet a) (q11 (gSet b) q2y))) (.tup [.int k,dat t]) (ρ0 u v)=some (ρ0 (some (.int k)) (some (dat t))))
 (he:∀(k:Int) (t:α),fe (ρ0 (some (.int k)) (some (dat t)))=some (.int k,ρ0 (some (.int k)) (some (dat t)))) (hs:∀(k:Int) (t:α),fs (ρ0 (some (.int k)) (some (dat t)))=some ([obj t],ρ0 (some (.int k)) (some (dat t)))):
 ∀(zs:List (Int×α)) (c:List (List α)) (u v:Option D),(∀q∈zs,0<=q.1/\q.1.toNat<c.length)->(∀g∈c,g.length+zs.length<sizeLine)->∃u' v',q49 i (q2p 2 (q11 (gSet a) (q11 (gSet b) q2y))) (q2t i fe fs) (zs.map λq=>D.tup [.int q.1,dat q.2]) (ρ0 u v) (c.map λg=>g.map obj)=some (ρ0 u' v',(zs.foldl q3q c).map λg=>g.map obj)
 |[],c,u,v,_,_=>⟨u,v,rfl⟩
 | q::zs,c,u,v,hz,hc=>by
  obtain⟨z0,z1⟩:=hz q jj;have hq:c[q.1.toNat]? =some c[q.1.toNat]:=jt z1;have hp:q4m (c.map λg=>g.map obj) q.1 (obj q.2)=some ((q3q c q).map λg=>g.map obj):=by unfold q4m;rw[if_pos z0,jk,hq];simp only[Option.map_some];rw[if_pos (by rw[jb];have:=hc _ (k6 z1);simp at this;omega)];unfold q3q;rw[List.map_set,xw,hq];simp
  obtain⟨u',v',h⟩:=qa8 (i:=i) (a:=a) (b:=b) (fe:=fe) (fs:=fs) dat obj ρ0 hf hg he hs zs (q3q c q) (some (.int q.1)) (some (dat q.2)) (λp hp=>by
   have:=hz p (jg _ hp);refine⟨this.1,?_⟩;unfold q3q;rw[xg];exact this.2) (λg hg=>by
   unfold q3q at hg;rcases List.mem_or_eq_of_mem_set hg with h1|h1
   ·have:=hc g h1;simp at this;omega
   ·rw[h1,xw,hq];have:=hc _ (k6 z1);simp at this ⊢;omega)
  refine⟨u',v',?_⟩;have step:q2t i fe fs (ρ0 (some (.int q.1)) (some (dat q.2))) (c.map λg=>g.map obj)=some (ρ0 (some (.int q.1)) (some (dat q.2)),(q3q c q).map λg=>g.map obj):=by unfold q2t;rw[he q.1 q.2];simp only[hf,if_true];rw[hs q.1 q.2];simp only[hf,if_true,hp,Option.map_some]
  rw[xh,List.foldl_cons,<-h,q6k,hg q.1 q.2 u v];simp only[hf,if_true,step]
end L2
namespace L2
open PySem PySem.Spec PyProof.Rows
section
variable{X:Cx}{K:FrG}
end
structure FunD(K:FrG)(x qual:Str)(st:Stmt)(f:Addr)(fd:FuncData):Prop where
 ex:∃(oc:Value) (od:Option Addr) (dV kV doc pm:Value) (an:Option Addr) (cdv ct:Value) (osl:Array (Option Value)),
  fd=PySem.W.fnOf x qual (q0p st) (q0j st) (q04 st) dV kV doc pm an cdv ct/\K.lookup f=some ⟨oc,od,.func fd,osl⟩/\PySem.W.codeIn K cdv qual=true
 kp:PySem.W.keepIn K (.ref f)=true
section
variable{P:Program}{w:World}{K:FrG}{mg:Str->Option Value}{base:Heap}
theorem FunD.ok{x qual:Str}{st:Stmt}{f:Addr}{fd:FuncData}{N ps:List Str}{k:Nat}{sp:Sp}(F:FunD K x qual st f fd)(S:q0q N ps (q04 st))(len:∀vs H Q E,sp vs H Q E->vs.length=ps.length)
 (zh:∀(cdv:Value) (A:Around) (outer:List Env) (s:Shared) (H:Hp) (vs:List V) (Q:VK) (E:XK),Room k (A.deeper (envOfC qual (q04 st) s.heap.objs.size f cdv))->sp vs H Q E->
   ∃t,PSs (cxOf CX0 P w K mg base N qual (q04 st) f cdv A outer s H E).nox (q0j st) t/\t {nx:=λ_ H'=>Q .non H',rt:=Q} (start N vs) H):FnOk P w K mg base CX0 (k+1) f fd ps sp:=by
 obtain⟨oc,od,dV,kV,doc,pm,an,cdv,ct,osl,rfl,lk,hcd⟩:=F.ex;refine qh5 lk hcd S len λA outer s H vs Q E hr hsp=>?_;obtain⟨t,h,q⟩:=zh cdv A outer s H vs Q E hr hsp;exact⟨t,h.nox,q⟩
theorem qkw{x qual:Str}{st:Stmt}{f:Addr}{oc:Value}{od an:Option Addr}{osl:Array (Option Value)}{dV kV doc pm cdv ct:Value}(l:K.lookup f=some ⟨oc,od,.func (PySem.W.fnOf x qual (q0p st) (q0j st) (q04 st) dV kV doc pm an cdv ct),osl⟩)
 (c:PySem.W.codeIn K cdv qual=true) (k:PySem.W.keepIn K (.ref f)=true):FunD K x qual st f (PySem.W.fnOf x qual (q0p st) (q0j st) (q04 st) dV kV doc pm an cdv ct):=⟨⟨oc,od,dV,kV,doc,pm,an,cdv,ct,osl,rfl,l,c⟩,k⟩
theorem qqb{fd:FuncData}{ps:List Str}{T:Addr}{oc:Value}{od:Option Addr}{osl:Array (Option Value)}{items:Array Value}{n:Nat}(hd:fd.defaults=.ref T)(l:K.lookup T=some ⟨oc,od,.seq items n,osl⟩)
 (h:∀us:List Value,us.length=ps.length->∃k,bindArgs fd ⟨us,[]⟩=seqItems? fd.defaults >>= k/\k (some items)=pure (ps.zip us)):Binds K fd ps []:=λs us X hl=>by
 rw[List.append_nil]at hl ⊢;obtain⟨k,h1,h2⟩:=h us hl;exact BindsTo.of_defaults hd (X _ _ l) rfl h1 h2
end
theorem qgl{K:FrG}{O:List Nat}{sp:Sp}{dvs:List V}{E E':XK}{tr:TA}{xs:Xr}(h:MAX K O tr E' xs):MX K O (q53 sp dvs E tr) E' xs:=λZ σ H R ρ C ρ' Q S e k=>h Z σ H R ρ C ρ' _ S e k
section
variable{P:Program}{w:World}{K:FrG}{mg:Str->Option Value}{base:Heap}
theorem FunD.okX{x qual:Str}{st:Stmt}{f:Addr}{fd:FuncData}{N ps:List Str}{k:Nat}{sp:Sp}(F:FunD K x qual st f fd)(S:q0q N ps (q04 st))(len:∀vs H Q E,sp vs H Q E->vs.length=ps.length)
 (zh:∀(cdv:Value) (A:Around) (outer:List Env) (s:Shared) (H:Hp) (vs:List V) (Q:VK) (E:XK),Room k (A.deeper (envOfC qual (q04 st) s.heap.objs.size f cdv))->sp vs H Q E->
   ∃t,PSs (cxX P w K mg base N qual (q04 st) f cdv A outer s H E) (q0j st) t/\t {nx:=λ_ H'=>Q .non H',rt:=Q} (start N vs) H):FnOk P w K mg base (CX1 P w) (k+1) f fd ps sp:=by
 obtain⟨oc,od,dV,kV,doc,pm,an,cdv,ct,osl,rfl,lk,hcd⟩:=F.ex;exact qh5 lk hcd S len λA outer s H vs Q E hr hsp=>zh cdv A outer s H vs Q E hr hsp
theorem qi4(i:Int)(t:Tok):Vals [V.int i] [Value.int i t]:=.cons ⟨t,rfl⟩ .nil
def g31{α:Type}:List α->List α->List α
 |[a,b,c],[d]=>[a,b,c,d]
 |_,_=>[]
theorem qqa{fd:FuncData}{p0 p1 p2 p3:Str}{T:Addr}{oc:Value}{od:Option Addr}{osl:Array (Option Value)}{items:Array Value}{n:Nat}(hd:fd.defaults=.ref T)(l:K.lookup T=some ⟨oc,od,.seq items n,osl⟩)
 (h:∀a b c d:Value,∃k,bindArgs fd ⟨[a,b,c],[(p3,d)]⟩=seqItems? fd.defaults >>= k/\k (some items)=pure ([p0,p1,p2,p3].zip [a,b,c,d])):qb3 K fd [p0,p1,p2,p3] [p3] g31 g31 where
 to:=λs us ws X hl=>by
  match us,ws,hl with
  | [a,b,c],[d],_=>
   obtain⟨k,h1,h2⟩:=h a b c d;exact BindsTo.of_defaults hd (X _ _ l) rfl h1 h2
  |[],_,hl=>cases hl
  |[_],_,hl=>cases hl
  |[_,_],_,hl=>cases hl
  |_::_::_::_::_,_,hl=>cases hl
  |[_,_,_],[],hl=>cases hl
  |[_,_,_],_::_::_,hl=>cases hl
 rel:=λ{vs us zs ws} r1 r2=>by
  match vs,us,r1,zs,ws,r2 with
  |[_,_,_],[_,_,_],.cons h1 (.cons h2 (.cons h3 .nil)),[_],[_],.cons h4 .nil=>exact .cons h1 (.cons h2 (.cons h3 (.cons h4 .nil)))
  |[],_,.nil,_,_,_=>exact .nil
  |[_],_,.cons _ .nil,_,_,_=>exact .nil
  |[_,_],_,.cons _ (.cons _ .nil),_,_,_=>exact .nil
  |_::_::_::_::_,_,.cons _ (.cons _ (.cons _ (.cons _ _))),_,_,_=>exact .nil
  |[_,_,_],_,.cons _ (.cons _ (.cons _ .nil)),[],_,.nil=>exact .nil
  |[_,_,_],_,.cons _ (.cons _ (.cons _ .nil)),_::_::_,_,.cons _ (.cons _ _)=>exact .nil
end
def ers(H:Hp)(b:Addr):Hp:=λa=>if a=b then none else H a
theorem q7v{H:Hp}{b:Addr}:ers H b b=none:=if_pos rfl
theorem qev{H:Hp}{a b:Addr}(h:a≠b):ers H b a=H a:=if_neg h
theorem qau{H:Hp}{a b:Addr}{o:HO}(h:ers H b a=some o):H a=some o/\a≠b:=by
 by_cases z:a=b
 ·rw[z,q7v]at h;cases h
 ·rw[qev z]at h;exact⟨h,z⟩
theorem qhc{H:Hp}{a b:Addr}(h:H a=none):ers H b a=none:=by
 by_cases z:a=b
 ·rw[z];exact q7v
 ·rw[qev z];exact h
def spAB(K:FrG)(g:D->List D->Option (List (List D))):Sp:=λvs H Q _=>∃v b ws R d ds dss,vs=[v,.ref b]/\(∀a o,R a=some o->H a=some o)/\Rp K R v d/\H b=some (.lst ws)/\R b=none/\Rps K R ws ds/\g d ds=some dss/\
 ∀l as H' R',Ext (ers H b) R H' R'->(∀a∈l::as,ers H b a=none)->Deep K H' R' l as dss->Q (.ref l) H'
def scs(ds:List D):Bool:=ds.all λd=>match d with
 |.int _=>true
 |.non=>true
 |_=>false
theorem qcl{K:FrG}{R R':Hp}:∀{vs:List V} {ds:List D},Rps K R vs ds->scs ds=true->Rps K R' vs ds
 |_,_,.nil,_=>.nil
 | _,_,.cons h r,e=>by
  unfold scs at e;rw[List.all_cons,Bool.and_eq_true]at e;refine .cons ?_ (qcl r e.2);cases h with
  |int i=>exact .int i
  |non=>exact .non
  |_=>cases e.1
section
variable{K:FrG}{Z:Anc}{O:List Nat}{i j:Nat}{σ:St}{H R H':Hp}{ρ:Rho}{l b:Addr}{as bs:List Addr}{dss ess:List (List D)}{vs:List V}{ds:List D}
theorem Inn.mem_some{a:Addr}(h:Inn K H R as dss)(m:a∈as):R a=none:=by obtain⟨k,e⟩:=List.mem_iff_getElem?.mp m;obtain⟨_,_,_,_,r,_⟩:=h.at e;exact r
theorem StD.rn(S:StD K Z O i σ H R ρ l as dss):∀a∈l::as,R a=none:=λa ha=>by
 rcases List.mem_cons.mp ha with q|q
 ·rw[q];exact S.dp.rl
 ·exact S.dp.inn.mem_some q
theorem StD.add(S:StD K Z O i σ H R ρ l as dss)(hb:H b=some (.lst vs))(rb:R b=none)(zb:Z.H0 b=none)(ob:∀j,j∈O->σ[j]? ≠some (some (.ref b)))(nb:b∉l::as)(r:Rps K R vs ds):
 StD K Z O i σ (upd H l (.lst ((as++[b]).map V.ref))) R ρ l (as++[b]) (dss++[ds]):=by
 have nl:l∉as:=(List.nodup_cons.mp S.dp.nd).1;have na:as.Nodup:=(List.nodup_cons.mp S.dp.nd).2;have bl:b≠l:=λq=>nb (by rw[q];exact jj);have ba:b∉as:=λq=>nb (jg _ q);have m:l∈l::as:=jj;have mem:∀a,a∈l::(as++[b])->a∈l::as∨a=b:=λa ha=>by
  rcases List.mem_cons.mp ha with q|q
  ·exact .inl (q▸m)
  ·rcases List.mem_append.mp q with q|q
   ·exact .inl (jg _ q)
   ·exact .inr (List.mem_singleton.mp q)
 refine⟨S.st.put S.dp.rl (S.ow l m) (S.z0 l m),S.hi,S.no,S.at',⟨q0m,S.dp.rl,?_,?_⟩,λa ha=>?_,λa ha=>?_⟩
 ·refine Inn.wr (Inn.snoc S.dp.inn hb rb r) λq=>?_;rcases List.mem_append.mp q with q|q
  ·exact nl q
  ·exact bl (List.mem_singleton.mp q).symm
 ·refine List.nodup_cons.mpr ⟨λq=>?_,List.nodup_append.mpr ⟨na,by simp,λx hx y hy q=>ba (by rw[List.mem_singleton.mp hy]at q;exact q▸hx)⟩⟩;rcases List.mem_append.mp q with q|q
  ·exact nl q
  ·exact bl (List.mem_singleton.mp q).symm
 ·rcases mem a ha with q|q
  ·exact S.z0 a q
  ·rw[q];exact zb
 ·rcases mem a ha with q|q
  ·exact S.ow a q
  ·rw[q];exact ob
theorem StD.off{a:Addr}{o:HO}(S:StD K Z O i σ H R ρ l as dss)(na:a∉l::as)(ra:R a=none)(za:Z.H0 a=none)(oa:∀j,j∈O->σ[j]? ≠some (some (.ref a))):StD K Z O i σ (upd H a o) R ρ l as dss:=
 ⟨S.st.put ra oa za,S.hi,S.no,S.at',⟨by rw[q0i λq=>na (by rw[q];exact jj)];exact S.dp.top,S.dp.rl,S.dp.inn.wr λq=>na (jg _ q),S.dp.nd⟩,S.z0,S.ow⟩
theorem StR.all(S:StR K Z [] σ H R ρ):StR K ⟨H,H,λ_=>False,[]⟩ [] σ H H ρ:=
 ⟨λ_ _ z=>z,S.len,λj d hj z=>by obtain⟨v,h1,h2⟩:=S.env j d hj z;exact⟨v,h1,h2.mono S.sub⟩,λi hi=>(nomatch hi),λi j hi _=>(nomatch hi),λ_ _ z _=>z,Same.refl _,λ_ z=>.inl z,λ_ z=>.refl z,λi hi _=>(nomatch hi),λi hi _=>(nomatch hi)⟩
theorem StR.give{v:V}{d:D}(S:StR K Z [] σ H R ρ)(e:σ[j]? =some (some v))(r:Rp K R v d):StR K Z [] σ H R (ρ.set j (some d)):=
 ⟨S.sub,by rw[xg];exact S.len,λk d' hk z=>by
   by_cases q:j=k
   ·subst q;have hl:j<ρ.length:=by rw[<-S.len];exact(List.getElem?_eq_some_iff.mp e).1
    rw[jv hl]at z;cases z;exact⟨v,e,r⟩
   ·rw[ji q]at z;exact S.env k d' hk z,λi hi=>(nomatch hi),λi j hi _=>(nomatch hi),S.ah,S.ar,S.an,S.ad,λi hi _=>(nomatch hi),λi hi _=>(nomatch hi)⟩
theorem at_neg{α:Type}(xs:List α){x:α}(h:xs[xs.length-1]? =some x):atI xs (-1)=some x:=by
 have h0:xs.length-1<xs.length:=(List.getElem?_eq_some_iff.mp h).1;unfold atI;have e1:ixN xs.length (-1)=some (xs.length-1):=by unfold ixN;rw[if_neg (by decide),if_pos (by omega)];congr 1;omega
 rw[e1];exact h
def q8r(i j:Nat)(fc:RhL):Fd:=λρ dss=>match dss[dss.length-1]? with
 | some ds=>(match fc (ρ.set j (some (.lst ds)))with
  |some (ys,_)=>if isFree ρ j=true/\scs ys=true/\dss.length<sizeLine then some (ρ,dss++[ys])else none
  |none=>none)
 |none=>none
theorem qkh{tm tc:TE}{fc:RhL}(hm:∀(σ:St) (H:Hp) (Q:VK),Q (.int (-1)) H->tm σ H Q)(hc:MN K [] tc fc)(ij:j≠i):
 MSD K [] i (tSeq (tAsg (tOp (rIx K) (tVar i) tm) (q37 j)) (q4d (tBM K "list" q39 (tVar i) (q2g tc tNil)))) (q8r i j fc):=λZ E σ H R ρ l as dss ρ' zm S e k=>by
 unfold q8r at e;split at e
 ·rename_i ds e1;split at e
  ·rename_i ys ρ1 e2;split at e
   ·rename_i z;obtain⟨z1,z2,z3⟩:=z;cases e;have nj:=q2x z1;have ln:=S.dp.inn.len;have h0:dss.length-1<dss.length:=(List.getElem?_eq_some_iff.mp e1).1;have hk:dss.length-1<as.length:=by omega
    have ea:as[dss.length-1]? =some as[dss.length-1]:=jt hk;generalize as[dss.length-1]=a at ea;have el:(as.map V.ref)[(as.map V.ref).length-1]? =some (.ref a):=by rw[jb,ln,jk,ea];rfl
    refine⟨.ref l,S.at',hm σ H _ (.inl ⟨l,_, -1,.ref a,rfl,rfl,SqL.of S.dp.top,at_neg _ el,?_⟩)⟩;have S1:=S.blind (v:=.ref a) (j:=j) (λh=>nomatch h) ij nj;have hj:j<ρ.length:=(List.getElem?_eq_some_iff.mp nj).1;have ej:(σ.set j (some (.ref a)))[j]? =some (some (.ref a)):=jv (by rw[S.st.len];exact hj);obtain⟨ws,ds2,g1,g2,g3,g4⟩:=S1.dp.inn.at ea;rw[e1]at g1;cases g1;have SL:=S1.st.all.give ej (.lst (SqL.of g2) (g4.mono S1.st.sub));refine⟨.ref l,S1.at',.inl ⟨rfl,_,SqL.of S1.dp.top⟩,hc _ _ H H _ ys ρ1 _ SL e2 λb us H1 R1 S2 st2 hb hb1 rb1 rv=>?_⟩;have sm:Same H H1:=λa o z=>st2.h a o z λi hi=>(nomatch hi);have S3:=S1.grown sm;have nb:b∉l::as:=λq=>by
     rcases List.mem_cons.mp q with q|q
     ·have:=S1.dp.top;rw[<-q,hb]at this;cases this
     ·obtain⟨us,e⟩:=S1.dp.inn.has b q;rw[hb]at e;cases e
    have S4:=S3.add hb1 (S1.st.out hb) (S1.st.new0 hb) (λj hj=>nomatch hj) nb (qcl rv z2);refine⟨l,as.map V.ref,.ref b,rfl,rfl,S3.dp.top,by rw[jb,ln];exact z3,?_⟩;rw[xm]at S4;exact k _ _ R _ S4 (Same.refl _)
   ·cases e
  ·cases e
 ·cases e
theorem Inn.rev:∀{as:List Addr} {dss:List (List D)},Inn K H R as dss->Inn K H R as.reverse dss.reverse
 |_,_,.nil=>.nil
 | _,_,.cons h1 h2 h3 t=>by rw[List.reverse_cons,List.reverse_cons];exact(Inn.rev t).snoc h1 h2 h3
def gAB(n:Nat)(f:Fd)(d:D)(ds:List D):Option (List (List D)):=match f (some d::List.replicate n none) [ds]with
 |some p=>some p.2.reverse
 |none=>none
theorem qck{Nms:List Str}{n:Nat}{t:TS}{f:Fd}{vs:List V}{Q:VK}{E:XK}(hN:Nms.length=n+1)(hn:2<=n)(hm:MSD K [] 2 t f)(h:spAB K (gAB n f) vs H Q E):
 (tSeq (tAsg (tLst (q2g (tVar 1) tNil)) (q37 2)) (tSeq t (tRet (qjf K (tVar 2))))) {nx:=λ_ H'=>Q .non H',rt:=Q} (start Nms vs) H:=by
 obtain⟨v,b,ws,R,d,ds,dss,rfl,sub,rv,hb,rb,rw',e,k⟩:=h;unfold gAB at e;split at e
 ·rename_i p e1;obtain⟨ρ',zm⟩:=p;cases e;have es:start Nms [v,.ref b]=some v::some (.ref b)::List.replicate (n-1) none:=by
   unfold start;show [some v,some (.ref b)]++List.replicate (Nms.length-2) none=_;rw[hN,show n+1-2=n-1 from by omega];rfl
  have er:List.replicate n (none:Option D)=none::List.replicate (n-1) none:=by rw[<-List.replicate_succ,show n-1+1=n from by omega]
  have er2:List.replicate (n-1) (none:Option V)=none::List.replicate (n-2) none:=by rw[<-List.replicate_succ,show n-2+1=n-1 from by omega]
  have er3:List.replicate (n-1) (none:Option D)=none::List.replicate (n-2) none:=by rw[<-List.replicate_succ,show n-2+1=n-1 from by omega]
  rw[es];refine⟨.ref b,rfl,by show 1<=sizeLine;decide,λp hp=>?_⟩;have pb:p≠b:=λq=>by rw[q,hb]at hp;cases hp
  have S0:StR K ⟨ers H b,R,λ_=>False,[]⟩ [] (some v::some (.ref b)::List.replicate (n-1) none) H R (some d::List.replicate n none):=by
   refine⟨sub,?_,λi d' _ q=>?_,λi hi=>(nomatch hi),λi j hi _=>(nomatch hi),λa o z _=>(qau z).1,Same.refl _,λ_ z=>.inl z,λa z=>?_,λi hi _=>(nomatch hi),λi hi _=>(nomatch hi)⟩
   ·rw[jr,jr,jr,jx,jx];omega
   ·cases i with
    |zero=>cases q;exact⟨v,rfl,rv⟩
    | succ i=>
     rw[List.getElem?_cons_succ,kc]at q;split at q<;>cases q
   ·exact(show Same (ers H b) H from λa o z=>(qau z).1).liv z
  have x:=Ext.hid (o:=.lst [.ref b]) S0.sub hp;have rp:R p=none:=S0.out hp;have S1:StD K ⟨ers H b,R,λ_=>False,[]⟩ [] 2 ((some v::some (.ref b)::List.replicate (n-1) none).set 2 (some (.ref p))) (upd H p (.lst [.ref b])) R (some d::List.replicate n none) p [b] [ds]:=by
   have SB:=(S0.ext x).blind (v:=.ref p) (j:=2) (λh=>nomatch h);have eρ:(some d::List.replicate n none:Rho).set 2 none=some d::List.replicate n none:=by rw[er,er3];rfl
   rw[eρ]at SB;refine⟨SB,(λh=>nomatch h),by rw[er,er3];rfl,by rw[er2];rfl,⟨q0m,rp,.cons (by rw[q0i λq=>pb q.symm];exact hb) rb rw' .nil,?_⟩,λa ha=>?_,λa ha j hj=>(nomatch hj)⟩
   ·exact List.nodup_cons.mpr ⟨λq=>pb (List.mem_singleton.mp q),List.nodup_cons.mpr ⟨λq=>(nomatch q),List.nodup_nil⟩⟩
   ·rcases List.mem_cons.mp ha with q|q
    ·rw[q];exact qhc hp
    ·rw[List.mem_singleton.mp q];exact q7v
  refine hm _ _ _ _ R _ p [b] [ds] ρ' zm S1 e1 λσ' H' R' as' S' s'=>?_;refine⟨.ref p,S'.at',p,_,rfl,SqL.of S'.dp.top,λq hq=>?_⟩;have S2:=S'.st.ext (Ext.hid (o:=.lst (as'.map V.ref).reverse) S'.st.sub hq);have nq:q∉p::as':=λz=>by
   rcases List.mem_cons.mp z with z|z
   ·have:=S'.dp.top;rw[<-z,hq]at this;cases this
   ·obtain⟨us,e⟩:=S'.dp.inn.has q z;rw[hq]at e;cases e
  refine k q as'.reverse _ R' ⟨λa o z=>S2.ah a o z (λz=>z),S2.ar,S2.sub,S2.an⟩ (λa ha=>?_) ⟨by rw[List.map_reverse];exact q0m,S'.st.out hq,(S'.dp.inn.wr λz=>nq (jg _ z)).rev,?_⟩
  ·rcases List.mem_cons.mp ha with z|z
   ·rw[z];exact S'.st.new0 hq
   ·exact S'.z0 a (jg _ (List.mem_reverse.mp z))
  ·refine List.nodup_cons.mpr ⟨λz=>nq (jg _ (List.mem_reverse.mp z)),?_⟩;exact List.pairwise_reverse.mpr ((List.nodup_cons.mp S'.dp.nd).2.imp λh=>h.symm)
 ·cases e
def gAh(n:Nat)(fm:RhD)(fe:RhL)(g:D->List D->Option (List (List D)))(ds:List D):Option (List (List D)):=if ds.length=n then(match fm (ds.map some)with
 | some (d,ρ1)=>(match fe ρ1 with
  |some (xs,_)=>g d xs
  |none=>none)
 |none=>none)else none
theorem qs1{n:Nat}{fm:RhD}{fe:RhL}{g:D->List D->Option (List (List D))}:q1f n (λds=>q4y (gAh n fm fe g ds)):=λds d e=>by
 have e:q4y (gAh n fm fe g ds)=some d:=e;unfold gAh at e;split at e
 ·assumption
 ·cases e
theorem qcj{Nms:List Str}{n:Nat}{tm te:TE}{fm:RhD}{fe:RhL}{g:D->List D->Option (List (List D))}{vs:List V}{Q:VK}{E E':XK}(hN:Nms.length=n)(hm:ME K [] tm fm)(he:MN K [] te fe)(h:spD K n (gAh n fm fe g) vs H Q E):
 (tRet (q53 (spAB K g) [] E' (q2g tm (q2g te tNil)))) {nx:=λ_ H'=>Q .non H',rt:=Q} (start Nms vs) H:=by
 obtain⟨hn,R,ds,dss,sub,r,e,k⟩:=h;unfold gAh at e;split at e
 ·rename_i hl;split at e
  ·rename_i d ρ1 e1;split at e
   ·rename_i xs ρ2 e2;have S:=qat (Nms:=Nms) hn hl sub r;rw[hN,Nat.sub_self,List.replicate_zero,List.append_nil]at S;refine hm _ _ H R _ d ρ1 _ S e1 λv H1 R1 S1 st1 r1=>he _ _ H1 R1 ρ1 xs ρ2 _ S1 e2 λb ws H2 R2 S2 st2 hb hb2 rb r2=>?_;have sm:Same H (ers H2 b):=λa o z=>by
     have h1:H1 a=some o:=st1.h a o z λi hi=>(nomatch hi);have h2:H2 a=some o:=st2.h a o h1 λi hi=>(nomatch hi);rw[qev λq=>by rw[q,hb]at h1;cases h1];exact h2
    refine⟨v,b,ws,R2,d,xs,dss,rfl,S2.sub,r1.mono st2.r,hb2,rb,r2,e,λl as H' R' x z dp=>k l as H' R' ⟨sm.trans x.h,S2.ar.trans x.r,x.s,λa q=>?_⟩ (λa ha=>?_) dp⟩
    ·rcases x.n a q with y|y
     ·exact S2.an a y
     ·exact .inr (y.back λw=>sm.liv w)
    ·cases q:H a with
     |none=>rfl
     | some o=>
      have:=sm a o q;rw[z a ha]at this;cases this
   ·cases e
  ·cases e
 ·cases e
end
section
variable{K:FrG}{Z:Anc}{i j q:Nat}{σ:St}{H R H':Hp}{ρ:Rho}{l m:Addr}{as bs:List Addr}{dss:List (List D)}
structure StT(K:FrG)(Z:Anc)(i j:Nat)(σ:St)(H R:Hp)(ρ:Rho)(l m:Addr)(as bs:List Addr)(dss ess:List (List D)):Prop where
 a:StD K Z [] i σ H R ρ l as dss
 b:StD K Z [] j σ H R ρ m bs ess
 dj:∀x∈l::as,x∉m::bs
theorem StT.lent{ess:List (List D)}(S:StT K Z i j σ H R ρ l m as bs dss ess):StR K ⟨H,H,λ_=>False,[]⟩ [] σ H H ((ρ.set i (some (.lst (dss.map D.lst)))).set j (some (.lst (ess.map D.lst)))):=
 (S.a.st.all.give S.a.at' (.lst (SqL.of S.a.dp.top) (S.a.dp.inn.rps S.a.st.sub))).give S.b.at' (.lst (SqL.of S.b.dp.top) (S.b.dp.inn.rps S.b.st.sub))
theorem StT.grown{ess:List (List D)}(S:StT K Z i j σ H R ρ l m as bs dss ess)(s:Same H H'):StT K Z i j σ H' R ρ l m as bs dss ess:=⟨S.a.grown s,S.b.grown s,S.dj⟩
def q3p(dss:List (List D))(n:Nat):List (List D):=(dss.take n).map (·++[D.int 0])++dss.drop n
theorem qg3{n:Nat}{ds:List D}(h:dss[n]? =some ds):(q3p dss n)[n]? =some ds/\(q3p dss n).set n (ds++[.int 0])=q3p dss (n+1):=by
 have hlt:=(List.getElem?_eq_some_iff.mp h).1;have lt1:((dss.take n).map (·++[D.int 0])).length=n:=by simp;omega
 have hd:dss[n]=ds:=(List.getElem?_eq_some_iff.mp h).2;unfold q3p;refine⟨?_,?_⟩
 ·rw[xx (by omega),lt1,Nat.sub_self,List.getElem?_drop,Nat.add_zero,h]
 ·rw[List.set_append_right _ _ (by omega),lt1,Nat.sub_self,ki hlt,List.set_cons_zero,List.take_succ_eq_append_getElem hlt,xm,List.append_assoc,hd];rfl
theorem qd9{n:Nat}(h:∀ds∈dss,scs ds=true):(q3p dss n).all scs=true:=by
 refine List.all_eq_true.mpr λds hd=>?_;unfold q3p at hd;rcases List.mem_append.mp hd with z|z
 ·obtain⟨es,he,rfl⟩:=List.mem_map.mp z;have:=h es (List.mem_of_mem_take he);unfold scs at this ⊢;rw[List.all_append,this];rfl
 ·exact h ds (List.mem_of_mem_drop z)
theorem qaa{n:Nat}{ds:List D}{E:Ends}{k:Int}(S:StD K Z [] i σ H R ρ l as dss)(hq:σ[q]? =some (some (.int k)))(hk:k=(n:Int))(hd:dss[n]? =some ds)(hs:ds.length<sizeLine)
 (c:∀a vs,as[n]? =some a->H a=some (.lst vs)->StD K Z [] i σ (upd H a (.lst (vs++[.int 0]))) R ρ l as (dss.set n (ds++[.int 0]))->E.nx σ (upd H a (.lst (vs++[.int 0])))):
 (q4d (tBM K "list" q39 (tOp (rIx K) (tVar i) (tVar q)) (q2g (tC (.int 0)) tNil))) E σ H:=by
 have ln:=S.dp.inn.len;have hlt:=(List.getElem?_eq_some_iff.mp hd).1;have ea:as[n]? =some as[n]:=jt (by omega);obtain⟨vs,ds2,g1,g2,g3,g4⟩:=S.dp.inn.at ea;rw[hd]at g1;cases g1;refine⟨.ref l,S.at',.int k,hq,.inl ⟨l,_,k,.ref as[n],rfl,rfl,SqL.of S.dp.top,?_,.inl ⟨rfl,vs,SqL.of g2⟩,as[n],vs,.int 0,rfl,rfl,g2,by rw[g4.length];exact hs,c _ vs ea g2 (S.wrAt ea (g4.snoc (.int 0)))⟩⟩;unfold atI;have e1:ixN (as.map V.ref).length k=some n:=by rw[jb,hk];unfold ixN;rw[if_pos (by omega),if_pos (by omega)];rfl
 rw[e1];show(as.map V.ref)[n]? =_;rw[jk,ea];rfl
theorem StD.keepSlot{v:V}(S:StD K Z [] i σ H R ρ l as dss)(iq:q≠i)(nq:ρ[q]? =some none):StD K Z [] i (σ.set q (some v)) H R ρ l as dss:=S.blind (λh=>nomatch h) iq nq
theorem qfs{tt:TT}{ft:RhB}{tu:TS}{E:Ends}(ij:i≠j)(iq:q≠i)(jq:q≠j)(nq:ρ[q]? =some none)(ht:MT K [] tt ft)(hf:∀n,(ft ((ρ.set i (some (.lst ((q3p dss n).map D.lst)))).set j (some (.lst ((q3p dss n).map D.lst))))).map (·.1)=some false)(hs:∀ds∈dss,ds.length<sizeLine)(hb:dss.length<2^62)
 (S:StT K Z i j σ H R ρ l m as bs dss dss) (k:∀σ' H',StR K Z [] σ' H' R ρ->E.nx σ' H'):
 (tFor (qbx (q2g (tCB (λxs H Q=>∃p ys,xs=[.ref p]/\(SqL K H p ys∨SqT K H p ys)/\Q (.int ys.length) H) (q2g (tVar i) tNil)) tNil)) (q37 q) (tSeq (q4d (tBM K "list" q39 (tOp (rIx K) (tVar i) (tVar q)) (q2g (tC (.int 0)) tNil))) (tSeq (q4d (tBM K "list" q39 (tOp (rIx K) (tVar j) (tVar q)) (q2g (tC (.int 0)) tNil))) (tIfS tt tu q97)))) E σ H:=by
 have ln:=S.a.dp.inn.len;have z9:(((as.map V.ref).length:Nat):Int)=(dss.length:Nat):=by rw[jb,ln]
 refine⟨.ref l,S.a.at',l,_,rfl,.inl (SqL.of S.a.dp.top),_,rfl,by omega,by rw[z9];omega,λn c σ' H'=>c=dss.length-n/\n<=dss.length/\StT K Z i j σ' H' R ρ l m as bs (q3p dss n) (q3p dss n),⟨dss.length,by simp,Nat.zero_le _,by unfold q3p;simpa using S⟩,?_⟩;rintro n c σ' H' ⟨rfl,hn,T⟩;rw[z9,jz];by_cases hlt:n<dss.length
 ·refine .inr ⟨hlt,λσ3 H3=>StT K Z i j σ3 H3 R ρ l m as bs (q3p dss (n+1)) (q3p dss (n+1)),λσ3 H3 T3=>⟨dss.length-(n+1),by omega,rfl,hlt,T3⟩,λx H3 y=>?_⟩;obtain⟨rfl,rfl⟩:=y;have hd:dss[n]? =some dss[n]:=jt hlt;obtain⟨r1,r2⟩:=qg3 hd;have hsn:=hs _ (k6 hlt);have hq':q<σ'.length:=by rw[T.a.st.len];exact(List.getElem?_eq_some_iff.mp nq).1
  have eq1:(σ'.set q (some (.int (0+(n:Int)))))[q]? =some (some (.int (0+(n:Int)))):=jv hq';have Ta:=T.a.keepSlot (v:=.int (0+(n:Int))) iq nq;have Tb:=T.b.keepSlot (v:=.int (0+(n:Int))) jq nq;refine qaa Ta eq1 (Int.zero_add _) r1 hsn λa vs ea ha T1=>?_;have am:a∈l::as:=jg _ (xq ea);have T2:=Tb.off (o:=.lst (vs++[.int 0])) (T.dj a am) (T.a.rn a am) (T.a.z0 a am) λj hj=>(nomatch hj);refine qaa T2 eq1 (Int.zero_add _) r1 hsn λb us eb hb T3=>?_;have bm:b∈m::bs:=jg _ (xq eb);have T4:=T1.off (o:=.lst (us++[.int 0])) (λz=>T.dj b z bm) (T.b.rn b bm) (T.b.z0 b bm) λj hj=>(nomatch hj);rw[r2]at T3 T4;have TT:StT K Z i j _ _ R ρ l m as bs (q3p dss (n+1)) (q3p dss (n+1)):=⟨T4,T3,T.dj⟩;obtain⟨ρ1,e1⟩:∃ρ1,ft ((ρ.set i (some (.lst ((q3p dss (n+1)).map D.lst)))).set j (some (.lst ((q3p dss (n+1)).map D.lst))))=some (false,ρ1):=by
   have:=hf (n+1);cases z:ft ((ρ.set i (some (.lst ((q3p dss (n+1)).map D.lst)))).set j (some (.lst ((q3p dss (n+1)).map D.lst))))with
   |none=>rw[z]at this;cases this
   | some p=>
    rw[z]at this;exact⟨p.2,by rw[<-jh this]⟩
  refine ht _ _ _ _ _ false ρ1 _ TT.lent e1 λH5 R5 S5 st5=>iteF (TT.grown λa o z=>st5.h a o z λi hi=>(nomatch hi))
 ·have en:n=dss.length:=by omega
  exact .inl ⟨by show _<=n;omega,k σ' H' T.a.st⟩
theorem qcc{E:Ends}(ij:i≠j)(nj:ρ[j]? =some none)(S:StD K Z [] i σ H R ρ l as dss)(hs:∀ds∈dss,scs ds=true)(hn:dss.length<sizeLine)
 (k:∀σ' H' m bs,StT K Z i j σ' H' R ρ l m as bs dss dss->E.nx σ' H'):
 (q9d j 1 [] (iSeq K (tVar i)) (q37 0) tYes (tCB (λxs H Q=>∃p ys,xs=[.ref p]/\(SqL K H p ys∨SqT K H p ys)/\∀l,H l=none->Q (.ref l) (upd H l (.lst ys))) (q2g (tVar 0) tNil))) E σ H:=by
 have ln:=S.dp.inn.len;refine .inl ⟨.ref l,S.at',l,rfl,⟨_,SqL.of S.dp.top⟩,λn c ys H2=>c=dss.length-n/\n<=dss.length/\∃bs:List Addr,ys=bs.map V.ref/\bs.length=n/\bs.Nodup/\(∀b∈bs,H b=none)/\Same H H2/\StD K Z [] i σ H2 R ρ l as dss/\Inn K H2 R bs (dss.take n),⟨dss.length,by simp,Nat.zero_le _,[],rfl,rfl,List.nodup_nil,λ_ h=>(nomatch h),Same.refl _,S,by rw[List.take_zero];exact .nil⟩,?_⟩;rintro n c ys H2 ⟨rfl,hn2,bs,rfl,lb,nd,hb,sm,S2,inn⟩;by_cases hlt:n<dss.length
 ·have ea:as[n]? =some as[n]:=jt (by omega);have em:(as.map V.ref)[n]? =some (.ref as[n]):=by rw[jk,ea];rfl
  refine .inr ⟨⟨_,_,SqL.of S2.dp.top,em⟩,by rw[jb,lb];omega,λys' H'=>∃bs:List Addr,ys'=bs.map V.ref/\bs.length=n+1/\bs.Nodup/\(∀b∈bs,H b=none)/\Same H H'/\StD K Z [] i σ H' R ρ l as dss/\Inn K H' R bs (dss.take (n+1)),?_,λx H3 y=>?_⟩
  ·rintro ys' H' ⟨bs',h⟩;exact⟨dss.length-(n+1),by omega,rfl,hlt,bs',h⟩
  ·obtain⟨rfl,y⟩:=y;have ex:=y _ (SqL.of S2.dp.top);rw[em]at ex;cases ex;obtain⟨vs,ds,g1,g2,g3,g4⟩:=S2.dp.inn.at ea;rw[jt hlt]at g1;cases g1;refine⟨.ref as[n],rfl,as[n],vs,rfl,.inl (SqL.of g2),λp hp=>?_⟩;have h0:H p=none:=by
    cases z:H p with
    |none=>rfl
    |some o=>rw[sm p o z]at hp;cases hp
   have nb:p∉bs:=λz=>by obtain⟨us,e⟩:=inn.has p z;rw[hp]at e;cases e
   have x:=Ext.hid (o:=.lst vs) S2.st.sub hp;refine⟨bs++[p],by rw[xm];rfl,by rw[jy,lb];rfl,List.nodup_append.mpr ⟨nd,by simp,λx hx y hy q=>nb (by rw[List.mem_singleton.mp hy]at q;exact q▸hx)⟩,λb hb'=>?_,sm.trans x.h,S2.grown x.h,?_⟩
   ·rcases List.mem_append.mp hb' with z|z
    ·exact hb b z
    ·rw[List.mem_singleton.mp z];exact h0
   ·rw[List.take_succ_eq_append_getElem hlt];exact(inn.wr nb).snoc q0m (S2.st.out hp) g4
 ·have en:n=dss.length:=by omega
  subst en;refine .inl ⟨⟨_,SqL.of S2.dp.top,by rw[jb];omega⟩,by rw[jb,lb];omega,λp hp=>?_⟩;rw[List.take_length]at inn;have h0:H p=none:=by
   cases z:H p with
   |none=>rfl
   |some o=>rw[sm p o z]at hp;cases hp
  have nb:p∉bs:=λz=>by obtain⟨us,e⟩:=inn.has p z;rw[hp]at e;cases e
  have x:=Ext.hid (o:=.lst (bs.map V.ref)) S2.st.sub hp;have SA:=(S2.grown x.h).keepSlot (v:=.ref p) (q:=j) (λz=>ij z.symm) nj;have hj:j<σ.length:=by rw[S.st.len];exact(List.getElem?_eq_some_iff.mp nj).1
  refine k _ _ p bs ⟨SA,⟨SA.st,(λh=>nomatch h),nj,jv hj,⟨q0m,S2.st.out hp,inn.wr nb,List.nodup_cons.mpr ⟨nb,nd⟩⟩,λa ha=>?_,λa ha j hj=>(nomatch hj)⟩,λa ha hz=>?_⟩
  ·rcases List.mem_cons.mp ha with z|z
   ·rw[z];exact S2.st.new0 hp
   ·exact S.st.new0 (hb a z)
  ·have hH:H a≠none:=by
    rcases List.mem_cons.mp ha with z|z
    ·rw[z,S.dp.top];exact λz=>nomatch z
    ·obtain⟨us,e⟩:=S.dp.inn.has a z;rw[e];exact λz=>nomatch z
   rcases List.mem_cons.mp hz with z|z
   ·exact hH (by rw[z];exact h0)
   ·exact hH (hb a z)
end
def go12(i j q:Nat)(fD:List D->Option (List (List D)))(ft:RhB):Option (List D×Rho)->Option Out
 | some (ds,ρ)=>if i<ρ.length/\isFree (ρ.set i none) j=true/\isFree (ρ.set i none) q=true then(match fD ds with
  | some dss=>if(dss.all λds=>scs ds&&decide (ds.length<sizeLine))=true/\dss.length<1000000 then(match ft ((ρ.set i none).set i (some (.lst (dss.map D.lst))))with
   |some (false,_)=>some (.rt (.bl true) (ρ.set i none))
   |_=>none)else none
  |none=>none)else none
 |none=>none
def q5x(i j q:Nat)(ft1 ft2:RhB)(fs1 fs2 fs3:RhL)(fD:List D->Option (List (List D)))(ft3:RhB):RhO:=λρ=>match ft1 ρ with
 |some (true,ρ1)=>go12 i j q fD ft3 (fs1 ρ1)
 | some (false,ρ1)=>(match ft2 ρ1 with
  |some (true,ρ2)=>go12 i j q fD ft3 (fs2 ρ2)
  |some (false,ρ2)=>go12 i j q fD ft3 (fs3 ρ2)
  |none=>none)
 |none=>none
section
variable{K:FrG}{i j q n:Nat}
theorem qku{fD:List D->Option (List (List D))}{ft3 ft4:RhB}{tr:TA}{fs:RhL}{tt3 tt4:TT}{tf:TS}{Z:Anc}{E:Ends}{EX:XK}{σ:St}{H R:Hp}{ρ:Rho}{o:Out}(hf:q1f n (λds=>q4y (fD ds)))(ha:MA K [] tr fs)
 (ij:i≠j) (iq:q≠i) (jq:q≠j) (h3:MT K [] tt3 ft3) (h4:MT K [] tt4 ft4) (hf4:∀(ρ:Rho) (dss:List (List D)),(dss.all scs)=true->i<ρ.length->j<ρ.length->(ft4 ((ρ.set i (some (.lst (dss.map D.lst)))).set j (some (.lst (dss.map D.lst))))).map (·.1)=some false) (hP:Z.P=[]) (S:StR K Z [] σ H R ρ) (e:go12 i j q fD ft3 (fs ρ)=some o) (k:E.ok ⟨K,false,[],[]⟩ Z [] R o):
 (tSeq (tAsg (q53 (spD K n fD) [] EX tr) (q37 i)) (tSeq (tIfS tt3 tf q97) (tSeq (q9d j 1 [] (iSeq K (tVar i)) (q37 0) tYes (tCB (λxs H Q=>∃p ys,xs=[.ref p]/\(SqL K H p ys∨SqT K H p ys)/\∀l,H l=none->Q (.ref l) (upd H l (.lst ys))) (q2g (tVar 0) tNil)))
   (tSeq (tFor (qbx (q2g (tCB (λxs H Q=>∃p ys,xs=[.ref p]/\(SqL K H p ys∨SqT K H p ys)/\Q (.int ys.length) H) (q2g (tVar i) tNil)) tNil)) (q37 q) (tSeq (q4d (tBM K "list" q39 (tOp (rIx K) (tVar i) (tVar q)) (q2g (tC (.int 0)) tNil))) (tSeq (q4d (tBM K "list" q39 (tOp (rIx K) (tVar j) (tVar q)) (q2g (tC (.int 0)) tNil))) (tIfS tt4 tf q97))))
   (tRet (tC (.bl true))))))) E σ H:=by
 cases e0:fs ρ with
 |none=>rw[e0]at e;cases e
 | some p=>
  obtain⟨ds,ρ1⟩:=p;rw[e0]at e;unfold go12 at e;dsimp only at e;by_cases z:i<ρ1.length/\isFree (ρ1.set i none) j=true/\isFree (ρ1.set i none) q=true
  ·rw[if_pos z]at e;obtain⟨z1,z2,z3⟩:=z;cases e2:fD ds with
   |none=>rw[e2]at e;cases e
   | some dss=>
    rw[e2]at e;dsimp only at e;by_cases z4:(dss.all λds=>scs ds&&decide (ds.length<sizeLine))=true/\dss.length<1000000
    ·rw[if_pos z4]at e;obtain⟨z4,z5⟩:=z4;cases e3:ft3 ((ρ1.set i none).set i (some (.lst (dss.map D.lst))))with
     |none=>rw[e3]at e;cases e
     | some p=>
           obtain⟨b,ρ3⟩:=p;rw[e3]at e;cases b with
           |true=>cases e
           | false=>
            cases e;refine ha Z σ H R ρ ds ρ1 _ S e0 λvs H1 R1 S1 st1 r1=>?_;show spD K n fD (vs++[]) H1 _ EX;rw[List.append_nil];refine⟨by rw[r1.length];exact hf ds (.lst (dss.map D.lst)) (by show q4y (fD ds)=_;rw[e2];rfl),R1,ds,dss,S1.sub,r1,e2,λl as H2 R2 x zz dp=>?_⟩;have T:StD K Z [] i (σ.set i (some (.ref l))) H2 R2 (ρ1.set i none) l as dss:=by refine⟨(S1.ext x).blind (λh=>nomatch h),(λh=>nomatch h),jv z1,jv (by rw[S1.len];exact z1),dp,λa ha=>S1.new0 (zz a ha),λa ha j hj=>(nomatch hj)⟩
            have nj:=q2x z2;have nq:=q2x z3;have hs1:∀ds∈dss,scs ds=true/\ds.length<sizeLine:=λds hd=>by have:=List.all_eq_true.mp z4 ds hd;rw[Bool.and_eq_true]at this;exact⟨this.1,of_decide_eq_true this.2⟩
            refine T.test h3 e3 λH3 T3=>iteF (qcc ij nj T3 (λds hd=>(hs1 ds hd).1) (jm z5 (by decide)) λσ4 H4 m bs T4=>?_);have hl:(ρ1.set i none).length=ρ1.length:=xg ..;refine qfs (K:=K) ij iq jq nq h4 (λn=>hf4 _ _ (qd9 λds hd=>(hs1 ds hd).1) (by rw[hl];exact z1) (List.getElem?_eq_some_iff.mp nj).1) (λds hd=>(hs1 ds hd).2) (jm z5 (by decide)) T4 λσ5 H5 S5=>k (.bl true) σ5 H5 R2 S5 (.bl true)
    ·rw[if_neg z4]at e;cases e
  ·rw[if_neg z]at e;cases e
theorem qds{c:MC}{Z:Anc}{O':List Nat}{R R1:Hp}{E:Ends}{o:Out}(s:Same R R1)(k:E.ok c Z O' R o):E.ok c Z O' R1 o:=by
 cases o with
 |nx ρ'=>exact λσ2 H2 R2 S2 s2=>k σ2 H2 R2 S2 (s.trans s2)
 |bk ρ'=>exact λσ2 H2 R2 S2 s2=>k σ2 H2 R2 S2 (s.trans s2)
 |ct ρ'=>exact λσ2 H2 R2 S2 s2=>k σ2 H2 R2 S2 (s.trans s2)
 |rt d ρ'=>exact k
theorem qdz{fD:List D->Option (List (List D))}{ft1 ft2 ft3 ft4:RhB}{tr1 tr2 tr3:TA}{fs1 fs2 fs3:RhL}{tt1 tt2 tt3 tt4:TT}{tf:TS}{EX:XK}{ta1 ta2 ta3:TE}(hf:q1f n (λds=>q4y (fD ds)))(h1:MT K [] tt1 ft1)(h2:MT K [] tt2 ft2)(a1:MA K [] tr1 fs1)(a2:MA K [] tr2 fs2)(a3:MA K [] tr3 fs3)
 (ij:i≠j) (iq:q≠i) (jq:q≠j) (h3:MT K [] tt3 ft3) (h4:MT K [] tt4 ft4) (hf4:∀(ρ:Rho) (dss:List (List D)),(dss.all scs)=true->i<ρ.length->j<ρ.length->(ft4 ((ρ.set i (some (.lst (dss.map D.lst)))).set j (some (.lst (dss.map D.lst))))).map (·.1)=some false) (e1:ta1=q53 (spD K n fD) [] EX tr1) (e2:ta2=q53 (spD K n fD) [] EX tr2) (e3:ta3=q53 (spD K n fD) [] EX tr3):
 MS ⟨K,false,[],[]⟩ [] [] (tSeq (tIfS tt1 (tAsg ta1 (q37 i)) (tIfS tt2 (tAsg ta2 (q37 i)) (tAsg ta3 (q37 i)))) (tSeq (tIfS tt3 tf q97) (tSeq (q9d j 1 [] (iSeq K (tVar i)) (q37 0) tYes (tCB (λxs H Q=>∃p ys,xs=[.ref p]/\(SqL K H p ys∨SqT K H p ys)/\∀l,H l=none->Q (.ref l) (upd H l (.lst ys))) (q2g (tVar 0) tNil)))
  (tSeq (tFor (qbx (q2g (tCB (λxs H Q=>∃p ys,xs=[.ref p]/\(SqL K H p ys∨SqT K H p ys)/\Q (.int ys.length) H) (q2g (tVar i) tNil)) tNil)) (q37 q) (tSeq (q4d (tBM K "list" q39 (tOp (rIx K) (tVar i) (tVar q)) (q2g (tC (.int 0)) tNil))) (tSeq (q4d (tBM K "list" q39 (tOp (rIx K) (tVar j) (tVar q)) (q2g (tC (.int 0)) tNil))) (tIfS tt4 tf q97))))
  (tRet (tC (.bl true))))))) (q5x i j q ft1 ft2 fs1 fs2 fs3 fD ft3):=λZ E σ H R ρ o hP S e k=>by
 subst e1 e2 e3;unfold q5x at e;cases e1:ft1 ρ with
 |none=>rw[e1]at e;cases e
 | some p=>
  obtain⟨b,ρ1⟩:=p;rw[e1]at e;refine h1 Z σ H R ρ b ρ1 _ S e1 λH1 R1 S1 st1=>?_;have k1:E.ok ⟨K,false,[],[]⟩ Z [] R1 o:=qds st1.r k;cases b with
  |true=>exact iteT (qku hf a1 ij iq jq h3 h4 hf4 hP S1 e k1)
  | false=>
   dsimp only at e;cases e2:ft2 ρ1 with
   |none=>rw[e2]at e;cases e
   | some p=>
    obtain⟨b,ρ2⟩:=p;rw[e2]at e;refine iteF (h2 Z σ H1 R1 ρ1 b ρ2 _ S1 e2 λH2 R2 S2 st2=>?_);have k2:E.ok ⟨K,false,[],[]⟩ Z [] R2 o:=qds st2.r k1;cases b with
    |true=>exact iteT (qku hf a2 ij iq jq h3 h4 hf4 hP S2 e k2)
    |false=>exact iteF (qku hf a3 ij iq jq h3 h4 hf4 hP S2 e k2)
end
theorem DOk.non(n:Nat):DOk n .non:=⟨.none,by simp only[D.toP],by simp only[PyData.canLay0],by simp only[PyData.depth];exact Nat.zero_le _⟩
theorem DOk.row{ds:List D}(h:scs ds=true):DOk 1 (.lst ds):=DOks.lst (.all λd hd=>by
 unfold scs at h;have:=List.all_eq_true.mp h d hd;cases d with
 |int i=>exact .int _ i
 |non=>exact .non _
 |_=>cases this)
theorem qom{i j:Nat}{ρ:Rho}{dss:List (List D)}(ij:i≠j)(h:(dss.all scs)=true)(hi:i<ρ.length)(hj:j<ρ.length):((q0d (mOp2 dNe (mVar i) (mVar j))) ((ρ.set i (some (.lst (dss.map D.lst)))).set j (some (.lst (dss.map D.lst))))).map (·.1)=some false:=by
 have e:eqD (.lst (dss.map D.lst)) (.lst (dss.map D.lst))=some true:=qaw (DOks.lst (.all λd hd=>by obtain⟨ds,hm,rfl⟩:=List.mem_map.mp hd;exact .row (List.all_eq_true.mp h ds hm))) (by decide)
 generalize D.lst (dss.map D.lst)=A at e;have g1:((ρ.set i (some A)).set j (some A))[i]? =some (some A):=by rw[ji ij.symm,jv hi]
 have g2:((ρ.set i (some A)).set j (some A))[j]? =some (some A):=jv (by rw[xg];exact hj);generalize (ρ.set i (some A)).set j (some A)=τ at g1 g2 ⊢;simp[qet,qj4,qj2,g1,g2,dNe,e,blO]
theorem qlm{K:FrG}{fd:FuncData}{p0 p1 p2 p3:Str}{v:Value}{T:Addr}{oc:Value}{od:Option Addr}{osl:Array (Option Value)}{items:Array Value}{n:Nat}(hd:fd.defaults=.ref T)(l:K.lookup T=some ⟨oc,od,.seq items n,osl⟩)
 (h:∀a b c:Value,∃k,bindArgs fd ⟨[a,b,c],[]⟩=seqItems? fd.defaults >>= k/\k (some items)=pure ([p0,p1,p2,p3].zip [a,b,c,v])):Binds K fd [p0,p1,p2,p3] [v]:=λs us X hl=>by
 match us,hl with
 | [a,b,c],_=>
  obtain⟨k,h1,h2⟩:=h a b c;exact BindsTo.of_defaults hd (X _ _ l) rfl h1 h2
 |[],hl=>cases hl
 |[_],hl=>cases hl
 |[_,_],hl=>cases hl
 |_::_::_::_::_,hl=>simp at hl
end L2
namespace K12
open PySem L2
local macro_rules|`(tactic|walk_at "ev")=>`(tactic|simp[runP,q15,qpt,q1v,qj2,qj4,qpv,ql7,ql6,qet,qpw,qq0,qs3,qs5,qpx,qlc,qpp,qpy,qs4,qle,qhb,qld,qpr,qeu,qpo,ql5,qs2,q9v,qkx,qkz,ql4,qpq,qky,qh9,qh8,ql0,qha,ql1,ql3,ql2,qla,q27,blO,lsO,qee,rng1,zip2,inO,q2y,q11,q2p,dI2,dI0,dB0,dAdd,q3l,dIx,dLen,dInt,dSum,q4a,dSeq,qez,q8v,dNeg,dIsN,q43,dIsi,tyN,q3i,q2q,qk4,qah,qog,qk5,qdt,qof,at0,at1,at2,at3,ixN,dEq,dNe,qew,eqD_none,q5f,q5e,qkm,sTry,xIf,q7f,qb5,xNo,xSeq,q83,qps,revO,q6m,optI,qlb,qq2,qj3,qhf,runX,ql9,qpz,ql8,qpu,qeb, *])
local macro_rules|`(tactic|walk_at "sc")=>`(tactic|exact⟨rfl,rfl,rfl,by decide+kernel,rfl,by decide+kernel,by decide+kernel⟩)
local macro_rules|`(tactic|walk_at "lr")=>`(tactic|first|exact Or.inl rfl|exact Or.inr rfl)
def top(i:Nat):Stmt:=PySem.Challenge.pw_trellisway_k12_ahead_walked.main.body.getD i (.Pass ⟨0,0,0,0⟩)
abbrev s_y0:Stmt:=top 5
theorem qqs:q0q ["reach"] ["reach"] (q04 s_y0):=by walk_at "sc"
abbrev s_y1:Stmt:=top 6
theorem qqr:q0q ["scheme"] ["scheme"] (q04 s_y1):=by walk_at "sc"
abbrev s_y2:Stmt:=top 7
theorem sc_y2:q0q ["number","left","odd"] ["number"] (q04 s_y2):=by walk_at "sc"
abbrev s_y3:Stmt:=top 8
abbrev w26:List Str:=["scheme","room","bit","window","signs"]
theorem sc_y3:q0q w26 ["scheme","room","bit"] (q04 s_y3):=by walk_at "sc"
abbrev s_y4:Stmt:=top 9
abbrev w2p:List Str:=["scheme","number","signs"]
abbrev w27:List Str:=["scheme","number","signs","rows","row"]
theorem sc_y4:q0q w27 w2p (q04 s_y4):=by walk_at "sc"
abbrev s_y5:Stmt:=top 11
theorem qqq:q0q ["scheme"] ["scheme"] (q04 s_y5):=by walk_at "sc"
abbrev s_y6:Stmt:=top 12
theorem qqp:q0q ["scheme","size"] ["scheme","size"] (q04 s_y6):=by walk_at "sc"
abbrev s_y7:Stmt:=top 13
theorem qqo:q0q ["scheme"] ["scheme"] (q04 s_y7):=by walk_at "sc"
abbrev s_y8:Stmt:=top 14
theorem qqn:q0q ["scheme","size"] ["scheme","size"] (q04 s_y8):=by walk_at "sc"
abbrev s_y9:Stmt:=top 15
abbrev w30:List Str:=["scheme","size","signs","places","number"]
theorem sc_y9:q0q w30 ["scheme","size"] (q04 s_y9):=by walk_at "sc"
abbrev qd5:Stmt:=inClass (top 18) 0
theorem qmy:q0q ["self","bit"] ["self","bit"] (q04 qd5):=by walk_at "sc"
abbrev qd4:Stmt:=inClass (top 18) 2
theorem qmx:q0q ["self","bit"] ["self","bit"] (q04 qd4):=by walk_at "sc"
abbrev qd3:Stmt:=inClass (top 19) 1
theorem qmw:q0q ["self","bit"] ["self","bit"] (q04 qd3):=by walk_at "sc"
abbrev qd2:Stmt:=inClass (top 20) 0
theorem qmv:q0q ["self","zero","one"] ["self","zero","one"] (q04 qd2):=by walk_at "sc"
abbrev qd1:Stmt:=inClass (top 20) 2
theorem qmu:q0q ["self","bit"] ["self","bit"] (q04 qd1):=by walk_at "sc"
abbrev qd0:Stmt:=top 21
theorem qmt:q0q ["told"] ["told"] (q04 qd0):=by walk_at "sc"
abbrev qcz:Stmt:=top 23
abbrev w0t:List Str:=["scheme","size","heard"]
theorem sc_y19:q0q ["scheme","size","heard","places"] w0t (q04 qcz):=by walk_at "sc"
abbrev qbk:Stmt:=top 24
theorem qms:q0q ["signs","bits"] ["signs","bits"] (q04 qbk):=by walk_at "sc"
abbrev qbj:Stmt:=top 25
abbrev w1m:List Str:=["scheme","size","heard","found","number","told"]
theorem sc_y21:q0q w1m w0t (q04 qbj):=by walk_at "sc"
abbrev qcy:Stmt:=top 26
abbrev w2x:List Str:=["scheme","number","signs","room","bit","led"]
abbrev w28:List Str:=["scheme","number","signs","room","bit"]
theorem sc_y22:q0q w2x w28 (q04 qcy):=by walk_at "sc"
abbrev qbi:Stmt:=top 27
abbrev w0y:List Str:=["scheme","number","signs","room","bits"]
theorem qmr:q0q w0y w0y (q04 qbi):=by walk_at "sc"
abbrev qbh:Stmt:=top 28
abbrev w1h:List Str:=["scheme","size","heard","found","number","signs","bits"]
theorem sc_y24:q0q w1h w0t (q04 qbh):=by walk_at "sc"
abbrev qbg:Stmt:=top 29
theorem sc_y25:q0q ["scheme","start","end"] ["scheme","start"] (q04 qbg):=by walk_at "sc"
abbrev qcx:Stmt:=top 30
theorem sc_y26:q0q ["taken","behind","rest"] ["taken","behind"] (q04 qcx):=by walk_at "sc"
abbrev q9c:Stmt:=top 31
abbrev w25:List Str:=["choices","behind","found"]
theorem sc_y27:q0q w25 ["choices","behind"] (q04 q9c):=by walk_at "sc"
abbrev q9b:Stmt:=top 32
abbrev w0w:List Str:=["steps","ends","table","choices_by_room","behind"]
theorem sc_y28:q0q w0w ["steps","ends"] (q04 q9b):=by walk_at "sc"
abbrev qcw:Stmt:=top 33
abbrev w0f:List Str:=["scheme","size","heard","start"]
theorem qi8:q0q w0f w0f (q04 qcw):=by walk_at "sc"
abbrev qcv:Stmt:=top 35
theorem qmq:q0q ["_law_script","_law_k"] ["_law_script","_law_k"] (q04 qcv):=by walk_at "sc"
abbrev qcu:Stmt:=top 36
abbrev w2v:List Str:=["_law_cell","_law_many"]
abbrev w2k:List Str:=["_law_cell","_law_many","_law_found","_law_number","_law_k"]
theorem sc_y31:q0q w2k w2v (q04 qcu):=by walk_at "sc"
abbrev q9a:Stmt:=top 37
abbrev w0i:List Str:=["_law_x","_law_top","_law_xs","_law_ending","_law_reach","_law_taps","_law_rows","_law_y"]
theorem sc_y32:q0q w0i ["_law_x","_law_top"] (q04 q9a):=by walk_at "sc"
abbrev qbf:Stmt:=top 38
abbrev w1a:List Str:=["_law_scheme_here","_law_room","_law_bit","_law_window","_law_signs"]
abbrev w20:List Str:=["_law_scheme_here","_law_room","_law_bit"]
theorem sc_y33:q0q w1a w20 (q04 qbf):=by walk_at "sc"
abbrev qbe:Stmt:=top 39
abbrev w1f:List Str:=["_law_scheme_here","_law_number","_law_signs","_law_row"]
abbrev w1s:List Str:=["_law_scheme_here","_law_number","_law_signs"]
theorem sc_y34:q0q w1f w1s (q04 qbe):=by walk_at "sc"
abbrev qct:Stmt:=top 40
abbrev w0s:List Str:=["_law_scheme_here","_law_size"]
theorem qmp:q0q w0s w0s (q04 qct):=by walk_at "sc"
abbrev qbd:Stmt:=top 41
abbrev w1e:List Str:=["_law_scheme_here","_law_size","_law_found","_law_number"]
theorem sc_y36:q0q w1e w0s (q04 qbd):=by walk_at "sc"
abbrev qcs:Stmt:=top 42
theorem qmo:q0q ["_law_told","_law_bit"] ["_law_told","_law_bit"] (q04 qcs):=by walk_at "sc"
abbrev qcr:Stmt:=top 43
abbrev w2o:List Str:=["_law_cell","_law_xs","_law_way_here","_law_great"]
theorem sc_y38:q0q w2o ["_law_cell"] (q04 qcr):=by walk_at "sc"
abbrev q99:Stmt:=top 44
abbrev w19:List Str:=["_law_cells","_law_many","_law_x","_law_found"]
abbrev w2i:List Str:=["_law_cells","_law_many","_law_x"]
theorem sc_y39:q0q w19 w2i (q04 q99):=by walk_at "sc"
abbrev qbc:Stmt:=top 45
abbrev w11:List Str:=["_law_scheme_here","_law_size","_law_heard_here","_law_found","_law_told","_law_number"]
abbrev w0e:List Str:=["_law_scheme_here","_law_size","_law_heard_here"]
theorem sc_y40:q0q w11 w0e (q04 qbc):=by walk_at "sc"
abbrev qbb:Stmt:=top 46
abbrev w14:List Str:=["_law_scheme_here","_law_number","_law_told","_law_room","_law_bit","_law_later"]
abbrev w0q:List Str:=["_law_scheme_here","_law_number","_law_told","_law_room","_law_bit","_law_later","_law_there","_law_signs"]
theorem sc_y41:q0q w0q w14 (q04 qbb):=by walk_at "sc"
abbrev qcq:Stmt:=top 47
abbrev w2h:List Str:=["_law_scheme_here","_law_begun","_law_row","_law_room","_law_due"]
abbrev w1x:List Str:=["_law_scheme_here","_law_begun","_law_row"]
theorem sc_y42:q0q w2h w1x (q04 qcq):=by walk_at "sc"
abbrev qcp:Stmt:=top 48
abbrev w2g:List Str:=["_law_scheme_here","_law_size","_law_table","_law_row","_law_one"]
abbrev w1v:List Str:=["_law_scheme_here","_law_size","_law_table"]
theorem sc_y43:q0q w2g w1v (q04 qcp):=by walk_at "sc"
abbrev q98:Stmt:=top 49
abbrev w15:List Str:=["_law_scheme_here","_law_size","_law_heard_here","_law_begun","_law_table"]
abbrev w0a:List Str:=["_law_scheme_here","_law_size","_law_heard_here","_law_begun","_law_table","_law_told","_law_number","_law_bits","_law_room","_law_ways"]
theorem sc_y44:q0q w0a w15 (q04 q98):=by walk_at "sc"
abbrev qco:Stmt:=top 50
abbrev w2f:List Str:=["_law_scheme_here","_law_size","_law_heard_here","_law_refused_here"]
theorem sc_y45:q0q w2f w0e (q04 qco):=by walk_at "sc"
abbrev qbl:Stmt:=top 51
abbrev w0h:List Str:=["_law_script","_law_hs","_law_scheme_here","_law_size","_law_heard_here","_law_begun","_law_handed","_law_found","_law_copies","_law_k"]
theorem sc_law:q0q w0h ["_law_script"] (q04 qbl):=by walk_at "sc"
structure Ad where
 c_Clear:Addr
 c_Gap:Addr
 c_Soft:Addr
 c_WayError:Addr
 c_NoWord:Addr
 c_NoSigns:Addr
 f_y0:Addr
 fd_y0:FuncData
 f_y1:Addr
 fd_y1:FuncData
 f_y2:Addr
 fd_y2:FuncData
 f_y3:Addr
 fd_y3:FuncData
 f_y4:Addr
 fd_y4:FuncData
 f_y5:Addr
 fd_y5:FuncData
 f_y6:Addr
 fd_y6:FuncData
 f_y7:Addr
 fd_y7:FuncData
 f_y8:Addr
 fd_y8:FuncData
 f_y9:Addr
 fd_y9:FuncData
 f_y10:Addr
 fd_y10:FuncData
 f_y12:Addr
 fd_y12:FuncData
 f_y14:Addr
 fd_y14:FuncData
 f_y15:Addr
 fd_y15:FuncData
 f_y17:Addr
 fd_y17:FuncData
 f_y18:Addr
 fd_y18:FuncData
 f_y19:Addr
 fd_y19:FuncData
 f_y20:Addr
 fd_y20:FuncData
 f_y21:Addr
 fd_y21:FuncData
 f_y22:Addr
 fd_y22:FuncData
 f_y23:Addr
 fd_y23:FuncData
 f_y24:Addr
 fd_y24:FuncData
 f_y25:Addr
 fd_y25:FuncData
 f_y26:Addr
 fd_y26:FuncData
 f_y27:Addr
 fd_y27:FuncData
 f_y28:Addr
 fd_y28:FuncData
 f_y29:Addr
 fd_y29:FuncData
 f_y30:Addr
 fd_y30:FuncData
 f_y31:Addr
 fd_y31:FuncData
 f_y32:Addr
 fd_y32:FuncData
 f_y33:Addr
 fd_y33:FuncData
 f_y34:Addr
 fd_y34:FuncData
 f_y35:Addr
 fd_y35:FuncData
 f_y36:Addr
 fd_y36:FuncData
 f_y37:Addr
 fd_y37:FuncData
 f_y38:Addr
 fd_y38:FuncData
 f_y39:Addr
 fd_y39:FuncData
 f_y40:Addr
 fd_y40:FuncData
 f_y41:Addr
 fd_y41:FuncData
 f_y42:Addr
 fd_y42:FuncData
 f_y43:Addr
 fd_y43:FuncData
 f_y44:Addr
 fd_y44:FuncData
 f_y45:Addr
 fd_y45:FuncData
 f_law:Addr
 fd_law:FuncData
structure Txt(K:FrG)(mg:Str->Option Value)(a:Ad):Prop where
 mg_Clear:mg "Clear"=some (.ref a.c_Clear)
 ns_Clear:PySem.W.nsIn K mainGlobals "Clear"=some (some (.ref a.c_Clear))
 cl_Clear:Cls K a.c_Clear
 no_Clear_bit:NoAttr K a.c_Clear "bit"
 mg_Gap:mg "Gap"=some (.ref a.c_Gap)
 ns_Gap:PySem.W.nsIn K mainGlobals "Gap"=some (some (.ref a.c_Gap))
 cl_Gap:Cls K a.c_Gap
 mg_Soft:mg "Soft"=some (.ref a.c_Soft)
 ns_Soft:PySem.W.nsIn K mainGlobals "Soft"=some (some (.ref a.c_Soft))
 cl_Soft:Cls K a.c_Soft
 no_Soft_zero:NoAttr K a.c_Soft "zero"
 no_Soft_one:NoAttr K a.c_Soft "one"
 mg_WayError:mg "WayError"=some (.ref a.c_WayError)
 ns_WayError:PySem.W.nsIn K mainGlobals "WayError"=some (some (.ref a.c_WayError))
 ek_WayError:ExcK K a.c_WayError
 mg_NoWord:mg "NoWord"=some (.ref a.c_NoWord)
 ns_NoWord:PySem.W.nsIn K mainGlobals "NoWord"=some (some (.ref a.c_NoWord))
 ek_NoWord:ExcK K a.c_NoWord
 ex_NoWord:PySem.W.excIn K a.c_NoWord [.type "ValueError",.type "Exception",.type "BaseException",.type "object"] "ValueError.__new__"=true
 mg_NoSigns:mg "NoSigns"=some (.ref a.c_NoSigns)
 ns_NoSigns:PySem.W.nsIn K mainGlobals "NoSigns"=some (some (.ref a.c_NoSigns))
 ek_NoSigns:ExcK K a.c_NoSigns
 ex_NoSigns:PySem.W.excIn K a.c_NoSigns [.type "ValueError",.type "Exception",.type "BaseException",.type "object"] "ValueError.__new__"=true
 em_NoWord_NoWord:PySem.W.exmOne K (.ref a.c_NoWord) (.ref a.c_NoWord)=some true
 F_y0:Fun K "rooms_at" "rooms_at" s_y0 a.f_y0 a.fd_y0
 B_y0:Binds K a.fd_y0 ["reach"] []
 mg_y0:mg "rooms_at"=some (.ref a.f_y0)
 F_y1:Fun K "rooms" "rooms" s_y1 a.f_y1 a.fd_y1
 B_y1:Binds K a.fd_y1 ["scheme"] []
 mg_y1:mg "rooms"=some (.ref a.f_y1)
 F_y2:Fun K "parity" "parity" s_y2 a.f_y2 a.fd_y2
 B_y2:Binds K a.fd_y2 ["number"] []
 mg_y2:mg "parity"=some (.ref a.f_y2)
 F_y3:Fun K "step" "step" s_y3 a.f_y3 a.fd_y3
 B_y3:Binds K a.fd_y3 ["scheme","room","bit"] []
 mg_y3:mg "step"=some (.ref a.f_y3)
 F_y4:Fun K "sent_at" "sent_at" s_y4 a.f_y4 a.fd_y4
 B_y4:Binds K a.fd_y4 w2p []
 mg_y4:mg "sent_at"=some (.ref a.f_y4)
 F_y5:Fun K "is_ring" "is_ring" s_y5 a.f_y5 a.fd_y5
 B_y5:Binds K a.fd_y5 ["scheme"] []
 mg_y5:mg "is_ring"=some (.ref a.f_y5)
 F_y6:Fun K "check_size" "check_size" s_y6 a.f_y6 a.fd_y6
 B_y6:Binds K a.fd_y6 ["scheme","size"] []
 mg_y6:mg "check_size"=some (.ref a.f_y6)
 F_y7:Fun K "bits_behind" "bits_behind" s_y7 a.f_y7 a.fd_y7
 B_y7:Binds K a.fd_y7 ["scheme"] []
 mg_y7:mg "bits_behind"=some (.ref a.f_y7)
 F_y8:Fun K "steps_of" "steps_of" s_y8 a.f_y8 a.fd_y8
 B_y8:Binds K a.fd_y8 ["scheme","size"] []
 mg_y8:mg "steps_of"=some (.ref a.f_y8)
 F_y9:Fun K "places_of" "places_of" s_y9 a.f_y9 a.fd_y9
 B_y9:Binds K a.fd_y9 ["scheme","size"] []
 mg_y9:mg "places_of"=some (.ref a.f_y9)
 F_y10:Fun K "__init__" "Clear.__init__" qd5 a.f_y10 a.fd_y10
 B_y10:Binds K a.fd_y10 ["self","bit"] []
 F_y12:Fun K "cost" "Clear.cost" qd4 a.f_y12 a.fd_y12
 B_y12:Binds K a.fd_y12 ["self","bit"] []
 m_y12:Meth K a.c_Clear "cost" a.f_y12
 F_y14:Fun K "cost" "Gap.cost" qd3 a.f_y14 a.fd_y14
 B_y14:Binds K a.fd_y14 ["self","bit"] []
 m_y14:Meth K a.c_Gap "cost" a.f_y14
 F_y15:Fun K "__init__" "Soft.__init__" qd2 a.f_y15 a.fd_y15
 B_y15:Binds K a.fd_y15 ["self","zero","one"] []
 F_y17:Fun K "cost" "Soft.cost" qd1 a.f_y17 a.fd_y17
 B_y17:Binds K a.fd_y17 ["self","bit"] []
 m_y17:Meth K a.c_Soft "cost" a.f_y17
 F_y18:Fun K "sign_of" "sign_of" qd0 a.f_y18 a.fd_y18
 B_y18:Binds K a.fd_y18 ["told"] []
 mg_y18:mg "sign_of"=some (.ref a.f_y18)
 F_y19:Fun K "check_heard" "check_heard" qcz a.f_y19 a.fd_y19
 B_y19:Binds K a.fd_y19 w0t []
 mg_y19:mg "check_heard"=some (.ref a.f_y19)
 F_y20:Fun K "signs_cost" "signs_cost" qbk a.f_y20 a.fd_y20
 B_y20:Binds K a.fd_y20 ["signs","bits"] []
 mg_y20:mg "signs_cost"=some (.ref a.f_y20)
 F_y21:Fun K "signs_by_step" "signs_by_step" qbj a.f_y21 a.fd_y21
 B_y21:Binds K a.fd_y21 w0t []
 mg_y21:mg "signs_by_step"=some (.ref a.f_y21)
 F_y22:Fun K "move" "move" qcy a.f_y22 a.fd_y22
 B_y22:Binds K a.fd_y22 w28 []
 mg_y22:mg "move"=some (.ref a.f_y22)
 F_y23:Fun K "moves_from" "moves_from" qbi a.f_y23 a.fd_y23
 B_y23:Binds K a.fd_y23 w0y []
 mg_y23:mg "moves_from"=some (.ref a.f_y23)
 F_y24:Fun K "moves" "moves" qbh a.f_y24 a.fd_y24
 B_y24:Binds K a.fd_y24 w0t []
 mg_y24:mg "moves"=some (.ref a.f_y24)
 F_y25:Fun K "end_costs" "end_costs" qbg a.f_y25 a.fd_y25
 B_y25:Binds K a.fd_y25 ["scheme","start"] []
 mg_y25:mg "end_costs"=some (.ref a.f_y25)
 F_y26:Fun K "cost_by" "cost_by" qcx a.f_y26 a.fd_y26
 B_y26:Binds K a.fd_y26 ["taken","behind"] []
 mg_y26:mg "cost_by"=some (.ref a.f_y26)
 F_y27:Fun K "least_by" "least_by" q9c a.f_y27 a.fd_y27
 B_y27:Binds K a.fd_y27 ["choices","behind"] []
 mg_y27:mg "least_by"=some (.ref a.f_y27)
 F_y28:Fun K "ahead_by" "ahead_by" q9b a.f_y28 a.fd_y28
 B_y28:Binds K a.fd_y28 ["steps","ends"] []
 mg_y28:mg "ahead_by"=some (.ref a.f_y28)
 F_y29:FunD K "ahead" "ahead" qcw a.f_y29 a.fd_y29
 B_y29:Binds K a.fd_y29 w0f []
 Bd_y29:∃t,Binds K a.fd_y29 w0f [Value.int 0 t]
 Bk_y29:qb3 K a.fd_y29 w0f ["start"] g31 g31
 mg_y29:mg "ahead"=some (.ref a.f_y29)
 F_y30:Fun K "_law_cell_at" "_law_cell_at" qcv a.f_y30 a.fd_y30
 B_y30:Binds K a.fd_y30 ["_law_script","_law_k"] []
 mg_y30:mg "_law_cell_at"=some (.ref a.f_y30)
 F_y31:Fun K "_law_mixed" "_law_mixed" qcu a.f_y31 a.fd_y31
 B_y31:Binds K a.fd_y31 w2v []
 mg_y31:mg "_law_mixed"=some (.ref a.f_y31)
 F_y32:Fun K "_law_scheme" "_law_scheme" q9a a.f_y32 a.fd_y32
 B_y32:Binds K a.fd_y32 ["_law_x","_law_top"] []
 mg_y32:mg "_law_scheme"=some (.ref a.f_y32)
 F_y33:Fun K "_law_step" "_law_step" qbf a.f_y33 a.fd_y33
 B_y33:Binds K a.fd_y33 w20 []
 mg_y33:mg "_law_step"=some (.ref a.f_y33)
 F_y34:Fun K "_law_sent_at" "_law_sent_at" qbe a.f_y34 a.fd_y34
 B_y34:Binds K a.fd_y34 w1s []
 mg_y34:mg "_law_sent_at"=some (.ref a.f_y34)
 F_y35:Fun K "_law_steps" "_law_steps" qct a.f_y35 a.fd_y35
 B_y35:Binds K a.fd_y35 w0s []
 mg_y35:mg "_law_steps"=some (.ref a.f_y35)
 F_y36:Fun K "_law_places" "_law_places" qbd a.f_y36 a.fd_y36
 B_y36:Binds K a.fd_y36 w0s []
 mg_y36:mg "_law_places"=some (.ref a.f_y36)
 F_y37:Fun K "_law_price" "_law_price" qcs a.f_y37 a.fd_y37
 B_y37:Binds K a.fd_y37 ["_law_told","_law_bit"] []
 mg_y37:mg "_law_price"=some (.ref a.f_y37)
 F_y38:Fun K "_law_sign" "_law_sign" qcr a.f_y38 a.fd_y38
 B_y38:Binds K a.fd_y38 ["_law_cell"] []
 mg_y38:mg "_law_sign"=some (.ref a.f_y38)
 F_y39:Fun K "_law_heard" "_law_heard" q99 a.f_y39 a.fd_y39
 B_y39:Binds K a.fd_y39 w2i []
 mg_y39:mg "_law_heard"=some (.ref a.f_y39)
 F_y40:Fun K "_law_at_steps" "_law_at_steps" qbc a.f_y40 a.fd_y40
 B_y40:Binds K a.fd_y40 w0e []
 mg_y40:mg "_law_at_steps"=some (.ref a.f_y40)
 F_y41:Fun K "_law_way" "_law_way" qbb a.f_y41 a.fd_y41
 B_y41:Binds K a.fd_y41 w14 []
 mg_y41:mg "_law_way"=some (.ref a.f_y41)
 F_y42:Fun K "_law_last" "_law_last" qcq a.f_y42 a.fd_y42
 B_y42:Binds K a.fd_y42 w1x []
 mg_y42:mg "_law_last"=some (.ref a.f_y42)
 F_y43:Fun K "_law_of_form" "_law_of_form" qcp a.f_y43 a.fd_y43
 B_y43:Binds K a.fd_y43 w1v []
 mg_y43:mg "_law_of_form"=some (.ref a.f_y43)
 F_y44:Fun K "_law_walked" "_law_walked" q98 a.f_y44 a.fd_y44
 B_y44:Binds K a.fd_y44 w15 []
 mg_y44:mg "_law_walked"=some (.ref a.f_y44)
 F_y45:Fun K "_law_refused" "_law_refused" qco a.f_y45 a.fd_y45
 B_y45:Binds K a.fd_y45 w0e []
 mg_y45:mg "_law_refused"=some (.ref a.f_y45)
 F_law:Fun K "law" "law" qbl a.f_law a.fd_law
 B_law:Binds K a.fd_law ["_law_script"] []
 mg_law:mg "law"=some (.ref a.f_law)
 mk_Clear:Mk K a.c_Clear a.f_y10
 mk_Gap:MkN K a.c_Gap
 mk_Soft:Mk K a.c_Soft a.f_y15
 z_bool:mg "bool"=none
 z_enumerate:mg "enumerate"=none
 z_int:mg "int"=none
 z_isinstance:mg "isinstance"=none
 z_len:mg "len"=none
 z_list:mg "list"=none
 z_min:mg "min"=none
 z_range:mg "range"=none
 z_reversed:mg "reversed"=none
 z_sum:mg "sum"=none
 z_tuple:mg "tuple"=none
 z_zip:mg "zip"=none
 kit_ty_NoneType_ty_bool:PySem.W.kitOne K (.type "NoneType") (.type "bool")=some false
 kit_ty_bool_ty_bool:PySem.W.kitOne K (.type "bool") (.type "bool")=some true
 kit_ty_int_ty_bool:PySem.W.kitOne K (.type "int") (.type "bool")=some false
 kit_ty_str_ty_bool:PySem.W.kitOne K (.type "str") (.type "bool")=some false
 kit_ty_list_ty_bool:PySem.W.kitOne K (.type "list") (.type "bool")=some false
 kit_ty_tuple_ty_bool:PySem.W.kitOne K (.type "tuple") (.type "bool")=some false
 kit_ty_dict_ty_bool:PySem.W.kitOne K (.type "dict") (.type "bool")=some false
 kit_ty_NoneType_ty_int:PySem.W.kitOne K (.type "NoneType") (.type "int")=some false
 kit_ty_bool_ty_int:PySem.W.kitOne K (.type "bool") (.type "int")=some true
 kit_ty_int_ty_int:PySem.W.kitOne K (.type "int") (.type "int")=some true
 kit_ty_str_ty_int:PySem.W.kitOne K (.type "str") (.type "int")=some false
 kit_ty_list_ty_int:PySem.W.kitOne K (.type "list") (.type "int")=some false
 kit_ty_tuple_ty_int:PySem.W.kitOne K (.type "tuple") (.type "int")=some false
 kit_ty_dict_ty_int:PySem.W.kitOne K (.type "dict") (.type "int")=some false
 kit_ty_NoneType_ty_list:PySem.W.kitOne K (.type "NoneType") (.type "list")=some false
 kit_ty_bool_ty_list:PySem.W.kitOne K (.type "bool") (.type "list")=some false
 kit_ty_int_ty_list:PySem.W.kitOne K (.type "int") (.type "list")=some false
 kit_ty_str_ty_list:PySem.W.kitOne K (.type "str") (.type "list")=some false
 kit_ty_list_ty_list:PySem.W.kitOne K (.type "list") (.type "list")=some true
 kit_ty_tuple_ty_list:PySem.W.kitOne K (.type "tuple") (.type "list")=some false
 kit_ty_dict_ty_list:PySem.W.kitOne K (.type "dict") (.type "list")=some false
theorem qgy{K:FrG}{mg:Str->Option Value}{a:Ad}(T:Txt K mg a):KitB K "bool" (q3i "bool"):=q9s T.kit_ty_NoneType_ty_bool T.kit_ty_bool_ty_bool T.kit_ty_int_ty_bool T.kit_ty_str_ty_bool T.kit_ty_list_ty_bool T.kit_ty_tuple_ty_bool T.kit_ty_dict_ty_bool
theorem qks{K:FrG}{mg:Str->Option Value}{a:Ad}(T:Txt K mg a):KitB K "int" (q3i "int"):=q9s T.kit_ty_NoneType_ty_int T.kit_ty_bool_ty_int T.kit_ty_int_ty_int T.kit_ty_str_ty_int T.kit_ty_list_ty_int T.kit_ty_tuple_ty_int T.kit_ty_dict_ty_int
theorem qap{K:FrG}{mg:Str->Option Value}{a:Ad}(T:Txt K mg a):KitB K "list" (q3i "list"):=q9s T.kit_ty_NoneType_ty_list T.kit_ty_bool_ty_list T.kit_ty_int_ty_list T.kit_ty_str_ty_list T.kit_ty_list_ty_list T.kit_ty_tuple_ty_list T.kit_ty_dict_ty_list
def tk_NoWord:List Str:=["NoWord"]
theorem qei{K:FrG}{mg:Str->Option Value}{a:Ad}(T:Txt K mg a):KitM K (.ref a.c_NoWord) (λx=>tk_NoWord.contains x):=by
 refine qko λx hx=>?_;unfold tk_NoWord at hx;simp only[List.mem_cons,List.not_mem_nil,or_false]at hx;rcases hx with rfl
 ·exact⟨_,T.ns_NoWord,T.em_NoWord_NoWord,T.ek_NoWord⟩
theorem qkb(ρ:Rho)(dss:List (List D))(h:(dss.all scs)=true)(h7:7<ρ.length)(h8:8<ρ.length):((q0d (mOp2 dNe (mVar 7) (mVar 8))) ((ρ.set 7 (some (.lst (dss.map D.lst)))).set 8 (some (.lst (dss.map D.lst))))).map (·.1)=some false:=qom (by decide) h h7 h8
section
variable{P:Program}{w:World}{K:FrG}{mg:Str->Option Value}{base:Heap}{a:Ad}
def b_y0:RhO:=
 (sRet (mOp2 dShl (mRet (.int 1)) (mVar 0)))
def f_y0:List D->Option D:=runP false 1 1 b_y0
theorem n_y0:q1f 1 f_y0:=q1a
theorem qr5(T:Txt K mg a):FnOk P w K mg base CX0 1 a.f_y0 a.fd_y0 ["reach"] (spP K false 1 f_y0):=by
 refine T.F_y0.ok qqs (λ_ _ _ _ h=>h.1) (λcdv A outer s H vs Q E hr h=>?_)
 ·refine⟨_,(q09 (q0s (q0x q63 q05 (pv 0)))),?_⟩;exact q0t (O':=[]) (Nms:=["reach"]) (f:=b_y0) (by unfold b_y0;exact(q13 rfl (q0c q65 me_int (q03 (i:=0))) rfl)) h
def b_y1:RhO:=
 (sRet (q0l f_y0 (q02 (mOp2 dIx (mVar 0) (mRet (.int 0))) mNil)))
def f_y1:List D->Option D:=runP false 1 1 b_y1
theorem n_y1:q1f 1 f_y1:=q1a
theorem qk3(T:Txt K mg a):FnOk P w K mg base CX0 2 a.f_y1 a.fd_y1 ["scheme"] (spP K false 1 f_y1):=by
 have G_y0:=@qr5 P w K mg base a T;refine T.F_y1.ok qqr (λ_ _ _ _ h=>h.1) (λcdv A outer s H vs Q E hr h=>?_)
 ·refine⟨_,(q09 (q0s (q0g G_y0 hr.m (by rfl) T.mg_y0 T.F_y0.kp T.B_y0 .nil q1e (q00 (q0w (q0a (K:=K) rfl) (pv 0) q05) q06)))),?_⟩;exact q0t (O':=[]) (Nms:=["scheme"]) (f:=b_y1) (by unfold b_y1;exact(q13 rfl (q0o n_y0 (q01 (q0c q10 (q03 (i:=0)) me_int) q08)) rfl)) h
abbrev w0n:=(sSeq (sSet 2 (mOp2 dXor (mVar 2) (mOp2 dAnd (mVar 1) (mRet (.int 1))))) (sSet 1 (mOp2 dDiv (mVar 1) (mRet (.int 2)))))
abbrev w24:=(q0d (mOp2 dGt (mVar 1) (mRet (.int 0))))
def b_y2:RhO:=
 (sSeq (sSet 1 (mVar 0))
 (sSeq (sSet 2 (mRet (.int 0)))
 (sSeq (q2r w24
   w0n 1000)
 (sRet (mVar 2)))))
def f_y2:List D->Option D:=runP false 1 3 b_y2
theorem n_y2:q1f 1 f_y2:=q1a
theorem qr4(T:Txt K mg a):FnOk P w K mg base CX0 1 a.f_y2 a.fd_y2 ["number"] (spP K false 1 f_y2):=by
 refine T.F_y2.ok sc_y2 (λ_ _ _ _ h=>h.1) (λcdv A outer s H vs Q E hr h=>?_)
 ·refine⟨_,(q07 (zsA 1 sc_y2.nd (pv 0)) (q07 (zsA 2 sc_y2.nd q05) (q07 (qg7 xj (q0y qr1 (pv 1) q05 (q16 _)) (q07 (zsA 2 sc_y2.nd (q0x qnh (pv 2) (q0x q8i (pv 1) q05))) (q09 (zsA 1 sc_y2.nd (q0x q9l (pv 1) q05))))) (q09 (q0s (pv 2)))))),?_⟩;exact q0t (O':=[]) (Nms:=["number","left","odd"]) (f:=b_y2) (by unfold b_y2;exact(q0h (O1:=[]) (q19 (q03 (i:=0))) (q0h (O1:=[]) (q19 me_int) (q0h (O1:=[]) (qgq (O':=[]) (q0v (q14 q7o (q03 (i:=1)) me_int.mb)) rfl (q0h (O1:=[]) (q19 (q0c qoh (q03 (i:=2)) (q0c q8k (q03 (i:=1)) me_int))) (q19 (q0c qdv (q03 (i:=1)) me_int)))) (q13 rfl (q03 (i:=2)) rfl))))) h
abbrev w1d:=(sSet 3 (mOp2 dAdd (mOp2 q3l (mRet (.int 2)) (mVar 1)) (mVar 2)))
abbrev w33:=(q02 (mOp2 dAnd (mVar 1) (mVar 0)) mNil)
abbrev w22:=(mSeq (mOp2 dIx (mVar 0) (mRet (.int 1))))
def b_y3:RhO:=
 (sSeq w1d
 (sSeq (sSet 4 (mOf (q1n 1 [3] none w22 (gSet 0) (mRet true) (q0l f_y2 w33))))
 (sRet (mTup (q02 (mOp2 dMod (mVar 3) (q0l f_y1 (q02 (mVar 0) mNil))) (q02 (mOp1 q4a (mVar 4)) mNil))))))
def f_y3:List D->Option D:=runP false 3 5 b_y3
theorem n_y3:q1f 3 f_y3:=q1a
theorem qo0(T:Txt K mg a):FnOk P w K mg base CX0 3 a.f_y3 a.fd_y3 ["scheme","room","bit"] (spP K false 3 f_y3):=by
 have G_y2:=@qr4 P w K mg base a T;have G_y1:=@qk3 P w K mg base a T;refine T.F_y3.ok sc_y3 (λ_ _ _ _ h=>h.1) (λcdv A outer s H vs Q E hr h=>?_)
 ·refine⟨_,(q07 (zsA 3 sc_y3.nd (q0x (q1x (K:=K) rfl) (q0x (q3e (K:=K) rfl) q05 (pv 1)) (pv 2))) (q07 (q4e (k:=4) (sc:=q04 s_y3) (N0:=w26) rfl rfl rfl (show q1j _ _ ["tap","window"] 1 [3] _=true by decide+kernel) sc_y3.nd rfl (Or.inl rfl) (q24 (K:=K) rfl (q0w (q0a (K:=K) rfl) (pv 0) q05)) (λ_ _ _ _ _=>(q0r (i:=0) (show List.Nodup (["tap","window"]:List Str)from(by decide+kernel)) rfl (Or.inl rfl))) (q1g (by decide)) (λ_ _ _ _ _=>q1w) (λ_ _ _ _ _=>(q0g G_y2 hr.m (by rfl) T.mg_y2 T.F_y2.kp T.B_y2 .nil q1e (q00 (q0x q8i (pv 1) (pv 0)) q06)))) (q09 (q0s (q44 (q00 (q0x q22 (pv 3) (q0g G_y1 hr.m (by rfl) T.mg_y1 T.F_y1.kp T.B_y1 .nil q1e (q00 (pv 0) q06))) (q00 (q25 (q3c (K:=K) rfl) (by rfl) T.z_tuple (by rfl) (q00 (pv 4) q06)) q06))))))),?_⟩;exact q0t (O':=[]) (Nms:=w26) (f:=b_y3) (by unfold b_y3;exact(q0h (O1:=[]) (q19 (q0c q2m (q0c q3f me_int (q03 (i:=1))) (q03 (i:=2)))) (q0h (O1:=[]) (q68 (q1p (bw:=none) (q34 (q0c q10 (q03 (i:=0)) me_int)) (q0u (i:=0)) q33 (q0o n_y2 (q01 (q0c q8k (q03 (i:=1)) (q03 (i:=0))) q08))) rfl (by decide)) (q13 rfl (q47 (q01 (q0c q23 (q03 (i:=3)) (q0o n_y1 (q01 (q03 (i:=0)) q08))) (q01 (q4w q4z (q03 (i:=4))) q08))) rfl)))) h
def b_y4:RhO:=
 (sSeq (sSet 3 (mOp2 dIx (mVar 0) (mRet (.int 2))))
 (sSeq (sSet 4 (mOp2 dIx (mVar 3) (mOp2 dMod (mVar 1) (mOp1 dLen (mVar 3)))))
 (sRet (mOp1 q4a (mOf (q1n 2 [] none (mZip (q02 (mVar 2) (q02 (mVar 4) mNil))) (q2p 2 (q11 (gSet 0) (q11 (gSet 1) q2y))) (q0d (mOp2 dEq (mVar 1) (mRet (.int 1)))) (mVar 0)))))))
def f_y4:List D->Option D:=runP false 3 5 b_y4
theorem n_y4:q1f 3 f_y4:=q1a
theorem qns(T:Txt K mg a):FnOk P w K mg base CX0 1 a.f_y4 a.fd_y4 w2p (spP K false 3 f_y4):=by
 refine T.F_y4.ok sc_y4 (λ_ _ _ _ h=>h.1) (λcdv A outer s H vs Q E hr h=>?_)
 ·refine⟨_,(q07 (zsA 3 sc_y4.nd (q0w (q0a (K:=K) rfl) (pv 0) q05)) (q07 (zsA 4 sc_y4.nd (q0w (q0a (K:=K) rfl) (pv 3) (q0x q22 (pv 1) (q1d (q1o (K:=K) rfl) (by rfl) T.z_len (by rfl) (q00 (pv 3) q06))))) (q09 (q0s (q25 (q3c (K:=K) rfl) (by rfl) T.z_tuple (by rfl) (q00 (q2c (sc:=q04 s_y4) (N0:=w27) rfl rfl rfl (show q1j _ _ ["sign","chosen"] 2 [] _=true by decide+kernel) (q54 (K:=K) rfl (by rfl) T.z_zip (q00 (pv 2) (q00 (pv 4) q06))) (λ_ _ _ _ _=>(q3v (K:=K) rfl rfl (q1s (q0r (i:=0) (show List.Nodup (["sign","chosen"]:List Str)from(by decide+kernel)) rfl (Or.inl rfl)) (q1s (q0r (i:=1) (show List.Nodup (["sign","chosen"]:List Str)from(by decide+kernel)) rfl (Or.inl rfl)) q3u)))) (q5m (by decide) (by decide)) (λ_ _ _ _ _=>(q5z (q0y (q26 (K:=K) rfl hr.units) (pv 1) q05 (q16 _)))) (λ_ _ _ _ _=>(pv 0))) q06)))))),?_⟩;exact q0t (O':=[]) (Nms:=w27) (f:=b_y4) (by unfold b_y4;exact(q0h (O1:=[]) (q19 (q0c q10 (q03 (i:=0)) me_int)) (q0h (O1:=[]) (q19 (q0c q10 (q03 (i:=3)) (q0c q23 (q03 (i:=1)) (q1b q35 q2a)))) (q13 rfl (q4w q4z (q1h (q1p (bw:=none) (q74 (q01 (q03 (i:=2)) (q01 (q03 (i:=4)) q08))) (q5c (q1t (q0u (i:=0)) (q1t (q0u (i:=1)) q3x))) (q0v (q14 os_eq (q03 (i:=1)) me_int.mb)) (q03 (i:=0))))) rfl)))) h
abbrev w2j:=(mOp2 dEq (mOp2 dIx (mVar 0) (mRet (.int 3))) (mRet (.str "ring")))
def b_y5:RhO:=
 (sRet w2j)
def f_y5:List D->Option D:=runP false 1 1 b_y5
theorem n_y5:q1f 1 f_y5:=q1a
theorem qnl(T:Txt K mg a):FnOk P w K mg base CX0 1 a.f_y5 a.fd_y5 ["scheme"] (spP K false 1 f_y5):=by
 refine T.F_y5.ok qqq (λ_ _ _ _ h=>h.1) (λcdv A outer s H vs Q E hr h=>?_)
 ·refine⟨_,(q09 (q0s (q60 (q26 (K:=K) rfl hr.units) (q0w (q0a (K:=K) rfl) (pv 0) q05) q29 (q16 _)))),?_⟩;exact q0t (O':=[]) (Nms:=["scheme"]) (f:=b_y5) (by unfold b_y5;exact(q13 rfl (q14 os_eq (q0c q10 (q03 (i:=0)) me_int) me_str.mb) rfl)) h
abbrev w1k:=(mAnd (q0d (q0l f_y5 (q02 (mVar 0) mNil))) (q0d (mOp2 dLt (mVar 1) (mOp2 dIx (mVar 0) (mRet (.int 0))))))
def b_y6:RhO:=
 (sIf w1k
   (λ_=>none)
   sNil)
def f_y6:List D->Option D:=runP false 2 2 b_y6
theorem n_y6:q1f 2 f_y6:=q1a
def x_y6:Xr:=
 (xIf w1k xNo
   (q83 "NoWord" (q02 (mRet (.str "in a ring a word has at least as many bits as the reach")) mNil))
   xNo)
def qer:List D->Option Str:=runX 2 2 x_y6
theorem qr9:q8a 2 qer:=q6x
theorem qr3(T:Txt K mg a):FnOk P w K mg base (CX1 P w) 2 a.f_y6 a.fd_y6 ["scheme","size"] (spPX K false 2 f_y6 qer):=by
 have G_y5:=@qnl P w K mg base a T;refine T.F_y6.okX qqp (λvs H Q E h=>q41 h) (λcdv A outer s H vs Q E hr h=>?_);refine⟨_,(q09 (q31 (PW.pt (pw_and (q4q (q0g G_y5 hr.m (by rfl) T.mg_y5 T.F_y5.kp T.B_y5 .nil q1e (q00 (pv 0) q06))) (pw_and1 (q0y q9k (pv 1) (q0w (q0a (K:=K) rfl) (pv 0) q05) (q16 _))))) (q09 (qac newX rfl (by rfl) T.mg_NoWord T.ex_NoWord PySem.F.excBase_ValueError (q00 q29 q06))) q1i)),?_⟩;exact q3m (O':=[]) (Nms:=["scheme","size"]) (f:=b_y6) (fx:=x_y6) (by
  unfold b_y6;exact(q3g (q8n (q46 (q0o n_y5 (q01 (q03 (i:=0)) q08))) (q0v (q14 q7o (q03 (i:=1)) (q0c q10 (q03 (i:=0)) me_int).mb))) qal (q2e rfl))) (by
  unfold x_y6;exact(qis (q8n (q46 (q0o n_y5 (q01 (q03 (i:=0)) q08))) (q0v (q14 q7o (q03 (i:=1)) (q0c q10 (q03 (i:=0)) me_int).mb))) qir (q72 T.ns_NoWord (q01 me_str q08)).g q67)) h
abbrev w2a:=(q0d (mOp2 dEq (mOp2 dIx (mVar 0) (mRet (.int 3))) (mRet (.str "ended"))))
def b_y7:RhO:=
 (sRet (mIf w2a (mOp2 dIx (mVar 0) (mRet (.int 0))) (mRet (.int 0))))
def f_y7:List D->Option D:=runP false 1 1 b_y7
theorem n_y7:q1f 1 f_y7:=q1a
theorem qr2(T:Txt K mg a):FnOk P w K mg base CX0 1 a.f_y7 a.fd_y7 ["scheme"] (spP K false 1 f_y7):=by
 refine T.F_y7.ok qqo (λ_ _ _ _ h=>h.1) (λcdv A outer s H vs Q E hr h=>?_)
 ·refine⟨_,(q09 (q0s (q3r (q0y (q26 (K:=K) rfl hr.units) (q0w (q0a (K:=K) rfl) (pv 0) q05) q29 (q16 _)) (q0w (q0a (K:=K) rfl) (pv 0) q05) q05))),?_⟩;exact q0t (O':=[]) (Nms:=["scheme"]) (f:=b_y7) (by unfold b_y7;exact(q13 rfl (q9r (q0v (q14 os_eq (q0c q10 (q03 (i:=0)) me_int) me_str.mb)) (q0c q10 (q03 (i:=0)) me_int) me_int) rfl)) h
abbrev w2q:=(q6q (q0l f_y6 (q02 (mVar 0) (q02 (mVar 1) mNil))))
def b_y8:RhO:=
 (sSeq w2q
 (sRet (mOp2 dAdd (mVar 1) (q0l f_y7 (q02 (mVar 0) mNil)))))
def f_y8:List D->Option D:=runP false 2 2 b_y8
theorem n_y8:q1f 2 f_y8:=q1a
def x_y8:Xr:=
 (xSeq w2q (q7f qer (q02 (mVar 0) (q02 (mVar 1) mNil)) xNo)
 xNo)
def qeq:List D->Option Str:=runX 2 2 x_y8
theorem qr8:q8a 2 qeq:=q6x
theorem qnk(T:Txt K mg a):FnOk P w K mg base (CX1 P w) 3 a.f_y8 a.fd_y8 ["scheme","size"] (spPX K false 2 f_y8 qeq):=by
 have G_y6:=@qr3 P w K mg base a T;have G_y7:=@qr2 P w K mg base a T;refine T.F_y8.okX qqn (λvs H Q E h=>q41 h) (λcdv A outer s H vs Q E hr h=>?_);refine⟨_,(q07 (q2o (q0g G_y6 hr.m (by rfl) T.mg_y6 T.F_y6.kp T.B_y6 .nil qbo (q00 (pv 0) (q00 (pv 1) q06)))) (q09 (q0s (q0x (q1x (K:=K) rfl) (pv 1) (q0g G_y7 hr.m (by rfl) T.mg_y7 T.F_y7.kp T.B_y7 .nil q1e (q00 (pv 0) q06)))))),?_⟩;exact q3m (O':=[]) (Nms:=["scheme","size"]) (f:=b_y8) (fx:=x_y8) (by
  unfold b_y8;exact(q0h (O1:=[]) (q6a (q2f n_y6 (q01 (q03 (i:=0)) (q01 (q03 (i:=1)) q08))) rfl) (q13 rfl (q0c q2m (q03 (i:=1)) (q0o n_y7 (q01 (q03 (i:=0)) q08))) rfl))) (by
  unfold x_y8;exact(q57 (O1:=[]) (q6a (q2f n_y6 (q01 (q03 (i:=0)) (q01 (q03 (i:=1)) q08))) rfl) (q66 (q56 qr9 (q01 (q03 (i:=0)) (q01 (q03 (i:=1)) q08)) q5d)).g
  q67)) h
abbrev w1i:=(sSet 2 (mOp2 dIx (q0l f_y3 (q02 (mVar 0) (q02 (mRet (.int 0)) (q02 (mRet (.int 0)) mNil)))) (mRet (.int 1))))
abbrev w1c:=(q0l f_y8 (q02 (mVar 0) (q02 (mVar 1) mNil)))
abbrev w0d:=(mOp1 dLen (q0l f_y4 (q02 (mVar 0) (q02 (mVar 4) (q02 (mVar 2) mNil)))))
abbrev w1u:=(sExt 3 (mRep (mLst (q02 (mVar 4) mNil)) w0d))
abbrev w36:=(sFor (q2k (q02 w1c mNil)) (gSet 4) w1u)
def b_y9:RhO:=
 (sSeq w1i
 (sSeq (sOwn 3 (mLst mNil))
 (sSeq w36
 (q89 3))))
def f_y9:List D->Option D:=runP true 2 5 b_y9
theorem n_y9:q1f 2 f_y9:=q1a
def x_y9:Xr:=
 (xSeq w1i xNo
 (xSeq (sOwn 3 (mLst mNil)) xNo
 (xSeq w36 (qb5 w1c (q7f qeq (q02 (mVar 0) (q02 (mVar 1) mNil)) xNo) xNo)
 xNo)))
def qep:List D->Option Str:=runX 2 5 x_y9
theorem qr7:q8a 2 qep:=q6x
theorem qnj(T:Txt K mg a):FnOk P w K mg base (CX1 P w) 4 a.f_y9 a.fd_y9 ["scheme","size"] (spPX K true 2 f_y9 qep):=by
 have G_y3:=@qo0 P w K mg base a T;have G_y8:=@qnk P w K mg base a T;have G_y4:=@qns P w K mg base a T;refine T.F_y9.okX sc_y9 (λvs H Q E h=>q41 h) (λcdv A outer s H vs Q E hr h=>?_);refine⟨_,(q07 (zsA 2 sc_y9.nd (q0w (q0a (K:=K) rfl) (q0g G_y3 hr.m (by rfl) T.mg_y3 T.F_y3.kp T.B_y3 .nil q1e (q00 (pv 0) (q00 q05 (q00 q05 q06)))) q05)) (q07 (zsA 3 sc_y9.nd (q2l q06)) (q07 (PS.or (PS.nox (q3a xj rfl (q1m (by rfl) T.z_range (q00 (q0g G_y8 hr.m (by rfl) T.mg_y8 T.F_y8.kp T.B_y8 .nil qbp (q00 (pv 0) (q00 (pv 1) q06))) q06)) (zgA 4 sc_y9.nd) (q09 (q2o (q61 PySem.F.plainAttrs_list PySem.F.slot_list_extend PySem.F.type_list_extend q8m (pv 3) (q00 (q0x qig (q2l (q00 (pv 4) q06)) (q1d (q1o (K:=K) rfl) (by rfl) T.z_len (by rfl) (q00 (q0g G_y4 hr.m (by rfl) T.mg_y4 T.F_y4.kp T.B_y4 .nil q1e (q00 (pv 0) (q00 (pv 4) (q00 (pv 2) q06)))) q06))) q06)))))) (qjo (q1m (by rfl) T.z_range (q00 (q0g G_y8 hr.m (by rfl) T.mg_y8 T.F_y8.kp T.B_y8 .nil qbo (q00 (pv 0) (q00 (pv 1) q06))) q06)))) (q09 (q0s (pv 3)))))),?_⟩;exact q3m (O':=[]) (Nms:=w30) (f:=b_y9) (fx:=x_y9) (by
  unfold b_y9;exact(q0h (O1:=[]) (q19 (q0c q10 (q0o n_y3 (q01 (q03 (i:=0)) (q01 me_int (q01 me_int q08)))) me_int)) (q0h (O1:=[3]) (q69 (q2v q08) rfl) (q0h (O1:=[3]) (qit (q3s (O':=[3]) (q1u (q01 (q2f n_y8 (q01 (q03 (i:=0)) (q01 (q03 (i:=1)) q08))) q08)) rfl (q0u (i:=4)) (qe0 (by decide) (qe1 (q2v (q01 (q03 (i:=4)) q08)) (q1b q35 (q0o n_y4 (q01 (q03 (i:=0)) (q01 (q03 (i:=4)) (q01 (q03 (i:=2)) q08)))).mb)) rfl))) (q9o rfl (by first|decide|simp) rfl (by first|decide|simp)))))) (by
  unfold x_y9;exact(q57 (O1:=[]) (q19 (q0c q10 (q0o n_y3 (q01 (q03 (i:=0)) (q01 me_int (q01 me_int q08)))) me_int)) q67 (q57 (O1:=[3]) (q69 (q2v q08) rfl) q67 (q57 (O1:=[3]) (qit (q3s (O':=[3]) (q1u (q01 (q2f n_y8 (q01 (q03 (i:=0)) (q01 (q03 (i:=1)) q08))) q08)) rfl (q0u (i:=4)) (qe0 (by decide) (qe1 (q2v (q01 (q03 (i:=4)) q08)) (q1b q35 (q0o n_y4 (q01 (q03 (i:=0)) (q01 (q03 (i:=4)) (q01 (q03 (i:=2)) q08)))).mb)) rfl))) (qgp (qgs (max_cons (q2f n_y8 (q01 (q03 (i:=0)) (q01 (q03 (i:=1)) q08))) (q56 qr8 (q01 (q03 (i:=0)) (q01 (q03 (i:=1)) q08)) q5d) q5d)))
  q67)))) h
theorem qod(T:Txt K mg a):FnOk P w K mg base CX0 1 a.f_y10 a.fd_y10 ["self","bit"] (qci a.c_Clear ["bit"]):=by
 refine T.F_y10.ok qmy (λvs H Q E h=>?_) (λcdv A outer s H vs Q E hr h=>?_)
 ·obtain⟨x,dx,args,rfl,hl,_⟩:=h;exact congrArg Nat.succ hl
 ·obtain⟨x,dx,args,rfl,hl,hx,k⟩:=h
  match args,hl,k with
  | [b0],_,k=>
   refine⟨_,(q09 (qdg (pv 0) (pv 1) rfl)),?_⟩;refine⟨_,rfl,_,rfl,x,_,dx,_,rfl,hx,T.cl_Clear,T.no_Clear_bit,(by show 0<1000;decide),?_⟩;exact k
def qi1:RhO:=
 (sRet (mIf (q0d (mOp2 dEq (mVar 1) (mFld "Clear" "bit" (mVar 0)))) (mRet (.int 0)) (mRet (.int 1))))
def f_y12:List D->Option D:=runP false 2 2 qi1
theorem qrw:q1f 2 f_y12:=q1a
theorem qoc(T:Txt K mg a):FnOk P w K mg base CX0 1 a.f_y12 a.fd_y12 ["self","bit"] (spP K false 2 f_y12):=by
 refine T.F_y12.ok qmx (λ_ _ _ _ h=>h.1) (λcdv A outer s H vs Q E hr h=>?_)
 ·refine⟨_,(q09 (q0s (q3r (q0y (q26 (K:=K) rfl hr.units) (pv 1) (q9h (K:=K) rfl (pv 0) rfl) (q16 _)) q05 q05))),?_⟩;exact q0t (O':=[]) (Nms:=["self","bit"]) (f:=qi1) (by unfold qi1;exact(q13 rfl (q9r (q0v (q14 os_eq (q03 (i:=1)) (qe7 T.ns_Clear T.cl_Clear T.no_Clear_bit (q03 (i:=0))).mb)) me_int me_int) rfl)) h
def qi0:RhO:=
 (sRet (mRet (.int 0)))
def f_y14:List D->Option D:=runP false 2 2 qi0
theorem qrv:q1f 2 f_y14:=q1a
theorem qob(T:Txt K mg a):FnOk P w K mg base CX0 1 a.f_y14 a.fd_y14 ["self","bit"] (spP K false 2 f_y14):=by
 refine T.F_y14.ok qmw (λ_ _ _ _ h=>h.1) (λcdv A outer s H vs Q E hr h=>?_)
 ·refine⟨_,(q09 (q0s q05)),?_⟩;exact q0t (O':=[]) (Nms:=["self","bit"]) (f:=qi0) (by unfold qi0;exact(q13 rfl me_int rfl)) h
theorem qoa(T:Txt K mg a):FnOk P w K mg base CX0 1 a.f_y15 a.fd_y15 ["self","zero","one"] (qci a.c_Soft ["zero","one"]):=by
 refine T.F_y15.ok qmv (λvs H Q E h=>?_) (λcdv A outer s H vs Q E hr h=>?_)
 ·obtain⟨x,dx,args,rfl,hl,_⟩:=h;exact congrArg Nat.succ hl
 ·obtain⟨x,dx,args,rfl,hl,hx,k⟩:=h
  match args,hl,k with
  | [b0,b1],_,k=>
   refine⟨_,(q07 (qdg (pv 0) (pv 1) rfl) (q09 (qdg (pv 0) (pv 2) rfl))),?_⟩;refine⟨_,rfl,_,rfl,x,_,dx,_,rfl,hx,T.cl_Soft,T.no_Soft_zero,(by show 0<1000;decide),?_⟩;refine⟨_,rfl,_,rfl,x,_,dx,_,rfl,q0m,T.cl_Soft,T.no_Soft_one,(by show 1<1000;decide),?_⟩;rw[qca];have e:(putF "one" b1 (putF "zero" b0 []))=([("zero",b0),("one",b1)]:List (Str×V)):=by
    have hne:¬(("zero":Str)="one"):=by decide+kernel
    simp[putF,hne]
   rw[e];exact k
def qhz:RhO:=
 (sRet (mIf (q0d (mOp2 dEq (mVar 1) (mRet (.int 1)))) (mFld "Soft" "one" (mVar 0)) (mFld "Soft" "zero" (mVar 0))))
def f_y17:List D->Option D:=runP false 2 2 qhz
theorem qru:q1f 2 f_y17:=q1a
theorem qo9(T:Txt K mg a):FnOk P w K mg base CX0 1 a.f_y17 a.fd_y17 ["self","bit"] (spP K false 2 f_y17):=by
 refine T.F_y17.ok qmu (λ_ _ _ _ h=>h.1) (λcdv A outer s H vs Q E hr h=>?_)
 ·refine⟨_,(q09 (q0s (q3r (q0y (q26 (K:=K) rfl hr.units) (pv 1) q05 (q16 _)) (q9h (K:=K) rfl (pv 0) rfl) (q9h (K:=K) rfl (pv 0) rfl)))),?_⟩;exact q0t (O':=[]) (Nms:=["self","bit"]) (f:=qhz) (by unfold qhz;exact(q13 rfl (q9r (q0v (q14 os_eq (q03 (i:=1)) me_int.mb)) (qe7 T.ns_Soft T.cl_Soft T.no_Soft_one (q03 (i:=0))) (qe7 T.ns_Soft T.cl_Soft T.no_Soft_zero (q03 (i:=0)))) rfl)) h
abbrev w2e:=(q0d (mOp2 dEq (mOp2 dIx (mVar 0) (mRet (.int 0))) (mRet (.str "gap"))))
abbrev w2b:=(q0d (mOp2 dEq (mOp2 dIx (mVar 0) (mRet (.int 0))) (mRet (.str "clear"))))
def qhy:RhO:=
 (sSeq (sIf w2b
   (sRet (qec "Clear" ["bit"] (q02 (mOp2 dIx (mVar 0) (mRet (.int 1))) mNil)))
   sNil)
 (sSeq (sIf w2e
   (sRet (qeb "Gap"))
   sNil)
 (sRet (qec "Soft" ["zero","one"] (q02 (mOp2 dIx (mVar 0) (mRet (.int 1))) (q02 (mOp2 dIx (mVar 0) (mRet (.int 2))) mNil))))))
def f_y18:List D->Option D:=runP false 1 1 qhy
theorem qrt:q1f 1 f_y18:=q1a
theorem qo8(T:Txt K mg a):FnOk P w K mg base CX0 3 a.f_y18 a.fd_y18 ["told"] (spP K false 1 f_y18):=by
 have G_y10:=@qod P w K mg base a T;have G_y15:=@qoa P w K mg base a T;refine T.F_y18.ok qmt (λ_ _ _ _ h=>h.1) (λcdv A outer s H vs Q E hr h=>?_)
 ·refine⟨_,(q07 (q31 (q0y (q26 (K:=K) rfl hr.units) (q0w (q0a (K:=K) rfl) (pv 0) q05) q29 (q16 _)) (q09 (q0s (qdk T.mk_Clear G_y10 hr.m (by rfl) T.mg_Clear T.B_y10 .nil q1e (q00 (q0w (q0a (K:=K) rfl) (pv 0) q05) q06)))) q1i) (q07 (q31 (q0y (q26 (K:=K) rfl hr.units) (q0w (q0a (K:=K) rfl) (pv 0) q05) q29 (q16 _)) (q09 (q0s (qgb T.mk_Gap (by rfl) T.mg_Gap))) q1i) (q09 (q0s (qdk T.mk_Soft G_y15 hr.m (by rfl) T.mg_Soft T.B_y15 .nil q1e (q00 (q0w (q0a (K:=K) rfl) (pv 0) q05) (q00 (q0w (q0a (K:=K) rfl) (pv 0) q05) q06))))))),?_⟩;exact q0t (O':=[]) (Nms:=["told"]) (f:=qhy) (by unfold qhy;exact(q0h (O1:=[]) (q3g (q0v (q14 os_eq (q0c q10 (q03 (i:=0)) me_int) me_str.mb)) (q13 rfl (qe6 T.ns_Clear (q01 (q0c q10 (q03 (i:=0)) me_int) q08)) rfl) (q2e rfl)) (q0h (O1:=[]) (q3g (q0v (q14 os_eq (q0c q10 (q03 (i:=0)) me_int) me_str.mb)) (q13 rfl (qgt T.ns_Gap) rfl) (q2e rfl)) (q13 rfl (qe6 T.ns_Soft (q01 (q0c q10 (q03 (i:=0)) me_int) (q01 (q0c q10 (q03 (i:=0)) me_int) q08))) rfl)))) h
abbrev w16:=(mOf (q2b f_y9 (q02 (mVar 0) (q02 (mVar 1) mNil))))
abbrev w2l:=(q0d (mOp2 dNe (mOp1 dLen (mVar 2)) (mOp1 dLen (mVar 3))))
def qhx:RhO:=
 (sSeq (sSet 3 w16)
 (sIf w2l
   (λ_=>none)
   sNil))
def f_y19:List D->Option D:=runP false 3 4 qhx
theorem qor:q1f 3 f_y19:=q1a
def qfk:Xr:=
 (xSeq (sSet 3 w16) (q7f qep (q02 (mVar 0) (q02 (mVar 1) mNil)) xNo)
 (xIf w2l xNo
   (q83 "NoSigns" (q02 (mRet (.str "there are not as many heard signs as are sent")) mNil))
   xNo))
def q77:List D->Option Str:=runX 3 4 qfk
theorem qol:q8a 3 q77:=q6x
theorem qo7(T:Txt K mg a):FnOk P w K mg base (CX1 P w) 5 a.f_y19 a.fd_y19 w0t (spPX K false 3 f_y19 q77):=by
 have G_y9:=@qnj P w K mg base a T;refine T.F_y19.okX sc_y19 (λvs H Q E h=>q41 h) (λcdv A outer s H vs Q E hr h=>?_);refine⟨_,(q07 (zsA 3 sc_y19.nd (q0g G_y9 hr.m (by rfl) T.mg_y9 T.F_y9.kp T.B_y9 .nil qbo (q00 (pv 0) (q00 (pv 1) q06)))) (q09 (q31 (q0y (q4t (K:=K) rfl hr.units) (q1d (q1o (K:=K) rfl) (by rfl) T.z_len (by rfl) (q00 (pv 2) q06)) (q1d (q1o (K:=K) rfl) (by rfl) T.z_len (by rfl) (q00 (pv 3) q06)) (q16 _)) (q09 (qac newX rfl (by rfl) T.mg_NoSigns T.ex_NoSigns PySem.F.excBase_ValueError (q00 q29 q06))) q1i))),?_⟩;exact q3m (O':=[]) (Nms:=["scheme","size","heard","places"]) (f:=qhx) (fx:=qfk) (by
  unfold qhx;exact(q0h (O1:=[]) (q19 (q1h (q7q n_y9 (q01 (q03 (i:=0)) (q01 (q03 (i:=1)) q08))))) (q3g (q0v (q14 q6r (q1b q35 q2a) (q1b q35 q2a).mb)) qal (q2e rfl)))) (by
  unfold qfk;exact(q57 (O1:=[]) (q19 (q1h (q7q n_y9 (q01 (q03 (i:=0)) (q01 (q03 (i:=1)) q08))))) (qgo (q56 qr7 (q01 (q03 (i:=0)) (q01 (q03 (i:=1)) q08)) q5d)).g (qis (q0v (q14 q6r (q1b q35 q2a) (q1b q35 q2a).mb)) qir (q72 T.ns_NoSigns (q01 me_str q08)).g q67))) h
abbrev w06:=(mOrE (q4h "Clear" "cost" f_y12 (mVar 0) (q02 (mVar 1) mNil)) (mOrE (q4h "Gap" "cost" f_y14 (mVar 0) (q02 (mVar 1) mNil)) (q4h "Soft" "cost" f_y17 (mVar 0) (q02 (mVar 1) mNil))))
def qhw:RhO:=
 (sRet (mOp1 dSum (mOf (q1n 2 [] none (mZip (q02 (mVar 0) (q02 (mVar 1) mNil))) (q2p 2 (q11 (gSet 0) (q11 (gSet 1) q2y))) (mRet true) w06))))
def f_y20:List D->Option D:=runP false 2 2 qhw
theorem qrs:q1f 2 f_y20:=q1a
theorem qo6(T:Txt K mg a):FnOk P w K mg base CX0 2 a.f_y20 a.fd_y20 ["signs","bits"] (spP K false 2 f_y20):=by
 have G_y17:=@qo9 P w K mg base a T;have G_y14:=@qob P w K mg base a T;have G_y12:=@qoc P w K mg base a T;refine T.F_y20.ok qms (λ_ _ _ _ h=>h.1) (λcdv A outer s H vs Q E hr h=>?_)
 ·refine⟨_,(q09 (q0s (q1d (q7z (K:=K) rfl rfl) (by rfl) T.z_sum (by rfl) (q00 (q2c (sc:=q04 qbk) (N0:=["signs","bits"]) rfl rfl rfl (show q1j _ _ ["sign","bit"] 2 [] _=true by decide+kernel) (q54 (K:=K) rfl (by rfl) T.z_zip (q00 (pv 0) (q00 (pv 1) q06))) (λ_ _ _ _ _=>(q3v (K:=K) rfl rfl (q1s (q0r (i:=0) (show List.Nodup (["sign","bit"]:List Str)from(by decide+kernel)) rfl (Or.inl rfl)) (q1s (q0r (i:=1) (show List.Nodup (["sign","bit"]:List Str)from(by decide+kernel)) rfl (Or.inl rfl)) q3u)))) (q5m (by decide) (by decide)) (λ_ _ _ _ _=>q1w) (λ_ _ _ _ _=>(PE.or (q9g (pv 0) T.cl_Clear T.m_y12 G_y12 hr.m T.B_y12 .nil q1e (q00 (pv 1) q06)) (PE.or (q9g (pv 0) T.cl_Gap T.m_y14 G_y14 hr.m T.B_y14 .nil q1e (q00 (pv 1) q06)) (q9g (pv 0) T.cl_Soft T.m_y17 G_y17 hr.m T.B_y17 .nil q1e (q00 (pv 1) q06)))))) q06)))),?_⟩;exact q0t (O':=[]) (Nms:=["signs","bits"]) (f:=qhw) (by unfold qhw;exact(q13 rfl (q1b qf1 (q1h (q1p (bw:=none) (q74 (q01 (q03 (i:=0)) (q01 (q03 (i:=1)) q08))) (q5c (q1t (q0u (i:=0)) (q1t (q0u (i:=1)) q3x))) q33 (qiv (q9q T.ns_Clear qrw (q03 (i:=0)) (q01 (q03 (i:=1)) q08)) (qiv (q9q T.ns_Gap qrv (q03 (i:=0)) (q01 (q03 (i:=1)) q08)) (q9q T.ns_Soft qru (q03 (i:=0)) (q01 (q03 (i:=1)) q08)))))).mb) rfl)) h
def qc6:Fd:=
 (q78 3 (q2p 2 (q11 (gSet 4) (q11 (gSet 5) q2y))) (mZip (q02 w16 (q02 (mVar 2) mNil)))
   (q2t 3 (mVar 4) (q02 (q0l f_y18 (q02 (mVar 5) mNil)) mNil)))
def qbw:RhL:=(q2k (q02 w1c mNil))
def q8t:List D->Option (List (List D)):=q7m 3 6 3 qbw qc6
def f_y21:List D->Option D:=λds=>q4y (q8t ds)
theorem qrr:q1f 3 f_y21:=qd8
theorem qk9(T:Txt K mg a):FnOk P w K mg base CX0 5 a.f_y21 a.fd_y21 w0t (spD K 3 q8t):=by
 have G_y8:=@qnk P w K mg base a T;have G_y9:=@qnj P w K mg base a T;have G_y18:=@qo8 P w K mg base a T;refine T.F_y21.ok sc_y21 (λvs H Q E h=>h.1) (λcdv A outer s H vs Q E hr h=>?_);refine⟨_,(q07 (q4e (k:=3) (sc:=q04 qbj) (N0:=w1m) rfl rfl rfl (show q1j _ _ ["number"] 1 [] _=true by decide+kernel) sc_y21.nd rfl (Or.inl rfl) (q1m (by rfl) T.z_range (q00 (q0g G_y8 hr.m (by rfl) T.mg_y8 T.F_y8.kp T.B_y8 .nil qbp (q00 (pv 0) (q00 (pv 1) q06))) q06)) (λ_ _ _ _ _=>(q0r (i:=0) (show List.Nodup (["number"]:List Str)from(by decide+kernel)) rfl (Or.inl rfl))) (q1g (by decide)) (λ_ _ _ _ _=>q1w) (λ_ _ _ _ _=>(q2l q06))) (q07 (q3a xj rfl (q54 (K:=K) rfl (by rfl) T.z_zip (q00 (q0g G_y9 hr.m (by rfl) T.mg_y9 T.F_y9.kp T.B_y9 .nil qbp (q00 (pv 0) (q00 (pv 1) q06))) (q00 (pv 2) q06))) (q3v (K:=K) rfl rfl (q1s (zgA 4 sc_y21.nd) (q1s (zgA 5 sc_y21.nd) q3u))) (q09 (q2o (q61 PySem.F.plainAttrs_list PySem.F.slot_list_append PySem.F.type_list_append q2i (q0w (q0a (K:=K) rfl) (pv 3) (pv 4)) (q00 (q0g G_y18 hr.m (by rfl) T.mg_y18 T.F_y18.kp T.B_y18 .nil q1e (q00 (pv 5) q06)) q06))))) (q09 (q0s (pv 3))))),?_⟩;exact q86 (Nms:=w1m) (i:=3) (m:=1) (js:=[]) (fi:=qbw) (f:=qc6) (by
  unfold qbw;exact(q1u (q01 (q2f n_y8 (q01 (q03 (i:=0)) (q01 (q03 (i:=1)) q08))) q08))) (by
  unfold qc6;exact(qak (q74 (q01 (q1h (q7q n_y9 (q01 (q03 (i:=0)) (q01 (q03 (i:=1)) q08)))) (q01 (q03 (i:=2)) q08))) (q5c (q1t (q0u (i:=4)) (q1t (q0u (i:=5)) q3x))) (by decide) (q73 (q03 (i:=4)) (q01 (q0o qrt (q01 (q03 (i:=5)) q08)) q08)))) h
theorem qo5(T:Txt K mg a):FnOk P w K mg base CX0 5 a.f_y21 a.fd_y21 w0t (spP K false 3 f_y21):=(qk9 T).imp λ_ _ _ _ h=>qmh h
abbrev w2t:=(q02 (mVar 0) (q02 (mVar 3) (q02 (mVar 4) mNil)))
def qhv:RhO:=
 (sSeq (sSet 5 (q0l f_y3 w2t))
 (sRet (mTup (q02 (mOp2 dIx (mVar 5) (mRet (.int 0))) (q02 (q0l f_y20 (q02 (mVar 2) (q02 (q0l f_y4 (q02 (mVar 0) (q02 (mVar 1) (q02 (mOp2 dIx (mVar 5) (mRet (.int 1))) mNil)))) mNil))) mNil)))))
def f_y22:List D->Option D:=runP false 5 6 qhv
theorem qrq:q1f 5 f_y22:=q1a
theorem qo4(T:Txt K mg a):FnOk P w K mg base CX0 4 a.f_y22 a.fd_y22 w28 (spP K false 5 f_y22):=by
 have G_y3:=@qo0 P w K mg base a T;have G_y4:=@qns P w K mg base a T;have G_y20:=@qo6 P w K mg base a T;refine T.F_y22.ok sc_y22 (λ_ _ _ _ h=>h.1) (λcdv A outer s H vs Q E hr h=>?_)
 ·refine⟨_,(q07 (zsA 5 sc_y22.nd (q0g G_y3 hr.m (by rfl) T.mg_y3 T.F_y3.kp T.B_y3 .nil q1e (q00 (pv 0) (q00 (pv 3) (q00 (pv 4) q06))))) (q09 (q0s (q44 (q00 (q0w (q0a (K:=K) rfl) (pv 5) q05) (q00 (q0g G_y20 hr.m (by rfl) T.mg_y20 T.F_y20.kp T.B_y20 .nil q1e (q00 (pv 2) (q00 (q0g G_y4 hr.m (by rfl) T.mg_y4 T.F_y4.kp T.B_y4 .nil q1e (q00 (pv 0) (q00 (pv 1) (q00 (q0w (q0a (K:=K) rfl) (pv 5) q05) q06)))) q06))) q06)))))),?_⟩;exact q0t (O':=[]) (Nms:=w2x) (f:=qhv) (by unfold qhv;exact(q0h (O1:=[]) (q19 (q0o n_y3 (q01 (q03 (i:=0)) (q01 (q03 (i:=3)) (q01 (q03 (i:=4)) q08))))) (q13 rfl (q47 (q01 (q0c q10 (q03 (i:=5)) me_int) (q01 (q0o qrs (q01 (q03 (i:=2)) (q01 (q0o n_y4 (q01 (q03 (i:=0)) (q01 (q03 (i:=1)) (q01 (q0c q10 (q03 (i:=5)) me_int) q08)))) q08))) q08))) rfl))) h
abbrev w0o:=(q02 (mVar 1) (q02 (mVar 2) (q02 (mVar 3) (q02 (mVar 4) (q02 (mVar 0) mNil)))))
def qhu:RhO:=
 (sRet (mOf (q1n 1 [0,1,2,3] none (mSeq (mVar 4)) (gSet 0) (mRet true) (q0l f_y22 w0o))))
def f_y23:List D->Option D:=runP false 5 5 qhu
theorem qrp:q1f 5 f_y23:=q1a
abbrev w32:List Str:=["bit","scheme","number","signs","room"]
theorem qo3(T:Txt K mg a):FnOk P w K mg base CX0 5 a.f_y23 a.fd_y23 w0y (spP K false 5 f_y23):=by
 have G_y22:=@qo4 P w K mg base a T;refine T.F_y23.ok qmr (λ_ _ _ _ h=>h.1) (λcdv A outer s H vs Q E hr h=>?_)
 ·refine⟨_,(q09 (q0s (q2c (sc:=q04 qbi) (N0:=w0y) rfl rfl rfl (show q1j _ _ w32 1 [0,1,2,3] _=true by decide+kernel) (q24 (K:=K) rfl (pv 4)) (λ_ _ _ _ _=>(q0r (i:=0) (show List.Nodup (w32:List Str)from(by decide+kernel)) rfl (Or.inl rfl))) (q1g (by decide)) (λ_ _ _ _ _=>q1w) (λ_ _ _ _ _=>(q0g G_y22 hr.m (by rfl) T.mg_y22 T.F_y22.kp T.B_y22 .nil q1e (q00 (pv 1) (q00 (pv 2) (q00 (pv 3) (q00 (pv 4) (q00 (pv 0) q06)))))))))),?_⟩;exact q0t (O':=[]) (Nms:=w0y) (f:=qhu) (by unfold qhu;exact(q13 rfl (q1h (q1p (bw:=none) (q34 (q03 (i:=4))) (q0u (i:=0)) q33 (q0o qrq (q01 (q03 (i:=1)) (q01 (q03 (i:=2)) (q01 (q03 (i:=3)) (q01 (q03 (i:=4)) (q01 (q03 (i:=0)) q08)))))))) rfl)) h
abbrev w10:=(q2k (q02 (q0l f_y1 (q02 (mVar 0) mNil)) mNil))
abbrev w0p:=(q02 (mVar 1) (q02 (mVar 2) (q02 (mVar 3) (q02 (mVar 0) (q02 (mVar 4) mNil)))))
abbrev w2u:=(q02 (mRet (.int 0)) (q02 (mRet (.int 1)) mNil))
abbrev w0b:=w2u
abbrev w07:=(q02 (mVar 0) (q02 (mVar 1) (q02 (mVar 2) mNil)))
abbrev w35:=(sSet 6 (mIf (q0d (mOp2 dLt (mVar 4) (mVar 1))) (mTup w0b) (mTup (q02 (mRet (.int 0)) mNil))))
abbrev w1p:=(sSeq w35 (sMut q2q 3 (q02 (mOf (q1n 1 [0,4,5,6] none w10 (gSet 0) (mRet true) (q0l f_y23 w0p))) mNil)))
def qht:RhO:=
 (sSeq (q6q (q0l f_y19 w07))
 (sSeq (sOwn 3 (mLst mNil))
 (sSeq (sFor (qed (q0l f_y21 w07)) (q2p 2 (q11 (gSet 4) (q11 (gSet 5) q2y)))
   w1p)
 (sRet (mVar 3)))))
def f_y24:List D->Option D:=runP false 3 7 qht
theorem qkd:q1f 3 f_y24:=q1a
def qfj:Xr:=
 (xSeq (q6q (q0l f_y19 w07)) (q7f q77 w07 xNo)
 xNo)
def q76:List D->Option Str:=runX 3 7 qfj
theorem qok:q8a 3 q76:=q6x
abbrev w31:List Str:=["room","scheme","number","signs","bits"]
theorem qin(T:Txt K mg a):FnOk P w K mg base (CX1 P w) 6 a.f_y24 a.fd_y24 w0t (spPX K false 3 f_y24 q76):=by
 have G_y19:=@qo7 P w K mg base a T;have G_y21:=@qo5 P w K mg base a T;have G_y1:=@qk3 P w K mg base a T;have G_y23:=@qo3 P w K mg base a T;refine T.F_y24.okX sc_y24 (λvs H Q E h=>q41 h) (λcdv A outer s H vs Q E hr h=>?_);refine⟨_,(q07 (q2o (q0g G_y19 hr.m (by rfl) T.mg_y19 T.F_y19.kp T.B_y19 .nil qbo (q00 (pv 0) (q00 (pv 1) (q00 (pv 2) q06))))) (q07 (zsA 3 sc_y24.nd (q2l q06)) (q07 (PS.nox (q3a xj rfl (qjt (K:=K) rfl (by rfl) T.z_enumerate (q0g G_y21 hr.m (by rfl) T.mg_y21 T.F_y21.kp T.B_y21 .nil q1e (q00 (pv 0) (q00 (pv 1) (q00 (pv 2) q06))))) (q3v (K:=K) rfl rfl (q1s (zgA 4 sc_y24.nd) (q1s (zgA 5 sc_y24.nd) q3u))) (q07 (zsA 6 sc_y24.nd (q3r (q0y q9k (pv 4) (pv 1) (q16 _)) (q44 (q00 q05 (q00 q05 q06))) (q44 (q00 q05 q06)))) (q09 (q2o (q61 PySem.F.plainAttrs_list PySem.F.slot_list_append PySem.F.type_list_append q2i (pv 3) (q00 (q2c (sc:=q04 qbh) (N0:=w1h) rfl rfl rfl (show q1j _ _ w31 1 [0,4,5,6] _=true by decide+kernel) (q1m (by rfl) T.z_range (q00 (q0g G_y1 hr.m (by rfl) T.mg_y1 T.F_y1.kp T.B_y1 .nil q1e (q00 (pv 0) q06)) q06)) (λ_ _ _ _ _=>(q0r (i:=0) (show List.Nodup (w31:List Str)from(by decide+kernel)) rfl (Or.inl rfl))) (q1g (by decide)) (λ_ _ _ _ _=>q1w) (λ_ _ _ _ _=>(q0g G_y23 hr.m (by rfl) T.mg_y23 T.F_y23.kp T.B_y23 .nil q1e (q00 (pv 1) (q00 (pv 2) (q00 (pv 3) (q00 (pv 0) (q00 (pv 4) q06)))))))) q06))))))) (q09 (q0s (pv 3)))))),?_⟩;exact q3m (O':=[]) (Nms:=w1h) (f:=qht) (fx:=qfj) (by
  unfold qht;exact(q0h (O1:=[]) (q6a (q2f qor (q01 (q03 (i:=0)) (q01 (q03 (i:=1)) (q01 (q03 (i:=2)) q08)))) rfl) (q0h (O1:=[3]) (q69 (q2v q08) rfl) (q0h (O1:=[]) (q9n (q3s (O':=[3]) (qkl (q0o qrr (q01 (q03 (i:=0)) (q01 (q03 (i:=1)) (q01 (q03 (i:=2)) q08))))) rfl (q5c (q1t (q0u (i:=4)) (q1t (q0u (i:=5)) q3x))) (q0h (O1:=[3]) (q19 (q9r (q0v (q14 q7o (q03 (i:=4)) q2a)) (q47 (q01 me_int (q01 me_int q08))) (q47 (q01 me_int q08)))) (qam q4u (by decide) (q01 (q1h (q1p (bw:=none) (q1u (q01 (q0o n_y1 (q01 (q03 (i:=0)) q08)) q08)) (q0u (i:=0)) q33 (q0o qrp (q01 (q03 (i:=1)) (q01 (q03 (i:=2)) (q01 (q03 (i:=3)) (q01 (q03 (i:=0)) (q01 (q03 (i:=4)) q08)))))))) q08) rfl))) rfl) (q13 rfl (q03 (i:=3)) rfl))))) (by
  unfold qfj;exact(q57 (O1:=[]) (q6a (q2f qor (q01 (q03 (i:=0)) (q01 (q03 (i:=1)) (q01 (q03 (i:=2)) q08)))) rfl) (q66 (q56 qol (q01 (q03 (i:=0)) (q01 (q03 (i:=1)) (q01 (q03 (i:=2)) q08))) q5d)).g
  q67)) h
abbrev w0v:=(mIf (q0d (mOp2 dEq (mVar 0) (mVar 1))) (mRet (.int 0)) (mRet .non))
abbrev w2d:=(q0d (mOp2 dEq (mOp2 dIx (mVar 0) (mRet (.int 3))) (mRet (.str "open"))))
abbrev w08:=w2d
abbrev w29:=(sSet 2 (mIf (q0d (q0l f_y5 (q02 (mVar 0) mNil))) (mVar 1) (mRet (.int 0))))
def qhs:RhO:=
 (sSeq (sIf w08
   (q7k (mRep (mLst (q02 (mRet (.int 0)) mNil)) (q0l f_y1 (q02 (mVar 0) mNil))))
   sNil)
 (sSeq w29
 (q7k (q1n 1 [2] none w10 (gSet 0) (mRet true) w0v))))
def f_y25:List D->Option D:=runP true 2 3 qhs
theorem qoq:q1f 2 f_y25:=q1a
theorem qim(T:Txt K mg a):FnOk P w K mg base CX0 3 a.f_y25 a.fd_y25 ["scheme","start"] (spP K true 2 f_y25):=by
 have G_y1:=@qk3 P w K mg base a T;have G_y5:=@qnl P w K mg base a T;refine T.F_y25.ok sc_y25 (λ_ _ _ _ h=>h.1) (λcdv A outer s H vs Q E hr h=>?_)
 ·refine⟨_,(q07 (q31 (q0y (q26 (K:=K) rfl hr.units) (q0w (q0a (K:=K) rfl) (pv 0) q05) q29 (q16 _)) (q09 (q0s (q0x qig (q2l (q00 q05 q06)) (q0g G_y1 hr.m (by rfl) T.mg_y1 T.F_y1.kp T.B_y1 .nil q1e (q00 (pv 0) q06))))) q1i) (q07 (zsA 2 sc_y25.nd (q3r (q4q (q0g G_y5 hr.m (by rfl) T.mg_y5 T.F_y5.kp T.B_y5 .nil q1e (q00 (pv 0) q06))) (pv 1) q05)) (q09 (q0s (q2c (sc:=q04 qbg) (N0:=["scheme","start","end"]) rfl rfl rfl (show q1j _ _ ["room","end"] 1 [2] _=true by decide+kernel) (q1m (by rfl) T.z_range (q00 (q0g G_y1 hr.m (by rfl) T.mg_y1 T.F_y1.kp T.B_y1 .nil q1e (q00 (pv 0) q06)) q06)) (λ_ _ _ _ _=>(q0r (i:=0) (show List.Nodup (["room","end"]:List Str)from(by decide+kernel)) rfl (Or.inl rfl))) (q1g (by decide)) (λ_ _ _ _ _=>q1w) (λ_ _ _ _ _=>(q3r (q0y (q26 (K:=K) rfl hr.units) (pv 0) (pv 1) (q16 _)) q05 q3w))))))),?_⟩;exact q0t (O':=[]) (Nms:=["scheme","start","end"]) (f:=qhs) (by unfold qhs;exact(q0h (O1:=[]) (q3g (q0v (q14 os_eq (q0c q10 (q03 (i:=0)) me_int) me_str.mb)) (q7p rfl (qe1 (q2v (q01 me_int q08)) (q0o n_y1 (q01 (q03 (i:=0)) q08))) rfl) (q2e rfl)) (q0h (O1:=[]) (q19 (q9r (q46 (q0o n_y5 (q01 (q03 (i:=0)) q08))) (q03 (i:=1)) me_int)) (q7p rfl (q1p (bw:=none) (q1u (q01 (q0o n_y1 (q01 (q03 (i:=0)) q08)) q08)) (q0u (i:=0)) q33 (q9r (q0v (q14 os_eq (q03 (i:=0)) q2a)) me_int me_non)) rfl)))) h
def qfc:RhO:=
 (sSeq (sSet 2 (mOp2 dIx (mVar 1) (mOp2 dIx (mVar 0) (mRet (.int 0)))))
 (sRet (mIf (q0d (mOp2 dIsN (mVar 2) (mRet .non))) (mRet .non) (mOp2 dAdd (mOp2 dIx (mVar 0) (mRet (.int 1))) (mVar 2)))))
def f_y26:List D->Option D:=runP false 2 3 qfc
theorem qro:q1f 2 f_y26:=q1a
theorem qo2(T:Txt K mg a):FnOk P w K mg base CX0 1 a.f_y26 a.fd_y26 ["taken","behind"] (spP K false 2 f_y26):=by
 refine T.F_y26.ok sc_y26 (λ_ _ _ _ h=>h.1) (λcdv A outer s H vs Q E hr h=>?_)
 ·refine⟨_,(q07 (zsA 2 sc_y26.nd (q0w (q0a (K:=K) rfl) (pv 1) (q0w (q0a (K:=K) rfl) (pv 0) q05))) (q09 (q0s (q3r (q0y qii (pv 2) q3w (q16 _)) q3w (q0x (q1x (K:=K) rfl) (q0w (q0a (K:=K) rfl) (pv 0) q05) (pv 2)))))),?_⟩;exact q0t (O':=[]) (Nms:=["taken","behind","rest"]) (f:=qfc) (by unfold qfc;exact(q0h (O1:=[]) (q19 (q0c q10 (q03 (i:=1)) (q0c q10 (q03 (i:=0)) me_int))) (q13 rfl (q9r (q0v (q14 qid (q03 (i:=2)) me_non.mb)) me_non (q0c q2m (q0c q10 (q03 (i:=0)) me_int) (q03 (i:=2)))) rfl))) h
def qhr:RhO:=
 (sSeq (sSet 2 (mOf (q1n 1 [1] none (mSeq (mVar 0)) (gSet 0) (mRet true) (q0l f_y26 (q02 (mVar 0) (q02 (mVar 1) mNil))))))
 (sRet (mOp1 q6m (mOf (q1n 1 [] none (mSeq (mVar 2)) (gSet 0) (q0d (mOp2 q43 (mVar 0) (mRet .non))) (mVar 0))))))
def f_y27:List D->Option D:=runP false 2 3 qhr
theorem qop:q1f 2 f_y27:=q1a
theorem qil(T:Txt K mg a):FnOk P w K mg base CX0 2 a.f_y27 a.fd_y27 ["choices","behind"] (spP K false 2 f_y27):=by
 have G_y26:=@qo2 P w K mg base a T;refine T.F_y27.ok sc_y27 (λ_ _ _ _ h=>h.1) (λcdv A outer s H vs Q E hr h=>?_)
 ·refine⟨_,(q07 (q4e (k:=2) (sc:=q04 q9c) (N0:=w25) rfl rfl rfl (show q1j _ _ ["taken","behind"] 1 [1] _=true by decide+kernel) sc_y27.nd rfl (Or.inl rfl) (q24 (K:=K) rfl (pv 0)) (λ_ _ _ _ _=>(q0r (i:=0) (show List.Nodup (["taken","behind"]:List Str)from(by decide+kernel)) rfl (Or.inl rfl))) (q1g (by decide)) (λ_ _ _ _ _=>q1w) (λ_ _ _ _ _=>(q0g G_y26 hr.m (by rfl) T.mg_y26 T.F_y26.kp T.B_y26 .nil q1e (q00 (pv 0) (q00 (pv 1) q06))))) (q09 (q0s (qdj (K:=K) rfl rfl (by rfl) T.z_min (q2c (sc:=q04 q9c) (N0:=w25) rfl rfl rfl (show q1j _ _ ["one"] 1 [] _=true by decide+kernel) (q24 (K:=K) rfl (pv 2)) (λ_ _ _ _ _=>(q0r (i:=0) (show List.Nodup (["one"]:List Str)from(by decide+kernel)) rfl (Or.inl rfl))) (q1g (by decide)) (λ_ _ _ _ _=>(q5z (q0y q9j (pv 0) q3w (q16 _)))) (λ_ _ _ _ _=>(pv 0))) q3w)))),?_⟩;exact q0t (O':=[]) (Nms:=w25) (f:=qhr) (by unfold qhr;exact(q0h (O1:=[]) (q68 (q1p (bw:=none) (q34 (q03 (i:=0))) (q0u (i:=0)) q33 (q0o qro (q01 (q03 (i:=0)) (q01 (q03 (i:=1)) q08)))) rfl (by decide)) (q13 rfl (qe5 (q1h (q1p (bw:=none) (q34 (q03 (i:=2))) (q0u (i:=0)) (q0v (q14 q9i (q03 (i:=0)) me_non.mb)) (q03 (i:=0)))).mb) rfl))) h
abbrev w1l:=(q1n 1 [4] none (mSeq (mVar 3)) (gSet 0) (mRet true) (q0l f_y27 (q02 (mVar 0) (q02 (mVar 1) mNil))))
def qlr:RhO:=
 (sSeq (sOwn 2 (mLst (q02 (mVar 1) mNil)))
 (sSeq (sFor (mRev (mVar 0)) (gSet 3)
   (sSeq (sSet 4 (mIxO 2 (mOp1 dNeg (mRet (.int 1))))) (sMut q2q 2 (q02 (mOf w1l) mNil))))
 (sRet (mOf (mRev (mVar 2))))))
def f_y28:List D->Option D:=runP false 2 5 qlr
theorem qrn:q1f 2 f_y28:=q1a
theorem qo1(T:Txt K mg a):FnOk P w K mg base CX0 3 a.f_y28 a.fd_y28 ["steps","ends"] (spP K false 2 f_y28):=by
 have G_y27:=@qil P w K mg base a T;refine T.F_y28.ok sc_y28 (λ_ _ _ _ h=>h.1) (λcdv A outer s H vs Q E hr h=>?_)
 ·refine⟨_,(q07 (zsA 2 sc_y28.nd (q2l (q00 (pv 1) q06))) (q07 (q3a xj rfl (qic (K:=K) rfl (by rfl) T.z_reversed (pv 0)) (zgA 3 sc_y28.nd) (q07 (zsA 4 sc_y28.nd (q0w (q0a (K:=K) rfl) (pv 2) (qju qcb q05))) (q09 (q2o (q61 PySem.F.plainAttrs_list PySem.F.slot_list_append PySem.F.type_list_append q2i (pv 2) (q00 (q2c (sc:=q04 q9b) (N0:=w0w) rfl rfl rfl (show q1j _ _ ["choices","behind"] 1 [4] _=true by decide+kernel) (q24 (K:=K) rfl (pv 3)) (λ_ _ _ _ _=>(q0r (i:=0) (show List.Nodup (["choices","behind"]:List Str)from(by decide+kernel)) rfl (Or.inl rfl))) (q1g (by decide)) (λ_ _ _ _ _=>q1w) (λ_ _ _ _ _=>(q0g G_y27 hr.m (by rfl) T.mg_y27 T.F_y27.kp T.B_y27 .nil q1e (q00 (pv 0) (q00 (pv 1) q06))))) q06)))))) (q09 (q0s (qdl (K:=K) rfl rfl (by rfl) T.z_list (by rfl) T.z_reversed (pv 2)))))),?_⟩;exact q0t (O':=[]) (Nms:=w0w) (f:=qlr) (by unfold qlr;exact(q0h (O1:=[2]) (q69 (q2v (q01 (q03 (i:=1)) q08)) rfl) (q0h (O1:=[]) (q9n (q3s (O':=[2]) (qiu (q03 (i:=0))) rfl (q0u (i:=3)) (q0h (O1:=[2]) (q19 (qoz (i:=2) (by decide) (qiw me_int))) (qam q4u (by decide) (q01 (q1h (q1p (bw:=none) (q34 (q03 (i:=3))) (q0u (i:=0)) q33 (q0o qop (q01 (q03 (i:=0)) (q01 (q03 (i:=1)) q08))))) q08) rfl))) rfl) (q13 rfl (q1h (qkj (q03 (i:=2)))) rfl)))) h
def q9y:RhL:=
 w1l
def q6p:Fd:=qh6 2 3 (mRev (mVar 0)) (q8r 2 4 q9y)
theorem qk8(T:Txt K mg a):FnOk P w K mg base CX0 3 a.f_y28 a.fd_y28 ["steps","ends"] (spAB K (gAB 4 q6p)):=by
 have G_y27:=@qil P w K mg base a T;refine T.F_y28.ok sc_y28 (λvs H Q E h=>?_) (λcdv A outer s H vs Q E hr h=>?_)
 ·obtain⟨v,b,ws,R,d,ds,dss,rfl,_⟩:=h;rfl
 ·refine⟨_,(q07 (zsA 2 sc_y28.nd (q2l (q00 (pv 1) q06))) (q07 (q3a xj rfl (qic (K:=K) rfl (by rfl) T.z_reversed (pv 0)) (zgA 3 sc_y28.nd) (q07 (zsA 4 sc_y28.nd (q0w (q0a (K:=K) rfl) (pv 2) (qju qcb q05))) (q09 (q2o (q61 PySem.F.plainAttrs_list PySem.F.slot_list_append PySem.F.type_list_append q2i (pv 2) (q00 (q2c (sc:=q04 q9b) (N0:=w0w) rfl rfl rfl (show q1j _ _ ["choices","behind"] 1 [4] _=true by decide+kernel) (q24 (K:=K) rfl (pv 3)) (λ_ _ _ _ _=>(q0r (i:=0) (show List.Nodup (["choices","behind"]:List Str)from(by decide+kernel)) rfl (Or.inl rfl))) (q1g (by decide)) (λ_ _ _ _ _=>q1w) (λ_ _ _ _ _=>(q0g G_y27 hr.m (by rfl) T.mg_y27 T.F_y27.kp T.B_y27 .nil q1e (q00 (pv 0) (q00 (pv 1) q06))))) q06)))))) (q09 (q0s (qdl (K:=K) rfl rfl (by rfl) T.z_list (by rfl) T.z_reversed (pv 2)))))),?_⟩;exact qck (Nms:=w0w) (n:=4) rfl (by decide) (by
   unfold q6p;exact(qki (qiu (q03 (i:=0))) (by decide) (by decide) (qkh (λ_ _ _ q=>⟨_,rfl,q⟩) (by unfold q9y;exact(q1p (bw:=none) (q34 (q03 (i:=3))) (q0u (i:=0)) q33 (q0o qop (q01 (q03 (i:=0)) (q01 (q03 (i:=1)) q08))))) (by decide)))) h
def qlq:RhO:=
 (sRet (q0l f_y28 (q02 (q0l f_y24 w07) (q02 (mOf (q2b f_y25 (q02 (mVar 0) (q02 (mVar 3) mNil)))) mNil))))
def f_y29:List D->Option D:=runP false 4 4 qlq
theorem qrm:q1f 4 f_y29:=q1a
def qfi:Xr:=
 (qb5 (q0l f_y24 w07) (q7f q76 w07 xNo) xNo)
def q6j:List D->Option Str:=runX 4 4 qfi
theorem qoj:q8a 4 q6j:=q6x
theorem qik(T:Txt K mg a):FnOk P w K mg base (CX1 P w) 7 a.f_y29 a.fd_y29 w0f (spPX K false 4 f_y29 q6j):=by
 have G_y25:=@qim P w K mg base a T;have G_y24:=@qin P w K mg base a T;have G_y28:=@qo1 P w K mg base a T;refine T.F_y29.okX qi8 (λvs H Q E h=>q41 h) (λcdv A outer s H vs Q E hr h=>?_);refine⟨_,(q09 (q0s (q0g G_y28 hr.m (by rfl) T.mg_y28 T.F_y28.kp T.B_y28 .nil q1e (q00 (q0g G_y24 hr.m (by rfl) T.mg_y24 T.F_y24.kp T.B_y24 .nil qbo (q00 (pv 0) (q00 (pv 1) (q00 (pv 2) q06)))) (q00 (q0g G_y25 hr.m (by rfl) T.mg_y25 T.F_y25.kp T.B_y25 .nil q1e (q00 (pv 0) (q00 (pv 3) q06))) q06))))),?_⟩;exact q3m (O':=[]) (Nms:=w0f) (f:=qlq) (fx:=qfi) (by
  unfold qlq;exact(q13 rfl (q0o qrn (q01 (q2f qkd (q01 (q03 (i:=0)) (q01 (q03 (i:=1)) (q01 (q03 (i:=2)) q08)))) (q01 (q1h (q2s qoq (q01 (q03 (i:=0)) (q01 (q03 (i:=3)) q08)))) q08))) rfl)) (by
  unfold qfi;exact(qgn (qgl (max_cons (q2f qkd (q01 (q03 (i:=0)) (q01 (q03 (i:=1)) (q01 (q03 (i:=2)) q08)))) (q56 qok (q01 (q03 (i:=0)) (q01 (q03 (i:=1)) (q01 (q03 (i:=2)) q08))) q5d) q5d))).g) h
def qe9:RhD:=q0l f_y24 w07
def qey:RhL:=q2b f_y25 (q02 (mVar 0) (q02 (mVar 3) mNil))
def q79:List D->Option (List (List D)):=gAh 4 qe9 qey (gAB 4 q6p)
theorem qos:q1f 4 (λds=>q4y (q79 ds)):=qs1
theorem qk7(T:Txt K mg a):FnOk P w K mg base (CX1 P w) 7 a.f_y29 a.fd_y29 w0f (spD K 4 q79):=by
 have G_y25:=@qim P w K mg base a T;have G_y24:=@qin P w K mg base a T;have G_y28:=@qk8 P w K mg base a T;refine T.F_y29.okX qi8 (λvs H Q E h=>h.1) (λcdv A outer s H vs Q E hr h=>?_);refine⟨_,(q09 (q0s (q0g G_y28 hr.m (by rfl) T.mg_y28 T.F_y28.kp T.B_y28 .nil q1e (q00 (q0g G_y24 hr.m (by rfl) T.mg_y24 T.F_y24.kp T.B_y24 .nil qbo (q00 (pv 0) (q00 (pv 1) (q00 (pv 2) q06)))) (q00 (q0g G_y25 hr.m (by rfl) T.mg_y25 T.F_y25.kp T.B_y25 .nil q1e (q00 (pv 0) (q00 (pv 3) q06))) q06))))),?_⟩;exact qcj (Nms:=w0f) (n:=4) rfl (by
  unfold qe9;exact(q2f qkd (q01 (q03 (i:=0)) (q01 (q03 (i:=1)) (q01 (q03 (i:=2)) q08))))) (by
  unfold qey;exact(q2s qoq (q01 (q03 (i:=0)) (q01 (q03 (i:=3)) q08)))) h
def qfb:RhO:=
 (sSeq (sIf (q0d (mOp2 dLt (mVar 1) (mOp1 dLen (mVar 0))))
   (sRet (mOp2 dIx (mVar 0) (mVar 1)))
   sNil)
 (sRet (mRet (.int 0))))
def f_y30:List D->Option D:=runP false 2 2 qfb
theorem qrl:q1f 2 f_y30:=q1a
theorem qnz(T:Txt K mg a):FnOk P w K mg base CX0 1 a.f_y30 a.fd_y30 ["_law_script","_law_k"] (spP K false 2 f_y30):=by
 refine T.F_y30.ok qmq (λ_ _ _ _ h=>h.1) (λcdv A outer s H vs Q E hr h=>?_)
 ·refine⟨_,(q07 (q31 (q0y q9k (pv 1) (q1d (q1o (K:=K) rfl) (by rfl) T.z_len (by rfl) (q00 (pv 0) q06)) (q16 _)) (q09 (q0s (q0w (q0a (K:=K) rfl) (pv 0) (pv 1)))) q1i) (q09 (q0s q05))),?_⟩;exact q0t (O':=[]) (Nms:=["_law_script","_law_k"]) (f:=qfb) (by unfold qfb;exact(q0h (O1:=[]) (q3g (q0v (q14 q7o (q03 (i:=1)) (q1b q35 q2a).mb)) (q13 rfl (q0c q10 (q03 (i:=0)) (q03 (i:=1))) rfl) (q2e rfl)) (q13 rfl me_int rfl))) h
abbrev w0c:=(sSet 3 (mOp2 dMod (mOp2 dAdd (mOp2 dAdd (mOp2 q3l (mVar 3) (mOp2 dAdd (mVar 3) (mRet (.int 65537)))) (mOp2 q3l (mRet (.int 13)) (mVar 4))) (mRet (.int 5))) (mRet (.int 2305843009213693951))))
abbrev w2z:=(sSeq w0c (sMut q2q 2 (q02 (mVar 3) mNil)))
def qhq:RhO:=
 (sSeq (sOwn 2 (mLst mNil))
 (sSeq (sSet 3 (mOp2 dAdd (mOp2 q3l (mOp2 dMod (mVar 0) (mRet (.int 2305843009213693951))) (mRet (.int 1000000007))) (mRet (.int 104729))))
 (sSeq (sFor (q2k (q02 (mVar 1) mNil)) (gSet 4)
   w2z)
 (q89 2))))
def f_y31:List D->Option D:=runP true 2 5 qhq
theorem qgk:q1f 2 f_y31:=q1a
theorem qag(T:Txt K mg a):FnOk P w K mg base CX0 1 a.f_y31 a.fd_y31 w2v (spP K true 2 f_y31):=by
 refine T.F_y31.ok sc_y31 (λ_ _ _ _ h=>h.1) (λcdv A outer s H vs Q E hr h=>?_)
 ·refine⟨_,(q07 (zsA 2 sc_y31.nd (q2l q06)) (q07 (zsA 3 sc_y31.nd (q0x (q1x (K:=K) rfl) (q0x (q3e (K:=K) rfl) (q0x q22 (pv 0) q05) q05) q05)) (q07 (q3a xj rfl (q1m (by rfl) T.z_range (q00 (pv 1) q06)) (zgA 4 sc_y31.nd) (q07 (zsA 3 sc_y31.nd (q0x q22 (q0x (q1x (K:=K) rfl) (q0x (q1x (K:=K) rfl) (q0x (q3e (K:=K) rfl) (pv 3) (q0x (q1x (K:=K) rfl) (pv 3) q05)) (q0x (q3e (K:=K) rfl) q05 (pv 4))) q05) q05)) (q09 (q2o (q61 PySem.F.plainAttrs_list PySem.F.slot_list_append PySem.F.type_list_append q2i (pv 2) (q00 (pv 3) q06)))))) (q09 (q0s (pv 2)))))),?_⟩;exact q0t (O':=[]) (Nms:=w2k) (f:=qhq) (by unfold qhq;exact(q0h (O1:=[2]) (q69 (q2v q08) rfl) (q0h (O1:=[2]) (q19 (q0c q2m (q0c q3f (q0c q23 (q03 (i:=0)) me_int) me_int) me_int)) (q0h (O1:=[2]) (q3s (O':=[2]) (q1u (q01 (q03 (i:=1)) q08)) rfl (q0u (i:=4)) (q0h (O1:=[2]) (q19 (q0c q23 (q0c q2m (q0c q2m (q0c q3f (q03 (i:=3)) (q0c q2m (q03 (i:=3)) me_int)) (q0c q3f me_int (q03 (i:=4)))) me_int) me_int)) (qam q4u (by decide) (q01 (q03 (i:=3)) q08) rfl))) (q9o rfl (by first|decide|simp) rfl (by first|decide|simp)))))) h
abbrev w1z:=(mOp2 dAnd (mOp2 dShr (mVar 1) (mOp2 q3l (mRet (.int 2)) (mVar 0))) (mRet (.int 3)))
abbrev w02:=(q02 (mOp1 q4a (mOf (q1n 1 [7] none (q2k (q02 (mOp1 dLen (mVar 5)) mNil)) (gSet 0) (mRet true) (mOp2 dIx (mOf (mLst (q02 (mRet (.int 1)) (q02 (mRet (.int 1)) w2u)))) w1z)))) mNil)
def qhp:RhO:=
 (sSeq (sSet 2 (mOf (q2b f_y31 (q02 (mVar 0) (q02 (mRet (.int 14)) mNil)))))
 (sSeq (sSet 3 (mOp2 dIx (mOf (mLst (q02 (mRet (.str "open")) (q02 (mRet (.str "ended")) (q02 (mRet (.str "ring")) (q02 (mRet (.str "ended")) mNil)))))) (mOp2 dMod (mOp2 dIx (mVar 2) (mRet (.int 0))) (mRet (.int 4)))))
 (sSeq (sSet 4 (mOp2 dMod (mOp2 dIx (mVar 2) (mRet (.int 1))) (mOp2 dAdd (mVar 1) (mRet (.int 1)))))
 (sSeq (sSet 5 (mOp1 q4a (mOf (q1n 1 [4] none (mSeq (mSl (mVar 2) (q58 (mRet (.int 2))) (q58 (mOp2 dAdd (mRet (.int 3)) (mOp2 dIx (mOf (mLst (q02 (mRet (.int 1)) (q02 (mRet (.int 0)) (q02 (mRet (.int 2)) (q02 (mRet (.int 1)) (q02 (mRet (.int 3)) mNil))))))) (mOp2 dMod (mOp2 dIx (mVar 2) (mRet (.int 6))) (mRet (.int 5)))))))) (gSet 0) (mRet true) (mOp2 dMod (mVar 0) (mOp2 dShl (mRet (.int 2)) (mVar 1)))))))
 (sSeq (sOwn 6 (mLst mNil))
 (sSeq (sFor (mSeq (mSl (mVar 2) (q58 (mRet (.int 7))) (q58 (mOp2 dAdd (mRet (.int 7)) (mOp2 dIx (mOf (mLst (q02 (mRet (.int 1)) (q02 (mRet (.int 2)) (q02 (mRet (.int 4)) (q02 (mRet (.int 3)) (q02 (mRet (.int 5)) (q02 (mRet (.int 6)) mNil)))))))) (mOp2 dMod (mOp2 dIx (mVar 2) (mRet (.int 13))) (mRet (.int 6)))))))) (gSet 7)
   (sMut q2q 6 w02))
 (sRet (mTup (q02 (mVar 4) (q02 (mVar 5) (q02 (mOp1 q4a (mVar 6)) (q02 (mVar 3) mNil))))))))))))
def f_y32:List D->Option D:=runP false 2 8 qhp
theorem qrk:q1f 2 f_y32:=q1a
theorem qny(T:Txt K mg a):FnOk P w K mg base CX0 2 a.f_y32 a.fd_y32 ["_law_x","_law_top"] (spP K false 2 f_y32):=by
 have G_y31:=@qag P w K mg base a T;refine T.F_y32.ok sc_y32 (λ_ _ _ _ h=>h.1) (λcdv A outer s H vs Q E hr h=>?_)
 ·refine⟨_,(q07 (zsA 2 sc_y32.nd (q0g G_y31 hr.m (by rfl) T.mg_y31 T.F_y31.kp T.B_y31 .nil q1e (q00 (pv 0) (q00 q05 q06)))) (q07 (zsA 3 sc_y32.nd (q0w (q0a (K:=K) rfl) (q2l (q00 q29 (q00 q29 (q00 q29 (q00 q29 q06))))) (q0x q22 (q0w (q0a (K:=K) rfl) (pv 2) q05) q05))) (q07 (zsA 4 sc_y32.nd (q0x q22 (q0w (q0a (K:=K) rfl) (pv 2) q05) (q0x (q1x (K:=K) rfl) (pv 1) q05))) (q07 (zsA 5 sc_y32.nd (q25 (q3c (K:=K) rfl) (by rfl) T.z_tuple (by rfl) (q00 (q2c (sc:=q04 q9a) (N0:=w0i) rfl rfl rfl (show q1j _ _ ["_law_y","_law_reach"] 1 [4] _=true by decide+kernel) (q24 (K:=K) rfl (q4r (q5w (K:=K) rfl) (pv 2) (q4f q05) (q4f (q0x (q1x (K:=K) rfl) q05 (q0w (q0a (K:=K) rfl) (q2l (q00 q05 (q00 q05 (q00 q05 (q00 q05 (q00 q05 q06)))))) (q0x q22 (q0w (q0a (K:=K) rfl) (pv 2) q05) q05)))))) (λ_ _ _ _ _=>(q0r (i:=0) (show List.Nodup (["_law_y","_law_reach"]:List Str)from(by decide+kernel)) rfl (Or.inl rfl))) (q1g (by decide)) (λ_ _ _ _ _=>q1w) (λ_ _ _ _ _=>(q0x q22 (pv 0) (q0x q63 q05 (pv 1))))) q06))) (q07 (zsA 6 sc_y32.nd (q2l q06)) (q07 (q3a xj rfl (q24 (K:=K) rfl (q4r (q5w (K:=K) rfl) (pv 2) (q4f q05) (q4f (q0x (q1x (K:=K) rfl) q05 (q0w (q0a (K:=K) rfl) (q2l (q00 q05 (q00 q05 (q00 q05 (q00 q05 (q00 q05 (q00 q05 q06))))))) (q0x q22 (q0w (q0a (K:=K) rfl) (pv 2) q05) q05)))))) (zgA 7 sc_y32.nd) (q09 (q2o (q61 PySem.F.plainAttrs_list PySem.F.slot_list_append PySem.F.type_list_append q2i (pv 6) (q00 (q25 (q3c (K:=K) rfl) (by rfl) T.z_tuple (by rfl) (q00 (q2c (sc:=q04 q9a) (N0:=w0i) rfl rfl rfl (show q1j _ _ ["_law_k","_law_y"] 1 [7] _=true by decide+kernel) (q1m (by rfl) T.z_range (q00 (q1d (q1o (K:=K) rfl) (by rfl) T.z_len (by rfl) (q00 (pv 5) q06)) q06)) (λ_ _ _ _ _=>(q0r (i:=0) (show List.Nodup (["_law_k","_law_y"]:List Str)from(by decide+kernel)) rfl (Or.inl rfl))) (q1g (by decide)) (λ_ _ _ _ _=>q1w) (λ_ _ _ _ _=>(q0w (q0a (K:=K) rfl) (q2l (q00 q05 (q00 q05 (q00 q05 (q00 q05 q06))))) (q0x q8i (q0x qif (pv 1) (q0x (q3e (K:=K) rfl) q05 (pv 0))) q05)))) q06)) q06))))) (q09 (q0s (q44 (q00 (pv 4) (q00 (pv 5) (q00 (q25 (q3c (K:=K) rfl) (by rfl) T.z_tuple (by rfl) (q00 (pv 6) q06)) (q00 (pv 3) q06))))))))))))),?_⟩;exact q0t (O':=[]) (Nms:=w0i) (f:=qhp) (by unfold qhp;exact(q0h (O1:=[]) (q19 (q1h (q2s qgk (q01 (q03 (i:=0)) (q01 me_int q08))))) (q0h (O1:=[]) (q19 (q0c q10 (q1h (q2v (q01 me_str (q01 me_str (q01 me_str (q01 me_str q08)))))) (q0c q23 (q0c q10 (q03 (i:=2)) me_int) me_int))) (q0h (O1:=[]) (q19 (q0c q23 (q0c q10 (q03 (i:=2)) me_int) (q0c q2m (q03 (i:=1)) me_int))) (q0h (O1:=[]) (q19 (q4w q4z (q1h (q1p (bw:=none) (q34 (q4v (q03 (i:=2)) (q4g me_int) (q4g (q0c q2m me_int (q0c q10 (q1h (q2v (q01 me_int (q01 me_int (q01 me_int (q01 me_int (q01 me_int q08))))))) (q0c q23 (q0c q10 (q03 (i:=2)) me_int) me_int)))))) (q0u (i:=0)) q33 (q0c q23 (q03 (i:=0)) (q0c q65 me_int (q03 (i:=1)))))))) (q0h (O1:=[6]) (q69 (q2v q08) rfl) (q0h (O1:=[]) (q9n (q3s (O':=[6]) (q34 (q4v (q03 (i:=2)) (q4g me_int) (q4g (q0c q2m me_int (q0c q10 (q1h (q2v (q01 me_int (q01 me_int (q01 me_int (q01 me_int (q01 me_int (q01 me_int q08)))))))) (q0c q23 (q0c q10 (q03 (i:=2)) me_int) me_int)))))) rfl (q0u (i:=7)) (qam q4u (by decide) (q01 (q4w q4z (q1h (q1p (bw:=none) (q1u (q01 (q1b q35 q2a) q08)) (q0u (i:=0)) q33 (q0c q10 (q1h (q2v (q01 me_int (q01 me_int (q01 me_int (q01 me_int q08)))))) (q0c q8k (q0c qio (q03 (i:=1)) (q0c q3f me_int (q03 (i:=0)))) me_int))))) q08) rfl)) rfl) (q13 rfl (q47 (q01 (q03 (i:=4)) (q01 (q03 (i:=5)) (q01 (q4w q4z (q03 (i:=6))) (q01 (q03 (i:=3)) q08))))) rfl)))))))) h
abbrev w2r:=(mOp2 dShr (mOp2 dAnd (mVar 1) (mVar 2)) (mVar 0))
abbrev w13:=(mOp1 dSum (mOf (q1n 1 [0,1] none (q2k (q02 (mRet (.int 5)) mNil)) (gSet 0) (mRet true) (mOp2 dAnd w2r (mRet (.int 1))))))
def qlp:RhO:=
 (sSeq w1d
 (sSeq (sSet 4 (mOf (q1n 1 [3] none w22 (gSet 0) (mRet true) (mOp2 dMod w13 (mRet (.int 2))))))
 (sRet (mTup (q02 (mOp2 dMod (mVar 3) (mOp2 dShl (mRet (.int 1)) (mOp2 dIx (mVar 0) (mRet (.int 0))))) (q02 (mVar 4) mNil))))))
def f_y33:List D->Option D:=runP false 3 5 qlp
theorem qrj:q1f 3 f_y33:=q1a
abbrev w34:List Str:=["_law_k","_law_tap","_law_window"]
abbrev w2s:List Str:=["_law_tap","_law_window"]
theorem qnx(T:Txt K mg a):FnOk P w K mg base CX0 1 a.f_y33 a.fd_y33 w20 (spP K false 3 f_y33):=by
 refine T.F_y33.ok sc_y33 (λ_ _ _ _ h=>h.1) (λcdv A outer s H vs Q E hr h=>?_)
 ·refine⟨_,(q07 (zsA 3 sc_y33.nd (q0x (q1x (K:=K) rfl) (q0x (q3e (K:=K) rfl) q05 (pv 1)) (pv 2))) (q07 (qg8 (k:=4) (sc:=q04 qbf) (N0:=w1a) rfl rfl rfl (show q3z _ _ w2s [3] _ "_law_tap"=true by decide+kernel) sc_y33.nd rfl (Or.inl rfl) (q24 (K:=K) rfl (q0w (q0a (K:=K) rfl) (pv 0) q05)) (λ_ _ _ _ _=>(q0r (i:=0) (show List.Nodup (w2s:List Str)from(by decide+kernel)) rfl (Or.inr rfl) (.inl (show decide (("_law_tap":Str)="_law_tap")=true from decide_eq_true rfl)))) (q1g (by decide)) (λ_ _ _ _ _=>q1w) (λ_ _ _ _ _=>(q0x q22 (q1d (q7z (K:=K) rfl rfl) (by rfl) T.z_sum (by rfl) (q00 (q2c (N0:=w2s) rfl rfl rfl (show q1j _ _ w34 1 [0,1] _=true by kernel_rfl) (q1m (by rfl) (by exact T.z_range) (q00 q05 q06)) (λ_ _ _ _ _=>(q0r (i:=0) (show List.Nodup (w34:List Str)from(by decide+kernel)) rfl (Or.inl rfl))) (q1g (by decide)) (λ_ _ _ _ _=>q1w) (λ_ _ _ _ _=>(q0x q8i (q0x qif (q0x q8i (pv 1) (pv 2)) (pv 0)) q05))) q06)) q05))) (q09 (q0s (q44 (q00 (q0x q22 (pv 3) (q0x q63 q05 (q0w (q0a (K:=K) rfl) (pv 0) q05))) (q00 (pv 4) q06))))))),?_⟩;exact q0t (O':=[]) (Nms:=w1a) (f:=qlp) (by unfold qlp;exact(q0h (O1:=[]) (q19 (q0c q2m (q0c q3f me_int (q03 (i:=1))) (q03 (i:=2)))) (q0h (O1:=[]) (q68 (q1p (bw:=none) (q34 (q0c q10 (q03 (i:=0)) me_int)) (q0u (i:=0)) q33 (q0c q23 (q1b qf1 (q1h (q1p (bw:=none) (q1u (q01 me_int q08)) (q0u (i:=0)) q33 (q0c q8k (q0c qio (q0c q8k (q03 (i:=1)) (q03 (i:=2))) (q03 (i:=0))) me_int))).mb) me_int)) rfl (by decide)) (q13 rfl (q47 (q01 (q0c q23 (q03 (i:=3)) (q0c q65 me_int (q0c q10 (q03 (i:=0)) me_int))) (q01 (q03 (i:=4)) q08))) rfl)))) h
abbrev w2w:=(mOp1 dLen (mOp2 dIx (mVar 0) (mRet (.int 2))))
def qho:RhO:=
 (sSeq (sSet 3 (mOp2 dIx (mOp2 dIx (mVar 0) (mRet (.int 2))) (mOp2 dMod (mVar 1) w2w)))
 (q7k (q1n 2 [] none (mZip (q02 (mVar 2) (q02 (mVar 3) mNil))) (q2p 2 (q11 (gSet 0) (q11 (gSet 1) q2y))) (q0d (mOp2 dEq (mVar 1) (mRet (.int 1)))) (mVar 0))))
def f_y34:List D->Option D:=runP true 3 4 qho
theorem qri:q1f 3 f_y34:=q1a
abbrev w2m:List Str:=["_law_sign_here","_law_told"]
theorem qnw(T:Txt K mg a):FnOk P w K mg base CX0 1 a.f_y34 a.fd_y34 w1s (spP K true 3 f_y34):=by
 refine T.F_y34.ok sc_y34 (λ_ _ _ _ h=>h.1) (λcdv A outer s H vs Q E hr h=>?_)
 ·refine⟨_,(q07 (zsA 3 sc_y34.nd (q0w (q0a (K:=K) rfl) (q0w (q0a (K:=K) rfl) (pv 0) q05) (q0x q22 (pv 1) (q1d (q1o (K:=K) rfl) (by rfl) T.z_len (by rfl) (q00 (q0w (q0a (K:=K) rfl) (pv 0) q05) q06))))) (q09 (q0s (q2c (sc:=q04 qbe) (N0:=w1f) rfl rfl rfl (show q1j _ _ w2m 2 [] _=true by decide+kernel) (q54 (K:=K) rfl (by rfl) T.z_zip (q00 (pv 2) (q00 (pv 3) q06))) (λ_ _ _ _ _=>(q3v (K:=K) rfl rfl (q1s (q0r (i:=0) (show List.Nodup (w2m:List Str)from(by decide+kernel)) rfl (Or.inl rfl)) (q1s (q0r (i:=1) (show List.Nodup (w2m:List Str)from(by decide+kernel)) rfl (Or.inl rfl)) q3u)))) (q5m (by decide) (by decide)) (λ_ _ _ _ _=>(q5z (q0y (q26 (K:=K) rfl hr.units) (pv 1) q05 (q16 _)))) (λ_ _ _ _ _=>(pv 0)))))),?_⟩;exact q0t (O':=[]) (Nms:=w1f) (f:=qho) (by unfold qho;exact(q0h (O1:=[]) (q19 (q0c q10 (q0c q10 (q03 (i:=0)) me_int) (q0c q23 (q03 (i:=1)) (q1b q35 (q0c q10 (q03 (i:=0)) me_int).mb)))) (q7p rfl (q1p (bw:=none) (q74 (q01 (q03 (i:=2)) (q01 (q03 (i:=3)) q08))) (q5c (q1t (q0u (i:=0)) (q1t (q0u (i:=1)) q3x))) (q0v (q14 os_eq (q03 (i:=1)) me_int.mb)) (q03 (i:=0))) rfl))) h
def qc5:RhO:=
 (sSeq (sIf w2a
   (sRet (mOp2 dAdd (mVar 1) (mOp2 dIx (mVar 0) (mRet (.int 0)))))
   sNil)
 (sRet (mVar 1)))
def f_y35:List D->Option D:=runP false 2 2 qc5
theorem qkc:q1f 2 f_y35:=q1a
theorem qdr(T:Txt K mg a):FnOk P w K mg base CX0 1 a.f_y35 a.fd_y35 w0s (spP K false 2 f_y35):=by
 refine T.F_y35.ok qmp (λ_ _ _ _ h=>h.1) (λcdv A outer s H vs Q E hr h=>?_)
 ·refine⟨_,(q07 (q31 (q0y (q26 (K:=K) rfl hr.units) (q0w (q0a (K:=K) rfl) (pv 0) q05) q29 (q16 _)) (q09 (q0s (q0x (q1x (K:=K) rfl) (pv 1) (q0w (q0a (K:=K) rfl) (pv 0) q05)))) q1i) (q09 (q0s (pv 1)))),?_⟩;exact q0t (O':=[]) (Nms:=w0s) (f:=qc5) (by unfold qc5;exact(q0h (O1:=[]) (q3g (q0v (q14 os_eq (q0c q10 (q03 (i:=0)) me_int) me_str.mb)) (q13 rfl (q0c q2m (q03 (i:=1)) (q0c q10 (q03 (i:=0)) me_int)) rfl) (q2e rfl)) (q13 rfl (q03 (i:=1)) rfl))) h
abbrev w12:=(q0l f_y35 (q02 (mVar 0) (q02 (mVar 1) mNil)))
abbrev w0m:=(mSeq (mOp2 dIx (mOp2 dIx (mVar 0) (mRet (.int 2))) (mOp2 dMod (mVar 3) w2w)))
abbrev w23:=(q1n 1 [3] none w0m (gSet 0) (q0d (mOp2 dEq (mVar 0) (mRet (.int 1)))) (mVar 1))
def qlo:RhO:=
 (sSeq (sOwn 2 (mLst mNil))
 (sSeq (sFor (q2k (q02 w12 mNil)) (gSet 3)
   (sExt 2 w23))
 (q89 2)))
def f_y36:List D->Option D:=runP true 2 4 qlo
theorem qoo:q1f 2 f_y36:=q1a
theorem qij(T:Txt K mg a):FnOk P w K mg base CX0 2 a.f_y36 a.fd_y36 w0s (spP K true 2 f_y36):=by
 have G_y35:=@qdr P w K mg base a T;refine T.F_y36.ok sc_y36 (λ_ _ _ _ h=>h.1) (λcdv A outer s H vs Q E hr h=>?_)
 ·refine⟨_,(q07 (zsA 2 sc_y36.nd (q2l q06)) (q07 (q3a xj rfl (q1m (by rfl) T.z_range (q00 (q0g G_y35 hr.m (by rfl) T.mg_y35 T.F_y35.kp T.B_y35 .nil q1e (q00 (pv 0) (q00 (pv 1) q06))) q06)) (zgA 3 sc_y36.nd) (q09 (q2o (q61 PySem.F.plainAttrs_list PySem.F.slot_list_extend PySem.F.type_list_extend q8m (pv 2) (q00 (q2c (sc:=q04 qbd) (N0:=w1e) rfl rfl rfl (show q1j _ _ ["_law_told","_law_number"] 1 [3] _=true by decide+kernel) (q24 (K:=K) rfl (q0w (q0a (K:=K) rfl) (q0w (q0a (K:=K) rfl) (pv 0) q05) (q0x q22 (pv 3) (q1d (q1o (K:=K) rfl) (by rfl) T.z_len (by rfl) (q00 (q0w (q0a (K:=K) rfl) (pv 0) q05) q06))))) (λ_ _ _ _ _=>(q0r (i:=0) (show List.Nodup (["_law_told","_law_number"]:List Str)from(by decide+kernel)) rfl (Or.inl rfl))) (q1g (by decide)) (λ_ _ _ _ _=>(q5z (q0y (q26 (K:=K) rfl hr.units) (pv 0) q05 (q16 _)))) (λ_ _ _ _ _=>(pv 1))) q06))))) (q09 (q0s (pv 2))))),?_⟩;exact q0t (O':=[]) (Nms:=w1e) (f:=qlo) (by unfold qlo;exact(q0h (O1:=[2]) (q69 (q2v q08) rfl) (q0h (O1:=[2]) (q3s (O':=[2]) (q1u (q01 (q0o qkc (q01 (q03 (i:=0)) (q01 (q03 (i:=1)) q08))) q08)) rfl (q0u (i:=3)) (qe0 (by decide) (q1p (bw:=none) (q34 (q0c q10 (q0c q10 (q03 (i:=0)) me_int) (q0c q23 (q03 (i:=3)) (q1b q35 (q0c q10 (q03 (i:=0)) me_int).mb)))) (q0u (i:=0)) (q0v (q14 os_eq (q03 (i:=0)) me_int.mb)) (q03 (i:=1))) rfl)) (q9o rfl (by first|decide|simp) rfl (by first|decide|simp))))) h
def qc4:RhO:=
 (sSeq (sIf w2b
   (sRet (mOp1 dInt (mOp2 dNe (mOp2 dIx (mVar 0) (mRet (.int 1))) (mVar 1))))
   sNil)
 (sSeq (sIf w2e
   (sRet (mRet (.int 0)))
   sNil)
 (sRet (mOp2 dIx (mVar 0) (mOp2 dAdd (mRet (.int 1)) (mVar 1))))))
def f_y37:List D->Option D:=runP false 2 2 qc4
theorem qrh:q1f 2 f_y37:=q1a
theorem qnv(T:Txt K mg a):FnOk P w K mg base CX0 1 a.f_y37 a.fd_y37 ["_law_told","_law_bit"] (spP K false 2 f_y37):=by
 refine T.F_y37.ok qmo (λ_ _ _ _ h=>h.1) (λcdv A outer s H vs Q E hr h=>?_)
 ·refine⟨_,(q07 (q31 (q0y (q26 (K:=K) rfl hr.units) (q0w (q0a (K:=K) rfl) (pv 0) q05) q29 (q16 _)) (q09 (q0s (q25 q51 (by rfl) T.z_int (by rfl) (q00 (q60 (q4t (K:=K) rfl hr.units) (q0w (q0a (K:=K) rfl) (pv 0) q05) (pv 1) (q16 _)) q06)))) q1i) (q07 (q31 (q0y (q26 (K:=K) rfl hr.units) (q0w (q0a (K:=K) rfl) (pv 0) q05) q29 (q16 _)) (q09 (q0s q05)) q1i) (q09 (q0s (q0w (q0a (K:=K) rfl) (pv 0) (q0x (q1x (K:=K) rfl) q05 (pv 1))))))),?_⟩;exact q0t (O':=[]) (Nms:=["_law_told","_law_bit"]) (f:=qc4) (by unfold qc4;exact(q0h (O1:=[]) (q3g (q0v (q14 os_eq (q0c q10 (q03 (i:=0)) me_int) me_str.mb)) (q13 rfl (q1b qay (q14 q6r (q0c q10 (q03 (i:=0)) me_int) q2a).mb) rfl) (q2e rfl)) (q0h (O1:=[]) (q3g (q0v (q14 os_eq (q0c q10 (q03 (i:=0)) me_int) me_str.mb)) (q13 rfl me_int rfl) (q2e rfl)) (q13 rfl (q0c q10 (q03 (i:=0)) (q0c q2m me_int (q03 (i:=1)))) rfl)))) h
abbrev w2y:=(mOp2 dPow (mRet (.int 10)) (mRet (.int 60)))
def q9z:RhO:=
 (sSeq (sSet 1 (mOf (q2b f_y31 (q02 (mVar 0) (q02 (mRet (.int 5)) mNil)))))
 (sSeq (sSet 2 (mOp2 dMod (mOp2 dIx (mVar 1) (mRet (.int 0))) (mRet (.int 9))))
 (sSeq (sIf (q0d (mOp2 dLt (mVar 2) (mRet (.int 4))))
   (sRet (mTup (q02 (mRet (.str "clear")) (q02 (mOp2 dMod (mOp2 dIx (mVar 1) (mRet (.int 1))) (mRet (.int 2))) mNil))))
   sNil)
 (sSeq (sIf (q0d (mOp2 dEq (mVar 2) (mRet (.int 4))))
   (sRet (mTup (q02 (mRet (.str "gap")) mNil)))
   sNil)
 (sSeq (sIf (q0d (mOp2 dLt (mVar 2) (mRet (.int 8))))
   (sRet (mTup (q02 (mRet (.str "soft")) (q02 (mOp2 dSub (mOp2 dMod (mOp2 dIx (mVar 1) (mRet (.int 1))) (mRet (.int 5))) (mRet (.int 1))) (q02 (mOp2 dSub (mOp2 dMod (mOp2 dIx (mVar 1) (mRet (.int 2))) (mRet (.int 5))) (mRet (.int 1))) mNil)))))
   sNil)
 (sSeq (sSet 3 (mOp2 dSub (mOp2 dMod (mOp2 q3l (mOp2 q3l (mOp2 q3l (mOp2 dIx (mVar 1) (mRet (.int 1))) (mOp2 dIx (mVar 1) (mRet (.int 2)))) (mOp2 dIx (mVar 1) (mRet (.int 3)))) (mOp2 dIx (mVar 1) (mRet (.int 4)))) (mOp2 dSub (mOp2 q3l (mRet (.int 2)) w2y) (mRet (.int 3)))) (mOp2 dSub w2y (mRet (.int 2)))))
 (sRet (mTup (q02 (mRet (.str "soft")) (q02 (mVar 3) (q02 (mOp2 dSub (mOp2 dAdd (mVar 3) (mOp2 dMod (mOp2 dDiv (mOp2 dIx (mVar 1) (mRet (.int 0))) (mRet (.int 9))) (mRet (.int 3)))) (mRet (.int 1))) mNil)))))))))))
def f_y38:List D->Option D:=runP false 1 4 q9z
theorem qon:q1f 1 f_y38:=q1a
theorem qnu(T:Txt K mg a):FnOk P w K mg base CX0 2 a.f_y38 a.fd_y38 ["_law_cell"] (spP K false 1 f_y38):=by
 have G_y31:=@qag P w K mg base a T;refine T.F_y38.ok sc_y38 (λ_ _ _ _ h=>h.1) (λcdv A outer s H vs Q E hr h=>?_)
 ·refine⟨_,(q07 (zsA 1 sc_y38.nd (q0g G_y31 hr.m (by rfl) T.mg_y31 T.F_y31.kp T.B_y31 .nil q1e (q00 (pv 0) (q00 q05 q06)))) (q07 (zsA 2 sc_y38.nd (q0x q22 (q0w (q0a (K:=K) rfl) (pv 1) q05) q05)) (q07 (q31 (q0y q9k (pv 2) q05 (q16 _)) (q09 (q0s (q44 (q00 q29 (q00 (q0x q22 (q0w (q0a (K:=K) rfl) (pv 1) q05) q05) q06))))) q1i) (q07 (q31 (q0y (q26 (K:=K) rfl hr.units) (pv 2) q05 (q16 _)) (q09 (q0s (q44 (q00 q29 q06)))) q1i) (q07 (q31 (q0y q9k (pv 2) q05 (q16 _)) (q09 (q0s (q44 (q00 q29 (q00 (q0x q62 (q0x q22 (q0w (q0a (K:=K) rfl) (pv 1) q05) q05) q05) (q00 (q0x q62 (q0x q22 (q0w (q0a (K:=K) rfl) (pv 1) q05) q05) q05) q06)))))) q1i) (q07 (zsA 3 sc_y38.nd (q0x q62 (q0x q22 (q0x (q3e (K:=K) rfl) (q0x (q3e (K:=K) rfl) (q0x (q3e (K:=K) rfl) (q0w (q0a (K:=K) rfl) (pv 1) q05) (q0w (q0a (K:=K) rfl) (pv 1) q05)) (q0w (q0a (K:=K) rfl) (pv 1) q05)) (q0w (q0a (K:=K) rfl) (pv 1) q05)) (q0x q62 (q0x (q3e (K:=K) rfl) q05 (q0x qih q05 q05)) q05)) (q0x q62 (q0x qih q05 q05) q05))) (q09 (q0s (q44 (q00 q29 (q00 (pv 3) (q00 (q0x q62 (q0x (q1x (K:=K) rfl) (pv 3) (q0x q22 (q0x q9l (q0w (q0a (K:=K) rfl) (pv 1) q05) q05) q05)) q05) q06)))))))))))),?_⟩;exact q0t (O':=[]) (Nms:=w2o) (f:=q9z) (by unfold q9z;exact(q0h (O1:=[]) (q19 (q1h (q2s qgk (q01 (q03 (i:=0)) (q01 me_int q08))))) (q0h (O1:=[]) (q19 (q0c q23 (q0c q10 (q03 (i:=1)) me_int) me_int)) (q0h (O1:=[]) (q3g (q0v (q14 q7o (q03 (i:=2)) me_int.mb)) (q13 rfl (q47 (q01 me_str (q01 (q0c q23 (q0c q10 (q03 (i:=1)) me_int) me_int) q08))) rfl) (q2e rfl)) (q0h (O1:=[]) (q3g (q0v (q14 os_eq (q03 (i:=2)) me_int.mb)) (q13 rfl (q47 (q01 me_str q08)) rfl) (q2e rfl)) (q0h (O1:=[]) (q3g (q0v (q14 q7o (q03 (i:=2)) me_int.mb)) (q13 rfl (q47 (q01 me_str (q01 (q0c q64 (q0c q23 (q0c q10 (q03 (i:=1)) me_int) me_int) me_int) (q01 (q0c q64 (q0c q23 (q0c q10 (q03 (i:=1)) me_int) me_int) me_int) q08)))) rfl) (q2e rfl)) (q0h (O1:=[]) (q19 (q0c q64 (q0c q23 (q0c q3f (q0c q3f (q0c q3f (q0c q10 (q03 (i:=1)) me_int) (q0c q10 (q03 (i:=1)) me_int)) (q0c q10 (q03 (i:=1)) me_int)) (q0c q10 (q03 (i:=1)) me_int)) (q0c q64 (q0c q3f me_int (q0c qip me_int me_int)) me_int)) (q0c q64 (q0c qip me_int me_int) me_int))) (q13 rfl (q47 (q01 me_str (q01 (q03 (i:=3)) (q01 (q0c q64 (q0c q2m (q03 (i:=3)) (q0c q23 (q0c qdv (q0c q10 (q03 (i:=1)) me_int) me_int) me_int)) me_int) q08)))) rfl)))))))) h
def qhn:RhO:=
 (sSeq (sSet 3 (mOf (q1n 1 [] none (mSeq (mSl (mVar 0) (mRet none) (q58 (mVar 1)))) (gSet 0) (mRet true) (q0l f_y38 (q02 (mVar 0) mNil)))))
 (q7k (qgv qhf (mVar 3) (mOf (q1n 1 [] none (mSeq (mOf (q2b f_y31 (q02 (mVar 2) (q02 (mOp2 dSub (mVar 1) (mOp1 dLen (mVar 3))) mNil))))) (gSet 0) (mRet true) (q0l f_y38 (q02 (mVar 0) mNil)))))))
def f_y39:List D->Option D:=runP true 3 4 qhn
theorem qrg:q1f 3 f_y39:=q1a
theorem qnt(T:Txt K mg a):FnOk P w K mg base CX0 3 a.f_y39 a.fd_y39 w2i (spP K true 3 f_y39):=by
 have G_y38:=@qnu P w K mg base a T;have G_y31:=@qag P w K mg base a T;refine T.F_y39.ok sc_y39 (λ_ _ _ _ h=>h.1) (λcdv A outer s H vs Q E hr h=>?_)
 ·refine⟨_,(q07 (q4e (k:=3) (sc:=q04 q99) (N0:=w19) rfl rfl rfl (show q1j _ _ ["_law_cell"] 1 [] _=true by decide+kernel) sc_y39.nd rfl (Or.inl rfl) (q24 (K:=K) rfl (q4r (q5w (K:=K) rfl) (pv 0) q9e (q4f (pv 1)))) (λ_ _ _ _ _=>(q0r (i:=0) (show List.Nodup (["_law_cell"]:List Str)from(by decide+kernel)) rfl (Or.inl rfl))) (q1g (by decide)) (λ_ _ _ _ _=>q1w) (λ_ _ _ _ _=>(q0g G_y38 hr.m (by rfl) T.mg_y38 T.F_y38.kp T.B_y38 .nil q1e (q00 (pv 0) q06)))) (q09 (q0s (q0x (q1x (K:=K) rfl) (pv 3) (q2c (sc:=q04 q99) (N0:=w19) rfl rfl rfl (show q1j _ _ ["_law_y"] 1 [] _=true by decide+kernel) (q24 (K:=K) rfl (q0g G_y31 hr.m (by rfl) T.mg_y31 T.F_y31.kp T.B_y31 .nil q1e (q00 (pv 2) (q00 (q0x q62 (pv 1) (q1d (q1o (K:=K) rfl) (by rfl) T.z_len (by rfl) (q00 (pv 3) q06))) q06)))) (λ_ _ _ _ _=>(q0r (i:=0) (show List.Nodup (["_law_y"]:List Str)from(by decide+kernel)) rfl (Or.inl rfl))) (q1g (by decide)) (λ_ _ _ _ _=>q1w) (λ_ _ _ _ _=>(q0g G_y38 hr.m (by rfl) T.mg_y38 T.F_y38.kp T.B_y38 .nil q1e (q00 (pv 0) q06)))))))),?_⟩;exact q0t (O':=[]) (Nms:=w19) (f:=qhn) (by unfold qhn;exact(q0h (O1:=[]) (q68 (q1p (bw:=none) (q34 (q4v (q03 (i:=0)) q9p (q4g (q03 (i:=1))))) (q0u (i:=0)) q33 (q0o qon (q01 (q03 (i:=0)) q08))) rfl (by decide)) (q7p rfl (qrx qni (q03 (i:=3)) (q1h (q1p (bw:=none) (q34 (q1h (q2s qgk (q01 (q03 (i:=2)) (q01 (q0c q64 (q03 (i:=1)) (q1b q35 q2a)) q08))))) (q0u (i:=0)) q33 (q0o qon (q01 (q03 (i:=0)) q08))))) rfl))) h
abbrev w1y:=(mZip (q02 (mVar 2) (q02 (mOf (q2b f_y36 (q02 (mVar 0) (q02 (mVar 1) mNil)))) mNil)))
def qc3:Fd:=
 (q78 3 (q2p 2 (q11 (gSet 4) (q11 (gSet 5) q2y))) w1y
   (q2t 3 (mVar 5) (q02 (mVar 4) mNil)))
def qbv:RhL:=(q2k (q02 w12 mNil))
def q8s:List D->Option (List (List D)):=q7m 3 6 3 qbv qc3
def f_y40:List D->Option D:=λds=>q4y (q8s ds)
theorem qrf:q1f 3 f_y40:=qd8
theorem qk6(T:Txt K mg a):FnOk P w K mg base CX0 3 a.f_y40 a.fd_y40 w0e (spD K 3 q8s):=by
 have G_y35:=@qdr P w K mg base a T;have G_y36:=@qij P w K mg base a T;refine T.F_y40.ok sc_y40 (λvs H Q E h=>h.1) (λcdv A outer s H vs Q E hr h=>?_);refine⟨_,(q07 (q4e (k:=3) (sc:=q04 qbc) (N0:=w11) rfl rfl rfl (show q1j _ _ ["_law_number"] 1 [] _=true by decide+kernel) sc_y40.nd rfl (Or.inl rfl) (q1m (by rfl) T.z_range (q00 (q0g G_y35 hr.m (by rfl) T.mg_y35 T.F_y35.kp T.B_y35 .nil q1e (q00 (pv 0) (q00 (pv 1) q06))) q06)) (λ_ _ _ _ _=>(q0r (i:=0) (show List.Nodup (["_law_number"]:List Str)from(by decide+kernel)) rfl (Or.inl rfl))) (q1g (by decide)) (λ_ _ _ _ _=>q1w) (λ_ _ _ _ _=>(q2l q06))) (q07 (q3a xj rfl (q54 (K:=K) rfl (by rfl) T.z_zip (q00 (pv 2) (q00 (q0g G_y36 hr.m (by rfl) T.mg_y36 T.F_y36.kp T.B_y36 .nil q1e (q00 (pv 0) (q00 (pv 1) q06))) q06))) (q3v (K:=K) rfl rfl (q1s (zgA 4 sc_y40.nd) (q1s (zgA 5 sc_y40.nd) q3u))) (q09 (q2o (q61 PySem.F.plainAttrs_list PySem.F.slot_list_append PySem.F.type_list_append q2i (q0w (q0a (K:=K) rfl) (pv 3) (pv 5)) (q00 (pv 4) q06))))) (q09 (q0s (pv 3))))),?_⟩;exact q86 (Nms:=w11) (i:=3) (m:=1) (js:=[]) (fi:=qbv) (f:=qc3) (by
  unfold qbv;exact(q1u (q01 (q0o qkc (q01 (q03 (i:=0)) (q01 (q03 (i:=1)) q08))) q08))) (by
  unfold qc3;exact(qak (q74 (q01 (q03 (i:=2)) (q01 (q1h (q2s qoo (q01 (q03 (i:=0)) (q01 (q03 (i:=1)) q08)))) q08))) (q5c (q1t (q0u (i:=4)) (q1t (q0u (i:=5)) q3x))) (by decide) (q73 (q03 (i:=5)) (q01 (q03 (i:=4)) q08)))) h
theorem qnr(T:Txt K mg a):FnOk P w K mg base CX0 3 a.f_y40 a.fd_y40 w0e (spP K false 3 f_y40):=(qk6 T).imp λ_ _ _ _ h=>qmh h
def qfa:RhO:=
 (sSeq (sAsg (q0l f_y33 w2t) (q2p 2 (q11 (gSet 6) (q11 (gSet 7) q2y))))
 (sSeq (sIf (q0d (mOp2 dIsN (mOp2 dIx (mVar 5) (mVar 6)) (mRet .non)))
   (sRet (mRet .non))
   sNil)
 (sRet (mOp2 dAdd (mOp2 dIx (mVar 5) (mVar 6)) (mOp1 dSum (mOf (q1n 2 [] none (mZip (q02 (mVar 2) (q02 (mOf (q2b f_y34 (q02 (mVar 0) (q02 (mVar 1) (q02 (mVar 7) mNil))))) mNil))) (q2p 2 (q11 (gSet 0) (q11 (gSet 1) q2y))) (mRet true) (q0l f_y37 (q02 (mVar 0) (q02 (mVar 1) mNil))))))))))
def f_y41:List D->Option D:=runP false 6 8 qfa
theorem qre:q1f 6 f_y41:=q1a
abbrev w2n:List Str:=["_law_one","_law_sign_here"]
theorem qnq(T:Txt K mg a):FnOk P w K mg base CX0 2 a.f_y41 a.fd_y41 w14 (spP K false 6 f_y41):=by
 have G_y33:=@qnx P w K mg base a T;have G_y34:=@qnw P w K mg base a T;have G_y37:=@qnv P w K mg base a T;refine T.F_y41.ok sc_y41 (λ_ _ _ _ h=>h.1) (λcdv A outer s H vs Q E hr h=>?_)
 ·refine⟨_,(q07 (qn8 (q0g G_y33 hr.m (by rfl) T.mg_y33 T.F_y33.kp T.B_y33 .nil q1e (q00 (pv 0) (q00 (pv 3) (q00 (pv 4) q06)))) (q3v (K:=K) rfl rfl (q1s (zgA 6 sc_y41.nd) (q1s (zgA 7 sc_y41.nd) q3u)))) (q07 (q31 (q0y qii (q0w (q0a (K:=K) rfl) (pv 5) (pv 6)) q3w (q16 _)) (q09 (q0s q3w)) q1i) (q09 (q0s (q0x (q1x (K:=K) rfl) (q0w (q0a (K:=K) rfl) (pv 5) (pv 6)) (q1d (q7z (K:=K) rfl rfl) (by rfl) T.z_sum (by rfl) (q00 (q2c (sc:=q04 qbb) (N0:=w0q) rfl rfl rfl (show q1j _ _ w2n 2 [] _=true by decide+kernel) (q54 (K:=K) rfl (by rfl) T.z_zip (q00 (pv 2) (q00 (q0g G_y34 hr.m (by rfl) T.mg_y34 T.F_y34.kp T.B_y34 .nil q1e (q00 (pv 0) (q00 (pv 1) (q00 (pv 7) q06)))) q06))) (λ_ _ _ _ _=>(q3v (K:=K) rfl rfl (q1s (q0r (i:=0) (show List.Nodup (w2n:List Str)from(by decide+kernel)) rfl (Or.inl rfl)) (q1s (q0r (i:=1) (show List.Nodup (w2n:List Str)from(by decide+kernel)) rfl (Or.inl rfl)) q3u)))) (q5m (by decide) (by decide)) (λ_ _ _ _ _=>q1w) (λ_ _ _ _ _=>(q0g G_y37 hr.m (by rfl) T.mg_y37 T.F_y37.kp T.B_y37 .nil q1e (q00 (pv 0) (q00 (pv 1) q06))))) q06))))))),?_⟩;exact q0t (O':=[]) (Nms:=w0q) (f:=qfa) (by unfold qfa;exact(q0h (O1:=[]) (qov (q0o qrj (q01 (q03 (i:=0)) (q01 (q03 (i:=3)) (q01 (q03 (i:=4)) q08)))) rfl (q5c (q1t (q0u (i:=6)) (q1t (q0u (i:=7)) q3x)))) (q0h (O1:=[]) (q3g (q0v (q14 qid (q0c q10 (q03 (i:=5)) (q03 (i:=6))) me_non.mb)) (q13 rfl me_non rfl) (q2e rfl)) (q13 rfl (q0c q2m (q0c q10 (q03 (i:=5)) (q03 (i:=6))) (q1b qf1 (q1h (q1p (bw:=none) (q74 (q01 (q03 (i:=2)) (q01 (q1h (q2s qri (q01 (q03 (i:=0)) (q01 (q03 (i:=1)) (q01 (q03 (i:=7)) q08))))) q08))) (q5c (q1t (q0u (i:=0)) (q1t (q0u (i:=1)) q3x))) q33 (q0o qrh (q01 (q03 (i:=0)) (q01 (q03 (i:=1)) q08))))).mb)) rfl)))) h
abbrev w1j:=(q0d (mOp2 dNe (mOp2 dIx (mVar 2) (mVar 3)) (mVar 4)))
abbrev w00:=(sIf (mOr w2d (q0d (mOp2 dEq (mVar 3) (mOp2 dIx (mOf (mLst (q02 (mRet (.int 0)) (q02 (mVar 1) mNil)))) (mOp1 dInt w2j))))) (sSet 4 (mRet (.int 0))) sNil)
abbrev w1w:=(sSeq (sSet 4 (mRet .non)) (sSeq w00 (sIf w1j (sRet (mRet (.bl false))) sNil)))
def qhm:RhO:=
 (sSeq (sFor (q2k (q02 (mOp2 dShl (mRet (.int 1)) (mOp2 dIx (mVar 0) (mRet (.int 0)))) mNil)) (gSet 3)
   w1w)
 (sRet (mRet (.bl true))))
def f_y42:List D->Option D:=runP false 3 5 qhm
theorem qrd:q1f 3 f_y42:=q1a
theorem qnp(T:Txt K mg a):FnOk P w K mg base CX0 1 a.f_y42 a.fd_y42 w1x (spP K false 3 f_y42):=by
 refine T.F_y42.ok sc_y42 (λ_ _ _ _ h=>h.1) (λcdv A outer s H vs Q E hr h=>?_)
 ·refine⟨_,(q07 (q3a xj rfl (q1m (by rfl) T.z_range (q00 (q0x q63 q05 (q0w (q0a (K:=K) rfl) (pv 0) q05)) q06)) (zgA 3 sc_y42.nd) (q07 (zsA 4 sc_y42.nd q3w) (q07 (q31 (PW.pt (pw_or (q0y (q26 (K:=K) rfl hr.units) (q0w (q0a (K:=K) rfl) (pv 0) q05) q29 (q16 _)) (pw_or1 (q0y (q26 (K:=K) rfl hr.units) (pv 3) (q0w (q0a (K:=K) rfl) (q2l (q00 q05 (q00 (pv 1) q06))) (q25 q51 (by rfl) T.z_int (by rfl) (q00 (q60 (q26 (K:=K) rfl hr.units) (q0w (q0a (K:=K) rfl) (pv 0) q05) q29 (q16 _)) q06))) (q16 _))))) (q09 (zsA 4 sc_y42.nd q05)) q1i) (q09 (q31 (q0y (q4t (K:=K) rfl hr.units) (q0w (q0a (K:=K) rfl) (pv 2) (pv 3)) (pv 4) (q16 _)) (q09 (q0s q4s)) q1i))))) (q09 (q0s q4s))),?_⟩;exact q0t (O':=[]) (Nms:=w2h) (f:=qhm) (by unfold qhm;exact(q0h (O1:=[]) (q3s (O':=[]) (q1u (q01 (q0c q65 me_int (q0c q10 (q03 (i:=0)) me_int)) q08)) rfl (q0u (i:=3)) (q0h (O1:=[]) (q19 me_non) (q0h (O1:=[]) (q3g (q9m (q0v (q14 os_eq (q0c q10 (q03 (i:=0)) me_int) me_str.mb)) (q0v (q14 os_eq (q03 (i:=3)) (q0c q10 (q1h (q2v (q01 me_int (q01 (q03 (i:=1)) q08)))) (q1b qay (q14 os_eq (q0c q10 (q03 (i:=0)) me_int) me_str.mb).mb)).mb))) (q19 me_int) (q2e rfl)) (q3g (q0v (q14 q6r (q0c q10 (q03 (i:=2)) (q03 (i:=3))) q2a)) (q13 rfl q6c rfl) (q2e rfl))))) (q13 rfl q6c rfl))) h
abbrev w1n:=(mNot (q0d (mOp1 (dIsi (q3i "list")) (mVar 3))))
abbrev w1q:=(mAnd (q0d (mOp2 q43 (mVar 4) (mRet .non))) (mOr (mNot (q0d (mOp1 (dIsi (q3i "int")) (mVar 4)))) (q0d (mOp1 (dIsi (q3i "bool")) (mVar 4)))))
abbrev w05:=(sIf w1q (sRet (mRet (.bl false))) sNil)
abbrev w1r:=(mOr (mNot (q0d (mOp1 (dIsi (q3i "list")) (mVar 2)))) (q0d (mOp2 dNe (mOp1 dLen (mVar 2)) (mOp2 dAdd w12 (mRet (.int 1))))))
def qhl:RhO:=
 (sSeq (sIf w1r
   (sRet (mRet (.bl false)))
   sNil)
 (sSeq (sFor (mSeq (mVar 2)) (gSet 3)
   (sSeq (sIf (mOr w1n (q0d (mOp2 dNe (mOp1 dLen (mVar 3)) (mOp2 dShl (mRet (.int 1)) (mOp2 dIx (mVar 0) (mRet (.int 0)))))))
   (sRet (mRet (.bl false)))
   sNil) (sFor (mSeq (mVar 3)) (gSet 4)
   w05)))
 (sRet (mRet (.bl true)))))
def f_y43:List D->Option D:=runP false 3 5 qhl
theorem qrc:q1f 3 f_y43:=q1a
theorem qno(T:Txt K mg a):FnOk P w K mg base CX0 2 a.f_y43 a.fd_y43 w1v (spP K false 3 f_y43):=by
 have G_y35:=@qdr P w K mg base a T;refine T.F_y43.ok sc_y43 (λ_ _ _ _ h=>h.1) (λcdv A outer s H vs Q E hr h=>?_)
 ·refine⟨_,(q07 (q31 (PW.pt (pw_or (q6z (q4q (q1d (q5q (K:=K) rfl) (by rfl) T.z_isinstance (by rfl) (q00 (pv 2) (q00 (q7n (v:=.ty "list") (by rfl) T.z_list (by rfl) rfl) q06))))) (pw_or1 (q0y (q4t (K:=K) rfl hr.units) (q1d (q1o (K:=K) rfl) (by rfl) T.z_len (by rfl) (q00 (pv 2) q06)) (q0x (q1x (K:=K) rfl) (q0g G_y35 hr.m (by rfl) T.mg_y35 T.F_y35.kp T.B_y35 .nil q1e (q00 (pv 0) (q00 (pv 1) q06))) q05) (q16 _))))) (q09 (q0s q4s)) q1i) (q07 (q3a xj rfl (q24 (K:=K) rfl (pv 2)) (zgA 3 sc_y43.nd) (q07 (q31 (PW.pt (pw_or (q6z (q4q (q1d (q5q (K:=K) rfl) (by rfl) T.z_isinstance (by rfl) (q00 (pv 3) (q00 (q7n (v:=.ty "list") (by rfl) T.z_list (by rfl) rfl) q06))))) (pw_or1 (q0y (q4t (K:=K) rfl hr.units) (q1d (q1o (K:=K) rfl) (by rfl) T.z_len (by rfl) (q00 (pv 3) q06)) (q0x q63 q05 (q0w (q0a (K:=K) rfl) (pv 0) q05)) (q16 _))))) (q09 (q0s q4s)) q1i) (q09 (q3a xj rfl (q24 (K:=K) rfl (pv 3)) (zgA 4 sc_y43.nd) (q09 (q31 (PW.pt (pw_and (q0y q9j (pv 4) q3w (q16 _)) (pw_and1 (PW.pt (pw_or (q6z (q4q (q1d (q5q (K:=K) rfl) (by rfl) T.z_isinstance (by rfl) (q00 (pv 4) (q00 (q7n (v:=.ty "int") (by rfl) T.z_int (by rfl) rfl) q06))))) (pw_or1 (q4q (q1d (q5q (K:=K) rfl) (by rfl) T.z_isinstance (by rfl) (q00 (pv 4) (q00 (q7n (v:=.ty "bool") (by rfl) T.z_bool (by rfl) rfl) q06)))))))))) (q09 (q0s q4s)) q1i)))))) (q09 (q0s q4s)))),?_⟩;exact q0t (O':=[]) (Nms:=w2g) (f:=qhl) (by unfold qhl;exact(q0h (O1:=[]) (q3g (q9m (q71 (q46 (qan (qap T) q2a))) (q0v (q14 q6r (q1b q35 q2a) (q0c q2m (q0o qkc (q01 (q03 (i:=0)) (q01 (q03 (i:=1)) q08))) me_int).mb))) (q13 rfl q6c rfl) (q2e rfl)) (q0h (O1:=[]) (q3s (O':=[]) (q34 (q03 (i:=2))) rfl (q0u (i:=3)) (q0h (O1:=[]) (q3g (q9m (q71 (q46 (qan (qap T) q2a))) (q0v (q14 q6r (q1b q35 q2a) (q0c q65 me_int (q0c q10 (q03 (i:=0)) me_int)).mb))) (q13 rfl q6c rfl) (q2e rfl)) (q3s (O':=[]) (q34 (q03 (i:=3))) rfl (q0u (i:=4)) (q3g (q8n (q0v (q14 q9i (q03 (i:=4)) me_non.mb)) (q9m (q71 (q46 (qan (qks T) q2a))) (q46 (qan (qgy T) q2a)))) (q13 rfl q6c rfl) (q2e rfl))))) (q13 rfl q6c rfl)))) h
abbrev w17:=(q58 (mOp2 dAdd (mRet (.int 1)) (mOp1 dInt (mOp2 dLt (mVar 6) (mVar 1)))))
abbrev w0z:=(mOp2 dIx (mOp2 dIx (mVar 4) (mVar 6)) (mVar 8))
abbrev w0x:=(mOr (mNot (q0d (q0l f_y43 (q02 (mVar 0) (q02 (mVar 1) (q02 (mVar 4) mNil)))))) (mNot (q0d (q0l f_y42 (q02 (mVar 0) (q02 (mVar 3) (q02 (mOp2 dIx (mVar 4) (mOp1 dNeg (mRet (.int 1)))) mNil)))))))
abbrev w0g:=(mOf (q1n 1 [] none (mSeq (mVar 9)) (gSet 0) (q0d (mOp2 q43 (mVar 0) (mRet .non))) (mVar 0)))
abbrev w01:=(q02 (mVar 1) (q02 (mVar 2) (q02 (mOp2 dIx (mVar 4) (mVar 2)) (q02 (mVar 3) (q02 (mVar 0) (q02 (mOp2 dIx (mVar 5) (mOp2 dAdd (mVar 2) (mRet (.int 1)))) mNil))))))
abbrev w1t:=(sSet 7 (mSl (mOf (mLst w0b)) (mRet none) w17))
abbrev w1o:=(sSet 9 (mOf (q1n 1 [0,6,8,5,4] none (mSeq (mVar 7)) (gSet 0) (mRet true) (q0l f_y41 w01))))
def qln:RhO:=
 (sSeq (sIf w0x
   (sRet (mRet (.bl false)))
   sNil)
 (sSeq (sSet 5 (q0l f_y40 w07))
 (sSeq (sFor (q2k (q02 (mOp1 dLen (mVar 5)) mNil)) (gSet 6)
   (sSeq w1t (sFor (q2k (q02 (mOp2 dShl (mRet (.int 1)) (mOp2 dIx (mVar 0) (mRet (.int 0)))) mNil)) (gSet 8)
   (sSeq w1o (sIf (q0d (mOp2 dNe w0z (mOp1 q6m w0g)))
   (sRet (mRet (.bl false)))
   sNil)))))
 (sRet (mRet (.bl true))))))
def f_y44:List D->Option D:=runP false 5 10 qln
theorem qrb:q1f 5 f_y44:=q1a
abbrev w21:List Str:=["_law_bit","_law_scheme_here","_law_number","_law_room","_law_told","_law_table"]
theorem qnn(T:Txt K mg a):FnOk P w K mg base CX0 4 a.f_y44 a.fd_y44 w15 (spP K false 5 f_y44):=by
 have G_y42:=@qnp P w K mg base a T;have G_y43:=@qno P w K mg base a T;have G_y40:=@qnr P w K mg base a T;have G_y41:=@qnq P w K mg base a T;refine T.F_y44.ok sc_y44 (λ_ _ _ _ h=>h.1) (λcdv A outer s H vs Q E hr h=>?_)
 ·refine⟨_,(q07 (q31 (PW.pt (pw_or (q6z (q4q (q0g G_y43 hr.m (by rfl) T.mg_y43 T.F_y43.kp T.B_y43 .nil q1e (q00 (pv 0) (q00 (pv 1) (q00 (pv 4) q06)))))) (pw_or1 (q6z (q4q (q0g G_y42 hr.m (by rfl) T.mg_y42 T.F_y42.kp T.B_y42 .nil q1e (q00 (pv 0) (q00 (pv 3) (q00 (q0w (q0a (K:=K) rfl) (pv 4) (qju qcb q05)) q06))))))))) (q09 (q0s q4s)) q1i) (q07 (zsA 5 sc_y44.nd (q0g G_y40 hr.m (by rfl) T.mg_y40 T.F_y40.kp T.B_y40 .nil q1e (q00 (pv 0) (q00 (pv 1) (q00 (pv 2) q06))))) (q07 (q3a xj rfl (q1m (by rfl) T.z_range (q00 (q1d (q1o (K:=K) rfl) (by rfl) T.z_len (by rfl) (q00 (pv 5) q06)) q06)) (zgA 6 sc_y44.nd) (q07 (zsA 7 sc_y44.nd (q4r (q5w (K:=K) rfl) (q2l (q00 q05 (q00 q05 q06))) q9e (q4f (q0x (q1x (K:=K) rfl) q05 (q25 q51 (by rfl) T.z_int (by rfl) (q00 (q60 q9k (pv 6) (pv 1) (q16 _)) q06)))))) (q09 (q3a xj rfl (q1m (by rfl) T.z_range (q00 (q0x q63 q05 (q0w (q0a (K:=K) rfl) (pv 0) q05)) q06)) (zgA 8 sc_y44.nd) (q07 (q4e (k:=9) (sc:=q04 q98) (N0:=w0a) rfl rfl rfl (show q1j _ _ w21 1 [0,6,8,5,4] _=true by decide+kernel) sc_y44.nd rfl (Or.inl rfl) (q24 (K:=K) rfl (pv 7)) (λ_ _ _ _ _=>(q0r (i:=0) (show List.Nodup (w21:List Str)from(by decide+kernel)) rfl (Or.inl rfl))) (q1g (by decide)) (λ_ _ _ _ _=>q1w) (λ_ _ _ _ _=>(q0g G_y41 hr.m (by rfl) T.mg_y41 T.F_y41.kp T.B_y41 .nil q1e (q00 (pv 1) (q00 (pv 2) (q00 (q0w (q0a (K:=K) rfl) (pv 4) (pv 2)) (q00 (pv 3) (q00 (pv 0) (q00 (q0w (q0a (K:=K) rfl) (pv 5) (q0x (q1x (K:=K) rfl) (pv 2) q05)) q06))))))))) (q09 (q31 (q0y (q4t (K:=K) rfl hr.units) (q0w (q0a (K:=K) rfl) (q0w (q0a (K:=K) rfl) (pv 4) (pv 6)) (pv 8)) (qdj (K:=K) rfl rfl (by rfl) T.z_min (q2c (sc:=q04 q98) (N0:=w0a) rfl rfl rfl (show q1j _ _ ["_law_way_here"] 1 [] _=true by decide+kernel) (q24 (K:=K) rfl (pv 9)) (λ_ _ _ _ _=>(q0r (i:=0) (show List.Nodup (["_law_way_here"]:List Str)from(by decide+kernel)) rfl (Or.inl rfl))) (q1g (by decide)) (λ_ _ _ _ _=>(q5z (q0y q9j (pv 0) q3w (q16 _)))) (λ_ _ _ _ _=>(pv 0))) q3w) (q16 _)) (q09 (q0s q4s)) q1i))))))) (q09 (q0s q4s))))),?_⟩;exact q0t (O':=[]) (Nms:=w0a) (f:=qln) (by unfold qln;exact(q0h (O1:=[]) (q3g (q9m (q71 (q46 (q0o qrc (q01 (q03 (i:=0)) (q01 (q03 (i:=1)) (q01 (q03 (i:=4)) q08)))))) (q71 (q46 (q0o qrd (q01 (q03 (i:=0)) (q01 (q03 (i:=3)) (q01 (q0c q10 (q03 (i:=4)) (qiw me_int)) q08))))))) (q13 rfl q6c rfl) (q2e rfl)) (q0h (O1:=[]) (q19 (q0o qrf (q01 (q03 (i:=0)) (q01 (q03 (i:=1)) (q01 (q03 (i:=2)) q08))))) (q0h (O1:=[]) (q3s (O':=[]) (q1u (q01 (q1b q35 q2a) q08)) rfl (q0u (i:=6)) (q0h (O1:=[]) (q19 (q4v (q1h (q2v (q01 me_int (q01 me_int q08)))) q9p (q4g (q0c q2m me_int (q1b qay (q14 q7o (q03 (i:=6)) q2a).mb))))) (q3s (O':=[]) (q1u (q01 (q0c q65 me_int (q0c q10 (q03 (i:=0)) me_int)) q08)) rfl (q0u (i:=8)) (q0h (O1:=[]) (q68 (q1p (bw:=none) (q34 (q03 (i:=7))) (q0u (i:=0)) q33 (q0o qre (q01 (q03 (i:=1)) (q01 (q03 (i:=2)) (q01 (q0c q10 (q03 (i:=4)) (q03 (i:=2))) (q01 (q03 (i:=3)) (q01 (q03 (i:=0)) (q01 (q0c q10 (q03 (i:=5)) (q0c q2m (q03 (i:=2)) me_int)) q08)))))))) rfl (by decide)) (q3g (q0v (q14 q6r (q0c q10 (q0c q10 (q03 (i:=4)) (q03 (i:=6))) (q03 (i:=8))) (qe5 (q1h (q1p (bw:=none) (q34 (q03 (i:=9))) (q0u (i:=0)) (q0v (q14 q9i (q03 (i:=0)) me_non.mb)) (q03 (i:=0)))).mb).mb)) (q13 rfl q6c rfl) (q2e rfl)))))) (q13 rfl q6c rfl))))) h
abbrev w0r:=(q02 (mVar 0) (q02 (mVar 1) (q02 (mVar 2) (q02 (mRet (.int 0)) mNil))))
def qhk:RhO:=
 (sSeq (sSet 3 (mRet (.bl false)))
 (sSeq (sTry (λx=>tk_NoWord.contains x) (q6q (q0l f_y29 w0r)) (q7f q6j w0r xNo)
   (sSet 3 (mRet (.bl true))))
 (sRet (mVar 3))))
def f_y45:List D->Option D:=runP false 3 4 qhk
theorem qra:q1f 3 f_y45:=q1a
theorem qnm(T:Txt K mg a):FnOk P w K mg base CX0 8 a.f_y45 a.fd_y45 w0e (spP K false 3 f_y45):=by
 have G_y29:=@qik P w K mg base a T;obtain⟨td_y29,Bd_y29⟩:=T.Bd_y29;refine T.F_y45.ok sc_y45 (λ_ _ _ _ h=>h.1) (λcdv A outer s H vs Q E hr h=>?_)
 ·refine⟨_,(q07 (zsA 3 sc_y45.nd q4s) (q07 (qn7 rfl rfl (by rfl) T.mg_NoWord (λxe z6 σ E hp=>(qqc (qlv (qlw G_y29 hr.m (by rfl) T.mg_y29 T.F_y29.kp Bd_y29 (qi4 0 td_y29) hp (q00 (pv 0) (q00 (pv 1) (q00 (pv 2) q06))))))) (λea=>(q09 (zsA 3 sc_y45.nd q4s)))) (q09 (q0s (pv 3))))),?_⟩;exact q0t (O':=[]) (Nms:=w2f) (f:=qhk) (by unfold qhk;exact(q0h (O1:=[]) (q19 q6c) (q0h (O1:=[]) (qou (qei T) (λE=>(q6a (by have h:=q2f (K:=K) (O:=[]) (E:=E) (fx:=q6j) (fs:=w0r) qrm (q01 (q03 (i:=0)) (q01 (q03 (i:=1)) (q01 (q03 (i:=2)) (q01 me_int q08))));exact h) rfl)) (λE=>(q66 (by have h:=q56 (K:=K) (O:=[]) (E:=E) (fr:=false) (f:=f_y29) (fs:=w0r) qoj (q01 (q03 (i:=0)) (q01 (q03 (i:=1)) (q01 (q03 (i:=2)) (q01 me_int q08)))) q5d;exact h))) (q19 q6c)) (q13 rfl (q03 (i:=3)) rfl)))) h
abbrev w1g:=(sSet 1 (mOf (q2b f_y31 (q02 (q0l f_y30 (q02 (mVar 0) (q02 (mRet (.int 0)) mNil))) (q02 (mRet (.int 6)) mNil)))))
abbrev w1b:=(sRet (q0l f_y45 (q02 (mVar 2) (q02 (mVar 3) (q02 (mVar 4) mNil)))))
abbrev w18:=(q02 (mVar 2) (q02 (mVar 3) (q02 (mVar 6) (q02 (mRet (.int 0)) mNil))))
abbrev w0u:=(sSet 4 (mOf (q2b f_y39 (q02 (mSl (mVar 0) (q58 (mRet (.int 1))) (mRet none)) (q02 (mOp1 dLen (mOf (q2b f_y36 (q02 (mVar 2) (q02 (mVar 3) mNil))))) (q02 (mOp2 dIx (mVar 1) (mRet (.int 3))) mNil))))))
abbrev w0l:=(q0d (mOp2 dEq (mOp2 dMod (mOp2 dDiv (mOp2 dIx (mVar 1) (mRet (.int 5))) (mRet (.int 2))) (mRet (.int 2))) (mRet (.int 0))))
abbrev w0k:=(q02 (mVar 2) (q02 (mVar 3) (q02 (mVar 6) (q02 (mVar 5) mNil))))
abbrev w0j:=(sSet 2 (q0l f_y32 (q02 (mOp2 dIx (mVar 1) (mRet (.int 0))) (q02 (mOp2 dIx (mOf (mLst (q02 (mRet (.int 3)) (q02 (mRet (.int 4)) mNil)))) (mOp1 dInt (mOp2 dEq (mOp2 dMod (mOp2 dIx (mVar 1) (mRet (.int 1))) (mRet (.int 8))) (mRet (.int 0))))) mNil))))
abbrev w09:=(mAnd (q0d (mOp2 dEq (mOp2 dMod (mOp2 dIx (mVar 1) (mRet (.int 5))) (mRet (.int 2))) (mRet (.int 0)))) (mOr (q0d (mOp2 dEq (mVar 5) (mRet (.int 0)))) (q0d (mOp2 dNe (mOp2 dIx (mVar 2) (mRet (.int 3))) (mRet (.str "ring"))))))
abbrev w04:=(mAnd (q0d (mOp2 dEq (mOp2 dIx (mVar 2) (mRet (.int 3))) (mRet (.str "ring")))) (q0d (mOp2 dLt (mVar 3) (mOp2 dIx (mVar 2) (mRet (.int 0))))))
abbrev w03:=(mOr (mNot (q0d (q0l f_y44 (q02 (mVar 2) (q02 (mVar 3) (q02 (mVar 4) (q02 (mVar 5) (q02 (mVar 7) mNil)))))))) (q0d (mOp2 dNe (mVar 6) (mVar 4))))
abbrev w2c:=(sSet 3 (mOp2 dMod (mOp2 dIx (mVar 1) (mRet (.int 2))) (mRet (.int 13))))
def qls:RhO:=
 (sSeq w1g
 (sSeq w0j
 (sSeq w2c
 (sSeq w0u
 (sSeq (sIf w04
   w1b
   sNil)
 (sSeq (sSet 5 (mOp2 dMod (mOp2 dIx (mVar 1) (mRet (.int 4))) (mOp2 dShl (mRet (.int 1)) (mOp2 dIx (mVar 2) (mRet (.int 0))))))
 (sSeq (sSet 6 (mOf (qea dSeq (mVar 4))))
 (q5x 7 8 9 w09 w0l w18 w0k w0k q79 w03))))))))
def f_law:List D->Option D:=runP false 1 10 qls
theorem qoe(T:Txt K mg a):FnOk P w K mg base CX0 9 a.f_law a.fd_law ["_law_script"] (spP K false 1 f_law):=by
 have G_y30:=@qnz P w K mg base a T;have G_y31:=@qag P w K mg base a T;have G_y32:=@qny P w K mg base a T;have G_y36:=@qij P w K mg base a T;have G_y39:=@qnt P w K mg base a T;have G_y45:=@qnm P w K mg base a T;have G_y29:=@qik P w K mg base a T;have G_y44:=@qnn P w K mg base a T;have GD_y29:=@qk7 P w K mg base a T;obtain⟨td_y29,Bd_y29⟩:=T.Bd_y29;refine T.F_law.ok sc_law (λ_ _ _ _ h=>h.1) (λcdv A outer s H vs Q E hr h=>?_)
 ·refine⟨_,(q07 (zsA 1 sc_law.nd (q0g G_y31 hr.m (by rfl) T.mg_y31 T.F_y31.kp T.B_y31 .nil q1e (q00 (q0g G_y30 hr.m (by rfl) T.mg_y30 T.F_y30.kp T.B_y30 .nil q1e (q00 (pv 0) (q00 q05 q06))) (q00 q05 q06)))) (q07 (zsA 2 sc_law.nd (q0g G_y32 hr.m (by rfl) T.mg_y32 T.F_y32.kp T.B_y32 .nil q1e (q00 (q0w (q0a (K:=K) rfl) (pv 1) q05) (q00 (q0w (q0a (K:=K) rfl) (q2l (q00 q05 (q00 q05 q06))) (q25 q51 (by rfl) T.z_int (by rfl) (q00 (q60 (q26 (K:=K) rfl hr.units) (q0x q22 (q0w (q0a (K:=K) rfl) (pv 1) q05) q05) q05 (q16 _)) q06))) q06)))) (q07 (zsA 3 sc_law.nd (q0x q22 (q0w (q0a (K:=K) rfl) (pv 1) q05) q05)) (q07 (zsA 4 sc_law.nd (q0g G_y39 hr.m (by rfl) T.mg_y39 T.F_y39.kp T.B_y39 .nil q1e (q00 (q4r (q5w (K:=K) rfl) (pv 0) (q4f q05) q9e) (q00 (q1d (q1o (K:=K) rfl) (by rfl) T.z_len (by rfl) (q00 (q0g G_y36 hr.m (by rfl) T.mg_y36 T.F_y36.kp T.B_y36 .nil q1e (q00 (pv 2) (q00 (pv 3) q06))) q06)) (q00 (q0w (q0a (K:=K) rfl) (pv 1) q05) q06))))) (q07 (q31 (PW.pt (pw_and (q0y (q26 (K:=K) rfl hr.units) (q0w (q0a (K:=K) rfl) (pv 2) q05) q29 (q16 _)) (pw_and1 (q0y q9k (pv 3) (q0w (q0a (K:=K) rfl) (pv 2) q05) (q16 _))))) (q09 (q0s (q0g G_y45 hr.m (by rfl) T.mg_y45 T.F_y45.kp T.B_y45 .nil q1e (q00 (pv 2) (q00 (pv 3) (q00 (pv 4) q06)))))) q1i) (q07 (zsA 5 sc_law.nd (q0x q22 (q0w (q0a (K:=K) rfl) (pv 1) q05) (q0x q63 q05 (q0w (q0a (K:=K) rfl) (pv 2) q05)))) (q07 (zsA 6 sc_law.nd (q25 (q7d (K:=K) rfl) (by rfl) T.z_list (by rfl) (q00 (pv 4) q06))) (q07 (q31 (PW.pt (pw_and (q0y (q26 (K:=K) rfl hr.units) (q0x q22 (q0w (q0a (K:=K) rfl) (pv 1) q05) q05) q05 (q16 _)) (pw_and1 (PW.pt (pw_or (q0y (q26 (K:=K) rfl hr.units) (pv 5) q05 (q16 _)) (pw_or1 (q0y (q4t (K:=K) rfl hr.units) (q0w (q0a (K:=K) rfl) (pv 2) q05) q29 (q16 _)))))))) (q09 (zsA 7 sc_law.nd (q0g GD_y29 hr.m (by rfl) T.mg_y29 T.F_y29.kp Bd_y29 (qi4 0 td_y29) qbp (q00 (pv 2) (q00 (pv 3) (q00 (pv 6) q06)))))) (q09 (q31 (q0y (q26 (K:=K) rfl hr.units) (q0x q22 (q0x q9l (q0w (q0a (K:=K) rfl) (pv 1) q05) q05) q05) q05 (q16 _)) (q09 (zsA 7 sc_law.nd (qgc GD_y29 hr.m (by rfl) T.mg_y29 T.F_y29.kp T.Bk_y29 qbp (q00 (pv 2) (q00 (pv 3) (q00 (pv 6) q06))) (qjq (pv 5) qna)))) (q09 (zsA 7 sc_law.nd (q0g GD_y29 hr.m (by rfl) T.mg_y29 T.F_y29.kp T.B_y29 .nil qbp (q00 (pv 2) (q00 (pv 3) (q00 (pv 6) (q00 (pv 5) q06)))))))))) (q07 (q31 (PW.pt (pw_or (q6z (q4q (q0g G_y44 hr.m (by rfl) T.mg_y44 T.F_y44.kp T.B_y44 .nil q1e (q00 (pv 2) (q00 (pv 3) (q00 (pv 4) (q00 (pv 5) (q00 (pv 7) q06)))))))) (pw_or1 (q0y (q4t (K:=K) rfl hr.units) (pv 6) (pv 4) (q16 _))))) (q09 (q0s q4s)) q1i) (q07 (q4e (k:=8) (sc:=q04 qbl) (N0:=w0h) rfl rfl rfl (show q1j _ _ ["_law_row"] 1 [] _=true by decide+kernel) sc_law.nd rfl (Or.inl rfl) (q24 (K:=K) rfl (pv 7)) (λ_ _ _ _ _=>(q0r (i:=0) (show List.Nodup (["_law_row"]:List Str)from(by decide+kernel)) rfl (Or.inl rfl))) (q1g (by decide)) (λ_ _ _ _ _=>q1w) (λ_ _ _ _ _=>(q25 (q7d (K:=K) rfl) (by rfl) T.z_list (by rfl) (q00 (pv 0) q06)))) (q07 (q3a xj rfl (q1m (by rfl) T.z_range (q00 (q1d (q1o (K:=K) rfl) (by rfl) T.z_len (by rfl) (q00 (pv 7) q06)) q06)) (zgA 9 sc_law.nd) (q07 (q2o (q61 PySem.F.plainAttrs_list PySem.F.slot_list_append PySem.F.type_list_append q2i (q0w (q0a (K:=K) rfl) (pv 7) (pv 9)) (q00 q05 q06))) (q07 (q2o (q61 PySem.F.plainAttrs_list PySem.F.slot_list_append PySem.F.type_list_append q2i (q0w (q0a (K:=K) rfl) (pv 8) (pv 9)) (q00 q05 q06))) (q09 (q31 (q0y (q4t (K:=K) rfl hr.units) (pv 7) (pv 8) (q16 _)) (q09 (q0s q4s)) q1i))))) (q09 (q0s q4s))))))))))))),?_⟩;exact q0t (O':=[]) (Nms:=w0h) (f:=qls) (by unfold qls;exact(q0h (O1:=[]) (q19 (q1h (q2s qgk (q01 (q0o qrl (q01 (q03 (i:=0)) (q01 me_int q08))) (q01 me_int q08))))) (q0h (O1:=[]) (q19 (q0o qrk (q01 (q0c q10 (q03 (i:=1)) me_int) (q01 (q0c q10 (q1h (q2v (q01 me_int (q01 me_int q08)))) (q1b qay (q14 os_eq (q0c q23 (q0c q10 (q03 (i:=1)) me_int) me_int) me_int.mb).mb)) q08)))) (q0h (O1:=[]) (q19 (q0c q23 (q0c q10 (q03 (i:=1)) me_int) me_int)) (q0h (O1:=[]) (q19 (q1h (q2s qrg (q01 (q4v (q03 (i:=0)) (q4g me_int) q9p) (q01 (q1b q35 (q1h (q2s qoo (q01 (q03 (i:=2)) (q01 (q03 (i:=3)) q08)))).mb) (q01 (q0c q10 (q03 (i:=1)) me_int) q08)))))) (q0h (O1:=[]) (q3g (q8n (q0v (q14 os_eq (q0c q10 (q03 (i:=2)) me_int) me_str.mb)) (q0v (q14 q7o (q03 (i:=3)) (q0c q10 (q03 (i:=2)) me_int).mb))) (q13 rfl (q0o qra (q01 (q03 (i:=2)) (q01 (q03 (i:=3)) (q01 (q03 (i:=4)) q08)))) rfl) (q2e rfl)) (q0h (O1:=[]) (q19 (q0c q23 (q0c q10 (q03 (i:=1)) me_int) (q0c q65 me_int (q0c q10 (q03 (i:=2)) me_int)))) (q0h (O1:=[]) (q19 (q1h (qgr qli (q03 (i:=4))))) (qdz qos (q8n (q0v (q14 os_eq (q0c q23 (q0c q10 (q03 (i:=1)) me_int) me_int) me_int.mb)) (q9m (q0v (q14 os_eq (q03 (i:=5)) me_int.mb)) (q0v (q14 q6r (q0c q10 (q03 (i:=2)) me_int) me_str.mb)))) (q0v (q14 os_eq (q0c q23 (q0c qdv (q0c q10 (q03 (i:=1)) me_int) me_int) me_int) me_int.mb)) (q01 (q03 (i:=2)) (q01 (q03 (i:=3)) (q01 (q03 (i:=6)) (q01 me_int q08)))) (q01 (q03 (i:=2)) (q01 (q03 (i:=3)) (q01 (q03 (i:=6)) (q01 (q03 (i:=5)) q08)))) (q01 (q03 (i:=2)) (q01 (q03 (i:=3)) (q01 (q03 (i:=6)) (q01 (q03 (i:=5)) q08)))) (by decide) (by decide) (by decide) (q9m (q71 (q46 (q0o qrb (q01 (q03 (i:=2)) (q01 (q03 (i:=3)) (q01 (q03 (i:=4)) (q01 (q03 (i:=5)) (q01 (q03 (i:=7)) q08)))))))) (q0v (q14 q6r (q03 (i:=6)) q2a))) (q0v (q14 q6r (q03 (i:=7)) q2a)) qkb rfl rfl rfl))))))))) h
end
section
variable{r:Int}{taps:List Int}{rows:List (List Int)}{e:Str}
theorem p_y1(ok:q28 r taps rows e):f_y1 [schD r taps rows e]=some (.int (2^r.toNat)):=by
 have r0:=ok.r0;have r4:=ok.r4;have r6:r<=1000000:=by omega
 have hr:f_y0 [.int r]=some (.int (2^r.toNat)):=by unfold f_y0 b_y0;clear ok;walk_at "ev"
 unfold f_y1 b_y1 schD;clear ok;walk_at "ev"
theorem qdn(n:D):∀(f j7:Nat) (l o:Int),0<=l->l.toNat<2^f->(o=0∨o=1)->f<j7->∃l':Int,q2r w24
 w0n j7 [some n,some (.int l),some (.int o)]=some (.nx [some n,some (.int l'),some (.int ((o+(parF f l.toNat:Nat)) % 2))])
 |_,0,_,_,_,_,_,h=>absurd h (Nat.not_lt_zero _)
 | f,j7+1,l,o,l0,lf,ho,hf=>by
  have ht:w24 [some n,some (.int l),some (.int o)]=some (decide (0<l),[some n,some (.int l),some (.int o)]):=by walk_at "ev"
  by_cases hl:0<l
  ·cases f with
   |zero=>exact absurd lf (by omega)
   | succ f=>
    have hb:w0n [some n,some (.int l),some (.int o)]=some (.nx [some n,some (.int (l / 2)),some (.int (Builtin.bitXor o (Builtin.bitAnd l 1)))]):=by clear ht;walk_at "ev"
    have ex:Builtin.bitXor o (Builtin.bitAnd l 1)=(o+l % 2) % 2:=by rw[qff l0];exact qfh ho (by omega)
    have e2:(l / 2).toNat=l.toNat / 2:=by omega
    have lt2:(l / 2).toNat<2^f:=by rw[e2];rw[Nat.pow_succ]at lf;omega
    obtain⟨l',ih⟩:=qdn n f j7 (l / 2) (Builtin.bitXor o (Builtin.bitAnd l 1)) (by omega) lt2 (by rw[ex];omega) (by omega);refine⟨l',?_⟩;rw[decide_eq_true hl]at ht;unfold q2r;rw[ht];dsimp only;rw[hb];dsimp only;rw[ih,ex,e2];have u:parF (f+1) l.toNat=(l.toNat % 2+parF f (l.toNat / 2)) % 2:=rfl;rw[u];have ev:((o+l % 2) % 2+(parF f (l.toNat / 2):Nat)) % 2=(o+(((l.toNat % 2+parF f (l.toNat / 2)) % 2:Nat):Int)) % 2:=by omega
    rw[ev]
  ·rw[decide_eq_false hl]at ht;refine⟨l,?_⟩;unfold q2r;rw[ht];dsimp only;have e0:l=0:=by omega
   subst e0;rw[show((0:Int)).toNat=0 from rfl,q8g];have ev:(o+((0:Nat):Int)) % 2=o:=by omega
   rw[ev]
theorem p_y2(n:Int)(h0:0<=n)(h:n<32):f_y2 [.int n]=some (.int (parF 5 n.toNat:Nat)):=by
 obtain⟨l',hw⟩:=qdn (.int n) 5 1000 n 0 h0 (by omega) (.inl rfl) (by decide);have e1:((0:Int)+(parF 5 n.toNat:Nat)) % 2=(parF 5 n.toNat:Nat):=by have:=qdm 5 n.toNat;omega
 rw[e1]at hw;generalize parF 5 n.toNat=p at hw ⊢;unfold f_y2 b_y2;generalize (1000:Nat)=j7 at hw ⊢;clear h0 h e1;walk_at "ev"
theorem p_y3(ok:q28 r taps rows e)(room bit:Int)(a0:0<=room)(a1:room<2^r.toNat)(hb:bit=0∨bit=1):
 f_y3 [schD r taps rows e,.int room,.int bit]=some (.tup [.int ((2*room+bit) % 2^r.toNat),.tup ((taps.map (sgn (2*room+bit))).map D.int)]):=by
 have p16:=q3b ok.r0 ok.r4;have hr:=p_y1 ok;have hp:=p_y2;have m0:(0:Int)<2^r.toNat:=by omega
 have cm:=q4b (n:=1) (js:=[3]) (fg:=gSet 0) (fe:=q0l f_y2 w33) (ρ:=[some (schD r taps rows e),some (.int room),some (.int bit),some (.int (2*room+bit)),none]) (λd=>match d with|.int t=>.int (sgn (2*room+bit) t)|d=>d) (taps.map D.int) (λx hx=>by
  obtain⟨t,ht,rfl⟩:=List.mem_map.mp hx;refine⟨[some (.int t),some (.int (2*room+bit))],rfl,?_⟩;have tb:=ok.tb t ht;have w0:0<=2*room+bit:=by omega
  have ea:=qa3 w0 tb.1;have lt:(2*room+bit).toNat &&& t.toNat<32:=Nat.lt_of_le_of_lt Nat.and_le_left (by omega);have hq:=p_y2 (((2*room+bit).toNat &&& t.toNat:Nat):Int) (by omega) (by omega);rw[jz,<-ea]at hq;show _=some (D.int (sgn (2*room+bit) t));unfold sgn;generalize 2*room+bit=W at hq ⊢;generalize parF 5 (W.toNat &&& t.toNat)=z at hq ⊢;clear hx ht tb w0 ea lt hr hp hb a0 a1 m0 p16;walk_at "ev")
 have e2:(taps.map D.int).map (λd=>match d with|.int t=>D.int (sgn (2*room+bit) t)|d=>d)=(taps.map (sgn (2*room+bit))).map D.int:=by rw[jn,jn];rfl
 rw[e2]at cm;have ll:(taps.map D.int).length<=sizeLine:=by rw[jb];exact q1c (by have:=ok.t4;omega)
 unfold f_y3 b_y3;unfold schD at cm hr ⊢;generalize (taps.map (sgn (2*room+bit))).map D.int=S at cm ⊢;generalize taps.map D.int=TS at cm hr ll ⊢;generalize (2:Int)^r.toNat=m at hr m0 a1 p16 ⊢;have two:2<=sizeLine:=by decide
 clear ok hp hb a0 a1 p16 e2;walk_at "ev"
theorem qdp(ok:q28 r taps rows e):f_y5 [schD r taps rows e]=some (.bl (isRing e)):=by
 have h1:=s_or;have h2:=s_er;have h3:=s_rr;unfold f_y5 b_y5 schD isRing;rcases ok.en with rfl|rfl|rfl
 ·rw[decide_eq_false (by decide)];clear ok;walk_at "ev"
 ·rw[decide_eq_false (by decide)];clear ok;walk_at "ev"
 ·rw[decide_eq_true rfl];clear ok;walk_at "ev"
theorem qjx(ok:q28 r taps rows e)(n:Int)(h:e="ring"->r<=n):f_y6 [schD r taps rows e,.int n]=some .non:=by
 have hr:=qdp ok;unfold f_y6 b_y6;cases hi:isRing e with
 | false=>
  rw[hi]at hr;clear ok hi;generalize schD r taps rows e=S at hr ⊢;walk_at "ev"
 | true=>
  rw[hi]at hr;have hn:¬n<r:=by have:=h (of_decide_eq_true hi);omega
  unfold schD at hr ⊢;clear ok hi h;walk_at "ev"
theorem qj9(ok:q28 r taps rows "ring")(n:Int)(h:n<r):qer [schD r taps rows "ring",.int n]=some ("NoWord":Str):=by have hr:=qdp ok;have hi:isRing "ring"=true:=decide_eq_true rfl;rw[hi]at hr;unfold qer x_y6;unfold schD at hr ⊢;clear ok hi;walk_at "ev"
theorem qgh(ok:q28 r taps rows e):f_y7 [schD r taps rows e]=some (.int (q0e r e:Nat)):=by
 have h1:=s_oe;have h2:=s_ee;have h3:=s_re;have r0:=ok.r0;have er:((r.toNat:Nat):Int)=r:=by omega
 unfold f_y7 b_y7 schD q0e;rcases ok.en with rfl|rfl|rfl
 ·rw[if_neg (by decide)];clear ok;walk_at "ev"
 ·rw[if_pos rfl,er];clear ok er;walk_at "ev"
 ·rw[if_neg (by decide)];clear ok;walk_at "ev"
theorem q36(ok:q28 r taps rows e):q0e r e<=4:=by have:=ok.r4;unfold q0e;split<;>omega
theorem qdc(ok:q28 r taps rows e)(k:Nat):atI (rows.map rowD) ((k:Int) % ((rows.map rowD).length:Nat))=some (.tup ((rowAt rows k).map D.int)):=by
 have m1:=ok.m1;have hk:k % rows.length<rows.length:=Nat.mod_lt _ (by omega);have e1:((k:Int) % ((rows.map rowD).length:Nat))=((k % rows.length:Nat):Int):=by rw[jb];exact(Int.natCast_emod k rows.length).symm
 rw[e1,q52 (by omega) (by rw[jb];omega),jz,jk];unfold rowAt;rw[jt hk];rfl
theorem qae(ok:q28 r taps rows e)(k:Nat)(signs:List Int)(hl:signs.length<=1000):
 f_y4 [schD r taps rows e,.int k,.tup (signs.map D.int)]=some (.tup ((q2u (rowAt rows k) signs).map D.int)):=by
 have hr:=qdc ok k;have z9:0<(rows.map rowD).length:=by have:=ok.m1;rw[jb];omega
 have hz:zipD (signs.map D.int) ((rowAt rows k).map D.int)=(signs.zip (rowAt rows k)).map λq=>D.tup [.int q.1,.int q.2]:=q82 _ _;have cm:∀ρ:Rho,q0z 2 [] none (q2p 2 (q11 (gSet 0) (q11 (gSet 1) q2y))) (q0d (mOp2 dEq (mVar 1) (mRet (.int 1)))) (mVar 0) ((signs.zip (rowAt rows k)).map λq=>D.tup [.int q.1,.int q.2]) ρ=some ((q2u (rowAt rows k) signs).map D.int,ρ):=λρ=>by
  have:=q3o (n:=2) (js:=[]) (fg:=q2p 2 (q11 (gSet 0) (q11 (gSet 1) q2y))) (ft:=q0d (mOp2 dEq (mVar 1) (mRet (.int 1)))) (fe:=mVar 0) (ρ:=ρ) (λd=>match d with|.tup [_,.int b]=>b==1|_=>false) (λd=>match d with|.tup [x,_]=>x|d=>d) ((signs.zip (rowAt rows k)).map λq=>D.tup [.int q.1,.int q.2]) (λx hx=>by obtain⟨q,_,rfl⟩:=List.mem_map.mp hx;refine⟨[some (.int q.1),some (.int q.2)],rfl,?_,λ_=>rfl⟩;clear hr hz hx;walk_at "ev")
  rw[this,List.filter_map,jn];unfold q2u;rw[jn];rfl
 have ll:((signs.zip (rowAt rows k)).map λq=>D.tup [.int q.1,.int q.2]).length<=sizeLine:=by rw[jb,xo];exact q1c (by have:=xl signs.length (rowAt rows k).length;omega)
 unfold f_y4 b_y4 schD;generalize (signs.zip (rowAt rows k)).map (λq=>D.tup [.int q.1,.int q.2])=Z at hz cm ll;generalize (q2u (rowAt rows k) signs).map D.int=Y at cm ⊢;generalize (rowAt rows k).map D.int=R at hr hz;generalize rows.map rowD=RS at hr z9 ⊢;generalize signs.map D.int=S at hz ⊢;clear ok hl;walk_at "ev"
theorem qge(t:Told):f_y18 [q0n t]=some (objD t):=by
 have h1:=t_cg;have h2:=t_cs;have h3:=t_gs;have h4:=t_cc;have h5:=t_gg;unfold f_y18 qhy;cases t with
 |clear b=>unfold q0n objD;walk_at "ev"
 |gap=>unfold q0n objD;walk_at "ev"
 |soft z o=>unfold q0n objD;walk_at "ev"
theorem p_cc(c b:Int):f_y12 [.obj "Clear" [("bit",.int c)],.int b]=some (.int (if b=c then 0 else 1)):=by
 have h1:fldO "Clear" "bit" (.obj "Clear" [("bit",.int c)])=some (.int c):=q9u (by simp[List.lookup_cons]);unfold f_y12 qi1;generalize D.obj "Clear" [("bit",.int c)]=X at h1 ⊢;by_cases h:b=c
 ·rw[if_pos h];have h':(b==c)=true:=beq_iff_eq.mpr h;clear h;walk_at "ev"
 ·rw[if_neg h];have h':(b==c)=false:=beq_eq_false_iff_ne.mpr h;walk_at "ev"
theorem p_gc(X:D)(b:Int):f_y14 [X,.int b]=some (.int 0):=by unfold f_y14 qi0;walk_at "ev"
theorem p_sc(z o b:Int):f_y17 [.obj "Soft" [("zero",.int z),("one",.int o)],.int b]=some (.int (if b=1 then o else z)):=by
 have nz:(("one":Str)=="zero")=false:=by decide+kernel
 have h1:fldO "Soft" "one" (.obj "Soft" [("zero",.int z),("one",.int o)])=some (.int o):=q9u (by rw[List.lookup_cons,nz];simp[List.lookup_cons]);have h2:fldO "Soft" "zero" (.obj "Soft" [("zero",.int z),("one",.int o)])=some (.int z):=q9u (by simp[List.lookup_cons]);unfold f_y17 qhz;generalize D.obj "Soft" [("zero",.int z),("one",.int o)]=X at h1 h2 ⊢;by_cases h:b=1
 ·rw[if_pos h];subst h;walk_at "ev"
 ·rw[if_neg h];have h':(b==1)=false:=beq_eq_false_iff_ne.mpr h;walk_at "ev"
theorem qjw(t:Told)(b:Int):w06 [some (objD t),some (.int b)]=some (.int (q3t t b),[some (objD t),some (.int b)]):=by
 have n1:¬(("Gap":Str)="Clear"):=by decide+kernel
 have n2:¬(("Soft":Str)="Clear"):=by decide+kernel
 have n3:¬(("Soft":Str)="Gap"):=by decide+kernel
 have m1:(("cost":Str)=="bit")=false:=by decide+kernel
 have m2:(("cost":Str)=="zero")=false:=by decide+kernel
 have m3:(("cost":Str)=="one")=false:=by decide+kernel
 cases t with
 | clear c=>
  have h1:q6s "Clear" "cost" f_y12 (objD (.clear c)) [.int b]=some (.int (q3t (.clear c) b)):=(q7r (by rw[List.lookup_cons,m1];rfl)).trans (p_cc c b);generalize objD (.clear c)=X at h1 ⊢;generalize q3t (.clear c) b=z at h1 ⊢;clear n1 n2 n3 m1 m2 m3;walk_at "ev"
 | gap=>
  have h1:q6s "Clear" "cost" f_y12 (objD .gap) [.int b]=none:=q6b n1;have h2:q6s "Gap" "cost" f_y14 (objD .gap) [.int b]=some (.int (q3t .gap b)):=(q7r rfl).trans (p_gc _ b);generalize objD .gap=X at h1 h2 ⊢;generalize q3t .gap b=z at h2 ⊢;clear n1 n2 n3 m1 m2 m3;walk_at "ev"
 | soft z o=>
  have h1:q6s "Clear" "cost" f_y12 (objD (.soft z o)) [.int b]=none:=q6b n2;have h2:q6s "Gap" "cost" f_y14 (objD (.soft z o)) [.int b]=none:=q6b n3;have h3:q6s "Soft" "cost" f_y17 (objD (.soft z o)) [.int b]=some (.int (q3t (.soft z o) b)):=(q7r (by rw[List.lookup_cons,m2,List.lookup_cons,m3];rfl)).trans (p_sc z o b);generalize objD (.soft z o)=X at h1 h2 h3 ⊢;generalize q3t (.soft z o) b=y at h3 ⊢;clear n1 n2 n3 m1 m2 m3;walk_at "ev"
theorem qdo(ok:q28 r taps rows e)(n:Nat)(h:e="ring"->r.toNat<=n):f_y8 [schD r taps rows e,.int n]=some (.int ((n+q0e r e:Nat):Int)):=by
 have r0:=ok.r0;have hc:=qjx ok n (λq=>by have:=h q;omega);have hz:=qgh ok;have e1:((n+q0e r e:Nat):Int)=(n:Int)+(q0e r e:Nat):=by omega
 rw[e1];unfold f_y8 b_y8;generalize schD r taps rows e=S at hc hz ⊢;generalize (q0e r e:Nat)=z at hz ⊢;clear ok h e1 r0;walk_at "ev"
theorem qn9(S:D)(n' N nz:Int)(S2 F:List D)(v4:Option D)(z0:0<=sizeLine)(hst:f_y3 [S,.int 0,.int 0]=some (.tup [.int nz,.tup S2]))(hs:f_y8 [S,.int n']=some (.int N))(bg:big N=true)
 (l1:q27 (gSet 4) w1u (q17 0 N.toNat) [some S,some (.int n'),some (.tup S2),some (.lst []),none]=some (.nx [some S,some (.int n'),some (.tup S2),some (.lst F),v4])):f_y9 [S,.int n']=some (.lst F):=by
 unfold f_y9 b_y9;walk_at "ev"
theorem qaf(ok:q28 r taps rows e)(n:Nat)(hn:n<=60)(h:e="ring"->r.toNat<=n):f_y9 [schD r taps rows e,.int n]=some (.lst ((q0f taps rows (n+q0e r e)).map D.int)):=by
 have z4:=q36 ok;have hs:=qdo ok n h;have p16:=q3b ok.r0 ok.r4;have hst:=p_y3 ok 0 0 (by omega) (by omega) (.inl rfl);have ht:=qae ok;have sl:∀k,(q2u (rowAt rows k) (taps.map (sgn (2*0+0)))).length=(selK taps rows k).length:=λk=>by rw[q8f,jb];rfl
 have s4:∀k,(selK taps rows k).length<=4:=λk=>by unfold selK;refine ju (List.length_filter_le _ _) ?_;rw[xo];have:=ok.t4;have:=xl taps.length (rowAt rows k).length;omega
 have st:=λk:Nat=>ht k (taps.map (sgn (2*0+0))) (by rw[jb];have:=ok.t4;omega);generalize hS2:(taps.map (sgn (2*0+0))).map D.int=S2 at hst st;obtain⟨ρ',l1,v4,hρ⟩:=q3j (fg:=gSet 4) (fb:=sExt 3 (mRep (mLst (q02 (mVar 4) mNil)) w0d))
  (λk ρ=>∃v4,ρ=[some (schD r taps rows e),some (.int (n:Int)),some (.tup S2),some (.lst ((q0f taps rows k).map D.int)),v4]) (q17 0 (n+q0e r e)) 0
  [some (schD r taps rows e),some (.int (n:Int)),some (.tup S2),some (.lst []),none] ⟨none,rfl⟩ (λi x ρ hx ⟨v4,hρ⟩=>by
   subst hρ;obtain⟨hi,rfl⟩:=q20 hx;rw[k8,Int.zero_add];have eP:q0f taps rows (i+1)=q0f taps rows i++List.replicate (selK taps rows i).length (i:Int):=q3y _ _;rw[eP,xm,List.map_replicate];have hsa:=st i;have hln:(((q2u (rowAt rows i) (taps.map (sgn (2*0+0)))).map D.int).length:Int)=((selK taps rows i).length:Nat):=by rw[jb,sl]
   have hrp:repO [D.int (i:Int)] (.int ((selK taps rows i).length:Nat))=some (List.replicate (selK taps rows i).length (.int (i:Int))):=by rw[qde _ (by omega) (by have:=s4 i;omega),jz]
   have ln:((q0f taps rows i).map D.int).length+(List.replicate (selK taps rows i).length (D.int (i:Int))).length<=sizeLine:=by have q1:(q0f taps rows i).length<=i*4:=q42 _ 4 (λk=>by rw[jx];exact s4 k) i;have q2:=s4 i;rw[jb,jx];exact q1c (by omega)
   generalize (q2u (rowAt rows i) (taps.map (sgn (2*0+0)))).map D.int=PK at hsa hln;rw[<-hln]at hrp;generalize List.replicate (selK taps rows i).length (D.int (i:Int))=RP at hrp ln ⊢;generalize (q0f taps rows i).map D.int=F at ln ⊢;refine⟨_,[some (schD r taps rows e),some (.int (n:Int)),some (.tup S2),some (.lst (F++RP)),some (.int (i:Int))],rfl,.inl ?_,some (.int (i:Int)),rfl⟩;have one:1<=sizeLine:=by decide
   generalize schD r taps rows e=S at hsa ⊢;clear hln eP hst st sl s4 hs ok ht hi hx p16 hS2 h;have hrep:(mRep (mLst (q02 (mVar 4) mNil)) w0d) [some S,some (.int (n:Int)),some (.tup S2),some (.lst F),some (.int (i:Int))]=some (RP,[some S,some (.int (n:Int)),some (.tup S2),some (.lst F),some (.int (i:Int))]):=by
    refine qib (xs:=[.int (i:Int)]) (y:=.int (PK.length:Nat)) (ρ1:=[some S,some (.int (n:Int)),some (.tup S2),some (.lst F),some (.int (i:Int))]) ?_ ?_ hrp
    ·clear hrp hsa ln;generalize (n:Int)=n';generalize (i:Int)=i';walk_at "ev"
    ·clear hrp ln;generalize (n:Int)=n';generalize (i:Int)=i' at hsa ⊢;walk_at "ev"
   generalize (mRep (mLst (q02 (mVar 4) mNil)) w0d)=FR at hrep ⊢;clear hrp hsa;generalize (n:Int)=n' at hrep ⊢;generalize (i:Int)=i' at hrep ⊢;walk_at "ev")
 subst hρ;rw[q1l,k8]at l1;have bg:big ((n+q0e r e:Nat):Int)=true:=by unfold big;simp;omega
 have z0:0<=sizeLine:=by decide
 have tn:((n+q0e r e:Nat):Int).toNat=n+q0e r e:=jz _;rw[<-tn]at l1;exact qn9 _ _ _ _ _ _ _ z0 hst hs bg l1
theorem qgg(ok:q28 r taps rows e)(n:Nat)(hn:n<=60)(h:e="ring"->r.toNat<=n)(hs:List D)(hl:hs.length=(q0f taps rows (n+q0e r e)).length):f_y19 [schD r taps rows e,.int n,.lst hs]=some .non:=by
 have hp:=qaf ok n hn h;have hl2:hs.length=((q0f taps rows (n+q0e r e)).map D.int).length:=by rw[jb,hl]
 unfold f_y19 qhx;generalize (q0f taps rows (n+q0e r e)).map D.int=F at hp hl2;generalize schD r taps rows e=S at hp ⊢;clear ok h hl hn;walk_at "ev"
theorem qj8(ok:q28 r taps rows "ring")(n:Nat)(h:n<r.toNat):qeq [schD r taps rows "ring",.int n]=some ("NoWord":Str):=by have hc:=qj9 ok n (by omega);unfold qeq x_y8;generalize schD r taps rows "ring"=S at hc ⊢;clear ok h;walk_at "ev"
theorem qfl(ok:q28 r taps rows "ring")(n:Nat)(h:n<r.toNat):qep [schD r taps rows "ring",.int n]=some ("NoWord":Str):=by
 have hc:=qj8 ok n h;have p16:=q3b ok.r0 ok.r4;have hst:=p_y3 ok 0 0 (by omega) (by omega) (.inl rfl);have z0:0<=sizeLine:=by decide
 unfold qep x_y9;generalize (taps.map (sgn (2*0+0))).map D.int=S2 at hst;generalize (2*0+0) % 2^r.toNat=nz at hst;generalize schD r taps rows "ring"=S at hc hst ⊢;clear ok h p16;walk_at "ev"
theorem qfm(ok:q28 r taps rows "ring")(n:Nat)(h:n<r.toNat)(hs:D):q77 [schD r taps rows "ring",.int n,hs]=some ("NoWord":Str):=by have hp:=qfl ok n h;unfold q77 qfk;generalize schD r taps rows "ring"=S at hp ⊢;clear ok h;walk_at "ev"
end
section
variable{r:Int}{taps:List Int}{rows:List (List Int)}{e:Str}
theorem qfr(ns:List Int)(k:Nat):∃c:Int,f_y30 [.lst (ns.map D.int),.int k]=some (.int c):=by
 by_cases h:k<ns.length
 ·refine⟨ns.getD k 0,?_⟩;have ha:atI (ns.map D.int) (k:Int)=some (.int (ns.getD k 0)):=by
   rw[q52 (by omega) (by rw[jb];omega),jz,jk,xw,jt h];rfl
  have hk:(k:Int)<((ns.map D.int).length:Nat):=by rw[jb];omega
  generalize ns.getD k 0=c at ha ⊢;generalize ns.map D.int=N at ha hk ⊢;clear h;unfold f_y30 qfb;walk_at "ev"
 ·refine⟨0,?_⟩;have hk:¬(k:Int)<((ns.map D.int).length:Nat):=by rw[jb];omega
  generalize ns.map D.int=N at hk ⊢;clear h;unfold f_y30 qfb;walk_at "ev"
theorem qkk(c n':Int)(X:List D)(y v4:Option D)(z0:0<=sizeLine)(bg:big n'=true)
 (l1:q27 (gSet 4) w2z (q17 0 n'.toNat) [some (.int c),some (.int n'),some (.lst []),some (.int (c % 2305843009213693951*1000000007+104729)),none]=some (.nx [some (.int c),some (.int n'),some (.lst X),y,v4])):f_y31 [.int c,.int n']=some (.lst X):=by
 unfold f_y31 qhq;walk_at "ev"
theorem q7g(c:Int)(n:Nat)(hn:n<=1000):∃xs:List Int,f_y31 [.int c,.int n]=some (.lst (xs.map D.int))/\xs.length=n/\∀x∈xs,0<=x/\x<2305843009213693951:=by
 have c0:0<=c % 2305843009213693951:=by omega
 have c1:c % 2305843009213693951<2305843009213693951:=by omega
 obtain⟨ρ',l1,xs,y,v4,hρ,hl,hx,_⟩:=q3j (fg:=gSet 4) (fb:=sSeq w0c
 (sMut q2q 2 (q02 (mVar 3) mNil)))
   (λk ρ=>∃(xs:List Int) (y:Int) (v4:Option D),ρ=[some (.int c),some (.int (n:Int)),some (.lst (xs.map D.int)),some (.int y),v4]/\xs.length=k/\(∀x∈xs,0<=x/\x<2305843009213693951)/\0<=y/\y<2305843009213693951*1000000008)
   (q17 0 n) 0 [some (.int c),some (.int (n:Int)),some (.lst []),some (.int (c % 2305843009213693951*1000000007+104729)),none] ⟨[],_,none,rfl,rfl,λ_ h=>(nomatch h),by omega,by omega⟩ (λi x ρ hx ⟨xs,y,v4,hρ,hl,hm,y0,y1⟩=>by
     subst hρ;obtain⟨hi,rfl⟩:=q20 hx;rw[Int.zero_add]
     have b1 : bigM y = true := decide_eq_true (by have:(2:Nat)^250>2305843009213693951*1000000008:=by decide+kernel
                                                   omega)
     have b2 : bigM (y + 65537) = true := decide_eq_true (by have:(2:Nat)^250>2305843009213693951*1000000008+65537:=by decide+kernel
                                                             omega)
     have ln:(xs.map D.int).length<sizeLine:=by rw[jb];exact jm (by omega:_<2000) (q1c (by decide))
     generalize hz:(y*(y+65537)+13*(i:Int)+5) % 2305843009213693951=z;have z0:0<=z:=by omega
     have z1:z<2305843009213693951:=by omega
     refine⟨_,[some (.int c),some (.int (n:Int)),some (.lst (xs.map D.int++[.int z])),some (.int z),some (.int (i:Int))],rfl,.inl ?_,xs++[z],z,some (.int (i:Int)),by rw[xm];rfl,by rw[jy,List.length_singleton,hl],λu hu=>?_,z0,by omega⟩
     ·generalize xs.map D.int=X at ln ⊢;clear hm hl hx hi y0 y1 z0 z1;walk_at "ev"
     ·rcases List.mem_append.mp hu with hu|hu
      ·exact hm u hu
      ·rw[List.mem_singleton.mp hu];exact⟨z0,z1⟩)
 subst hρ;rw[q1l,k8]at hl;refine⟨xs,?_,hl,hx⟩;have bg:big (n:Int)=true:=by unfold big;simp;omega
 exact qkk _ _ _ _ _ (by decide) bg (by rw[jz];exact l1)
theorem qax(xs:List Int)(a b:Nat)(hb:b<=xs.length)(hab:a<=b):cutD (xs.map D.int) (some (a:Int)) (some (b:Int))=((xs.drop a).take (b-a)).map D.int:=by unfold cutD;rw[q7l (by omega),q7l (by omega),jb,jz,jz,Nat.min_eq_left hb,Nat.min_eq_left (ju hab hb),List.map_take,List.map_drop]
theorem qqx{j:Int}(h0:0<=j)(h:j<5):∃t:Nat,atI [D.int 1,.int 0,.int 2,.int 1,.int 3] j=some (.int (t:Int))/\t<=3:=by
 rcases(by omega:j=0∨j=1∨j=2∨j=3∨j=4)with rfl|rfl|rfl|rfl|rfl
 ·exact⟨1,rfl,by decide⟩
 ·exact⟨0,rfl,by decide⟩
 ·exact⟨2,rfl,by decide⟩
 ·exact⟨1,rfl,by decide⟩
 ·exact⟨3,rfl,by decide⟩
theorem qqw{j:Int}(h0:0<=j)(h:j<6):∃t:Nat,atI [D.int 1,.int 2,.int 4,.int 3,.int 5,.int 6] j=some (.int (t:Int))/\1<=t/\t<=6:=by
 rcases(by omega:j=0∨j=1∨j=2∨j=3∨j=4∨j=5)with rfl|rfl|rfl|rfl|rfl|rfl
 ·exact⟨1,rfl,by decide,by decide⟩
 ·exact⟨2,rfl,by decide,by decide⟩
 ·exact⟨4,rfl,by decide,by decide⟩
 ·exact⟨3,rfl,by decide,by decide⟩
 ·exact⟨5,rfl,by decide,by decide⟩
 ·exact⟨6,rfl,by decide,by decide⟩
theorem qqv{j:Int}(h0:0<=j)(h:j<4):∃t:Int,atI [D.int 1,.int 1,.int 0,.int 1] j=some (.int t)/\(t=0∨t=1):=by
 rcases(by omega:j=0∨j=1∨j=2∨j=3)with rfl|rfl|rfl|rfl
 ·exact⟨1,rfl,.inr rfl⟩
 ·exact⟨1,rfl,.inr rfl⟩
 ·exact⟨0,rfl,.inl rfl⟩
 ·exact⟨1,rfl,.inr rfl⟩
theorem qqt{j:Int}(h0:0<=j)(h:j<4):∃e:Str,atI [D.str "open",.str "ended",.str "ring",.str "ended"] j=some (.str e)/\(e="open"∨e="ended"∨e="ring"):=by
 rcases(by omega:j=0∨j=1∨j=2∨j=3)with rfl|rfl|rfl|rfl
 ·exact⟨_,rfl,.inl rfl⟩
 ·exact⟨_,rfl,.inr (.inl rfl)⟩
 ·exact⟨_,rfl,.inr (.inr rfl)⟩
 ·exact⟨_,rfl,.inr (.inl rfl)⟩
theorem qfe{x:Int}(h:0<=x):0<=Builtin.bitAnd x 3/\Builtin.bitAnd x 3<4:=by rw[qa3 h (by decide)];have:x.toNat &&& (3:Int).toNat<=3:=Nat.and_le_right;omega
theorem qhg{n:Nat}{js:List Nat}{fg:RhG}{fe:RhD}{ρ:Rho}(G:D->Prop):∀(xs:List D),(∀x∈xs,∃ρ1 y,fg x (q50 n js ρ)=some ρ1/\(fe ρ1).map (·.1)=some y/\G y)->∃ys,q0z n js none fg (mRet true) fe xs ρ=some (ys,ρ)/\ys.length=xs.length/\∀y∈ys,G y
 |[],_=>⟨[],rfl,rfl,λ_ h=>nomatch h⟩
 | x::xs,h=>by
  obtain⟨ρ1,y,h1,h2,h3⟩:=h x jj;obtain⟨ρ2,h2⟩:=q7u h2;obtain⟨ys,g1,g2,g3⟩:=qhg (fg:=fg) (fe:=fe) (ρ:=ρ) G xs λy hy=>h y (jg _ hy);refine⟨y::ys,?_,by rw[jr,jr,g2],λz hz=>?_⟩
  ·simp only[q0z,h1,mRet,h2,q4n];rw[g1]
  ·rcases List.mem_cons.mp hz with rfl|hz
   ·exact h3
   ·exact g3 z hz
theorem qdd{ρ ρ1:Rho}{fs:RhL}{n:Int}(h:fs ρ=some ([.int n],ρ1))(bg:big n=true):q2k fs ρ=some (q17 0 n.toNat,ρ1):=by rw[qeu,h];show((if big n=true then some (q17 0 n.toNat)else none).map λx=>(x,ρ1))=_;rw[if_pos bg];rfl
theorem qg4(c top z:Int)(r e:D)(X TS RS RD R5:List D)(FI:RhL)(FE:RhD)(l5:R5.length<=sizeLine)(lq:RS.length<sizeLine)
 (hFI:FI [some (.int c),some (.int top),some (.lst X),some e,some r,some (.tup TS),some (.lst RS),some (.int z)]=some (R5,[some (.int c),some (.int top),some (.lst X),some e,some r,some (.tup TS),some (.lst RS),some (.int z)]))
 (g1:q0z 1 [7] none (gSet 0) (mRet true) FE R5 [some (.int c),some (.int top),some (.lst X),some e,some r,some (.tup TS),some (.lst RS),some (.int z)]=some (RD,[some (.int c),some (.int top),some (.lst X),some e,some r,some (.tup TS),some (.lst RS),some (.int z)])):
 (sMut q2q 6 (q02 (mOp1 q4a (mOf (q1n 1 [7] none FI (gSet 0) (mRet true) FE))) mNil)) [some (.int c),some (.int top),some (.lst X),some e,some r,some (.tup TS),some (.lst RS),some (.int z)]=some (.nx [some (.int c),some (.int top),some (.lst X),some e,some r,some (.tup TS),some (.lst (RS++[.tup RD])),some (.int z)]):=by
 walk_at "ev"
theorem qjv(N:Nat):((N:Int) / 2^(0:Int).toNat % 2+((N:Int) / 2^(1:Int).toNat % 2+((N:Int) / 2^(2:Int).toNat % 2+((N:Int) / 2^(3:Int).toNat % 2+((N:Int) / 2^(4:Int).toNat % 2+0))))) % 2=(parF 5 N:Nat):=by
 have e0:(2:Int)^(0:Int).toNat=1:=rfl;have e1:(2:Int)^(1:Int).toNat=2:=rfl;have e2:(2:Int)^(2:Int).toNat=4:=rfl;have e3:(2:Int)^(3:Int).toNat=8:=rfl;have e4:(2:Int)^(4:Int).toNat=16:=rfl;rw[e0,e1,e2,e3,e4];have f1:(N:Int) / 2=((N / 2:Nat):Int):=by omega
 have f2:(N:Int) / 4=((N / 2 / 2:Nat):Int):=by omega
 have f3:(N:Int) / 8=((N / 2 / 2 / 2:Nat):Int):=by omega
 have f4:(N:Int) / 16=((N / 2 / 2 / 2 / 2:Nat):Int):=by omega
 have f0:(N:Int) / 1=(N:Int):=by omega
 rw[f0,f1,f2,f3,f4];have u:parF 5 N=(N % 2+(N / 2 % 2+(N / 2 / 2 % 2+(N / 2 / 2 / 2 % 2+(N / 2 / 2 / 2 / 2 % 2+0) % 2) % 2) % 2) % 2) % 2:=rfl;rw[u];generalize N / 2 / 2 / 2 / 2=a4;generalize N / 2 / 2 / 2=a3;generalize N / 2 / 2=a2;generalize N / 2=a1;omega
theorem qfz(ρ:Rho)(R5 YD:List D)(Y:List Int)(FI:RhL)(FE:RhD)(l5:R5.length<=sizeLine)(hFI:FI ρ=some (R5,ρ))(ci:q0z 1 [0,1] none (gSet 0) (mRet true) FE R5 ρ=some (YD,ρ))(hi:q4k YD=some Y):
 ((mOp2 dMod (mOp1 dSum (mOf (q1n 1 [0,1] none FI (gSet 0) (mRet true) FE))) (mRet (.int 2))) ρ).map (·.1)=some (.int (Y.sum % 2)):=by
 walk_at "ev"
theorem qfy(r room bit m:Int)(e:D)(TS RS S:List D)(two:2<=sizeLine)(ll:TS.length<=sizeLine)(FE:RhD)(r0:0<=r)(r6:r<=1000000)(hm:2^r.toNat=m)(m0:0<m)
 (cm:q0z 1 [3] none (gSet 0) (mRet true) FE TS [some (.tup [.int r,.tup TS,.tup RS,e]),some (.int room),some (.int bit),some (.int (2*room+bit)),none]=some (S,[some (.tup [.int r,.tup TS,.tup RS,e]),some (.int room),some (.int bit),some (.int (2*room+bit)),none])):
 runP false 3 5 (sSeq w1d (sSeq (sSet 4 (mOf (q1n 1 [3] none w22 (gSet 0) (mRet true) FE))) (sRet (mTup (q02 (mOp2 dMod (mVar 3) (mOp2 dShl (mRet (.int 1)) (mOp2 dIx (mVar 0) (mRet (.int 0))))) (q02 (mVar 4) mNil)))))) [.tup [.int r,.tup TS,.tup RS,e],.int room,.int bit]=some (.tup [.int ((2*room+bit) % m),.lst S]):=by
 subst hm;walk_at "ev"
theorem v_y3(ok:q28 r taps rows e)(room bit:Int)(a0:0<=room)(a1:room<2^r.toNat)(hb:bit=0∨bit=1):
 f_y33 [schD r taps rows e,.int room,.int bit]=some (.tup [.int ((2*room+bit) % 2^r.toNat),.lst ((taps.map (sgn (2*room+bit))).map D.int)]):=by
 have p16:=q3b ok.r0 ok.r4;have r0:=ok.r0;have r4:=ok.r4;have r6:r<=1000000:=by omega
 have m0:(0:Int)<2^r.toNat:=by omega
 have cm:=q4b (n:=1) (js:=[3]) (fg:=gSet 0) (fe:=mOp2 dMod w13 (mRet (.int 2))) (ρ:=[some (schD r taps rows e),some (.int room),some (.int bit),some (.int (2*room+bit)),none]) (λd=>match d with|.int t=>.int (sgn (2*room+bit) t)|d=>d) (taps.map D.int) (λx hx=>by
  obtain⟨t,ht,rfl⟩:=List.mem_map.mp hx;refine⟨[some (.int t),some (.int (2*room+bit))],rfl,?_⟩;have tb:=ok.tb t ht;have w0:0<=2*room+bit:=by omega
  have ea:=qa3 tb.1 w0;rw[Nat.and_comm]at ea;generalize hN:(2*room+bit).toNat &&& t.toNat=N at ea;have ci:=q4b (n:=1) (js:=[0,1]) (fg:=gSet 0) (fe:=mOp2 dAnd w2r (mRet (.int 1))) (ρ:=[some (.int t),some (.int (2*room+bit))])
   (λd=>match d with|.int k=>.int ((N:Int) / 2^k.toNat % 2)|d=>d) (q17 0 5) (λy hy=>by
     obtain⟨k,hk⟩:=List.mem_iff_getElem?.mp hy;obtain⟨hk1,rfl⟩:=q20 hk;rw[Int.zero_add];have hs:0<=(N:Int) / 2^(k:Int).toNat:=Int.ediv_nonneg (by omega) (Int.le_of_lt (Int.pow_pos (by decide)));have h1:=qff hs;refine⟨[some (.int (k:Int)),some (.int t),some (.int (2*room+bit))],rfl,?_⟩;have k0:0<=(k:Int):=by omega
     generalize 2*room+bit=W at ea ⊢;show _=some (D.int ((N:Int) / 2^(k:Int).toNat % 2));rw[<-h1,<-ea];rw[<-ea]at hs;clear hN hy hk hk1 h1 tb hx ht hb a0 a1 m0 p16 ok w0 ea;walk_at "ev")
  have er:(q17 0 5).map (λd=>match d with|.int k=>D.int ((N:Int) / 2^k.toNat % 2)|d=>d)=[(N:Int) / 2^(0:Int).toNat % 2,(N:Int) / 2^(1:Int).toNat % 2,(N:Int) / 2^(2:Int).toNat % 2,(N:Int) / 2^(3:Int).toNat % 2,(N:Int) / 2^(4:Int).toNat % 2].map D.int:=rfl;rw[er]at ci;have hi:=q3n [(N:Int) / 2^(0:Int).toNat % 2,(N:Int) / 2^(1:Int).toNat % 2,(N:Int) / 2^(2:Int).toNat % 2,(N:Int) / 2^(3:Int).toNat % 2,(N:Int) / 2^(4:Int).toNat % 2];have hp:=qjv N;have es:[(N:Int) / 2^(0:Int).toNat % 2,(N:Int) / 2^(1:Int).toNat % 2,(N:Int) / 2^(2:Int).toNat % 2,(N:Int) / 2^(3:Int).toNat % 2,(N:Int) / 2^(4:Int).toNat % 2].sum=((N:Int) / 2^(0:Int).toNat % 2+((N:Int) / 2^(1:Int).toNat % 2+((N:Int) / 2^(2:Int).toNat % 2+((N:Int) / 2^(3:Int).toNat % 2+((N:Int) / 2^(4:Int).toNat % 2+0))))):=rfl;rw[<-es]at hp;show _=some (D.int (sgn (2*room+bit) t));unfold sgn;rw[hN,<-hp];exact qfz _ _ _ _ _ _ (by decide) (qdd rfl (by decide)) ci hi)
 have e2:(taps.map D.int).map (λd=>match d with|.int t=>D.int (sgn (2*room+bit) t)|d=>d)=(taps.map (sgn (2*room+bit))).map D.int:=by rw[jn,jn];rfl
 rw[e2]at cm;have ll:(taps.map D.int).length<=sizeLine:=by rw[jb];exact q1c (by have:=ok.t4;omega)
 exact qfy r room bit _ _ _ _ _ (by decide) ll _ r0 r6 rfl m0 cm
theorem qfp(ok:q28 r taps rows e)(k:Nat)(signs:List Int)(hl:signs.length<=1000):
 f_y34 [schD r taps rows e,.int k,.lst (signs.map D.int)]=some (.lst ((q2u (rowAt rows k) signs).map D.int)):=by
 have hr:=qdc ok k;have z9:0<(rows.map rowD).length:=by have:=ok.m1;rw[jb];omega
 have hz:zipD (signs.map D.int) ((rowAt rows k).map D.int)=(signs.zip (rowAt rows k)).map λq=>D.tup [.int q.1,.int q.2]:=q82 _ _;have cm:∀ρ:Rho,q0z 2 [] none (q2p 2 (q11 (gSet 0) (q11 (gSet 1) q2y))) (q0d (mOp2 dEq (mVar 1) (mRet (.int 1)))) (mVar 0) ((signs.zip (rowAt rows k)).map λq=>D.tup [.int q.1,.int q.2]) ρ=some ((q2u (rowAt rows k) signs).map D.int,ρ):=λρ=>by
  have:=q3o (n:=2) (js:=[]) (fg:=q2p 2 (q11 (gSet 0) (q11 (gSet 1) q2y))) (ft:=q0d (mOp2 dEq (mVar 1) (mRet (.int 1)))) (fe:=mVar 0) (ρ:=ρ) (λd=>match d with|.tup [_,.int b]=>b==1|_=>false) (λd=>match d with|.tup [x,_]=>x|d=>d) ((signs.zip (rowAt rows k)).map λq=>D.tup [.int q.1,.int q.2]) (λx hx=>by obtain⟨q,_,rfl⟩:=List.mem_map.mp hx;refine⟨[some (.int q.1),some (.int q.2)],rfl,?_,λ_=>rfl⟩;clear hr hz hx;walk_at "ev")
  rw[this,List.filter_map,jn];unfold q2u;rw[jn];rfl
 have ll:((signs.zip (rowAt rows k)).map λq=>D.tup [.int q.1,.int q.2]).length<=sizeLine:=by rw[jb,xo];exact q1c (by have:=xl signs.length (rowAt rows k).length;omega)
 unfold schD;generalize (signs.zip (rowAt rows k)).map (λq=>D.tup [.int q.1,.int q.2])=Z at hz cm ll;generalize (q2u (rowAt rows k) signs).map D.int=Y at cm ⊢;generalize (rowAt rows k).map D.int=R at hr hz;generalize rows.map rowD=RS at hr z9 ⊢;generalize signs.map D.int=S at hz ⊢;clear ok hl;unfold f_y34 qho;walk_at "ev"
theorem q95(ok:q28 r taps rows e)(n:Nat):f_y35 [schD r taps rows e,.int n]=some (.int ((n+q0e r e:Nat):Int)):=by
 have h1:=s_oe;have h2:=s_ee;have h3:=s_re;have r0:=ok.r0;unfold schD;rcases ok.en with rfl|rfl|rfl
 ·rw[show q0e r "open"=0 from if_neg (by decide),Nat.add_zero];clear ok;unfold f_y35 qc5;walk_at "ev"
 ·rw[show q0e r "ended"=r.toNat from if_pos rfl,show((n+r.toNat:Nat):Int)=(n:Int)+r from by omega];clear ok;unfold f_y35 qc5;walk_at "ev"
 ·rw[show q0e r "ring"=0 from if_neg (by decide),Nat.add_zero];clear ok;unfold f_y35 qc5;walk_at "ev"
theorem qia(ok:q28 r taps rows e)(k:Nat):(rowAt rows k).length=taps.length:=by have m1:=ok.m1;have hk:k % rows.length<rows.length:=Nat.mod_lt _ (by omega);unfold rowAt;rw[jt hk];exact(ok.rw _ (k6 hk)).1
theorem q88:∀(taps row:List Int),row.length=taps.length->(row.filter λb=>b==1).length=((taps.zip row).filter λq=>q.2==1).length
 |[],[],_=>rfl
 |[],_::_,h=>by cases h
 |_::_,[],h=>by cases h
 | t::ts,b::bs,h=>by
  have ih:=q88 ts bs (by simpa using h);rw[List.zip_cons_cons];by_cases hb:(b==1)=true
  ·rw[List.filter_cons_of_pos (p:=λb=>b==1) hb,List.filter_cons_of_pos (p:=λq:Int×Int=>q.2==1) (show((t,b).2==1)=true from hb),jr,jr,ih]
  ·rw[List.filter_cons_of_neg (p:=λb=>b==1) hb,List.filter_cons_of_neg (p:=λq:Int×Int=>q.2==1) (show¬((t,b).2==1)=true from hb),ih]
theorem qg5(S0 S1 S3:D)(RS R:List D)(k':Int)(v1 v2:Option D)(z9:0<RS.length)(hr:atI RS (k' % (RS.length:Nat))=some (.tup R)):
 w0m [some (.tup [S0,S1,.tup RS,S3]),v1,v2,some (.int k')]=some (R,[some (.tup [S0,S1,.tup RS,S3]),v1,v2,some (.int k')]):=by
 walk_at "ev"
theorem q9f(S:D)(n' k':Int)(F R RP:List D)(FI:RhL)(lr:R.length<=sizeLine)(ln:F.length+RP.length<=sizeLine)(hFI:FI [some S,some (.int n'),some (.lst F),some (.int k')]=some (R,[some S,some (.int n'),some (.lst F),some (.int k')]))
 (cm:q0z 1 [3] none (gSet 0) (q0d (mOp2 dEq (mVar 0) (mRet (.int 1)))) (mVar 1) R [some S,some (.int n'),some (.lst F),some (.int k')]=some (RP,[some S,some (.int n'),some (.lst F),some (.int k')])):
 (sExt 2 (q1n 1 [3] none FI (gSet 0) (q0d (mOp2 dEq (mVar 0) (mRet (.int 1)))) (mVar 1))) [some S,some (.int n'),some (.lst F),some (.int k')]=some (.nx [some S,some (.int n'),some (.lst (F++RP)),some (.int k')]):=by
 walk_at "ev"
theorem qbn(S:D)(n' N:Int)(F:List D)(v3:Option D)(FB:RhO)(z0:0<=sizeLine)(hs:f_y35 [S,.int n']=some (.int N))(bg:big N=true)
 (l1:q27 (gSet 3) FB (q17 0 N.toNat) [some S,some (.int n'),some (.lst []),none]=some (.nx [some S,some (.int n'),some (.lst F),v3])):
 runP true 2 4 (sSeq (sOwn 2 (mLst mNil)) (sSeq (sFor (q2k (q02 w12 mNil)) (gSet 3) FB) (q89 2))) [S,.int n']=some (.lst F):=by
 walk_at "ev"
theorem qa5(ok:q28 r taps rows e)(n:Nat)(hn:n<=60):f_y36 [schD r taps rows e,.int n]=some (.lst ((q0f taps rows (n+q0e r e)).map D.int)):=by
 have z4:=q36 ok;have hs:=q95 ok n;have hrow:=qdc ok;have z9:0<(rows.map rowD).length:=by have:=ok.m1;rw[jb];omega
 have s4:∀k,(selK taps rows k).length<=4:=λk=>by unfold selK;refine ju (List.length_filter_le _ _) ?_;rw[xo];have:=ok.t4;have:=xl taps.length (rowAt rows k).length;omega
 obtain⟨ρ',l1,v3,hρ⟩:=q3j (fg:=gSet 3) (fb:=sExt 2 w23)
  (λk ρ=>∃v3,ρ=[some (schD r taps rows e),some (.int (n:Int)),some (.lst ((q0f taps rows k).map D.int)),v3]) (q17 0 (n+q0e r e)) 0
  [some (schD r taps rows e),some (.int (n:Int)),some (.lst []),none] ⟨none,rfl⟩ (λi x ρ hx ⟨v3,hρ⟩=>by
   subst hρ;obtain⟨hi,rfl⟩:=q20 hx;rw[k8,Int.zero_add];have eP:q0f taps rows (i+1)=q0f taps rows i++List.replicate (selK taps rows i).length (i:Int):=q3y _ _;rw[eP,xm,List.map_replicate];have cm:=q3o (n:=1) (js:=[3]) (fg:=gSet 0) (ft:=q0d (mOp2 dEq (mVar 0) (mRet (.int 1)))) (fe:=mVar 1) (ρ:=[some (schD r taps rows e),some (.int (n:Int)),some (.lst ((q0f taps rows i).map D.int)),some (.int (i:Int))])
    (λd=>match d with|.int b=>b==1|_=>false) (λ_=>.int (i:Int)) ((rowAt rows i).map D.int) (λx hx=>by obtain⟨b,_,rfl⟩:=List.mem_map.mp hx;refine⟨[some (.int b),some (.int (i:Int))],rfl,?_,λ_=>rfl⟩;clear hx;walk_at "ev")
   have ec:(((rowAt rows i).map D.int).filter (λd=>match d with|.int b=>b==1|_=>false)).map (λ_=>D.int (i:Int))=List.replicate (selK taps rows i).length (.int (i:Int)):=by
    have e1:∀l:List D,l.map (λ_=>D.int (i:Int))=List.replicate l.length (.int (i:Int)):=λl=>by
     induction l with
     |nil=>rfl
     |cons a l ih=>rw[xh,ih];rfl
    rw[e1,List.filter_map,jb];congr 1;exact q88 taps (rowAt rows i) (qia ok i)
   rw[ec]at cm;have ln:((q0f taps rows i).map D.int).length+(List.replicate (selK taps rows i).length (D.int (i:Int))).length<=sizeLine:=by have q1:(q0f taps rows i).length<=i*4:=q42 _ 4 (λk=>by rw[jx];exact s4 k) i;have q2:=s4 i;rw[jb,jx];exact q1c (by omega)
   have hr:=hrow i;have lr:((rowAt rows i).map D.int).length<=sizeLine:=by rw[jb,qia ok];exact q1c (by have:=ok.t4;omega)
   generalize List.replicate (selK taps rows i).length (D.int (i:Int))=RP at cm ln ⊢;generalize (q0f taps rows i).map D.int=F at cm ln ⊢;generalize (rowAt rows i).map D.int=R at hr cm lr;refine⟨_,[some (schD r taps rows e),some (.int (n:Int)),some (.lst (F++RP)),some (.int (i:Int))],rfl,.inl ?_,some (.int (i:Int)),rfl⟩;exact q9f _ _ _ _ _ _ _ lr ln (qg5 _ _ _ _ _ _ _ _ z9 hr) cm)
 subst hρ;rw[q1l,k8]at l1;have bg:big ((n+q0e r e:Nat):Int)=true:=by unfold big;simp;omega
 have z0:0<=sizeLine:=by decide
 have tn:((n+q0e r e:Nat):Int).toNat=n+q0e r e:=jz _;rw[<-tn]at l1;exact qbn _ _ _ _ _ _ z0 hs bg l1
theorem qjd(t:Told)(b:Int)(hb:b=0∨b=1):f_y37 [q0n t,.int b]=some (.int (q3t t b)):=by
 have h1:=t_cg;have h2:=t_cs;have h3:=t_gs;have h4:=t_cc;have h5:=t_gg;cases t with
 | clear c=>
  show f_y37 [.tup [.str "clear",.int c],.int b]=some (.int (if b=c then 0 else 1));unfold f_y37 qc4;by_cases h:b=c
  ·rw[if_pos h];have h':(c==b)=true:=beq_iff_eq.mpr h.symm;clear h hb;walk_at "ev"
  ·rw[if_neg h];have h':(c==b)=false:=beq_eq_false_iff_ne.mpr λq=>h q.symm;have h'':¬c=b:=λq=>h q.symm;clear h hb;walk_at "ev"
 | gap=>
  show f_y37 [.tup [.str "gap"],.int b]=some (.int 0);unfold f_y37 qc4;clear hb;walk_at "ev"
 | soft z o=>
  show f_y37 [.tup [.str "soft",.int z,.int o],.int b]=some (.int (if b=1 then o else z));unfold f_y37 qc4;rcases hb with rfl|rfl
  ·rw[if_neg (by decide)];walk_at "ev"
  ·rw[if_pos rfl];walk_at "ev"
theorem qa6:∀{ys:List D},(∀y∈ys,∃t,y=q0n t)->∃ts:List Told,ys=ts.map q0n
 |[],_=>⟨[],rfl⟩
 | y::ys,h=>by obtain⟨t,rfl⟩:=h y jj;obtain⟨ts,rfl⟩:=qa6 λz hz=>h z (jg _ hz);exact⟨t::ts,rfl⟩
theorem q2d{f g:RhO}{ρ ρ1:Rho}(h:f ρ=some (.nx ρ1)):sSeq f g ρ=g ρ1:=by rw[q9v,h];rfl
theorem qmn{f g:RhO}{ρ ρ1:Rho}{d:D}(h:f ρ=some (.rt d ρ1)):sSeq f g ρ=some (.rt d ρ1):=by rw[q9v,h];rfl
theorem qd6{b:RhO}{n k:Nat}{ds:List D}{d:D}(hl:ds.length=n)(h:∃ρ,b (ds.map some++List.replicate (k-n) none)=some (.rt d ρ)):runP false n k b ds=some d:=by obtain⟨ρ,h⟩:=h;unfold runP;rw[if_pos hl,h]
end
section
variable{r:Int}{taps:List Int}{rows:List (List Int)}{e:Str}
theorem qgd(ts:List Told)(bits:List Int)(hl:ts.length<=1000):f_y20 [.lst (ts.map objD),.tup (bits.map D.int)]=some (.int (qf2 ts bits)):=by
 have hz:zipD (ts.map objD) (bits.map D.int)=(ts.zip bits).map λq=>D.tup [objD q.1,.int q.2]:=by rw[q5k,q4o,jn];rfl
 have cm:∀ρ:Rho,q0z 2 [] none (q2p 2 (q11 (gSet 0) (q11 (gSet 1) q2y))) (mRet true) w06 ((ts.zip bits).map λq=>D.tup [objD q.1,.int q.2]) ρ=some (((ts.zip bits).map λq=>q3t q.1 q.2).map D.int,ρ):=λρ=>by
  have:∀zs:List (Told×Int),q0z 2 [] none (q2p 2 (q11 (gSet 0) (q11 (gSet 1) q2y))) (mRet true) w06 (zs.map λq=>D.tup [objD q.1,.int q.2]) ρ=some ((zs.map λq=>q3t q.1 q.2).map D.int,ρ):=λzs=>by
   induction zs with
   |nil=>rfl
   | cons q zs ih=>
    have hg:(q2p 2 (q11 (gSet 0) (q11 (gSet 1) q2y))) (D.tup [objD q.1,.int q.2]) (q50 2 [] ρ)=some [some (objD q.1),some (.int q.2)]:=rfl;rw[xh];unfold q0z;rw[hg];dsimp only[mRet];rw[qjw q.1 q.2];dsimp only[q4n];rw[ih];rfl
  exact this _
 have ll:((ts.zip bits).map λq=>D.tup [objD q.1,.int q.2]).length<=sizeLine:=by rw[jb,xo];exact q1c (by have:=xl ts.length bits.length;omega)
 have hi:=q3n ((ts.zip bits).map λq=>q3t q.1 q.2);unfold f_y20 qhw qf2;generalize (ts.zip bits).map (λq=>D.tup [objD q.1,.int q.2])=Z at hz cm ll;generalize (ts.zip bits).map (λq=>q3t q.1 q.2)=Y at cm hi ⊢;generalize ts.map objD=TS at hz ⊢;generalize bits.map D.int=B at hz ⊢;generalize Y.map D.int=YD at cm hi;clear hl;walk_at "ev"
theorem qjk(S T:D)(n' N:Int)(hs:f_y8 [S,.int n']=some (.int N))(bg:big N=true):qbw [some S,some (.int n'),some T,none,none,none]=some (q17 0 N.toNat,[some S,some (.int n'),some T,none,none,none]):=by unfold qbw;walk_at "ev"
theorem qmz(S:D)(n':Int)(T P Z:List D)(hp:f_y9 [S,.int n']=some (.lst P))(hz:zipD P T=Z):(mZip (q02 w16 (q02 (mVar 2) mNil))) [some S,some (.int n'),some (.lst T),none,none,none]=some (Z,[some S,some (.int n'),some (.lst T),none,none,none]):=by walk_at "ev"
theorem qn0(S T u t o:D)(n':Int)(h:f_y18 [t]=some o):(q02 (q0l f_y18 (q02 (mVar 5) mNil)) mNil) [some S,some (.int n'),some T,none,some u,some t]=some ([o],[some S,some (.int n'),some T,none,some u,some t]):=by walk_at "ev"
theorem qr0(ok:q28 r taps rows e)(n:Nat)(hn:n<=60)(h:e="ring"->r.toNat<=n)(ts:List Told)(hl:ts.length=(q0f taps rows (n+q0e r e)).length):
 f_y21 [schD r taps rows e,.int n,.lst (ts.map q0n)]=some (.lst ((List.range (n+q0e r e)).map λk=>D.lst ((chunk taps rows ts k).map objD))):=by
 have z4:=q36 ok;have hs:=qdo ok n h;have hp:=qaf ok n hn h;have s4:∀k,(selK taps rows k).length<=4:=λk=>by unfold selK;refine ju (List.length_filter_le _ _) ?_;rw[xo];have:=ok.t4;have:=xl taps.length (rowAt rows k).length;omega
 have q1:(q0f taps rows (n+q0e r e)).length<=(n+q0e r e)*4:=q42 _ 4 (λk=>by rw[jx];exact s4 k) _;have bg:big ((n+q0e r e:Nat):Int)=true:=by unfold big;simp;omega
 have hi:=qjk (schD r taps rows e) (.lst (ts.map q0n)) n _ hs bg;rw[jz]at hi;have hz:zipD ((q0f taps rows (n+q0e r e)).map D.int) (ts.map q0n)=((q0f taps rows (n+q0e r e)).zip ts).map λq=>D.tup [.int q.1,q0n q.2]:=by rw[q5k,q4o,jn];rfl
 have hzz:=qmz (schD r taps rows e) n (ts.map q0n) _ _ hp hz;obtain⟨u',v',hr⟩:=qa8 (i:=3) (a:=4) (b:=5) (fe:=mVar 4) (fs:=q02 (q0l f_y18 (q02 (mVar 5) mNil)) mNil) q0n objD (λu v=>[some (schD r taps rows e),some (.int n),some (.lst (ts.map q0n)),none,u,v]) (λ_ _=>rfl) (λ_ _ _ _=>rfl) (λ_ _=>rfl) (λk t=>qn0 _ _ _ _ _ _ (qge t))
  ((q0f taps rows (n+q0e r e)).zip ts) (List.replicate (n+q0e r e) []) none none (λq hq=>by
    have hm:=(List.of_mem_zip hq).1;unfold q0f at hm;obtain⟨k,hk,hm⟩:=List.mem_flatMap.mp hm;rw[List.eq_of_mem_replicate hm,jx];exact⟨by omega,by rw[jz];exact List.mem_range.mp hk⟩) (λg hg=>by
    rw[List.eq_of_mem_replicate hg,xo];have:=xl (q0f taps rows (n+q0e r e)).length ts.length;exact jm (by simp;omega:_<1000) (by decide))
 rw[q8d (n+q0e r e) (by omega),List.map_replicate,jn]at hr;show q4y (q8t _)=_;have hD:q8t [schD r taps rows e,.int n,.lst (ts.map q0n)]=some ((List.range (n+q0e r e)).map ((λg=>g.map objD)∘chunk taps rows ts)):=by
  unfold q8t q7m;refine(if_pos rfl).trans ?_;show(match qbw [some (schD r taps rows e),some (.int n),some (.lst (ts.map q0n)),none,none,none]with
   | some (xs,ρ1)=>if 3<ρ1.length/\xs.length<=sizeLine then(match qc6 (ρ1.set 3 none) (List.replicate xs.length [])with
    |some p=>some p.2
    |none=>none)else none
   |none=>none)=_
  rw[hi];simp only;rw[if_pos ⟨by simp,by rw[q1l];exact q1c (by omega)⟩,q1l];have hb:qc6 [some (schD r taps rows e),some (.int n),some (.lst (ts.map q0n)),none,none,none] (List.replicate (n+q0e r e) [])=some ([some (schD r taps rows e),some (.int n),some (.lst (ts.map q0n)),none,u',v'],(List.range (n+q0e r e)).map ((λg=>g.map objD)∘chunk taps rows ts)):=by unfold qc6 q78;rw[hzz];exact(if_pos rfl).trans hr
  have es:([some (schD r taps rows e),some (.int n),some (.lst (ts.map q0n)),none,none,none]:Rho).set 3 none=[some (schD r taps rows e),some (.int n),some (.lst (ts.map q0n)),none,none,none]:=rfl;rw[es,hb]
 rw[hD];show some (D.lst _)=some (D.lst _);rw[jn];rfl
theorem qot(S:D)(k' room bit nx c:Int)(G S2 P:List D)(two:2<=sizeLine)(h1:f_y3 [S,.int room,.int bit]=some (.tup [.int nx,.tup S2]))(h2:f_y4 [S,.int k',.tup S2]=some (.tup P))(h3:f_y20 [.lst G,.tup P]=some (.int c)):f_y22 [S,.int k',.lst G,.int room,.int bit]=some (.tup [.int nx,.int c]):=by unfold f_y22 qhv;walk_at "ev"
theorem qqz(ok:q28 r taps rows e)(k:Nat)(ts:List Told)(hl:(chunk taps rows ts k).length<=1000)(room bit:Int)(a0:0<=room)(a1:room<2^r.toNat)(hb:bit=0∨bit=1):f_y22 [schD r taps rows e,.int k,.lst ((chunk taps rows ts k).map objD),.int room,.int bit]=some (mvD (mvK r taps rows ts k room bit)):=
 qot _ _ _ _ _ _ _ _ _ (by decide) (p_y3 ok room bit a0 a1 hb) (qae ok k _ (by rw[jb];have:=ok.t4;omega)) (qgd _ _ hl)
theorem qox(S:D)(k' room:Int)(G BS YS:List D)(ll:BS.length<=sizeLine)(cm:q0z 1 [0,1,2,3] none (gSet 0) (mRet true) (q0l f_y22 w0o) BS [some S,some (.int k'),some (.lst G),some (.int room),some (.tup BS)]=some (YS,[some S,some (.int k'),some (.lst G),some (.int room),some (.tup BS)])):f_y23 [S,.int k',.lst G,.int room,.tup BS]=some (.lst YS):=by unfold f_y23 qhu;walk_at "ev"
theorem qoy(S:D)(k' room b:Int)(G:List D)(y:D)(h:f_y22 [S,.int k',.lst G,.int room,.int b]=some y):((q0l f_y22 w0o) [some (.int b),some S,some (.int k'),some (.lst G),some (.int room)]).map (·.1)=some y:=by walk_at "ev"
theorem p_mf(ok:q28 r taps rows e)(k:Nat)(ts:List Told)(hl:(chunk taps rows ts k).length<=1000)(room:Int)(a0:0<=room)(a1:room<2^r.toNat)(n:Nat):f_y23 [schD r taps rows e,.int k,.lst ((chunk taps rows ts k).map objD),.int room,.tup ((q1z n k).map D.int)]=some (chD ((q1z n k).map λb=>mvK r taps rows ts k room b)):=by
 have l2:(q1z n k).length<=2:=by unfold q1z;split<;>simp
 have hb:∀b∈q1z n k,b=0∨b=1:=by unfold q1z;split<;>simp
 have cm:=q4b (n:=1) (js:=[0,1,2,3]) (fg:=gSet 0) (fe:=q0l f_y22 w0o)
  (ρ:=[some (schD r taps rows e),some (.int k),some (.lst ((chunk taps rows ts k).map objD)),some (.int room),some (.tup ((q1z n k).map D.int))]) (λd=>match d with|.int b=>mvD (mvK r taps rows ts k room b)|d=>d) ((q1z n k).map D.int) (λx hx=>by obtain⟨b,hm,rfl⟩:=List.mem_map.mp hx;exact⟨_,rfl,qoy _ _ _ _ _ _ (qqz ok k ts hl room b a0 a1 (hb b hm))⟩)
 rw[jn]at cm;have:=qox _ _ _ _ _ _ (q1c (by rw[jb];omega)) cm;rw[this];unfold chD;rw[jn];rfl
theorem qgm(S T:D)(n' k':Int)(F:List D)(g:D)(v6:Option D)(two:2<=sizeLine)(n k:Nat)(hn:n'=(n:Nat))(hk:k'=(k:Nat)):w35 [some S,some (.int n'),some T,some (.lst F),some (.int k'),some g,v6]=some (.nx [some S,some (.int n'),some T,some (.lst F),some (.int k'),some g,some (.tup ((q1z n k).map D.int))]):=by
 have one:1<=sizeLine:=by decide
 unfold q1z;by_cases h:k<n
 ·have h':k'<n':=by omega
  rw[if_pos h];show _=some (Out.nx [_,_,_,_,_,_,some (.tup [.int 0,.int 1])]);clear hn hk h;walk_at "ev"
 ·have h':¬k'<n':=by omega
  rw[if_neg h];show _=some (Out.nx [_,_,_,_,_,_,some (.tup [.int 0])]);clear hn hk h;walk_at "ev"
theorem qkg(S T:D)(n' k' M:Int)(F YS:List D)(g bs:D)(FE:RhD)(hr:f_y1 [S]=some (.int M))(bg:big M=true)(l1:(q17 0 M.toNat).length<=sizeLine)(l2:F.length<sizeLine)
 (cm:q0z 1 [0,4,5,6] none (gSet 0) (mRet true) FE (q17 0 M.toNat) [some S,some (.int n'),some T,some (.lst F),some (.int k'),some g,some bs]=some (YS,[some S,some (.int n'),some T,some (.lst F),some (.int k'),some g,some bs])):
 (sMut q2q 3 (q02 (mOf (q1n 1 [0,4,5,6] none w10 (gSet 0) (mRet true) FE)) mNil)) [some S,some (.int n'),some T,some (.lst F),some (.int k'),some g,some bs]=some (.nx [some S,some (.int n'),some T,some (.lst (F++[.lst YS])),some (.int k'),some g,some bs]):=by
 walk_at "ev"
theorem qkf(S:D)(k' room:Int)(g bs y:D)(h:f_y23 [S,.int k',g,.int room,bs]=some y):((q0l f_y23 w0p) [some (.int room),some S,some (.int k'),some g,some bs]).map (·.1)=some y:=by walk_at "ev"
theorem qke(S:D)(n':Int)(T G F:List D)(v4 v5 v6:Option D)(FB:RhO)(z0:0<=sizeLine)(hc:f_y19 [S,.int n',.lst T]=some .non)(hg:f_y21 [S,.int n',.lst T]=some (.lst G))
 (l1:q27 (q2p 2 (q11 (gSet 4) (q11 (gSet 5) q2y))) FB (q6l G) [some S,some (.int n'),some (.lst T),some (.lst []),none,none,none]=some (.nx [some S,some (.int n'),some (.lst T),some (.lst F),v4,v5,v6])):
 (runP false 3 7 (sSeq (q6q (q0l f_y19 w07)) (sSeq (sOwn 3 (mLst mNil)) (sSeq (sFor (qed (q0l f_y21 w07)) (q2p 2 (q11 (gSet 4) (q11 (gSet 5) q2y))) FB) (sRet (mVar 3)))))) [S,.int n',.lst T]=some (.lst F):=by
 walk_at "ev"
theorem qqy(ok:q28 r taps rows e)(n:Nat)(hn:n<=60)(h:e="ring"->r.toNat<=n)(ts:List Told)(hl:ts.length=(q0f taps rows (n+q0e r e)).length):
 f_y24 [schD r taps rows e,.int n,.lst (ts.map q0n)]=some (stD (q21 r taps rows ts n 0 (n+q0e r e))):=by
 have z4:=q36 ok;have p16:=q3b ok.r0 ok.r4;have hc:=qgg ok n hn h (ts.map q0n) (by rw[jb];exact hl);have hg:=qr0 ok n hn h ts hl;have hr:=p_y1 ok;have pn:=q32 (r:=r);have s4:∀k,(selK taps rows k).length<=4:=λk=>by unfold selK;refine ju (List.length_filter_le _ _) ?_;rw[xo];have:=ok.t4;have:=xl taps.length (rowAt rows k).length;omega
 have c4:∀k,(chunk taps rows ts k).length<=1000:=λk=>by unfold chunk;rw[xu];have:=s4 k;omega
 have bg:big ((2:Int)^r.toNat)=true:=by unfold big;simp;omega
 have tn:((2:Int)^r.toNat).toNat=2^r.toNat:=by omega
 have lr:(q17 0 ((2:Int)^r.toNat).toNat).length<=sizeLine:=by rw[q1l,tn];exact q1c (by omega)
 obtain⟨ρ',l1,v4,v5,v6,hρ⟩:=q3j (fg:=q2p 2 (q11 (gSet 4) (q11 (gSet 5) q2y))) (fb:=w1p)
  (λk ρ=>∃v4 v5 v6,ρ=[some (schD r taps rows e),some (.int (n:Int)),some (.lst (ts.map q0n)),some (.lst ((q21 r taps rows ts n 0 k).map sxD)),v4,v5,v6]) (q6l ((List.range (n+q0e r e)).map λk=>D.lst ((chunk taps rows ts k).map objD))) 0
  [some (schD r taps rows e),some (.int (n:Int)),some (.lst (ts.map q0n)),some (.lst []),none,none,none] ⟨none,none,none,rfl⟩ (λi x ρ hx ⟨v4,v5,v6,hρ⟩=>by
   subst hρ;rw[q8u,jk]at hx;have hi:i<n+q0e r e:=by
    rcases Nat.lt_or_ge i (n+q0e r e)with z|z
    ·exact z
    ·rw[xy (by simp;omega)]at hx;cases hx
   rw[xr hi]at hx;have hx:x=D.tup [.int (i:Int),.lst ((chunk taps rows ts i).map objD)]:=(jh hx).symm;subst hx;rw[k8];have cm:=q4b (n:=1) (js:=[0,4,5,6]) (fg:=gSet 0) (fe:=q0l f_y23 w0p)
    (ρ:=[some (schD r taps rows e),some (.int (n:Int)),some (.lst (ts.map q0n)),some (.lst ((q21 r taps rows ts n 0 i).map sxD)),some (.int (i:Int)),some (.lst ((chunk taps rows ts i).map objD)),some (.tup ((q1z n i).map D.int))])
    (λd=>match d with|.int room=>chD ((q1z n i).map λb=>mvK r taps rows ts i room b)|d=>d) (q17 0 ((2:Int)^r.toNat).toNat) (λx hx=>by obtain⟨k,hk⟩:=List.mem_iff_getElem?.mp hx;obtain⟨hk1,rfl⟩:=q20 hk;rw[Int.zero_add];exact⟨_,rfl,qkf _ _ _ _ _ _ (p_mf ok i ts (c4 i) (k:Int) (by omega) (by omega) n)⟩)
   have ey:(q17 0 ((2:Int)^r.toNat).toNat).map (λd=>match d with|.int room=>chD ((q1z n i).map λb=>mvK r taps rows ts i room b)|d=>d)=(stepK r taps rows ts n i).map chD:=by unfold q17 L2.stepK;rw[tn,jn,jn];refine List.map_congr_left λk _=>?_;simp
   rw[ey]at cm;have es:q21 r taps rows ts n 0 (i+1)=q21 r taps rows ts n 0 i++[stepK r taps rows ts n i]:=by unfold q21;rw[List.range'_concat,xm];simp
   have lf:((q21 r taps rows ts n 0 i).map sxD).length<sizeLine:=by unfold q21;rw[jb,jb,List.length_range'];exact jm (by omega:i<1000) (by decide)
   refine⟨_,[some (schD r taps rows e),some (.int (n:Int)),some (.lst (ts.map q0n)),some (.lst ((q21 r taps rows ts n 0 (i+1)).map sxD)),some (.int (i:Int)),some (.lst ((chunk taps rows ts i).map objD)),some (.tup ((q1z n i).map D.int))],rfl,.inl ?_,_,_,_,rfl⟩;refine(q2d (qgm _ _ _ _ _ _ _ (by decide) n i rfl rfl)).trans ?_;rw[es,xm];exact qkg _ _ _ _ _ _ _ _ _ _ hr bg lr lf cm)
 subst hρ;have le:(q6l ((List.range (n+q0e r e)).map λk=>D.lst ((chunk taps rows ts k).map objD))).length=n+q0e r e:=by unfold q6l;simp
 rw[le,k8]at l1;unfold f_y24 qht stD;exact qke _ _ _ _ _ _ _ _ _ (by decide) hc hg l1
end
theorem qlj(a c x:Int)(B:List D)(h:atI B a=some (.int x)):f_y26 [.tup [.int a,.int c],.lst B]=some (.int (c+x)):=by unfold f_y26 qfc;walk_at "ev"
theorem qlk(a c:Int)(B:List D)(h:atI B a=some .non):f_y26 [.tup [.int a,.int c],.lst B]=some .non:=by unfold f_y26 qfc;walk_at "ev"
theorem q81{t:Rw}{a:Int}(h0:0<=a)(h1:a.toNat<t.length):atI (t.map optI) a=some (optI (atR t a)):=by rw[q52 h0 (by rw[jb];omega),jk];unfold atR;rw[jt h1];rfl
theorem qgf(q:Mv)(t:Rw)(h0:0<=q.1)(h1:q.1.toNat<t.length):f_y26 [mvD q,rwD t]=some (optI (q2z q t)):=by
 have h:=q81 h0 h1;unfold q2z;cases e:atR t q.1 with
 | none=>
  rw[e]at h;exact qlk _ _ _ h
 | some x=>
  rw[e]at h;exact qlj _ _ _ _ h
theorem qp2(q zf y:D)(h:f_y26 [q,zf]=some y):((q0l f_y26 (q02 (mVar 0) (q02 (mVar 1) mNil))) [some q,some zf]).map (·.1)=some y:=by walk_at "ev"
theorem qp1(CH YS ZS:List D)(zf m:D)(l1:CH.length<=sizeLine)(l2:YS.length<=sizeLine)(cm:q0z 1 [1] none (gSet 0) (mRet true) (q0l f_y26 (q02 (mVar 0) (q02 (mVar 1) mNil))) CH [some (.lst CH),some zf,none]=some (YS,[some (.lst CH),some zf,none]))
 (cf:q0z 1 [] none (gSet 0) (q0d (mOp2 q43 (mVar 0) (mRet .non))) (mVar 0) YS [some (.lst CH),some zf,some (.lst YS)]=some (ZS,[some (.lst CH),some zf,some (.lst YS)])) (hm:q6m (.lst ZS)=some m):f_y27 [.lst CH,zf]=some m:=by
 unfold f_y27 qhr;generalize hd:q6m=dm at hm ⊢;walk_at "ev"
theorem q5o:∀ys:List (Option Int),((ys.map optI).filter λd=>match d with|.non=>false|_=>true)=(ys.filterMap id).map D.int
 |[]=>rfl
 | none::ys=>by rw[xh,List.filter_cons];exact q5o ys
 | some x::ys=>by rw[xh,List.filter_cons];show D.int x::_=D.int x::_;rw[q5o ys]
theorem q8h(ch:List Mv)(t:Rw)(hl:ch.length<=1000)(h:∀q∈ch,0<=q.1/\q.1.toNat<t.length):f_y27 [chD ch,rwD t]=some (optI (q3h ch t)):=by
 have cm:=q4b (n:=1) (js:=[1]) (fg:=gSet 0) (fe:=q0l f_y26 (q02 (mVar 0) (q02 (mVar 1) mNil))) (ρ:=[some (chD ch),some (rwD t),none])
  (λd=>match d with|.tup [.int a,.int c]=>optI (q2z (a,c) t)|d=>d) (ch.map mvD) (λx hx=>by obtain⟨q,hq,rfl⟩:=List.mem_map.mp hx;exact⟨_,rfl,qp2 _ _ _ (qgf q t (h q hq).1 (h q hq).2)⟩)
 have e1:(ch.map mvD).map (λd=>match d with|.tup [.int a,.int c]=>optI (q2z (a,c) t)|d=>d)=(ch.map λq=>q2z q t).map optI:=by rw[jn,jn];rfl
 rw[e1]at cm;have cf:=q3o (n:=1) (js:=[]) (fg:=gSet 0) (ft:=q0d (mOp2 q43 (mVar 0) (mRet .non))) (fe:=mVar 0) (ρ:=[some (chD ch),some (rwD t),some (.lst ((ch.map λq=>q2z q t).map optI))])
  (λd=>match d with|.non=>false|_=>true) (λd=>d) ((ch.map λq=>q2z q t).map optI) (λx hx=>by
    obtain⟨o,_,rfl⟩:=List.mem_map.mp hx;refine⟨[some (optI o)],rfl,?_,λ_=>rfl⟩;cases o with
    |none=>rfl
    |some y=>rfl)
 have e2:∀zs:List D,zs.map (λd=>d)=zs:=λzs=>by simp
 rw[q5o,e2]at cf;refine qp1 _ _ _ _ _ (q1c (by rw[jb];omega)) (q1c (by rw[jb,jb];omega)) cm cf ?_;show(q4k _).map (λns=>optI (minI ns))=_;rw[q3n];rfl
theorem qix{ch:List Mv}{hh:Rw}{y:D}(h:f_y27 [chD ch,rwD hh]=some y):(match chD ch with|.lst xs=>(match f_y27 [.lst xs,rwD hh]with|some y=>y|none=>.non)|d=>d)=y:=by unfold chD at h ⊢;dsimp only;rw[h]
theorem qqf(ch zf y:D)(h:f_y27 [ch,zf]=some y):((q0l f_y27 (q02 (mVar 0) (q02 (mVar 1) mNil))) [some ch,some zf]).map (·.1)=some y:=by walk_at "ev"
theorem qn2(ST:D)(SS:List D):(mRev (mVar 0)) [some (.lst SS),none,none,none,none]=some (SS.reverse,[some (.lst SS),none,none,none,none]):=by walk_at "ev"
theorem qqe(ST b:D)(CH YS:List D)(FE:RhD)(l1:CH.length<=sizeLine)(cm:q0z 1 [4] none (gSet 0) (mRet true) FE CH [some ST,none,none,some (.lst CH),some b]=some (YS,[some ST,none,none,some (.lst CH),some b])):
 (q1n 1 [4] none (mSeq (mVar 3)) (gSet 0) (mRet true) FE) [some ST,none,none,some (.lst CH),some b]=some (YS,[some ST,none,none,some (.lst CH),some b]):=by
 walk_at "ev"
theorem qcm(t:Rw):scs (t.map optI)=true:=by unfold scs;rw[List.all_map];refine List.all_eq_true.mpr λo _=>?_;cases o<;>rfl
theorem qda(ST:D)(st:Sx)(hh:Rw)(dss:List (List D))(M:Nat)(hM:M<=1000)(hd:hh.length=M)(hst:st.length=M/\∀ch∈st,ch.length<=2/\∀q∈ch,0<=q.1/\q.1.toNat<M)(hl:dss[dss.length-1]? =some (hh.map optI))(hz:dss.length<2000):
 q8r 2 4 q9y [some ST,none,none,some (sxD st),none] dss=some ([some ST,none,none,some (sxD st),none],dss++[(st.map λch=>q3h ch hh).map optI]):=by
 have cm:=q4b (n:=1) (js:=[4]) (fg:=gSet 0) (fe:=q0l f_y27 (q02 (mVar 0) (q02 (mVar 1) mNil))) (ρ:=[some ST,none,none,some (sxD st),some (rwD hh)])
  (λd=>match d with|.lst xs=>(match f_y27 [.lst xs,rwD hh]with|some y=>y|none=>.non)|d=>d) (st.map chD) (λx hx=>by obtain⟨ch,hc,rfl⟩:=List.mem_map.mp hx;have hp:=q8h ch hh (by have:=(hst.2 ch hc).1;omega) (λq hq=>by rw[hd];exact(hst.2 ch hc).2 q hq);refine⟨_,rfl,?_⟩;rw[qix hp];exact qqf _ _ _ hp)
 have ey:(st.map chD).map (λd=>match d with|.lst xs=>(match f_y27 [.lst xs,rwD hh]with|some y=>y|none=>.non)|d=>d)=(st.map λch=>q3h ch hh).map optI:=by rw[jn,jn];refine List.map_congr_left λch hc=>?_;exact qix (q8h ch hh (by have:=(hst.2 ch hc).1;omega) (λq hq=>by rw[hd];exact(hst.2 ch hc).2 q hq))
 rw[ey]at cm;have hc:q9y ([some ST,none,none,some (sxD st),none].set 4 (some (.lst (hh.map optI))))=some ((st.map λch=>q3h ch hh).map optI,[some ST,none,none,some (sxD st),some (rwD hh)]):=qqe _ _ _ _ _ (by rw[jb,hst.1];exact q1c (by omega)) cm;unfold q8r;rw[hl];dsimp only;rw[hc];exact if_pos ⟨rfl,qcm _,jm hz (by decide)⟩
theorem qar{zd:List Sx}{zc:Rw}{M:Nat}(he:zc.length=M)(hs:∀st∈zd,st.length=M):((q1r zd zc).headD []).length=M:=by
 cases zd with
 |nil=>exact he
 | cons st rest=>
  show(st.map _).length=M;rw[jb];exact hs st jj
theorem qdb(ST:D)(zc:Rw)(M:Nat)(hM:M<=1000)(he:zc.length=M):∀(rp post:List Sx) (v3:Option D),rp.length+post.length<=1000->(∀st∈rp,st.length=M/\∀ch∈st,ch.length<=2/\∀q∈ch,0<=q.1/\q.1.toNat<M)->(∀st∈post,st.length=M)->
 ∃ρ',q8q 3 (q8r 2 4 q9y) (rp.map sxD) [some ST,none,none,v3,none] ((q1r post zc).reverse.map λt=>t.map optI)=some (ρ',(q1r (rp.reverse++post) zc).reverse.map λt=>t.map optI)
 |[],post,v3,_,_,_=>⟨_,rfl⟩
 | st::rp,post,v3,hN,hs,hp=>by
  have hla:=q5a post zc;have hd:((q1r post zc).headD []).length=M:=qar he hp;have hlast:((q1r post zc).reverse.map λt=>t.map optI)[((q1r post zc).reverse.map λt=>t.map optI).length-1]? =some (((q1r post zc).headD []).map optI):=by
   generalize q1r post zc=tt at hla;cases tt with
   |nil=>simp at hla
   | cons a b=>
    rw[List.reverse_cons,xm,jy,jb,List.length_reverse,xx (by simp)];simp
  have z9:((q1r post zc).reverse.map λt=>t.map optI).length=post.length+1:=by rw[jb,List.length_reverse,hla]
  have h1:=qda ST st _ _ M hM hd (hs st jj) hlast (by rw[jr]at hN;omega);have eA:(q1r (st::post) zc).reverse.map (λt=>t.map optI)=(q1r post zc).reverse.map (λt=>t.map optI)++[(st.map λch=>q3h ch ((q1r post zc).headD [])).map optI]:=by show(((st.map λch=>q3h ch ((q1r post zc).headD []))::q1r post zc).reverse).map _=_;rw[List.reverse_cons,xm];rfl
  obtain⟨ρ',ih⟩:=qdb ST zc M hM he rp (st::post) (some (sxD st)) (by rw[jr]at hN ⊢;omega) (λz hz=>hs z (jg _ hz)) (λz hz=>by
   rcases List.mem_cons.mp hz with q|q
   ·rw[q];exact(hs st jj).1
   ·exact hp z q)
  refine⟨ρ',?_⟩;rw[List.reverse_cons,List.append_assoc];show(match q8r 2 4 q9y [some ST,none,none,some (sxD st),none] ((q1r post zc).reverse.map λt=>t.map optI)with
   |some p=>q8q 3 (q8r 2 4 q9y) (rp.map sxD) p.1 p.2
   |none=>none)=_
  rw[h1];dsimp only;rw[<-eA];exact ih
theorem qbq(zd:List Sx)(zc:Rw)(M:Nat)(hM:M<=1000)(hN:zd.length<=1000)(he:zc.length=M)(hs:∀st∈zd,st.length=M/\∀ch∈st,ch.length<=2/\∀q∈ch,0<=q.1/\q.1.toNat<M):
 gAB 4 q6p (stD zd) (zc.map optI)=some ((q1r zd zc).map λt=>t.map optI):=by
 obtain⟨ρ',h⟩:=qdb (stD zd) zc M hM he zd.reverse [] none (by rw[List.length_reverse];simpa using hN) (λst hst=>hs st (List.mem_reverse.mp hst)) (λ_ h=>nomatch h);rw[List.reverse_reverse,List.append_nil,List.map_reverse]at h;have e1:q6p (some (stD zd)::List.replicate 4 none) [zc.map optI]=some (ρ',(q1r zd zc).reverse.map λt=>t.map optI):=by unfold q6p qh6;have hr:(mRev (mVar 0)) (some (stD zd)::List.replicate 4 none)=some ((zd.map sxD).reverse,some (stD zd)::List.replicate 4 none):=qn2 .non (zd.map sxD);rw[hr];exact(if_pos rfl).trans h
 unfold gAB;rw[e1];dsimp only;rw[<-List.map_reverse,List.reverse_reverse]
section
variable{r:Int}{taps:List Int}{rows:List (List Int)}{e:Str}
theorem qjl{b:RhO}{n k:Nat}{ds:List D}{F:List D}(hl:ds.length=n)(h:∃ρ,b (ds.map some++List.replicate (k-n) none)=some (.rt (.lst F) ρ)):runP true n k b ds=some (.lst F):=by obtain⟨ρ,h⟩:=h;unfold runP;rw[if_pos hl,h]
theorem o_oo:eqD (.str "open") (.str "open")=some true:=by rw[q2j (by decide+kernel) (by decide+kernel)];decide+kernel
theorem o_eo:eqD (.str "ended") (.str "open")=some false:=by rw[q2j (by decide+kernel) (by decide+kernel)];decide+kernel
theorem o_ro:eqD (.str "ring") (.str "open")=some false:=by rw[q2j (by decide+kernel) (by decide+kernel)];decide+kernel
theorem qlf(R TS RS:D)(s M:Int)(Y:List D)(h:eqD (.str e) (.str "open")=some true)(hr:f_y1 [.tup [R,TS,RS,.str e]]=some (.int M))(hy:repO [.int 0] (.int M)=some Y)(one:1<=sizeLine):f_y25 [.tup [R,TS,RS,.str e],.int s]=some (.lst Y):=by
 unfold f_y25 qhs;have hrep:(mRep (mLst (q02 (mRet (.int 0)) mNil)) (q0l f_y1 (q02 (mVar 0) mNil))) [some (.tup [R,TS,RS,.str e]),some (.int s),none]=some (Y,[some (.tup [R,TS,RS,.str e]),some (.int s),none]):=by
  refine qib (xs:=[.int 0]) (y:=.int M) (ρ1:=[some (.tup [R,TS,RS,.str e]),some (.int s),none]) ?_ ?_ hy
  ·clear hy h hr;walk_at "ev"
  ·clear hy h;walk_at "ev"
 generalize (mRep (mLst (q02 (mRet (.int 0)) mNil)) (q0l f_y1 (q02 (mVar 0) mNil)))=FR at hrep ⊢;clear hy hr;walk_at "ev"
theorem qq4(room en:Int):(w0v [some (.int room),some (.int en)]).map (·.1)=some (optI (if room=en then some 0 else none)):=by
 by_cases h:room=en
 ·subst h;rw[if_pos rfl];walk_at "ev"
 ·have h':(room==en)=false:=beq_eq_false_iff_ne.mpr h;rw[if_neg h];walk_at "ev"
theorem ec_0(R TS RS:D)(s:Int)(FR:RhO)(h:eqD (.str e) (.str "open")=some false):(sIf w08 FR sNil) [some (.tup [R,TS,RS,.str e]),some (.int s),none]=some (.nx [some (.tup [R,TS,RS,.str e]),some (.int s),none]):=by walk_at "ev"
theorem ec_1(S:D)(s en:Int)(b:Bool)(hb:f_y5 [S]=some (.bl b))(hen:en=(if b=true then s else 0)):w29 [some S,some (.int s),none]=some (.nx [some S,some (.int s),some (.int en)]):=by
 cases b with
 | true=>
  have hen:en=s:=hen;rw[hen];clear hen;walk_at "ev"
 | false=>
  have hen:en=0:=hen;rw[hen];clear hen;walk_at "ev"
theorem ec_2(S:D)(s M en:Int)(Y:List D)(FE:RhD)(hr:f_y1 [S]=some (.int M))(bg:big M=true)(l1:(q17 0 M.toNat).length<=sizeLine)(cm:q0z 1 [2] none (gSet 0) (mRet true) FE (q17 0 M.toNat) [some S,some (.int s),some (.int en)]=some (Y,[some S,some (.int s),some (.int en)])):
 (q7k (q1n 1 [2] none w10 (gSet 0) (mRet true) FE)) [some S,some (.int s),some (.int en)]=some (.rt (.lst Y) [some S,some (.int s),some (.int en)]):=by
 walk_at "ev"
theorem qhd(R TS RS:D)(s M en:Int)(b:Bool)(Y:List D)(h:eqD (.str e) (.str "open")=some false)(hb:f_y5 [.tup [R,TS,RS,.str e]]=some (.bl b))(hen:en=(if b=true then s else 0))(hr:f_y1 [.tup [R,TS,RS,.str e]]=some (.int M))(bg:big M=true)(l1:(q17 0 M.toNat).length<=sizeLine)
 (cm:q0z 1 [2] none (gSet 0) (mRet true) w0v (q17 0 M.toNat) [some (.tup [R,TS,RS,.str e]),some (.int s),some (.int en)]=some (Y,[some (.tup [R,TS,RS,.str e]),some (.int s),some (.int en)])):
 f_y25 [.tup [R,TS,RS,.str e],.int s]=some (.lst Y):=by
 refine qjl rfl ⟨[some (.tup [R,TS,RS,.str e]),some (.int s),some (.int en)],?_⟩;refine(q2d (ec_0 _ _ _ _ _ h)).trans ?_;exact(q2d (ec_1 _ _ _ _ hb hen)).trans (ec_2 _ _ _ _ _ _ hr bg l1 cm)
theorem qng(ok:q28 r taps rows e)(s:Int):f_y25 [schD r taps rows e,.int s]=some (rwD (q3k r e s)):=by
 have p16:=q3b ok.r0 ok.r4;have pn:=q32 (r:=r);have hr:=p_y1 ok;have hb:=qdp ok;have tn:((2:Int)^r.toNat).toNat=2^r.toNat:=by omega
 unfold rwD q3k;rw[jn];by_cases q:e="open"
 ·subst q;have hy:repO [D.int 0] (.int (2^r.toNat))=some (List.replicate (2^r.toNat) (.int 0)):=by rw[qde _ (by omega) (by omega),tn]
  have h1:f_y25 [schD r taps rows "open",.int s]=some (.lst (List.replicate (2^r.toNat) (.int 0))):=qlf (e:="open") (.int r) (.tup (taps.map D.int)) (.tup (rows.map rowD)) s (2^r.toNat) _ o_oo hr hy (by decide);rw[h1];refine congrArg (λx=>some (D.lst x)) ?_;apply List.ext_getElem?;intro i;by_cases h:i<2^r.toNat
  ·rw[jk,xr h,kc,if_pos h];simp[optI]
  ·rw[xy (by simp;omega),xy (by simp;omega)]
 ·have ho:eqD (.str e) (.str "open")=some false:=by
   rcases ok.en with h|h|h
   ·exact absurd h q
   ·rw[h];exact o_eo
   ·rw[h];exact o_ro
  have bg:big ((2:Int)^r.toNat)=true:=by unfold big;simp;omega
  have cm:=q4b (n:=1) (js:=[2]) (fg:=gSet 0) (fe:=w0v) (ρ:=[some (schD r taps rows e),some (.int s),some (.int (if isRing e=true then s else 0))]) (λd=>match d with|.int room=>optI (if room=(if isRing e=true then s else 0)then some 0 else none)|d=>d) (q17 0 ((2:Int)^r.toNat).toNat) (λx hx=>by obtain⟨k,hk⟩:=List.mem_iff_getElem?.mp hx;obtain⟨hk1,rfl⟩:=q20 hk;exact⟨_,rfl,qq4 _ _⟩)
  have h1:=qhd (e:=e) (.int r) (.tup (taps.map D.int)) (.tup (rows.map rowD)) s (2^r.toNat) _ (isRing e) _ ho hb rfl hr bg (by rw[q1l,tn];exact q1c (by omega)) cm;refine(show f_y25 [schD r taps rows e,.int s]=_ from h1).trans ?_;refine congrArg (λx=>some (D.lst x)) ?_;unfold q17;rw[tn,jn];refine List.map_congr_left λk _=>?_;refine congrArg optI ?_;have e1:(if isRing e=true then s else 0)=(if e="ring" then s else 0):=by
   unfold isRing;by_cases z:e="ring"
   ·simp[z]
   ·simp[z]
  rw[e1,Int.zero_add];show(if((k:Nat):Int)=(if e="ring" then s else 0)then some 0 else none)=if e="open"∨((k:Nat):Int)=(if e="ring" then s else 0)then some 0 else none
  generalize (if e="ring" then s else 0)=E;by_cases z:((k:Nat):Int)=E
  ·rw[if_pos z,if_pos (Or.inr z)]
  ·rw[if_neg z,if_neg (λh=>Or.elim h (λh=>q h) λh=>z h)]
end
section
variable{r:Int}{taps:List Int}{rows:List (List Int)}{e:Str}
theorem qjj(c top r x0 x1 x6 x13 tn mn:Int)(e:Str)(X YS ZS TS RS:List D)(v7:Option D)(two:2<=sizeLine)(four:4<=sizeLine)(five:5<=sizeLine)(six:6<=sizeLine)(z0:0<=sizeLine)(ll:YS.length<=sizeLine)(tp:0<top+1)(hr:x1 % (top+1)=r)
 (hm:f_y31 [.int c,.int 14]=some (.lst X)) (a0:atI X 0=some (.int x0)) (a1:atI X 1=some (.int x1)) (a6:atI X 6=some (.int x6)) (a13:atI X 13=some (.int x13))
 (ee:atI [D.str "open",.str "ended",.str "ring",.str "ended"] (x0 % 4)=some (.str e)) (et:atI [D.int 1,.int 0,.int 2,.int 1,.int 3] (x6 % 5)=some (.int tn)) (em:atI [D.int 1,.int 2,.int 4,.int 3,.int 5,.int 6] (x13 % 6)=some (.int mn))
 (sl1:dSl (.lst X) (some 2) (some (3+tn))=some (.lst YS)) (sl2:dSl (.lst X) (some 7) (some (7+mn))=some (.lst ZS))
 (c1:q0z 1 [4] none (gSet 0) (mRet true) (mOp2 dMod (mVar 0) (mOp2 dShl (mRet (.int 2)) (mVar 1))) YS [some (.int c),some (.int top),some (.lst X),some (.str e),some (.int r),none,none,none]=some (TS,[some (.int c),some (.int top),some (.lst X),some (.str e),some (.int r),none,none,none]))
 (f1:q27 (gSet 7) (sMut q2q 6 w02) ZS [some (.int c),some (.int top),some (.lst X),some (.str e),some (.int r),some (.tup TS),some (.lst []),none]=some (.nx [some (.int c),some (.int top),some (.lst X),some (.str e),some (.int r),some (.tup TS),some (.lst RS),v7])):
 f_y32 [.int c,.int top]=some (.tup [.int r,.tup TS,.tup RS,.str e]):=by
 unfold f_y32 qhp;walk_at "ev"
theorem q96(c top:Int)(t0:0<=top)(t4:top<=4):∃r taps rows e,f_y32 [.int c,.int top]=some (schD r taps rows e)/\q28 r taps rows e:=by
 obtain⟨xs,hm0,hl,hx⟩:=q7g c 14 (by decide);have hm:f_y31 [.int c,.int 14]=some (.lst (xs.map D.int)):=hm0;have at_:∀k:Nat,k<14->∃x:Int,atI (xs.map D.int) (k:Int)=some (.int x)/\0<=x:=λk hk=>by
  have h1:k<xs.length:=by omega
  refine⟨xs[k],?_,(hx _ (k6 h1)).1⟩;rw[q52 (by omega) (by rw[jb];omega),jz,jk,jt h1];rfl
 obtain⟨x0,b0,p0⟩:=at_ 0 (by decide);have a0:atI (xs.map D.int) 0=some (.int x0):=b0;obtain⟨x1,b1,p1⟩:=at_ 1 (by decide);have a1:atI (xs.map D.int) 1=some (.int x1):=b1;obtain⟨x6,b6,p6⟩:=at_ 6 (by decide);have a6:atI (xs.map D.int) 6=some (.int x6):=b6;obtain⟨x13,b13,p13⟩:=at_ 13 (by decide);have a13:atI (xs.map D.int) 13=some (.int x13):=b13;obtain⟨e,ee,he⟩:=qqt (j:=x0 % 4) (by omega) (by omega);obtain⟨tn,et,ht3⟩:=qqx (j:=x6 % 5) (by omega) (by omega);obtain⟨mn,em,hm1,hm6⟩:=qqw (j:=x13 % 6) (by omega) (by omega);have tp:0<top+1:=by omega
 generalize hr:x1 % (top+1)=r;have r0:0<=r:=by rw[<-hr];exact Int.emod_nonneg _ (by omega)
 have r4:r<=4:=by have:=Int.emod_lt_of_pos x1 tp;omega
 have r6:r<=1000000:=by omega
 have zy:(0:Int)<2*2^r.toNat:=Int.mul_pos (by decide) (Int.pow_pos (by decide))
 -- taps
 have sl1:dSl (.lst (xs.map D.int)) (some 2) (some (3+(tn:Int)))=some (.lst (((xs.drop 2).take (3+tn-2)).map D.int)):=by show some (D.lst (cutD (xs.map D.int) (some ((2:Nat):Int)) (some (3+(tn:Int)))))=_;rw[show(3+(tn:Int))=((3+tn:Nat):Int)from by omega,qax xs 2 (3+tn) (by omega) (by omega)]
 generalize hy1:(xs.drop 2).take (3+tn-2)=ys at sl1;have ly:ys.length=1+tn:=by rw[<-hy1,xu,kg];omega
 obtain⟨ts,c1,c2,c3⟩:=qhg (n:=1) (js:=[4]) (fg:=gSet 0) (fe:=mOp2 dMod (mVar 0) (mOp2 dShl (mRet (.int 2)) (mVar 1))) (ρ:=[some (.int c),some (.int top),some (.lst (xs.map D.int)),some (.str e),some (.int r),none,none,none])
  (λy=>∃t:Int,y=.int t/\0<=t/\t<2*2^r.toNat) (ys.map D.int) (λx hx'=>by obtain⟨y,_,rfl⟩:=List.mem_map.mp hx';refine⟨[some (.int y),some (.int r)],.int (y % (2*2^r.toNat)),rfl,?_,_,rfl,Int.emod_nonneg _ (by omega),Int.emod_lt_of_pos _ zy⟩;generalize xs.map D.int=X;clear hx' a0 a1 a6 a13 b0 b1 b6 b13 hm0 ee et em sl1 hm at_ hx hl hy1 ly hr;walk_at "ev")
 obtain⟨taps,rfl,tb⟩:=q9t c3;rw[jb,jb,ly]at c2
 -- rows
 have sl2:dSl (.lst (xs.map D.int)) (some 7) (some (7+(mn:Int)))=some (.lst (((xs.drop 7).take (7+mn-7)).map D.int)):=by show some (D.lst (cutD (xs.map D.int) (some ((7:Nat):Int)) (some (7+(mn:Int)))))=_;rw[show(7+(mn:Int))=((7+mn:Nat):Int)from by omega,qax xs 7 (7+mn) (by omega) (by omega)]
 generalize hy2:(xs.drop 7).take (7+mn-7)=zs at sl2;have lz:zs.length=mn:=by rw[<-hy2,xu,kg];omega
 have zp:∀z∈zs,0<=z:=λz hz=>by rw[<-hy2]at hz;exact(hx z (List.mem_of_mem_drop (List.mem_of_mem_take hz))).1
 have bgt:big ((taps.map D.int).length:Nat)=true:=by unfold big;rw[jb];simp;omega
 have l5:(q17 0 (taps.map D.int).length).length<=sizeLine:=by rw[q1l,jb];exact q1c (by omega)
 obtain⟨ρ',f1,rows,v7,rfl,lr,hrow⟩:=q3j (fg:=gSet 7) (fb:=sMut q2q 6 w02)
  (λi ρ=>∃(rows:List (List Int)) (v7:Option D),ρ=[some (.int c),some (.int top),some (.lst (xs.map D.int)),some (.str e),some (.int r),some (.tup (taps.map D.int)),some (.lst (rows.map rowD)),v7]/\rows.length=i/\∀row∈rows,row.length=taps.length/\∀b∈row,b=0∨b=1)
  (zs.map D.int) 0 [some (.int c),some (.int top),some (.lst (xs.map D.int)),some (.str e),some (.int r),some (.tup (taps.map D.int)),some (.lst []),none] ⟨[],none,rfl,rfl,λ_ h=>nomatch h⟩ (by
    rintro i x ρ hx' ⟨rows,v7,rfl,lr,hrow⟩;obtain⟨z,hz,rfl⟩:=List.mem_map.mp (xq hx');have hi:i<zs.length:=by have:=(List.getElem?_eq_some_iff.mp hx').1;rwa [jb]at this
    have z0:=zp z hz;obtain⟨bs,g1,g2,g3⟩:=qhg (n:=1) (js:=[7]) (fg:=gSet 0) (fe:=mOp2 dIx (mOf (mLst (q02 (mRet (.int 1)) (q02 (mRet (.int 1)) w0b)))) w1z)
     (ρ:=[some (.int c),some (.int top),some (.lst (xs.map D.int)),some (.str e),some (.int r),some (.tup (taps.map D.int)),some (.lst (rows.map rowD)),some (.int z)])
     (λy=>∃t:Int,y=.int t/\(t=0∨t=1)) (q17 0 (taps.map D.int).length) (λx hx2=>by
       obtain⟨k,hk⟩:=List.mem_iff_getElem?.mp hx2;obtain⟨hk1,rfl⟩:=q20 hk;rw[Int.zero_add];have hs:0<=z / 2^(2*(k:Int)).toNat:=Int.ediv_nonneg z0 (Int.le_of_lt (Int.pow_pos (by decide)));have h3:=qfe hs;obtain⟨t,ht,hb⟩:=qqv h3.1 h3.2;refine⟨[some (.int (k:Int)),some (.int z)],.int t,rfl,?_,t,rfl,hb⟩;have four:4<=sizeLine:=by decide
       have k0:0<=2*(k:Int):=by omega
       clear hk hk1 hx2 hb h3 hs a0 a1 a6 a13 b0 b1 b6 b13 hm0 ee et em sl1 sl2 hm at_ hx hl hy1 hy2 ly lz c1 hr;walk_at "ev")
    obtain⟨row,rfl,hb⟩:=q9t g3;rw[jb,q1l,jb]at g2;have l6:rows.length<sizeLine:=jm (by omega:rows.length<1000) (by decide);refine⟨_,[some (.int c),some (.int top),some (.lst (xs.map D.int)),some (.str e),some (.int r),some (.tup (taps.map D.int)),some (.lst ((rows++[row]).map rowD)),some (.int z)],rfl,.inl ?_,rows++[row],_,rfl,by rw[jy,lr];simp,λq hq=>?_⟩
    ·rw[xm];have lq:(rows.map rowD).length<sizeLine:=by rw[jb];exact l6
     show _=some (Out.nx [_,_,_,_,_,_,some (.lst (rows.map rowD++[.tup (row.map D.int)])),_]);have hrng:(q2k (q02 (mOp1 dLen (mVar 5)) mNil)) [some (.int c),some (.int top),some (.lst (xs.map D.int)),some (.str e),some (.int r),some (.tup (taps.map D.int)),some (.lst (rows.map rowD)),some (.int z)]=some (q17 0 (taps.map D.int).length,[some (.int c),some (.int top),some (.lst (xs.map D.int)),some (.str e),some (.int r),some (.tup (taps.map D.int)),some (.lst (rows.map rowD)),some (.int z)]):=by have q:=qdd (fs:=q02 (mOp1 dLen (mVar 5)) mNil) (ρ:=[some (.int c),some (.int top),some (.lst (xs.map D.int)),some (.str e),some (.int r),some (.tup (taps.map D.int)),some (.lst (rows.map rowD)),some (.int z)]) (ρ1:=[some (.int c),some (.int top),some (.lst (xs.map D.int)),some (.str e),some (.int r),some (.tup (taps.map D.int)),some (.lst (rows.map rowD)),some (.int z)]) (n:=((taps.map D.int).length:Nat)) rfl bgt;rw[jz]at q;exact q
     exact qg4 _ _ _ _ _ _ _ _ _ _ _ _ l5 lq hrng g1
    ·rcases List.mem_append.mp hq with hq|hq
     ·exact hrow q hq
     ·rw[List.mem_singleton.mp hq];exact⟨g2,hb⟩)
 rw[jb,k8,lz]at lr;refine⟨r,taps,rows,e,?_,⟨r0,r4,by omega,by omega,tb,by omega,by omega,hrow,he⟩⟩;exact qjj c top r x0 x1 x6 x13 tn mn e _ _ _ _ _ v7 (by decide) (by decide) (by decide) (by decide) (by decide) (by rw[jb];exact q1c (by omega)) tp hr hm a0 a1 a6 a13 ee et em sl1 sl2 c1 f1
theorem qmm(c x0 x1:Int)(X:List D)(two:2<=sizeLine)(hm:f_y31 [.int c,.int 5]=some (.lst X))(a0:atI X 0=some (.int x0))(a1:atI X 1=some (.int x1))(c1:x0 % 9<4):f_y38 [.int c]=some (.tup [.str "clear",.int (x1 % 2)]):=by unfold f_y38 q9z;walk_at "ev"
theorem qml(c x0:Int)(X:List D)(one:1<=sizeLine)(hm:f_y31 [.int c,.int 5]=some (.lst X))(a0:atI X 0=some (.int x0))(c1:¬x0 % 9<4)(c2':(x0 % 9==4)=true):f_y38 [.int c]=some (.tup [.str "gap"]):=by generalize hw:x0 % 9=wy at c1 c2';unfold f_y38 q9z;walk_at "ev"
theorem qmk(c x0 x1 x2:Int)(X:List D)(three:3<=sizeLine)(hm:f_y31 [.int c,.int 5]=some (.lst X))(a0:atI X 0=some (.int x0))(a1:atI X 1=some (.int x1))(a2:atI X 2=some (.int x2))(c1:¬x0 % 9<4)(c2:¬x0 % 9=4)(c3:x0 % 9<8):f_y38 [.int c]=some (.tup [.str "soft",.int (x1 % 5-1),.int (x2 % 5-1)]):=by have c2':(x0 % 9==4)=false:=beq_eq_false_iff_ne.mpr c2;generalize hw:x0 % 9=wy at c1 c2 c2' c3;unfold f_y38 q9z;walk_at "ev"
theorem qmj(c x0 x1 x2 x3 x4:Int)(X:List D)(three:3<=sizeLine)(hm:f_y31 [.int c,.int 5]=some (.lst X))(a0:atI X 0=some (.int x0))(a1:atI X 1=some (.int x1))(a2:atI X 2=some (.int x2))(a3:atI X 3=some (.int x3))(a4:atI X 4=some (.int x4))(c1:¬x0 % 9<4)(c2:¬x0 % 9=4)(c3:¬x0 % 9<8)
 (q1: -18446744073709551616<x1) (q1':x1<18446744073709551616) (q3: -18446744073709551616<x3) (q3':x3<18446744073709551616) (q4: -18446744073709551616<x4) (q4':x4<18446744073709551616):∃z o:Int,f_y38 [.int c]=some (.tup [.str "soft",.int z,.int o]):=by
 have c2':(x0 % 9==4)=false:=beq_eq_false_iff_ne.mpr c2;refine⟨x1*x2*x3*x4 % (2*10^60-3)-(10^60-2),x1*x2*x3*x4 % (2*10^60-3)-(10^60-2)+x0 / 9 % 3-1,?_⟩;generalize hw:x0 % 9=wy at c1 c2 c2' c3;unfold f_y38 q9z;walk_at "ev"
theorem qm4(c:Int):∃t:Told,f_y38 [.int c]=some (q0n t):=by
 obtain⟨xs,hm,hl,hx⟩:=q7g c 5 (by decide);have at_:∀k:Nat,k<5->∃x:Int,atI (xs.map D.int) (k:Int)=some (.int x)/\0<=x/\x<2305843009213693951:=λk hk=>by
  have h1:k<xs.length:=by omega
  refine⟨xs[k],?_,hx _ (k6 h1)⟩;rw[q52 (by omega) (by rw[jb];omega),jz,jk,jt h1];rfl
 obtain⟨x0,a0,p0⟩:=at_ 0 (by decide);obtain⟨x1,a1,p1⟩:=at_ 1 (by decide);obtain⟨x2,a2,p2⟩:=at_ 2 (by decide);obtain⟨x3,a3,p3⟩:=at_ 3 (by decide);obtain⟨x4,a4,p4⟩:=at_ 4 (by decide);by_cases c1:x0 % 9<4
 ·exact⟨.clear (x1 % 2),qmm c x0 x1 _ (by decide) hm a0 a1 c1⟩
 ·by_cases c2:x0 % 9=4
  ·exact⟨.gap,qml c x0 _ (by decide) hm a0 c1 (beq_iff_eq.mpr c2)⟩
  ·by_cases c3:x0 % 9<8
   ·exact⟨.soft (x1 % 5-1) (x2 % 5-1),qmk c x0 x1 x2 _ (by decide) hm a0 a1 a2 c1 c2 c3⟩
   ·obtain⟨z,o,q⟩:=qmj c x0 x1 x2 x3 x4 _ (by decide) hm a0 a1 a2 a3 a4 c1 c2 c3 (by omega) (by omega) (by omega) (by omega) (by omega) (by omega);exact⟨.soft z o,q⟩
theorem q8x(ρ:Rho)(xs:List Int):∃ts:List Told,q0z 1 [] none (gSet 0) (mRet true) (q0l f_y38 (q02 (mVar 0) mNil)) (xs.map D.int) ρ=some (ts.map q0n,ρ)/\ts.length=xs.length:=by
 obtain⟨ys,g1,g2,g3⟩:=qhg (n:=1) (js:=[]) (fg:=gSet 0) (fe:=q0l f_y38 (q02 (mVar 0) mNil)) (ρ:=ρ) (λy=>∃t,y=q0n t) (xs.map D.int) (λx hx=>by obtain⟨c,_,rfl⟩:=List.mem_map.mp hx;obtain⟨t,ht⟩:=qm4 c;refine⟨[some (.int c)],q0n t,rfl,?_,t,rfl⟩;generalize q0n t=T at ht ⊢;clear hx;walk_at "ev")
 obtain⟨ts,rfl⟩:=qa6 g3;rw[jb,jb]at g2;exact⟨ts,g1,g2⟩
theorem qje(cs:List Int)(zg:Nat)(x:Int)(hm:zg<=1000):∃ts:List Told,f_y39 [.lst (cs.map D.int),.int zg,.int x]=some (.lst (ts.map q0n))/\ts.length=zg:=by
 have sl:dSl (.lst (cs.map D.int)) none (some (zg:Int))=some (.lst ((cs.take zg).map D.int)):=by rw[qez (by omega),jz,List.map_take]
 obtain⟨ts1,g1,l1⟩:=q8x [some (.lst (cs.map D.int)),some (.int (zg:Int)),some (.int x),none] (cs.take zg);have hle:ts1.length<=zg:=by rw[l1,xu];exact xl _ _
 obtain⟨xs,hx,lx,_⟩:=q7g x (zg-ts1.length) (by omega);obtain⟨ts2,g2,l2⟩:=q8x [some (.lst (cs.map D.int)),some (.int (zg:Int)),some (.int x),some (.lst (ts1.map q0n))] xs;refine⟨ts1++ts2,?_,by rw[jy,l2,lx];omega⟩;have e1:((zg-ts1.length:Nat):Int)=(zg:Int)-((ts1.map q0n).length:Nat):=by rw[jb];omega
 rw[e1]at hx;have ll1:((cs.take zg).map D.int).length<=sizeLine:=by rw[jb,xu];exact q1c (by have:=xl zg cs.length;omega)
 have ll2:(xs.map D.int).length<=sizeLine:=by rw[jb];exact q1c (by omega)
 have ll3:(ts1.map q0n).length+(ts2.map q0n).length<=sizeLine:=by rw[jb,jb];exact q1c (by omega)
 rw[xm];generalize ts1.map q0n=T1 at g1 g2 hx ll3 ⊢;generalize ts2.map q0n=T2 at g2 ll3 ⊢;generalize xs.map D.int=X at hx g2 ll2;generalize (cs.take zg).map D.int=C1 at sl g1 ll1;generalize cs.map D.int=C at sl g1 g2 ⊢;clear e1 hle l1 lx l2 hm;unfold f_y39 qhn;walk_at "ev"
theorem q7a(ρ:Rho):∀(zs:List (Told×Int)),(∀q∈zs,q.2=0∨q.2=1)->q0z 2 [] none (q2p 2 (q11 (gSet 0) (q11 (gSet 1) q2y))) (mRet true) (q0l f_y37 (q02 (mVar 0) (q02 (mVar 1) mNil))) (zs.map λq=>D.tup [q0n q.1,.int q.2]) ρ=some ((zs.map λq=>q3t q.1 q.2).map D.int,ρ)
 |[],_=>rfl
 | q::zs,h=>by
  have ih:=q7a ρ zs λp hp=>h p (jg _ hp);have hg:(q2p 2 (q11 (gSet 0) (q11 (gSet 1) q2y))) (D.tup [q0n q.1,.int q.2]) (q50 2 [] ρ)=some [some (q0n q.1),some (.int q.2)]:=rfl;have he:q0l f_y37 (q02 (mVar 0) (q02 (mVar 1) mNil)) [some (q0n q.1),some (.int q.2)]=some (.int (q3t q.1 q.2),[some (q0n q.1),some (.int q.2)]):=by have:=qjd q.1 q.2 (h q jj);generalize q0n q.1=X at this ⊢;generalize q3t q.1 q.2=z at this ⊢;generalize q.2=b at this ⊢;clear ih hg h;walk_at "ev"
  rw[xh];unfold q0z;rw[hg];dsimp only[mRet];rw[he];dsimp only[q4n];rw[ih];rfl
end
theorem qq1(a b:Option Int):eqD (optI a) (optI b)=some (decide (a=b)):=by
 cases a with
 | none=>
  cases b with
  |none=>exact eqD_none.trans (by simp)
  |some y=>exact(q5e y).trans (by simp)
 | some x=>
  cases b with
  |none=>exact(q5f x).trans (by simp)
  | some y=>
   refine(qew x y).trans ?_;congr 1;by_cases h:x=y
   ·simp[h]
   ·simp[h]
theorem q8c{i:Nat}{fg:RhG}{fe:RhD}{fs:RhL}{α:Type}(tp:Int->α->D)(obj:α->D)(P:Rho->Prop)(hf:∀ρ,P ρ->isFree ρ i=true)
 (hg:∀(k:Int) (t:α) ρ,P ρ->∃ρ1,fg (tp k t) ρ=some ρ1/\P ρ1/\fe ρ1=some (.int k,ρ1)/\fs ρ1=some ([obj t],ρ1)):
 ∀(zs:List (Int×α)) (c:List (List α)) (ρ:Rho),P ρ->(∀q∈zs,0<=q.1/\q.1.toNat<c.length)->(∀g∈c,g.length+zs.length<sizeLine)->∃ρ',q49 i fg (q2t i fe fs) (zs.map λq=>tp q.1 q.2) ρ (c.map λg=>g.map obj)=some (ρ',(zs.foldl q3q c).map λg=>g.map obj)
 |[],c,ρ,_,_,_=>⟨ρ,rfl⟩
 | q::zs,c,ρ,hP,hz,hc=>by
  obtain⟨z0,z1⟩:=hz q jj;have hq:c[q.1.toNat]? =some c[q.1.toNat]:=jt z1;have hp:q4m (c.map λg=>g.map obj) q.1 (obj q.2)=some ((q3q c q).map λg=>g.map obj):=by unfold q4m;rw[if_pos z0,jk,hq];simp only[Option.map_some];rw[if_pos (by rw[jb];have:=hc _ (k6 z1);simp at this;omega)];unfold q3q;rw[List.map_set,xw,hq];simp
  obtain⟨ρ1,g1,g2,g3,g4⟩:=hg q.1 q.2 ρ hP;obtain⟨ρ',h⟩:=q8c (i:=i) (fg:=fg) (fe:=fe) (fs:=fs) tp obj P hf hg zs (q3q c q) ρ1 g2 (λp hp=>by
   have:=hz p (jg _ hp);refine⟨this.1,?_⟩;unfold q3q;rw[xg];exact this.2) (λg hg=>by
   unfold q3q at hg;rcases List.mem_or_eq_of_mem_set hg with h1|h1
   ·have:=hc g h1;simp at this;omega
   ·rw[h1,xw,hq];have:=hc _ (k6 z1);simp at this ⊢;omega)
  refine⟨ρ',?_⟩;have fr:=hf ρ1 g2;have step:q2t i fe fs ρ1 (c.map λg=>g.map obj)=some (ρ1,(q3q c q).map λg=>g.map obj):=by unfold q2t;rw[g3];simp only[fr,if_true];rw[g4];simp only[fr,if_true,hp,Option.map_some]
  rw[xh,List.foldl_cons,<-h,q6k,g1];simp only[fr,if_true,step]
theorem qa4{α β γ:Type}(f:α->β->γ):∀(xs:List α) (ys:List β),(xs.zip ys).map (λq=>f q.1 q.2)=(ys.zip xs).map λq=>f q.2 q.1
 |[],[]=>rfl
 |[],_::_=>rfl
 |_::_,[]=>rfl
 |x::xs,y::ys=>by rw[List.zip_cons_cons,List.zip_cons_cons,xh,xh,qa4 f xs ys]
theorem qly(S T:D)(n' N:Int)(hs:f_y35 [S,.int n']=some (.int N))(bg:big N=true):qbv [some S,some (.int n'),some T,none,none,none]=some (q17 0 N.toNat,[some S,some (.int n'),some T,none,none,none]):=by unfold qbv;walk_at "ev"
theorem qqd(S:D)(n':Int)(T P Z:List D)(hp:f_y36 [S,.int n']=some (.lst P))(hz:zipD T P=Z):w1y [some S,some (.int n'),some (.lst T),none,none,none]=some (Z,[some S,some (.int n'),some (.lst T),none,none,none]):=by walk_at "ev"
section
variable{r:Int}{taps:List Int}{rows:List (List Int)}{e:Str}
theorem q85(ok:q28 r taps rows e)(n:Nat)(hn:n<=60)(ts:List Told)(hl:ts.length=(q0f taps rows (n+q0e r e)).length):
 f_y40 [schD r taps rows e,.int n,.lst (ts.map q0n)]=some (.lst ((List.range (n+q0e r e)).map λk=>D.lst ((chunk taps rows ts k).map q0n))):=by
 have z4:=q36 ok;have hs:=q95 ok n;have hp:=qa5 ok n hn;have s4:∀k,(selK taps rows k).length<=4:=λk=>by unfold selK;refine ju (List.length_filter_le _ _) ?_;rw[xo];have:=ok.t4;have:=xl taps.length (rowAt rows k).length;omega
 have q1:(q0f taps rows (n+q0e r e)).length<=(n+q0e r e)*4:=q42 _ 4 (λk=>by rw[jx];exact s4 k) _;have bg:big ((n+q0e r e:Nat):Int)=true:=by unfold big;simp;omega
 have hi:=qly (schD r taps rows e) (.lst (ts.map q0n)) n _ hs bg;rw[jz]at hi;have hz:zipD (ts.map q0n) ((q0f taps rows (n+q0e r e)).map D.int)=((q0f taps rows (n+q0e r e)).zip ts).map λq=>D.tup [q0n q.2,.int q.1]:=by rw[q5k,q4o,jn,<-qa4 λ(t:Told) (k:Int)=>D.tup [q0n t,.int k]];rfl
 have hzz:=qqd (schD r taps rows e) n (ts.map q0n) _ _ hp hz;obtain⟨ρ',hr⟩:=q8c (i:=3) (fg:=q2p 2 (q11 (gSet 4) (q11 (gSet 5) q2y))) (fe:=mVar 5) (fs:=q02 (mVar 4) mNil) (λk t=>D.tup [q0n t,.int k]) q0n (λρ=>∃u v,ρ=[some (schD r taps rows e),some (.int n),some (.lst (ts.map q0n)),none,u,v]) (λρ h=>by
  obtain⟨u,v,rfl⟩:=h;rfl) (λk t ρ h=>by
  obtain⟨u,v,rfl⟩:=h;exact⟨_,rfl,⟨_,_,rfl⟩,rfl,rfl⟩)
  ((q0f taps rows (n+q0e r e)).zip ts) (List.replicate (n+q0e r e) []) [some (schD r taps rows e),some (.int n),some (.lst (ts.map q0n)),none,none,none] ⟨none,none,rfl⟩ (λq hq=>by
    have hm:=(List.of_mem_zip hq).1;unfold q0f at hm;obtain⟨k,hk,hm⟩:=List.mem_flatMap.mp hm;rw[List.eq_of_mem_replicate hm,jx];exact⟨by omega,by rw[jz];exact List.mem_range.mp hk⟩) (λg hg=>by
    rw[List.eq_of_mem_replicate hg,xo];have:=xl (q0f taps rows (n+q0e r e)).length ts.length;exact jm (by simp;omega:_<1000) (by decide))
 rw[q8d (n+q0e r e) (by omega),List.map_replicate,jn]at hr;show q4y (q8s _)=_;have hD:q8s [schD r taps rows e,.int n,.lst (ts.map q0n)]=some ((List.range (n+q0e r e)).map ((λg=>g.map q0n)∘chunk taps rows ts)):=by
  unfold q8s q7m;refine(if_pos rfl).trans ?_;show(match qbv [some (schD r taps rows e),some (.int n),some (.lst (ts.map q0n)),none,none,none]with
   | some (xs,ρ1)=>if 3<ρ1.length/\xs.length<=sizeLine then(match qc3 (ρ1.set 3 none) (List.replicate xs.length [])with
    |some p=>some p.2
    |none=>none)else none
   |none=>none)=_
  rw[hi];simp only;rw[if_pos ⟨by simp,by rw[q1l];exact q1c (by omega)⟩,q1l];have hb:qc3 [some (schD r taps rows e),some (.int n),some (.lst (ts.map q0n)),none,none,none] (List.replicate (n+q0e r e) [])=some (ρ',(List.range (n+q0e r e)).map ((λg=>g.map q0n)∘chunk taps rows ts)):=by unfold qc3 q78;rw[hzz];exact(if_pos rfl).trans hr
  have es:([some (schD r taps rows e),some (.int n),some (.lst (ts.map q0n)),none,none,none]:Rho).set 3 none=[some (schD r taps rows e),some (.int n),some (.lst (ts.map q0n)),none,none,none]:=rfl;rw[es,hb]
 rw[hD];show some (D.lst _)=some (D.lst _);rw[jn];rfl
theorem qmg(ts:List Told)(n:Nat):∀(len k:Nat) (st:Sx),st∈q21 r taps rows ts n k len->st.length=2^r.toNat/\∀ch∈st,ch.length<=2/\∀q∈ch,0<=q.1/\q.1.toNat<2^r.toNat:=by
 intro len;induction len with
 |zero=>intro k st h;cases h
 | succ len ih=>
  intro k st h;have ok1:=q8j (r:=r) (taps:=taps) (rows:=rows) (ts:=ts) (n:=n) (len+1) k;rw[q5t]at h ok1;rcases List.mem_cons.mp h with h|h
  ·subst h;refine⟨ok1.1,λch hc=>⟨?_,(ok1.2.1 ch hc).2⟩⟩;rw[(ok1.2.1 ch hc).1];split<;>omega
  ·exact ih _ _ h
theorem q6v(ts:List Told)(n len:Nat):(q21 r taps rows ts n 0 len).length=len:=by unfold q21;rw[jb,List.length_range']
theorem ah_m(S n T s ST:D)(hm:f_y24 [S,n,T]=some ST):qe9 [some S,some n,some T,some s]=some (ST,[some S,some n,some T,some s]):=by unfold qe9;walk_at "ev"
theorem ah_e(S n T s:D)(EN:List D)(he:f_y25 [S,s]=some (.lst EN)):qey [some S,some n,some T,some s]=some (EN,[some S,some n,some T,some s]):=by unfold qey;walk_at "ev"
theorem qgi(ok:q28 r taps rows e)(n:Nat)(hn:n<=60)(h:e="ring"->r.toNat<=n)(ts:List Told)(hl:ts.length=(q0f taps rows (n+q0e r e)).length)(s:Int):
 q79 [schD r taps rows e,.int n,.lst (ts.map q0n),.int s]=some ((q1k r taps rows e ts n s).map λt=>t.map optI):=by
 have p16:=q3b ok.r0 ok.r4;have pn:=q32 (r:=r);have z4:=q36 ok;have h1:=ah_m (schD r taps rows e) (.int n) (.lst (ts.map q0n)) (.int s) _ (qqy ok n hn h ts hl);have h2:=ah_e (schD r taps rows e) (.int n) (.lst (ts.map q0n)) (.int s) _ (qng ok s);have h3:=qbq (q21 r taps rows ts n 0 (n+q0e r e)) (q3k r e s) (2^r.toNat) (by omega) (by rw[q6v];omega) (by unfold q3k;simp) (λst hst=>qmg ts n _ _ st hst);show(match qe9 [some (schD r taps rows e),some (.int (n:Int)),some (.lst (ts.map q0n)),some (.int s)]with
  | some (d,ρ1)=>(match qey ρ1 with
   |some (xs,_)=>gAB 4 q6p d xs
   |none=>none)
  |none=>none)=_
 rw[h1];dsimp only;rw[h2];exact h3
theorem q5s(ts:List Told)(n:Nat)(s:Int):(q1k r taps rows e ts n s).length=n+q0e r e+1:=by unfold q1k;rw[q5a,q6v]
theorem q7h{ts:List Told}{n:Nat}{s:Int}{k:Nat}{t:Rw}(h:(q1k r taps rows e ts n s)[k]? =some t):t.length=2^r.toNat:=by
 have hk:k<=n+q0e r e:=by have:=(List.getElem?_eq_some_iff.mp h).1;rw[q5s]at this;omega
 unfold q1k at h;rw[<-List.head?_drop,q3d _ _ k (by rw[q6v];exact hk)]at h;have e1:(q1r ((q21 r taps rows ts n 0 (n+q0e r e)).drop k) (q3k r e s)).headD []=t:=by rw[List.headD_eq_head?_getD,h];rfl
 rw[<-e1];exact qar (by unfold q3k;simp) λz hz=>(qmg ts n _ _ z (List.mem_of_mem_drop hz)).1
theorem qfw(ts:List Told)(n:Nat)(s:Int):(q1k r taps rows e ts n s)[n+q0e r e]? =some (q3k r e s):=by unfold q1k;rw[<-List.head?_drop,q3d _ _ _ (by rw[q6v];exact jf _),List.drop_eq_nil_of_le (by rw[q6v];exact jf _)];rfl
theorem qqm{ts:List Told}{n len k:Nat}(h:k<len):(q21 r taps rows ts n 0 len)[k]? =some (stepK r taps rows ts n k):=by unfold q21;rw[jk,List.getElem?_range' h];simp
theorem qg0{ts:List Told}{n k:Nat}{room:Int}(h0:0<=room)(h1:room<2^r.toNat):(stepK r taps rows ts n k)[room.toNat]? =some ((q1z n k).map λb=>mvK r taps rows ts k room b):=by
 have h4:=q32 (r:=r);have lt:room.toNat<2^r.toNat:=by omega
 unfold L2.stepK;rw[jk,xr lt];simp only[Option.map_some,Int.toNat_of_nonneg h0]
theorem qm8{ts:List Told}{n:Nat}{s:Int}{k:Nat}{t t':Rw}(hk:k<n+q0e r e)(h:(q1k r taps rows e ts n s)[k]? =some t)(h':(q1k r taps rows e ts n s)[k+1]? =some t'){room:Int}(h0:0<=room)(h1:room<2^r.toNat):
 atR t room=q3h ((q1z n k).map λb=>mvK r taps rows ts k room b) t':=by
 unfold q1k at h h';have lt:k<(q21 r taps rows ts n 0 (n+q0e r e)).length:=by rw[q6v];exact hk
 have e2:(q21 r taps rows ts n 0 (n+q0e r e))[k]=stepK r taps rows ts n k:=by have:=qqm (r:=r) (taps:=taps) (rows:=rows) (ts:=ts) (n:=n) hk;rw[jt lt]at this;exact jh this
 rw[<-List.head?_drop,q3d _ _ k (by omega),ki lt,e2]at h;rw[<-List.head?_drop,q3d _ _ (k+1) (by omega)]at h';have h:(stepK r taps rows ts n k).map (λch=>q3h ch ((q1r ((q21 r taps rows ts n 0 (n+q0e r e)).drop (k+1)) (q3k r e s)).headD []))=t:=jh h;rw[<-h,qlx (qg0 h0 h1),List.headD_eq_head?_getD,h'];rfl
theorem qjb(S:D)(k room bit there:Int)(T SG RW:List D)(h1:f_y33 [S,.int room,.int bit]=some (.tup [.int there,.lst SG]))(h2:atI RW there=some .non):f_y41 [S,.int k,.lst T,.int room,.int bit,.lst RW]=some .non:=by unfold f_y41 qfa;walk_at "ev"
theorem qja(S:D)(k room bit there x c:Int)(T SG RW SE Z YD:List D)(Y:List Int)(h1:f_y33 [S,.int room,.int bit]=some (.tup [.int there,.lst SG]))(h2:atI RW there=some (.int x))(hse:f_y34 [S,.int k,.lst SG]=some (.lst SE))(hz:zipD T SE=Z)(lz:Z.length<=sizeLine)
 (cmp:q0z 2 [] none (q2p 2 (q11 (gSet 0) (q11 (gSet 1) q2y))) (mRet true) (q0l f_y37 (q02 (mVar 0) (q02 (mVar 1) mNil))) Z [some S,some (.int k),some (.lst T),some (.int room),some (.int bit),some (.lst RW),some (.int there),some (.lst SG)]=some (YD,[some S,some (.int k),some (.lst T),some (.int room),some (.int bit),some (.lst RW),some (.int there),some (.lst SG)])) (hi:q4k YD=some Y) (hsum:Y.sum=c):
 f_y41 [S,.int k,.lst T,.int room,.int bit,.lst RW]=some (.int (x+c)):=by
 unfold f_y41 qfa;walk_at "ev"
theorem qql(ok:q28 r taps rows e)(k:Nat)(ts:List Told)(room bit:Int)(a0:0<=room)(a1:room<2^r.toNat)(hb:bit=0∨bit=1)(t:Rw)(ht:t.length=2^r.toNat):
 f_y41 [schD r taps rows e,.int k,.lst ((chunk taps rows ts k).map q0n),.int room,.int bit,rwD t]=some (optI (q2z (mvK r taps rows ts k room bit) t)):=by
 have hst:=v_y3 ok room bit a0 a1 hb;have pn:=q32 (r:=r);have pp:(0:Int)<2^r.toNat:=Int.pow_pos (by decide);have n0:=Int.emod_nonneg (2*room+bit) (by omega:(2:Int)^r.toNat≠0);have n1:=Int.emod_lt_of_pos (2*room+bit) pp;have hat:=q81 (t:=t) n0 (by rw[ht];omega);have hse:=qfp ok k (taps.map (sgn (2*room+bit))) (by rw[jb];have:=ok.t4;omega);have ec:q2z (mvK r taps rows ts k room bit) t=(atR t ((2*room+bit) % 2^r.toNat)).map λx=>qf2 (chunk taps rows ts k) (q2u (rowAt rows k) (taps.map (sgn (2*room+bit))))+x:=rfl;rw[ec];cases q:atR t ((2*room+bit) % 2^r.toNat)with
 | none=>
  rw[q]at hat;exact qjb _ _ _ _ _ _ _ _ hst hat
 | some x=>
  rw[q]at hat;have hbits:∀b∈q2u (rowAt rows k) (taps.map (sgn (2*room+bit))),b=0∨b=1:=λb hb=>by rw[q8f]at hb;obtain⟨z,_,rfl⟩:=List.mem_map.mp hb;exact qjh _ _
  have lp:(q2u (rowAt rows k) (taps.map (sgn (2*room+bit)))).length<=1000:=by have:=qdi (rowAt rows k) (taps.map (sgn (2*room+bit)));rw[jb]at this;have:=ok.t4;omega
  have hz:zipD ((chunk taps rows ts k).map q0n) ((q2u (rowAt rows k) (taps.map (sgn (2*room+bit)))).map D.int)=((chunk taps rows ts k).zip (q2u (rowAt rows k) (taps.map (sgn (2*room+bit))))).map λq=>D.tup [q0n q.1,.int q.2]:=by rw[q5k,q4o,jn];rfl
  have lz:(((chunk taps rows ts k).zip (q2u (rowAt rows k) (taps.map (sgn (2*room+bit))))).map λq=>D.tup [q0n q.1,.int q.2]).length<=sizeLine:=by rw[jb,xo];exact q1c (by have:=Nat.min_le_right (chunk taps rows ts k).length (q2u (rowAt rows k) (taps.map (sgn (2*room+bit)))).length;omega)
  have cmp:=λρ=>q7a ρ ((chunk taps rows ts k).zip (q2u (rowAt rows k) (taps.map (sgn (2*room+bit))))) λq hq=>hbits q.2 (List.of_mem_zip (show(q.1,q.2)∈_ from hq)).2;have hi:=q3n (((chunk taps rows ts k).zip (q2u (rowAt rows k) (taps.map (sgn (2*room+bit))))).map λq=>q3t q.1 q.2);have:=qja _ _ _ _ _ x (qf2 (chunk taps rows ts k) (q2u (rowAt rows k) (taps.map (sgn (2*room+bit))))) _ _ _ _ _ _ _ hst hat hse hz lz (cmp _) hi rfl;refine this.trans ?_;show some (D.int _)=some (D.int _);rw[Int.add_comm]
end
theorem qkn(R TS RS:D)(s room:Int)(row:D)(h:eqD (.str e) (.str "open")=some true):
 w00 [some (.tup [R,TS,RS,.str e]),some (.int s),some row,some (.int room),some .non]=some (.nx [some (.tup [R,TS,RS,.str e]),some (.int s),some row,some (.int room),some (.int 0)]):=by
 walk_at "ev"
theorem qp5(R TS RS:D)(s room:Int)(row:D)(b:Bool)(two:2<=sizeLine)(h:eqD (.str e) (.str "open")=some false)(h2:eqD (.str e) (.str "ring")=some b)(hr:room=if b=true then s else 0):
 w00 [some (.tup [R,TS,RS,.str e]),some (.int s),some row,some (.int room),some .non]=some (.nx [some (.tup [R,TS,RS,.str e]),some (.int s),some row,some (.int room),some (.int 0)]):=by
 cases b with
 | true=>
  replace hr:room=s:=hr;subst hr;walk_at "ev"
 | false=>
  replace hr:room=0:=hr;subst hr;walk_at "ev"
theorem qs0(R TS RS:D)(s room:Int)(row:D)(b:Bool)(two:2<=sizeLine)(h:eqD (.str e) (.str "open")=some false)(h2:eqD (.str e) (.str "ring")=some b)(hr:¬room=if b=true then s else 0):
 w00 [some (.tup [R,TS,RS,.str e]),some (.int s),some row,some (.int room),some .non]=some (.nx [some (.tup [R,TS,RS,.str e]),some (.int s),some row,some (.int room),some .non]):=by
 cases b with
 | true=>
  replace hr:¬room=s:=hr;have hr':(room==s)=false:=beq_eq_false_iff_ne.mpr hr;walk_at "ev"
 | false=>
  replace hr:¬room=0:=hr;have hr':(room==0)=false:=beq_eq_false_iff_ne.mpr hr;walk_at "ev"
theorem qp6(S s row room:D)(v4:Option D):(sSet 4 (mRet .non)) [some S,some s,some row,some room,v4]=some (.nx [some S,some s,some row,some room,some .non]):=by walk_at "ev"
theorem qp8(S s:D)(room:Int)(RW:List D)(d:D)(h:atI RW room=some d)(E:eqD d d=some true)(FX:RhO):
 (sIf w1j FX sNil) [some S,some s,some (.lst RW),some (.int room),some d]=some (.nx [some S,some s,some (.lst RW),some (.int room),some d]):=by
 walk_at "ev"
theorem qp7(r s M:Int)(TS RS en:D)(row:D)(v3 v4:Option D)(FB:RhO)(hs:dShl (.int 1) (.int r)=some (.int M))(bg:big M=true)(l1:q27 (gSet 3) FB (q17 0 M.toNat) [some (.tup [.int r,TS,RS,en]),some (.int s),some row,none,none]=some (.nx [some (.tup [.int r,TS,RS,en]),some (.int s),some row,v3,v4])):
 (runP false 3 5 (sSeq (sFor (q2k (q02 (mOp2 dShl (mRet (.int 1)) (mOp2 dIx (mVar 0) (mRet (.int 0)))) mNil)) (gSet 3) FB) (sRet (mRet (.bl true))))) [.tup [.int r,TS,RS,en],.int s,row]=some (.bl true):=by
 generalize dShl=SH at hs ⊢;walk_at "ev"
theorem qie(a:Option Int):eqD (optI a) (optI a)=some true:=by rw[qq1,decide_eq_true rfl]
section
variable{r:Int}{taps:List Int}{rows:List (List Int)}{e:Str}
theorem qg1(ok:q28 r taps rows e):dShl (.int 1) (.int r)=some (.int (2^r.toNat)):=by
 have r0:=ok.r0;have r4:=ok.r4;have:r=0∨r=1∨r=2∨r=3∨r=4:=by omega
 rcases this with z|z|z|z|z<;>(subst z;rfl)
theorem qm5(ok:q28 r taps rows e)(s:Int):f_y42 [schD r taps rows e,.int s,rwD (q3k r e s)]=some (.bl true):=by
 have p16:=q3b ok.r0 ok.r4;have pn:=q32 (r:=r);have bg:big ((2:Int)^r.toNat)=true:=by unfold big;simp;omega
 have tn:((2:Int)^r.toNat).toNat=2^r.toNat:=by omega
 obtain⟨ρ',l1,v3,v4,hρ⟩:=q3j (fg:=gSet 3) (fb:=w1w)
  (λk ρ=>∃v3 v4,ρ=[some (schD r taps rows e),some (.int s),some (rwD (q3k r e s)),v3,v4]) (q17 0 ((2:Int)^r.toNat).toNat) 0 [some (schD r taps rows e),some (.int s),some (rwD (q3k r e s)),none,none] ⟨none,none,rfl⟩ (λi x ρ hx ⟨v3,v4,hρ⟩=>by
    subst hρ;obtain⟨hi,rfl⟩:=q20 hx;rw[Int.zero_add];have hlt:(i:Int)<2^r.toNat:=by omega
    have ha:=qi2 (r:=r) (e:=e) (s:=s) (room:=(i:Int)) (by omega) hlt;have hat:atI ((q3k r e s).map optI) (i:Int)=some (optI (atR (q3k r e s) (i:Int))):=q81 (by omega) (by unfold q3k;simp;omega);rw[ha]at hat;have hif:w00 [some (schD r taps rows e),some (.int s),some (rwD (q3k r e s)),some (.int (i:Int)),some .non]=some (.nx [some (schD r taps rows e),some (.int s),some (rwD (q3k r e s)),some (.int (i:Int)),some (optI (if e="open"∨(i:Int)=(if e="ring" then s else 0)then some 0 else none))]):=by
     by_cases q:e="open"
     ·rw[if_pos (.inl q)];exact qkn _ _ _ _ _ _ (by rw[q];exact o_oo)
     ·have ho:eqD (.str e) (.str "open")=some false:=by
       rcases ok.en with g|g|g
       ·exact absurd g q
       ·rw[g];exact o_eo
       ·rw[g];exact o_ro
      have hr2:eqD (.str e) (.str "ring")=some (decide (e="ring")):=by
       rcases ok.en with g|g|g
       ·exact absurd g q
       ·rw[g];exact s_er
       ·rw[g];exact s_rr
      have hc:(if decide (e="ring")=true then s else 0)=(if e="ring" then s else 0):=by
       by_cases z:e="ring"
       ·rw[decide_eq_true z,if_pos rfl,if_pos z]
       ·rw[decide_eq_false z,if_neg (by decide),if_neg z]
      by_cases z:(i:Int)=(if e="ring" then s else 0)
      ·rw[if_pos (.inr z)];exact qp5 _ _ _ _ _ _ _ (by decide) ho hr2 (by rw[hc];exact z)
      ·rw[if_neg (λy=>y.elim q z)];exact qs0 _ _ _ _ _ _ _ (by decide) ho hr2 (by rw[hc];exact z)
    exact⟨_,_,rfl,.inl ((q2d (qp6 _ _ _ _ _)).trans ((q2d hif).trans (qp8 _ _ _ _ _ hat (qie _) _))),_,_,rfl⟩)
 subst hρ;unfold f_y42 qhm;exact qp7 _ _ _ _ _ _ _ _ _ _ (qg1 ok) bg l1
theorem of_0(S n:D)(T:List D)(N:Int)(v3 v4:Option D)(FX:RhO)(hs:f_y35 [S,n]=some (.int N))(hl:((T.length:Nat):Int)=N+1):
 (sIf w1r FX sNil) [some S,some n,some (.lst T),v3,v4]=some (.nx [some S,some n,some (.lst T),v3,v4]):=by
 walk_at "ev"
theorem of_1(r M:Int)(TS RS en n T:D)(RW:List D)(v4:Option D)(FX:RhO)(hs:dShl (.int 1) (.int r)=some (.int M))(hl:((RW.length:Nat):Int)=M):
 (sIf (mOr w1n (q0d (mOp2 dNe (mOp1 dLen (mVar 3)) (mOp2 dShl (mRet (.int 1)) (mOp2 dIx (mVar 0) (mRet (.int 0))))))) FX sNil) [some (.tup [.int r,TS,RS,en]),some n,some T,some (.lst RW),v4]=some (.nx [some (.tup [.int r,TS,RS,en]),some n,some T,some (.lst RW),v4]):=by
 generalize dShl=SH at hs ⊢;walk_at "ev"
theorem of_2(S n T RW:D)(a:Option Int)(FX:RhO):
 (sIf w1q FX sNil) [some S,some n,some T,some RW,some (optI a)]=some (.nx [some S,some n,some T,some RW,some (optI a)]):=by
 cases a with
 | none=>
  show _=some (Out.nx [_,_,_,_,some .non]);unfold optI;walk_at "ev"
 | some x=>
  show _=some (Out.nx [_,_,_,_,some (.int x)]);unfold optI;walk_at "ev"
theorem qr6(S n T:D)(RW:List D)(v4 v4':Option D)(FB:RhO)(h:q27 (gSet 4) FB RW [some S,some n,some T,some (.lst RW),v4]=some (.nx [some S,some n,some T,some (.lst RW),v4'])):
 (sFor (mSeq (mVar 3)) (gSet 4) FB) [some S,some n,some T,some (.lst RW),v4]=some (.nx [some S,some n,some T,some (.lst RW),v4']):=by
 walk_at "ev"
theorem qoi(S n:D)(T:List D)(v3 v4:Option D)(FI FB:RhO)(h0:FI [some S,some n,some (.lst T),none,none]=some (.nx [some S,some n,some (.lst T),none,none]))(h:q27 (gSet 3) FB T [some S,some n,some (.lst T),none,none]=some (.nx [some S,some n,some (.lst T),v3,v4])):
 (runP false 3 5 (sSeq FI (sSeq (sFor (mSeq (mVar 2)) (gSet 3) FB) (sRet (mRet (.bl true)))))) [S,n,.lst T]=some (.bl true):=by
 walk_at "ev"
theorem qfq(ok:q28 r taps rows e)(n:Nat)(T:List Rw)(hT:T.length=n+q0e r e+1)(hr:∀t∈T,t.length=2^r.toNat):f_y43 [schD r taps rows e,.int n,tbD T]=some (.bl true):=by
 have pn:=q32 (r:=r);obtain⟨ρ',l1,v3,v4,hρ⟩:=qes (fg:=gSet 3) (fb:=(sSeq (sIf (mOr w1n (q0d (mOp2 dNe (mOp1 dLen (mVar 3)) (mOp2 dShl (mRet (.int 1)) (mOp2 dIx (mVar 0) (mRet (.int 0)))))))
  (sRet (mRet (.bl false)))
  sNil)
 (sFor (mSeq (mVar 3)) (gSet 4)
   w05)))
   (λρ=>∃v3 v4,ρ=[some (schD r taps rows e),some (.int (n:Int)),some (tbD T),v3,v4]) (T.map rwD) [some (schD r taps rows e),some (.int (n:Int)),some (tbD T),none,none] ⟨none,none,rfl⟩ (λx ρ hx ⟨v3,v4,hρ⟩=>by
     subst hρ;obtain⟨t,ht,rfl⟩:=List.mem_map.mp hx;have hin:∃v4',q27 (gSet 4) w05 (t.map optI) [some (schD r taps rows e),some (.int (n:Int)),some (tbD T),some (.lst (t.map optI)),v4]=some (.nx [some (schD r taps rows e),some (.int (n:Int)),some (tbD T),some (.lst (t.map optI)),v4']):=by
      obtain⟨ρ',l1,v4',hρ⟩:=qes (fg:=gSet 4) (fb:=w05) (λρ=>∃v4,ρ=[some (schD r taps rows e),some (.int (n:Int)),some (tbD T),some (.lst (t.map optI)),v4]) (t.map optI) [some (schD r taps rows e),some (.int (n:Int)),some (tbD T),some (.lst (t.map optI)),v4] ⟨v4,rfl⟩ (λy ρ hy ⟨v4,hρ⟩=>by subst hρ;obtain⟨a,_,rfl⟩:=List.mem_map.mp hy;exact⟨_,_,rfl,.inl (of_2 _ _ _ _ a _),_,rfl⟩)
      subst hρ;exact⟨v4',l1⟩
     obtain⟨v4',hin⟩:=hin;exact⟨_,_,rfl,.inl ((q2d (of_1 _ _ _ _ _ _ _ _ _ _ (qg1 ok) (by rw[jb,hr t ht];exact pn))).trans (qr6 _ _ _ _ _ _ _ hin)),_,_,rfl⟩)
 subst hρ;unfold f_y43 qhl;exact qoi _ _ _ _ _ _ _ (of_0 _ _ _ _ _ _ _ (q95 ok n) (by rw[jb,hT];rfl)) l1
theorem wk_0(S n T s LST:D)(TB:List D)(v5 v6 v7 v8 v9:Option D)(FX:RhO)(h1:f_y43 [S,n,.lst TB]=some (.bl true))(h2:atI TB (-1)=some LST)(h3:f_y42 [S,s,LST]=some (.bl true)):
 (sIf w0x FX sNil) [some S,some n,some T,some s,some (.lst TB),v5,v6,v7,v8,v9]=some (.nx [some S,some n,some T,some s,some (.lst TB),v5,v6,v7,v8,v9]):=by
 walk_at "ev"
theorem wk_5(S n T s TB TL:D)(h:f_y40 [S,n,T]=some TL):(sSet 5 (q0l f_y40 w07)) [some S,some n,some T,some s,some TB,none,none,none,none,none]=some (.nx [some S,some n,some T,some s,some TB,some TL,none,none,none,none]):=by walk_at "ev"
theorem wk_7(S T s TB TL:D)(n' k':Int)(v7 v8 v9:Option D)(two:2<=sizeLine)(n k:Nat)(hn:n'=(n:Nat))(hk:k'=(k:Nat)):
 w1t [some S,some (.int n'),some T,some s,some TB,some TL,some (.int k'),v7,v8,v9]=some (.nx [some S,some (.int n'),some T,some s,some TB,some TL,some (.int k'),some (.lst ((q1z n k).map D.int)),v8,v9]):=by
 unfold q1z;by_cases h:k<n
 ·have h':k'<n':=by omega
  rw[if_pos h];show _=some (Out.nx [_,_,_,_,_,_,_,some (.lst [.int 0,.int 1]),_,_]);clear hn hk h;walk_at "ev"
 ·have h':¬k'<n':=by omega
  rw[if_neg h];show _=some (Out.nx [_,_,_,_,_,_,_,some (.lst [.int 0]),_,_]);clear hn hk h;walk_at "ev"
theorem wk_e(S TL' TB':List D)(SS:D)(k' room b:Int)(c t' y:D)(h1:atI TL' k'=some c)(h2:atI TB' (k'+1)=some t')(h3:f_y41 [SS,.int k',c,.int room,.int b,t']=some y):
 ((q0l f_y41 w01) [some (.int b),some SS,some (.int k'),some (.int room),some (.lst TL'),some (.lst TB')]).map (·.1)=some y:=by
 walk_at "ev"
theorem wk_9(S n T s TB TL k room:D)(BS W:List D)(v9:Option D)(FE:RhD)(lb:BS.length<=sizeLine)(cm:q0z 1 [0,6,8,5,4] none (gSet 0) (mRet true) FE BS [some S,some n,some T,some s,some TB,some TL,some k,some (.lst BS),some room,v9]=some (W,[some S,some n,some T,some s,some TB,some TL,some k,some (.lst BS),some room,v9])):
 (sSet 9 (mOf (q1n 1 [0,6,8,5,4] none (mSeq (mVar 7)) (gSet 0) (mRet true) FE))) [some S,some n,some T,some s,some TB,some TL,some k,some (.lst BS),some room,v9]=some (.nx [some S,some n,some T,some s,some TB,some TL,some k,some (.lst BS),some room,some (.lst W)]):=by
 walk_at "ev"
theorem wk_f(S n T s TB TL k BS room:D)(W Z:List D)(FT:RhB)(lw:W.length<=sizeLine)(cf:q0z 1 [] none (gSet 0) FT (mVar 0) W [some S,some n,some T,some s,some TB,some TL,some k,some BS,some room,some (.lst W)]=some (Z,[some S,some n,some T,some s,some TB,some TL,some k,some BS,some room,some (.lst W)])):
 (mOf (q1n 1 [] none (mSeq (mVar 9)) (gSet 0) FT (mVar 0))) [some S,some n,some T,some s,some TB,some TL,some k,some BS,some room,some (.lst W)]=some (.lst Z,[some S,some n,some T,some s,some TB,some TL,some k,some BS,some room,some (.lst W)]):=by
 walk_at "ev"
theorem wk_i(S n T s TL BS W:D)(TB T0 Z:List D)(k' room:Int)(y:D)(FC:RhD)(DM:D->Option D)(FX:RhO)(h1:atI TB k'=some (.lst T0))(h2:atI T0 room=some y)
 (hx:FC [some S,some n,some T,some s,some (.lst TB),some TL,some (.int k'),some BS,some (.int room),some W]=some (.lst Z,[some S,some n,some T,some s,some (.lst TB),some TL,some (.int k'),some BS,some (.int room),some W])) (hm:DM (.lst Z)=some y) (E:eqD y y=some true):
 (sIf (q0d (mOp2 dNe w0z (mOp1 DM FC))) FX sNil) [some S,some n,some T,some s,some (.lst TB),some TL,some (.int k'),some BS,some (.int room),some W]=some (.nx [some S,some n,some T,some s,some (.lst TB),some TL,some (.int k'),some BS,some (.int room),some W]):=by
 walk_at "ev"
theorem wk_r(r M:Int)(TS RS en n T s TB TL k BS:D)(v8 v9 v8' v9':Option D)(FB:RhO)(hs:dShl (.int 1) (.int r)=some (.int M))(bg:big M=true)(h:q27 (gSet 8) FB (q17 0 M.toNat) [some (.tup [.int r,TS,RS,en]),some n,some T,some s,some TB,some TL,some k,some BS,v8,v9]=some (.nx [some (.tup [.int r,TS,RS,en]),some n,some T,some s,some TB,some TL,some k,some BS,v8',v9'])):
 (sFor (q2k (q02 (mOp2 dShl (mRet (.int 1)) (mOp2 dIx (mVar 0) (mRet (.int 0)))) mNil)) (gSet 8) FB) [some (.tup [.int r,TS,RS,en]),some n,some T,some s,some TB,some TL,some k,some BS,v8,v9]=some (.nx [some (.tup [.int r,TS,RS,en]),some n,some T,some s,some TB,some TL,some k,some BS,v8',v9']):=by
 generalize dShl=SH at hs ⊢;walk_at "ev"
theorem wk_n(S n T s TB:D)(TL:List D):(q02 (mOp1 dLen (mVar 5)) mNil) [some S,some n,some T,some s,some TB,some (.lst TL),none,none,none,none]=some ([.int ((TL.length:Nat):Int)],[some S,some n,some T,some s,some TB,some (.lst TL),none,none,none,none]):=by walk_at "ev"
theorem wk_l(S n T s TB TL:D)(X:List D)(v6 v7 v8 v9:Option D)(FI:RhL)(FB:RhO)(hX:FI [some S,some n,some T,some s,some TB,some TL,none,none,none,none]=some (X,[some S,some n,some T,some s,some TB,some TL,none,none,none,none]))(h:q27 (gSet 6) FB X [some S,some n,some T,some s,some TB,some TL,none,none,none,none]=some (.nx [some S,some n,some T,some s,some TB,some TL,v6,v7,v8,v9])):
 (sSeq (sFor FI (gSet 6) FB) (sRet (mRet (.bl true)))) [some S,some n,some T,some s,some TB,some TL,none,none,none,none]=some (.rt (.bl true) [some S,some n,some T,some s,some TB,some TL,v6,v7,v8,v9]):=by
 walk_at "ev"
theorem qjc(ok:q28 r taps rows e)(n k:Nat)(ts:List Told)(T s:D)(TB:List Rw)(t t':Rw)(TL:List D)(room:Int)(a0:0<=room)(a1:room<2^r.toNat)(v9:Option D)
 (hTL:atI TL (k:Int)=some (.lst ((chunk taps rows ts k).map q0n))) (ht:TB[k]? =some t) (ht':TB[k+1]? =some t') (l0:t.length=2^r.toNat) (l1:t'.length=2^r.toNat) (hst:atR t room=q3h ((q1z n k).map λb=>mvK r taps rows ts k room b) t'):
 ∃v9',(sSeq w1o (sIf (q0d (mOp2 dNe w0z (mOp1 q6m w0g)))
 (sRet (mRet (.bl false)))
 sNil)) [some (schD r taps rows e),some (.int (n:Int)),some T,some s,some (tbD TB),some (.lst TL),some (.int (k:Int)),some (.lst ((q1z n k).map D.int)),some (.int room),v9]=some (.nx [some (schD r taps rows e),some (.int (n:Int)),some T,some s,some (tbD TB),some (.lst TL),some (.int (k:Int)),some (.lst ((q1z n k).map D.int)),some (.int room),v9']):=by
 have pn:=q32 (r:=r);have l2:(q1z n k).length<=2:=by unfold q1z;split<;>simp
 have hb:∀b∈q1z n k,b=0∨b=1:=by unfold q1z;split<;>simp
 have hk1:=(List.getElem?_eq_some_iff.mp ht').1;have at0':atI (TB.map rwD) (k:Int)=some (.lst (t.map optI)):=by rw[q52 (by omega) (by rw[jb];omega),jz,jk,ht];rfl
 have at1':atI (TB.map rwD) ((k:Int)+1)=some (rwD t'):=by rw[q52 (by omega) (by rw[jb];omega),show((k:Int)+1).toNat=k+1 from by omega,jk,ht'];rfl
 have atr:atI (t.map optI) room=some (optI (atR t room)):=q81 a0 (by rw[l0];omega);have cm:=q4b (n:=1) (js:=[0,6,8,5,4]) (fg:=gSet 0) (fe:=q0l f_y41 w01)
  (ρ:=[some (schD r taps rows e),some (.int (n:Int)),some T,some s,some (tbD TB),some (.lst TL),some (.int (k:Int)),some (.lst ((q1z n k).map D.int)),some (.int room),v9])
  (λd=>match d with|.int b=>optI (q2z (mvK r taps rows ts k room b) t')|d=>d) ((q1z n k).map D.int) (λx hx=>by obtain⟨b,hm,rfl⟩:=List.mem_map.mp hx;exact⟨_,rfl,wk_e [] _ _ _ _ _ _ _ _ _ hTL at1' (qql ok k ts room b a0 a1 (hb b hm) t' l1)⟩)
 have e1:((q1z n k).map D.int).map (λd=>match d with|.int b=>optI (q2z (mvK r taps rows ts k room b) t')|d=>d)=(((q1z n k).map λb=>mvK r taps rows ts k room b).map λq=>q2z q t').map optI:=by rw[jn,jn,jn];rfl
 rw[e1]at cm;have lw:((((q1z n k).map λb=>mvK r taps rows ts k room b).map λq=>q2z q t').map optI).length<=2:=by rw[jb,jb,jb];exact l2
 have cf:=q3o (n:=1) (js:=[]) (fg:=gSet 0) (ft:=q0d (mOp2 q43 (mVar 0) (mRet .non))) (fe:=mVar 0) (ρ:=[some (schD r taps rows e),some (.int (n:Int)),some T,some s,some (tbD TB),some (.lst TL),some (.int (k:Int)),some (.lst ((q1z n k).map D.int)),some (.int room),some (.lst ((((q1z n k).map λb=>mvK r taps rows ts k room b).map λq=>q2z q t').map optI))])
  (λd=>match d with|.non=>false|_=>true) (λd=>d) ((((q1z n k).map λb=>mvK r taps rows ts k room b).map λq=>q2z q t').map optI) (λx hx=>by
    obtain⟨o,_,rfl⟩:=List.mem_map.mp hx;refine⟨[some (optI o)],rfl,?_,λ_=>rfl⟩;cases o with
    |none=>rfl
    |some y=>rfl)
 have e2:∀zs:List D,zs.map (λd=>d)=zs:=λzs=>by simp
 rw[e2]at cf;have cf:=cf.trans (congrArg (λz=>some (z,_)) (q5o _));have hmin:q6m (.lst (((((q1z n k).map λb=>mvK r taps rows ts k room b).map λq=>q2z q t').filterMap id).map D.int))=some (optI (atR t room)):=by rw[hst];show(q4k _).map (λns=>optI (minI ns))=_;rw[q3n];rfl
 exact⟨_,(q2d (wk_9 _ _ _ _ _ _ _ _ _ _ _ _ (q1c (by rw[jb];omega)) cm)).trans (wk_i _ _ _ _ _ _ _ _ _ _ _ _ _ _ _ _ at0' atr (wk_f _ _ _ _ _ _ _ _ _ _ _ _ (q1c (by omega)) cf) hmin (qie _))⟩
theorem qfo(ok:q28 r taps rows e)(n:Nat)(hn:n<=60)(ts:List Told)(hl:ts.length=(q0f taps rows (n+q0e r e)).length)(s:Int):
 f_y44 [schD r taps rows e,.int n,.lst (ts.map q0n),.int s,tbD (q1k r taps rows e ts n s)]=some (.bl true):=by
 have p16:=q3b ok.r0 ok.r4;have pn:=q32 (r:=r);have z4:=q36 ok;have bgM:big ((2:Int)^r.toNat)=true:=by unfold big;simp;omega
 have tn:((2:Int)^r.toNat).toNat=2^r.toNat:=by omega
 have hform:=qfq ok n (q1k r taps rows e ts n s) (q5s ts n s) (λt ht=>by obtain⟨k,hk⟩:=List.getElem?_of_mem ht;exact q7h hk)
 have hlast:atI ((q1k r taps rows e ts n s).map rwD) (-1)=some (rwD (q3k r e s)):=by have e1:=take_snoc (qfw (r:=r) (taps:=taps) (rows:=rows) (e:=e) ts n s);rw[List.take_of_length_le (by rw[q5s];exact jf _)]at e1;rw[e1,xm];exact qlu _ _
 have htl:=q85 ok n hn ts hl;have hat:∀k,k<n+q0e r e->atI ((List.range (n+q0e r e)).map λk=>D.lst ((chunk taps rows ts k).map q0n)) (k:Int)=some (.lst ((chunk taps rows ts k).map q0n)):=λk hk=>by rw[q52 (by omega) (by rw[jb,List.length_range];omega),jz,jk,xr hk];rfl
 generalize (List.range (n+q0e r e)).map (λk=>D.lst ((chunk taps rows ts k).map q0n))=TL at htl hat;have lTL:TL.length=n+q0e r e:=by have:=congrArg (λd=>match d with|some (D.lst x)=>x.length|_=>0) (htl.symm.trans (q85 ok n hn ts hl));simpa using this
 obtain⟨ρ',l1,v6,v7,v8,v9,hρ⟩:=q3j (fg:=gSet 6) (fb:=(sSeq w1t
 (sFor (q2k (q02 (mOp2 dShl (mRet (.int 1)) (mOp2 dIx (mVar 0) (mRet (.int 0)))) mNil)) (gSet 8)
   (sSeq w1o (sIf (q0d (mOp2 dNe w0z (mOp1 q6m w0g)))
   (sRet (mRet (.bl false)))
   sNil)))))
   (λk ρ=>∃v6 v7 v8 v9,ρ=[some (schD r taps rows e),some (.int (n:Int)),some (.lst (ts.map q0n)),some (.int s),some (tbD (q1k r taps rows e ts n s)),some (.lst TL),v6,v7,v8,v9]) (q17 0 (n+q0e r e)) 0
   [some (schD r taps rows e),some (.int (n:Int)),some (.lst (ts.map q0n)),some (.int s),some (tbD (q1k r taps rows e ts n s)),some (.lst TL),none,none,none,none] ⟨none,none,none,none,rfl⟩ (λi x ρ hx ⟨v6,v7,v8,v9,hρ⟩=>by
    subst hρ;obtain⟨hi,rfl⟩:=q20 hx;rw[Int.zero_add];have z9:=q5s (r:=r) (taps:=taps) (rows:=rows) (e:=e) ts n s;have ht:(q1k r taps rows e ts n s)[i]? =some (q1k r taps rows e ts n s)[i]:=jt (by omega);have ht':(q1k r taps rows e ts n s)[i+1]? =some (q1k r taps rows e ts n s)[i+1]:=jt (by omega);obtain⟨ρ',m1,v8',v9',hρ⟩:=q3j (fg:=gSet 8) (fb:=(sSeq w1o (sIf (q0d (mOp2 dNe w0z (mOp1 q6m w0g))) (sRet (mRet (.bl false))) sNil)))
     (λk ρ=>∃v8 v9,ρ=[some (schD r taps rows e),some (.int (n:Int)),some (.lst (ts.map q0n)),some (.int s),some (tbD (q1k r taps rows e ts n s)),some (.lst TL),some (.int (i:Int)),some (.lst ((q1z n i).map D.int)),v8,v9]) (q17 0 ((2:Int)^r.toNat).toNat) 0
     [some (schD r taps rows e),some (.int (n:Int)),some (.lst (ts.map q0n)),some (.int s),some (tbD (q1k r taps rows e ts n s)),some (.lst TL),some (.int (i:Int)),some (.lst ((q1z n i).map D.int)),v8,v9] ⟨v8,v9,rfl⟩ (λj x ρ hx ⟨v8,v9,hρ⟩=>by
      subst hρ;obtain⟨hj,rfl⟩:=q20 hx;rw[Int.zero_add];have hlt:(j:Int)<2^r.toNat:=by omega
      obtain⟨v9',hv⟩:=qjc ok n i ts (.lst (ts.map q0n)) (.int s) (q1k r taps rows e ts n s) _ _ TL (j:Int) (by omega) hlt v9 (hat i hi) ht ht' (q7h ht) (q7h ht') (qm8 hi ht ht' (by omega) hlt);exact⟨_,_,rfl,.inl hv,_,_,rfl⟩)
    subst hρ;exact⟨_,_,rfl,.inl ((q2d (wk_7 _ _ _ _ _ _ _ _ _ _ (by decide) n i rfl rfl)).trans (wk_r _ _ _ _ _ _ _ _ _ _ _ _ _ _ _ _ _ (qg1 ok) bgM m1)),_,_,_,_,rfl⟩)
 subst hρ;have bg:big ((n+q0e r e:Nat):Int)=true:=by unfold big;simp;omega
 refine qd6 rfl ⟨_,(q2d (wk_0 _ _ _ _ _ _ _ _ _ _ _ _ hform hlast (qm5 ok s))).trans<|(q2d (wk_5 _ _ _ _ _ _ htl)).trans<|wk_l _ _ _ _ _ _ _ _ _ _ _ _ _ (qdd (wk_n _ _ _ _ _ _) (by rw[lTL];exact bg)) (by rw[lTL,jz];exact l1)⟩
end
theorem qm3(S n T:D)(x:Str)(h:q77 [S,n,T]=some x):q76 [S,n,T]=some x:=by unfold q76 qfj;rw[qc8];walk_at "ev"
theorem qm2(S n T s:D)(x:Str)(h:q76 [S,n,T]=some x):q6j [S,n,T,s]=some x:=by unfold q6j qfi;walk_at "ev"
theorem qc9(S n T:D)(h1:q6j [S,n,T,.int 0]=some ("NoWord":Str)):f_y45 [S,n,T]=some (.bl true):=by
 have c1:("NoWord":Str)∈tk_NoWord:=by decide+kernel
 unfold f_y45 qhk;generalize tk_NoWord=T1 at c1 ⊢;generalize ("NoWord":Str)=x at h1 c1;walk_at "ev"
theorem l0(N HS:List D)(c0:Int)(hc0:f_y30 [.lst N,.int 0]=some (.int c0))(hhs:f_y31 [.int c0,.int 6]=some (.lst HS)):
 w1g [some (.lst N),none,none,none,none,none,none,none,none,none]=some (.nx [some (.lst N),some (.lst HS),none,none,none,none,none,none,none,none]):=by
 walk_at "ev"
theorem l1(N HS:List D)(S:D)(x0 x1 y8 top:Int)(two:2<=sizeLine)(a0:atI HS 0=some (.int x0))(a1:atI HS 1=some (.int x1))(h8:x1 % 8=y8)(etop:atI [D.int 3,D.int 4] (if y8=0 then 1 else 0)=some (.int top))(hsch:f_y32 [.int x0,.int top]=some S):
 w0j [some (.lst N),some (.lst HS),none,none,none,none,none,none,none,none]=some (.nx [some (.lst N),some (.lst HS),some S,none,none,none,none,none,none,none]):=by
 walk_at "ev"
theorem l2(N HS:List D)(x2:Int)(S:D)(a2:atI HS 2=some (.int x2)):
 w2c [some (.lst N),some (.lst HS),some S,none,none,none,none,none,none,none]=some (.nx [some (.lst N),some (.lst HS),some S,some (.int (x2 % 13)),none,none,none,none,none,none]):=by
 walk_at "ev"
theorem l3(N HS PL N1 T:List D)(S:D)(n' m' x3:Int)(hpl:f_y36 [S,.int n']=some (.lst PL))(hm:((PL.length:Nat):Int)=m')(sl:dSl (.lst N) (some 1) none=some (.lst N1))(a3:atI HS 3=some (.int x3))(ht:f_y39 [.lst N1,.int m',.int x3]=some (.lst T)):
 w0u [some (.lst N),some (.lst HS),some S,some (.int n'),none,none,none,none,none,none]=some (.nx [some (.lst N),some (.lst HS),some S,some (.int n'),some (.lst T),none,none,none,none,none]):=by
 rw[<-hm]at ht;clear hm;walk_at "ev"
theorem l4y(N HS TS RS T y:D)(r n':Int)(e:Str)(h:eqD (.str e) (.str "ring")=some true)(lt:n'<r)(hr:f_y45 [.tup [.int r,TS,RS,.str e],.int n',T]=some y):
 (sIf w04
 w1b
 sNil) [some N,some HS,some (.tup [.int r,TS,RS,.str e]),some (.int n'),some T,none,none,none,none,none]=some (.rt y [some N,some HS,some (.tup [.int r,TS,RS,.str e]),some (.int n'),some T,none,none,none,none,none]):=by
 walk_at "ev"
theorem l4r(N HS TS RS T:D)(r n':Int)(e:Str)(FX:RhO)(h:eqD (.str e) (.str "ring")=some true)(lt:¬n'<r):
 (sIf w04 FX
 sNil) [some N,some HS,some (.tup [.int r,TS,RS,.str e]),some (.int n'),some T,none,none,none,none,none]=some (.nx [some N,some HS,some (.tup [.int r,TS,RS,.str e]),some (.int n'),some T,none,none,none,none,none]):=by
 walk_at "ev"
theorem l4n(N HS TS RS T:D)(r n':Int)(e:Str)(FX:RhO)(h:eqD (.str e) (.str "ring")=some false):
 (sIf w04 FX
 sNil) [some N,some HS,some (.tup [.int r,TS,RS,.str e]),some (.int n'),some T,none,none,none,none,none]=some (.nx [some N,some HS,some (.tup [.int r,TS,RS,.str e]),some (.int n'),some T,none,none,none,none,none]):=by
 walk_at "ev"
theorem l5(N TS RS en n T:D)(HS:List D)(r M x4:Int)(a4:atI HS 4=some (.int x4))(hs:dShl (.int 1) (.int r)=some (.int M))(m0:0<M):
 (sSet 5 (mOp2 dMod (mOp2 dIx (mVar 1) (mRet (.int 4))) (mOp2 dShl (mRet (.int 1)) (mOp2 dIx (mVar 2) (mRet (.int 0)))))) [some N,some (.lst HS),some (.tup [.int r,TS,RS,en]),some n,some T,none,none,none,none,none]=some (.nx [some N,some (.lst HS),some (.tup [.int r,TS,RS,en]),some n,some T,some (.int (x4 % M)),none,none,none,none]):=by
 generalize dShl=SH at hs ⊢;walk_at "ev"
theorem l6(N HS S n s:D)(T:List D)(lT:T.length<=sizeLine):(sSet 6 (mOf (qea dSeq (mVar 4)))) [some N,some HS,some S,some n,some (.lst T),some s,none,none,none,none]=some (.nx [some N,some HS,some S,some n,some (.lst T),some s,some (.lst T),none,none,none]):=by walk_at "ev"
theorem t1(N TS RS R n T:D)(HS:List D)(x5 y s:Int)(e:Str)(a b c:Bool)(a5:atI HS 5=some (.int x5))(hy:x5 % 2=y)(ha:(y==0)=a)(hb:(s==0)=b)(hc:eqD (.str e) (.str "ring")=some c):
 w09 [some N,some (.lst HS),some (.tup [R,TS,RS,.str e]),some n,some T,some (.int s),some T,none,none,none]=some (a&&(b|| !c),[some N,some (.lst HS),some (.tup [R,TS,RS,.str e]),some n,some T,some (.int s),some T,none,none,none]):=by
 cases a<;>cases b<;>cases c<;>walk_at "ev"
theorem t2(N S n T s:D)(HS:List D)(x5 y:Int)(a:Bool)(a5:atI HS 5=some (.int x5))(hy:x5 / 2 % 2=y)(ha:(y==0)=a):
 w0l [some N,some (.lst HS),some S,some n,some T,some s,some T,none,none,none]=some (a,[some N,some (.lst HS),some S,some n,some T,some s,some T,none,none,none]):=by
 walk_at "ev"
theorem c0(N HS S n T s:D):w18 [some N,some HS,some S,some n,some T,some s,some T,none,none,none]=some ([S,n,T,.int 0],[some N,some HS,some S,some n,some T,some s,some T,none,none,none]):=by walk_at "ev"
theorem cs(N HS S n T s:D):w0k [some N,some HS,some S,some n,some T,some s,some T,none,none,none]=some ([S,n,T,s],[some N,some HS,some S,some n,some T,some s,some T,none,none,none]):=by walk_at "ev"
theorem t3(N HS S n T s F:D)(E:eqD T T=some true)(hw:f_y44 [S,n,T,s,F]=some (.bl true)):
 w03 [some N,some HS,some S,some n,some T,some s,some T,some F,none,none]=some (false,[some N,some HS,some S,some n,some T,some s,some T,some F,none,none]):=by
 walk_at "ev"
section
variable{r:Int}{taps:List Int}{rows:List (List Int)}{e:Str}
theorem qfv{s t:Int}(ts:List Told)(n:Nat)(h:s=t∨e≠"ring"):q1k r taps rows e ts n s=q1k r taps rows e ts n t:=by
 rcases h with h|h
 ·rw[h]
 ·unfold q1k q3k;rw[if_neg h,if_neg h]
theorem qeo(ok:q28 r taps rows e)(n:Nat)(hn:n<=60)(h:e="ring"->r.toNat<=n)(ts:List Told)(hl:ts.length=(q0f taps rows (n+q0e r e)).length)(s t:Int)(hst:t=s∨e≠"ring")(N HS:D):
 ∃ρ,go12 7 8 9 q79 w03 (some ([schD r taps rows e,.int n,.lst (ts.map q0n),.int t],[some N,some HS,some (schD r taps rows e),some (.int (n:Int)),some (.lst (ts.map q0n)),some (.int s),some (.lst (ts.map q0n)),none,none,none]))=some (.rt (.bl true) ρ):=by
 have z4:=q36 ok;have hD:=qgi ok n hn h ts hl t;rw[qfv ts n hst]at hD;have p16:=q3b ok.r0 ok.r4;have pn:=q32 (r:=r);have hw:=qfo ok n hn ts hl s;have E:eqD (.lst (ts.map q0n)) (.lst (ts.map q0n))=some true:=qaw (DOk.tolds ts) (by decide);have htab:tbD (q1k r taps rows e ts n s)=.lst (((q1k r taps rows e ts n s).map λt=>t.map optI).map D.lst):=by unfold tbD;rw[jn];rfl
 rw[htab]at hw;have j0:(((q1k r taps rows e ts n s).map λt=>t.map optI).all λds=>scs ds&&decide (ds.length<sizeLine))=true:=by refine List.all_eq_true.mpr λds hd=>?_;obtain⟨t,ht,rfl⟩:=List.mem_map.mp hd;obtain⟨k,hk⟩:=List.mem_iff_getElem?.mp ht;rw[qcm,decide_eq_true (by rw[jb,q7h hk];exact jm (by omega:2^r.toNat<2000) (by decide))];rfl
 have z9:((q1k r taps rows e ts n s).map λt=>t.map optI).length<1000000:=by rw[jb,q5s];omega
 generalize (q1k r taps rows e ts n s).map (λt=>t.map optI)=dss at hD hw j0 z9;refine⟨[some N,some HS,some (schD r taps rows e),some (.int (n:Int)),some (.lst (ts.map q0n)),some (.int s),some (.lst (ts.map q0n)),none,none,none],?_⟩;unfold go12;dsimp only;rw[if_pos ⟨by show 7<10;decide,rfl,rfl⟩,hD];dsimp only;rw[if_pos ⟨j0,z9⟩];have h3:=t3 N HS (schD r taps rows e) (.int (n:Int)) (.lst (ts.map q0n)) (.int s) (.lst (dss.map D.lst)) E hw;show(match w03 [some N,some HS,some (schD r taps rows e),some (.int (n:Int)),some (.lst (ts.map q0n)),some (.int s),some (.lst (ts.map q0n)),some (.lst (dss.map D.lst)),none,none]with
  |some (false,_)=>some (Out.rt (.bl true) _)
  |_=>none)=_
 rw[h3];rfl
end
theorem law_true(ns:List Int)(h:ns.length<=63):f_law [.lst (ns.map D.int)]=some (.bl true):=by
 obtain⟨c0',hc0⟩:=qfr ns 0;obtain⟨hs,hhs,lhs,bhs⟩:=q7g c0' 6 (by decide);have at_:∀k:Nat,k<6->∃x:Int,atI (hs.map D.int) (k:Int)=some (.int x)/\0<=x:=λk hk=>by
  have h1:k<hs.length:=by omega
  refine⟨hs[k],?_,(bhs _ (k6 h1)).1⟩;rw[q52 (by omega) (by rw[jb];omega),jz,jk,jt h1];rfl
 obtain⟨x0,a0,p0⟩:=at_ 0 (by decide);obtain⟨x1,a1,p1⟩:=at_ 1 (by decide);obtain⟨x2,a2,p2⟩:=at_ 2 (by decide);obtain⟨x3,a3,p3⟩:=at_ 3 (by decide);obtain⟨x4,a4,p4⟩:=at_ 4 (by decide);obtain⟨x5,a5,p5⟩:=at_ 5 (by decide);obtain⟨top,etop,htop⟩:=qqu (a:=3) (b:=4) (x1 % 8=0);obtain⟨r,taps,rows,e,hsch,ok⟩:=q96 x0 top (by omega) (by omega);have r0:=ok.r0;have r4:=ok.r4;have z4:=q36 ok;have p16:=q3b ok.r0 ok.r4;obtain⟨n,hn,hn12⟩:∃n:Nat,x2 % 13=(n:Int)/\n<=12:=⟨(x2 % 13).toNat,by omega,by omega⟩;have b2:=l2 (ns.map D.int) (hs.map D.int) x2 (schD r taps rows e) a2;rw[hn]at b2;have hpl:=qa5 ok n (by omega);have hm4:(q0f taps rows (n+q0e r e)).length<=256:=by
  have s4:∀k,(selK taps rows k).length<=4:=λk=>by unfold selK;refine ju (List.length_filter_le _ _) ?_;rw[xo];have:=ok.t4;have:=xl taps.length (rowAt rows k).length;omega
  have q1:(q0f taps rows (n+q0e r e)).length<=(n+q0e r e)*4:=q42 _ 4 (λk=>by rw[jx];exact s4 k) _;omega
 have sl1:dSl (.lst (ns.map D.int)) (some 1) none=some (.lst ((ns.drop 1).map D.int)):=by rw[q8v (by decide),List.map_drop];rfl
 obtain⟨ts,hts,lts⟩:=qje (ns.drop 1) (q0f taps rows (n+q0e r e)).length x3 (by omega);have hplm:(((q0f taps rows (n+q0e r e)).map D.int).length:Int)=((q0f taps rows (n+q0e r e)).length:Nat):=by rw[jb]
 by_cases q:e="ring"/\(n:Int)<r
 ·obtain⟨q1,q2⟩:=q;subst q1;have hx:=qm2 (schD r taps rows "ring") (.int (n:Int)) (.lst (ts.map q0n)) (.int 0) _ (qm3 _ _ _ _ (qfm ok n (by omega) (.lst (ts.map q0n))));exact qd6 rfl ⟨_,(q2d (l0 _ _ c0' hc0 hhs)).trans<|(q2d (l1 _ _ _ x0 x1 _ top (by decide) a0 a1 rfl etop hsch)).trans<|(q2d b2).trans<|(q2d (l3 _ _ _ _ _ _ _ _ x3 hpl hplm sl1 a3 hts)).trans<|qmn (l4y _ _ _ _ _ _ _ _ _ s_rr q2 (qc9 _ _ _ hx))⟩
 ·have hw:e="ring"->r.toNat<=n:=λz=>by
   by_cases lt:(n:Int)<r
   ·exact absurd ⟨z,lt⟩ q
   ·omega
  have b4:(sIf w04
  w1b
  sNil) [some (.lst (ns.map D.int)),some (.lst (hs.map D.int)),some (schD r taps rows e),some (.int (n:Int)),some (.lst (ts.map q0n)),none,none,none,none,none]=some (.nx [some (.lst (ns.map D.int)),some (.lst (hs.map D.int)),some (schD r taps rows e),some (.int (n:Int)),some (.lst (ts.map q0n)),none,none,none,none,none]):=by
   by_cases z:e="ring"
   ·refine l4r _ _ _ _ _ _ _ e _ (by rw[z];exact s_rr) ?_;exact λlt=>q ⟨z,lt⟩
   ·refine l4n _ _ _ _ _ _ _ e _ ?_;rcases ok.en with g|g|g
    ·rw[g];exact s_or
    ·rw[g];exact s_er
    ·exact absurd g z
  obtain⟨c,hc,hce⟩:∃c:Bool,eqD (.str e) (.str "ring")=some c/\(c=false->e≠"ring"):=by
   by_cases z:e="ring"
   ·exact⟨true,by rw[z];exact s_rr,λh=>nomatch h⟩
   ·refine⟨false,?_,λ_=>z⟩;rcases ok.en with g|g|g
    ·rw[g];exact s_or
    ·rw[g];exact s_er
    ·exact absurd g z
  obtain⟨s,hs'⟩:∃s,x4 % 2^r.toNat=s:=⟨_,rfl⟩;have b5:=l5 (.lst (ns.map D.int)) (.tup (taps.map D.int)) (.tup (rows.map rowD)) (.str e) (.int (n:Int)) (.lst (ts.map q0n)) (hs.map D.int) r _ x4 a4 (qg1 ok) (by omega);rw[hs']at b5;have b6:=l6 (.lst (ns.map D.int)) (.lst (hs.map D.int)) (schD r taps rows e) (.int (n:Int)) (.int s) (ts.map q0n) (q1c (by rw[jb];omega));have g1:=t1 (.lst (ns.map D.int)) (.tup (taps.map D.int)) (.tup (rows.map rowD)) (.int r) (.int (n:Int)) (.lst (ts.map q0n)) (hs.map D.int) x5 _ s e _ _ c a5 rfl rfl rfl hc;have g2:=t2 (.lst (ns.map D.int)) (schD r taps rows e) (.int (n:Int)) (.lst (ts.map q0n)) (.int s) (hs.map D.int) x5 _ _ a5 rfl rfl;obtain⟨ρ,hend⟩:∃ρ,q5x 7 8 9 w09 w0l w18 w0k w0k q79 w03 [some (.lst (ns.map D.int)),some (.lst (hs.map D.int)),some (schD r taps rows e),some (.int (n:Int)),some (.lst (ts.map q0n)),some (.int s),some (.lst (ts.map q0n)),none,none,none]=some (.rt (.bl true) ρ):=by
   unfold q5x;rw[show schD r taps rows e=.tup [.int r,.tup (taps.map D.int),.tup (rows.map rowD),.str e]from rfl,g1];cases ha:(x5 % 2==0)&&((s==0)|| !c)with
   | true=>
    dsimp only;rw[c0];rw[Bool.and_eq_true,Bool.or_eq_true]at ha;refine qeo ok n (by omega) hw ts lts s 0 ?_ _ _;rcases ha.2 with z|z
    ·exact .inl (beq_iff_eq.mp z).symm
    ·exact .inr (hce (by simpa using z))
   | false=>
    dsimp only;rw[show(.tup [.int r,.tup (taps.map D.int),.tup (rows.map rowD),.str e]:D)=schD r taps rows e from rfl,g2];cases hb:(x5 / 2 % 2==0)with
    | true=>
     dsimp only;rw[cs];exact qeo ok n (by omega) hw ts lts s s (.inl rfl) _ _
    | false=>
     dsimp only;rw[cs];exact qeo ok n (by omega) hw ts lts s s (.inl rfl) _ _
  exact qd6 rfl ⟨_,(q2d (l0 _ _ c0' hc0 hhs)).trans<|(q2d (l1 _ _ _ x0 x1 _ top (by decide) a0 a1 rfl etop hsch)).trans<|(q2d b2).trans<|(q2d (l3 _ _ _ _ _ _ _ _ x3 hpl hplm sl1 a3 hts)).trans<|(q2d b4).trans<|(q2d b5).trans<|(q2d b6).trans hend⟩
theorem qp3{P:Program}{w:World}{K mg a base}(T:Txt K mg a):FnOk P w K mg base CX0 9 a.f_law a.fd_law ["_law_script"] (qjg K 63):=qp4 (qoe T) law_true
local macro_rules|`(tactic|walk_at "k")=>`(tactic|as_aux_lemma=>kernel_rfl)
local macro_rules|`(tactic|walk_at "f")=>`(tactic|exact qpl (oc:=.type "function") (od:=none) (osl:=#[]) (by walk_at "k") (by walk_at "k") (by walk_at "k"))
local macro_rules|`(tactic|walk_at "g")=>`(tactic|exact qkw (oc:=.type "function") (od:=none) (osl:=#[]) (by walk_at "k") (by walk_at "k") (by walk_at "k"))
noncomputable def ad:Ad:=⟨162,188,221,24,37,49,58,(PySem.W.fnOf "rooms_at" "rooms_at" (q0p s_y0) (q0j s_y0) (q04 s_y0) .none (.none) (.none) (.str "trellisway.schemes" 239) none (.ref 57) (.none)),65,(PySem.W.fnOf "rooms" "rooms" (q0p s_y1) (q0j s_y1) (q04 s_y1) .none (.none) (.none) (.str "trellisway.schemes" 239) none (.ref 64) (.none)),72,(PySem.W.fnOf "parity" "parity" (q0p s_y2) (q0j s_y2) (q04 s_y2) .none (.none) (.none) (.str "trellisway.schemes" 239) none (.ref 71) (.none)),77,(PySem.W.fnOf "step" "step" (q0p s_y3) (q0j s_y3) (q04 s_y3) .none (.none) (.none) (.str "trellisway.schemes" 239) none (.ref 76) (.none)),82,(PySem.W.fnOf "sent_at" "sent_at" (q0p s_y4) (q0j s_y4) (q04 s_y4) .none (.none) (.none) (.str "trellisway.schemes" 239) none (.ref 81) (.none)),89,(PySem.W.fnOf "is_ring" "is_ring" (q0p s_y5) (q0j s_y5) (q04 s_y5) .none (.none) (.none) (.str "trellisway.sending" 276) none (.ref 88) (.none)),96,(PySem.W.fnOf "check_size" "check_size" (q0p s_y6) (q0j s_y6) (q04 s_y6) .none (.none) (.none) (.str "trellisway.sending" 276) none (.ref 95) (.none)),103,(PySem.W.fnOf "bits_behind" "bits_behind" (q0p s_y7) (q0j s_y7) (q04 s_y7) .none (.none) (.none) (.str "trellisway.sending" 276) none (.ref 102) (.none)),110,(PySem.W.fnOf "steps_of" "steps_of" (q0p s_y8) (q0j s_y8) (q04 s_y8) .none (.none) (.none) (.str "trellisway.sending" 276) none (.ref 109) (.none)),117,(PySem.W.fnOf "places_of" "places_of" (q0p s_y9) (q0j s_y9) (q04 s_y9) .none (.none) (.none) (.str "trellisway.sending" 276) none (.ref 116) (.none)),145,(PySem.W.fnOf "__init__" "Clear.__init__" (q0p qd5) (q0j qd5) (q04 qd5) .none (.none) (.none) (.str "trellisway.signs" 319) none (.ref 144) (.none)),159,(PySem.W.fnOf "cost" "Clear.cost" (q0p qd4) (q0j qd4) (q04 qd4) .none (.none) (.none) (.str "trellisway.signs" 319) none (.ref 158) (.none)),185,(PySem.W.fnOf "cost" "Gap.cost" (q0p qd3) (q0j qd3) (q04 qd3) .none (.none) (.none) (.str "trellisway.signs" 319) none (.ref 184) (.none)),204,(PySem.W.fnOf "__init__" "Soft.__init__" (q0p qd2) (q0j qd2) (q04 qd2) .none (.none) (.none) (.str "trellisway.signs" 319) none (.ref 203) (.none)),218,(PySem.W.fnOf "cost" "Soft.cost" (q0p qd1) (q0j qd1) (q04 qd1) .none (.none) (.none) (.str "trellisway.signs" 319) none (.ref 217) (.none)),230,(PySem.W.fnOf "sign_of" "sign_of" (q0p qd0) (q0j qd0) (q04 qd0) .none (.none) (.none) (.str "trellisway.signs" 319) none (.ref 229) (.none)),237,(PySem.W.fnOf "check_heard" "check_heard" (q0p qcz) (q0j qcz) (q04 qcz) .none (.none) (.none) (.str "trellisway.costs" 461) none (.ref 236) (.none)),242,(PySem.W.fnOf "signs_cost" "signs_cost" (q0p qbk) (q0j qbk) (q04 qbk) .none (.none) (.none) (.str "trellisway.costs" 461) none (.ref 241) (.none)),247,(PySem.W.fnOf "signs_by_step" "signs_by_step" (q0p qbj) (q0j qbj) (q04 qbj) .none (.none) (.none) (.str "trellisway.costs" 461) none (.ref 246) (.none)),254,(PySem.W.fnOf "move" "move" (q0p qcy) (q0j qcy) (q04 qcy) .none (.none) (.none) (.str "trellisway.costs" 461) none (.ref 253) (.none)),259,(PySem.W.fnOf "moves_from" "moves_from" (q0p qbi) (q0j qbi) (q04 qbi) .none (.none) (.none) (.str "trellisway.costs" 461) none (.ref 258) (.none)),264,(PySem.W.fnOf "moves" "moves" (q0p qbh) (q0j qbh) (q04 qbh) .none (.none) (.none) (.str "trellisway.costs" 461) none (.ref 263) (.none)),269,(PySem.W.fnOf "end_costs" "end_costs" (q0p qbg) (q0j qbg) (q04 qbg) .none (.none) (.none) (.str "trellisway.costs" 461) none (.ref 268) (.none)),276,(PySem.W.fnOf "cost_by" "cost_by" (q0p qcx) (q0j qcx) (q04 qcx) .none (.none) (.none) (.str "trellisway.costs" 461) none (.ref 275) (.none)),281,(PySem.W.fnOf "least_by" "least_by" (q0p q9c) (q0j q9c) (q04 q9c) .none (.none) (.none) (.str "trellisway.costs" 461) none (.ref 280) (.none)),286,(PySem.W.fnOf "ahead_by" "ahead_by" (q0p q9b) (q0j q9b) (q04 q9b) .none (.none) (.none) (.str "trellisway.costs" 461) none (.ref 285) (.none)),294,(PySem.W.fnOf "ahead" "ahead" (q0p qcw) (q0j qcw) (q04 qcw) (.ref 287) (.none) (.none) (.str "trellisway.costs" 461) none (.ref 293) (.none)),301,(PySem.W.fnOf "_law_cell_at" "_law_cell_at" (q0p qcv) (q0j qcv) (q04 qcv) .none (.none) (.none) (.str zlw 547) none (.ref 300) (.none)),308,(PySem.W.fnOf "_law_mixed" "_law_mixed" (q0p qcu) (q0j qcu) (q04 qcu) .none (.none) (.none) (.str zlw 547) none (.ref 307) (.none)),313,(PySem.W.fnOf "_law_scheme" "_law_scheme" (q0p q9a) (q0j q9a) (q04 q9a) .none (.none) (.none) (.str zlw 547) none (.ref 312) (.none)),318,(PySem.W.fnOf "_law_step" "_law_step" (q0p qbf) (q0j qbf) (q04 qbf) .none (.none) (.none) (.str zlw 547) none (.ref 317) (.none)),323,(PySem.W.fnOf "_law_sent_at" "_law_sent_at" (q0p qbe) (q0j qbe) (q04 qbe) .none (.none) (.none) (.str zlw 547) none (.ref 322) (.none)),330,(PySem.W.fnOf "_law_steps" "_law_steps" (q0p qct) (q0j qct) (q04 qct) .none (.none) (.none) (.str zlw 547) none (.ref 329) (.none)),335,(PySem.W.fnOf "_law_places" "_law_places" (q0p qbd) (q0j qbd) (q04 qbd) .none (.none) (.none) (.str zlw 547) none (.ref 334) (.none)),342,(PySem.W.fnOf "_law_price" "_law_price" (q0p qcs) (q0j qcs) (q04 qcs) .none (.none) (.none) (.str zlw 547) none (.ref 341) (.none)),349,(PySem.W.fnOf "_law_sign" "_law_sign" (q0p qcr) (q0j qcr) (q04 qcr) .none (.none) (.none) (.str zlw 547) none (.ref 348) (.none)),354,(PySem.W.fnOf "_law_heard" "_law_heard" (q0p q99) (q0j q99) (q04 q99) .none (.none) (.none) (.str zlw 547) none (.ref 353) (.none)),359,(PySem.W.fnOf "_law_at_steps" "_law_at_steps" (q0p qbc) (q0j qbc) (q04 qbc) .none (.none) (.none) (.str zlw 547) none (.ref 358) (.none)),364,(PySem.W.fnOf "_law_way" "_law_way" (q0p qbb) (q0j qbb) (q04 qbb) .none (.none) (.none) (.str zlw 547) none (.ref 363) (.none)),371,(PySem.W.fnOf "_law_last" "_law_last" (q0p qcq) (q0j qcq) (q04 qcq) .none (.none) (.none) (.str zlw 547) none (.ref 370) (.none)),378,(PySem.W.fnOf "_law_of_form" "_law_of_form" (q0p qcp) (q0j qcp) (q04 qcp) .none (.none) (.none) (.str zlw 547) none (.ref 377) (.none)),383,(PySem.W.fnOf "_law_walked" "_law_walked" (q0p q98) (q0j q98) (q04 q98) .none (.none) (.none) (.str zlw 547) none (.ref 382) (.none)),390,(PySem.W.fnOf "_law_refused" "_law_refused" (q0p qco) (q0j qco) (q04 qco) .none (.none) (.none) (.str zlw 547) none (.ref 389) (.none)),395,(PySem.W.fnOf "law" "law" (q0p qbl) (q0j qbl) (q04 qbl) .none (.none) (.none) (.str zlw 547) none (.ref 394) (.none))⟩
theorem txt{P:Params}{h:Heap}{mg:Str->Option Value}{fa:Addr}(X:(H12.KH P).In h)(G:h.Ns mainGlobals mg)(hfa:mg "law"=some (.ref fa)):∃a:Ad,Txt (H12.KH P) mg a/\a.f_law=fa/\∀(s:Shared) (v:Value),BindsTo s a.fd_law ⟨[v],[]⟩ [("_law_script",v)]:=by have e0:395=fa:=Value.ref.inj (jh ((PySem.W.mg_of X G (show PySem.W.nsIn (H12.KH P) mainGlobals "law"=some (some (.ref 395))from by walk_at "k")).symm.trans hfa));subst e0;have g {x:Str} {v:Value} (h:PySem.W.nsIn (H12.KH P) mainGlobals x=some (some v)):mg x=some v:=PySem.W.mg_of X G h;refine⟨ad,⟨g ?_,?_,⟨?_,?_,?_,?_⟩,(show PySem.W.findIn (H12.KH P) (.ref 162) "bit"=some none from by walk_at "k"),g ?_,?_,⟨?_,?_,?_,?_⟩,g ?_,?_,⟨?_,?_,?_,?_⟩,(show PySem.W.findIn (H12.KH P) (.ref 221) "zero"=some none from by walk_at "k"),(show PySem.W.findIn (H12.KH P) (.ref 221) "one"=some none from by walk_at "k"),g ?_,?_,⟨?_,?_,?_,?_,?_,?_,?_,?_,?_,?_⟩,g ?_,?_,⟨?_,?_,?_,?_,?_,?_,?_,?_,?_,?_⟩,?_,g ?_,?_,⟨?_,?_,?_,?_,?_,?_,?_,?_,?_,?_⟩,?_,qpn ?_ ?_ ?_ ?_,(by walk_at "f"),.all λus hl=>match us,hl with|[_],_=>rfl,g ?_,(by walk_at "f"),.all λus hl=>match us,hl with|[_],_=>rfl,g ?_,(by walk_at "f"),.all λus hl=>match us,hl with|[_],_=>rfl,g ?_,(by walk_at "f"),.all λus hl=>match us,hl with|[_,_,_],_=>rfl,g ?_,(by walk_at "f"),.all λus hl=>match us,hl with|[_,_,_],_=>rfl,g ?_,(by walk_at "f"),.all λus hl=>match us,hl with|[_],_=>rfl,g ?_,(by walk_at "f"),.all λus hl=>match us,hl with|[_,_],_=>rfl,g ?_,(by walk_at "f"),.all λus hl=>match us,hl with|[_],_=>rfl,g ?_,(by walk_at "f"),.all λus hl=>match us,hl with|[_,_],_=>rfl,g ?_,(by walk_at "f"),.all λus hl=>match us,hl with|[_,_],_=>rfl,g ?_,(by walk_at "f"),.all λus hl=>match us,hl with|[_,_],_=>rfl,(by walk_at "f"),.all λus hl=>match us,hl with|[_,_],_=>rfl,⟨?_,?_,?_⟩,(by walk_at "f"),.all λus hl=>match us,hl with|[_,_],_=>rfl,⟨?_,?_,?_⟩,(by walk_at "f"),.all λus hl=>match us,hl with|[_,_,_],_=>rfl,(by walk_at "f"),.all λus hl=>match us,hl with|[_,_],_=>rfl,⟨?_,?_,?_⟩,(by walk_at "f"),.all λus hl=>match us,hl with|[_],_=>rfl,g ?_,(by walk_at "f"),.all λus hl=>match us,hl with|[_,_,_],_=>rfl,g ?_,(by walk_at "f"),.all λus hl=>match us,hl with|[_,_],_=>rfl,g ?_,(by walk_at "f"),.all λus hl=>match us,hl with|[_,_,_],_=>rfl,g ?_,(by walk_at "f"),.all λus hl=>match us,hl with|[_,_,_,_,_],_=>rfl,g ?_,(by walk_at "f"),.all λus hl=>match us,hl with|[_,_,_,_,_],_=>rfl,g ?_,(by walk_at "f"),.all λus hl=>match us,hl with|[_,_,_],_=>rfl,g ?_,(by walk_at "f"),.all λus hl=>match us,hl with|[_,_],_=>rfl,g ?_,(by walk_at "f"),.all λus hl=>match us,hl with|[_,_],_=>rfl,g ?_,(by walk_at "f"),.all λus hl=>match us,hl with|[_,_],_=>rfl,g ?_,(by walk_at "f"),.all λus hl=>match us,hl with|[_,_],_=>rfl,g ?_,(by walk_at "g"),qqb (ps:=w0f) rfl (show(H12.KH P).lookup 287=some ⟨(.type "tuple"),none,.seq #[.int 0 536] 0,#[]⟩from by walk_at "k") λus hl=>match us,hl with|[_,_,_,_],_=>⟨_,rfl,rfl⟩,⟨_,qlm rfl (show(H12.KH P).lookup 287=some ⟨(.type "tuple"),none,.seq #[.int 0 536] 0,#[]⟩from by walk_at "k") λ_ _ _=>⟨_,rfl,rfl⟩⟩,qqa rfl (show(H12.KH P).lookup 287=some ⟨(.type "tuple"),none,.seq #[.int 0 536] 0,#[]⟩from by walk_at "k") λ_ _ _ _=>⟨_,rfl,rfl⟩,g ?_,(by walk_at "f"),.all λus hl=>match us,hl with|[_,_],_=>rfl,g ?_,(by walk_at "f"),.all λus hl=>match us,hl with|[_,_],_=>rfl,g ?_,(by walk_at "f"),.all λus hl=>match us,hl with|[_,_],_=>rfl,g ?_,(by walk_at "f"),.all λus hl=>match us,hl with|[_,_,_],_=>rfl,g ?_,(by walk_at "f"),.all λus hl=>match us,hl with|[_,_,_],_=>rfl,g ?_,(by walk_at "f"),.all λus hl=>match us,hl with|[_,_],_=>rfl,g ?_,(by walk_at "f"),.all λus hl=>match us,hl with|[_,_],_=>rfl,g ?_,(by walk_at "f"),.all λus hl=>match us,hl with|[_,_],_=>rfl,g ?_,(by walk_at "f"),.all λus hl=>match us,hl with|[_],_=>rfl,g ?_,(by walk_at "f"),.all λus hl=>match us,hl with|[_,_,_],_=>rfl,g ?_,(by walk_at "f"),.all λus hl=>match us,hl with|[_,_,_],_=>rfl,g ?_,(by walk_at "f"),.all λus hl=>match us,hl with|[_,_,_,_,_,_],_=>rfl,g ?_,(by walk_at "f"),.all λus hl=>match us,hl with|[_,_,_],_=>rfl,g ?_,(by walk_at "f"),.all λus hl=>match us,hl with|[_,_,_],_=>rfl,g ?_,(by walk_at "f"),.all λus hl=>match us,hl with|[_,_,_,_,_],_=>rfl,g ?_,(by walk_at "f"),.all λus hl=>match us,hl with|[_,_,_],_=>rfl,g ?_,(by walk_at "f"),.all λus hl=>match us,hl with|[_],_=>rfl,g ?_,⟨?_,?_,?_,?_⟩,⟨?_,?_,?_⟩,⟨?_,?_,?_,?_⟩,PySem.W.mg_none_of X G ?_,PySem.W.mg_none_of X G ?_,PySem.W.mg_none_of X G ?_,PySem.W.mg_none_of X G ?_,PySem.W.mg_none_of X G ?_,PySem.W.mg_none_of X G ?_,PySem.W.mg_none_of X G ?_,PySem.W.mg_none_of X G ?_,PySem.W.mg_none_of X G ?_,PySem.W.mg_none_of X G ?_,PySem.W.mg_none_of X G ?_,PySem.W.mg_none_of X G ?_,q2n (by decide+kernel) ?_ (by decide+kernel),q7s,q2n (by decide+kernel) ?_ (by decide+kernel),q2n (by decide+kernel) ?_ (by decide+kernel),q2n (by decide+kernel) ?_ (by decide+kernel),q2n (by decide+kernel) ?_ (by decide+kernel),q2n (by decide+kernel) ?_ (by decide+kernel),q2n (by decide+kernel) ?_ (by decide+kernel),q2n (by decide+kernel) ?_ (by decide+kernel),q7s,q2n (by decide+kernel) ?_ (by decide+kernel),q2n (by decide+kernel) ?_ (by decide+kernel),q2n (by decide+kernel) ?_ (by decide+kernel),q2n (by decide+kernel) ?_ (by decide+kernel),q2n (by decide+kernel) ?_ (by decide+kernel),q2n (by decide+kernel) ?_ (by decide+kernel),q2n (by decide+kernel) ?_ (by decide+kernel),q2n (by decide+kernel) ?_ (by decide+kernel),q7s,q2n (by decide+kernel) ?_ (by decide+kernel),q2n (by decide+kernel) ?_ (by decide+kernel)⟩,rfl,λs v=>.of_eq rfl⟩<;>walk_at "k"
theorem walk{l:PySem.W.OpenLaw}{q:Program}{loose:List Str}{XP:(Str->Option Value)->Heap->Prop}{YP:World->Heap->Prop}{d:DefRec}{K:Params->PySem.W.Frag}(hn:l.most=some 63)(hdf:d.params.defaults=[])(hd:d.name="law")
 (hY:∀(w:World) (h:Heap),YP w h->(K w.params).In h)
 (F:∀(w:World) (mg:Str->Option Value) (fa:Addr) (h:Heap),(K w.params).In h->h.Ns mainGlobals mg->mg "law"=some (.ref fa)->∃a:Ad,Txt (K w.params) mg a/\a.f_law=fa/\∀(s:Shared) (v:Value),BindsTo s a.fd_law ⟨[v],[]⟩ [("_law_script",v)]):
 PySem.W.WalkO q loose XP YP l.row.toRowW d [] (λf vs=>PySem.call f vs):=
 L2.walk_of (n:=63) (k:=9) (x:="_law_script") (CX:=λ_=>CX0) (sp:=λw=>qjg (K w.params) 63) hn (by decide) hdf ⟨rfl,by decide,by decide⟩ hY
  (λw mg fa h KX G hm=>by rw[hd]at hm;obtain⟨a,T,e,b⟩:=F w mg fa h KX G hm;subst e;exact⟨a.fd_law,b,λbase _ _=>qp3 T⟩)
  (λ_ _ a ns hl _ hS=>⟨a,ns,rfl,hS,hl,λ_=>rfl⟩) λ_ _ _ _ _ z=>z
end K12
open PySem PySem.W PyProof.Rows
set_option maxRecDepth 100000 in
set_option maxHeartbeats 0 in
theorem PySem.Challenge.cw_trellisway_k12_ahead_walked_holds : PySem.Challenge.rw_trellisway_k12_ahead_walked.Holds := by
 w_on;o_law
 refine holds_open (r:=PySem.Challenge.rw_trellisway_k12_ahead_walked.row) (q:=H12.V) (loose:=["ahead"]) (Xt:=(λs=>xlAt H12.V [] s&&recOk (RowW.records (OpenRow.toRowW PySem.Challenge.rw_trellisway_k12_ahead_walked.row)) s)) (XP:=XL H12.V []) (Yf:=Hook.obs (kHook H12.KH H12.KA H12.ka_eq)) (Ya:=Hook.val (kHook H12.KH H12.KA H12.ka_eq)) (YP:=Hook.says (kHook H12.KH H12.KA H12.ka_eq)) (N:=5866) H12.leftR (Hook.of (kHook H12.KH H12.KA H12.ka_eq)) (Hook.keeps (kHook H12.KH H12.KA H12.ka_eq)) (λs e=>xl_of s (Bool.and_eq_true_iff.mp e).1) XL.keeps (by rfl) (by rfl) (by rfl) (λs e=>recFacts_of (Bool.and_eq_true_iff.mp e).2) (by rfl) (by first|assumption|decide+kernel) (by decide+kernel) ⟨rfl,rfl,rfl,rfl,rfl,by decide+kernel⟩ ?hw ?hc
 case hw=>w_witness2
 case hc=>exact K12.walk (l:=PySem.Challenge.rw_trellisway_k12_ahead_walked) rfl rfl rfl (λw h Y=>PySem.W.kIn_of Y) λw mg fa h KX G hmg=>K12.txt KX G hmg
