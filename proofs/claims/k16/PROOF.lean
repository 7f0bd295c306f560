import PyProof.Rows.All
import Wide.All
import OpenK.AllK
import Wide.FinOn
import Lean
import KE.KTryMore
import KE.KRevIter
import KE.KMinKey
import KE.KIntText
import PyProof.EqAt
import PyProof.EqKinds
import PyProof.TupleCall
import PySem.Challenge.RW_trellisway_k16_whole_turned_by_a_word
set_option Elab.async false
set_option linter.all false
set_option maxRecDepth 100000
set_option maxHeartbeats 4000000
namespace H16
open PySem PySem.W
def q6k(tb:String->Option Builtin)(p:Program)(w:World)(n₀:Nat)(ann:Option Value):Nat->SharedT->Thread->Option SharedT
 |0,_,_=>none
 | n+1,s,t=>match through t with
   |true=>some s
   | false=>match stepOk n₀ ann t with
     |false=>none
     | true=>match stepT (denote tb) p w s t with
       |some (s',t')=>q6k tb p w n₀ ann n s' t'
       |none=>none
theorem q7j{tb:String->Option Builtin}{p:Program}{w:World}{n₀:Nat}{ann:Option Value}:∀{n:Nat} {s s':SharedT} {t:Thread},q6k tb p w n₀ ann n s t=some s'->topRun tb p w n₀ ann n s.abs t=some s'.abs
 |0,_,_,_,h=>by cases h
 | n+1,s,s',t,h=>by
   unfold q6k at h
   unfold topRun
   split at h
   · rename_i q
     rw[q]
     cases h
     rfl
   · rename_i q
     rw[q]
     split at h
     · cases h
     · rename_i q2
       dsimp only
       rw[q2]
       split at h
       · rename_i s1 t1 q3
         dsimp only
         rw[stepT_spec q3]
         exact q7j h
       · cases h
def qkf:List Obj->Nat->BT->BT
 |[],_,t=>t
 |o::r,n,t=>qkf r (n+1) (t.ins n o)
noncomputable def qmz(P:Params)(os:OsState):SharedT:=⟨qkf (boot_heap P).objs.toList 0 .nil,(boot_heap P).objs.size,(boot_heap P).life,Array.mk [],boot_drawn,boot_toks,os⟩
theorem qgi(P:Params)(os:OsState):(qmz P os).abs=⟨boot_heap P,Array.mk [],boot_drawn,boot_toks,os⟩:=by kernel_rfl
theorem qfq{p q:Program}{loose:List Str}{Xt:Shared->Bool}{α:Type}{Yf:Shared->α}{Ya:World->α}{N m₀:Nat}{ann:Option Value}(e:opening p=plainProg p.main.scope.names)(hN:Nat.ble 600 N=true)(f:∀s,fenceModules? p s=some s)
   (size:∀P:Params,((boot_heap P).isNs mainGlobals,(boot_heap P).objs.size,(boot_heap P).nsMap mainGlobals "__annotations__")=(true,m₀,ann))
   (run:∀(w:World) (os:OsState),(q6k treeTable p w m₀ ann N (qmz w.params os) (topStub p)).map (λs=>(staticsOk (importedModules p.main.body) (boot_heap w.params) s.abs.heap&&namesBound p s.abs.heap&&gensDone s.abs&&laidKept (boot_heap w.params) s.abs.heap,
       openSeen q loose (importedModules p.main.body) Xt true s.abs,Yf s.abs))=some (true,openGood q loose,Ya w)):LeftO p q loose Xt Yf Ya N:=λw=>by
 obtain⟨⟨h,gs,d,k,os⟩,e,e'⟩:=Option.map_eq_some_iff.mp (boot_open e hN f w)
 obtain⟨rfl,rfl,rfl,rfl⟩:h=boot_heap w.params/\gs=Array.mk []/\d=boot_drawn/\k=boot_toks:=by simpa using e'
 obtain⟨z1,z2,z3⟩:_/\_/\_:=by simpa only[Prod.mk.injEq]using size w.params
 obtain⟨s,r,l⟩:=Option.map_eq_some_iff.mp (run w os)
 obtain⟨l1,l2,l3⟩:_/\_/\_:=by simpa only[Prod.mk.injEq]using l
 have r:=q7j r
 rw[qgi]at r
 have t:topFrom treeTable p w N ⟨boot_heap w.params,Array.mk [],boot_drawn,boot_toks,os⟩=some s.abs:=by
   unfold topFrom
   dsimp only
   rw[z1,z2,z3,r]
   show(match staticsOk (importedModules p.main.body) (boot_heap w.params) s.abs.heap&&namesBound p s.abs.heap&&gensDone s.abs&&laidKept (boot_heap w.params) s.abs.heap with|true=>_|false=>_)=_
   rw[l1]
 unfold openEnds
 rw[e]
 show(topFrom treeTable p w N _).map _=_
 rw[t]
 exact congrArg some (Prod.ext l2 l3)
def tp(i:Nat):Stmt:=PySem.Challenge.pw_trellisway_k16_whole_turned_by_a_word.main.body.getD i (.Pass ⟨0,0,0,0⟩)
def ic(s:Stmt)(j:Nat):Stmt:=match s with
 |.ClassDef _ _ _ b _ _ _ _ _ _ _=>b.getD j (.Pass ⟨0,0,0,0⟩)
 |_=>.Pass ⟨0,0,0,0⟩
def dA(s:Stmt):Arguments:=match s with
 |.FunctionDef _ a _ _ _ _ _ _ _ _=>a
 |_=>{posonlyargs:=[],args:=[],vararg:=none,kwonlyargs:=[],kw_defaults:=[],kwarg:=none,defaults:=[]}
def dB(s:Stmt):List Stmt:=match s with
 |.FunctionDef _ _ b _ _ _ _ _ _ _=>b
 |_=>[]
def dS(s:Stmt):Scope:=match s with
 |.FunctionDef _ _ _ _ _ _ sc _ _ _=>sc
 |_=>{kind:=.function,names:=[],isGenerator:=false,isCoroutine:=false}
def V:Program:={PySem.Challenge.pw_trellisway_k16_whole_turned_by_a_word with main:={PySem.Challenge.pw_trellisway_k16_whole_turned_by_a_word.main with body:=[tp 1,tp 2,tp 3,tp 5,tp 6,tp 7,tp 8,tp 9,tp 11,tp 12,tp 13,tp 14,tp 15,tp 16,tp 17,tp 18,tp 19,tp 20,tp 22,tp 23,tp 24,tp 25,tp 26,tp 28,tp 29,tp 30,tp 31,tp 32,tp 33,tp 34,tp 35,tp 36,tp 37,tp 38,tp 39,tp 41,tp 42,tp 44,tp 45,tp 46,tp 47,tp 48,tp 49,tp 50,tp 51,tp 52,tp 53,tp 54,tp 55,tp 56,tp 57]}}
def eS(P:Params)(x:Str)(t:Nat)(v:Value):DictEntry:=⟨PyData.keyHash P x,.str x t,v⟩
def fO(x:Str)(s:Stmt)(pm:Value)(cd:Nat):Obj:=⟨.type "function",none,.func (W.fnOf x x (dA s) (dB s) (dS s) .none .none .none pm none (.ref cd) .none),#[]⟩
def cO(x:Str)(t:Nat)(y:Str)(u a2 a3 a4 a7 a8 a10 a11 a13 a14 a15 a16 a17 a18:Nat):Obj:=⟨.type "code",none,.fields #[.str x t,.str y u,.str "/claim/cut.py" a2,.int a3 0,.int a4 0,.int 0 0,.int 0 0,.int a7 0,.ref a8,.bool true,.int a10 0,.ref a11,.none,.ref a13,.ref a14,.ref a15,.int a16 0,.int a17 0,.str "/claim/cut.py" a18],#[]⟩
def KH(P:Params):W.Frag:=[(3,⟨.type "dict",none,.dict #[eS P "__name__" 165 (.str "law_trellisway_k16_whole_turned_by_a_word" 624),eS P "__doc__" 166 (.none),eS P "__package__" 167 (.none),eS P "__loader__" 168 (.builtin "__main__.__loader__#opaque"),eS P "__spec__" 169 (.none),eS P "__annotations__" 170 (.ref 6),eS P "__builtins__" 171 (.ref 4),eS P "__file__" 173 (.str "/claim/cut.py" 172),eS P "__cached__" 174 (.none),eS P "WayError" 206 (.ref 24),eS P "NoWord" 222 (.ref 37),eS P "NoSigns" 238 (.ref 49),eS P "rooms_at" 247 (.ref 58),eS P "rooms" 254 (.ref 65),eS P "parity" 263 (.ref 72),eS P "step" 269 (.ref 77),eS P "sent_at" 275 (.ref 82),eS P "is_ring" 284 (.ref 89),eS P "check_size" 292 (.ref 96),eS P "bits_behind" 299 (.ref 103),eS P "bits_of" 307 (.ref 110),eS P "first_room" 317 (.ref 117),eS P "first_rooms" 324 (.ref 124),eS P "rooms_of" 335 (.ref 131),eS P "sent" 348 (.ref 138),eS P "steps_of" 356 (.ref 145),eS P "places_of" 367 (.ref 152),eS P "Sign" 389 (.ref 162),eS P "Clear" 429 (.ref 197),eS P "Gap" 460 (.ref 223),eS P "Soft" 502 (.ref 256),eS P "sign_of" 509 (.ref 265),eS P "check_heard" 521 (.ref 272),eS P "signs_cost" 527 (.ref 277),eS P "cost" 533 (.ref 282),eS P "signs_by_step" 539 (.ref 287),eS P "move" 551 (.ref 294),eS P "moves_from" 557 (.ref 299),eS P "moves" 563 (.ref 304),eS P "end_costs" 569 (.ref 309),eS P "cost_by" 578 (.ref 316),eS P "least_by" 584 (.ref 321),eS P "ahead_by" 590 (.ref 326),eS P "ahead_by_start" 600 (.ref 333),eS P "nearest_from" 617 (.ref 340),eS P "nearest" 623 (.ref 345),eS P "_law_cell_at" 633 (.ref 352),eS P "_law_mixed" 644 (.ref 359),eS P "_law_scheme" 650 (.ref 364),eS P "_law_step" 656 (.ref 369),eS P "_law_sent_at" 662 (.ref 374),eS P "_law_steps" 670 (.ref 381),eS P "_law_places" 676 (.ref 386),eS P "_law_start" 686 (.ref 393),eS P "_law_sent" 698 (.ref 400),eS P "_law_sign" 708 (.ref 407),eS P "_law_heard" 714 (.ref 412),eS P "_law_turned" 725 (.ref 419),eS P "_law_added" 731 (.ref 424),eS P "law" 737 (.ref 429)] 60,#[]⟩),
 (23,⟨.type "dict",none,.dict #[eS P "__module__" 196 (.str "trellisway.errors" 187),eS P "__firstlineno__" 200 (.int 2 199),eS P "__static_attributes__" 201 (.ref 22),eS P "__weakref__" 203 (.ref 25),eS P "__doc__" 204 (.none)] 3,#[]⟩),
 (24,⟨.type "type",none,.cls ⟨"WayError",[.type "ValueError"],[.ref 24,.type "ValueError",.type "Exception",.type "BaseException",.type "object"],23,"WayError",true,[],[.ref 37,.ref 49],false,none,false⟩,#[some (.ref 15),none,some (.str "WayError" 189),some (.str "WayError" 197),some (.builtin "ValueError.__new__"),some (.bool true)]⟩),
 (36,⟨.type "dict",none,.dict #[eS P "__module__" 214 (.str "trellisway.errors" 187),eS P "__firstlineno__" 218 (.int 4 217),eS P "__static_attributes__" 219 (.ref 35),eS P "__doc__" 220 (.none)] 2,#[]⟩),
 (37,⟨.type "type",none,.cls ⟨"NoWord",[.ref 24],[.ref 37,.ref 24,.type "ValueError",.type "Exception",.type "BaseException",.type "object"],36,"NoWord",true,[],[],false,none,false⟩,#[some (.ref 28),none,some (.str "NoWord" 207),some (.str "NoWord" 215),some (.builtin "ValueError.__new__"),some (.bool true)]⟩),
 (48,⟨.type "dict",none,.dict #[eS P "__module__" 230 (.str "trellisway.errors" 187),eS P "__firstlineno__" 234 (.int 6 233),eS P "__static_attributes__" 235 (.ref 47),eS P "__doc__" 236 (.none)] 2,#[]⟩),
 (49,⟨.type "type",none,.cls ⟨"NoSigns",[.ref 24],[.ref 49,.ref 24,.type "ValueError",.type "Exception",.type "BaseException",.type "object"],48,"NoSigns",true,[],[],false,none,false⟩,#[some (.ref 40),none,some (.str "NoSigns" 223),some (.str "NoSigns" 231),some (.builtin "ValueError.__new__"),some (.bool true)]⟩),
 (57,cO "rooms_at" 241 "rooms_at" 242 243 9 1 3 52 181 53 54 55 56 245 9 246),
 (58,fO "rooms_at" (tp 5) (.str "trellisway.schemes" 239) 57),
 (64,cO "rooms" 248 "rooms" 249 250 11 1 3 59 181 60 61 62 63 252 11 253),
 (65,fO "rooms" (tp 6) (.str "trellisway.schemes" 239) 64),
 (71,cO "parity" 255 "parity" 256 257 13 1 3 66 181 67 68 69 70 261 13 262),
 (72,fO "parity" (tp 7) (.str "trellisway.schemes" 239) 71),
 (76,⟨.type "code",none,.fields #[.str "step" 264,.str "step" 265,.str "/claim/cut.py" 266,.int 20 0,.int 3 0,.int 0 0,.int 0 0,.int 3 0,.ref 73,.bool true,.int 181 0,.ref 74,.none,.none,.none,.ref 75,.int 267 0,.int 20 0,.str "/claim/cut.py" 268],#[]⟩),
 (77,fO "step" (tp 8) (.str "trellisway.schemes" 239) 76),
 (81,⟨.type "code",none,.fields #[.str "sent_at" 270,.str "sent_at" 271,.str "/claim/cut.py" 272,.int 24 0,.int 3 0,.int 0 0,.int 0 0,.int 3 0,.ref 78,.bool true,.int 181 0,.ref 79,.none,.none,.none,.ref 80,.int 273 0,.int 24 0,.str "/claim/cut.py" 274],#[]⟩),
 (82,fO "sent_at" (tp 9) (.str "trellisway.schemes" 239) 81),
 (88,cO "is_ring" 278 "is_ring" 279 280 29 1 3 83 181 84 85 86 87 282 29 283),
 (89,fO "is_ring" (tp 11) (.str "trellisway.sending" 276) 88),
 (95,cO "check_size" 285 "check_size" 286 287 31 2 3 90 181 91 92 93 94 290 31 291),
 (96,fO "check_size" (tp 12) (.str "trellisway.sending" 276) 95),
 (102,cO "bits_behind" 293 "bits_behind" 294 295 34 1 3 97 181 98 99 100 101 297 34 298),
 (103,fO "bits_behind" (tp 13) (.str "trellisway.sending" 276) 102),
 (109,cO "bits_of" 300 "bits_of" 301 302 36 2 3 104 181 105 106 107 108 305 36 306),
 (110,fO "bits_of" (tp 14) (.str "trellisway.sending" 276) 109),
 (116,cO "first_room" 308 "first_room" 309 310 39 2 3 111 181 112 113 114 115 315 39 316),
 (117,fO "first_room" (tp 15) (.str "trellisway.sending" 276) 116),
 (123,cO "first_rooms" 318 "first_rooms" 319 320 45 1 3 118 181 119 120 121 122 322 45 323),
 (124,fO "first_rooms" (tp 16) (.str "trellisway.sending" 276) 123),
 (130,cO "rooms_of" 325 "rooms_of" 326 327 47 2 3 125 181 126 127 128 129 333 47 334),
 (131,fO "rooms_of" (tp 17) (.str "trellisway.sending" 276) 130),
 (137,cO "sent" 336 "sent" 337 338 53 2 3 132 181 133 134 135 136 346 53 347),
 (138,fO "sent" (tp 18) (.str "trellisway.sending" 276) 137),
 (144,cO "steps_of" 349 "steps_of" 350 351 60 2 3 139 181 140 141 142 143 354 60 355),
 (145,fO "steps_of" (tp 19) (.str "trellisway.sending" 276) 144),
 (151,cO "places_of" 357 "places_of" 358 359 63 2 3 146 181 147 148 149 150 365 63 366),
 (152,fO "places_of" (tp 20) (.str "trellisway.sending" 276) 151),
 (161,⟨.type "dict",none,.dict #[eS P "__module__" 377 (.str "trellisway.signs" 368),eS P "__firstlineno__" 381 (.int 70 380),eS P "__static_attributes__" 382 (.ref 160),eS P "__dict__" 384 (.ref 163),eS P "__weakref__" 386 (.ref 164),eS P "__doc__" 387 (.none)] 4,#[]⟩),
 (162,⟨.type "type",none,.cls ⟨"Sign",[.type "object"],[.ref 162,.type "object"],161,"Sign",true,[],[.ref 197,.ref 223,.ref 256],false,none,false⟩,#[none,none,some (.str "Sign" 370),some (.str "Sign" 378),some (.builtin "object.__new__"),some (.bool true)]⟩),
 (179,cO "__init__" 402 "Clear.__init__" 403 404 74 2 3 174 181 175 176 177 178 407 74 408),
 (180,⟨.type "function",none,.func (W.fnOf "__init__" "Clear.__init__" (dA (ic (tp 23) 0)) (dB (ic (tp 23) 0)) (dS (ic (tp 23) 0)) (.none) (.none) (.none) (.str "trellisway.signs" 368) none (.ref 179) (.none)),#[]⟩),
 (186,cO "told" 410 "Clear.told" 411 412 77 1 3 181 181 182 183 184 185 414 77 415),
 (187,⟨.type "function",none,.func (W.fnOf "told" "Clear.told" (dA (ic (tp 23) 1)) (dB (ic (tp 23) 1)) (dS (ic (tp 23) 1)) (.none) (.none) (.none) (.str "trellisway.signs" 368) none (.ref 186) (.none)),#[]⟩),
 (193,cO "cost" 417 "Clear.cost" 418 419 80 2 3 188 181 189 190 191 192 422 80 423),
 (194,⟨.type "function",none,.func (W.fnOf "cost" "Clear.cost" (dA (ic (tp 23) 2)) (dB (ic (tp 23) 2)) (dS (ic (tp 23) 2)) (.none) (.none) (.none) (.str "trellisway.signs" 368) none (.ref 193) (.none)),#[]⟩),
 (196,⟨.type "dict",none,.dict #[eS P "__module__" 397 (.str "trellisway.signs" 368),eS P "__firstlineno__" 401 (.int 72 400),eS P "__init__" 409 (.ref 180),eS P "told" 416 (.ref 187),eS P "cost" 424 (.ref 194),eS P "__static_attributes__" 426 (.ref 195),eS P "__doc__" 427 (.none)] 2,#[]⟩),
 (197,⟨.type "type",none,.cls ⟨"Clear",[.ref 162],[.ref 197,.ref 162,.type "object"],196,"Clear",true,[],[],false,none,false⟩,#[some (.ref 167),none,some (.str "Clear" 390),some (.str "Clear" 398),some (.builtin "object.__new__"),some (.bool true)]⟩),
 (212,cO "told" 442 "Gap.told" 443 444 84 1 3 207 181 208 209 210 211 446 84 447),
 (213,⟨.type "function",none,.func (W.fnOf "told" "Gap.told" (dA (ic (tp 24) 0)) (dB (ic (tp 24) 0)) (dS (ic (tp 24) 0)) (.none) (.none) (.none) (.str "trellisway.signs" 368) none (.ref 212) (.none)),#[]⟩),
 (219,cO "cost" 449 "Gap.cost" 450 451 87 2 3 214 181 215 216 217 218 454 87 455),
 (220,⟨.type "function",none,.func (W.fnOf "cost" "Gap.cost" (dA (ic (tp 24) 1)) (dB (ic (tp 24) 1)) (dS (ic (tp 24) 1)) (.none) (.none) (.none) (.str "trellisway.signs" 368) none (.ref 219) (.none)),#[]⟩),
 (222,⟨.type "dict",none,.dict #[eS P "__module__" 437 (.str "trellisway.signs" 368),eS P "__firstlineno__" 441 (.int 82 440),eS P "told" 448 (.ref 213),eS P "cost" 456 (.ref 220),eS P "__static_attributes__" 457 (.ref 221),eS P "__doc__" 458 (.none)] 2,#[]⟩),
 (223,⟨.type "type",none,.cls ⟨"Gap",[.ref 162],[.ref 223,.ref 162,.type "object"],222,"Gap",true,[],[],false,none,false⟩,#[some (.ref 200),none,some (.str "Gap" 430),some (.str "Gap" 438),some (.builtin "object.__new__"),some (.bool true)]⟩),
 (238,cO "__init__" 473 "Soft.__init__" 474 475 91 3 3 233 181 234 235 236 237 479 91 480),
 (239,⟨.type "function",none,.func (W.fnOf "__init__" "Soft.__init__" (dA (ic (tp 25) 0)) (dB (ic (tp 25) 0)) (dS (ic (tp 25) 0)) (.none) (.none) (.none) (.str "trellisway.signs" 368) none (.ref 238) (.none)),#[]⟩),
 (245,cO "told" 482 "Soft.told" 483 484 95 1 3 240 181 241 242 243 244 486 95 487),
 (246,⟨.type "function",none,.func (W.fnOf "told" "Soft.told" (dA (ic (tp 25) 1)) (dB (ic (tp 25) 1)) (dS (ic (tp 25) 1)) (.none) (.none) (.none) (.str "trellisway.signs" 368) none (.ref 245) (.none)),#[]⟩),
 (252,cO "cost" 489 "Soft.cost" 490 491 98 2 3 247 181 248 249 250 251 494 98 495),
 (253,⟨.type "function",none,.func (W.fnOf "cost" "Soft.cost" (dA (ic (tp 25) 2)) (dB (ic (tp 25) 2)) (dS (ic (tp 25) 2)) (.none) (.none) (.none) (.str "trellisway.signs" 368) none (.ref 252) (.none)),#[]⟩),
 (255,⟨.type "dict",none,.dict #[eS P "__module__" 468 (.str "trellisway.signs" 368),eS P "__firstlineno__" 472 (.int 89 471),eS P "__init__" 481 (.ref 239),eS P "told" 488 (.ref 246),eS P "cost" 496 (.ref 253),eS P "__static_attributes__" 499 (.ref 254),eS P "__doc__" 500 (.none)] 2,#[]⟩),
 (256,⟨.type "type",none,.cls ⟨"Soft",[.ref 162],[.ref 256,.ref 162,.type "object"],255,"Soft",true,[],[],false,none,false⟩,#[some (.ref 226),none,some (.str "Soft" 461),some (.str "Soft" 469),some (.builtin "object.__new__"),some (.bool true)]⟩),
 (264,cO "sign_of" 503 "sign_of" 504 505 100 1 3 259 181 260 261 262 263 507 100 508),
 (265,fO "sign_of" (tp 26) (.str "trellisway.signs" 368) 264),
 (271,cO "check_heard" 512 "check_heard" 513 514 107 3 3 266 181 267 268 269 270 519 107 520),
 (272,fO "check_heard" (tp 28) (.str "trellisway.costs" 510) 271),
 (276,⟨.type "code",none,.fields #[.str "signs_cost" 522,.str "signs_cost" 523,.str "/claim/cut.py" 524,.int 111 0,.int 2 0,.int 0 0,.int 0 0,.int 3 0,.ref 273,.bool true,.int 181 0,.ref 274,.none,.none,.none,.ref 275,.int 525 0,.int 111 0,.str "/claim/cut.py" 526],#[]⟩),
 (277,fO "signs_cost" (tp 29) (.str "trellisway.costs" 510) 276),
 (281,⟨.type "code",none,.fields #[.str "cost" 528,.str "cost" 529,.str "/claim/cut.py" 530,.int 113 0,.int 3 0,.int 0 0,.int 0 0,.int 3 0,.ref 278,.bool true,.int 181 0,.ref 279,.none,.none,.none,.ref 280,.int 531 0,.int 113 0,.str "/claim/cut.py" 532],#[]⟩),
 (282,fO "cost" (tp 30) (.str "trellisway.costs" 510) 281),
 (286,⟨.type "code",none,.fields #[.str "signs_by_step" 534,.str "signs_by_step" 535,.str "/claim/cut.py" 536,.int 116 0,.int 3 0,.int 0 0,.int 0 0,.int 3 0,.ref 283,.bool true,.int 181 0,.ref 284,.none,.none,.none,.ref 285,.int 537 0,.int 116 0,.str "/claim/cut.py" 538],#[]⟩),
 (287,fO "signs_by_step" (tp 31) (.str "trellisway.costs" 510) 286),
 (293,cO "move" 540 "move" 541 542 121 5 3 288 181 289 290 291 292 549 121 550),
 (294,fO "move" (tp 32) (.str "trellisway.costs" 510) 293),
 (298,⟨.type "code",none,.fields #[.str "moves_from" 552,.str "moves_from" 553,.str "/claim/cut.py" 554,.int 124 0,.int 5 0,.int 0 0,.int 0 0,.int 3 0,.ref 295,.bool true,.int 181 0,.ref 296,.none,.none,.none,.ref 297,.int 555 0,.int 124 0,.str "/claim/cut.py" 556],#[]⟩),
 (299,fO "moves_from" (tp 33) (.str "trellisway.costs" 510) 298),
 (303,⟨.type "code",none,.fields #[.str "moves" 558,.str "moves" 559,.str "/claim/cut.py" 560,.int 126 0,.int 3 0,.int 0 0,.int 0 0,.int 3 0,.ref 300,.bool true,.int 181 0,.ref 301,.none,.none,.none,.ref 302,.int 561 0,.int 126 0,.str "/claim/cut.py" 562],#[]⟩),
 (304,fO "moves" (tp 34) (.str "trellisway.costs" 510) 303),
 (308,⟨.type "code",none,.fields #[.str "end_costs" 564,.str "end_costs" 565,.str "/claim/cut.py" 566,.int 133 0,.int 2 0,.int 0 0,.int 0 0,.int 3 0,.ref 305,.bool true,.int 181 0,.ref 306,.none,.none,.none,.ref 307,.int 567 0,.int 133 0,.str "/claim/cut.py" 568],#[]⟩),
 (309,fO "end_costs" (tp 35) (.str "trellisway.costs" 510) 308),
 (315,cO "cost_by" 570 "cost_by" 571 572 138 2 3 310 181 311 312 313 314 576 138 577),
 (316,fO "cost_by" (tp 36) (.str "trellisway.costs" 510) 315),
 (320,⟨.type "code",none,.fields #[.str "least_by" 579,.str "least_by" 580,.str "/claim/cut.py" 581,.int 141 0,.int 2 0,.int 0 0,.int 0 0,.int 3 0,.ref 317,.bool true,.int 181 0,.ref 318,.none,.none,.none,.ref 319,.int 582 0,.int 141 0,.str "/claim/cut.py" 583],#[]⟩),
 (321,fO "least_by" (tp 37) (.str "trellisway.costs" 510) 320),
 (325,⟨.type "code",none,.fields #[.str "ahead_by" 585,.str "ahead_by" 586,.str "/claim/cut.py" 587,.int 144 0,.int 2 0,.int 0 0,.int 0 0,.int 3 0,.ref 322,.bool true,.int 181 0,.ref 323,.none,.none,.none,.ref 324,.int 588 0,.int 144 0,.str "/claim/cut.py" 589],#[]⟩),
 (326,fO "ahead_by" (tp 38) (.str "trellisway.costs" 510) 325),
 (332,cO "ahead_by_start" 591 "ahead_by_start" 592 593 150 2 3 327 181 328 329 330 331 598 150 599),
 (333,fO "ahead_by_start" (tp 39) (.str "trellisway.costs" 510) 332),
 (339,cO "nearest_from" 603 "nearest_from" 604 605 156 4 3 334 181 335 336 337 338 615 156 616),
 (340,fO "nearest_from" (tp 41) (.str "trellisway.nearest" 601) 339),
 (344,⟨.type "code",none,.fields #[.str "nearest" 618,.str "nearest" 619,.str "/claim/cut.py" 620,.int 165 0,.int 3 0,.int 0 0,.int 0 0,.int 3 0,.ref 341,.bool true,.int 181 0,.ref 342,.none,.none,.none,.ref 343,.int 621 0,.int 165 0,.str "/claim/cut.py" 622],#[]⟩),
 (345,fO "nearest" (tp 42) (.str "trellisway.nearest" 601) 344),
 (351,cO "_law_cell_at" 626 "_law_cell_at" 627 628 170 2 3 346 181 347 348 349 350 631 170 632),
 (352,fO "_law_cell_at" (tp 44) (.str "law_trellisway_k16_whole_turned_by_a_word" 624) 351),
 (358,cO "_law_mixed" 634 "_law_mixed" 635 636 174 2 3 353 181 354 355 356 357 642 174 643),
 (359,fO "_law_mixed" (tp 45) (.str "law_trellisway_k16_whole_turned_by_a_word" 624) 358),
 (363,⟨.type "code",none,.fields #[.str "_law_scheme" 645,.str "_law_scheme" 646,.str "/claim/cut.py" 647,.int 181 0,.int 2 0,.int 0 0,.int 0 0,.int 3 0,.ref 360,.bool true,.int 181 0,.ref 361,.none,.none,.none,.ref 362,.int 648 0,.int 181 0,.str "/claim/cut.py" 649],#[]⟩),
 (364,fO "_law_scheme" (tp 46) (.str "law_trellisway_k16_whole_turned_by_a_word" 624) 363),
 (368,⟨.type "code",none,.fields #[.str "_law_step" 651,.str "_law_step" 652,.str "/claim/cut.py" 653,.int 192 0,.int 3 0,.int 0 0,.int 0 0,.int 3 0,.ref 365,.bool true,.int 181 0,.ref 366,.none,.none,.none,.ref 367,.int 654 0,.int 192 0,.str "/claim/cut.py" 655],#[]⟩),
 (369,fO "_law_step" (tp 47) (.str "law_trellisway_k16_whole_turned_by_a_word" 624) 368),
 (373,⟨.type "code",none,.fields #[.str "_law_sent_at" 657,.str "_law_sent_at" 658,.str "/claim/cut.py" 659,.int 196 0,.int 3 0,.int 0 0,.int 0 0,.int 3 0,.ref 370,.bool true,.int 181 0,.ref 371,.none,.none,.none,.ref 372,.int 660 0,.int 196 0,.str "/claim/cut.py" 661],#[]⟩),
 (374,fO "_law_sent_at" (tp 48) (.str "law_trellisway_k16_whole_turned_by_a_word" 624) 373),
 (380,cO "_law_steps" 663 "_law_steps" 664 665 199 2 3 375 181 376 377 378 379 668 199 669),
 (381,fO "_law_steps" (tp 49) (.str "law_trellisway_k16_whole_turned_by_a_word" 624) 380),
 (385,⟨.type "code",none,.fields #[.str "_law_places" 671,.str "_law_places" 672,.str "/claim/cut.py" 673,.int 203 0,.int 2 0,.int 0 0,.int 0 0,.int 3 0,.ref 382,.bool true,.int 181 0,.ref 383,.none,.none,.none,.ref 384,.int 674 0,.int 203 0,.str "/claim/cut.py" 675],#[]⟩),
 (386,fO "_law_places" (tp 50) (.str "law_trellisway_k16_whole_turned_by_a_word" 624) 385),
 (392,cO "_law_start" 677 "_law_start" 678 679 208 2 3 387 181 388 389 390 391 684 208 685),
 (393,fO "_law_start" (tp 51) (.str "law_trellisway_k16_whole_turned_by_a_word" 624) 392),
 (399,cO "_law_sent" 687 "_law_sent" 688 689 214 2 3 394 181 395 396 397 398 696 214 697),
 (400,fO "_law_sent" (tp 52) (.str "law_trellisway_k16_whole_turned_by_a_word" 624) 399),
 (406,cO "_law_sign" 699 "_law_sign" 700 701 221 1 3 401 181 402 403 404 405 706 221 707),
 (407,fO "_law_sign" (tp 53) (.str "law_trellisway_k16_whole_turned_by_a_word" 624) 406),
 (411,⟨.type "code",none,.fields #[.str "_law_heard" 709,.str "_law_heard" 710,.str "/claim/cut.py" 711,.int 232 0,.int 3 0,.int 0 0,.int 0 0,.int 3 0,.ref 408,.bool true,.int 181 0,.ref 409,.none,.none,.none,.ref 410,.int 712 0,.int 232 0,.str "/claim/cut.py" 713],#[]⟩),
 (412,fO "_law_heard" (tp 54) (.str "law_trellisway_k16_whole_turned_by_a_word" 624) 411),
 (418,cO "_law_turned" 715 "_law_turned" 716 717 235 2 3 413 181 414 415 416 417 723 235 724),
 (419,fO "_law_turned" (tp 55) (.str "law_trellisway_k16_whole_turned_by_a_word" 624) 418),
 (423,⟨.type "code",none,.fields #[.str "_law_added" 726,.str "_law_added" 727,.str "/claim/cut.py" 728,.int 244 0,.int 2 0,.int 0 0,.int 0 0,.int 3 0,.ref 420,.bool true,.int 181 0,.ref 421,.none,.none,.none,.ref 422,.int 729 0,.int 244 0,.str "/claim/cut.py" 730],#[]⟩),
 (424,fO "_law_added" (tp 56) (.str "law_trellisway_k16_whole_turned_by_a_word" 624) 423),
 (428,⟨.type "code",none,.fields #[.str "law" 732,.str "law" 733,.str "/claim/cut.py" 734,.int 246 0,.int 1 0,.int 0 0,.int 0 0,.int 3 0,.ref 425,.bool true,.int 181 0,.ref 426,.none,.none,.none,.ref 427,.int 735 0,.int 246 0,.str "/claim/cut.py" 736],#[]⟩),
 (429,fO "law" (tp 57) (.str "law_trellisway_k16_whole_turned_by_a_word" 624) 428)]
def KA:List Addr:=[3,23,24,36,37,48,49,57,58,64,65,71,72,76,77,81,82,88,89,95,96,102,103,109,110,116,117,123,124,130,131,137,138,144,145,151,152,161,162,179,180,186,187,193,194,196,197,212,213,219,220,222,223,238,239,245,246,252,253,255,256,264,265,271,272,276,277,281,282,286,287,293,294,298,299,303,304,308,309,315,316,320,321,325,326,332,333,339,340,344,345,351,352,358,359,363,364,368,369,373,374,380,381,385,386,392,393,399,400,406,407,411,412,418,419,423,424,428,429]
theorem ka_eq:∀P,KA=(KH P).map (·.1):=λ_=>rfl
theorem run(w:World)(os:OsState):(q6k treeTable PySem.Challenge.pw_trellisway_k16_whole_turned_by_a_word w 11 (some (.ref 6)) 6214 (qmz w.params os) (topStub PySem.Challenge.pw_trellisway_k16_whole_turned_by_a_word)).map (λs=>(staticsOk (importedModules PySem.Challenge.pw_trellisway_k16_whole_turned_by_a_word.main.body) (boot_heap w.params) s.abs.heap&&namesBound PySem.Challenge.pw_trellisway_k16_whole_turned_by_a_word s.abs.heap&&gensDone s.abs&&laidKept (boot_heap w.params) s.abs.heap,
       openSeen V [] (importedModules PySem.Challenge.pw_trellisway_k16_whole_turned_by_a_word.main.body) (λs=>xlAt V [] s&&recOk (RowW.records (OpenRow.toRowW PySem.Challenge.rw_trellisway_k16_whole_turned_by_a_word.row)) s) true s.abs,Hook.obs (kHook KH KA ka_eq) s.abs))=some (true,openGood V [],Hook.val (kHook KH KA ka_eq) w):=by kernel_rfl
theorem left:LeftO PySem.Challenge.pw_trellisway_k16_whole_turned_by_a_word V [] (λs=>xlAt V [] s&&recOk (RowW.records (OpenRow.toRowW PySem.Challenge.rw_trellisway_k16_whole_turned_by_a_word.row)) s) (Hook.obs (kHook KH KA ka_eq)) (Hook.val (kHook KH KA ka_eq)) 6214:=qfq (by kernel_rfl) (by kernel_rfl) (λs=>by kernel_rfl) (λP=>by kernel_rfl) run
theorem qky:(OpenRow.toRowW PySem.Challenge.rw_trellisway_k16_whole_turned_by_a_word.row).prog=PySem.Challenge.pw_trellisway_k16_whole_turned_by_a_word:=by kernel_rfl
theorem leftR:LeftO (OpenRow.toRowW PySem.Challenge.rw_trellisway_k16_whole_turned_by_a_word.row).prog V [] (λs=>xlAt V [] s&&recOk (RowW.records (OpenRow.toRowW PySem.Challenge.rw_trellisway_k16_whole_turned_by_a_word.row)) s) (Hook.obs (kHook KH KA ka_eq)) (Hook.val (kHook KH KA ka_eq)) 6214:=by
 rw[qky]
 exact left
end H16
abbrev j5:=@PySem.wpAny_bind
abbrev j6:=@List.length_map
abbrev j7:=@PySem.wpAny_pure
abbrev j8:=@PySem.Heap.lt_size
abbrev j9:=@PySem.Heap.get?_push_of_some
abbrev ja:=@Nat.le_refl
abbrev jb:=@List.getElem?_map
abbrev jc:=@List.getElem?_eq_getElem
abbrev jd:=@List.length_append
abbrev je:=@Option.some.inj
abbrev jf:=@List.mem_cons_self
abbrev jg:=@List.mem_cons_of_mem
abbrev jh:=@Nat.ne_of_lt
abbrev ji:=@List.length_replicate
abbrev jj:=@List.getElem?_set_ne
abbrev jk:=@List.map_map
abbrev jl:=@PySem.Heap.get?_push_size
abbrev jm:=@Nat.lt_of_lt_of_le
abbrev jn:=@List.length_cons
abbrev jo:=@List.mem_append_right
abbrev jq:=@List.getD_eq_getElem?_getD
abbrev jr:=@Nat.zero_add
abbrev jt:=@Nat.le_trans
abbrev ju:=@List.map_append
abbrev jv:=@List.size_toArray
abbrev jw:=@List.map_cons
abbrev jx:=@Int.toNat_natCast
abbrev jy:=@Nat.lt_irrefl
abbrev jz:=@List.length_take
abbrev x5:=@List.getElem?_set_self
abbrev x8:=@PySem.Heap.size_push
abbrev x9:=@List.mem_of_getElem?
abbrev xc:=@List.getElem?_eq_none
abbrev xf:=@PySem.PassesOwn.never
abbrev xg:=@PySem.wpAny_mono
abbrev xh:=@PySem.wpAny_field
abbrev xi:=@Nat.min_le_left
abbrev xj:=@List.getElem_mem
abbrev xk:=@List.getElem?_append_right
abbrev xl:=@List.length_drop
abbrev xm:=@List.length_set
abbrev xn:=@List.length_zip
abbrev xo:=@PySem.wpAny_Call_Name_kw
abbrev xp:=@PySem.wpAny_seqItems
abbrev xq:=@PySem.wpAny_newObj_type
abbrev xr:=@List.getElem?_range
abbrev xu:=@PySem.wpAny_holding
abbrev xv:=@List.drop_eq_getElem_cons
abbrev xx:=@List.getElem?_replicate
abbrev xy:=@List.getElem?_append_left
abbrev k6:=@PySem.wpAny_call_entry
abbrev k7:=@PySem.wpAny_callSpecial?_slot
abbrev k8:=@PySem.wpAny_passesOwn
abbrev k9:=@PySem.Heap.get?_update_other
abbrev ka:=@PySem.plainId_quiet
abbrev kc:=@PySem.F.plain_min_loop
abbrev ke:=@PySem.Heap.get?_update_self
abbrev kf:=@PySem.wpAny_setField_rec
abbrev kg:=@PySem.wpAny_loadPart'
abbrev kh:=@PySem.Heap.SameBut.update
abbrev ki:=@PySem.Around.under_plainId
abbrev kj:=@PySem.F.slot_tuple_iterator_next
abbrev kl:=@PySem.F.slot_dict_keyiterator_next
abbrev km:=@PySem.wpAny_typeNameOfWhole_keyiter
namespace L2
open PySem PySem.Spec PyProof.Rows
abbrev Key:=Sum Int Str
def qi5:Key->Value->Bool
 |.inl k,v=>Value.isInt k v
 |.inr x,v=>Value.isStrOf x v
def keyH(w:World):Key->Int
 |.inl k=>hashInt k
 |.inr x=>hashStr w x
theorem q1y:∀{k:Key} {v:Value},qi5 k v=true->(∃i t,k=Sum.inl i/\v=Value.int i t)∨(∃x t,k=Sum.inr x/\v=Value.str x t)
 | .inl i,v,h=>by
   obtain⟨t,e⟩:=Value.isInt_shape (k:=i) (v:=v) h
   exact .inl ⟨i,t,rfl,e⟩
 | .inr x,v,h=>by
   obtain⟨t,e⟩:=Value.isStrOf_shape (x:=x) (v:=v) h
   exact .inr ⟨x,t,rfl,e⟩
theorem qfs(i:Int)(t:Tok):qi5 (.inl i) (.int i t)=true:=by simp[qi5,Value.isInt]
theorem qqx(a b:Int):decide ((Sum.inl a:Key)=Sum.inl b)=(a==b):=by
 by_cases e:a=b
 · subst e;simp
 · have h:¬(Sum.inl a:Key)=Sum.inl b:=λq=>e (Sum.inl.inj q)
   rw[decide_eq_false h]
   exact(beq_eq_false_iff_ne.mpr e).symm
theorem qqu(a b:Str):decide ((Sum.inr a:Key)=Sum.inr b)=decide (a=b):=by
 by_cases e:a=b
 · subst e;simp
 · have h:¬(Sum.inr a:Key)=Sum.inr b:=λq=>e (Sum.inr.inj q)
   rw[decide_eq_false h,decide_eq_false e]
theorem qqw(a:Int)(b:Str):decide ((Sum.inl a:Key)=Sum.inr b)=false:=decide_eq_false (λq=>nomatch q)
theorem qqv(a:Str)(b:Int):decide ((Sum.inr a:Key)=Sum.inl b)=false:=decide_eq_false (λq=>nomatch q)
def q6x(prog:Program)(w:World):PySem.KeyKind prog w Key where
 is:=qi5
 hash:=keyH w
 inj:=λv a b ha hb=>by
   rcases q1y ha with⟨i,t,rfl,rfl⟩|⟨x,t,rfl,rfl⟩
   · rcases q1y hb with⟨j,u,rfl,e⟩|⟨y,u,rfl,e⟩
     · injection e with e1 _;rw[e1]
     · exact nomatch e
   · rcases q1y hb with⟨j,u,rfl,e⟩|⟨y,u,rfl,e⟩
     · exact nomatch e
     · injection e with e1 _;rw[e1]
 byValue:=λk v h=>by
   rcases q1y h with⟨i,t,rfl,rfl⟩|⟨x,t,rfl,rfl⟩<;>rfl
 pyHash:=λhv h=>by
   rcases q1y hv with⟨i,t,rfl,rfl⟩|⟨x,t,rfl,rfl⟩
   · exact wpAny_pyHash_int h
   · exact wpAny_pyHash_str h
 eqBool:=λhu hv h=>by
   rcases q1y hu with⟨i,t,rfl,rfl⟩|⟨x,t,rfl,rfl⟩
   · rcases q1y hv with⟨j,u,rfl,rfl⟩|⟨y,u,rfl,rfl⟩
     · rw[qqx]at h;exact wpAny_eqBool_int h
     · rw[qqw]at h;exact SeqAt.EqAt.int_str i t y u _ _ _ _ h
   · rcases q1y hv with⟨j,u,rfl,rfl⟩|⟨y,u,rfl,rfl⟩
     · rw[qqv]at h;exact SeqAt.EqAt.str_int x t j u _ _ _ _ h
     · rw[qqu]at h;exact wpAny_eqBool_str h
 «strs»:=λk x t v h=>by
   rcases q1y h with⟨i,u,rfl,e⟩|⟨y,u,rfl,e⟩
   · exact nomatch e
   · injection e with e1 _
     subst e1
     cases v<;>rfl
theorem q6w(prog:Program)(w:World)(i:Int)(t:Tok):(q6x prog w).is (.inl i) (.int i t)=true:=qfs i t
inductive V where
 |non|bl (b:Bool)|int (i:Int)|str (x:Str)|byt (b:Array UInt8)|flt (b:UInt64)|ref (a:Addr)|ty (n:String)
 deriving DecidableEq
def RelV:V->Value->Prop
 |.non,u=>u=Value.none
 |.bl b,u=>u=Value.bool b
 |.int i,u=>∃t,u=Value.int i t
 |.str x,u=>∃t,u=Value.str x t
 |.byt b,u=>∃t,u=Value.bytes b t
 |.flt b,u=>∃t,u=Value.float b t
 |.ref a,u=>u=Value.ref a
 |.ty n,u=>u=Value.type n
abbrev Vals:List V->List Value->Prop:=Paired RelV
theorem Vals.length{xs:List V}{us:List Value}(r:Vals xs us):xs.length=us.length:=Paired.length r
theorem Vals.get:∀{xs:List V} {us:List Value} {i:Nat} {x:V},Vals xs us->xs[i]? =some x->∃u,us[i]? =some u/\RelV x u
 |_,_,_,_,.nil,e=>by simp at e
 |_,_,0,_,.cons r _,e=>by simp at e;subst e;exact⟨_,rfl,r⟩
 | _,_,i+1,x,.cons _ t,e=>by
   obtain⟨u,h1,h2⟩:=Vals.get (i:=i) (x:=x) t (by simpa using e)
   exact⟨u,by simpa using h1,h2⟩
theorem Vals.set{x:V}{u:Value}(r:RelV x u):∀{xs:List V} {us:List Value} (i:Nat),Vals xs us->Vals (xs.set i x) (us.set i u)
 |_,_,_,.nil=>.nil
 |_,_,0,.cons _ t=>.cons r t
 |_,_,i+1,.cons q t=>.cons q (Vals.set r i t)
theorem Vals.append:∀{xs ys:List V} {us ws:List Value},Vals xs us->Vals ys ws->Vals (xs++ys) (us++ws)
 |_,_,_,_,.nil,s=>s
 |_,_,_,_,.cons r t,s=>.cons r (Vals.append t s)
theorem Vals.take:∀{xs:List V} {us:List Value} (n:Nat),Vals xs us->Vals (xs.take n) (us.take n)
 |_,_,0,_=>.nil
 |_,_,_+1,.nil=>.nil
 |_,_,n+1,.cons r t=>.cons r (Vals.take n t)
theorem Vals.drop:∀{xs:List V} {us:List Value} (n:Nat),Vals xs us->Vals (xs.drop n) (us.drop n)
 |_,_,0,r=>r
 |_,_,_+1,.nil=>.nil
 |_,_,n+1,.cons _ t=>Vals.drop n t
def RelO:Option V->Option Value->Prop
 |some v,some u=>RelV v u
 |none,none=>True
 |_,_=>False
def KV{κ:Type}:List (κ×V)->List (κ×Value)->Prop:=Paired λ(p:κ×V) (q:κ×Value)=>p.1=q.1/\RelV p.2 q.2
def kV:Key->V
 |.inl i=>.int i
 |.inr x=>.str x
inductive HO where
 |lst (xs:List V)
 |tup (xs:List V)
 |dK (kvs:List (Key×V))|dT (kvs:List (List Key×V))
 |set (S:Int->Bool) (n:Nat)
 |ins (C dx:Addr) (fs:List (Str×V))
 |own (x:Addr)
 |xd (fs:List (Str×V))
 |met (f x:Addr)
 |rng (lo hi:Int)
 |frz (o:Obj) (u:HO)
 |tbl (ps:Array Value)
 |ext (φ:Heap->Prop)
abbrev Hp:=Addr->Option HO
def upd(H:Hp)(a:Addr)(o:HO):Hp:=λb=>if b=a then some o else H b
theorem q0r{H:Hp}{a:Addr}{o:HO}:upd H a o a=some o:=by unfold upd;rw[if_pos rfl]
theorem q0n{H:Hp}{a b:Addr}{o:HO}(h:b≠a):upd H a o b=H b:=by unfold upd;rw[if_neg h]
theorem qe4{H:Hp}{a:Addr}{o u:HO}:upd (upd H a o) a u=upd H a u:=by
 funext b;unfold upd;split<;>rfl
theorem q1a{H:Hp}{a b:Addr}{o:HO}(h:H a=some o)(h':H b=none):a≠b:=by
 intro e;subst e;rw[h]at h';cases h'
def TupN(h:Heap)(a:Addr)(items:Array Value):Prop:=∃o,h.get? a=some o/\(o.cls=.type "tuple"/\∃n,o.data=.seq items n)/\o.dict=none
theorem TupN.tup{h:Heap}{a:Addr}{items:Array Value}(x:TupN h a items):IsTup h a items:=let ⟨o,e,c,_⟩:=x;⟨o,e,c⟩
theorem TupN.lt{h:Heap}{a:Addr}{items:Array Value}(x:TupN h a items):a<h.objs.size:=let ⟨_,e,_⟩:=x;j8 e
theorem TupN.new(h:Heap)(items:Array Value):TupN (h.push {cls:=.type "tuple",data:=.seq items}) h.objs.size items:=⟨_,jl _ rfl,⟨rfl,_,rfl⟩,rfl⟩
def DictN{P:Program}{w:World}{κ:Type}[DecidableEq κ](knd:KeyKind P w κ)(h:Heap)(a:Addr)(kvs:List (κ×Value))(n:Nat):Prop:=∃o es,h.get? a=some o/\o.ExactDict/\o.data=.dict es n/\KeysOf knd es/\Pairs knd es.toList kvs/\(kvs.map (·.1)).Nodup
theorem DictN.of{P:Program}{w:World}{κ:Type}[DecidableEq κ]{knd:KeyKind P w κ}{h:Heap}{a:Addr}{kvs:List (κ×Value)}{n:Nat}(x:DictN knd h a kvs n):h.DictOf knd a kvs:=let ⟨o,es,r⟩:=x;⟨o,es,n,r⟩
section
variable(P:Program)(w:World)
def ObjOk(H:Hp)(h:Heap)(a:Addr):HO->Prop
 |.lst xs=>xs.length<=sizeLine/\∃(its:List Value) (n:Nat),Vals xs its/\h.get? a=some {cls:=.type "list",data:=.seq its.toArray n}
 |.tup xs=>xs.length<=sizeLine/\∃its:List Value,Vals xs its/\TupN h a its.toArray
 |.dK kvs=>kvs.length<=sizeLine/\(a==sysModules)=false/\∃vs,KV kvs vs/\DictN (q6x P w) h a vs kvs.length
 |.dT kvs=>kvs.length<=sizeLine/\(a==sysModules)=false/\∃xs:List (List Key×Addr×Value),
     Paired (λ(p:List Key×V) (q:List Key×Addr×Value)=>p.1=q.1/\H q.2.1=some (.tup (p.1.map kV))/\RelV p.2 q.2.2) kvs xs/\
     ∃o es ep,h.get? a=some o/\o.ExactDict/\o.data=.dict es ep/\es.toList=xs.map (entryOfKey (tupleKind (q6x P w)))/\(xs.map (·.1)).Nodup/\ep=kvs.length
 |.set S n=>h.SetOf (intKind P w) a S n
 |.ins C dx fs=>H dx=some (.own a)/\fs.length<=1000/\dx≠a/\h.get? a=some (PySem.W.instObj C dx)/\
     ∃mA,h.Ns1 dx mA/\(∀f,RelO (fs.lookup f) (mA f))/\PySem.Within mA (fs.map (·.1))
 |.own _=>∃o,h.get? a=some o
 |.xd fs=>∃mA,h.Ns1 a mA/\∀f,RelO (fs.lookup f) (mA f)
 |.rng lo hi=>∃t u v,h.get? a=some {cls:=.type "range",data:=.fields #[.int lo t,.int hi u,.int 1 v]}
 |.frz o u=>h.get? a=some o/\ObjOk H h a u
 |.tbl ps=>h.get? a=some {cls:=.none,data:=.fields ps}
 |.met f x=>h.get? a=some (PySem.W.methodObj (.ref f) (.ref x))
 |.ext φ=>φ h/\(∃o,h.get? a=some o)/\∀h1 h2:Heap,φ h1->(∀o,h1.get? a=some o->h2.get? a=some o)->φ h2
def HOk(H:Hp)(h:Heap):Prop:=∀a o,H a=some o->ObjOk P w H h a o
end
section
variable{P:Program}{w:World}{H H':Hp}{h h':Heap}{a:Addr}{o:HO}
theorem ObjOk.lt(x:ObjOk P w H h a o):a<h.objs.size:=by
 cases o with
 |lst xs=>obtain⟨_,_,_,_,e⟩:=x;exact j8 e
 |tup xs=>obtain⟨_,_,_,p⟩:=x;exact p.lt
 |dK kvs=>obtain⟨_,_,_,_,o,_,e,_⟩:=x;exact j8 e
 |dT kvs=>obtain⟨_,_,_,_,o,_,_,e,_⟩:=x;exact j8 e
 |set S n=>obtain⟨o,_,_,_,e,_⟩:=x;exact j8 e
 |ins C dx fs=>obtain⟨_,_,_,e,_⟩:=x;exact j8 e
 |own y=>obtain⟨_,e⟩:=x;exact j8 e
 |xd fs=>obtain⟨_,⟨_,_,_,e,_⟩,_⟩:=x;exact j8 e
 |rng lo hi=>obtain⟨_,_,_,e⟩:=x;exact j8 e
 |frz ob u=>obtain⟨e,_⟩:=x;exact j8 e
 |tbl ps=>exact j8 (show h.get? a=some _ from x)
 |met f y=>exact j8 (show h.get? a=some _ from x)
 |ext φ=>obtain⟨_,⟨_,e⟩,_⟩:=x;exact j8 e
theorem Paired.mapP{α β:Type}{F G:α->β->Prop}:∀{l₁:List α} {l₂:List β},Paired F l₁ l₂->(∀a b,F a b->G a b)->Paired G l₁ l₂
 |_,_,.nil,_=>.nil
 |_,_,.cons r t,f=>.cons (f _ _ r) (Paired.mapP t f)
theorem ObjOk.stay(x:ObjOk P w H h a o)(k:∀b u,(b=a∨H b=some (.own a))->h.get? b=some u->h'.get? b=some u)
   (ho:∀b,H b=some (.own a)->H' b=some (.own a)) (ht:∀b xs,H b=some (.tup xs)->H' b=some (.tup xs)):ObjOk P w H' h' a o:=by
 induction o with
 |lst xs=>obtain⟨z,its,n,r,e⟩:=x;exact⟨z,its,n,r,k _ _ (.inl rfl) e⟩
 |tup xs=>obtain⟨z,its,r,ob,e,c⟩:=x;exact⟨z,its,r,ob,k _ _ (.inl rfl) e,c⟩
 |dK kvs=>obtain⟨z,y,vs,r,ob,es,e,c⟩:=x;exact⟨z,y,vs,r,ob,es,k _ _ (.inl rfl) e,c⟩
 | dT kvs=>
   obtain⟨z,y,xs,r,ob,es,ep,e,c⟩:=x
   exact⟨z,y,xs,Paired.mapP r λp q z=>⟨z.1,ht _ _ z.2.1,z.2.2⟩,ob,es,ep,k _ _ (.inl rfl) e,c⟩
 |set S n=>obtain⟨ob,es,ep,t,e,c⟩:=x;exact⟨ob,es,ep,t,k _ _ (.inl rfl) e,c⟩
 | ins C dx fs=>
   obtain⟨d,z,ne,e,mA,⟨od,es,ep,e2,c⟩,r⟩:=x
   exact⟨ho _ d,z,ne,k _ _ (.inl rfl) e,mA,⟨od,es,ep,k _ _ (.inr d) e2,c⟩,r⟩
 |own y=>obtain⟨ob,e⟩:=x;exact⟨ob,k _ _ (.inl rfl) e⟩
 |xd fs=>obtain⟨mA,⟨od,es,ep,e,c⟩,r⟩:=x;exact⟨mA,⟨od,es,ep,k _ _ (.inl rfl) e,c⟩,r⟩
 |rng lo hi=>obtain⟨t,u,v,e⟩:=x;exact⟨t,u,v,k _ _ (.inl rfl) e⟩
 |frz ob u ih=>obtain⟨e,q⟩:=x;exact⟨k _ _ (.inl rfl) e,ih q⟩
 | tbl ps=>
   have e:h.get? a=some {cls:=.none,data:=.fields ps}:=x
   show h'.get? a=some {cls:=.none,data:=.fields ps}
   exact k a _ (.inl rfl) e
 | met f y=>
   have e:h.get? a=some (PySem.W.methodObj (.ref f) (.ref y)):=x
   show h'.get? a=some (PySem.W.methodObj (.ref f) (.ref y))
   exact k a _ (.inl rfl) e
 |ext φ=>obtain⟨p,⟨o,e⟩,st⟩:=x;exact⟨st _ _ p λo q=>k _ _ (.inl rfl) q,⟨o,k _ _ (.inl rfl) e⟩,st⟩
theorem HOk.lt(x:HOk P w H h)(e:H a=some o):a<h.objs.size:=(x a o e).lt
theorem HOk.fresh(x:HOk P w H h)(e:h.objs.size<=a):H a=none:=by
 cases q:H a with
 |none=>rfl
 |some u=>exact absurd (jm (x.lt q) e) (jy _)
theorem HOk.kept(x:HOk P w H h)(k:∀b u,h.get? b=some u->h'.get? b=some u):HOk P w H h':=λa o e=>
 (x a o e).stay (λb u _ q=>k b u q) (λ_ q=>q) λ_ _ q=>q
theorem HOk.laid(x:HOk P w H h)(k:∀b u,h.get? b=some u->h'.get? b=some u)(hp:h.objs.size<=a)(new:ObjOk P w (upd H a o) h' a o):HOk P w (upd H a o) h':=λb u e=>by
 have hn:=x.fresh hp
 by_cases hb:b=a
 · subst hb;rw[q0r]at e;cases e;exact new
 · rw[q0n hb]at e
   exact(x b u e).stay (λc v _ q=>k c v q) (λc q=>by rw[q0n (q1a q hn)];exact q) λc xs q=>by rw[q0n (q1a q hn)];exact q
end
def Rd(H:Hp)(a:Addr)(u:HO):Prop:=H a=some u∨∃o,H a=some (.frz o u)
theorem Rd.of{H:Hp}{a:Addr}{u:HO}(h:H a=some u):Rd H a u:=.inl h
theorem Rd.ok{P:Program}{w:World}{H:Hp}{h:Heap}{a:Addr}{u:HO}(r:Rd H a u)(x:HOk P w H h):ObjOk P w H h a u:=by
 rcases r with r|⟨o,r⟩
 · exact x a u r
 · obtain⟨_,q⟩:=x a _ r
   exact q
def Mut:Option HO->Prop
 |some (.lst _)=>True
 |some (.dK _)=>True
 |some (.dT _)=>True
 |some (.set _ _)=>True
 |some (.ins _ _ _)=>True
 |some (.ext _)=>True
 |_=>False
section
variable{P:Program}{w:World}{H:Hp}{h h':Heap}{x e:Addr}{o':HO}
theorem HOk.write(ok:HOk P w H h)(mu:Mut (H x))(he:e=x∨H e=some (.own x))(k:∀b u,b≠e->h.get? b=some u->h'.get? b=some u)(heo:∃u,h'.get? e=some u)
   (new:ObjOk P w (upd H x o') h' x o'):HOk P w (upd H x o') h':=λb u q=>by
 have nown:∀c y,H c=some (.own y)->c≠x:=λc y r z=>by subst z;rw[r]at mu;exact mu
 have ntup:∀c xs,H c=some (.tup xs)->c≠x:=λc xs r z=>by subst z;rw[r]at mu;exact mu
 by_cases hb:b=x
 · subst hb;rw[q0r]at q;cases q;exact new
 · rw[q0n hb]at q
   by_cases hbe:b=e
   · have q':H b=some (.own x):=by
       rcases he with z|z
       · exact absurd (hbe.trans z) hb
       · rw[hbe];exact z
     rw[q]at q';cases q'
     obtain⟨v,hv⟩:=heo
     exact⟨v,by rw[hbe];exact hv⟩
   · refine(ok b u q).stay (λc v hc r=>k c v ?_ r) (λc r=>by rw[q0n (nown c b r)];exact r) λc xs r=>by rw[q0n (ntup c xs r)];exact r
     rcases hc with rfl|hc
     · exact hbe
     · rintro rfl
       rcases he with z|z
       · exact nown c b hc z
       · rw[hc]at z;cases z;exact hb rfl
end
structure Un(fs ex:List Addr)(H H':Hp)(h h':Heap):Prop where
 keep:∀b o,h.get? b=some o->H b=none->b∉fs->b∉ex->h'.get? b=some o
 slot:∀b o,h.get? b=some o->H b=none->b∈fs->b∉ex->∃sl,h'.get? b=some {o with slots:=sl}
 free:∀b o,h.get? b=some o->H b=none->b∉ex->H' b=none
 there:∀b o,h.get? b=some o->b∉ex->∃o',h'.get? b=some o'
 tups:∀b xs,H b=some (.tup xs)->H' b=some (.tup xs)
 frzs:∀b o u,H b=some (.frz o u)->H' b=some (.frz o u)
 tbls:∀b ps,H b=some (.tbl ps)->∃more,H' b=some (.tbl (ps++more))
section
variable{fs fs' ex ex':List Addr}{H H1 H2:Hp}{h h1 h2 h':Heap}{a x e:Addr}{o:HO}
theorem Un.any(u:Un fs ex H H1 h h1){b:Addr}{ob:Obj}(q:h.get? b=some ob)(n:H b=none)(hx:b∉ex):∃sl,h1.get? b=some {ob with slots:=sl}:=by
 by_cases hb:b∈fs
 · exact u.slot b ob q n hb hx
 · exact⟨ob.slots,u.keep b ob q n hb hx⟩
theorem Un.trans(a:Un fs ex H H1 h h1)(b:Un fs ex H1 H2 h1 h2):Un fs ex H H2 h h2 where
 keep:=λc ob q n hc hx=>b.keep c ob (a.keep c ob q n hc hx) (a.free c ob q n hx) hc hx
 slot:=λc ob q n hc hx=>by
   obtain⟨sl,e1⟩:=a.slot c ob q n hc hx
   obtain⟨sl',e2⟩:=b.slot c _ e1 (a.free c ob q n hx) hc hx
   exact⟨sl',e2⟩
 free:=λc ob q n hx=>by
   obtain⟨o',e1⟩:=a.there c ob q hx
   exact b.free c o' e1 (a.free c ob q n hx) hx
 there:=λc ob q hx=>by
   obtain⟨o',e1⟩:=a.there c ob q hx
   exact b.there c o' e1 hx
 tups:=λc xs q=>b.tups c xs (a.tups c xs q)
 frzs:=λc ob xs q=>b.frzs c ob xs (a.frzs c ob xs q)
 tbls:=λc ps q=>by
   obtain⟨m1,e1⟩:=a.tbls c ps q
   obtain⟨m2,e2⟩:=b.tbls c _ e1
   exact⟨m1++m2,by rw[e2,Array.append_assoc]⟩
theorem Un.kept(k:∀b u,h.get? b=some u->h'.get? b=some u):Un fs ex H H h h':=
 ⟨λb ob q _ _ _=>k b ob q,λb ob q _ _ _=>⟨ob.slots,k b ob q⟩,λ_ _ _ n _=>n,λb ob q _=>⟨ob,k b ob q⟩,λ_ _ q=>q,λ_ _ _ q=>q,λ_ ps q=>⟨#[],by rw[q];simp⟩⟩
theorem Un.refl:Un fs ex H H h h:=Un.kept λ_ _ q=>q
theorem Un.laid(k:∀b u,h.get? b=some u->h'.get? b=some u)(hp:h.objs.size<=a)(hn:H a=none):Un fs ex H (upd H a o) h h' where
 keep:=λb u q _ _ _=>k b u q
 slot:=λb u q _ _ _=>⟨u.slots,k b u q⟩
 free:=λb u q n _=>by rw[q0n (jh (jm (j8 q) hp))];exact n
 there:=λb u q _=>⟨u,k b u q⟩
 tups:=λb xs q=>by rw[q0n (q1a q hn)];exact q
 frzs:=λb u xs q=>by rw[q0n (q1a q hn)];exact q
 tbls:=λb ps q=>⟨#[],by rw[q0n (q1a q hn),q];simp⟩
theorem Un.write(mu:Mut (H x))(he:e=x∨H e=some (.own x))(k:∀b u,b≠e->h.get? b=some u->h'.get? b=some u)(heo:∃u,h'.get? e=some u):Un fs ex H (upd H x o) h h':=by
 have hx:∀b,H b=none->b≠x:=λb n z=>by subst z;rw[n]at mu;exact mu
 have hb:∀b,H b=none->b≠e:=λb n z=>by
   subst z
   rcases he with r|r
   · exact hx b n r
   · rw[n]at r;cases r
 have hm:∀b u,H b=some u->¬Mut (some u)->b≠x:=λb u q nm z=>by subst z;rw[q]at mu;exact nm mu
 refine⟨λb u q n _ _=>k b u (hb b n) q,λb u q n _ _=>⟨u.slots,k b u (hb b n) q⟩,λb u q n _=>by rw[q0n (hx b n)];exact n,λb u q _=>?_,
   λb xs q=>by rw[q0n (hm b _ q λz=>z)];exact q,λb u xs q=>by rw[q0n (hm b _ q λz=>z)];exact q,λb ps q=>⟨#[],by rw[q0n (hm b _ q λz=>z),q];simp⟩⟩
 by_cases hbe:b=e
 · subst hbe;exact heo
 · exact⟨u,k b u hbe q⟩
theorem Un.mono(u:Un fs ex H H1 h h1)(hs:∀b∈fs,b∈fs')(hx:∀b∈ex,b∈ex'):Un fs' ex' H H1 h h1:=
 ⟨λb ob q n hb he=>u.keep b ob q n (λz=>hb (hs b z)) λz=>he (hx b z),λ_ _ q n _ he=>u.any q n λz=>he (hx _ z),λb ob q n he=>u.free b ob q n λz=>he (hx b z),λb ob q he=>u.there b ob q λz=>he (hx b z),u.tups,u.frzs,u.tbls⟩
end
def trk(h:Heap)(H:Hp):List Addr:=(List.range h.objs.size).filter λa=>(H a).isSome
def hidT(h:Heap)(H:Hp):Heap:=PySem.W.hideAll h (trk h H)
theorem qfw(h:Heap)(H:Hp):(hidT h H).objs.size=h.objs.size:=PySem.W.hideAll_size _ _
theorem qia{h:Heap}{H:Hp}{b:Addr}{o:Obj}(e:h.get? b=some o)(n:H b=none):(hidT h H).get? b=some o:=
 PySem.W.hideAll_get _ e λhm=>by
   have q:(H b).isSome=true:=(List.mem_filter.mp hm).2
   rw[n]at q;simp at q
theorem qlm{h:Heap}{H:Hp}{b:Addr}{o:Obj}(e:(hidT h H).get? b=some o):h.get? b=some o/\H b=none:=by
 have e':h.get? b=some o:=PySem.W.of_hideAll (trk h H) e
 refine⟨e',?_⟩
 cases q:H b with
 |none=>rfl
 | some x=>
   have hm:b∈trk h H:=List.mem_filter.mpr ⟨List.mem_range.mpr (j8 e'),by simp[q]⟩
   have z:(hidT h H).get? b=none:=PySem.W.hideAll_none (trk h H) hm
   rw[z]at e;cases e
def qn9(g h:Heap)(L:Addr):List (Addr×Obj):=(List.range h.objs.size).filterMap λa=>if a=L∨(g.get? a).isSome=true then none else(h.get? a).map λo=>(a,o)
def rest(g h:Heap)(L d:Addr):List (Addr×Obj):=(qn9 g h L).filter λp=>decide (p.1≠d)
structure Mod(K:PySem.W.Frag)(mg:Str->Option Value)(base:Heap):Prop where
 kin:K.In base
 glob:base.Ns mainGlobals mg
 blt:∃mb,base.Ns builtinsNs mb/\∀x:Str,x≠"__name__"->mb x=bootBuiltins x
 nolimit:base.NoLimit
structure Cx where
 prog:Program
 w:World
 K:PySem.W.Frag
 mg:Str->Option Value
 base:Heap
 A:Around
 N:List Str
 s₀:Shared
 H₀:Hp
 env:Env
 outer:List Env
 stack:List Env
 ex:List Addr
 fn:Str->Bool
 calm:Bool
 pn:List (Addr×Obj)
 xe:Value->Shared->Prop
def frs(l:List Env):List Addr:=l.filterMap (·.frame)
abbrev Cx.fs(X:Cx):List Addr:=frs X.outer
def Vis(sc:Scope)(x:Str):Prop:=sc.names.lookup x=some .local∨sc.names.lookup x=some .cell∨sc.names.lookup x=some .free
def Loc(sc:Scope)(x:Str):Prop:=sc.names.lookup x=some .local∨sc.names.lookup x=some .cell
def Look(env:Env)(h:Heap)(m:Str->Option Value)(x:Str)(u:Value):Prop:=
 (env.kindOf x=some .local/\m x=some u)∨((env.kindOf x=some .cell∨env.kindOf x=some .free)/\∃c,env.cells.lookup x=some c/\h.IsCell c (some u))
structure Cx.Ok(X:Cx):Prop where
 mod:Mod X.K X.mg X.base
 kind:X.env.scope.kind=.function
 glob:X.env.globals=mainGlobals
 blt:X.env.builtins=builtinsNs
 above:X.s₀.heap.objs.size<=X.env.locals
 inj:∀x y c,X.env.cells.lookup x=some c->X.env.cells.lookup y=some c->x=y
 has:∀x,(X.env.kindOf x=some .cell∨X.env.kindOf x=some .free)->∃c,X.env.cells.lookup x=some c
 cab:∀x c,X.fn x=true->X.env.cells.lookup x=some c->X.s₀.heap.objs.size<=c
 hd:X.calm=true->X.A.handled=none
 frames:X.A.frames=some X.stack
 stk:X.stack=X.outer∨(X.stack=X.env::X.outer/\X.env.frame=some X.env.locals)
 exf:∀b∈X.ex,b≠X.env.locals/\∀x c,X.env.cells.lookup x=some c->c≠b
 bs:∀b o,X.base.get? b=some o->X.s₀.heap.get? b=some o/\X.H₀ b=none
 bsz:X.base.objs.size<=X.s₀.heap.objs.size
 noex:∀b o,X.base.get? b=some o->b∉X.ex
 exfs:∀b∈X.ex,b∉X.fs
 funs:X.s₀.heap.FunFrames X.base X.outer
 frf:∀b∈X.fs,X.H₀ b=none
structure Inv(X:Cx)(z5:List (Addr×Obj))(σ:List (Option V))(H:Hp)(s:Shared):Prop where
 ok:X.Ok
 os:s.os=X.s₀.os
 bare:AllBare s.gens
 base:Un X.fs X.ex X.H₀ H X.s₀.heap s.heap
 loc:∃m,s.heap.Ns X.env.locals m/\∀(i:Nat) (x:Str) (v:V),X.N[i]? =some x->σ[i]? =some (some v)->Vis X.env.scope x->∃u,RelV v u/\Look X.env s.heap m x u
 cell:∀x c,X.env.cells.lookup x=some c->∃v,s.heap.IsCell c v
 free:H X.env.locals=none
 freeC:∀x c,X.env.cells.lookup x=some c->H c=none
 pin:∀p∈X.pn++z5,s.heap.get? p.1=some p.2/\H p.1=none/\p.1≠X.env.locals/\p.1∉X.fs/\∀v,p.2.data≠.cell v
 hok:HOk X.prog X.w H s.heap
 len:σ.length=X.N.length
section
variable{X:Cx}{z5:List (Addr×Obj)}{σ:List (Option V)}{H H':Hp}{s:Shared}{h':Heap}
theorem Cx.Ok.nofr(ok:X.Ok){b:Addr}{o:Obj}(e:X.base.get? b=some o):b∉X.fs:=λhb=>by
 have:=(ok.funs.mem hb).1
 rw[e]at this;cases this
theorem Inv.bs(I:Inv X z5 σ H s):∀b o,X.base.get? b=some o->s.heap.get? b=some o/\H b=none:=λb o e=>
 ⟨I.base.keep b o (I.ok.bs b o e).1 (I.ok.bs b o e).2 (I.ok.nofr e) (I.ok.noex b o e),I.base.free b o (I.ok.bs b o e).1 (I.ok.bs b o e).2 (I.ok.noex b o e)⟩
theorem Inv.bk(I:Inv X z5 σ H s):∀b o,X.base.get? b=some o->s.heap.get? b=some o:=λb o e=>(I.bs b o e).1
theorem Inv.mod(I:Inv X z5 σ H s):Mod X.K X.mg X.base:=I.ok.mod
theorem Inv.kIn(I:Inv X z5 σ H s):X.K.In s.heap:=I.ok.mod.kin.keeps I.bk
theorem Inv.fr(I:Inv X z5 σ H s):∃m,Fr X.base X.env.locals s.heap m:=
 let ⟨m,hn,_⟩:=I.loc
 ⟨m,hn,I.bk,jt I.ok.bsz I.ok.above⟩
theorem Inv.lt(I:Inv X z5 σ H s):X.env.locals<s.heap.objs.size:=let ⟨_,hn,_⟩:=I.loc;hn.lt
theorem Inv.sz(I:Inv X z5 σ H s):X.s₀.heap.objs.size<=s.heap.objs.size:=jt I.ok.above (Nat.le_of_lt I.lt)
theorem Inv.nofs(I:Inv X z5 σ H s){a:Addr}(h:s.heap.objs.size<=a):a∉X.fs:=λhb=>by
 obtain⟨_,o,ho,_⟩:=I.ok.funs.mem hb
 exact absurd (jm (j8 ho) (jt I.sz h)) (jy _)
theorem Inv.cne(I:Inv X z5 σ H s):∀x c,X.env.cells.lookup x=some c->c≠X.env.locals:=λx c e z=>by
 obtain⟨v,o,ho,hd⟩:=I.cell x c e
 obtain⟨m,⟨o',es,ep,ho',hd',_⟩,_⟩:=I.loc
 rw[z,ho']at ho;cases ho;rw[hd']at hd;cases hd
theorem Inv.funs(I:Inv X z5 σ H s):s.heap.FunFrames X.base X.outer:=by
 have all:∀(l:List Env),(∀b∈frs l,b∈X.fs)->X.s₀.heap.FunFrames X.base l->s.heap.FunFrames X.base l:=by
   intro l
   induction l with
   |nil=>intro _ _;trivial
   | cons env r ih=>
     intro hs hl
     obtain⟨hk,⟨L,o,hf,hn,ho,hd⟩,hr⟩:=hl
     have hL:L∈X.fs:=hs L (by unfold frs;rw[List.filterMap_cons,hf];exact jf)
     obtain⟨sl,e⟩:=I.base.slot L o ho (I.ok.frf L hL) hL λz=>I.ok.exfs L z hL
     exact⟨hk,⟨L,_,hf,hn,e,hd⟩,ih (λb hb=>hs b (by unfold frs;rw[List.filterMap_cons,hf];exact jg _ hb)) hr⟩
 exact all X.outer (λ_ hb=>hb) I.ok.funs
theorem Inv.stack(I:Inv X z5 σ H s):s.heap.FunFrames X.base X.stack:=by
 rcases I.ok.stk with e|⟨e,hf⟩
 · rw[e];exact I.funs
 · rw[e]
   obtain⟨m,hn,_⟩:=I.loc
   refine .cons (by rw[I.ok.kind];decide) hf hn ?_ I.funs
   exact Heap.get?_none_of_le (jt I.ok.bsz I.ok.above)
theorem Inv.stkSub(I:Inv X z5 σ H s):∀b∈frs X.stack,b∈X.env.locals::X.fs:=λb hb=>by
 rcases I.ok.stk with e|⟨e,hf⟩
 · rw[e]at hb;exact jg _ hb
 · rw[e]at hb
   unfold frs at hb
   rw[List.filterMap_cons,hf]at hb
   exact hb
theorem Inv.stkFree(I:Inv X z5 σ H s):∀b∈frs X.stack,H b=none:=λb hb=>by
 rcases List.mem_cons.mp (I.stkSub b hb)with e|hb
 · rw[e];exact I.free
 · obtain⟨_,o,ho,_⟩:=I.ok.funs.mem hb
   exact I.base.free b o ho (I.ok.frf b hb) λz=>I.ok.exfs b z hb
theorem Inv.step{g':Array GenState}{t':Nat}{d':Drawn}{ch:List Addr}(I:Inv X z5 σ H s)
   (hch:∀b∈ch,(b∈X.ex∨X.s₀.heap.objs.size<=b)/\b≠X.env.locals/\(∀x c,X.env.cells.lookup x=some c->c≠b)/\∀p∈X.pn++z5,p.1≠b)
   (keep:∀b o,b≠X.env.locals->b∉X.fs->b∉ch->s.heap.get? b=some o->H b=none->h'.get? b=some o)
   (slot:∀b o,b≠X.env.locals->b∈X.fs->b∉ch->s.heap.get? b=some o->H b=none->∃sl,h'.get? b=some {o with slots:=sl}) (free:∀b o,b∉ch->s.heap.get? b=some o->H b=none->H' b=none)
   (there:∀b o,b∉ch->s.heap.get? b=some o->∃o',h'.get? b=some o')
   (tups:∀b xs,H b=some (.tup xs)->H' b=some (.tup xs)) (frzs:∀b o u,H b=some (.frz o u)->H' b=some (.frz o u)) (tbls:∀b ps,H b=some (.tbl ps)->∃more,H' b=some (.tbl (ps++more)))
   (ns:∀m,s.heap.Ns X.env.locals m->h'.Ns X.env.locals m) (hok:HOk X.prog X.w H' h') (hg:AllBare g'):
   Inv X z5 σ H' {s with heap:=h',gens:=g',drawn:=d',toks:=t'}:=by
 have neL:∀b o,X.s₀.heap.get? b=some o->b≠X.env.locals:=λb o e=>jh (jm (j8 e) I.ok.above)
 have neC:∀b o,X.s₀.heap.get? b=some o->b∉X.ex->b∉ch:=λb o e hx hb=>by
   rcases(hch b hb).1 with z|z
   · exact hx z
   · exact absurd (jm (j8 e) z) (jy _)
 have cellK:∀x c,X.env.cells.lookup x=some c->∀v,s.heap.IsCell c v->h'.IsCell c v:=λx c e v ⟨o,ho,hd⟩=>by
   have nch:c∉ch:=λz=>(hch c z).2.2.1 x c e rfl
   by_cases hc:c∈X.fs
   · obtain⟨sl,q⟩:=slot c o (I.cne x c e) hc nch ho (I.freeC x c e)
     exact⟨_,q,hd⟩
   · exact⟨o,keep c o (I.cne x c e) hc nch ho (I.freeC x c e),hd⟩
 refine⟨I.ok,I.os,hg,⟨λb o e n hb hx=>?_,λb o e n hb hx=>?_,λb o e n hx=>?_,λb o e hx=>?_,λb xs e=>tups b xs (I.base.tups b xs e),λb o xs e=>frzs b o xs (I.base.frzs b o xs e),λb ps e=>?_⟩,?_,λx c e=>?_,?_,λx c e=>?_,λp hp=>?_,hok,I.len⟩
 · exact keep b o (neL b o e) hb (neC b o e hx) (I.base.keep b o e n hb hx) (I.base.free b o e n hx)
 · obtain⟨sl,e1⟩:=I.base.slot b o e n hb hx
   obtain⟨sl',e2⟩:=slot b _ (neL b o e) hb (neC b o e hx) e1 (I.base.free b o e n hx)
   exact⟨sl',e2⟩
 · obtain⟨o',e1⟩:=I.base.there b o e hx
   exact free b o' (neC b o e hx) e1 (I.base.free b o e n hx)
 · obtain⟨o',e1⟩:=I.base.there b o e hx
   exact there b o' (neC b o e hx) e1
 · obtain⟨m1,e1⟩:=I.base.tbls b ps e
   obtain⟨m2,e2⟩:=tbls b _ e1
   exact⟨m1++m2,by rw[e2,Array.append_assoc]⟩
 · obtain⟨m,hn,hl⟩:=I.loc
   refine⟨m,ns m hn,λi x v e1 e2 e3=>?_⟩
   obtain⟨u,r,l⟩:=hl i x v e1 e2 e3
   refine⟨u,r,?_⟩
   rcases l with l|⟨k,c,e,z⟩
   · exact .inl l
   · exact .inr ⟨k,c,e,cellK x c e _ z⟩
 · obtain⟨v,z⟩:=I.cell x c e
   exact⟨v,cellK x c e v z⟩
 · obtain⟨m,⟨o,_,_,ho,_⟩,_⟩:=I.loc
   exact free _ o (λz=>(hch _ z).2.1 rfl) ho I.free
 · obtain⟨v,o,ho,hd⟩:=I.cell x c e
   exact free c o (λz=>(hch c z).2.2.1 x c e rfl) ho (I.freeC x c e)
 · obtain⟨e,n,ne,nf,d⟩:=I.pin p hp
   have nch:p.1∉ch:=λz=>(hch p.1 z).2.2.2 p hp rfl
   exact⟨keep p.1 p.2 ne nf nch e n,free p.1 p.2 nch e n,ne,nf,d⟩
theorem Inv.un{t':Nat}(I:Inv X z5 σ H s)(u:Un X.fs [] H H' s.heap h')(hok:HOk X.prog X.w H' h'):Inv X z5 σ H' {s with heap:=h',toks:=t'}:=by
 obtain⟨m,⟨o,es,ep,ho,r⟩,_⟩:=id I.loc
 obtain⟨sl,hL⟩:=u.any ho I.free (by simp)
 exact I.step (g':=s.gens) (d':=s.drawn) (ch:=[]) (λ_ z=>nomatch z) (λb o _ hb _ e n=>u.keep b o e n hb (by simp)) (λb o _ hb _ e n=>u.slot b o e n hb (by simp)) (λb o _ e n=>u.free b o e n (by simp)) (λb o _ e=>u.there b o e (by simp)) u.tups u.frzs u.tbls (λm' hm=>by
   obtain⟨o',es',ep',ho',r'⟩:=hm
   rw[ho]at ho';cases ho'
   exact⟨_,es',ep',hL,r'⟩) hok I.bare
theorem Inv.call{g':Array GenState}{t':Nat}{d':Drawn}{ch:List Addr}(I:Inv X z5 σ H s)(u:Un (frs X.stack) ch H H' s.heap h')(hok:HOk X.prog X.w H' h')(hg:AllBare g')
   (hch:∀b∈ch,(b∈X.ex∨X.s₀.heap.objs.size<=b)/\b≠X.env.locals/\(∀x c,X.env.cells.lookup x=some c->c≠b)/\∀p∈X.pn++z5,p.1≠b):
   Inv X z5 σ H' {s with heap:=h',gens:=g',drawn:=d',toks:=t'}:=by
 obtain⟨m,⟨o,es,ep,ho,r⟩,_⟩:=id I.loc
 obtain⟨sl,hL⟩:=u.any ho I.free λz=>(hch _ z).2.1 rfl
 exact I.step (ch:=ch) hch (λb o hL hb hc e n=>u.keep b o e n (λz=>(List.mem_cons.mp (I.stkSub b z)).elim hL hb) hc) (λb o _ _ hc e n=>u.any e n hc) (λb o hc e n=>u.free b o e n hc) (λb o hc e=>u.there b o e hc) u.tups u.frzs u.tbls (λm' hm=>by
   obtain⟨o',es',ep',ho',r'⟩:=hm
   rw[ho]at ho';cases ho'
   exact⟨_,es',ep',hL,r'⟩) hok hg
theorem Inv.turned{t':Nat}{it:Addr}(I:Inv X z5 σ H s)(k:∀b o,b≠it->s.heap.get? b=some o->h'.get? b=some o)(hn:H it=none)(hL:it≠X.env.locals)
   (h1:it∈X.ex∨X.s₀.heap.objs.size<=it) (h2:∀x c,X.env.cells.lookup x=some c->c≠it) (h3:∀p∈X.pn++z5,p.1≠it):Inv X z5 σ H {s with heap:=h',toks:=t'}:=by
 have nit:∀b u,H b=some u->b≠it:=λb u e z=>by rw[z,hn]at e;cases e
 refine I.step (g':=s.gens) (d':=s.drawn) (ch:=[it]) (λb hb=>?_) (λb o _ _ hc e _=>k b o (λz=>hc (by simp[z])) e) (λb o _ _ hc e _=>⟨o.slots,k b o (λz=>hc (by simp[z])) e⟩) (λ_ _ _ _ n=>n)
   (λb o hc e=>⟨o,k b o (λz=>hc (by simp[z])) e⟩) (λ_ _ e=>e) (λ_ _ _ e=>e) (λb ps e=>⟨#[],by rw[e];simp⟩) (λm hm=>?_) (λb u e=>?_) I.bare
 · have e:b=it:=by simpa using hb
   subst e
   exact⟨h1,hL,h2,h3⟩
 · obtain⟨o,es,ep,ho,r⟩:=hm
   exact⟨o,es,ep,k _ o (Ne.symm hL) ho,r⟩
 · refine(I.hok b u e).stay (λc v hc q=>k c v ?_ q) (λ_ q=>q) λ_ _ q=>q
   rcases hc with z|z
   · rw[z];exact nit b u e
   · exact nit c _ z
theorem Inv.tok(I:Inv X z5 σ H s)(t:Nat):Inv X z5 σ H {s with toks:=t}:=I.un (h':=s.heap) (t':=t) Un.refl I.hok
theorem Inv.kept{t':Nat}(I:Inv X z5 σ H s)(k:∀b u,s.heap.get? b=some u->h'.get? b=some u):Inv X z5 σ H {s with heap:=h',toks:=t'}:=I.un (Un.kept k) (I.hok.kept k)
theorem Inv.laid{a:Addr}{o:HO}{t':Nat}(I:Inv X z5 σ H s)(k:∀b u,s.heap.get? b=some u->h'.get? b=some u)(hp:s.heap.objs.size<=a)(new:ObjOk X.prog X.w (upd H a o) h' a o):
   Inv X z5 σ (upd H a o) {s with heap:=h',toks:=t'}:=I.un (Un.laid k hp (I.hok.fresh hp)) (I.hok.laid k hp new)
theorem Inv.write{x e:Addr}{o:HO}{t':Nat}(I:Inv X z5 σ H s)(mu:Mut (H x))(he:e=x∨H e=some (.own x))(k:∀b u,b≠e->s.heap.get? b=some u->h'.get? b=some u)(heo:∃u,h'.get? e=some u)
   (new:ObjOk X.prog X.w (upd H x o) h' x o):Inv X z5 σ (upd H x o) {s with heap:=h',toks:=t'}:=I.un (Un.write mu he k heo) (I.hok.write mu he k heo new)
theorem Inv.weak{σ':List (Option V)}(I:Inv X z5 σ H s)(hl:σ'.length=σ.length)(w:∀(i:Nat) v,σ'[i]? =some (some v)->σ[i]? =some (some v)):Inv X z5 σ' H s:=
 ⟨I.ok,I.os,I.bare,I.base,let ⟨m,hn,hl'⟩:=I.loc;⟨m,hn,λi x v e1 e2 e3=>hl' i x v e1 (w i v e2) e3⟩,I.cell,I.free,I.freeC,I.pin,I.hok,hl.trans I.len⟩
theorem Inv.pins_of{pins':List (Addr×Obj)}(I:Inv X z5 σ H s)(h:∀p∈pins',s.heap.get? p.1=some p.2/\H p.1=none/\p.1≠X.env.locals/\p.1∉X.fs/\∀v,p.2.data≠.cell v):Inv X pins' σ H s:=
 ⟨I.ok,I.os,I.bare,I.base,I.loc,I.cell,I.free,I.freeC,λp hp=>(List.mem_append.mp hp).elim (λz=>I.pin p (List.mem_append_left _ z)) (h p),I.hok,I.len⟩
theorem qbn{N:List Str}(hN:N.Nodup){i j:Nat}{x:Str}(a:N[i]? =some x)(b:N[j]? =some x):i=j:=by
 obtain⟨h1,e1⟩:=List.getElem?_eq_some_iff.mp a
 obtain⟨h2,e2⟩:=List.getElem?_eq_some_iff.mp b
 exact(List.getElem_inj hN).mp (e1.trans e2.symm)
theorem qea{M:Model}{A:Around}{E:Value->Shared->Prop}{i:Nat}{x:Str}{v:V}{u:Value}{Q:Unit->Shared->Prop}(I:Inv X z5 σ H s)(hN:X.N.Nodup)(hi:X.N[i]? =some x)(hx:Loc X.env.scope x)(r:RelV v u)
   (h:∀s',Inv X z5 (σ.set i (some v)) H s'->(∃a,Heap.SameBut a s.heap s'.heap/\(a=X.env.locals∨X.env.cells.lookup x=some a))->Q () s') (hf:X.fn x=true∨X.env.scope.names.lookup x=some .local:=by first|exact .inl rfl|exact .inr rfl|assumption):wpAny M A (storeName X.env x u) Q E s:=by
 obtain⟨m,hn,hl⟩:=id I.loc
 have hcls:(X.env.scope.kind==.class||(X.env.scope.kind==.module&&X.env.locals !=X.env.globals))=false:=by rw[I.ok.kind];rfl
 have hiσ:i<σ.length:=by rw[I.len];exact(List.getElem?_eq_some_iff.mp hi).1
 have cne:=I.cne
 have tracked:∀{a:Addr} {h':Heap},(∃o,s.heap.get? a=some o/\H a=none)->Heap.SameBut a s.heap h'->HOk X.prog X.w H h':=λ{a h'} ha hs b ob e=>by
   obtain⟨_,_,hfree⟩:=ha
   refine(I.hok b ob e).stay (λc w' hc q=>(hs.2 c ?_).trans q) (λ_ q=>q) λ_ _ q=>q
   rintro rfl
   rcases hc with rfl|hc
   · rw[hfree]at e;cases e
   · rw[hfree]at hc;cases hc
 rcases hx with hk|hk
 · refine wpAny_storeName_local hk hn (λh' hn' hs=>?_) hcls
   obtain⟨oL,_,_,hoL,_⟩:=id hn
   refine h _ ⟨I.ok,I.os,I.bare,⟨λb o e n hb hx=>?_,λb o e n hb hx=>?_,I.base.free,λb o e hx=>?_,I.base.tups,I.base.frzs,I.base.tbls⟩,⟨_,hn',λj y v' e1 e2 e3=>?_⟩,λy c e=>?_,I.free,I.freeC,λp hp=>?_,tracked ⟨oL,hoL,I.free⟩ hs,by simpa using I.len⟩ ⟨_,hs,.inl rfl⟩
   · exact(hs.2 b (jh (jm (j8 e) I.ok.above))).trans (I.base.keep b o e n hb hx)
   · obtain⟨sl,e1⟩:=I.base.slot b o e n hb hx
     exact⟨sl,(hs.2 b (jh (jm (j8 e) I.ok.above))).trans e1⟩
   · obtain⟨o',e1⟩:=I.base.there b o e hx
     exact⟨o',(hs.2 b (jh (jm (j8 e) I.ok.above))).trans e1⟩
   · by_cases hj:j=i
     · subst hj
       rw[hi]at e1;cases e1
       rw[x5 hiσ]at e2
       cases e2
       exact⟨u,r,.inl ⟨hk,by simp⟩⟩
     · rw[jj (Ne.symm hj)]at e2
       obtain⟨u',r',q⟩:=hl j y v' e1 e2 e3
       refine⟨u',r',?_⟩
       rcases q with⟨k,e⟩|⟨k,c,e,z⟩
       · refine .inl ⟨k,?_⟩
         have:y≠x:=λe=>hj (qbn hN e1 (e▸hi))
         simp[this,e]
       · exact .inr ⟨k,c,e,z.sameBut hs (cne y c e)⟩
   · obtain⟨w',z⟩:=I.cell y c e
     exact⟨w',z.sameBut hs (cne y c e)⟩
   · obtain⟨e,n,ne,nf,d⟩:=I.pin p hp
     exact⟨(hs.2 p.1 ne).trans e,n,ne,nf,d⟩
 · have hfn:X.fn x=true:=by
     rcases hf with z|z
     · exact z
     · rw[z]at hk;cases hk
   obtain⟨c,hc⟩:=I.ok.has x (.inl hk)
   obtain⟨w',z⟩:=I.cell x c hc
   refine wpAny_storeName_cell I.ok.kind hk hc z (λh' hc' hs=>?_)
   obtain⟨oc,hoc,hocd⟩:=id z
   refine h {s with heap:=h'} ⟨I.ok,I.os,I.bare,⟨λb o e n hb hx=>?_,λb o e n hb hx=>?_,I.base.free,λb o e hx=>?_,I.base.tups,I.base.frzs,I.base.tbls⟩,⟨m,hn.sameBut hs (Ne.symm (cne x c hc)),λj y v' e1 e2 e3=>?_⟩,λy c' e=>?_,I.free,I.freeC,λp hp=>?_,tracked ⟨oc,hoc,I.freeC x c hc⟩ hs,by simpa using I.len⟩ ⟨c,hs,.inr hc⟩
   · exact(hs.2 b (jh (jm (j8 e) (I.ok.cab x c hfn hc)))).trans (I.base.keep b o e n hb hx)
   · obtain⟨sl,e1⟩:=I.base.slot b o e n hb hx
     exact⟨sl,(hs.2 b (jh (jm (j8 e) (I.ok.cab x c hfn hc)))).trans e1⟩
   · obtain⟨o',e1⟩:=I.base.there b o e hx
     exact⟨o',(hs.2 b (jh (jm (j8 e) (I.ok.cab x c hfn hc)))).trans e1⟩
   · by_cases hj:j=i
     · subst hj
       rw[hi]at e1;cases e1
       rw[x5 hiσ]at e2
       cases e2
       exact⟨u,r,.inr ⟨.inl hk,c,hc,hc'⟩⟩
     · rw[jj (Ne.symm hj)]at e2
       obtain⟨u',r',q⟩:=hl j y v' e1 e2 e3
       refine⟨u',r',?_⟩
       rcases q with q|⟨k,c',e,z'⟩
       · exact .inl q
       · refine .inr ⟨k,c',e,z'.sameBut hs ?_⟩
         rintro rfl
         exact hj (qbn hN e1 (I.ok.inj _ _ _ e hc▸hi))
   · by_cases hcc:c'=c
     · subst hcc;exact⟨_,hc'⟩
     · obtain⟨w2,z2⟩:=I.cell y c' e
       exact⟨w2,z2.sameBut hs hcc⟩
   · obtain⟨e,n,ne,nf,d⟩:=I.pin p hp
     refine⟨(hs.2 p.1 ?_).trans e,n,ne,nf,d⟩
     intro q
     rw[q,hoc]at e
     have q':oc=p.2:=je e
     exact d w' (by rw[<-q'];exact hocd)
theorem q6b{M:Model}{A:Around}{E:Value->Shared->Prop}{i:Nat}{x:Str}{v:V}{u:Value}{Q:Unit->Shared->Prop}(I:Inv X z5 σ H s)(hN:X.N.Nodup)(hi:X.N[i]? =some x)(hx:Loc X.env.scope x)(r:RelV v u)
   (h:∀s',Inv X z5 (σ.set i (some v)) H s'->Q () s') (hf:X.fn x=true∨X.env.scope.names.lookup x=some .local:=by first|exact .inl rfl|exact .inr rfl|assumption):wpAny M A (storeName X.env x u) Q E s:=
 qea I hN hi hx r (λs' I' _=>h s' I') hf
theorem Inv.call'{s':Shared}{ch:List Addr}(I:Inv X z5 σ H s)(ho:s'.os=s.os)(u:Un (frs X.stack) ch H H' s.heap s'.heap)(hok:HOk X.prog X.w H' s'.heap)(hg:AllBare s'.gens)
   (hch:∀b∈ch,(b∈X.ex∨X.s₀.heap.objs.size<=b)/\b≠X.env.locals/\(∀x c,X.env.cells.lookup x=some c->c≠b)/\∀p∈X.pn++z5,p.1≠b):Inv X z5 σ H' s':=by
 obtain⟨h',g',d',t',o'⟩:=s'
 have e:o'=s.os:=ho
 subst e
 exact I.call (g':=g') (t':=t') (d':=d') u hok hg hch
end
abbrev XK:=Value->Option Addr->Hp->Prop
abbrev St:=List (Option V)
abbrev VK:=V->Hp->Prop
abbrev TE:=St->Hp->VK->Prop
abbrev TT:=St->Hp->(Bool->Hp->Prop)->Prop
abbrev TA:=St->Hp->(List V->Hp->Prop)->Prop
structure Ends where
 nx:St->Hp->Prop
 rt:VK
 bk:St->Hp->Prop:=λ_ _=>False
 ct:St->Hp->Prop:=λ_ _=>False
abbrev TS:=Ends->St->Hp->Prop
def EP(X:Cx)(z5:List (Addr×Obj))(σ:St)(Q:VK)(u:Value)(s':Shared):Prop:=∃v H',Inv X z5 σ H' s'/\RelV v u/\Q v H'
def TP(X:Cx)(z5:List (Addr×Obj))(σ:St)(Q:Bool->Hp->Prop)(b:Bool)(s':Shared):Prop:=∃H',Inv X z5 σ H' s'/\Q b H'
def AP(X:Cx)(z5:List (Addr×Obj))(σ:St)(Q:List V->Hp->Prop)(us:List Value)(s':Shared):Prop:=∃vs H',Inv X z5 σ H' s'/\Vals vs us/\Q vs H'
def SP(X:Cx)(z5:List (Addr×Obj))(D:Ends)(f:Flow)(s':Shared):Prop:=
 match f with
 |.next=>∃σ' H',Inv X z5 σ' H' s'/\D.nx σ' H'
 |.brk=>∃σ' H',Inv X z5 σ' H' s'/\D.bk σ' H'
 |.cont=>∃σ' H',Inv X z5 σ' H' s'/\D.ct σ' H'
 |.ret u=>∃v σ' H',Inv X z5 σ' H' s'/\RelV v u/\D.rt v H'
def PE(X:Cx)(e:Expr)(t:TE):Prop:=
 ∀(z5:List (Addr×Obj)) (s:Shared) (σ:St) (H:Hp) (Q:VK),Inv X z5 σ H s->t σ H Q->wpAny (model X.prog X.w) X.A (eval e X.env) (EP X z5 σ Q) X.xe s
def PT(X:Cx)(e:Expr)(t:TT):Prop:=
 ∀(z5:List (Addr×Obj)) (s:Shared) (σ:St) (H:Hp) (Q:Bool->Hp->Prop),Inv X z5 σ H s->t σ H Q->wpAny (model X.prog X.w) X.A (isTrue e X.env (eval e X.env)) (TP X z5 σ Q) X.xe s
def PW(X:Cx)(e:Expr)(t:TT):Prop:=
 ∀(zt:Sem Value) (z5:List (Addr×Obj)) (s:Shared) (σ:St) (H:Hp) (Q:Bool->Hp->Prop),Inv X z5 σ H s->t σ H Q->wpAny (model X.prog X.w) X.A (isTrue e X.env zt) (TP X z5 σ Q) X.xe s
theorem PW.pt{X:Cx}{e:Expr}{t:TT}(h:PW X e t):PT X e t:=h _
def PA(X:Cx)(es:List Expr)(t:TA):Prop:=
 ∀(pos:Pos) (z5:List (Addr×Obj)) (s:Shared) (σ:St) (H:Hp) (Q:List V->Hp->Prop),Inv X z5 σ H s->t σ H Q->wpAny (model X.prog X.w) X.A (spliced (backTo pos (starEach es X.env))) (AP X z5 σ Q) X.xe s
def PS(X:Cx)(st:Stmt)(t:TS):Prop:=
 ∀(z5:List (Addr×Obj)) (s:Shared) (σ:St) (H:Hp) (D:Ends),Inv X z5 σ H s->t D σ H->wpAny (model X.prog X.w) X.A (exec st X.env) (SP X z5 D) X.xe s
def PSs(X:Cx)(st:List Stmt)(t:TS):Prop:=
 ∀(z5:List (Addr×Obj)) (s:Shared) (σ:St) (H:Hp) (D:Ends),Inv X z5 σ H s->t D σ H->wpAny (model X.prog X.w) X.A (execs st X.env) (SP X z5 D) X.xe s
theorem thn{α:Type}{t:Sem α}{Q Q':α->Shared->Prop}{M:Model}{A:Around}{E:Value->Shared->Prop}{s:Shared}(h:wpAny M A t Q E s)(hQ:∀a s,Q a s->Q' a s):wpAny M A t Q' E s:=xg h hQ λ_ _ x=>x
section
variable{X:Cx}
def tVar(i:Nat):TE:=λσ H Q=>∃v,σ[i]? =some (some v)/\Q v H
def tC(v:V):TE:=λ_ H Q=>Q v H
theorem qov{i:Nat}{x:Str}{pos:Pos}(hN:X.N[i]? =some x)(hv:Vis X.env.scope x)(hd:(x==("__debug__":Str))=false:=by decide)(hcd:(x==("__classdict__":Str))=false:=by decide):PE X (.Name x pos) (tVar i):=by
 intro z5 s σ H Q I h
 obtain⟨v,e,h⟩:=h
 obtain⟨m,hn,hl⟩:=I.loc
 obtain⟨u,r,l⟩:=hl i x v hN e hv
 have fin:EP X z5 σ Q u s:=⟨v,H,I,r,h⟩
 rcases l with⟨hk,hm⟩|⟨hk,c,hc,hcell⟩
 · exact wpAny_Name (wpAny_loadName_local I.ok.kind hk hn hm fin) hd
 · rcases hk with hk|hk
   · exact wpAny_Name (wpAny_loadName_cell I.ok.kind hk hc hcell fin) hd
   · exact wpAny_Name (wpAny_loadName_free I.ok.kind hk hc hcell fin hcd) hd
theorem q06{i j pos}:PE X (.Constant (.int i) j pos) (tC (.int i)):=λ_ _ _ H _ I h=>wpAny_Constant_int ⟨.int i,H,I.tok _,⟨_,rfl⟩,h⟩
theorem qsh{b j pos}:PE X (.Constant (.bool b) j pos) (tC (.bl b)):=λ_ _ _ H _ I h=>Constant_bool ⟨.bl b,H,I,rfl,h⟩
theorem q91{j pos}:PE X (.Constant .none j pos) (tC .non):=λ_ _ _ H _ I h=>Constant_none ⟨.non,H,I,rfl,h⟩
theorem q2h{x j pos}:PE X (.Constant (.str x) j pos) (tC (.str x)):=λ_ _ _ H _ I h=>Calls.Constant_str ⟨.str x,H,I.tok _,⟨_,rfl⟩,h⟩
def Gl(X:Cx)(x:Str):Prop:=X.env.kindOf x=some .globalImplicit
theorem qag{E:Value->Shared->Prop}{z5:List (Addr×Obj)}{s:Shared}{σ:St}{H:Hp}{x:Str}{u:Value}{pos:Pos}{Q:Value->Shared->Prop}(I:Inv X z5 σ H s)(hg:Gl X x)(hm:X.mg x=some u)(h:Q u s)
   (hd:(x==("__debug__":Str))=false:=by decide):wpAny (model X.prog X.w) X.A (eval (.Name x pos) X.env) Q E s:=
 Calls.Name_function_global I.ok.kind hg (Calls.loadGlobal_global (by rw[I.ok.glob];exact I.mod.glob.keeps I.bk) hm h) hd
theorem q4f{E:Value->Shared->Prop}{z5:List (Addr×Obj)}{s:Shared}{σ:St}{H:Hp}{x:Str}{u:Value}{pos:Pos}{Q:Value->Shared->Prop}(I:Inv X z5 σ H s)(hg:Gl X x)(hm:X.mg x=none)(hv:bootBuiltins x=some u)(h:Q u s)
   (hn:x≠"__name__":=by decide) (hd:(x==("__debug__":Str))=false:=by decide):wpAny (model X.prog X.w) X.A (eval (.Name x pos) X.env) Q E s:=by
 obtain⟨mb,h1,h2⟩:=I.mod.blt
 exact Calls.Name_function_global I.ok.kind hg (Calls.loadGlobal_builtin (by rw[I.ok.glob];exact I.mod.glob.keeps I.bk) hm (by rw[I.ok.blt];exact h1.keeps I.bk) ((h2 x hn).trans hv) h) hd
variable{a b:Expr}{ta tb:TE}{pos:Pos}
def tB(t:TE):TT:=λσ H Q=>t σ H λx H1=>∃c,x=.bl c/\Q c H1
theorem qb9{e:Expr}{t:TE}(h:PE X e t)(he:∀zt,isTrue e X.env zt=(do let v <-zt;standAt e.pos;holding [v] (truthy v)):=by intro _;rfl):PT X e (tB t):=by
 intro z5 s σ H Q I hw
 refine isTrue_plain (thn (h z5 s σ H _ I hw) λv s1 ⟨x,H1,I1,r1,q1⟩=>?_) (he _)
 obtain⟨d,rfl,q⟩:=q1
 cases r1
 exact wpAny_truthy_bool ⟨H1,I1,q⟩
variable{tA tB':TT}{rest:List Expr}
def tAnd(t u:TT):TT:=λσ H Q=>t σ H λc H1=>if c=true then u σ H1 Q else Q false H1
def tOr(t u:TT):TT:=λσ H Q=>t σ H λc H1=>if c=true then Q true H1 else u σ H1 Q
theorem pw_and1(ha:PT X a tA):PW X (.BoolOp .And [a] pos) tA:=by
 intro wh z5 s σ H Q I h
 refine isTrue_and (thn (ha z5 s σ H Q I h) λc s1 e=>?_)
 cases c with
 |true=>exact isTrue_and_nil e
 |false=>exact e
theorem pw_or1(ha:PT X a tA):PW X (.BoolOp .Or [a] pos) tA:=by
 intro wh z5 s σ H Q I h
 refine isTrue_or (thn (ha z5 s σ H Q I h) λc s1 e=>?_)
 cases c with
 |false=>exact isTrue_or_nil e
 |true=>exact e
theorem pw_and(ha:PT X a tA)(hb:PW X (.BoolOp .And (b::rest) pos) tB'):PW X (.BoolOp .And (a::b::rest) pos) (tAnd tA tB'):=by
 intro wh z5 s σ H Q I h
 refine isTrue_and (thn (ha z5 s σ H _ I h) λc s1 ⟨H1,I1,q1⟩=>?_)
 cases c with
 |true=>exact hb wh z5 s1 σ H1 Q I1 q1
 |false=>exact⟨H1,I1,q1⟩
theorem pw_or(ha:PT X a tA)(hb:PW X (.BoolOp .Or (b::rest) pos) tB'):PW X (.BoolOp .Or (a::b::rest) pos) (tOr tA tB'):=by
 intro wh z5 s σ H Q I h
 refine isTrue_or (thn (ha z5 s σ H _ I h) λc s1 ⟨H1,I1,q1⟩=>?_)
 cases c with
 |true=>exact⟨H1,I1,q1⟩
 |false=>exact hb wh z5 s1 σ H1 Q I1 q1
def tIf(t:TT)(ta tb:TE):TE:=λσ H Q=>t σ H λc H1=>if c=true then ta σ H1 Q else tb σ H1 Q
theorem q36{c:Expr}(hc:PT X c tA)(ha:PE X a ta)(hb:PE X b tb):PE X (.IfExp c a b pos) (tIf tA ta tb):=by
 intro z5 s σ H Q I h
 refine wpAny_IfExp (thn (hc z5 s σ H _ I h) λd s1 ⟨H1,I1,q1⟩=>?_)
 cases d with
 |true=>exact ha z5 s1 σ H1 Q I1 q1
 |false=>exact hb z5 s1 σ H1 Q I1 q1
end
def SqL(K:PySem.W.Frag)(H:Hp)(a:Addr)(xs:List V):Prop:=
 Rd H a (.lst xs)∨
   ∃(o:Obj) (its:Array Value) (n:Nat),K.lookup a=some o/\o.cls=.type "list"/\o.dict=none/\o.data=.seq its n/\its.size<=sizeLine/\Vals xs its.toList
def SqT(K:PySem.W.Frag)(H:Hp)(a:Addr)(xs:List V):Prop:=
 Rd H a (.tup xs)∨
   ∃(o:Obj) (its:Array Value) (n:Nat),K.lookup a=some o/\o.cls=.type "tuple"/\o.dict=none/\o.data=.seq its n/\its.size<=sizeLine/\Vals xs its.toList
def absV:Value->Option V
 |.none=>some .non
 |.bool b=>some (.bl b)
 |.int i _=>some (.int i)
 |.str x _=>some (.str x)
 |.bytes b _=>some (.byt b)
 |.float b _=>some (.flt b)
 |.ref a=>some (.ref a)
 |.type n=>some (.ty n)
 |_=>none
theorem RelV.abs{x:V}{u:Value}(r:RelV x u):absV u=some x:=by
 cases x with
 |non=>cases r;rfl
 |bl _=>cases r;rfl
 |int _=>obtain⟨t,rfl⟩:=r;rfl
 |str _=>obtain⟨t,rfl⟩:=r;rfl
 |byt _=>obtain⟨t,rfl⟩:=r;rfl
 |flt _=>obtain⟨t,rfl⟩:=r;rfl
 |ref _=>cases r;rfl
 |ty _=>cases r;rfl
theorem RelV.inj{x y:V}{u:Value}(r:RelV x u)(q:RelV y u):x=y:=je (r.abs.symm.trans q.abs)
theorem Vals.inj:∀{xs ys:List V} {us:List Value},Vals xs us->Vals ys us->xs=ys
 |_,_,_,.nil,.nil=>rfl
 |_,_,_,.cons r t,.cons r' t'=>by rw[r.inj r',Vals.inj t t']
section
variable{X:Cx}{z5:List (Addr×Obj)}{σ:St}{H:Hp}{s:Shared}{a:Addr}{xs ys:List V}
theorem SqL.of{K:PySem.W.Frag}(h:H a=some (.lst xs)):SqL K H a xs:=.inl (.inl h)
theorem SqT.of{K:PySem.W.Frag}(h:H a=some (.tup xs)):SqT K H a xs:=.inl (.inl h)
theorem Inv.list(I:Inv X z5 σ H s)(h:SqL X.K H a xs):∃its:List Value,Vals xs its/\PlainL s.heap a its.toArray/\xs.length<=sizeLine:=by
 rcases h with h|⟨o,its,n,hk,hc,hd,hs,hz,r⟩
 · obtain⟨z,its,n,r,e⟩:=h.ok I.hok
   exact⟨its,r,⟨_,n,e,rfl,rfl,rfl⟩,z⟩
 · refine⟨its.toList,r,⟨o,n,I.kIn a o hk,hc,hd,by simpa using hs⟩,?_⟩
   have e:=r.length
   simp only[Array.length_toList]at e
   omega
theorem Inv.tupN(I:Inv X z5 σ H s)(h:SqT X.K H a xs):∃its:List Value,Vals xs its/\TupN s.heap a its.toArray/\xs.length<=sizeLine:=by
 rcases h with h|⟨o,its,n,hk,hc,hd,hs,hz,r⟩
 · obtain⟨z,its,r,p⟩:=h.ok I.hok
   exact⟨its,r,p,z⟩
 · refine⟨its.toList,r,⟨o,I.kIn a o hk,⟨hc,n,by simpa using hs⟩,hd⟩,?_⟩
   have e:=r.length
   simp only[Array.length_toList]at e
   omega
theorem Inv.tuple(I:Inv X z5 σ H s)(h:SqT X.K H a xs):∃its:List Value,Vals xs its/\IsTup s.heap a its.toArray/\xs.length<=sizeLine:=let ⟨its,r,p,z⟩:=I.tupN h;⟨its,r,p.tup,z⟩
theorem Inv.list_inj(I:Inv X z5 σ H s)(h:SqL X.K H a xs)(h':SqL X.K H a ys):xs=ys:=by
 obtain⟨its,r,⟨o,n,e,_,_,d⟩,_⟩:=I.list h
 obtain⟨its',r',⟨o',n',e',_,_,d'⟩,_⟩:=I.list h'
 rw[e]at e';cases e'
 rw[d]at d'
 injection d' with d1 _
 have:its=its':=by simpa using congrArg Array.toList d1
 subst this
 exact r.inj r'
theorem Inv.tuple_inj(I:Inv X z5 σ H s)(h:SqT X.K H a xs)(h':SqT X.K H a ys):xs=ys:=by
 obtain⟨its,r,⟨o,e,_,n,d⟩,_⟩:=I.tuple h
 obtain⟨its',r',⟨o',e',_,n',d'⟩,_⟩:=I.tuple h'
 rw[e]at e';cases e'
 rw[d]at d'
 injection d' with d1 _
 have:its=its':=by simpa using congrArg Array.toList d1
 subst this
 exact r.inj r'
end
abbrev Cx.wish(X:Cx)(E:Value->Shared->Prop):Cx:={X with xe:=E}
abbrev Cx.nox(X:Cx):Cx:=X.wish λ_ _=>False
theorem Cx.Ok.wish{X:Cx}(ok:X.Ok)(E:Value->Shared->Prop):(X.wish E).Ok:=
 ⟨ok.mod,ok.kind,ok.glob,ok.blt,ok.above,ok.inj,ok.has,ok.cab,ok.hd,ok.frames,ok.stk,ok.exf,ok.bs,ok.bsz,ok.noex,ok.exfs,ok.funs,ok.frf⟩
theorem Cx.Ok.unwish{X:Cx}{E:Value->Shared->Prop}(ok:(X.wish E).Ok):X.Ok:=
 ⟨ok.mod,ok.kind,ok.glob,ok.blt,ok.above,ok.inj,ok.has,ok.cab,ok.hd,ok.frames,ok.stk,ok.exf,ok.bs,ok.bsz,ok.noex,ok.exfs,ok.funs,ok.frf⟩
section
variable{X:Cx}{z5:List (Addr×Obj)}{σ:St}{H:Hp}{s:Shared}{E:Value->Shared->Prop}
theorem Inv.wish(I:Inv X z5 σ H s)(E:Value->Shared->Prop):Inv (X.wish E) z5 σ H s:=⟨I.ok.wish E,I.os,I.bare,I.base,I.loc,I.cell,I.free,I.freeC,I.pin,I.hok,I.len⟩
theorem Inv.unwish(I:Inv (X.wish E) z5 σ H s):Inv X z5 σ H s:=⟨I.ok.unwish,I.os,I.bare,I.base,I.loc,I.cell,I.free,I.freeC,I.pin,I.hok,I.len⟩
theorem SP.unwish{D:Ends}{f:Flow}{s':Shared}(h:SP (X.wish E) z5 D f s'):SP X z5 D f s':=by
 cases f with
 |next=>obtain⟨σ',H',I,q⟩:=h;exact⟨σ',H',I.unwish,q⟩
 |brk=>obtain⟨σ',H',I,q⟩:=h;exact⟨σ',H',I.unwish,q⟩
 |cont=>obtain⟨σ',H',I,q⟩:=h;exact⟨σ',H',I.unwish,q⟩
 |ret u=>obtain⟨v,σ',H',I,r,q⟩:=h;exact⟨v,σ',H',I.unwish,r,q⟩
theorem PSs.nox{st:List Stmt}{t:TS}(h:PSs X.nox st t):PSs X st t:=λz5 s σ H D I hw=>
 xg (h z5 s σ H D (I.wish _) hw) (λ_ _ q=>q.unwish) λ_ _ z=>False.elim z
end
section
variable{X:Cx}{st:Stmt}{rest:List Stmt}{t u:TS}{e:Expr}{te:TE}{pos:Pos}
def qnm:TS:=λD σ H=>D.nx σ H
def tSeq(t u:TS):TS:=λD σ H=>t {D with nx:=u D} σ H
theorem q2d:PSs X [] qnm:=λ_ _ σ H _ I h=>wpAny_execs_nil ⟨σ,H,I,h⟩
theorem q07(h1:PS X st t)(h2:PSs X rest u):PSs X (st::rest) (tSeq t u):=by
 intro z5 s σ H D I h
 refine wpAny_execs_cons (thn (h1 z5 s σ H {D with nx:=u D} I h) λf s1 q=>?_)
 cases f with
 | next=>
   obtain⟨σ',H',I',q⟩:=q
   exact h2 z5 s1 σ' H' D I' q
 |ret v=>exact q
 |brk=>exact q
 |cont=>exact q
theorem q0b(h1:PS X st t):PSs X [st] t:=by
 intro z5 s σ H D I h
 refine wpAny_execs_cons (thn (h1 z5 s σ H D I h) λf s1 q=>?_)
 cases f with
 |next=>exact wpAny_execs_nil q
 |ret v=>exact q
 |brk=>exact q
 |cont=>exact q
theorem Inv.quiet{z5:List (Addr×Obj)}{σ:St}{H:Hp}{s:Shared}(I:Inv X z5 σ H s):interactive X.env=false:=by simp[interactive,I.ok.kind]
def qcc(te:TE):TS:=λD σ H=>te σ H λ_ H1=>D.nx σ H1
theorem q2e(he:PE X e te)(hs:swapsWith e none pos.line X.env=pure false:=by rfl):PS X (.Expr e pos) (qcc te):=by
 intro z5 s σ H D I h
 exact wpAny_Expr_any (thn (he z5 s σ H _ I h) λv s1 ⟨x,H1,I1,r1,q1⟩=>⟨σ,H1,I1,q1⟩) I.quiet hs
def tRet(te:TE):TS:=λD σ H=>te σ H D.rt
theorem q0z(he:PE X e te):PS X (.Return (some e) pos) (tRet te):=by
 intro z5 s σ H D I h
 exact wpAny_Return_some (thn (he z5 s σ H _ I h) λv s1 ⟨x,H1,I1,r1,q1⟩=>⟨x,σ,H1,I1,r1,q1⟩)
def tIfS(c:TT)(t u:TS):TS:=λD σ H=>c σ H λb H1=>if b=true then t D σ H1 else u D σ H1
theorem q48{c:Expr}{a b:List Stmt}{tc:TT}(hc:PT X c tc)(ha:PSs X a t)(hb:PSs X b u):PS X (.If c a b pos) (tIfS tc t u):=by
 intro z5 s σ H D I h
 refine wpAny_If (thn (hc z5 s σ H _ I h) λd s1 ⟨H1,I1,q1⟩=>?_)
 cases d with
 |true=>exact ha z5 s1 σ H1 D I1 q1
 |false=>exact hb z5 s1 σ H1 D I1 q1
def qjl:TS:=λ_ _ _=>False
theorem qba:PS X st qjl:=λ_ _ _ _ _ _ h=>h.elim
end
abbrev TG:=V->St->Hp->(St->Hp->Prop)->Prop
abbrev TGs:=List V->St->Hp->(St->Hp->Prop)->Prop
def PG(X:Cx)(zi:Expr)(t:TG):Prop:=
 ∀(z5:List (Addr×Obj)) (s:Shared) (σ:St) (H:Hp) (v:V) (u:Value) (Q:St->Hp->Prop),Inv X z5 σ H s->RelV v u->t v σ H Q->
   wpAny (model X.prog X.w) X.A (assign zi X.env u) (λ_ s'=>∃σ' H',Inv X z5 σ' H' s'/\Q σ' H') X.xe s
def PGs(X:Cx)(ts:List Expr)(t:TGs):Prop:=
 ∀(z5:List (Addr×Obj)) (s:Shared) (σ:St) (H:Hp) (vs:List V) (us:List Value) (Q:St->Hp->Prop),Inv X z5 σ H s->Vals vs us->t vs σ H Q->
   wpAny (model X.prog X.w) X.A (assignInOrder ((assignEach ts X.env).map (·.2)) us) (λ_ s'=>∃σ' H',Inv X z5 σ' H' s'/\Q σ' H') X.xe s
abbrev TSet:=V->V->V->Hp->(Hp->Prop)->Prop
def PSet(X:Cx)(t:TSet):Prop:=
 ∀(z5:List (Addr×Obj)) (s:Shared) (σ:St) (H:Hp) (o i v:V) (ov iv u:Value) (Q:Hp->Prop),Inv X z5 σ H s->RelV o ov->RelV i iv->RelV v u->t o i v H Q->
   wpAny (model X.prog X.w) X.A (setItem ov iv u) (λ_ s'=>∃H',Inv X z5 σ H' s'/\Q H') X.xe s
section
variable{X:Cx}{pos:Pos}
def q67(i:Nat):TG:=λv σ H Q=>Q (σ.set i (some v)) H
theorem q0s{i:Nat}{x:Str}(hN:X.N.Nodup)(hi:X.N[i]? =some x)(hx:Loc X.env.scope x)(hf:X.fn x=true∨X.env.scope.names.lookup x=some .local:=by first|exact .inl rfl|exact .inr rfl|assumption):PG X (.Name x pos) (q67 i):=by
 intro z5 s σ H v u Q I r h
 exact wpAny_assign_Name (q6b I hN hi hx r (λs' I'=>⟨_,H,I',h⟩) hf)
def gNil:TGs:=λvs σ H Q=>vs=[]/\Q σ H
def qid(t:TG)(u:TGs):TGs:=λvs σ H Q=>∃v r,vs=v::r/\t v σ H λσ' H'=>u r σ' H' Q
theorem q3w:PGs X [] gNil:=by
 intro z5 s σ H vs us Q I r h
 obtain⟨e,h⟩:=h
 subst e
 cases r
 exact assignInOrder_nil ⟨σ,H,I,h⟩
theorem q1p{e:Expr}{es:List Expr}{t:TG}{u:TGs}(h1:PG X e t)(h2:PGs X es u)
   (hs:(assignEach (e::es) X.env).map (·.2)=assign e X.env::(assignEach es X.env).map (·.2):=by rfl):PGs X (e::es) (qid t u):=by
 intro z5 s σ H vs us Q I r h
 obtain⟨v,vr,e1,h⟩:=h
 subst e1
 cases r with
 | cons r rr=>
   rw[hs]
   refine assignInOrder_cons (thn (h1 z5 s σ H _ _ _ I r h) λ_ s1 ⟨σ1,H1,I1,q1⟩=>?_)
   exact h2 z5 s1 σ1 H1 _ _ Q I1 rr q1
def gTup(K:PySem.W.Frag)(n:Nat)(t:TGs):TG:=λv σ H Q=>∃a xs,v=.ref a/\SqT K H a xs/\xs.length=n/\t xs σ H Q
theorem qot{es:List Expr}{k:Nat}{t:TGs}{n:Nat}(hc:X.calm=true)(h:PGs X es t)
   (hn:(assignEach es X.env).length=n:=by rfl) (hst:(assignEach es X.env).findIdx? (·.1)=none:=by rfl):PG X (.Tuple es k pos) (gTup X.K n t):=by
 intro z5 s σ H v u Q I r hw
 obtain⟨a,xs,e1,hq,hl,hw⟩:=hw
 subst e1
 cases r
 obtain⟨its,rv,ht,hz⟩:=I.tuple hq
 refine assign_Tuple_tuple (I.ok.hd hc) ht (by simp[hn,<-hl,rv.length]) hst λh' hx=>?_
 have I1:Inv X z5 σ H {s with heap:=h'}:=I.kept (t':=s.toks) λb o e=>hx b o (jh (j8 e)) e
 exact h z5 _ σ H xs _ Q I1 (by simpa using rv) hw
def gSub(to ti:TE)(t:TSet):TG:=λv σ H Q=>to σ H λo H1=>ti σ H1 λi H2=>t o i v H2 λH3=>Q σ H3
theorem qou{o i:Expr}{to ti:TE}{t:TSet}(ho:PE X o to)(hi:PE X i ti)(hs:PSet X t)
   (ha:∀v,assign (.Subscript o i pos) X.env v=(do
     let ov <-holding [v] (eval o X.env)
     let iv <-holding [v,ov] (eval i X.env)
     standAt pos
     holding [v,ov,iv] (setItem ov iv v)
     release [v,ov,iv] []):=by intro _;rfl):PG X (.Subscript o i pos) (gSub to ti t):=by
 intro z5 s σ H v u Q I r h
 rw[ha]
 refine j5 (xu (thn (ho z5 s σ H _ I h) λov s1 ⟨x,H1,I1,r1,q1⟩=>?_))
 refine j5 (xu (thn (hi z5 s1 σ H1 _ I1 q1) λiv s2 ⟨y,H2,I2,r2,q2⟩=>?_))
 refine j5 (wpAny_standAt (j5 (xu (thn (hs z5 s2 σ H2 x y v ov iv u _ I2 r1 r2 r q2) λ_ s3 ⟨H3,I3,q3⟩=>?_))))
 exact wpAny_release ⟨σ,H3,I3,q3⟩
def tAsg(te:TE)(g:TG):TS:=λD σ H=>te σ H λx H1=>g x σ H1 D.nx
theorem qjr{tg e:Expr}{te:TE}{g:TG}(he:PE X e te)(hg:PG X tg g)(hs:swapsWithSole [tg] e pos.line X.env=pure false:=by rfl)(hw:swappedStores [tg] e X.env=pure none:=by rfl)
   (h1:(assignEach [tg] X.env).map (·.2)=[assign tg X.env]:=by rfl):PS X (.Assign [tg] e pos) (tAsg te g):=by
 intro z5 s σ H D I h
 refine wpAny_Assign_stores (thn (he z5 s σ H _ I h) λv s1 ⟨x,H1,I1,r1,q1⟩=>?_) hs hw
 rw[h1]
 exact thn (hg z5 s1 σ H1 x v _ I1 r1 q1) λ_ s2 q=>q
theorem q0t{i:Nat}{x:Str}{e:Expr}{te:TE}{zw:Pos}(hN:X.N.Nodup)(hi:X.N[i]? =some x)(hx:Loc X.env.scope x)(he:PE X e te)(hs:swapsWith e (some (.Name x zw)) pos.line X.env=pure false:=by rfl)(hf:X.fn x=true∨X.env.scope.names.lookup x=some .local:=by first|exact .inl rfl|exact .inr rfl|assumption):
   PS X (.Assign [.Name x zw] e pos) (tAsg te (q67 i)):=by
 intro z5 s σ H D I h
 refine wpAny_Assign_Name (thn (he z5 s σ H _ I h) λv s1 ⟨y,H1,I1,r1,q1⟩=>?_) hs
 exact q6b I1 hN hi hx r1 (λs2 I2=>⟨_,H1,I2,q1⟩) hf
end
section
variable{X:Cx}{pos:Pos}
def qjk(c:TT)(tb:TS):TS:=λD σ H=>∃W:Nat->St->Hp->Prop,(∃m,W m σ H)/\∀m σ H,W m σ H->
 c σ H λb H1=>if b=true then∃N:St->Hp->Prop,(∀σ' H',N σ' H'->∃m',m'<m/\W m' σ' H')/\tb {D with nx:=N,ct:=N,bk:=D.nx} σ H1 else D.nx σ H1
theorem qhh{c:Expr}{body:List Stmt}{tc:TT}{tb:TS}(hp:PassesOwn (model X.prog X.w) X.A X.env X.xe)(hc:PT X c tc)(hb:PSs X body tb):PS X (.While c body [] pos) (qjk tc tb):=by
 intro z5 s σ H D I h
 obtain⟨W,⟨m0,w0⟩,turn⟩:=h
 refine wpAny_While (codeAny_whileLoop (λn s'=>∃σ' H',Inv X z5 σ' H' s'/\W n σ' H') ?_ m0 ⟨σ,H,I,w0⟩)
 rintro n s1 ⟨σ1,H1,I1,w1⟩
 refine k8 hp (thn (hc z5 s1 σ1 H1 _ I1 (turn n σ1 H1 w1)) λb s2 ⟨H2,I2,q2⟩=>?_)
 cases b with
 | true=>
   obtain⟨N,hN,q2⟩:=q2
   rw[if_pos rfl]
   refine k8 hp (thn (hb z5 s2 σ1 H2 _ I2 q2) λf s3 q3=>?_)
   cases f with
   | next=>
     obtain⟨σ3,H3,I3,n3⟩:=q3
     obtain⟨m',hm,w3⟩:=hN σ3 H3 n3
     exact⟨m',hm,σ3,H3,I3,w3⟩
   | cont=>
     obtain⟨σ3,H3,I3,n3⟩:=q3
     obtain⟨m',hm,w3⟩:=hN σ3 H3 n3
     exact⟨m',hm,σ3,H3,I3,w3⟩
   |brk=>exact q3
   |ret v=>exact q3
 | false=>
   rw[if_neg Bool.false_ne_true]
   exact wpAny_execs_nil ⟨σ1,H2,I2,q2⟩
end
structure It where
 go:Nat->Hp->Prop
 yld:Nat->Hp->V->Hp->Prop
 stop:Nat->Hp->Prop
def FpOk(X:Cx)(z5:List (Addr×Obj))(H:Hp)(b:Addr):Prop:=
 H b=none/\b≠X.env.locals/\b∉X.fs/\(b∈X.ex∨X.s₀.heap.objs.size<=b)/\(∀x c,X.env.cells.lookup x=some c->c≠b)/\∀p∈X.pn++z5,p.1≠b
theorem Inv.fpOk{X:Cx}{z5:List (Addr×Obj)}{σ:St}{H H':Hp}{s:Shared}{b:Addr}(I:Inv X z5 σ H s)(hb:s.heap.objs.size<=b)(hn:H' b=none):FpOk X z5 H' b:=by
 refine⟨hn,Nat.ne_of_gt (jm I.lt hb),I.nofs hb,.inr (jt I.sz hb),λx c e z=>?_,λp hp z=>?_⟩
 · obtain⟨v,q⟩:=I.cell x c e
   exact absurd (jm q.lt (by rw[z];exact hb)) (jy _)
 · exact absurd (jm (j8 (I.pin p hp).1) (by rw[z];exact hb)) (jy _)
structure Turn(P:Program)(w:World)(K:PySem.W.Frag)(tg:Expr)(J:It)(fp:List Addr)(it:Addr)(tn:Nat->Heap->Prop):Prop where
 mem:it∈fp
 obj:∀i h,tn i h->∀b∈fp,∃o,h.get? b=some o/\∀v,o.data≠.cell v
 keep:∀i h h',tn i h->(∀b∈fp,∀o,h.get? b=some o->h'.get? b=some o)->tn i h'
 item:∀(X:Cx),X.prog=P->X.w=w->X.K=K->X.calm=true->∀(i:Nat) (z5:List (Addr×Obj)) (s:Shared) (σ:St) (H:Hp) (E:Value->Shared->Prop),Inv X z5 σ H s->(∀b∈fp,FpOk X z5 H b)->tn i s.heap->J.go i H->
   wpAny (model P w) X.A (pyNext (.ref it)) (λr s1=>∃u,r=some u/\
     wpAny (model P w) X.A (letOwnedTupleGo tg (.ref it) u) (λ_ s2=>∃x H',Inv X z5 σ H' s2/\RelV x u/\J.yld i H x H'/\tn (i+1) s2.heap/\∀b∈fp,H' b=none) E s1) E s
 done:∀(X:Cx),X.prog=P->X.w=w->X.K=K->X.calm=true->∀(i:Nat) (z5:List (Addr×Obj)) (s:Shared) (σ:St) (H:Hp) (E:Value->Shared->Prop),Inv X z5 σ H s->(∀b∈fp,FpOk X z5 H b)->tn i s.heap->J.stop i H->
   wpAny (model P w) X.A (pyNext (.ref it)) (λr s1=>r=none/\Inv X z5 σ H s1) E s
 self:∀(A:Around) (i:Nat) (s:Shared) (Q:Value->Shared->Prop) (E:Value->Shared->Prop),tn i s.heap->Q (.ref it) s->wpAny (model P w) A (pyIter (.ref it)) Q E s
abbrev TI:=St->Hp->(It->Hp->Prop)->Prop
def PIE(X:Cx)(z5:List (Addr×Obj))(σ:St)(tg:Expr)(R:It->Hp->Prop)(itv:Value)(s2:Shared):Prop:=
 ∃(it:Addr) (fp:List Addr) (tn:Nat->Heap->Prop) (J:It) (H':Hp),itv=.ref it/\Inv X z5 σ H' s2/\Turn X.prog X.w X.K tg J fp it tn/\tn 0 s2.heap/\(∀b∈fp,FpOk X z5 H' b)/\R J H'
def PI(X:Cx)(tg ze:Expr)(wi:TI):Prop:=
 ∀(z5:List (Addr×Obj)) (s:Shared) (σ:St) (H:Hp) (R:It->Hp->Prop),Inv X z5 σ H s->wi σ H R->
   wpAny (model X.prog X.w) X.A (eval ze X.env) (λv s1=>wpAny (model X.prog X.w) X.A (pyIter v) (PIE X z5 σ tg R) X.xe s1) X.xe s
theorem qfy{M:Model}{A:Around}{E:Value->Shared->Prop}{s:Shared}{tg:Expr}{it:Addr}{u:Value}{o:Obj}{n:String}{vs:Array Value}{Q:Unit->Shared->Prop}(ho:s.heap.get? it=some o)(hc:o.cls=.type n)(hd:o.data=.fields vs)
   (hn:["enumerate","zip","dict_itemiterator","dict_reverseitemiterator","odict_iterator","itertools.zip_longest","itertools.pairwise"].contains n=false) (hQ:Q () s):wpAny M A (letOwnedTupleGo tg (.ref it) u) Q E s:=by
 unfold letOwnedTupleGo
 cases tg<;>first
   |exact j7 hQ
   |(cases u<;>first
       |exact j7 hQ
       | (refine j5 (wpAny_load ho ?_)
          rw[hc,hd]
          show wpAny M A (if(["enumerate","zip","dict_itemiterator","dict_reverseitemiterator","odict_iterator","itertools.zip_longest","itertools.pairwise"].contains n&&vs[0]? ==some (rawInt _))=true then _ else _) Q E s
          rw[if_neg (by intro h;rw[hn,Bool.false_and]at h;cases h)]
          exact j7 hQ))
def Itl(K:PySem.W.Frag)(a:Addr):It:=
 ⟨λi H=>∃xs x,SqL K H a xs/\xs[i]? =some x,λi H x H'=>H'=H/\∀xs,SqL K H a xs->xs[i]? =some x,λi H=>∃xs,SqL K H a xs/\xs.length<=i⟩
def Itt(K:PySem.W.Frag)(a:Addr):It:=
 ⟨λi H=>∃xs x,SqT K H a xs/\xs[i]? =some x,λi H x H'=>H'=H/\∀xs,SqT K H a xs->xs[i]? =some x,λi H=>∃xs,SqT K H a xs/\xs.length<=i⟩
def Itr(lo:Int)(n:Nat):It:=⟨λi _=>i<n,λi H x H'=>H'=H/\x=.int (lo+i),λi _=>n<=i⟩
theorem qe7{P:Program}{w:World}{K:PySem.W.Frag}{tg:Expr}(a it:Addr):Turn P w K tg (Itl K a) [it] it (λi h=>h.IsListIter it a i) where
 mem:=by simp
 obj:=λi h st b hb=>by
   have e:b=it:=by simpa using hb
   subst e
   obtain⟨o,e,c,d⟩:=st
   exact⟨o,e,λv z=>by rw[d]at z;cases z⟩
 keep:=λi h h' st k=>st.at λo e=>k it (by simp) o e
 item:=by
   intro X hP hw hK hc i z5 s σ H E I hf st hg
   subst hP hw hK
   obtain⟨xs,x,hq,hx⟩:=hg
   obtain⟨its,rv,p,hz⟩:=I.list hq
   obtain⟨u,hu,ru⟩:=rv.get hx
   obtain⟨f0,f1,f2,f3,f4,f5⟩:=hf it (by simp)
   refine wpAny_pyNext_list_item st p.isList (x:=u) (by simpa using hu) λh' st' sb=>?_
   have I1:Inv X z5 σ H {s with heap:=h'}:=I.turned (t':=s.toks) (λb o hb e=>(sb.2 b hb).trans e) f0 f1 f3 f4 f5
   obtain⟨o,e,c,d⟩:=id st'
   exact⟨u,rfl,qfy (s:={s with heap:=h'}) e c d (by decide) ⟨x,H,I1,ru,⟨rfl,λys hy=>by rw[I.list_inj hy hq];exact hx⟩,st',λb hb=>(hf b hb).1⟩⟩
 done:=by
   intro X hP hw hK hc i z5 s σ H E I hf st hg
   subst hP hw hK
   obtain⟨xs,hq,hx⟩:=hg
   obtain⟨its,rv,p,hz⟩:=I.list hq
   obtain⟨f0,f1,f2,f3,f4,f5⟩:=hf it (by simp)
   have hl:=rv.length
   exact wpAny_pyNext_list_end (I.ok.hd hc) st p.isList (by simp;omega) λh' eb=>⟨rfl,I.turned (t':=s.toks) (λb o hb e=>eb b o hb e) f0 f1 f3 f4 f5⟩
 self:=λ_ _ _ _ _ st h=>wpAny_pyIter_listiter st h
theorem qc8{P:Program}{w:World}{K:PySem.W.Frag}{tg:Expr}(a it:Addr):Turn P w K tg (Itt K a) [it] it (λi h=>h.IsTupleIter it a i) where
 mem:=by simp
 obj:=λi h st b hb=>by
   have e:b=it:=by simpa using hb
   subst e
   obtain⟨o,e,c,d⟩:=st
   exact⟨o,e,λv z=>by rw[d]at z;cases z⟩
 keep:=λi h h' st k=>st.at λo e=>k it (by simp) o e
 item:=by
   intro X hP hw hK hc i z5 s σ H E I hf st hg
   subst hP hw hK
   obtain⟨xs,x,hq,hx⟩:=hg
   obtain⟨its,rv,p,hz⟩:=I.tuple hq
   obtain⟨u,hu,ru⟩:=rv.get hx
   obtain⟨f0,f1,f2,f3,f4,f5⟩:=hf it (by simp)
   refine wpAny_pyNext_tuple_item st (show s.heap.IsTuple a its.toArray from p) (x:=u) (by simpa using hu) λh' st' sb=>?_
   have I1:Inv X z5 σ H {s with heap:=h'}:=I.turned (t':=s.toks) (λb o hb e=>(sb.2 b hb).trans e) f0 f1 f3 f4 f5
   obtain⟨o,e,c,d⟩:=id st'
   exact⟨u,rfl,qfy (s:={s with heap:=h'}) e c d (by decide) ⟨x,H,I1,ru,⟨rfl,λys hy=>by rw[I.tuple_inj hy hq];exact hx⟩,st',λb hb=>(hf b hb).1⟩⟩
 done:=by
   intro X hP hw hK hc i z5 s σ H E I hf st hg
   subst hP hw hK
   obtain⟨xs,hq,hx⟩:=hg
   obtain⟨its,rv,p,hz⟩:=I.tuple hq
   obtain⟨f0,f1,f2,f3,f4,f5⟩:=hf it (by simp)
   have hl:=rv.length
   exact wpAny_pyNext_tuple_end (I.ok.hd hc) st (show s.heap.IsTuple a its.toArray from p) (by simp;omega) λh' eb=>⟨rfl,I.turned (t':=s.toks) (λb o hb e=>eb b o hb e) f0 f1 f3 f4 f5⟩
 self:=λ_ _ _ _ _ st h=>wpAny_pyIter_tupleiter st h
theorem qc9{P:Program}{w:World}{K:PySem.W.Frag}{tg:Expr}(it:Addr)(lo:Int)(n:Nat):Turn P w K tg (Itr lo n) [it] it (λi h=>IsRangeIter h it (lo+(i:Nat)*1) ((n:Int)-(i:Nat)) 1) where
 mem:=by simp
 obj:=λi h st b hb=>by
   have e:b=it:=by simpa using hb
   subst e
   exact⟨_,st,λv z=>by
     have z':Data.fields _=Data.cell v:=z
     cases z'⟩
 keep:=λi h h' st k=>k it (by simp) _ st
 item:=by
   intro X hP hw hK hc i z5 s σ H E I hf st hg
   subst hP hw hK
   obtain⟨f0,f1,f2,f3,f4,f5⟩:=hf it (by simp)
   have W:=Walks.range (prog:=X.prog) (w:=X.w) (I.ok.hd hc) it lo 1 n
   refine W.item i s _ _ hg st λv h' tk hv st' kk=>?_
   obtain⟨t,rfl⟩:=hv
   have I1:Inv X z5 σ H {s with heap:=h',toks:=tk}:=I.turned (λb o hb e=>kk b o (by simpa using hb) e) f0 f1 f3 f4 f5
   refine⟨_,rfl,qfy (s:={s with heap:=h',toks:=tk}) (n:="range_iterator") st' rfl rfl (by decide) ⟨.int (lo+i),H,I1,⟨t,?_⟩,⟨rfl,rfl⟩,st',λb hb=>(hf b hb).1⟩⟩
   rw[Int.mul_one]
 done:=by
   intro X hP hw hK hc i z5 s σ H E I hf st hg
   subst hP hw hK
   obtain⟨f0,f1,f2,f3,f4,f5⟩:=hf it (by simp)
   exact wpAny_pyNext_range_end (I.ok.hd hc) st (by have:n<=i:=hg;omega) λh' eb=>⟨rfl,I.turned (t':=s.toks) (λb o hb e=>eb b o hb e) f0 f1 f3 f4 f5⟩
 self:=λ_ _ _ _ _ st h=>wpAny_pyIter_rangeiter st h
section
variable{X:Cx}{tg:Expr}
def qm4(K:PySem.W.Frag)(tl:TE):TI:=λσ H R=>tl σ H λx H1=>∃a,x=.ref a/\(∃xs,SqL K H1 a xs)/\R (Itl K a) H1
def iTup(K:PySem.W.Frag)(tl:TE):TI:=λσ H R=>tl σ H λx H1=>∃a,x=.ref a/\(∃xs,SqT K H1 a xs)/\R (Itt K a) H1
theorem ql0{l:Expr}{tl:TE}(hl:PE X l tl):PI X tg l (qm4 X.K tl):=by
 intro z5 s σ H R I h
 refine thn (hl z5 s σ H _ I h) λv s1 ⟨x,H1,I1,r1,q1⟩=>?_
 obtain⟨a,e,⟨xs,hq⟩,q⟩:=q1
 subst e
 cases r1
 obtain⟨its,rv,p,hz⟩:=I1.list hq
 refine wpAny_pyIter_list p.isList ?_
 refine⟨s1.heap.objs.size,[s1.heap.objs.size],_,_,H1,rfl,I1.kept (t':=s1.toks) λb o e=>j9 _ e,qe7 a _,⟨_,jl _ rfl,rfl,rfl⟩,λb hb=>?_,q⟩
 have e:b=s1.heap.objs.size:=by simpa using hb
 subst e
 exact I1.fpOk (ja _) (I1.hok.fresh (ja _))
theorem qor{l:Expr}{tl:TE}(hl:PE X l tl):PI X tg l (iTup X.K tl):=by
 intro z5 s σ H R I h
 refine thn (hl z5 s σ H _ I h) λv s1 ⟨x,H1,I1,r1,q1⟩=>?_
 obtain⟨a,e,⟨xs,hq⟩,q⟩:=q1
 subst e
 cases r1
 obtain⟨its,rv,p,hz⟩:=I1.tuple hq
 refine wpAny_pyIter_tuple (show s1.heap.IsTuple a its.toArray from p) ?_
 refine⟨s1.heap.objs.size,[s1.heap.objs.size],_,_,H1,rfl,I1.kept (t':=s1.toks) λb o e=>j9 _ e,qc8 a _,⟨_,jl _ rfl,rfl,rfl⟩,λb hb=>?_,q⟩
 have e:b=s1.heap.objs.size:=by simpa using hb
 subst e
 exact I1.fpOk (ja _) (I1.hok.fresh (ja _))
theorem qhf{z5:List (Addr×Obj)}{σ:St}{H:Hp}{s:Shared}{R:It->Hp->Prop}{E:Value->Shared->Prop}{lo hi:Int}{t u v:Tok}{tk:Nat}(I:Inv X z5 σ H s)(h1: -(2^62)<=lo)(h2:lo<2^62)(h3: -(2^62)<=hi)(h4:hi<2^62)
   (q:R (Itr lo (hi-lo).toNat) H):wpAny (model X.prog X.w) X.A (pyIter (.ref s.heap.objs.size)) (PIE X z5 σ tg R) E {s with heap:=s.heap.push {cls:=.type "range",data:=.fields #[.int lo t,.int hi u,.int 1 v]},toks:=tk}:=by
 refine wpAny_pyIter_range (IsRange.new ..) (small_one h1 h2 h3 h4) ?_
 have I1:Inv X z5 σ H {s with heap:=s.heap.push {cls:=.type "range",data:=.fields #[.int lo t,.int hi u,.int 1 v]},toks:=tk}:=I.kept λb o e=>j9 _ e
 refine⟨(s.heap.push {cls:=.type "range",data:=.fields #[.int lo t,.int hi u,.int 1 v]}).objs.size,[(s.heap.push {cls:=.type "range",data:=.fields #[.int lo t,.int hi u,.int 1 v]}).objs.size],_,_,H,rfl,
   I1.kept (t':=tk) λb o e=>j9 _ e,qc9 _ lo (hi-lo).toNat,?_,λb hb=>?_,q⟩
 · have e1:lo+((0:Nat):Int)*1=lo:=by simp
   have e2:(((hi-lo).toNat:Nat):Int)-((0:Nat):Int)=Builtin.Range.rangeSize lo hi 1:=by rw[rangeSize_one];split<;>omega
   show IsRangeIter _ _ (lo+((0:Nat):Int)*1) ((((hi-lo).toNat:Nat):Int)-((0:Nat):Int)) 1
   rw[e1,e2]
   exact jl _ rfl
 · have e:b=(s.heap.push {cls:=.type "range",data:=.fields #[.int lo t,.int hi u,.int 1 v]}).objs.size:=by simpa using hb
   subst e
   exact I1.fpOk (ja _) (I1.hok.fresh (ja _))
def qr4(ta:TA):TI:=λσ H R=>ta σ H λvs H1=>∃j:Int,vs=[.int j]/\ -(2^62)<=j/\j<2^62/\R (Itr 0 j.toNat) H1
theorem q2g{a:Expr}{ta:TA}{p pos:Pos}(hg:Gl X "range")(hm:X.mg "range"=none)(ha:PA X [a] ta)(hs:starEach [a] X.env=[(false,eval a X.env)]:=by rfl):PI X tg (.Call (.Name "range" p) [a] [] pos) (qr4 ta):=by
 intro z5 s σ H R I h
 refine Call_ (q4f I hg hm boot_range (PyProof.Rows.callWith_type1 (thn (ha pos z5 s σ H _ I h) λus s1 ⟨vs,H1,I1,r1,q1⟩=>?_) hs rfl))
 obtain⟨j,e,q1,q2,q⟩:=q1
 subst e
 cases r1 with
 | cons r rr=>
   cases rr
   obtain⟨t,rfl⟩:=r
   exact call_range_1 (qhf I1 (by omega) (by omega) q1 q2 (by simpa using q))
def tFor(wi:TI)(g:TG)(tb:TS):TS:=λD σ H=>wi σ H λJ H1=>∃W:Nat->Nat->St->Hp->Prop,(∃m,W 0 m σ H1)/\∀i m σ H,W i m σ H->
 (J.stop i H/\D.nx σ H)∨(J.go i H/\∃N:St->Hp->Prop,(∀σ' H',N σ' H'->∃m',m'<m/\W (i+1) m' σ' H')/\∀x H',J.yld i H x H'->g x σ H' λσ2 H2=>tb {D with nx:=N,ct:=N,bk:=D.nx} σ2 H2)
def q7m(fp:List Addr)(h:Heap):List (Addr×Obj):=fp.filterMap λb=>(h.get? b).map λo=>(b,o)
theorem q39{fp:List Addr}{h:Heap}{b:Addr}{o:Obj}(hb:b∈fp)(e:h.get? b=some o):(b,o)∈q7m fp h:=List.mem_filterMap.mpr ⟨b,hb,by rw[e];rfl⟩
theorem qfa{fp:List Addr}{h:Heap}{p:Addr×Obj}(hp:p∈q7m fp h):p.1∈fp/\h.get? p.1=some p.2:=by
 obtain⟨b,hb,e⟩:=List.mem_filterMap.mp hp
 cases q:h.get? b with
 |none=>rw[q]at e;cases e
 | some o=>
   rw[q]at e
   have e':(b,o)=p:=je e
   subst e'
   exact⟨hb,q⟩
theorem Inv.pinned{z5:List (Addr×Obj)}{σ:St}{H:Hp}{s:Shared}{fp:List Addr}(I:Inv X z5 σ H s)(hf:∀b∈fp,FpOk X z5 H b)(ho:∀b∈fp,∃o,s.heap.get? b=some o/\∀v,o.data≠.cell v):Inv X (z5++q7m fp s.heap) σ H s:=
 I.pins_of λp hp=>(List.mem_append.mp hp).elim (λz=>I.pin p (jo _ z)) λz=>by
   obtain⟨hb,e⟩:=qfa z
   obtain⟨f0,f1,f2,_⟩:=hf p.1 hb
   obtain⟨o,e',d⟩:=ho p.1 hb
   rw[e]at e';cases e'
   exact⟨e,f0,f1,f2,d⟩
theorem Inv.unpinned{z5 pl:List (Addr×Obj)}{σ:St}{H:Hp}{s:Shared}(I:Inv X (z5++pl) σ H s):Inv X z5 σ H s:=I.pins_of λp hp=>I.pin p (jo _ (List.mem_append_left _ hp))
theorem q3a{ze:Expr}{body:List Stmt}{wi:TI}{g:TG}{tb:TS}{pos:Pos}(hp:PassesOwn (model X.prog X.w) X.A X.env X.xe)(hc:X.calm=true)(hi:PI X tg ze wi)(hg:PG X tg g)(hb:PSs X body tb)
   (hs:∀x,foldedSetIterable ze X.env x=pure x:=by intro _;rfl):PS X (.For tg ze body [] pos) (tFor wi g tb):=by
 intro z5 s σ H D I h
 refine wpAny_For (thn (hi z5 s σ H _ I h) λv s1 h1=>thn h1 λitv s2 h2=>?_) hs
 obtain⟨it,fp,tn,J,H2,e,I2,T,st2,f2,W,⟨m0,w0⟩,turn⟩:=h2
 subst e
 -- what stays true of the iterator's objects through the loop
 have stat:∀{H':Hp},(∀b∈fp,H' b=none)->∀b∈fp,FpOk X z5 H' b:=λhn b hb=>⟨hn b hb,(f2 b hb).2⟩
 refine codeAny_forLoop_any (λn s'=>∃i σ' H',Inv X z5 σ' H' s'/\tn i s'.heap/\(∀b∈fp,H' b=none)/\W i n σ' H') ?_ m0 ⟨0,σ,H2,I2,st2,λb hb=>(f2 b hb).1,w0⟩
 rintro n s3 ⟨i,σ3,H3,I3,st3,fr3,w3⟩
 rcases turn i n σ3 H3 w3 with⟨stop,qn⟩|⟨go,N,hN,step⟩
 · refine k8 hp (thn (T.done X rfl rfl rfl hc i z5 s3 σ3 H3 X.xe I3 (stat fr3) st3 stop) λr s4 ⟨hr,I4⟩=>?_)
   subst hr
   exact wpAny_execs_nil ⟨σ3,H3,I4,qn⟩
 · refine k8 hp (thn (T.item X rfl rfl rfl hc i z5 s3 σ3 H3 X.xe I3 (stat fr3) st3 go) λr s4 ⟨u,hr,h4⟩=>?_)
   subst hr
   refine k8 hp (thn h4 λ_ s5 ⟨x,H5,I5,r5,y5,st5,fr5⟩=>?_)
   have I5':=I5.pinned (stat fr5) (T.obj _ _ st5)
   refine k8 hp (thn (hg _ s5 σ3 H5 x u _ I5' r5 (step x H5 y5)) λ_ s6 ⟨σ6,H6,I6,q6⟩=>?_)
   refine k8 hp (thn (hb _ s6 σ6 H6 _ I6 q6) λf s7 q7=>?_)
   have again:∀{σ7:St} {H7:Hp},Inv X (z5++q7m fp s5.heap) σ7 H7 s7->N σ7 H7->∃m,m<n/\∃i σ' H',Inv X z5 σ' H' s7/\tn i s7.heap/\(∀b∈fp,H' b=none)/\W i m σ' H':=λ{σ7 H7} I7 n7=>by
     obtain⟨m',hm,w7⟩:=hN σ7 H7 n7
     refine⟨m',hm,i+1,σ7,H7,I7.unpinned,T.keep _ _ _ st5 λb hb o e=>(I7.pin (b,o) (jo _ (jo _ (q39 hb e)))).1,λb hb=>?_,w7⟩
     obtain⟨o,e,d⟩:=T.obj _ _ st5 b hb
     exact(I7.pin (b,o) (jo _ (jo _ (q39 hb e)))).2.1
   cases f with
   |next=>obtain⟨σ7,H7,I7,n7⟩:=q7;exact again I7 n7
   |cont=>obtain⟨σ7,H7,I7,n7⟩:=q7;exact again I7 n7
   |brk=>obtain⟨σ7,H7,I7,q7⟩:=q7;exact⟨σ7,H7,I7.unpinned,q7⟩
   |ret v=>obtain⟨x7,σ7,H7,I7,r7,q7⟩:=q7;exact⟨x7,σ7,H7,I7.unpinned,r7,q7⟩
end
abbrev R2:=V->V->Hp->VK->Prop
def OpR(X:Cx)(f:Value->Value->Sem Value)(r:R2):Prop:=
 ∀(z5:List (Addr×Obj)) (s:Shared) (σ:St) (H:Hp) (x y:V) (v u:Value) (Q:VK),Inv X z5 σ H s->RelV x v->RelV y u->r x y H Q->
   wpAny (model X.prog X.w) X.A (f v u) (EP X z5 σ Q) X.xe s
def UnR(X:Cx)(f:Value->Sem Value)(r:V->Hp->VK->Prop):Prop:=
 ∀(z5:List (Addr×Obj)) (s:Shared) (σ:St) (H:Hp) (x:V) (v:Value) (Q:VK),Inv X z5 σ H s->RelV x v->r x H Q->
   wpAny (model X.prog X.w) X.A (f v) (EP X z5 σ Q) X.xe s
def q68(X:Cx)(f:Value)(r:List V->Hp->VK->Prop):Prop:=
 ∀(z5:List (Addr×Obj)) (s:Shared) (σ:St) (H:Hp) (xs:List V) (us:List Value) (Q:VK),Inv X z5 σ H s->Vals xs us->r xs H Q->
   wpAny (model X.prog X.w) X.A (call f us) (EP X z5 σ Q) X.xe s
def tOp(r:R2)(ta tb:TE):TE:=λσ H Q=>ta σ H λx H1=>tb σ H1 λy H2=>r x y H2 Q
def tUn(r:V->Hp->VK->Prop)(ta:TE):TE:=λσ H Q=>ta σ H λx H1=>r x H1 Q
def rI(C:Int->Int->Prop)(g:Int->Int->V):R2:=λx y H Q=>∃i j,x=.int i/\y=.int j/\C i j/\Q (g i j) H
def rI0(g:Int->Int->V):R2:=λx y H Q=>∃i j,x=.int i/\y=.int j/\Q (g i j) H
def rU(g:Int->V):V->Hp->VK->Prop:=λx H Q=>∃i,x=.int i/\Q (g i) H
section
variable{X:Cx}{a b c:Expr}{ta tb tc:TE}{pos:Pos}
theorem binT(ha:PE X a ta)(hb:PE X b tb){z5:List (Addr×Obj)}{s:Shared}{σ:St}{H:Hp}{R:V->V->Hp->Prop}(I:Inv X z5 σ H s)
   (h:ta σ H λx H1=>tb σ H1 λy H2=>R x y H2) {Q:Value->Shared->Prop} {f:Value->Value->Sem Value}
   (hf:∀v u s2 x y H2,Inv X z5 σ H2 s2->RelV x v->RelV y u->R x y H2->wpAny (model X.prog X.w) X.A (f v u) Q X.xe s2):
   wpAny (model X.prog X.w) X.A (eval a X.env) (λv s₁=>wpAny (model X.prog X.w) X.A (eval b X.env) (λu s₂=>wpAny (model X.prog X.w) X.A (f v u) Q X.xe s₂) X.xe s₁) X.xe s:=by
 refine thn (ha z5 s σ H _ I h) λv s1 ⟨x,H1,I1,r1,q1⟩=>?_
 refine thn (hb z5 s1 σ H1 _ I1 q1) λu s2 ⟨y,H2,I2,r2,q2⟩=>?_
 exact hf v u s2 x y H2 I2 r1 r2 q2
theorem q0x{op:Operator}{r:R2}(ho:OpR X (binaryOp op) r)(ha:PE X a ta)(hb:PE X b tb):PE X (.BinOp a op b pos) (tOp r ta tb):=by
 intro z5 s σ H Q I h
 exact wpAny_BinOp (binT ha hb I h λv u s2 x y H2 I2 rx ry q=>ho z5 s2 σ H2 x y v u Q I2 rx ry q)
theorem qow{op:UnaryOp}{r:V->Hp->VK->Prop}(ho:UnR X (unaryOp op) r)(ha:PE X a ta):PE X (.UnaryOp op a pos) (tUn r ta):=by
 intro z5 s σ H Q I h
 exact UnaryOp_ (thn (ha z5 s σ H _ I h) λv s1 ⟨x,H1,I1,r1,q1⟩=>ho z5 s1 σ H1 x v Q I1 r1 q1)
theorem opI{f:Value->Value->Sem Value}{C:Int->Int->Prop}{g:Int->Int->Int}
   (rule:∀(i j:Int) (t u:Tok) (s:Shared) (Q:Value->Shared->Prop) (E:Value->Shared->Prop),C i j->Q (.int (g i j) s.toks) {s with toks:=s.toks+1}->wpAny (model X.prog X.w) X.A (f (.int i t) (.int j u)) Q E s):
   OpR X f (rI C λi j=>.int (g i j)):=by
 intro z5 s σ H x y v u Q I rx ry h
 obtain⟨i,j,rfl,rfl,hc,q⟩:=h
 obtain⟨t,rfl⟩:=rx
 obtain⟨t',rfl⟩:=ry
 exact rule i j t t' s _ _ hc ⟨.int (g i j),H,I.tok _,⟨_,rfl⟩,q⟩
theorem opI0{f:Value->Value->Sem Value}{g:Int->Int->Int}
   (rule:∀(i j:Int) (t u:Tok) (s:Shared) (Q:Value->Shared->Prop) (E:Value->Shared->Prop),Q (.int (g i j) s.toks) {s with toks:=s.toks+1}->wpAny (model X.prog X.w) X.A (f (.int i t) (.int j u)) Q E s):
   OpR X f (rI0 λi j=>.int (g i j)):=by
 intro z5 s σ H x y v u Q I rx ry h
 obtain⟨i,j,rfl,rfl,q⟩:=h
 obtain⟨t,rfl⟩:=rx
 obtain⟨t',rfl⟩:=ry
 exact rule i j t t' s _ _ ⟨.int (g i j),H,I.tok _,⟨_,rfl⟩,q⟩
theorem opB0{f:Value->Value->Sem Value}{g:Int->Int->Bool}
   (rule:∀(i j:Int) (t u:Tok) (s:Shared) (Q:Value->Shared->Prop) (E:Value->Shared->Prop),Q (.bool (g i j)) s->wpAny (model X.prog X.w) X.A (f (.int i t) (.int j u)) Q E s):
   OpR X f (rI0 λi j=>.bl (g i j)):=by
 intro z5 s σ H x y v u Q I rx ry h
 obtain⟨i,j,rfl,rfl,q⟩:=h
 obtain⟨t,rfl⟩:=rx
 obtain⟨t',rfl⟩:=ry
 exact rule i j t t' s _ _ ⟨.bl (g i j),H,I,rfl,q⟩
def CDiv(i j:Int):Prop:=0<j/\j<1073741824
def CPow(i j:Int):Prop:=0<=j/\j<=1000000/\i.natAbs<2^64
def CMul(i j:Int):Prop:=(-(2^64)<i/\i<2^64)∨(-(2^64)<j/\j<2^64)
theorem CMul.ok{i j:Int}(h:CMul i j):IntMulOk i j:=by
 rcases h with⟨h1,h2⟩|⟨h1,h2⟩
 · exact .of_left (intBits_le_64 h1 h2)
 · exact .of_right (intBits_le_64 h1 h2)
theorem qc7(k:Nat):(0:Int)<=2^k:=by
 rw[two_pow_cast]
 exact Int.natCast_nonneg _
theorem op_add:OpR X (binaryOp .Add) (rI0 λi j=>.int (i+j)):=opI0 λ_ _ _ _ _ _ _ q=>add_int q
theorem q4r:OpR X (binaryOp .Sub) (rI0 λi j=>.int (i-j)):=opI0 λ_ _ _ _ _ _ _ q=>sub_int q
theorem qf6:OpR X (binaryOp .FloorDiv) (rI CDiv λi j=>.int (i / j)):=opI λi j _ _ _ _ _ hc q=>by
 have h1:(0:Int)<j:=hc.1
 have h2:j<1073741824:=hc.2
 exact floordiv_int (by omega) (by rw[Int.fdiv_eq_ediv_of_nonneg i (by omega)];exact q) (.inl (PyProof.noPylong_small (by omega)))
theorem q2a:OpR X (binaryOp .Mod) (rI (λ_ j=>0<j) λi j=>.int (i % j)):=opI λi j _ _ _ _ _ hc q=>by
 have h1:(0:Int)<j:=hc
 exact mod_int' (by omega) (by rw[Int.fmod_eq_emod_of_nonneg i (by omega)];exact q)
theorem qjw:OpR X (binaryOp .Pow) (rI CPow λi j=>.int (i^j.toNat)):=opI λ_ _ _ _ _ _ _ hc q=>pow_int_small hc.1 hc.2.1 hc.2.2 q
theorem qf2:OpR X (binaryOp .LShift) (rI CPow λi j=>.int (i*2^j.toNat)):=opI λ_ _ _ _ _ _ _ hc q=>lshift_int_small hc.1 hc.2.1 hc.2.2 q
theorem qjv:OpR X (binaryOp .RShift) (rI (λ_ j=>0<=j) λi j=>.int (i / 2^j.toNat)):=opI λi j _ _ _ _ _ hc q=>
 rshift_int hc (by rw[Int.fdiv_eq_ediv_of_nonneg i (qc7 _)];exact q)
theorem q95:OpR X (binaryOp .BitAnd) (rI0 λi j=>.int (Builtin.bitAnd i j)):=opI0 λ_ _ _ _ _ _ _ q=>and_int q
theorem qju:OpR X (binaryOp .BitXor) (rI0 λi j=>.int (Builtin.bitXor i j)):=opI0 λ_ _ _ _ _ _ _ q=>xor_int q
theorem unI{f:Value->Sem Value}{g:Int->Int}
   (rule:∀(i:Int) (t:Tok) (s:Shared) (Q:Value->Shared->Prop) (E:Value->Shared->Prop),Q (.int (g i) s.toks) {s with toks:=s.toks+1}->wpAny (model X.prog X.w) X.A (f (.int i t)) Q E s):
   UnR X f (rU λi=>.int (g i)):=by
 intro z5 s σ H x v Q I rx h
 obtain⟨i,rfl,q⟩:=h
 obtain⟨t,rfl⟩:=rx
 exact rule i t s _ _ ⟨.int (g i),H,I.tok _,⟨_,rfl⟩,q⟩
theorem qji:UnR X (unaryOp .USub) (rU λi=>.int (-i)):=unI λ_ _ _ _ _ q=>neg_int q
end
section
variable{X:Cx}{a b c:Expr}{ta tb tc:TE}{pos:Pos}
theorem qkh{z5:List (Addr×Obj)}{σ:St}{H:Hp}{s:Shared}{Q:VK}{k k':Bool}(I:Inv X z5 σ H s)(q:Q (.bl k) H)(e:k=k'):EP X z5 σ Q (.bool k') s:=by
 subst e
 exact⟨.bl k,H,I,rfl,q⟩
theorem qf5:OpR X (compareOp .Lt) (rI0 λi j=>.bl (decide (i<j))):=opB0 λ_ _ _ _ _ _ _ q=>lt_int q
theorem qsm:OpR X (compareOp .Gt) (rI0 λi j=>.bl (decide (j<i))):=opB0 λ_ _ _ _ _ _ _ q=>gt_int q
theorem qp3:OpR X (compareOp .Is) (λx y H Q=>y=.non/\Q (.bl (decide (x=.non))) H):=by
 intro z5 s σ H x y v u Q I rx ry h
 obtain⟨rfl,q⟩:=h
 cases ry
 refine is_none_gen (qkh I q ?_)
 cases x<;>first
   |(cases rx;rfl)
   |(obtain⟨t,rfl⟩:=rx;rfl)
theorem qle:OpR X (compareOp .IsNot) (λx y H Q=>y=.non/\Q (.bl (!decide (x=.non))) H):=by
 intro z5 s σ H x y v u Q I rx ry h
 obtain⟨rfl,q⟩:=h
 cases ry
 refine isnot_none_gen (qkh I q ?_)
 cases x<;>first
   |(cases rx;rfl)
   |(obtain⟨t,rfl⟩:=rx;rfl)
theorem OpR.or{f:Value->Value->Sem Value}{r r':R2}(h:OpR X f r)(h':OpR X f r'):OpR X f (λx y H Q=>r x y H Q∨r' x y H Q):=by
 intro z5 s σ H x y v u Q I rx ry q
 rcases q with q|q
 · exact h z5 s σ H x y v u Q I rx ry q
 · exact h' z5 s σ H x y v u Q I rx ry q
theorem q1k(b:Expr){op:CmpOp}(h:op≠.In:=by decide)(h2:op≠.NotIn:=by decide):behindInMarks op b=false:=by
 have e1:(op==CmpOp.In)=false:=by cases op<;>first|rfl|exact absurd rfl h
 have e2:(op==CmpOp.NotIn)=false:=by cases op<;>first|rfl|exact absurd rfl h2
 cases b<;>simp[behindInMarks,e1,e2]
theorem qeu{op:CmpOp}{r:R2}(ho:OpR X (compareOp op) r)(ha:PE X a ta)(hb:PE X b tb)(hm:behindInMarks op b=false):PE X (.Compare a [op] [b] pos) (tOp r ta tb):=by
 intro z5 s σ H Q I h
 exact wpAny_Compare1 (binT ha hb I h λv u s2 x y H2 I2 rx ry q=>ho z5 s2 σ H2 x y v u Q I2 rx ry q) hm
def qnk(t:TE):TT:=λσ H Q=>t σ H λx H'=>∃k,x=.bl k/\Q k H'
theorem q18{op:CmpOp}{r:R2}(ho:OpR X (compareOp op) r)(ha:PE X a ta)(hb:PE X b tb)(hm:behindInMarks op b=false):PT X (.Compare a [op] [b] pos) (qnk (tOp r ta tb)):=by
 intro z5 s σ H Q I h
 refine wpAny_isTrue_Compare1 (thn (ha z5 s σ H _ I h) λv s1 ⟨x,H1,I1,r1,q1⟩=>thn (hb z5 s1 σ H1 _ I1 q1) λu s2 ⟨y,H2,I2,r2,q2⟩=>
   thn (ho z5 s2 σ H2 x y v u _ I2 r1 r2 q2) λc s3 ⟨z,H3,I3,r3,k,e,q3⟩=>?_) hm
 subst e
 cases r3
 exact wpAny_truthy_bool ⟨H3,I3,q3⟩
theorem qbs:(sizeLine:Nat)<2^63:=by rw[sizeLine_eq];decide
theorem qda:OpR X (binaryOp .Add) (λx y H Q=>∃i j,x=.str i/\y=.str j/\i.length+j.length<=sizeLine/\Q (.str (i++j)) H):=by
 intro z5 s σ H x y v u Q I rx ry h
 obtain⟨i,j,rfl,rfl,hz,q⟩:=h
 obtain⟨t,rfl⟩:=rx
 obtain⟨t',rfl⟩:=ry
 exact add_str (λt' tk=>⟨.str (i++j),H,I.tok _,⟨_,rfl⟩,q⟩) hz
theorem vals1{x:V}{us:List Value}(r:Vals [x] us):∃u,us=[u]/\RelV x u:=by
 cases r with
 |cons r1 r2=>cases r2;exact⟨_,rfl,r1⟩
theorem vals2{x y:V}{us:List Value}(r:Vals [x,y] us):∃u w',us=[u,w']/\RelV x u/\RelV y w':=by
 cases r with
 | cons r1 r2=>
   cases r2 with
   |cons r3 r4=>cases r4;exact⟨_,_,rfl,r1,r3⟩
theorem qgh(hc:X.calm=true):q68 X (.builtin "max") (λxs H Q=>∃i j,xs=[.int i,.int j]/\Q (.int (if j>i then j else i)) H):=by
 intro z5 s σ H xs us Q I r h
 obtain⟨i,j,rfl,q⟩:=h
 obtain⟨u,w',rfl,⟨t,rfl⟩,⟨t',rfl⟩⟩:=vals2 r
 refine max_two_ints (I.ok.hd hc) λh' tk k=>⟨_,H,I.kept k,?_,q⟩
 by_cases hj:j>i
 · rw[if_pos hj,if_pos hj];exact⟨_,rfl⟩
 · rw[if_neg hj,if_neg hj];exact⟨_,rfl⟩
theorem qgg(hc:X.calm=true):q68 X (.builtin "min") (λxs H Q=>∃i j,xs=[.int i,.int j]/\Q (.int (if j<i then j else i)) H):=by
 intro z5 s σ H xs us Q I r h
 obtain⟨i,j,rfl,q⟩:=h
 obtain⟨u,w',rfl,⟨t,rfl⟩,⟨t',rfl⟩⟩:=vals2 r
 refine min_two_ints (I.ok.hd hc) λh' tk k=>⟨_,H,I.kept k,?_,q⟩
 by_cases hj:j<i
 · rw[if_pos hj,if_pos hj];exact⟨_,rfl⟩
 · rw[if_neg hj,if_neg hj];exact⟨_,rfl⟩
end
structure ObjM(h:Heap)(x dx C:Addr)(mA:Str->Option Value):Prop where
 obj:h.get? x=some (PySem.W.instObj C dx)
 ns:h.Ns1 dx mA
 ne:dx≠x
theorem qfp{h:Heap}{dx:Addr}{mA:Str->Option Value}(n:h.Ns1 dx mA):∃od,h.get? dx=some od/\∀name,PySem.W.lookIn name od=some (mA name):=by
 obtain⟨o,es,ep,ho,hd,hk,_,hm⟩:=n
 refine⟨o,ho,λname=>?_⟩
 have e:=hm name
 unfold nsFind findBy at e
 rw[<-Array.find?_toList]at e
 unfold PySem.W.lookIn
 rw[hd]
 dsimp only
 split
 · rename_i y q
   rw[q]at e
   exact congrArg some e
 · rename_i q
   rw[q]at e
   have a:es.toList.any (·.refKey)=false:=by
     rw[List.any_eq_false]
     intro y hy
     obtain⟨z,t,hkey⟩:=hk y (Array.mem_toList_iff.mp hy)
     simp[DictEntry.refKey,hkey]
   have a':¬es.toList.any (·.refKey)=true:=by rw[a];exact Bool.false_ne_true
   rw[if_neg a']
   exact congrArg some e
theorem ObjM.look{h:Heap}{x dx C:Addr}{mA:Str->Option Value}(I:ObjM h x dx C mA):∃od,PySem.W.InstAt h x (PySem.W.instObj C dx) C (some od)/\∀name,PySem.W.lookIn name od=some (mA name):=
 let ⟨od,ho,hl⟩:=qfp I.ns
 ⟨od,⟨I.obj,rfl,rfl,ho⟩,hl⟩
section
variable{prog:Program}{w:World}{A:Around}{E:Value->Shared->Prop}{s:Shared}{K:PySem.W.Frag}{x dx C f:Addr}{mA:Str->Option Value}{name:Str}{v:Value}
theorem get_map{expr:Bool}{Q:Value->Shared->Prop}(X:K.In s.heap)(I:ObjM s.heap x dx C mA)(hg:PySem.W.plainGet K C name=true)(hh:PySem.W.hasDictIn K C=true)
   (ha:PySem.W.findIn K (.ref C) name=some none) (hv:mA name=some v) (hv':PySem.W.handedIn v=true) (h:Q v {s with toks:=s.toks+1}):
   wpAny (model prog w) A (getAttr (.ref x) name expr) Q E s:=by
 obtain⟨od,J,hl⟩:=I.look
 exact PySem.W.get_value X J (PySem.W.plainGet_of hg).1 (PySem.W.findObj_own hh ha rfl (by rw[hl,hv])) hv' h
theorem qib{pl:Sem Bool}{Q:Value×List Value->Shared->Prop}(X:K.In s.heap)(I:ObjM s.heap x dx C mA)(hg:PySem.W.plainGet K C name=true)
   (hf:PySem.W.findIn K (.ref C) name=some (some (.ref f))) (ht:PySem.W.isFn K (.ref f)=true) (hv:mA name=none) (h:Q (.ref f,[.ref x]) s):
   wpAny (model prog w) A (getMethod (.ref x) name pl) Q E s:=by
 obtain⟨od,J,hl⟩:=I.look
 exact PySem.W.method_fn X J (PySem.W.plainGet_of hg).1 (PySem.W.plainGet_of hg).2 hf (beq_iff_eq.mp ht) (by show(PySem.W.lookIn name od).map (·.isSome)=some false;rw[hl,hv];rfl) h
theorem qkt{ns:List Str}{Q:Unit->Shared->Prop}(X:K.In s.heap)(I:ObjM s.heap x dx C mA)
   (hs:PySem.W.findIn K (.ref C) "__setattr__"=some (some (.builtin "object.__setattr__"))) (hp:PySem.W.plainOver K C=true) (ht:PySem.W.takerIn K C name=some none) (hh:PySem.W.hasDictIn K C=true)
   (hw:PySem.Within mA ns) (hsz:ns.length<=sizeLine)
   (h:∀h',ObjM h' x dx C (λy=>if y=name then some v else mA y)->Heap.SameBut dx s.heap h'->Q () {s with heap:=h',toks:=s.toks+2}):
   wpAny (model prog w) A (setAttr (.ref x) name v) Q E s:=by
 obtain⟨od,J,hl⟩:=I.look
 refine PySem.W.set_plain X J hs (PySem.W.osa_open (s:={s with toks:=s.toks+1}) (r:=none) X J hp ht λb=>?_)
 obtain⟨cd,hc,hd'⟩:=PySem.W.any_some hh
 have hx:s.heap.get? x=some ⟨.ref C,some dx,.plain,#[]⟩:=I.obj
 refine j5 (j7 (j5 (j5 (wpAny_loadPart hx (j5 (PySem.W.Looks.here (s:={s with toks:=s.toks+1}) (PySem.W.looks_clsIn X hc) ?_))))))
 rw[hd']
 refine j7 (a:=some dx) (j5 (j7 (j5 ?_)))
 refine wpAny_nsSet1 (s:={s with toks:=s.toks+1}) I.ns λh' hn2 hs2=>?_
 obtain⟨oD,esD,epD,hoD,hdD,hcD⟩:=hn2.count (PySem.Within.cons name v hw)
 refine j5 (wpAny_lookBehind hoD (by rw[hdD];exact pastItsLine_dict (jt hcD (by rw[jn];omega))) ?_)
 exact j7 (h _ ⟨(hs2.2 _ (Ne.symm I.ne)).trans I.obj,hn2,I.ne⟩ hs2)
theorem qi1{R:Result->Shared->Prop}{vs:List Value}{kw:List (Str×Value)}(X:K.In s.heap)(hm:PySem.W.makesIn K C=true)
   (hi:PySem.W.findIn K (.ref C) "__init__"=some (some (.ref f))) (hf:PySem.W.typeIn K (.ref f)=some (.type "function"))
   (h:codeAny (model prog w) (A.under (.builtin "type.__call__" ⟨.ref C::vs,kw⟩)) (.call (.ref f) ⟨.ref (s.heap.objs.size+1)::vs,kw⟩) (PySem.W.InitBack (s.heap.objs.size+1) R)
     {s with heap:=(s.heap.push PySem.W.emptyDict).push (PySem.W.instObj C s.heap.objs.size)}):
   codeAny (model prog w) A (.call (.ref C) ⟨vs,kw⟩) R s:=by
 obtain⟨hh,g,d,t,os⟩:=s
 exact PySem.W.make_core (PySem.W.makes_of X hm) (PySem.W.looks_findIn X hi) (λself=>PySem.W.bind_fn X self hf) (.inl rfl) h
theorem qfk{R:Result->Shared->Prop}(X:K.In s.heap)(hm:PySem.W.makesIn K C=true)
   (hi:PySem.W.findIn K (.ref C) "__init__"=some (some (.builtin "object.__init__")))
   (hb:∀self,PySem.W.Looks (model prog w) s.heap (bindSpecial (.builtin "object.__init__") self) (.builtin "object.__init__",[self]))
   (h:codeAny (model prog w) (A.under (.builtin "type.__call__" ⟨[.ref C],[]⟩)) (.call (.builtin "object.__init__") ⟨[.ref (s.heap.objs.size+1)],[]⟩) (PySem.W.InitBack (s.heap.objs.size+1) R)
     {s with heap:=(s.heap.push PySem.W.emptyDict).push (PySem.W.instObj C s.heap.objs.size)}):
   codeAny (model prog w) A (.call (.ref C) ⟨[],[]⟩) R s:=by
 obtain⟨hh,g,d,t,os⟩:=s
 exact PySem.W.make_core (PySem.W.makes_of X hm) (PySem.W.looks_findIn X hi) hb (.inr ⟨rfl,rfl⟩) h
end
def putF(f:Str)(v:V):List (Str×V)->List (Str×V)
 |[]=>[(f,v)]
 |(g,x)::r=>if g=f then(g,v)::r else(g,x)::putF f v r
theorem q72(f g:Str)(v:V):∀fs:List (Str×V),(putF f v fs).lookup g=if g=f then some v else fs.lookup g
 | []=>by
   show List.lookup g [(f,v)]=_
   by_cases h:g=f
   · have hb:(g==f)=true:=beq_iff_eq.mpr h
     simp only[List.lookup,hb,if_pos h]
   · have hb:(g==f)=false:=beq_eq_false_iff_ne.mpr h
     simp only[List.lookup,hb,if_neg h]
 | (k,x)::r=>by
   have ih:=q72 f g v r
   rw[show putF f v ((k,x)::r)=(if k=f then(k,v)::r else(k,x)::putF f v r)from rfl]
   by_cases hk:k=f
   · rw[if_pos hk]
     by_cases h:g=k
     · have hb:(g==k)=true:=beq_iff_eq.mpr h
       simp only[List.lookup,hb,if_pos (h.trans hk)]
     · have hb:(g==k)=false:=beq_eq_false_iff_ne.mpr h
       simp only[List.lookup,hb,if_neg (λe:g=f=>h (e.trans hk.symm))]
   · rw[if_neg hk]
     by_cases h:g=k
     · have hb:(g==k)=true:=beq_iff_eq.mpr h
       simp only[List.lookup,hb,if_neg (λe:g=f=>hk (h.symm.trans e))]
     · have hb:(g==k)=false:=beq_eq_false_iff_ne.mpr h
       simp only[List.lookup,hb]
       exact ih
theorem q74(f:Str)(v:V):∀fs:List (Str×V),f∈(putF f v fs).map (·.1)/\∀g,g∈fs.map (·.1)->g∈(putF f v fs).map (·.1)
 |[]=>⟨by simp[putF],λg h=>by simp at h⟩
 | (k,x)::r=>by
   obtain⟨i1,i2⟩:=q74 f v r
   rw[show putF f v ((k,x)::r)=(if k=f then(k,v)::r else(k,x)::putF f v r)from rfl]
   by_cases hk:k=f
   · rw[if_pos hk]
     subst hk
     exact⟨by simp,λg h=>by simpa using h⟩
   · rw[if_neg hk]
     refine⟨?_,λg h=>?_⟩
     · rw[jw]
       exact jg _ i1
     · rw[jw]at h ⊢
       rcases List.mem_cons.mp h with e|e
       · exact List.mem_cons.mpr (.inl e)
       · exact jg _ (i2 g e)
theorem q73(f:Str)(v:V):∀fs:List (Str×V),(putF f v fs).length<=fs.length+1
 |[]=>by simp[putF]
 | (k,x)::r=>by
   have ih:=q73 f v r
   rw[show putF f v ((k,x)::r)=(if k=f then(k,v)::r else(k,x)::putF f v r)from rfl]
   by_cases hk:k=f
   · rw[if_pos hk,jn,jn];omega
   · rw[if_neg hk,jn,jn];omega
theorem RelO.some_of{v:V}{o:Option Value}(r:RelO (some v) o):∃u,o=some u/\RelV v u:=by
 cases o with
 |none=>exact(show False from r).elim
 |some u=>exact⟨u,rfl,r⟩
theorem RelO.none_of{o:Option Value}(r:RelO none o):o=none:=by
 cases o with
 |none=>rfl
 |some u=>exact(show False from r).elim
theorem qfx{v:V}{u:Value}(r:RelV v u):PySem.W.handedIn u=true:=by
 cases v with
 |non=>cases(show u=Value.none from r);rfl
 |bl b=>cases(show u=Value.bool b from r);rfl
 |int i=>obtain⟨t,e⟩:=(show∃t,u=Value.int i t from r);cases e;rfl
 |str x=>obtain⟨t,e⟩:=(show∃t,u=Value.str x t from r);cases e;rfl
 |byt b=>obtain⟨t,e⟩:=(show∃t,u=Value.bytes b t from r);cases e;rfl
 |flt b=>obtain⟨t,e⟩:=(show∃t,u=Value.float b t from r);cases e;rfl
 |ref a=>cases(show u=Value.ref a from r);rfl
 |ty n=>cases(show u=Value.type n from r);rfl
section
variable{P:Program}{w:World}{H H':Hp}{h h':Heap}{a C dx:Addr}{fs fs':List (Str×V)}
theorem qai(hok:HOk P w H h)(e:H a=some (.ins C dx fs)):∃mA,ObjM h a dx C mA/\(∀f,RelO (fs.lookup f) (mA f))/\PySem.Within mA (fs.map (·.1))/\fs.length<=1000/\H dx=some (.own a):=by
 obtain⟨d,z,ne,ob,mA,n,r,q⟩:=(show ObjOk P w H h a (.ins C dx fs)from hok a _ e)
 exact⟨mA,⟨ob,n,ne⟩,r,q,z,d⟩
end
structure Cls(K:PySem.W.Frag)(C:Addr):Prop where
 pg:PySem.W.plainGet K C Str.empty=true
 hd:PySem.W.hasDictIn K C=true
 po:PySem.W.plainOver K C=true
 sa:PySem.W.findIn K (.ref C) "__setattr__"=some (some (.builtin "object.__setattr__"))
theorem Cls.get{K:PySem.W.Frag}{C:Addr}(c:Cls K C)(f:Str):PySem.W.plainGet K C f=true:=c.pg
def NoAttr(K:PySem.W.Frag)(C:Addr)(f:Str):Prop:=PySem.W.findIn K (.ref C) f=some none
theorem NoAttr.taker{K:PySem.W.Frag}{C:Addr}{f:Str}(n:NoAttr K C f):PySem.W.takerIn K C f=some none:=by
 unfold PySem.W.takerIn
 rw[show PySem.W.findIn K (.ref C) f=some none from n]
 rfl
structure Con(K:PySem.W.Frag)(C:Addr)(f:Str)(v:V)(u:Value):Prop where
 at_:PySem.W.findIn K (.ref C) f=some (some u)
 rel:RelV v u
 get:PySem.W.specialIn K u "__get__"=some none
 cp:PySem.W.copiedNames.contains f=false
structure Meth(K:PySem.W.Frag)(C:Addr)(m:Str)(f:Addr):Prop where
 at_:PySem.W.findIn K (.ref C) m=some (some (.ref f))
 fn:PySem.W.isFn K (.ref f)=true
 kp:PySem.W.keepIn K (.ref f)=true
section
variable{X:Cx}{z5:List (Addr×Obj)}{σ:St}{H:Hp}{s:Shared}{a C dx:Addr}{fs:List (Str×V)}{f:Str}{v:V}{A:Around}{E:Value->Shared->Prop}
theorem qdm{b:Bool}{Q:Value->Shared->Prop}(I:Inv X z5 σ H s)(e:H a=some (.ins C dx fs))(c:Cls X.K C)(n:NoAttr X.K C f)(l:fs.lookup f=some v)
   (h:∀u s',Inv X z5 σ H s'->RelV v u->Q u s'):wpAny (model X.prog X.w) A (getAttr (.ref a) f b) Q E s:=by
 obtain⟨mA,O,r,_,_,_⟩:=qai I.hok e
 obtain⟨u,hu,ru⟩:=RelO.some_of (v:=v) (o:=mA f) (by rw[<-l];exact r f)
 exact get_map I.kIn O (c.get f) c.hd n hu (qfx ru) (h u _ (I.tok _) ru)
theorem qdl{m:Str}{g:Addr}{pl:Sem Bool}{Q:Value×List Value->Shared->Prop}(I:Inv X z5 σ H s)(e:H a=some (.ins C dx fs))(c:Cls X.K C)(k:Meth X.K C m g)(l:fs.lookup m=none)
   (h:Q (.ref g,[.ref a]) s):wpAny (model X.prog X.w) A (getMethod (.ref a) m pl) Q E s:=by
 obtain⟨mA,O,r,_,_,_⟩:=qai I.hok e
 have hn:mA m=none:=RelO.none_of (by rw[<-l];exact r m)
 exact qib I.kIn O (c.get m) k.at_ k.fn hn h
theorem qce{y:V}{u:Value}{Q:Unit->Shared->Prop}(I:Inv X z5 σ H s)(e:H a=some (.ins C dx fs))(c:Cls X.K C)(n:NoAttr X.K C f)(hl:fs.length<1000)(ry:RelV y u)
   (h:∀s',Inv X z5 σ (upd H a (.ins C dx (putF f y fs))) s'->Q () s'):wpAny (model X.prog X.w) A (setAttr (.ref a) f u) Q E s:=by
 obtain⟨mA,O,r,wi,_,ho⟩:=qai I.hok e
 have hz:(fs.map (·.1)).length<=sizeLine:=by rw[j6,sizeLine_eq];omega
 refine qkt I.kIn O c.sa c.po n.taker c.hd wi hz λh' O' sb=>h _ ?_
 have hd:∃o,h'.get? dx=some o:=let ⟨o,_,_,e',_⟩:=O'.ns;⟨o,e'⟩
 refine I.write (x:=a) (e:=dx) (by rw[e];exact True.intro) (.inr ho) (λb q hb z=>(sb.2 b hb).trans z) hd ?_
 refine⟨by rw[q0n O.ne];exact ho,?_,O.ne,O'.obj,_,O'.ns,λg=>?_,λg hg=>?_⟩
 · have:=q73 f y fs;omega
 · show RelO ((putF f y fs).lookup g) (if g=f then some u else mA g)
   rw[q72]
   by_cases q:g=f
   · rw[if_pos q,if_pos q];exact ry
   · rw[if_neg q,if_neg q];exact r g
 · by_cases q:g=f
   · rw[q];exact(q74 f y fs).1
   · refine(q74 f y fs).2 g (wi g λz=>hg ?_)
     show(if g=f then some u else mA g)=none
     rw[if_neg q];exact z
theorem Inv.made(I:Inv X z5 σ H s):Inv X z5 σ (upd (upd H s.heap.objs.size (.own (s.heap.objs.size+1))) (s.heap.objs.size+1) (.ins C s.heap.objs.size []))
   {s with heap:=(s.heap.push PySem.W.emptyDict).push (PySem.W.instObj C s.heap.objs.size)}:=by
 have e1:(s.heap.push PySem.W.emptyDict).get? s.heap.objs.size=some PySem.W.emptyDict:=jl s.heap rfl
 have e2:((s.heap.push PySem.W.emptyDict).push (PySem.W.instObj C s.heap.objs.size)).get? (s.heap.objs.size+1)=some (PySem.W.instObj C s.heap.objs.size):=by
   have:=jl (s.heap.push PySem.W.emptyDict) (o:=PySem.W.instObj C s.heap.objs.size) rfl
   rwa [x8]at this
 have e3:(s.heap.push PySem.W.emptyDict).Ns s.heap.objs.size (λ_=>none):=⟨PySem.W.emptyDict,#[],_,e1,rfl,(λe he=>absurd he (by simp)),λ_=>rfl⟩
 have I1:=I.laid (a:=s.heap.objs.size) (o:=.own (s.heap.objs.size+1)) (h':=s.heap.push PySem.W.emptyDict) (t':=s.toks) (λb u q=>j9 _ q) (ja _) ⟨_,e1⟩
 refine I1.laid (a:=s.heap.objs.size+1) (o:=.ins C s.heap.objs.size []) (t':=s.toks) (λb u q=>j9 _ q) (Nat.le_of_eq (x8 _ _)) ?_
 have ne:s.heap.objs.size≠s.heap.objs.size+1:=jh (Nat.lt_succ_self _)
 refine⟨by rw[q0n ne,q0r],Nat.zero_le _,ne,e2,λ_=>none,(Heap.Ns1.of_empty e3).at λo q=>j9 _ q,λ_=>True.intro,λy hy=>absurd rfl hy⟩
theorem qn6{prog:Program}{w:World}{env:Env}{e:Expr}{f:Str}{pos:Pos}{s:Shared}{Q:Value->Shared->Prop}(hb:attributeBase e f env (eval e env)=eval e env)
   (h:wpAny (model prog w) A (eval e env) (λo s₁=>wpAny (model prog w) A (getAttr o f true) Q E s₁) E s):wpAny (model prog w) A (eval (.Attribute e f pos) env) Q E s:=
 Attribute_any_ h (by rw[arm_eval_Attribute,hb])
end
def tFld(K:PySem.W.Frag)(ta:TE)(f:Str):TE:=λσ H Q=>ta σ H λx H1=>∃a C dx fs v,x=.ref a/\H1 a=some (.ins C dx fs)/\Cls K C/\NoAttr K C f/\fs.lookup f=some v/\Q v H1
def sFld(K:PySem.W.Frag)(ta tv:TE)(f:Str):TS:=λD σ H=>tv σ H λy H1=>ta σ H1 λx H2=>∃a C dx fs,x=.ref a/\H2 a=some (.ins C dx fs)/\Cls K C/\NoAttr K C f/\fs.length<1000/\
 D.nx σ (upd H2 a (.ins C dx (putF f y fs)))
section
variable{X:Cx}{o e value:Expr}{f:Str}{pos zw tpos:Pos}{ta tv:TE}
theorem qox(he:PE X e ta)(hb:attributeBase e f X.env (eval e X.env)=eval e X.env):PE X (.Attribute e f pos) (tFld X.K ta f):=by
 intro z5 s σ H Q I h
 refine qn6 hb (thn (he z5 s σ H _ I h) λu s1 ⟨x,H1,I1,rx,a,C,dx,fs,v,ex,ea,c,n,l,q⟩=>?_)
 subst ex
 obtain rfl:u=Value.ref a:=rx
 exact qdm I1 ea c n l λu' s2 I2 ru=>⟨v,H1,I2,ru,q⟩
theorem qep(ha:PE X o ta)(hv:PE X value tv)(hs:swapsWith value (some (.Attribute o f zw)) pos.line X.env=pure false):PS X (.Assign [.Attribute o f zw] value pos) (sFld X.K ta tv f):=by
 intro z5 s σ H D I h
 refine plainObj_wpAny_Assign_Attribute (thn (hv z5 s σ H _ I h) λu s1 ⟨y,H1,I1,ry,q⟩=>thn (ha z5 s1 σ H1 _ I1 q) λov s2 ⟨x,H2,I2,rx,a,C,dx,fs,ex,ea,c,n,l,q2⟩=>?_) hs
 subst ex
 obtain rfl:ov=Value.ref a:=rx
 exact qce I2 ea c n l ry λs3 I3=>⟨σ,_,I3,q2⟩
end
section
variable{X:Cx}{z5:List (Addr×Obj)}{σ:St}{H:Hp}{s:Shared}{A:Around}{E:Value->Shared->Prop}{Q:Value->Shared->Prop}{c:Value}{b:Bool}
inductive TyOf(K:PySem.W.Frag)(H:Hp):V->Value->Prop where
 |non:TyOf K H .non (.type "NoneType")
 |bl (x:Bool):TyOf K H (.bl x) (.type "bool")
 |int (i:Int):TyOf K H (.int i) (.type "int")
 |str (x:Str):TyOf K H (.str x) (.type "str")
 |flt (x:UInt64):TyOf K H (.flt x) (.type "float")
 |lst {a:Addr} {xs:List V} (e:H a=some (.lst xs)):TyOf K H (.ref a) (.type "list")
 |frz {a:Addr} {o:Obj} {xs:List V} (e:H a=some (.frz o (.lst xs))):TyOf K H (.ref a) (.type "list")
 |tup {a:Addr} {xs:List V} (e:H a=some (.tup xs)):TyOf K H (.ref a) (.type "tuple")
 |dK {a:Addr} {kvs:List (Key×V)} (e:H a=some (.dK kvs)):TyOf K H (.ref a) (.type "dict")
 |dT {a:Addr} {kvs:List (List Key×V)} (e:H a=some (.dT kvs)):TyOf K H (.ref a) (.type "dict")
 |ins {a C dx:Addr} {fs:List (Str×V)} (e:H a=some (.ins C dx fs)) (cl:Cls K C) (ha:PySem.W.findIn K (.ref C) "__class__"=some (some (.builtin "object.__class__")))
     (hn:PySem.W.specialIn K (.builtin "object.__class__") "__get__"=some (some (.builtin "getset_descriptor.__get__"))) (htk:PySem.W.takesIn K (.builtin "object.__class__")=some true)
     (hm:PySem.W.mroIn K C (.type "object")=some true):TyOf K H (.ref a) (.ref C)
end
structure Room(k:Nat)(A:Around):Prop where
 hd:A.handled=none
 dp:A.depth+3*k+5<recursionLimit
 un:A.units+16*k+200<cLine
theorem Room.mono{j k:Nat}{A:Around}(r:Room k A)(h:j<=k):Room j A:=⟨r.hd,by have:=r.dp;omega,by have:=r.un;omega⟩
theorem Room.m{j k:Nat}{A:Around}(r:Room k A)(h:j<=k:=by decide):Room j A:=r.mono h
theorem Room.deeper{k:Nat}{A:Around}(r:Room (k+1) A)(env:Env):Room k (A.deeper env):=
 ⟨r.hd,by have:=r.dp;show A.depth+1+3*k+5<_;omega,by have:=r.un;show A.units+3+16*k+200<_;omega⟩
theorem Room.in1{k:Nat}{A:Around}(r:Room (k+1) A):Room k A.in1:=
 ⟨r.hd,by have:=r.dp;show A.depth+3*k+5<_;omega,by have:=r.un;show A.units+1+16*k+200<_;omega⟩
theorem qdg{A:Around}{C:Addr}{us:List Value}{kw:List (Str×Value)}:(A.under (.builtin "type.__call__" ⟨.ref C::us,kw⟩)).depth=A.depth+1:=by
 first|rfl|simp[Around.under,Code.weight,Code.isCreation,Code.isGuard,Code.isCaller,Code.frames,Code.isFrame,guardIds]
theorem qdf{A:Around}{C:Addr}{us:List Value}{kw:List (Str×Value)}:(A.under (.builtin "type.__call__" ⟨.ref C::us,kw⟩)).units=A.units+1:=by
 first|rfl|simp[Around.under,Code.cUnits,Code.frames,Code.isFrame]
theorem Room.make{k:Nat}{A:Around}(r:Room (k+1) A)(C:Addr)(us:List Value)(kw:List (Str×Value)):Room k (A.under (.builtin "type.__call__" ⟨.ref C::us,kw⟩)):=
 ⟨r.hd,by have:=r.dp;rw[qdg];omega,by have:=r.un;rw[qdf];omega⟩
theorem Room.depth{k:Nat}{A:Around}(r:Room k A):A.depth<recursionLimit:=by have:=r.dp;omega
theorem Room.units{k:Nat}{A:Around}(r:Room k A):A.units+64<cLine:=by have:=r.un;omega
def tNil:TA:=λ_ H Q=>Q [] H
def q9q(ta:TE)(tr:TA):TA:=λσ H Q=>ta σ H λx H1=>tr σ H1 λxs H2=>Q (x::xs) H2
section
variable{X:Cx}{e:Expr}{es:List Expr}{te:TE}{t:TA}{pos:Pos}
theorem q05:PA X [] tNil:=λ_ _ _ _ H Q I h=>Calls.spliced_nil ⟨[],H,I,.nil,h⟩
theorem q00(ha:PE X e te)(hr:PA X es t)(hs:starEach (e::es) X.env=(false,eval e X.env)::starEach es X.env:=by rfl):PA X (e::es) (q9q te t):=by
 intro pos z5 s σ H Q I h
 rw[hs]
 show wpAny _ _ (spliced ((false,eval e X.env)::backTo pos (starEach es X.env))) _ _ s
 refine Calls.spliced_cons (thn (ha z5 s σ H _ I h) λu s1 ⟨x,H1,I1,r1,q1⟩=>?_)
 exact thn (hr pos z5 s1 σ H1 _ I1 q1) λus s2 ⟨xs,H2,I2,r2,q2⟩=>⟨x::xs,H2,I2,.cons r1 r2,q2⟩
def tTup(t:TA):TE:=λσ H Q=>t σ H λxs H1=>xs.length<=sizeLine/\∀p,H1 p=none->Q (.ref p) (upd H1 p (.tup xs))
def tLst(t:TA):TE:=λσ H Q=>t σ H λxs H1=>xs.length<=sizeLine/\∀p,H1 p=none->Q (.ref p) (upd H1 p (.lst xs))
theorem q3o{x1}(h:PA X es t):PE X (.Tuple es x1 pos) (tTup t):=by
 intro z5 s σ H Q I hq
 refine wpAny_Tuple_spliced (thn (h pos z5 s σ H _ I hq) λus s1 ⟨xs,H1,I1,r,z,q⟩=>⟨by rw[<-r.length];exact z,?_⟩)
 have hf:H1 s1.heap.objs.size=none:=I1.hok.fresh (ja _)
 refine⟨.ref s1.heap.objs.size,upd H1 s1.heap.objs.size (.tup xs),I1.laid (t':=s1.toks) (λb u e=>j9 _ e) (ja _) ?_,rfl,q _ hf⟩
 exact⟨z,us,r,⟨_,jl _ rfl,⟨rfl,_,rfl⟩,rfl⟩⟩
theorem q2i(h:PA X es t):PE X (.List es pos) (tLst t):=by
 intro z5 s σ H Q I hq
 refine wpAny_List_spliced (thn (h pos z5 s σ H _ I hq) λus s1 ⟨xs,H1,I1,r,z,q⟩=>⟨by rw[<-r.length];exact z,?_⟩)
 have hf:H1 s1.heap.objs.size=none:=I1.hok.fresh (ja _)
 refine⟨.ref s1.heap.objs.size,upd H1 s1.heap.objs.size (.lst xs),I1.laid (t':=s1.toks) (λb u e=>j9 _ e) (ja _) ?_,rfl,q _ hf⟩
 exact⟨z,us,0,r,jl _ rfl⟩
end
abbrev Sp:=List V->Hp->VK->XK->Prop
abbrev CXT:=List Env->Hp->Shared->XK->Value->Shared->Prop
structure Env0(P:Program)(w:World)(K:PySem.W.Frag)(mg:Str->Option Value)(base:Heap)(A:Around)(outer:List Env)(s:Shared)(H:Hp):Prop where
 frames:A.frames=some outer
 mod:Mod K mg base
 bs:∀b o,base.get? b=some o->s.heap.get? b=some o/\H b=none
 bsz:base.objs.size<=s.heap.objs.size
 funs:s.heap.FunFrames base outer
 frf:∀b∈frs outer,H b=none
 hok:HOk P w H s.heap
 bare:AllBare s.gens
def CE(outer:List Env)(P:Program)(w:World)(H:Hp)(s:Shared)(Q:VK)(u:Value)(s':Shared):Prop:=
 ∃v H',s'.os=s.os/\AllBare s'.gens/\Un (frs outer) [] H H' s.heap s'.heap/\HOk P w H' s'.heap/\RelV v u/\Q v H'
def CR(CX:CXT)(outer:List Env)(P:Program)(w:World)(H:Hp)(s:Shared)(Q:VK)(E:XK)(r:Result)(s':Shared):Prop:=
 match r with
 |.ok (.ret u)=>CE outer P w H s Q u s'
 |.ok _=>False
 |.error e=>CX outer H s E e s'
structure FnOk(P:Program)(w:World)(K:PySem.W.Frag)(mg:Str->Option Value)(base:Heap)(CX:CXT)(k:Nat)(f:Addr)(fd:FuncData)(ps:List Str)(sp:Sp):Prop where
 len:∀vs H Q E,sp vs H Q E->vs.length=ps.length
 run:∀(A:Around) (outer:List Env) (s:Shared) (H:Hp) (args:Args) (us:List Value) (vs:List V) (Q:VK) (E:XK),Room k A->Env0 P w K mg base A outer s H->BindsTo s fd args (ps.zip us)->Vals vs us->sp vs H Q E->
   codeAny (model P w) A (.call (.ref f) args) (CR CX outer P w H s Q E) s
theorem FnOk.mono{P:Program}{w:World}{K:PySem.W.Frag}{mg:Str->Option Value}{base:Heap}{CX:CXT}{j k:Nat}{f:Addr}{fd:FuncData}{ps:List Str}{sp:Sp}(F:FnOk P w K mg base CX j f fd ps sp)(h:j<=k):
   FnOk P w K mg base CX k f fd ps sp:=⟨F.len,λA outer s H args us vs Q E hr=>F.run A outer s H args us vs Q E (hr.mono h)⟩
theorem FnOk.imp{P:Program}{w:World}{K:PySem.W.Frag}{mg:Str->Option Value}{base:Heap}{CX:CXT}{k:Nat}{f:Addr}{fd:FuncData}{ps:List Str}{sp sp':Sp}(F:FnOk P w K mg base CX k f fd ps sp)
   (h:∀vs H Q E,sp' vs H Q E->sp vs H Q E):FnOk P w K mg base CX k f fd ps sp':=
 ⟨λvs H Q E q=>F.len vs H Q E (h _ _ _ _ q),λA outer s H args us vs Q E hr he hb hv hs=>F.run A outer s H args us vs Q E hr he hb hv (h _ _ _ _ hs)⟩
theorem Env0.make{P:Program}{w:World}{K:PySem.W.Frag}{mg:Str->Option Value}{base:Heap}{A:Around}{outer:List Env}{s:Shared}{H:Hp}(e:Env0 P w K mg base A outer s H)(C:Addr)(us:List Value)(kw:List (Str×Value)):
   Env0 P w K mg base (A.under (.builtin "type.__call__" ⟨.ref C::us,kw⟩)) outer s H:=⟨by first|exact e.frames|(simpa[Around.under,Code.envs,Code.isFrame,pushEnvs]using e.frames),e.mod,e.bs,e.bsz,e.funs,e.frf,e.hok,e.bare⟩
theorem Env0.in1{P:Program}{w:World}{K:PySem.W.Frag}{mg:Str->Option Value}{base:Heap}{A:Around}{outer:List Env}{s:Shared}{H:Hp}(e:Env0 P w K mg base A outer s H):
   Env0 P w K mg base A.in1 outer s H:=⟨e.frames,e.mod,e.bs,e.bsz,e.funs,e.frf,e.hok,e.bare⟩
section
variable{X:Cx}{z5:List (Addr×Obj)}{σ:St}{H:Hp}{s s':Shared}
theorem Inv.env0(I:Inv X z5 σ H s):Env0 X.prog X.w X.K X.mg X.base X.A X.stack s H:=
 ⟨I.ok.frames,I.ok.mod,I.bs,jt I.ok.bsz I.sz,I.stack,I.stkFree,I.hok,I.bare⟩
theorem Inv.after{Q:VK}{u:Value}(I:Inv X z5 σ H s)(h:CE X.stack X.prog X.w H s Q u s'):EP X z5 σ Q u s':=by
 obtain⟨v,H',os,bare,un,hok,r,q⟩:=h
 obtain⟨hh,g,d,t,os'⟩:=s'
 obtain rfl:os'=s.os:=os
 exact⟨v,H',I.call (h':=hh) (g':=g) (d':=d) (t':=t) (ch:=[]) un hok bare (λb z=>absurd z (by simp)),r,q⟩
end
def qkr(sp:Sp)(dvs:List V)(E:XK)(t:TA):TE:=λσ H Q=>t σ H λvs H1=>sp (vs++dvs) H1 Q E
def qnp(C:Addr)(m:Str)(sp:Sp)(dvs:List V)(E:XK)(ta:TE)(t:TA):TE:=λσ H Q=>ta σ H λx H1=>∃a dx fs,x=.ref a/\H1 a=some (.ins C dx fs)/\fs.lookup m=none/\
 t σ H1 λvs H2=>sp (x::(vs++dvs)) H2 Q E
def qnq(C:Addr)(sp:Sp)(dvs:List V)(E:XK)(t:TA):TE:=λσ H Q=>t σ H λvs H1=>∀x dx,H1 x=none->H1 dx=none->dx≠x->
 sp (.ref x::(vs++dvs)) (upd (upd H1 dx (.own x)) x (.ins C dx [])) (λv H2=>v=.non/\Q (.ref x) H2) E
def Binds(K:PySem.W.Frag)(fd:FuncData)(ps:List Str)(ds:List Value):Prop:=
 ∀(s:Shared) (us:List Value),K.In s.heap->(us++ds).length=ps.length->BindsTo s fd ⟨us,[]⟩ (ps.zip (us++ds))
theorem Binds.all{K:PySem.W.Frag}{fd:FuncData}{ps:List Str}(h:∀us:List Value,us.length=ps.length->bindArgs fd ⟨us,[]⟩=pure (ps.zip us)):Binds K fd ps []:=λs us _ hl=>by
 rw[List.append_nil]at hl ⊢
 exact .of_eq (h us hl)
def q7w(CX:CXT)(X:Cx)(E:XK):Prop:=∀(z5:List (Addr×Obj)) (σ:St) (H:Hp) (s:Shared) (e:Value) (s':Shared),Inv X z5 σ H s->CX X.stack H s E e s'->X.xe e s'
section
variable{X:Cx}{CX:CXT}{k:Nat}{f C:Addr}{fd:FuncData}{ps:List Str}{sp:Sp}{dvs:List V}{ds:List Value}{E:XK}{x m:Str}{p pos zr:Pos}{e o:Expr}{es:List Expr}{ta:TE}{t:TA}
theorem qjo{z5:List (Addr×Obj)}{σ:St}{H:Hp}{s:Shared}{Q:VK}{us:List Value}{vs:List V}(F:FnOk X.prog X.w X.K X.mg X.base CX k f fd ps sp)(hr:Room k X.A)(hb:Binds X.K fd ps ds)(hd:Vals dvs ds)(hx:q7w CX X E)
   (I:Inv X z5 σ H s) (r:Vals vs us) (h:sp (vs++dvs) H Q E):wpAny (model X.prog X.w) X.A (call (.ref f) us) (EP X z5 σ Q) X.xe s:=by
 have r2:Vals (vs++dvs) (us++ds):=r.append hd
 have hl:(us++ds).length=ps.length:=by rw[<-r2.length];exact F.len _ _ _ _ h
 refine wpAny_call (codeAny_mono (F.run X.A X.stack s H ⟨us,[]⟩ (us++ds) (vs++dvs) Q E hr I.env0 (hb s us I.kIn hl) r2 h) λr s' hq=>?_)
 cases r with
 |error e=>exact hx z5 σ H s e s' I hq
 | ok fl=>
   cases fl with
   |ret u=>exact I.after hq
   |next=>exact False.elim hq
   |brk=>exact False.elim hq
   |cont=>exact False.elim hq
theorem q0f(F:FnOk X.prog X.w X.K X.mg X.base CX k f fd ps sp)(hr:Room k X.A)(hg:Gl X x)(hm:X.mg x=some (.ref f))(hk:PySem.W.keepIn X.K (.ref f)=true)(hb:Binds X.K fd ps ds)(hd:Vals dvs ds)(hx:q7w CX X E)
   (ha:PA X (e::es) t) (hdb:(x==("__debug__":Str))=false:=by decide) (he:starEach (e::es) X.env=(false,eval e X.env)::starEach es X.env:=by rfl) (hpl:(backTo pos (starEach es X.env)).any (·.1)=false:=by rfl):
   PE X (.Call (.Name x p) (e::es) [] pos) (qkr sp dvs E t):=by
 intro z5 s σ H Q I h
 refine xo (qag I hg hm ?_ hdb)
 refine PySem.W.callWith_K (h₀:=X.base) I.ok.mod.kin hk (thn (ha pos z5 s σ H _ I h) λus s1 ⟨vs,H1,I1,r,q⟩=>⟨I1.kIn,?_⟩) he hpl
 exact qjo F hr hb hd hx I1 r q
theorem qab{pl:Sem Bool}(he:PE X o ta)(c:Cls X.K C)(hm:Meth X.K C m f)(F:FnOk X.prog X.w X.K X.mg X.base CX k f fd ps sp)(hr:Room k X.A)(hb:Binds X.K fd ps ds)(hd:Vals dvs ds)(hx:q7w CX X E)(ha:PA X (e::es) t)
   (hst:starEach (e::es) X.env=(false,eval e X.env)::starEach es X.env:=by rfl) (hpl:(backTo pos (starEach es X.env)).any (·.1)=false:=by rfl)
   (ht:eval (.Call (.Attribute o m zr) (e::es) [] pos) X.env=(do
     let ov <-eval o X.env
     standAt zr.atName
     let (f,first) <-holding [ov] (getMethod ov m pl)
     callWith pos f first (backTo pos (starEach (e::es) X.env)) (backToKw pos (keywordEach [] X.env))):=by rfl):
   PE X (.Call (.Attribute o m zr) (e::es) [] pos) (qnp C m sp dvs E ta t):=by
 intro z5 s σ H Q I h
 refine PySem.W.methodCall_KW (pl:=pl) (thn (he z5 s σ H _ I h) λu s1 ⟨x,H1,I1,rx,a,dx,fs,ex,ea,l,q⟩=>?_) ht
 subst ex
 obtain rfl:u=Value.ref a:=rx
 refine qdl I1 ea c hm l ?_
 refine PySem.W.callWith_K (first:=[.ref a]) (h₀:=X.base) I.ok.mod.kin hm.kp (thn (ha pos z5 s1 σ H1 _ I1 q) λus s2 ⟨vs,H2,I2,r,q2⟩=>⟨I2.kIn,?_⟩) hst hpl
 exact qjo (us:=.ref a::us) (vs:=.ref a::vs) F hr hb hd hx I2 (.cons rfl r) q2
structure Mk(K:PySem.W.Frag)(C f:Addr):Prop where
 makes:PySem.W.makesIn K C=true
 init:PySem.W.findIn K (.ref C) "__init__"=some (some (.ref f))
 fn:PySem.W.isFn K (.ref f)=true
 kp:PySem.W.keepIn K (.ref C)=true
theorem qhb{z5:List (Addr×Obj)}{σ:St}{H:Hp}{s:Shared}{Q:VK}{us:List Value}{vs:List V}(M:Mk X.K C f)(F:FnOk X.prog X.w X.K X.mg X.base CX k f fd ps sp)(hr:Room (k+1) X.A)(hb:Binds X.K fd ps ds)(hd:Vals dvs ds)
   (hx:q7w CX X E) (I:Inv X z5 σ H s) (r:Vals vs us)
   (h:∀x dx,H x=none->H dx=none->dx≠x->sp (.ref x::(vs++dvs)) (upd (upd H dx (.own x)) x (.ins C dx [])) (λv H2=>v=.non/\Q (.ref x) H2) E):
   wpAny (model X.prog X.w) X.A (call (.ref C) us) (EP X z5 σ Q) X.xe s:=by
 have hq:=h (s.heap.objs.size+1) s.heap.objs.size (I.hok.fresh (Nat.le_succ _)) (I.hok.fresh (ja _)) (jh (Nat.lt_succ_self _))
 have I2:=Inv.made (C:=C) I
 have r2:Vals (V.ref (s.heap.objs.size+1)::(vs++dvs)) (Value.ref (s.heap.objs.size+1)::(us++ds)):=.cons rfl (r.append hd)
 have hl:(Value.ref (s.heap.objs.size+1)::us++ds).length=ps.length:=by
   have e:=r2.length
   rw[F.len _ _ _ _ hq]at e
   exact e.symm
 refine wpAny_call (qi1 (f:=f) I.kIn M.makes M.init (beq_iff_eq.mp M.fn) (codeAny_mono (F.run _ X.stack _ _ ⟨Value.ref (s.heap.objs.size+1)::us,[]⟩ (Value.ref (s.heap.objs.size+1)::(us++ds)) _ _ E (hr.make C us [])
   (I2.env0.make C us []) (hb _ (Value.ref (s.heap.objs.size+1)::us) I2.kIn hl) r2 hq) λr s' hq'=>?_))
 cases r with
 |error e=>exact hx z5 σ _ _ e s' I2 hq'
 | ok fl=>
   cases fl with
   | ret u=>
     obtain⟨v,H',I3,rv,ev,q3⟩:=I2.after hq'
     subst ev
     exact⟨rv,⟨V.ref (s.heap.objs.size+1),H',I3,rfl,q3⟩⟩
   |next=>exact False.elim hq'
   |brk=>exact False.elim hq'
   |cont=>exact False.elim hq'
theorem qet(M:Mk X.K C f)(F:FnOk X.prog X.w X.K X.mg X.base CX k f fd ps sp)(hr:Room (k+1) X.A)(hg:Gl X x)(hm:X.mg x=some (.ref C))(hb:Binds X.K fd ps ds)(hd:Vals dvs ds)(hx:q7w CX X E)
   (ha:PA X (e::es) t) (hdb:(x==("__debug__":Str))=false:=by decide) (he:starEach (e::es) X.env=(false,eval e X.env)::starEach es X.env:=by rfl) (hpl:(backTo pos (starEach es X.env)).any (·.1)=false:=by rfl):
   PE X (.Call (.Name x p) (e::es) [] pos) (qnq C sp dvs E t):=by
 intro z5 s σ H Q I h
 refine xo (qag I hg hm ?_ hdb)
 refine PySem.W.callWith_K (h₀:=X.base) I.ok.mod.kin M.kp (thn (ha pos z5 s σ H _ I h) λus s1 ⟨vs,H1,I1,r,q⟩=>⟨I1.kIn,?_⟩) he hpl
 exact qhb M F hr hb hd hx I1 r q
end
section
variable{X:Cx}{CX:CXT}{k:Nat}{f C:Addr}{fd:FuncData}{ps ks:List Str}{sp:Sp}{E:XK}{x m:Str}{p pos zr kpos:Pos}{e o:Expr}{es:List Expr}{kws:List Keyword}{te ta:TE}{t tk:TA}{nm:Option Str}
structure qtq(K:PySem.W.Frag)(fd:FuncData)(ps ks:List Str)(g:List Value->List Value->List Value)(gV:List V->List V->List V):Prop where
 to:∀(s:Shared) (us ws:List Value),K.In s.heap->(g us ws).length=ps.length->BindsTo s fd ⟨us,ks.zip ws⟩ (ps.zip (g us ws))
 rel:∀{vs:List V} {us:List Value} {zs:List V} {ws:List Value},Vals vs us->Vals zs ws->Vals (gV vs zs) (g us ws)
variable{g:List Value->List Value->List Value}{gV:List V->List V->List V}
end
structure q0p(N P:List Str)(sc:Scope):Prop where
 kind:sc.kind=.function
 co:sc.isCoroutine=false
 gen:sc.isGenerator=false
 nd:N.Nodup
 pre:N.take P.length=P
 par:∀x∈P,sc.names.lookup x=some .local∨sc.names.lookup x=some .cell
 nofree:∀y∈sc.names,y.2≠.free
theorem q9l{kindOf:Str->Option NameKind}{x:Str}:∀{binds:List (Str×Value)} {m:Str->Option Value},(∀v,(x,v)∉binds)->bindL kindOf binds m x=m x
 |[],_,_=>rfl
 | (n,v)::r,m,h=>by
   unfold bindL
   rw[q9l λw hw=>h w (jg _ hw)]
   split
   · have:x≠n:=by rintro rfl;exact h v jf
     simp[this]
   · rfl
theorem q9n{kindOf:Str->Option NameKind}{x:Str}:∀{binds:List (Str×Value)} {m:Str->Option Value},(∀v,(x,v)∉binds)->bindC kindOf binds m x=m x
 |[],_,_=>rfl
 | (n,v)::r,m,h=>by
   unfold bindC
   rw[q9n λw hw=>h w (jg _ hw)]
   split
   · rfl
   · have:x≠n:=by rintro rfl;exact h v jf
     simp[this]
theorem q9m{kindOf:Str->Option NameKind}{x:Str}{v:Value}:∀{P:List Str} {vs:List Value} {i:Nat} {m:Str->Option Value},P.Nodup->P[i]? =some x->vs[i]? =some v->kindOf x=some .local->
   bindL kindOf (P.zip vs) m x=some v
 |[],_,_,_,_,h,_,_=>by simp at h
 |_::_,[],_,_,_,_,h,_=>by simp at h
 | p::P,w::vs,0,m,nd,h1,h2,hk=>by
   simp at h1 h2;subst h1;subst h2
   show bindL kindOf ((p,w)::P.zip vs) m p=_
   unfold bindL
   rw[q9l λv hv=>(List.nodup_cons.mp nd).1 (List.of_mem_zip hv).1,if_pos hk]
   simp
 | p::P,w::vs,i+1,m,nd,h1,h2,hk=>by
   show bindL kindOf ((p,w)::P.zip vs) m x=_
   unfold bindL
   exact q9m (i:=i) (List.nodup_cons.mp nd).2 (by simpa using h1) (by simpa using h2) hk
theorem q9o{kindOf:Str->Option NameKind}{x:Str}{v:Value}:∀{P:List Str} {vs:List Value} {i:Nat} {m:Str->Option Value},P.Nodup->P[i]? =some x->vs[i]? =some v->kindOf x≠some .local->
   bindC kindOf (P.zip vs) m x=some v
 |[],_,_,_,_,h,_,_=>by simp at h
 |_::_,[],_,_,_,_,h,_=>by simp at h
 | p::P,w::vs,0,m,nd,h1,h2,hk=>by
   simp at h1 h2;subst h1;subst h2
   show bindC kindOf ((p,w)::P.zip vs) m p=_
   unfold bindC
   rw[q9n λv hv=>(List.nodup_cons.mp nd).1 (List.of_mem_zip hv).1,if_neg hk]
   simp
 | p::P,w::vs,i+1,m,nd,h1,h2,hk=>by
   show bindC kindOf ((p,w)::P.zip vs) m x=_
   unfold bindC
   exact q9o (i:=i) (List.nodup_cons.mp nd).2 (by simpa using h1) (by simpa using h2) hk
def start(N:List Str)(vs:List V):St:=vs.map some++List.replicate (N.length-vs.length) none
def cxOf(CX:CXT)(P:Program)(w:World)(K:PySem.W.Frag)(mg:Str->Option Value)(base:Heap)(N:List Str)(qual:Str)(scope:Scope)(f:Addr)(cd:Value)(A:Around)(outer:List Env)(s:Shared)(H:Hp)(E:XK):Cx where
 prog:=P
 w:=w
 K:=K
 mg:=mg
 base:=base
 A:=A.deeper (envOfC qual scope s.heap.objs.size f cd)
 N:=N
 s₀:=s
 H₀:=H
 env:=envOfC qual scope s.heap.objs.size f cd
 outer:=outer
 stack:=envOfC qual scope s.heap.objs.size f cd::outer
 ex:=[]
 calm:=true
 fn:=λ_=>true
 pn:=[]
 xe:=λe s'=>wpAny (model P w) (A.deeper (envOfC qual scope s.heap.objs.size f cd)) (leaving (envOfC qual scope s.heap.objs.size f cd) e) (λ_ s''=>CX outer H s E e s'') (λe' s''=>CX outer H s E e' s'') s'
theorem qc3{sc:Scope}{n:Nat}{x:Str}(h:sc.names.lookup x=some .cell):∃c,(cellsFrom n sc.names []).lookup x=some c:=by
 have q:=PySem.W.cellsFrom_some sc.names n [] (.inl h)
 exact Option.isSome_iff_exists.mp q
theorem qfu{CX:CXT}{P:Program}{w:World}{K:PySem.W.Frag}{mg:Str->Option Value}{base:Heap}{N ps:List Str}{qual:Str}{scope:Scope}{f:Addr}{cd:Value}{A:Around}{outer:List Env}{s s1:Shared}{H:Hp}{E:XK}{us:List Value}{vs:List V}
   (S:q0p N ps scope) (hd:A.handled=none) (e0:Env0 P w K mg base A outer s H) (hl:vs.length=ps.length) (r:Vals vs us)
   (x:InCallC s s.heap.objs.size (bindL (envOfC qual scope s.heap.objs.size f cd).kindOf (ps.zip us) λ_=>none) (cellsFrom (s.heap.objs.size+1) scope.names []) (bindC (envOfC qual scope s.heap.objs.size f cd).kindOf (ps.zip us) λ_=>none) s1):
   Inv (cxOf CX P w K mg base N qual scope f cd A outer s H E) [] (start N vs) H s1:=by
 have hpl:ps.length<=N.length:=by have:=congrArg List.length S.pre;rw[jz]at this;omega
 obtain⟨h1,tk,rfl,hk⟩:=x.done
 have noA:∀b:Addr,b∉(cxOf CX P w K mg base N qual scope f cd A outer s H E).ex:=λb z=>absurd (show b∈([]:List Addr)from z) (by simp)
 refine⟨⟨e0.mod,S.kind,rfl,rfl,ja _,λy z c h1 h2=>?_,λy hy=>?_,λy c _ h=>?_,λ_=>hd,Around.frames_deeper e0.frames,.inr ⟨rfl,rfl⟩,λb z=>absurd z (noA b),e0.bs,e0.bsz,λb _ _=>noA b,λb z=>absurd z (noA b),e0.funs,e0.frf⟩,
   rfl,e0.bare,Un.kept hk,⟨_,x.toInCall.ns,λi y v h1 h2 h3=>?_⟩,λy c h=>⟨_,x.cell y c h⟩,e0.hok.fresh (ja _),λy c h=>?_,λp hp=>absurd (show p∈([]:List (Addr×Obj))from hp) (by simp),e0.hok.kept hk,?_⟩
 · exact name_of_addr x.apart (PySem.mem_of_lookup h1) (PySem.mem_of_lookup h2)
 · have hy:scope.names.lookup y=some .cell∨scope.names.lookup y=some .free:=hy
   rcases hy with hy|hy
   · exact qc3 hy
   · exact absurd rfl (S.nofree _ (PySem.mem_of_lookup hy))
 · exact Nat.le_of_lt (x.above y c (PySem.mem_of_lookup h))
 · have hi:i<vs.length:=by
     unfold start at h2
     by_cases hi:i<vs.length
     · exact hi
     · rw[xk (by simpa using hi)]at h2
       rw[xx]at h2
       split at h2<;>cases h2
   have ha:vs[i]? =some v:=by
     unfold start at h2
     rw[xy (by simpa using hi),jb]at h2
     cases e:vs[i]? with
     |none=>rw[e]at h2;cases h2
     |some a=>rw[e]at h2;cases h2;rfl
   obtain⟨u,hu,rv⟩:=r.get ha
   have hp:ps[i]? =some y:=by
     rw[<-S.pre,List.getElem?_take_of_lt (by omega)];exact h1
   have ndP:ps.Nodup:=by rw[<-S.pre];exact S.nd.sublist (List.take_sublist _ _)
   refine⟨u,rv,?_⟩
   rcases S.par y (x9 hp)with k|k
   · exact .inl ⟨k,q9m ndP hp hu k⟩
   · obtain⟨c,e⟩:=qc3 (n:=s.heap.objs.size+1) k
     refine .inr ⟨.inl k,c,e,?_⟩
     have q:=x.cell y c e
     rw[q9o ndP hp hu (by show scope.names.lookup y≠_;rw[k];decide)]at q
     exact q
 · exact e0.hok.fresh (Nat.le_of_lt (x.above y c (PySem.mem_of_lookup h)))
 · unfold start
   show _=N.length
   rw[jd,j6,ji]
   omega
theorem qtj{CX:CXT}{P:Program}{w:World}{K:PySem.W.Frag}{mg:Str->Option Value}{base:Heap}{k:Nat}{f:Addr}{name qual:Str}{params:Arguments}{body:List Stmt}{scope:Scope}{dV kV doc pm cdv ct oc:Value}{an od:Option Addr}
   {osl:Array (Option Value)} {N ps:List Str} {sp:Sp} (lk:K.lookup f=some ⟨oc,od,.func (PySem.W.fnOf name qual params body scope dV kV doc pm an cdv ct),osl⟩) (hcd:PySem.W.codeIn K cdv qual=true) (S:q0p N ps scope)
   (len:∀vs H Q E,sp vs H Q E->vs.length=ps.length)
   (zz:∀(A:Around) (outer:List Env) (s:Shared) (H:Hp) (vs:List V) (Q:VK) (E:XK),Room k (A.deeper (envOfC qual scope s.heap.objs.size f cdv))->sp vs H Q E->
     ∃t,PSs (cxOf CX P w K mg base N qual scope f cdv A outer s H E) body t/\t {nx:=λ_ H'=>Q .non H',rt:=Q} (start N vs) H):
   FnOk P w K mg base CX (k+1) f (PySem.W.fnOf name qual params body scope dV kV doc pm an cdv ct) ps sp:=by
 refine⟨len,λA outer s H args us vs Q E hr e0 hb r hsp=>?_⟩
 have hl:=len _ _ _ _ hsp
 have KX:K.In s.heap:=e0.mod.kin.keeps λb o e=>(e0.bs b o e).1
 have lim:s.heap.NoLimit:=e0.mod.nolimit.keeps λb o e=>(e0.bs b o e).1
 have hkind:∀y∈ps.zip us,scope.names.lookup y.1=some .local∨(scope.names.lookup y.1=some .cell/\((cellsFrom (s.heap.objs.size+1) scope.names []).lookup y.1).isSome=true):=λ⟨n,v⟩ hy=>by
   rcases S.par n (List.of_mem_zip hy).1 with q|q
   · exact .inl q
   · exact .inr ⟨q,PySem.W.cellsFrom_some _ _ _ (.inl q)⟩
 refine codeAny_call_function hr.depth (KX _ _ lk) rfl S.co S.gen rfl (PySem.W.codeRec_of KX hcd) (hb _ _ _ _ ?_)
 refine wpAny_newFunctionEnv_cells S.kind hkind λenv he s1 x=>?_
 subst he
 refine⟨lim.keeps x.toInCall.keep,codeAny_func ?_⟩
 obtain⟨t,ht,hq⟩:=zz A outer s H vs Q E (hr.deeper _) hsp
 have I:Inv (cxOf CX P w K mg base N qual scope f cdv A outer s H E) [] (start N vs) H s1:=qfu S hr.hd e0 hl r x
 refine xg (ht [] s1 (start N vs) H _ I hq) (λfl s' hs=>?_) λe s' hs=>hs
 have fin:∀{σ':St} {H':Hp} {v:V} {u:Value},Inv (cxOf CX P w K mg base N qual scope f cdv A outer s H E) [] σ' H' s'->RelV v u->Q v H'->CE outer P w H s Q u s':=
   λ{σ' H' v u} J rv q=>⟨v,H',J.os,J.bare,J.base,J.hok,rv,q⟩
 cases fl with
 | ret u=>
   obtain⟨v,σ',H',J,rv,q⟩:=hs
   exact fin J rv q
 | next=>
   obtain⟨σ',H',J,q⟩:=hs
   exact fin (v:=V.non) (u:=Value.none) J rfl q
 | brk=>
   obtain⟨_,_,_,q⟩:=hs
   exact False.elim q
 | cont=>
   obtain⟨_,_,_,q⟩:=hs
   exact False.elim q
section
variable{X:Cx}{x:Str}{p pos:Pos}{e:Expr}{es:List Expr}{t:TA}{id T:String}{r:List V->Hp->VK->Prop}
def tCB(r:List V->Hp->VK->Prop)(t:TA):TE:=λσ H Q=>t σ H λvs H1=>r vs H1 Q
theorem q1h(hc:q68 X (.builtin id) r)(hg:Gl X x)(hm:X.mg x=none)(hv:bootBuiltins x=some (.builtin id))(ha:PA X (e::es) t)(hn:x≠"__name__":=by decide)(hdb:(x==("__debug__":Str))=false:=by decide)
   (he:starEach (e::es) X.env=(false,eval e X.env)::starEach es X.env:=by rfl) (hpl:(backTo pos (starEach es X.env)).any (·.1)=false:=by rfl):PE X (.Call (.Name x p) (e::es) [] pos) (tCB r t):=by
 intro z5 s σ H Q I h
 refine xo (q4f I hg hm hv ?_ hn hdb)
 exact PyProof.Rows.callWith_builtin1 (thn (ha pos z5 s σ H _ I h) λus s1 ⟨vs,H1,I1,r1,q1⟩=>hc z5 s1 σ H1 vs us Q I1 r1 q1) he hpl
theorem q3p(hc:q68 X (.type T) r)(hg:Gl X x)(hm:X.mg x=none)(hv:bootBuiltins x=some (.type T))(ha:PA X (e::es) t)(hn:x≠"__name__":=by decide)(hdb:(x==("__debug__":Str))=false:=by decide)
   (he:starEach (e::es) X.env=(false,eval e X.env)::starEach es X.env:=by rfl) (hpl:(backTo pos (starEach es X.env)).any (·.1)=false:=by rfl):PE X (.Call (.Name x p) (e::es) [] pos) (tCB r t):=by
 intro z5 s σ H Q I h
 refine xo (q4f I hg hm hv ?_ hn hdb)
 exact PyProof.Rows.callWith_type1 (thn (ha pos z5 s σ H _ I h) λus s1 ⟨vs,H1,I1,r1,q1⟩=>hc z5 s1 σ H1 vs us Q I1 r1 q1) he hpl
end
end L2
namespace HT
open PySem PyProof.Rows
def lexLt:List Int->List Int->Bool
 |[],[]=>false
 |[],_::_=>true
 |_::_,[]=>false
 |x::xs,y::ys=>if x=y then lexLt xs ys else decide (x<y)
theorem lexLt_cons(x y:Int)(xs ys:List Int):lexLt (x::xs) (y::ys)=if x=y then lexLt xs ys else decide (x<y):=rfl
theorem eqAt_int(A:Around)(s:Shared)(a:Int)(t:Tok)(c:Int)(u:Tok):∃e,SeqAt.EqAt A s (.int a t) (.int c u) e/\(e=true↔a=c):=
 ⟨(a==c),SeqAt.EqAt.int_int a t c u,by simp⟩
theorem rcLt_int(A:Around)(s:Shared)(a:Int)(t:Tok)(c:Int)(u:Tok)(prog:Program)(w:World)(E:Value->Shared->Prop)(Q:Value->Shared->Prop)(h:Q (.bool (decide (a<c))) s):
   wpAny (model prog w) A (richCompare .Lt (.int a t) (.int c u)) Q E s:=
 (PyProof.Rows.lt_int h:wpAny (model prog w) A (compareOp .Lt (.int a t) (.int c u)) Q E s)
section
open PySem.SeqAt
open PySem.AutoSeq1 (wpAny_loadPart')
open PySem.MeetsSeq PySem.MeetsSeq2 PySem.MeetsSeq3
end
section
variable{prog:Program}{w:World}{A:Around}{E:Value->Shared->Prop}{s:Shared}
def sIx(n d:Nat):Option Int->Nat
 |none=>d
 |some v=>if v<0 then(v+(n:Int)).toNat else min v.toNat n
theorem sIx_none(n d:Nat):sIx n d none=d:=rfl
theorem qoi(n d:Nat)(hd:d<=n)(o:Option Int):sIx n d o<=n:=by
 cases o with
 |none=>exact hd
 | some v=>
   show(if v<0 then(v+(n:Int)).toNat else min v.toNat n)<=n
   by_cases hv:v<0
   · rw[if_pos hv];omega
   · rw[if_neg hv];exact Nat.min_le_right _ _
theorem qga(v:Int)(n d:Nat):(if v<0 then max (v+(n:Int)) 0 else min v (n:Int))=((sIx n d (some v):Nat):Int):=by
 show(if v<0 then max (v+(n:Int)) 0 else min v (n:Int))=(((if v<0 then(v+(n:Int)).toNat else min v.toNat n):Nat):Int)
 by_cases hv:v<0
 · simp only[if_pos hv];omega
 · simp only[if_neg hv];omega
theorem qdz(lo hi:Option Int)(n:Nat):Builtin.Slice.sliceAdjust lo hi 1 (n:Int)=(((sIx n 0 lo:Nat):Int),((sIx n n hi:Nat):Int)):=by
 have h1:¬((1:Int)<0):=by omega
 unfold Builtin.Slice.sliceAdjust
 simp only[h1,if_false]
 refine Prod.ext ?_ ?_
 · cases lo with
   |none=>rfl
   |some v=>exact qga v n 0
 · cases hi with
   |none=>rfl
   |some v=>exact qga v n n
theorem qd6(i j:Nat):Builtin.Slice.slicePlaces (i:Int) (j:Int) 1=j-i:=by
 unfold Builtin.Slice.slicePlaces
 have h1:(1:Int)>0:=by omega
 simp only[h1,if_true,Int.ediv_one]
 split<;>omega
theorem q7k{v:Value}{o:Option Int}{Q:Option Int->Shared->Prop}(p:IsPart v o)(h:Q o s):wpAny (model prog w) A (Builtin.Slice.slicePartIndex v) Q E s:=by
 cases p with
 |none=>exact slicePart_none h
 |int i t=>exact slicePart_int h
theorem q61{sl:Addr}{vl vu:Value}{lo hi:Option Int}{n:Nat}{Q:Int×Int×Nat->Shared->Prop}(hs:s.heap.IsSliceOf sl vl vu .none)(pl:IsPart vl lo)(pu:IsPart vu hi)
   (h:Q (((sIx n 0 lo:Nat):Int),1,sIx n n hi-sIx n 0 lo) s):wpAny (model prog w) A (Builtin.Slice.sliceApplied (.ref sl) (pure (n:Int))) Q E s:=by
 obtain⟨os,hos,hcs,hds⟩:=id hs
 unfold Builtin.Slice.sliceApplied Builtin.Slice.sliceFields
 refine j5 (j5 (xh hos hds (x:=vl) rfl (j5 (xh hos hds (x:=vu) rfl (j5 (xh hos hds (x:=.none) rfl (j7 ?_)))))))
 refine j5 (slicePart_none ?_)
 show wpAny _ _ (if((1:Int)==0)=true then _ else _) _ _ s
 rw[if_neg (by decide)]
 refine j5 (q7k pl (j5 (q7k pu (j5 (j7 ?_)))))
 show wpAny _ _ (match Builtin.Slice.sliceAdjust lo hi 1 (n:Int)with|(lo,hi)=>pure (lo,(1:Int),Builtin.Slice.slicePlaces lo hi 1)) _ _ s
 rw[qdz lo hi n]
 show wpAny _ _ (pure (((sIx n 0 lo:Nat):Int),(1:Int),Builtin.Slice.slicePlaces ((sIx n 0 lo:Nat):Int) ((sIx n n hi:Nat):Int) 1)) _ _ s
 rw[qd6]
 exact j7 h
theorem qhj(xs:Array Value)(i k:Nat):((List.range k).filterMap λ(m:Nat)=>xs[((i:Int)+(m:Int)*1).toNat]?).toArray=((xs.toList.drop i).take k).toArray:=by
 have e:(λ(m:Nat)=>xs[((i:Int)+(m:Int)*1).toNat]?)=λm=>xs[i+m]? :=by
   funext m
   have:((i:Int)+(m:Int)*1).toNat=i+m:=by omega
   rw[this]
 rw[e]
 have:=pick_run xs i k
 rw[List.filterMap_map]at this
 have e2:((λx=>xs[x]?)∘λx=>i+x)=λm=>xs[i+m]? :=rfl
 rw[e2]at this
 rw[this]
theorem getItem_tuple_cut{t sl:Addr}{items:Array Value}{vl vu:Value}{lo hi:Option Int}{Q:Value->Shared->Prop}(ht:IsTup s.heap t items)(hs:s.heap.IsSliceOf sl vl vu .none)(pl:IsPart vl lo)(pu:IsPart vu hi)
   (hw:¬(sIx items.size 0 lo=0/\sIx items.size items.size hi=items.size))
   (h:Q (.ref s.heap.objs.size) {s with heap:=s.heap.push {cls:=.type "tuple",data:=.seq ((items.toList.drop (sIx items.size 0 lo)).take (sIx items.size items.size hi-sIx items.size 0 lo)).toArray}})
   (hsz:items.size<=sizeLine):wpAny (model prog w) A (getItem (.ref t) (.ref sl)) Q E s:=by
 have htake:sizeOk (.seq ((items.toList.drop (sIx items.size 0 lo)).take (sIx items.size items.size hi-sIx items.size 0 lo)).toArray):=by
   show((items.toList.drop (sIx items.size 0 lo)).take (sIx items.size items.size hi-sIx items.size 0 lo)).toArray.size<=sizeLine
   rw[jv,jz,xl,Array.length_toList]
   omega
 have hj:sIx items.size items.size hi<=items.size:=qoi _ _ (ja _) hi
 obtain⟨os,hos,hcs,hds⟩:=id hs
 have hTs:s.TypeIs (.ref sl) "slice":=⟨os,hos,hcs⟩
 unfold getItem
 try with_reducible refine xu ?_
 first|refine j5 (j7 ?_)|skip
 refine j5 (wpAny_sequenceKey ht.typeIs (by decide) ?_)
 refine j5 (k7 (name:=Str.ofString "__getitem__") ht.typeIs PyProof.Rows.slot_tuple_getitem
   (k6 PyProof.Rows.slot_tuple_getitem ht.typeIs entry_tuple_getitem ?_ (args_tuple_getitem _ _)))
 show wpAny _ _ (Builtin.Tuple.tupleItemsOf (.ref t) >>= _) _ _ s
 refine j5 (tupleItemsOf_ ht ?_)
 refine j5 (wpAny_typeOf hTs ?_)
 rw[if_pos (by decide)]
 refine j5 (q61 hs pl pu ?_)
 have hno:¬((((sIx items.size 0 lo:Nat):Int)==0&&(1:Int)==1&&(sIx items.size items.size hi-sIx items.size 0 lo)==items.size)=true):=by
   intro q
   rw[Bool.and_eq_true,Bool.and_eq_true]at q
   have q1:((sIx items.size 0 lo:Nat):Int)=0:=eq_of_beq q.1.1
   have q2:sIx items.size items.size hi-sIx items.size 0 lo=items.size:=eq_of_beq q.2
   exact hw ⟨by omega,by omega⟩
 show wpAny _ _ (if(((sIx items.size 0 lo:Nat):Int)==0&&(1:Int)==1&&(sIx items.size items.size hi-sIx items.size 0 lo)==items.size)=true then _ else _) _ _ s
 rw[if_neg hno,qhj]
 first
   |exact j5 (m:=Builtin.Tuple.tupleExact _) (xq (j7 ⟨_,rfl,j7 h⟩) htake)
   |exact j5 (m:=Builtin.Tuple.tupleExact _) (xq (j5 (j7 (j7 ⟨_,rfl,j7 h⟩))) htake)
   |exact j5 (j5 (m:=Builtin.Tuple.tupleExact _) (xq (j7 (j7 ⟨_,rfl,j7 h⟩)) htake))
   |exact j5 (j5 (m:=Builtin.Tuple.tupleExact _) (xq (j7 ⟨_,rfl,j7 h⟩) htake))
end
end HT
namespace L2
open PySem PySem.Spec PyProof.Rows
abbrev TO:=St->Hp->(Option Int->Hp->Prop)->Prop
def PO(X:Cx)(e:Option Expr)(t:TO):Prop:=
 ∀(z5:List (Addr×Obj)) (s:Shared) (σ:St) (H:Hp) (Q:Option Int->Hp->Prop),Inv X z5 σ H s->t σ H Q->
   wpAny (model X.prog X.w) X.A (evalPart e X.env) (λu s'=>∃o H',Inv X z5 σ H' s'/\IsPart u o/\Q o H') X.xe s
def qe9:TO:=λ_ H Q=>Q none H
def qnl(t:TE):TO:=λσ H Q=>t σ H λx H1=>∃i,x=.int i/\Q (some i) H1
theorem intsAre_of{ns:List Int}:∀{us:List Value},Vals (ns.map V.int) us->IntsAre us ns:=by
 induction ns with
 |nil=>intro us r;rw[List.map_nil]at r;cases r;exact .nil
 | cons n ns ih=>
   intro us r
   rw[jw]at r
   cases r with
   | cons r1 r2=>
     obtain⟨t,e⟩:=r1
     subst e
     exact .cons n t (ih r2)
section
variable{X:Cx}{e:Expr}{te:TE}{lo hi:Option Expr}{tl th:TO}{pos p2:Pos}
theorem q83:PO X none qe9:=by
 intro z5 s σ H Q I h
 rw[evalPart_none]
 exact j7 ⟨none,H,I,.none,h⟩
theorem q4a(h:PE X e te):PO X (some e) (qnl te):=by
 intro z5 s σ H Q I hw
 rw[evalPart_some]
 refine thn (h z5 s σ H _ I hw) λu s1 ⟨x,H1,I1,r1,q1⟩=>?_
 obtain⟨i,rfl,q⟩:=q1
 obtain⟨t,rfl⟩:=r1
 exact⟨some i,H1,I1,.int i t,q⟩
def SlR(X:Cx)(r:V->Option Int->Option Int->Hp->VK->Prop):Prop:=
 ∀(z5:List (Addr×Obj)) (s:Shared) (σ:St) (H:Hp) (x:V) (v vl vu:Value) (lo hi:Option Int) (sl:Addr) (Q:VK),Inv X z5 σ H s->RelV x v->s.heap.IsSliceOf sl vl vu .none->IsPart vl lo->IsPart vu hi->r x lo hi H Q->
   ∃T id,typeLookup (.type T) "__getitem__"=pure (some (.builtin id))/\s.TypeIs v T/\wpAny (model X.prog X.w) X.A (getItem v (.ref sl)) (EP X z5 σ Q) X.xe s
theorem SlR.or{r r':V->Option Int->Option Int->Hp->VK->Prop}(h:SlR X r)(h':SlR X r'):SlR X (λx lo hi H Q=>r x lo hi H Q∨r' x lo hi H Q):=by
 intro z5 s σ H x v vl vu lo hi sl Q I rx hs pl pu q
 rcases q with q|q
 · exact h z5 s σ H x v vl vu lo hi sl Q I rx hs pl pu q
 · exact h' z5 s σ H x v vl vu lo hi sl Q I rx hs pl pu q
def tSl(r:V->Option Int->Option Int->Hp->VK->Prop)(te:TE)(tl th:TO):TE:=λσ H Q=>te σ H λx H1=>tl σ H1 λl H2=>th σ H2 λu H3=>r x l u H3 Q
theorem q4j{r:V->Option Int->Option Int->Hp->VK->Prop}(hr:SlR X r)(he:PE X e te)(hl:PO X lo tl)(hu:PO X hi th):PE X (.Subscript e (.Slice lo hi none p2) pos) (tSl r te tl th):=by
 intro z5 s σ H Q I h
 refine Subscript_ (thn (he z5 s σ H _ I h) λv s1 ⟨x,H1,I1,r1,q1⟩=>?_)
 refine wpAny_Slice (thn (hl z5 s1 σ H1 _ I1 q1) λvl s2 ⟨l,H2,I2,pl,q2⟩=>thn (hu z5 s2 σ H2 _ I2 q2) λvu s3 ⟨u,H3,I3,pu,q3⟩=>?_)
 rw[evalPart_none]
 refine j7 ?_
 have I4:Inv X z5 σ H3 {s3 with heap:=s3.heap.push {cls:=.type "slice",data:=.fields #[vl,vu,.none]}}:=I3.kept (t':=s3.toks) λb ob q=>j9 _ q
 obtain⟨T,id,hT,ht,hg⟩:=hr z5 {s3 with heap:=s3.heap.push {cls:=.type "slice",data:=.fields #[vl,vu,.none]}} σ H3 x v vl vu l u s3.heap.objs.size Q I4 r1 (Heap.IsSliceOf.new ..) pl pu q3
 show wpAny (model X.prog X.w) X.A (subscriptTail e (.Slice lo hi none p2) v (.ref s3.heap.objs.size)) (EP X z5 σ Q) X.xe {s3 with heap:=s3.heap.push {cls:=.type "slice",data:=.fields #[vl,vu,.none]}}
 exact tail_any (ops:=[.ref s3.heap.objs.size,v]) ht hT hg (by with_unfolding_all rfl)
def cutV(xs:List V)(lo hi:Option Int):List V:=(xs.drop (HT.sIx xs.length 0 lo)).take (HT.sIx xs.length xs.length hi-HT.sIx xs.length 0 lo)
theorem q79(xs:List V)(lo hi:Option Int):(cutV xs lo hi).length<=xs.length:=by
 unfold cutV
 rw[jz,xl]
 omega
def rSlT(K:PySem.W.Frag):V->Option Int->Option Int->Hp->VK->Prop:=λx lo hi H Q=>∃a xs,x=.ref a/\SqT K H a xs/\
 ¬(HT.sIx xs.length 0 lo=0/\HT.sIx xs.length xs.length hi=xs.length)/\∀p,H p=none->Q (.ref p) (upd H p (.tup (cutV xs lo hi)))
theorem qnu:SlR X (rSlT X.K):=by
 intro z5 s σ H x v vl vu lo hi sl Q I rx hs pl pu h
 obtain⟨a,xs,rfl,hx,hw,q⟩:=h
 cases rx
 obtain⟨its,r,ht,hz⟩:=I.tuple hx
 have zd:its.toArray.size=xs.length:=by rw[jv];exact r.length.symm
 refine⟨"tuple",_,PyProof.Rows.slot_tuple_getitem.lookup,ht.typeIs,?_⟩
 refine HT.getItem_tuple_cut ht hs pl pu (by rw[zd];exact hw) ?_ (by rw[zd];exact hz)
 rw[zd]
 refine⟨.ref s.heap.objs.size,_,I.laid (t':=s.toks) (o:=.tup (cutV xs lo hi)) (λb ob q=>j9 _ q) (ja _) ?_,rfl,q _ (I.hok.fresh (ja _))⟩
 exact⟨jt (q79 xs lo hi) hz,_,(r.drop (HT.sIx xs.length 0 lo)).take (HT.sIx xs.length xs.length hi-HT.sIx xs.length 0 lo),TupN.new _ _⟩
theorem Vals.nil_iff{xs:List V}{us:List Value}(r:Vals xs us):us=[]↔xs=[]:=by
 cases r with
 |nil=>simp
 |cons _ _=>simp
end
def ixN(n:Nat)(i:Int):Option Nat:=if 0<=i then(if i<n then some i.toNat else none)else if -(n:Int)<=i then some (i+n).toNat else none
def atI{α:Type}(xs:List α)(i:Int):Option α:=(ixN xs.length i).bind λj=>xs[j]?
theorem qm1{n:Nat}{i:Int}{j:Nat}(h:ixN n i=some j):seqIndex? i n=some j/\j<n/\ -(n:Int)<=i/\i<n:=by
 unfold ixN at h
 by_cases h0:0<=i
 · rw[if_pos h0]at h
   by_cases h1:i<n
   · rw[if_pos h1]at h
     have e:i.toNat=j:=je h
     exact⟨by rw[seqIndex_of h0 h1,e],by omega,by omega,h1⟩
   · rw[if_neg h1]at h;cases h
 · rw[if_neg h0]at h
   by_cases h1: -(n:Int)<=i
   · rw[if_pos h1]at h
     have e:(i+n).toNat=j:=je h
     exact⟨by rw[seqIndex_neg (by omega) h1,e],by omega,h1,by omega⟩
   · rw[if_neg h1]at h;cases h
theorem qaw{α:Type}{xs:List α}{i:Int}{v:α}(h:atI xs i=some v):∃j,seqIndex? i xs.length=some j/\xs[j]? =some v/\j<xs.length/\ -(xs.length:Int)<=i/\i<xs.length:=by
 unfold atI at h
 cases e:ixN xs.length i with
 |none=>rw[e]at h;cases h
 | some j=>
   rw[e]at h
   obtain⟨h1,h2,h3,h4⟩:=qm1 e
   exact⟨j,h1,h,h2,h3,h4⟩
theorem qav{α:Type}{xs:List α}{j:Nat}{v:α}(h:xs[j]? =some v):atI xs (j:Int)=some v:=by
 have hj:j<xs.length:=(List.getElem?_eq_some_iff.mp h).1
 have e:ixN xs.length (j:Int)=some j:=by
   unfold ixN
   rw[if_pos (by omega),if_pos (by omega)];simp
 unfold atI;rw[e];exact h
def qnb(b:Expr):Prop:=∀o i,subscripted b false o i=operate [o,i] (getItem o i)
def IxR(X:Cx)(r:R2):Prop:=
 ∀(value zf:Expr) (z5:List (Addr×Obj)) (s:Shared) (σ:St) (H:Hp) (x y:V) (v u:Value) (Q:VK),Inv X z5 σ H s->RelV x v->RelV y u->r x y H Q->
   subscripted zf false v u=operate [v,u] (getItem v u)->wpAny (model X.prog X.w) X.A (subscriptTail value zf v u) (EP X z5 σ Q) X.xe s
def MtR(X:Cx)(id:String)(r:V->List V->Hp->VK->Prop):Prop:=
 ∀(z5:List (Addr×Obj)) (s:Shared) (σ:St) (H:Hp) (x:V) (xs:List V) (v:Value) (us:List Value) (Q:VK),Inv X z5 σ H s->RelV x v->Vals xs us->r x xs H Q->
   wpAny (model X.prog X.w) X.A (call (.builtin id) (v::us)) (EP X z5 σ Q) X.xe s
section
variable{X:Cx}{a b:Expr}{ta tb:TE}{pos:Pos}
theorem IxR.or{r r':R2}(h:IxR X r)(h':IxR X r'):IxR X (λx y H Q=>r x y H Q∨r' x y H Q):=by
 intro value zf z5 s σ H x y v u Q I rx ry q hs
 rcases q with q|q
 · exact h value zf z5 s σ H x y v u Q I rx ry q hs
 · exact h' value zf z5 s σ H x y v u Q I rx ry q hs
theorem q0w{r:R2}(hr:IxR X r)(ha:PE X a ta)(hb:PE X b tb)(hs:qnb b:=by exact λ_ _=>rfl):PE X (.Subscript a b pos) (tOp r ta tb):=by
 intro z5 s σ H Q I h
 exact Subscript_ (binT ha hb I h λv u s2 x y H2 I2 rx ry q=>hr a b z5 s2 σ H2 x y v u Q I2 rx ry q (hs _ _))
def rIxL(K:PySem.W.Frag):R2:=λx y H Q=>∃p xs i v,x=.ref p/\y=.int i/\SqL K H p xs/\atI xs i=some v/\Q v H
def rIxT(K:PySem.W.Frag):R2:=λx y H Q=>∃p xs i v,x=.ref p/\y=.int i/\SqT K H p xs/\atI xs i=some v/\Q v H
def rIxS:R2:=λx y H Q=>∃z i c,x=.str z/\y=.int i/\z.length<=sizeLine/\atI z.cps.toList i=some c/\Q (.str ⟨#[c]⟩) H
theorem ix_list:IxR X (rIxL X.K):=by
 intro value zf z5 s σ H x y v u Q I rx ry h hs
 obtain⟨p,xs,i,z,rfl,rfl,hq,he,q⟩:=h
 cases rx
 obtain⟨t,rfl⟩:=ry
 obtain⟨its,r,pl,hz⟩:=I.list hq
 obtain⟨j,h1,h2,h3,h4,h5⟩:=qaw he
 obtain⟨w,ew,rw'⟩:=r.get h2
 have hl:=r.length
 have hn:=qbs
 have fin:EP X z5 σ Q w s:=⟨z,H,I,rw',q⟩
 by_cases h0:0<=i
 · have hj:i.toNat=j:=by
     rw[seqIndex_of h0 h5]at h1
     exact je h1
   exact item_listR pl.isList h0 (by omega) (by rw[hj];simpa using ew) fin hs
 · have hj:(i+(its.toArray.size:Int)).toNat=j:=by
     rw[seqIndex_neg (by omega) h4]at h1
     rw[jv,<-hl]
     exact je h1
   exact subscriptTail_builtinR (x:=w) pl.isList.typeIs slot_list_getitem.lookup
     (wpAny_getItem_list_neg (Q:=λr s'=>r=w/\EP X z5 σ Q r s') pl.isList (by omega) (by rw[jv]<;>omega) (by omega) (by rw[hj];simpa using ew) ⟨rfl,fin⟩) hs
theorem ix_tup:IxR X (rIxT X.K):=by
 intro value zf z5 s σ H x y v u Q I rx ry h hs
 obtain⟨p,xs,i,z,rfl,rfl,hq,he,q⟩:=h
 cases rx
 obtain⟨t,rfl⟩:=ry
 obtain⟨its,r,pl,hz⟩:=I.tuple hq
 obtain⟨j,h1,h2,h3,h4,h5⟩:=qaw he
 obtain⟨w,ew,rw'⟩:=r.get h2
 have hl:=r.length
 have hn:=qbs
 have fin:EP X z5 σ Q w s:=⟨z,H,I,rw',q⟩
 exact subscriptTail_builtinR (x:=w) pl.typeIs slot_tuple_getitem.lookup
   (getItem_tuple (j:=j) (Q:=λr s'=>r=w/\EP X z5 σ Q r s') pl (by omega) (by omega) (by rw[jv,<-hl];exact h1) (by simpa using ew) ⟨rfl,fin⟩) hs
theorem qqy:IxR X rIxS:=by
 intro value zf z5 s σ H x y v u Q I rx ry h hs
 obtain⟨z,i,c,rfl,rfl,hz,he,q⟩:=h
 obtain⟨t,rfl⟩:=rx
 obtain⟨t',rfl⟩:=ry
 obtain⟨j,h1,h2,h3,h4,h5⟩:=qaw he
 have hl:z.cps.toList.length=z.length:=by simp[Str.length]
 rw[hl]at h1 h4 h5
 have hn:=qbs
 exact tail_any (typeIs_str s z t) slot_str_getitem.lookup (getItem_str (c:=c) (by
   have e1:decide (i< -(2^63:Int))=false:=decide_eq_false (by omega)
   have e2:decide (i≥2^63)=false:=decide_eq_false (by omega)
   rw[e1,e2,Bool.or_false]) (by rw[h1];simpa using h2) ⟨.str ⟨#[c]⟩,H,I.tok _,⟨_,rfl⟩,q⟩) hs
def rIx(K:PySem.W.Frag):R2:=λx y H Q=>rIxL K x y H Q∨rIxT K x y H Q∨rIxS x y H Q
theorem qqz:IxR X (rIx X.K):=ix_list.or (ix_tup.or qqy)
theorem Inv.lst{z5:List (Addr×Obj)}{σ:St}{H:Hp}{s:Shared}{p:Addr}{xs:List V}(I:Inv X z5 σ H s)(h:H p=some (.lst xs)):
   ∃(its:List Value) (n:Nat),Vals xs its/\s.heap.get? p=some {cls:=.type "list",data:=.seq its.toArray n}/\xs.length<=sizeLine:=by
 obtain⟨z,its,n,r,e⟩:=I.hok p _ h
 exact⟨its,n,r,e,z⟩
theorem q8s(lo hi:Option Int)(n:Nat):(sliceBounds lo hi none n).1=((HT.sIx n 0 lo:Nat):Int)/\(sliceBounds lo hi none n).2.1=((HT.sIx n n hi:Nat):Int)/\(sliceBounds lo hi none n).2.2=1:=by
 refine⟨?_,?_,rfl⟩
 · cases lo with
   |none=>simp[sliceBounds,HT.sIx]
   | some i=>
     simp only[sliceBounds,HT.sIx,Option.getD_none,show(1:Int)>0 by decide,if_true]
     by_cases h:i<0
     · simp only[h,if_true]<;>omega
     · simp only[h,if_false]<;>omega
 · cases hi with
   |none=>simp[sliceBounds,HT.sIx]
   | some i=>
     simp only[sliceBounds,HT.sIx,Option.getD_none,show(1:Int)>0 by decide,if_true]
     by_cases h:i<0
     · simp only[h,if_true]<;>omega
     · simp only[h,if_false]<;>omega
theorem q7y(its:List Value)(lo hi:Option Int):slicePick its.toArray lo hi none=((its.drop (HT.sIx its.length 0 lo)).take (HT.sIx its.length its.length hi-HT.sIx its.length 0 lo)).toArray:=by
 obtain⟨h1,h2,h3⟩:=q8s lo hi its.toArray.size
 unfold slicePick
 rw[h1,h2,h3]
 simp only[sliceRange_one,pick_run,List.size_toArray]<;>rfl
def rSlL(K:PySem.W.Frag):V->Option Int->Option Int->Hp->VK->Prop:=λx lo hi H Q=>∃a xs,x=.ref a/\SqL K H a xs/\∀p,H p=none->Q (.ref p) (upd H p (.lst (cutV xs lo hi)))
theorem sl_list:SlR X (rSlL X.K):=by
 intro z5 s σ H x v vl vu lo hi sl Q I rx hs pl pu h
 obtain⟨a,xs,rfl,hx,q⟩:=h
 cases rx
 obtain⟨its,r,ht,hz⟩:=I.list hx
 have zd:=r.length
 refine⟨"list",_,slot_list_getitem.lookup,ht.isList.typeIs,?_⟩
 refine wpAny_getItem_list_slice ht.isList hs pl pu .none (by simp) ?_ (by rw[List.size_toArray]<;>omega)
 rw[q7y,<-zd]
 refine⟨.ref s.heap.objs.size,_,I.laid (t':=s.toks) (o:=.lst (cutV xs lo hi)) (λb ob q=>j9 _ q) (ja _) ?_,rfl,q _ (I.hok.fresh (ja _))⟩
 exact⟨jt (q79 xs lo hi) hz,_,0,(r.drop (HT.sIx xs.length 0 lo)).take (HT.sIx xs.length xs.length hi-HT.sIx xs.length 0 lo),jl _ rfl⟩
theorem q9k:q68 X (.builtin "len") (λxs H Q=>∃p ys,xs=[.ref p]/\(SqL X.K H p ys∨SqT X.K H p ys)/\Q (.int ys.length) H):=by
 intro z5 s σ H xs us Q I r h
 obtain⟨p,ys,rfl,hq,q⟩:=h
 obtain⟨u,rfl,rx⟩:=vals1 r
 cases rx
 have hn:=qbs
 rcases hq with hq|hq
 · obtain⟨its,r',pl,hz⟩:=I.list hq
   have zd:=r'.length
   exact Calls.call_len_list pl.isList (by simp only[List.size_toArray]<;>omega) ⟨.int ys.length,H,I.tok _,⟨s.toks+1,by rw[jv,zd]⟩,q⟩
 · obtain⟨its,r',pl,hz⟩:=I.tuple hq
   have zd:=r'.length
   exact len_tuple pl (by simp only[List.size_toArray]<;>omega) ⟨.int ys.length,H,I.tok _,⟨s.toks+1,by rw[jv,zd]⟩,q⟩
theorem q9j:q68 X (.type "list") (λxs H Q=>∃p ys,xs=[.ref p]/\(SqL X.K H p ys∨SqT X.K H p ys)/\∀l,H l=none->Q (.ref l) (upd H l (.lst ys))):=by
 intro z5 s σ H xs us Q I r h
 obtain⟨p,ys,rfl,hq,q⟩:=h
 obtain⟨u,rfl,rx⟩:=vals1 r
 cases rx
 have fin:∀(its:List Value),Vals ys its->ys.length<=sizeLine->∀(h':Heap) (c':Nat),(∀b o',s.heap.get? b=some o'->h'.get? b=some o')->
     h'.get? s.heap.objs.size=some {cls:=.type "list",dict:=none,data:=.seq its.toArray c',slots:=#[]}->EP X z5 σ Q (.ref s.heap.objs.size) {s with heap:=h'}:=λits r' hz h' c' kp e=>
   ⟨.ref s.heap.objs.size,_,I.laid (t':=s.toks) kp (ja _) (show ObjOk X.prog X.w _ h' _ (.lst ys)from⟨hz,its,c',r',e⟩),rfl,q _ (I.hok.fresh (ja _))⟩
 rcases hq with hq|hq
 · obtain⟨its,r',pl,hz⟩:=I.list hq
   have zd:=r'.length
   obtain⟨o,ho,hc,n,hd⟩:=pl.isList
   exact call_list_seq p (.inl rfl) ho hc hd (λh' c' kp e=>fin its r' hz h' c' kp e) (by simp only[List.size_toArray]<;>omega)
 · obtain⟨its,r',pl,hz⟩:=I.tuple hq
   have zd:=r'.length
   obtain⟨o,ho,hc,n,hd⟩:=pl
   exact call_list_seq p (.inr rfl) ho hc hd (λh' c' kp e=>fin its r' hz h' c' kp e) (by simp only[List.size_toArray]<;>omega)
theorem q8j:q68 X (.type "tuple") (λxs H Q=>∃p ys,xs=[.ref p]/\((SqL X.K H p ys/\∀l,H l=none->Q (.ref l) (upd H l (.tup ys)))∨(SqT X.K H p ys/\Q (.ref p) H))):=by
 intro z5 s σ H xs us Q I r h
 obtain⟨p,ys,rfl,h⟩:=h
 obtain⟨u,rfl,rx⟩:=vals1 r
 cases rx
 rcases h with⟨hq,q⟩|⟨hq,q⟩
 · obtain⟨its,r',pl,hz⟩:=I.list hq
   have zd:=r'.length
   refine call_tuple_list pl.isList (λh' kp=>?_) (by simp only[List.size_toArray]<;>omega)
   have I1:Inv X z5 σ H {s with heap:=h'}:=I.kept (t':=s.toks) kp
   have I2:Inv X z5 σ (upd H h'.objs.size (.tup ys)) {s with heap:=h'.push {cls:=.type "tuple",data:=.seq its.toArray}}:=
     I1.laid (t':=s.toks) (λb o e=>j9 _ e) (ja _) (show ObjOk X.prog X.w _ _ _ (.tup ys)from⟨hz,its,r',TupN.new _ _⟩)
   exact⟨.ref h'.objs.size,_,I2,rfl,q _ (I1.hok.fresh (ja _))⟩
 · obtain⟨its,r',pl,hz⟩:=I.tuple hq
   exact call_tuple_same pl ⟨.ref p,H,I,rfl,q⟩
def tyV(K:PySem.W.Frag)(T:String)(x:V)(H:Hp):Prop:=match x with
 |.str _=>T="str"
 |.int _=>T="int"
 |.ref p=>(T="list"/\∃xs,SqL K H p xs)∨(T="tuple"/\∃o,K.lookup p=some o/\o.cls=.type "tuple"/\o.dict=none)∨
     (T="dict"/\((∃kvs,H p=some (.dK kvs))∨∃kvs,H p=some (.dT kvs)))∨(T="set"/\∃S n,H p=some (.set S n))
 |_=>False
theorem qng{z5:List (Addr×Obj)}{σ:St}{H:Hp}{s:Shared}{T:String}{x:V}{v:Value}(I:Inv X z5 σ H s)(r:RelV x v)(ty:tyV X.K T x H):
   s.TypeIs v T/\∀a,v=.ref a->∃ob,s.heap.get? a=some ob/\ob.dict=none:=by
 cases x with
 | str z=>
   obtain⟨t,rfl⟩:=r
   cases(show T="str" from ty)
   exact⟨typeIs_str s z t,λ_ e=>nomatch e⟩
 | int i=>
   obtain⟨t,rfl⟩:=r
   cases(show T="int" from ty)
   exact⟨typeIs_int s i t,λ_ e=>nomatch e⟩
 | ref p=>
   cases r
   rcases ty with⟨rfl,xs,hq⟩|⟨rfl,o,hk,hc,hd⟩|⟨rfl,hk⟩|⟨rfl,S,n,hk⟩
   · obtain⟨its,_,pl,_⟩:=I.list hq
     refine⟨pl.isList.typeIs,λa e=>?_⟩
     cases e
     obtain⟨o,n,e,c,hd,_⟩:=pl
     exact⟨o,e,hd⟩
   · refine⟨⟨o,I.kIn p o hk,hc⟩,λa e=>?_⟩
     cases e
     exact⟨o,I.kIn _ o hk,hd⟩
   · have z:∃o,s.heap.get? p=some o/\o.ExactDict:=by
       rcases hk with⟨kvs,hk⟩|⟨kvs,hk⟩
       · obtain⟨_,_,_,_,o,_,e,ex,_⟩:=I.hok p _ hk
         exact⟨o,e,ex⟩
       · obtain⟨_,_,_,_,o,_,_,e,ex,_⟩:=I.hok p _ hk
         exact⟨o,e,ex⟩
     obtain⟨o,e,ex⟩:=z
     refine⟨⟨o,e,ex.1⟩,λa e2=>?_⟩
     cases e2
     exact⟨o,e,ex.2.1⟩
   · obtain⟨o,_,_,_,e,ex,_⟩:=I.hok p _ hk
     refine⟨⟨o,e,ex.1⟩,λa e2=>?_⟩
     cases e2
     exact⟨o,e,ex.2.1⟩
 |_=>exact False.elim ty
def tBM(K:PySem.W.Frag)(T:String)(r:V->List V->Hp->VK->Prop)(to:TE)(t:TA):TE:=λσ H Q=>to σ H λx H1=>tyV K T x H1/\t σ H1 λxs H2=>r x xs H2 Q
variable{o e:Expr}{es:List Expr}{to:TE}{t:TA}{name:Str}{zr zk:Pos}{T id:String}{r:V->List V->Hp->VK->Prop}
theorem q63(pa:PlainAttrs T)(slot:Slot T name id)(hty:typeOf (.builtin id)=pure (.type "method_descriptor"))(hm:MtR X id r)(ho:PE X o to)(ha:PA X (e::es) t)
   (hbase:attributeBase o name X.env (eval o X.env)=eval o X.env:=by rfl)
   (hfew:((backTo zk (starEach (e::es) X.env)).all (λx=>!x.1)&&(backToKw zk (keywordEach [] X.env)).all (λx=>x.1.isSome)
     &&decide ((e::es).length+([]:List Keyword).length+(if([]:List Keyword).isEmpty then 0 else 1)<30))=true:=by rfl)
   (hline:(zr.endLine==zk.line)=true:=by rfl) (hs:starEach (e::es) X.env=(false,eval e X.env)::starEach es X.env:=by rfl) (hplain:(backTo zk (starEach es X.env)).any (·.1)=false:=by rfl):
   PE X (.Call (.Attribute o name zr) (e::es) [] zk) (tBM X.K T r to t):=by
 intro z5 s σ H Q I h
 refine wpAny_Call_method_late hbase hfew hline rfl (thn (ho z5 s σ H _ I h) λv s1 ⟨x,H1,I1,r1,ty,q1⟩=>?_)
 obtain⟨h1,h2⟩:=qng I1 r1 ty
 refine⟨T,id,pa,slot,hty,h1,h2,?_⟩
 have hA:=ha zk z5 s1 σ H1 _ I1 q1
 rw[hs]at hA ⊢
 refine Calls.callWith_builtin (by show(false||(backTo zk (starEach es X.env)).any (·.1))=false;rw[hplain]<;>rfl) (Calls.evalArgs_plain ?_)
 exact thn hA λus s2 ⟨vs,H2,I2,r2,q2⟩=>hm z5 s2 σ H2 x vs v us Q I2 r1 r2 q2
end
def MtM(X:Cx)(id:String)(r:V->List V->Hp->VK->Prop):Prop:=
 ∀(z5:List (Addr×Obj)) (s:Shared) (σ:St) (H:Hp) (x:V) (xs:List V) (v:Value) (us:List Value) (Q:VK),Inv X z5 σ H s->RelV x v->Vals xs us->r x xs H Q->
   wpAny (model X.prog X.w) X.A (call (.builtin id) (v::us)) (EP X z5 σ Q) X.xe s
theorem Vals.one:∀{x:V} {us:List Value},Vals [x] us->∃u,us=[u]/\RelV x u
 |_,_,.cons r .nil=>⟨_,rfl,r⟩
theorem Vals.zero:∀{us:List Value},Vals [] us->us=[]
 |_,.nil=>rfl
theorem Vals.reverse{xs:List V}{us:List Value}(h:Vals xs us):Vals xs.reverse us.reverse:=by
 induction h with
 |nil=>exact .nil
 |cons r t ih=>rw[List.reverse_cons,List.reverse_cons];exact Vals.append ih (.cons r .nil)
theorem Vals.rep{xs:List V}{us:List Value}(h:Vals xs us):∀k:Nat,Vals (List.replicate k xs).flatten (List.replicate k us).flatten
 |0=>.nil
 | k+1=>by
   rw[List.replicate_succ,List.replicate_succ,List.flatten_cons,List.flatten_cons]
   exact Vals.append h (Vals.rep h k)
theorem foldl_rep(its:List Value):∀(k:Nat) (acc:List Value),
   List.foldl (λx1 x2=>x1++x2) acc.toArray (List.replicate k its.toArray)=(acc++(List.replicate k its).flatten).toArray
 |0,acc=>by simp
 | k+1,acc=>by
   have e:acc.toArray++its.toArray=(acc++its).toArray:=by simp
   have e2:(acc++its)++(List.replicate k its).flatten=acc++(List.replicate (k+1) its).flatten:=by
     rw[List.replicate_succ,List.flatten_cons,List.append_assoc]
   rw[<-e2,<-foldl_rep its k (acc++its),<-e,List.replicate_succ,List.foldl_cons]
section
variable{X:Cx}{z5:List (Addr×Obj)}{σ:St}{H:Hp}{s:Shared}{l b:Addr}{xs ys zs:List V}
theorem Inv.lset{its its':List Value}{n:Nat}{f:Array Value->Array Value}{t':Nat}(I:Inv X z5 σ H s)(hH:H l=some (.lst xs))
   (e:s.heap.get? l=some {cls:=.type "list",data:=.seq its.toArray n}) (hf:f its.toArray=its'.toArray) (hv:Vals ys its') (hz:ys.length<=sizeLine):
   Inv X z5 σ (upd H l (.lst ys)) {s with heap:=s.heap.update l (Obj.mapSeq f),toks:=t'}:=by
 have q:=PySem.IsL.update e f
 rw[hf]at q
 refine I.write (x:=l) (e:=l) (by rw[hH];exact trivial) (.inl rfl) (λb' u hb hu=>(k9 s.heap (Obj.mapSeq f) (Ne.symm hb)).trans hu) ⟨_,q⟩ ?_
 exact⟨hz,its',_,hv,q⟩
theorem Inv.lnew{its:List Value}{t':Nat}(I:Inv X z5 σ H s)(hv:Vals ys its)(hz:ys.length<=sizeLine):
   Inv X z5 σ (upd H s.heap.objs.size (.lst ys)) {s with heap:=s.heap.push {cls:=.type "list",data:=.seq its.toArray},toks:=t'}:=
 I.laid (λ_ _ q=>j9 _ q) (ja _) ⟨hz,its,0,hv,jl _ rfl⟩
theorem Inv.fresh(I:Inv X z5 σ H s):H s.heap.objs.size=none:=I.hok.fresh (ja _)
theorem Inv.lstM(I:Inv X z5 σ H s)(hH:H l=some (.lst xs)):xs.length<=sizeLine/\∃(its:List Value) (n:Nat),Vals xs its/\xs.length=its.length/\s.heap.get? l=some {cls:=.type "list",data:=.seq its.toArray n}:=by
 obtain⟨z,its,n,r,e⟩:=I.hok l _ hH
 exact⟨z,its,n,r,r.length,e⟩
theorem q87{n:Nat}(h:n<=sizeLine):Builtin.List.listTooLong n=false:=by
 unfold Builtin.List.listTooLong
 exact decide_eq_false (by omega)
end
section
variable{X:Cx}
def qa8:V->List V->Hp->VK->Prop:=λx vs H Q=>∃l xs y,x=.ref l/\vs=[y]/\H l=some (.lst xs)/\xs.length<sizeLine/\Q .non (upd H l (.lst (xs++[y])))
theorem q2x:MtM X "list.append" qa8:=by
 intro z5 s σ H x vs v us Q I rx rv h
 obtain⟨l,xs,y,rfl,rfl,hH,hz,q⟩:=h
 cases rx
 obtain⟨u,rfl,ru⟩:=rv.one
 obtain⟨z,its,n,r,hl,e⟩:=I.lstM hH
 refine call_meets F.slot_list_append ⟨_,e,rfl⟩ F.entry_list_append (F.args_list_append_2 _ _) (PySem.list_append l its.toArray n u (by rw[jv];omega)) ⟨e,?_⟩
 refine⟨.non,_,I.lset (its':=its++[u]) hH e (by simp) (r.append (.cons ru .nil)) ?_,rfl,q⟩
 rw[jd,List.length_singleton]
 omega
def qel:V->List V->Hp->VK->Prop:=λx vs H Q=>∃l b xs zs,x=.ref l/\vs=[.ref b]/\H l=some (.lst xs)/\H b=some (.lst zs)/\xs.length+zs.length<=sizeLine/\Q .non (upd H l (.lst (xs++zs)))
theorem q6r:MtM X "list.extend" qel:=by
 intro z5 s σ H x vs v us Q I rx rv h
 obtain⟨l,b,xs,zs,rfl,rfl,hH,hB,hz,q⟩:=h
 cases rx
 obtain⟨u,rfl,ru⟩:=rv.one
 cases ru
 obtain⟨z,its,n,r,hl,e⟩:=I.lstM hH
 obtain⟨z2,its2,n2,r2,hl2,e2⟩:=I.lstM hB
 have hsz:its.toArray.size+its2.toArray.size<=sizeLine:=by rw[jv,jv];omega
 have hlong:¬(!its.toArray.isEmpty&&Builtin.List.listTooLong (its.toArray.size+its2.toArray.size))=true:=by
   rw[q87 hsz,Bool.and_false]
   exact Bool.false_ne_true
 refine call_meets F.slot_list_extend ⟨_,e,rfl⟩ F.entry_list_extend (F.args_list_extend_2 _ _)
   (AutoSeq1.list_extend_list_list_0 l its.toArray n b its2.toArray n2 hlong (by rw[jv];omega) (by omega)) ⟨e,e2,?_⟩
 refine⟨.non,_,I.lset (its':=its++its2) hH e (by simp) (r.append r2) ?_,rfl,q⟩
 rw[jd]
 omega
def rRep:R2:=λx y H Q=>∃l k xs,x=.ref l/\y=.int k/\H l=some (.lst xs)/\ -(2^63)<=k/\k<2^63/\xs.length*k.toNat<=sizeLine/\
 ∀p,H p=none->Q (.ref p) (upd H p (.lst (List.replicate k.toNat xs).flatten))
theorem len_rep{α:Type}(xs:List α)(k:Nat):(List.replicate k xs).flatten.length=k*xs.length:=by
 induction k with
 |zero=>simp
 |succ k ih=>rw[List.replicate_succ,List.flatten_cons,jd,ih,Nat.succ_mul,Nat.add_comm]
theorem qbk:OpR X (binaryOp .Mult) rRep:=by
 intro z5 s σ H x y v u Q I rx ry h
 obtain⟨l,k,xs,rfl,rfl,hH,h1,h2,hz,q⟩:=h
 cases rx
 obtain⟨t,rfl⟩:=ry
 obtain⟨z,its,n,r,hl,e⟩:=I.lstM hH
 have zd:its.toArray.size*k.toNat<=sizeLine:=by rw[jv,<-hl];exact hz
 have hcap:¬its.toArray.size*k.toNat>(2^63-1) / 8:=by
   have:(sizeLine:Nat)<=(2^63-1) / 8:=by decide
   omega
 have hfit:¬(!Builtin.List.listFitsIndex k)=true:=by
   rw[fitsIndex_both h1 h2]
   exact Bool.false_ne_true
 have hlong:¬Builtin.List.listTooLong (its.toArray.size*k.toNat)=true:=by
   rw[q87 zd]
   exact Bool.false_ne_true
 have hnew:List.foldl (λx1 x2=>x1++x2) #[] (List.replicate (if its.toArray.isEmpty=true then 0 else k.toNat) its.toArray)=(List.replicate k.toNat its).flatten.toArray:=by
   have f0:∀m:Nat,List.foldl (λx1 x2=>x1++x2) #[] (List.replicate m its.toArray)=(List.replicate m its).flatten.toArray:=λm=>by
     have:=foldl_rep its m []
     rw[List.nil_append]at this
     exact this
   rw[f0]
   cases its with
   |nil=>simp
   |cons a r'=>rw[if_neg (by simp)]
 refine wpAny_binaryOp_repeat_ref (T:="list") (U:="int") (by decide) ⟨_,e,rfl⟩ (λs'=>typeIs_int s' k t) noFill_list_mul F.fills_int_mul F.slot_int_rmul repeat_list F.slot_int_index.lookup
   (call_meets F.slot_int_rmul (typeIs_int s k t) F.entry_int_rmul (F.args_int_rmul_2 _ _) (int___rmul___int_list k t l its.toArray n)
     ⟨e,rfl,⟨_,e,rfl⟩,call_meets F.slot_list_mul ⟨_,e,rfl⟩ F.entry_list_mul (F.args_list_mul_2 _ _) (AutoListH.list___mul___list_int_3 l its.toArray n k t hfit hcap hlong) ⟨e,?_⟩⟩)
 rw[hnew]
 exact⟨.ref _,_,I.lnew (t':=s.toks) (r.rep k.toNat) (by rw[len_rep,Nat.mul_comm];exact hz),rfl,q _ I.fresh⟩
end
section
variable{prog:Program}{w:World}{A:Around}{E:Value->Shared->Prop}{s:Shared}
end
section
variable{X:Cx}
end
end L2
namespace Att
open PySem PySem.W PySem.Calls PyProof.Rows
theorem q75{P:Params}{h:Heap}:∀(ns:List Int) (vs:List Value),WellAll P h vs (ns.map WData.int)->IntsAre vs ns:=by
 intro ns
 induction ns with
 | nil=>
   intro vs w
   rw[List.map_nil]at w
   cases w
   exact .nil
 | cons n ns ih=>
   intro vs w
   rw[jw]at w
   cases w with
   | cons a b=>
     cases a
     exact .cons _ _ (ih _ b)
theorem qef{l:OpenLaw}{n:Nat}(hn:l.most=some n){P:Params}{h:Heap}{args:List WData}{vals:List Value}
   (hpre:l.row.toRowW.claim.pre args=true) (hwl:WellAll P h vals args):
   ∃a vs ns,vals=[Value.ref a]/\args=[WData.list (ns.map WData.int)]/\h.get? a=some {cls:=.type "list",data:=.seq vs.toArray}/\IntsAre vs ns/\ns.length<=n:=by
 have hsh:WShape.hasAll [] args [.list .int]=true:=(pre_splitW hpre).1
 have hc:l.pre.holds [] {args:=args}=true:=(pre_splitW hpre).2
 obtain⟨d,r,rfl,h1,h2⟩:=hasAllW_cons hsh
 obtain rfl:=hasAllW_nil h2
 obtain⟨xs,rfl,h3⟩:=hasW_list h1
 obtain⟨ns,rfl⟩:=items_int h3
 have zd:ns.length<=n:=by
   unfold OpenLaw.pre at hc
   have h4:(WTm.not (.lt (.lit (.int (n:Int))) (.len (.arg 0)))).holds [] {args:=[.list (ns.map .int)]}=true:=by
     have h4:=(holds_andW hc).1
     rw[hn]at h4
     exact h4
   have h5:=condW_of h4 (w_not (w_lt w_lit (w_len_list (w_arg rfl))))
   rw[j6]at h5
   refine Nat.le_of_not_lt λq=>?_
   have q':(n:Int)<((ns.length:Nat):Int):=by omega
   first
     |(rw[decide_eq_true q']at h5;exact absurd h5 (by decide))
     |(simp at h5;omega)
 cases hwl with
 | cons w1 w2=>
   cases w2
   cases w1 with
   |list ho hall=>exact⟨_,_,ns,rfl,rfl,ho,q75 ns _ hall,zd⟩
theorem qeq(l:OpenLaw)(args:List WData):l.row.toRowW.claim.post args (.bool true) args=true:=
 postW_of (r:=l.row.toRowW) (X:=(true==true))
   (show WShape.has [] (.bool true) .bool=true by first|rfl|decide|simp[WShape.has,WShape.arms,WShape.armsAll])
   (show(WTm.eq .res (.lit (.bool true))).value [] {args:=args,res:=some (.bool true),after:=args}=some (.bool (true==true))from w_eq_bool (w_res rfl) w_lit) rfl
theorem attach_call{l:OpenLaw}{n:Nat}{q:Program}{loose:List Str}{XP:(Str->Option Value)->Heap->Prop}{YP:World->Heap->Prop}{d:DefRec}
   (hn:l.most=some n) (hdf:d.params.defaults=[])
   (call:∀(w:World) (s₀ s₁:Shared) (mg mb:Str->Option Value) (fa:Addr) (o:Obj) (pm cd doc:Value) (a:Addr) (vs:List Value) (ns:List Int),
     Ground q loose [] XP w s₀ mg mb s₁.heap->YP w s₁.heap->
     s₁.heap.get? fa=some o->o.data=.func (docDef d.name d.params d.body d.scope pm cd doc)->s₁.heap.CodeRec cd d.name->mg d.name=some (.ref fa)->
     s₁.heap.get? a=some {cls:=.type "list",data:=.seq vs.toArray}->IntsAre vs ns->ns.length<=n->s₁.gens=#[]->
     codeAny (model l.prog w) callerA (.call (.ref fa) ⟨[.ref a],[]⟩) (λr s'=>r=.ok (.ret (.bool true))/\OldK s₁.heap s'.heap/\s'.os=s₁.os/\AllBare s'.gens) s₁):
   WalkO q loose XP YP l.row.toRowW d [] (λf vs=>PySem.call f vs):=by
 intro w s₀ s₁ mg mb G Y fa o pm cd doc dV kV ho hd hcd hD hmg hg args vals as hpre hlay hrd hwl hlo
 obtain rfl:dV=.none:=Dflts.none hD hdf
 obtain rfl:kV=.none:=Dflts.noKw hD
 obtain⟨a,vs,ns,rfl,rfl,hobj,zx,zd⟩:=qef hn hpre hwl
 refine enter_call (codeAny_mono (call w s₀ s₁ mg mb fa o pm cd doc a vs ns G Y ho (fd_plain hd) hcd hmg hobj zx zd hg) λr s' hq=>?_)
 obtain⟨rfl,h2,h3,h4⟩:=hq
 exact⟨.inl ⟨.bool true,.bool true,[],rfl,λ_=>rfl,.bool true,qeq l _,λ_=>⟨List.Pairwise.nil,λ_ hm=>(nomatch hm)⟩⟩,h2,h3,h4⟩
section
variable{prog:Program}{w:World}{A:Around}{E:Value->Shared->Prop}{s:Shared}{K:Frag}
end
end Att
namespace L2
open PySem PySem.Spec PyProof.Rows
theorem q8m:∀{vs:List Value} {ns:List Int},IntsAre vs ns->Vals (ns.map V.int) vs
 |_,_,.nil=>.nil
 |_,_,.cons n t h=>.cons ⟨t,rfl⟩ (q8m h)
def Only(H:Hp):Prop:=∀b,H b=none∨∃o xs,H b=some (.frz o (.lst xs))
theorem qi2{P:Program}{w:World}{K:PySem.W.Frag}{mg mb:Str->Option Value}{CX:CXT}{k:Nat}{fa a:Addr}{fd:FuncData}{x:Str}{sp:Sp}{s₁:Shared}{vs:List Value}{ns:List Int}
   (KX:K.In s₁.heap) (hns:s₁.heap.Ns mainGlobals mg) (hb:s₁.heap.Ns builtinsNs mb) (hbb:∀x:Str,x≠"__name__"->mb x=bootBuiltins x) (hlim:s₁.heap.NoLimit) (hg:s₁.gens=#[])
   (ha:s₁.heap.get? a=some {cls:=.type "list",data:=.seq vs.toArray}) (hi:IntsAre vs ns) (hl:ns.length<=sizeLine) (hr:Room k callerA)
   (F:∀base:Heap,K.In base->base.Ns mainGlobals mg->FnOk P w K mg base CX k fa fd [x] sp) (hbind:∀(s:Shared) (u:Value),BindsTo s fd ⟨[u],[]⟩ [(x,u)])
   (hsp:∀H:Hp,Only H->SqL K H a (ns.map V.int)->sp [.ref a] H (λv _=>v=.bl true) λ_ _ _=>False)
   (hCX:∀H e s',CX [] H s₁ (λ_ _ _=>False) e s'->False):
   codeAny (model P w) callerA (.call (.ref fa) ⟨[.ref a],[]⟩) (λr s'=>r=.ok (.ret (.bool true))/\OldK s₁.heap s'.heap/\s'.os=s₁.os/\AllBare s'.gens) s₁:=by
 have rv:=q8m hi
 have lenV:=hi.length
 -- from an abstract heap in which nothing but the script may be tracked
 have core:∀H:Hp,Only H->SqL K H a (ns.map V.int)->HOk P w H s₁.heap->(∀b,H b≠none->b=a)->(H a≠none->K.lookup a=none)->
     codeAny (model P w) callerA (.call (.ref fa) ⟨[.ref a],[]⟩) (λr s'=>r=.ok (.ret (.bool true))/\OldK s₁.heap s'.heap/\s'.os=s₁.os/\AllBare s'.gens) s₁:=by
   intro H hO hS hok hA hK
   have base_of:∀{b:Addr} {o:Obj},s₁.heap.get? b=some o->H b=none->(hidT s₁.heap H).get? b=some o:=λe n=>qia e n
   have noA:∀{b:Addr} {o:Obj} {es:Array DictEntry} {ep:Nat},s₁.heap.get? b=some o->o.data=.dict es ep->H b=none:=λ{b o es ep} e d=>by
     cases q:H b with
     |none=>rfl
     | some u=>
       have e':b=a:=hA b (by rw[q];simp)
       subst e'
       rw[ha]at e;cases e
       have d':Data.seq vs.toArray _=Data.dict es ep:=d
       cases d'
   have nsK:∀{b:Addr} {m:Str->Option Value},s₁.heap.Ns b m->(hidT s₁.heap H).Ns b m:=λ{b m} ⟨o,es,ep,e,d,r⟩=>⟨o,es,ep,base_of e (noA e d),d,r⟩
   have hKb:K.In (hidT s₁.heap H):=λb o e=>base_of (KX b o e) (by
     cases q:H b with
     |none=>rfl
     | some u=>
       have e':b=a:=hA b (by rw[q];simp)
       subst e'
       rw[hK (by rw[q];simp)]at e;cases e)
   have hM:Mod K mg (hidT s₁.heap H):=⟨hKb,nsK hns,⟨mb,nsK hb,hbb⟩,let ⟨mc,h1,h2⟩:=hlim;⟨mc,nsK h1,h2⟩⟩
   have e0:Env0 P w K mg (hidT s₁.heap H) callerA [] s₁ H:=⟨rfl,hM,λb o e=>qlm e,Nat.le_of_eq (qfw _ _),trivial,λb hb=>absurd (show b∈([]:List Addr)from hb) (by simp),hok,.of_eq hg⟩
   refine codeAny_mono ((F _ hKb (nsK hns)).run callerA [] s₁ H ⟨[.ref a],[]⟩ [.ref a] [.ref a] _ _ hr e0 (hbind s₁ (.ref a)) (.cons rfl .nil) (hsp H hO hS)) λr s' h=>?_
   cases r with
   |error e=>exact(hCX H e s' h).elim
   | ok fl=>
     cases fl with
     |next=>exact False.elim h
     |brk=>exact False.elim h
     |cont=>exact False.elim h
     | ret u=>
       obtain⟨v,H',os,bare,un,hok',r',q⟩:=h
       have q':v=.bl true:=q
       subst q'
       obtain rfl:u=Value.bool true:=r'
       refine⟨rfl,OldK.of_keep λb o e=>?_,os,bare⟩
       cases q:H b with
       |none=>exact un.keep b o e q (by intro z;exact absurd (show b∈([]:List Addr)from z) (by simp)) (by simp)
       | some u=>
         rcases hO b with z|⟨ob,xs,z⟩
         · rw[q]at z;cases z
         · have z2:=un.frzs b ob _ z
           obtain⟨e1,_⟩:=hok b _ z
           obtain⟨e2,_⟩:=hok' b _ z2
           rw[e]at e1;cases e1
           exact e2
 cases hk:K.lookup a with
 | some o=>
   -- the script is one of the module's own objects
   have e:=KX a o hk
   rw[ha]at e
   cases e
   refine core (λ_=>none) (λ_=>.inl rfl) (.inr ⟨_,vs.toArray,_,hk,rfl,rfl,rfl,by rw[jv,lenV];exact hl,by simpa using rv⟩) (λb u z=>by have z':(none:Option HO)=some u:=z;cases z') (λb z=>absurd rfl z) λz=>absurd rfl z
 | none=>
   refine core (λb=>if b=a then some (.frz {cls:=.type "list",data:=.seq vs.toArray} (.lst (ns.map V.int)))else none) (λb=>?_) (.inl (.inr ⟨{cls:=.type "list",data:=.seq vs.toArray},if_pos rfl⟩)) (λb u z=>?_) (λb z=>?_) λ_=>hk
   · by_cases hb:b=a
     · exact .inr ⟨_,_,if_pos hb⟩
     · exact .inl (if_neg hb)
   · by_cases hb:b=a
     · have z':=(if_pos hb).symm.trans z
       cases z'
       subst hb
       exact⟨ha,by rw[j6];exact hl,vs,_,rv,ha⟩
     · have z':=(if_neg hb).symm.trans z
       cases z'
   · by_cases hb:b=a
     · exact hb
     · exact absurd (if_neg hb) z
theorem walk_of{l:PySem.W.OpenLaw}{n k:Nat}{q:Program}{loose:List Str}{XP:(Str->Option Value)->Heap->Prop}{YP:World->Heap->Prop}{d:DefRec}{K:Params->PySem.W.Frag}{CX:World->CXT}{sp:World->Sp}{x:Str}
   (hn:l.most=some n) (hn2:n<=sizeLine) (hdf:d.params.defaults=[]) (hr:Room k callerA)
   (hY:∀(w:World) (h:Heap),YP w h->(K w.params).In h)
   (F:∀(w:World) (mg:Str->Option Value) (fa:Addr) (h:Heap),(K w.params).In h->h.Ns mainGlobals mg->mg d.name=some (.ref fa)->
     ∃fd:FuncData,(∀(s:Shared) (u:Value),BindsTo s fd ⟨[u],[]⟩ [(x,u)])/\
       ∀base:Heap,(K w.params).In base->base.Ns mainGlobals mg->FnOk l.prog w (K w.params) mg base (CX w) k fa fd [x] (sp w))
   (hsp:∀(w:World) (H:Hp) (a:Addr) (ns:List Int),ns.length<=n->Only H->SqL (K w.params) H a (ns.map V.int)->sp w [.ref a] H (λv _=>v=.bl true) λ_ _ _=>False)
   (hCX:∀(w:World) (H:Hp) (s:Shared) (e:Value) (s':Shared),CX w [] H s (λ_ _ _=>False) e s'->False):
   PySem.W.WalkO q loose XP YP l.row.toRowW d [] (λf vs=>PySem.call f vs):=by
 refine Att.attach_call hn hdf λw s₀ s₁ mg mb fa o pm cd doc a vs ns G Y ho hd hcd hmg hobj zx zd hg=>?_
 have KX:=hY w _ Y
 obtain⟨fd,hb,hF⟩:=F w mg fa _ KX G.T.g hmg
 exact qi2 KX G.T.g G.T.b G.T.builtins G.T.nolimit hg hobj zx (jt zd hn2) hr hF hb (λH hO hS=>hsp w H a ns zd hO hS) λH e s'=>hCX w H s₁ e s'
def inClass(s:Stmt)(j:Nat):Stmt:=match s with
 |.ClassDef _ _ _ body _ _ _ _ _ _ _=>body.getD j (.Pass ⟨0,0,0,0⟩)
 |_=>.Pass ⟨0,0,0,0⟩
def q0o(s:Stmt):Arguments:=match s with
 |.FunctionDef _ a _ _ _ _ _ _ _ _=>a
 |_=>{posonlyargs:=[],args:=[],vararg:=none,kwonlyargs:=[],kw_defaults:=[],kwarg:=none,defaults:=[]}
def q0l(s:Stmt):List Stmt:=match s with
 |.FunctionDef _ _ b _ _ _ _ _ _ _=>b
 |_=>[]
def q04(s:Stmt):Scope:=match s with
 |.FunctionDef _ _ _ _ _ _ sc _ _ _=>sc
 |_=>{kind:=.function,names:=[],isGenerator:=false,isCoroutine:=false}
abbrev CX0:CXT:=λ_ _ _ _ _ _=>False
abbrev E0:XK:=λ_ _ _=>False
theorem q10{X:Cx}:q7w CX0 X E0:=λ_ _ _ _ _ _ _ h=>h.elim
structure Fun(K:PySem.W.Frag)(x qual:Str)(st:Stmt)(f:Addr)(fd:FuncData):Prop where
 ex:∃(oc:Value) (od:Option Addr) (kV doc pm:Value) (an:Option Addr) (cdv ct:Value) (osl:Array (Option Value)),
   fd=PySem.W.fnOf x qual (q0o st) (q0l st) (q04 st) .none kV doc pm an cdv ct/\K.lookup f=some ⟨oc,od,.func fd,osl⟩/\PySem.W.codeIn K cdv qual=true
 kp:PySem.W.keepIn K (.ref f)=true
section
variable{P:Program}{w:World}{K:PySem.W.Frag}{mg:Str->Option Value}{base:Heap}
theorem Fun.ok{x qual:Str}{st:Stmt}{f:Addr}{fd:FuncData}{N ps:List Str}{k:Nat}{sp:Sp}(F:Fun K x qual st f fd)(S:q0p N ps (q04 st))(len:∀vs H Q E,sp vs H Q E->vs.length=ps.length)
   (zz:∀(cdv:Value) (A:Around) (outer:List Env) (s:Shared) (H:Hp) (vs:List V) (Q:VK) (E:XK),Room k (A.deeper (envOfC qual (q04 st) s.heap.objs.size f cdv))->sp vs H Q E->
     ∃t,PSs (cxOf CX0 P w K mg base N qual (q04 st) f cdv A outer s H E).nox (q0l st) t/\t {nx:=λ_ H'=>Q .non H',rt:=Q} (start N vs) H):FnOk P w K mg base CX0 (k+1) f fd ps sp:=by
 obtain⟨oc,od,kV,doc,pm,an,cdv,ct,osl,rfl,lk,hcd⟩:=F.ex
 refine qtj lk hcd S len λA outer s H vs Q E hr hsp=>?_
 obtain⟨t,h,q⟩:=zz cdv A outer s H vs Q E hr hsp
 exact⟨t,h.nox,q⟩
theorem Fun.binds{x qual:Str}{st:Stmt}{f:Addr}{fd:FuncData}{ps:List Str}(F:Fun K x qual st f fd)
   (h:∀(kV doc pm:Value) (an:Option Addr) (cdv ct:Value) (us:List Value),us.length=ps.length->bindArgs (PySem.W.fnOf x qual (q0o st) (q0l st) (q04 st) .none kV doc pm an cdv ct) ⟨us,[]⟩=pure (ps.zip us)):Binds K fd ps []:=by
 obtain⟨oc,od,kV,doc,pm,an,cdv,ct,osl,rfl,lk,hcd⟩:=F.ex
 exact .all (h kV doc pm an cdv ct)
theorem q13{x qual:Str}{st:Stmt}{f:Addr}{oc:Value}{od an:Option Addr}{osl:Array (Option Value)}{kV doc pm cdv ct:Value}(l:K.lookup f=some ⟨oc,od,.func (PySem.W.fnOf x qual (q0o st) (q0l st) (q04 st) .none kV doc pm an cdv ct),osl⟩)
   (c:PySem.W.codeIn K cdv qual=true) (k:PySem.W.keepIn K (.ref f)=true):Fun K x qual st f (PySem.W.fnOf x qual (q0o st) (q0l st) (q04 st) .none kV doc pm an cdv ct):=⟨⟨oc,od,kV,doc,pm,an,cdv,ct,osl,rfl,l,c⟩,k⟩
end
section
variable{X:Cx}
theorem pv(i:Nat){x:Str}{pos:Pos}(hN:X.N[i]? =some x:=by rfl)(hv:Vis X.env.scope x:=by first|exact Or.inl rfl|exact Or.inr (Or.inl rfl)|exact Or.inr (Or.inr rfl))(hd:(x==("__debug__":Str))=false:=by decide)
   (hcd:(x==("__classdict__":Str))=false:=by decide):PE X (.Name x pos) (tVar i):=qov hN hv hd hcd
end
theorem iteF{A B:Prop}(h:B):if false=true then A else B:=by
 rw[if_neg Bool.false_ne_true]
 exact h
theorem iteT{A B:Prop}(h:A):if true=true then A else B:=by
 rw[if_pos rfl]
 exact h
def Same(H H':Hp):Prop:=∀b o,H b=some o->H' b=some o
theorem Same.refl(H:Hp):Same H H:=λ_ _ h=>h
theorem Same.trans{H H1 H2:Hp}(a:Same H H1)(b:Same H1 H2):Same H H2:=λc o h=>b c o (a c o h)
theorem Same.free{H H':Hp}(e:Same H H'){l:Addr}(h:H' l=Option.none):H l=Option.none:=by
 cases q:H l with
 |none=>rfl
 | some o=>
   rw[e l o q]at h
   cases h
theorem Same.seq{K:PySem.W.Frag}{H H':Hp}{a:Addr}{xs:List V}(e:Same H H')(h:SqL K H a xs):SqL K H' a xs:=by
 rcases h with(h|⟨o,h⟩)|h
 · exact .inl (.inl (e _ _ h))
 · exact .inl (.inr ⟨o,e _ _ h⟩)
 · exact .inr h
section
variable{X:Cx}{z5:List (Addr×Obj)}{σ:St}{H:Hp}{s:Shared}
theorem Inv.track{d:Addr}{o:HO}(I:Inv X z5 σ H s)(hn:H d=none)(hy:X.s₀.heap.objs.size<=d)(hL:d≠X.env.locals)(hc:∀x c,X.env.cells.lookup x=some c->c≠d)
   (hp:∀p∈X.pn++z5,p.1≠d) (new:ObjOk X.prog X.w (upd H d o) s.heap d o):Inv X z5 σ (upd H d o) s:=by
 have old:∀b ob,X.s₀.heap.get? b=some ob->b≠d:=λb ob e=>jh (jm (j8 e) hy)
 have was:∀b u,H b=some u->b≠d:=λb u e=>q1a e hn
 refine⟨I.ok,I.os,I.bare,⟨I.base.keep,I.base.slot,λb ob e n hx=>?_,I.base.there,λb xs e=>?_,λb ob u e=>?_,λb ps e=>?_⟩,I.loc,I.cell,?_,λx c e=>?_,λp z=>?_,λb u e=>?_,I.len⟩
 · rw[q0n (old b ob e)];exact I.base.free b ob e n hx
 · have q:=I.base.tups b xs e
   rw[q0n (was b _ q)];exact q
 · have q:=I.base.frzs b ob u e
   rw[q0n (was b _ q)];exact q
 · obtain⟨m,q⟩:=I.base.tbls b ps e
   exact⟨m,by rw[q0n (was b _ q)];exact q⟩
 · rw[q0n (Ne.symm hL)];exact I.free
 · rw[q0n (hc x c e)];exact I.freeC x c e
 · obtain⟨e,n,r⟩:=I.pin p z
   exact⟨e,by rw[q0n (hp p z)];exact n,r⟩
 · by_cases hb:b=d
   · subst hb
     rw[q0r]at e
     cases e
     exact new
   · rw[q0n hb]at e
     refine(I.hok b u e).stay (λc v _ q=>q) (λc q=>?_) λc xs q=>?_
     · rw[q0n (was c _ q)];exact q
     · rw[q0n (was c _ q)];exact q
end
theorem q5s{env:Env}:∀(names:List (Str×NameKind)) (acc:List (Str×Addr)),(∀y∈names,y.2=.free->∃c,env.cells.lookup y.1=some c)->
   ∃cl,(forIn names acc λ(p:Str×NameKind) (cs:List (Str×Addr))=>(if(p.2==NameKind.free)=true then do let c <-cellOf env p.1;pure (ForInStep.yield ((p.1,c)::cs))else pure (ForInStep.yield cs):Sem (ForInStep (List (Str×Addr)))))=pure cl/\
     (∀x c,cl.lookup x=some c->acc.lookup x=some c∨env.cells.lookup x=some c)/\(∀x c,acc.lookup x=some c->∃c',cl.lookup x=some c')/\∀y∈names,y.2=.free->∃c,cl.lookup y.1=some c
 |[],acc,_=>⟨acc,rfl,λ_ _ h=>.inl h,λ_ c h=>⟨c,h⟩,λ_ h=>nomatch h⟩
 | (n,k)::r,acc,hh=>by
   by_cases hk:k=.free
   · subst hk
     obtain⟨c,hc⟩:=hh (n,.free) jf rfl
     obtain⟨cl,e,h1,h2,h3⟩:=q5s (env:=env) r ((n,c)::acc) λy hy=>hh y (jg _ hy)
     have ec:cellOf env n=pure c:=by
       unfold cellOf
       rw[hc]
     have here:∃c',cl.lookup n=some c':=h2 n c (by simp[List.lookup_cons])
     refine⟨cl,?_,λx d q=>?_,λx d q=>?_,λy hy hf=>?_⟩
     · rw[List.forIn_cons]
       simp only[beq_self_eq_true,if_true,ec,pure_bind]
       exact e
     · rcases h1 x d q with z|z
       · rw[List.lookup_cons]at z
         by_cases hx:x=n
         · subst hx
           simp only[beq_self_eq_true]at z
           cases z
           exact .inr hc
         · rw[beq_eq_false_iff_ne.mpr hx]at z
           exact .inl z
       · exact .inr z
     · by_cases hx:x=n
       · subst hx;exact here
       · exact h2 x d (by rw[List.lookup_cons,beq_eq_false_iff_ne.mpr hx];exact q)
     · rcases List.mem_cons.mp hy with rfl|hy
       · exact here
       · exact h3 y hy hf
   · obtain⟨cl,e,h1,h2,h3⟩:=q5s (env:=env) r acc λy hy=>hh y (jg _ hy)
     refine⟨cl,?_,h1,h2,λy hy hf=>?_⟩
     · rw[List.forIn_cons]
       have hb:(k==NameKind.free)=false:=by simpa using hk
       simp only[hb,Bool.false_eq_true,if_false,pure_bind]
       exact e
     · rcases List.mem_cons.mp hy with rfl|hy
       · exact absurd hf hk
       · exact h3 y hy hf
theorem q4i{env:Env}{scope:Scope}(hh:∀y∈scope.names,y.2=.free->∃c,env.cells.lookup y.1=some c):
   ∃cl,closureFor scope env=pure cl/\(∀x c,cl.lookup x=some c->env.cells.lookup x=some c)/\∀y∈scope.names,y.2=.free->∃c,cl.lookup y.1=some c:=by
 obtain⟨cl,e,h1,_,h3⟩:=q5s (env:=env) scope.names [] hh
 refine⟨cl,?_,λx c q=>(h1 x c q).elim (λz=>by simp at z) id,h3⟩
 unfold closureFor
 simp only[bind_pure]
 exact e
def cxB(X:Cx)(N:List Str)(scope:Scope)(s:Shared)(H:Hp)(C:Addr)(cl:List (Str×Addr))(fp:List Addr):Cx where
 prog:=X.prog
 w:=X.w
 K:=X.K
 mg:=X.mg
 base:=X.base
 A:=X.A
 N:=N
 s₀:=s
 H₀:=H
 env:=compEnvC scope cl C X.env
 outer:=X.stack
 stack:=X.stack
 ex:=fp
 fn:=λ_=>false
 calm:=X.calm
 pn:=[]
 xe:=λ_ _=>False
def caps(n:Nat)(js:List Nat)(σ:St):St:=List.replicate n none++js.map λj=>(σ[j]?).join
def Own(n:Nat)(g:TG):Prop:=∀v σ H Q,g v σ H Q->g v σ H λσ2 H2=>Q σ2 H2/\σ2.length=σ.length/\∀i,n<=i->σ2[i]? =σ[i]?
theorem q1q{n i:Nat}(h:i<n):Own n (q67 i):=λv σ H Q q=>⟨q,by simp,λj hj=>by rw[List.getElem?_set_ne (by omega)]⟩
theorem q6c{K:PySem.W.Frag}{n i j:Nat}(hi:i<n)(hj:j<n):Own n (gTup K 2 (qid (q67 i) (qid (q67 j) gNil))):=λv σ H Q q=>by
 obtain⟨a,xs,e,h,hl,x,r,e1,y,r2,e2,e3,q⟩:=q
 exact⟨a,xs,e,h,hl,x,r,e1,y,r2,e2,e3,q,by simp,λk hk=>by rw[List.getElem?_set_ne (by omega),List.getElem?_set_ne (by omega)]⟩
def PIf(X:Cx)(ifs:List Expr)(t:TT):Prop:=
 ∀(z5:List (Addr×Obj)) (s:Shared) (σ:St) (H:Hp) (Q:Bool->Hp->Prop),Inv X z5 σ H s->t σ H Q->
   wpAny (model X.prog X.w) X.A (forIn ifs true λc r=>if r=true then do let ok <-isTrue c X.env (eval c X.env);pure (ForInStep.yield ok)else pure (ForInStep.yield r)) (TP X z5 σ Q) X.xe s
def tYes:TT:=λ_ H Q=>Q true H
theorem q24{X:Cx}:PIf X [] tYes:=λ_ _ _ H _ I h=>wpAny_tests_nil ⟨H,I,h⟩
theorem q84{X:Cx}{c:Expr}{t:TT}(hc:PT X c t):PIf X [c] t:=λz5 s σ H Q I h=>wpAny_tests_one (hc z5 s σ H Q I h)
def cGo(g:TG)(tt:TT)(te:TE)(σ0:St)(Fin:List V->Hp->Prop)(J:It)(H1:Hp):Prop:=
 ∃W:Nat->Nat->List V->Hp->Prop,(∃m,W 0 m [] H1)/\∀i m ys H2,W i m ys H2->
   (J.stop i H2/\ys.length<=sizeLine/\Fin ys H2)∨
   (J.go i H2/\ys.length<sizeLine/\∃N:List V->Hp->Prop,(∀ys' H',N ys' H'->∃m',m'<m/\W (i+1) m' ys' H')/\∀x H3,J.yld i H2 x H3->g x σ0 H3 λσ4 H4=>tt σ4 H4 λb H5=>
     if b=true then te σ4 H5 λy H6=>N (ys++[y]) H6 else N ys H5)
def qh2(n:Nat)(js:List Nat)(wi:TI)(g:TG)(tt:TT)(te:TE):TE:=λσ H Q=>
 wi σ H (cGo g tt te (caps n js σ) λys H2=>∀D,H2 D=none->Q (.ref D) (upd H2 D (.lst ys)))
def qha(k n:Nat)(js:List Nat)(wi:TI)(g:TG)(tt:TT)(te:TE):TS:=λE σ H=>
 wi σ H (cGo g tt te (caps n js σ) λys H2=>∀D,H2 D=none->E.nx (σ.set k (some (.ref D))) (upd H2 D (.lst ys)))
theorem q9i{prog:Program}{w:World}{A:Around}{R:Result->Shared->Prop}{s:Shared}{elt zi ze:Expr}{ifs:List Expr}{scope:Scope}{pos:Pos}{it acc:Value}{env:Env}(I:Nat->Shared->Prop)
   (turn:∀n s,I n s->wpAny (model prog w) A (pyNext it) (λr s₁=>(r=none/\R (.ok .next) s₁)∨∃v,r=some v/\wpAny (model prog w) A (letOwnedTupleGo zi it v) (λ_ s₀=>
     wpAny (model prog w) A (assign zi env v) (λ_ s₂=>
       wpAny (model prog w) A (forIn ifs true λc r=>if r=true then do let ok <-isTrue c env (eval c env);pure (ForInStep.yield ok)else pure (ForInStep.yield r)) (λok s₃=>
         if ok=true then wpAny (model prog w) A (eval elt env) (λx s₄=>wpAny (model prog w) A (call (.builtin "list.append") [acc,x]) (λ_ s₅=>∃m,m<n/\I m s₅) (λ_ _=>False) s₄) (λ_ _=>False) s₃
         else∃m,m<n/\I m s₃) (λ_ _=>False) s₂) (λ_ _=>False) s₀) (λ_ _=>False) s₁) (λ_ _=>False) s)
   (n:Nat) (h:I n s):codeAny (model prog w) A (.compLoop (.ListComp elt [⟨zi,ze,ifs,0⟩] scope pos) 0 it acc env) R s:=by
 have no:∀{E:Value->Shared->Prop} (x:Value) (z:Shared),False->E x z:=λ_ _ f=>f.elim
 refine codeAny_loop rfl I (λn s hI=>?_) n h
 show wpAny _ A ((compTurn (.ListComp elt [⟨zi,ze,ifs,0⟩] scope pos) 0 it acc env).onRaise (λx=>do noteFrame x env;theTreesLotGoes x)) _ _ s
 refine wpAny_noted ?_
 rw[compTurn_list]
 refine j5 (wpAny_standAt (j5 (xg (turn n s hI) (λr s₁ h₁=>?_) no)))
 rcases h₁ with⟨e,h₁⟩|⟨v,e,h₁⟩
 · subst e
   exact j7 h₁
 · subst e
   refine j5 (xg h₁ (λ_ s₀ h₀=>j5 (xg h₀ (λ_ s₂ h₂=>j5 (xg h₂ (λok s₃ h₃=>?_) no)) no)) no)
   cases ok with
   |false=>exact j7 ⟨rfl,h₃⟩
   | true=>
     have q:wpAny (model prog w) A (eval elt env) _ _ s₃:=h₃
     exact j5 (j5 (xg q (λx s₄ h₄=>j5 (xg h₄ (λ_ s₅ h₅=>j7 (j7 ⟨rfl,h₅⟩)) no)) no))
def q1w(sc:Scope)(N0 N:List Str)(n:Nat)(js:List Nat)(scope:Scope):Bool:=
 decide (scope.kind=.function)&&scope.names.all (λy=>decide (y.2≠.cell))&&scope.names.all (λy=>decide (y.2≠.free)||decide (sc.names.lookup y.1=some .cell)||decide (sc.names.lookup y.1=some .free))&&
 scope.names.all (λy=>decide (y.2≠.local)||decide (scope.names.lookup y.1=some .local))&&decide (js.map (λj=>N0[j]?)=(N.drop n).map some)&&
 (N.drop n).all (λx=>decide (sc.names.lookup x=some .cell)||decide (sc.names.lookup x=some .free))&&(N.drop n).all (λx=>decide (scope.names.lookup x=some .free))&&decide (n+js.length=N.length)
theorem q5w{env:Env}:∀{names:List (Str×NameKind)} {x:Str},(names.map λ(n,k)=>if(k==NameKind.free&&env.scope.kind==.function&&env.kindOf n==some .cell)then(n,NameKind.cell)else(n,k)).lookup x=some .cell∨
   (names.map λ(n,k)=>if(k==NameKind.free&&env.scope.kind==.function&&env.kindOf n==some .cell)then(n,NameKind.cell)else(n,k)).lookup x=some .free->(∀y∈names,y.2≠.cell)->∃y∈names,y.1=x/\y.2=.free
 |[],_,h,_=>by rcases h with h|h<;>simp at h
 | (n,k)::r,x,h,hc=>by
   have ih:=@q5w env r x
   by_cases hx:x=n
   · subst hx
     refine⟨(x,k),jf,rfl,?_⟩
     have hk:k≠.cell:=hc (x,k) jf
     by_cases hf:k=.free
     · exact hf
     · exfalso
       have hb:(k==NameKind.free)=false:=by simpa using hf
       simp only[List.map_cons,hb,Bool.false_and,Bool.false_eq_true,if_false,List.lookup_cons,beq_self_eq_true]at h
       rcases h with h|h
       · exact hk (je h)
       · exact hf (je h)
   · have hb:(x==n)=false:=beq_eq_false_iff_ne.mpr hx
     have step:∀(q:Str×NameKind) (l:List (Str×NameKind)),q.1=n->List.lookup x (q::l)=List.lookup x l:=λq l e=>by
       obtain⟨a,b⟩:=q
       have e':a=n:=e
       subst e'
       rw[List.lookup_cons,hb]
     have nm:(if(k==NameKind.free&&env.scope.kind==.function&&env.kindOf n==some .cell)then(n,NameKind.cell)else(n,k)).1=n:=by split<;>rfl
     rw[jw,step _ _ nm]at h
     obtain⟨y,hy,r1,r2⟩:=ih h λy hy=>hc y (jg _ hy)
     exact⟨y,jg _ hy,r1,r2⟩
theorem mem_of_lookup{x:Str}{k:NameKind}:∀{l:List (Str×NameKind)},l.lookup x=some k->(x,k)∈l
 |[],h=>by simp at h
 | (a,b)::r,h=>by
   rw[List.lookup_cons]at h
   by_cases hx:x=a
   · subst hx
     simp only[beq_self_eq_true]at h
     cases h
     exact jf
   · rw[beq_eq_false_iff_ne.mpr hx]at h
     exact jg _ (mem_of_lookup h)
theorem q2z{env:Env}{x:Str}:∀(l:List (Str×NameKind)),l.lookup x=some .free->(l.map λ(n,k)=>if(k==NameKind.free&&env.scope.kind==.function&&env.kindOf n==some .cell)then(n,NameKind.cell)else(n,k)).lookup x≠some .local
 |[],q=>by simp at q
 | (a,b)::r,q=>λz=>by
   rw[List.lookup_cons]at q
   by_cases hx:x=a
   · subst hx
     simp only[beq_self_eq_true]at q
     cases q
     rw[jw]at z
     dsimp only at z
     split at z
     · simp[List.lookup_cons]at z
     · simp[List.lookup_cons]at z
   · rw[beq_eq_false_iff_ne.mpr hx]at q
     refine q2z (env:=env) r q ?_
     by_cases hc:(b==NameKind.free&&env.scope.kind==.function&&env.kindOf a==some .cell)=true
     · simp only[List.map_cons,if_pos hc,List.lookup_cons,beq_eq_false_iff_ne.mpr hx]at z
       exact z
     · simp only[List.map_cons,if_neg hc,List.lookup_cons,beq_eq_false_iff_ne.mpr hx]at z
       exact z
theorem q8h(n:Nat)(js:List Nat)(σ:St):(caps n js σ).length=n+js.length:=by simp[caps]
theorem q6e{n:Nat}{js:List Nat}{σ:St}{i:Nat}(h:i<n):(caps n js σ)[i]? =some none:=by
 unfold caps
 rw[xy (by simpa using h),xx,if_pos h]
theorem qc4{n:Nat}{js:List Nat}{σ:St}{i:Nat}{v:V}(h:n<=i)(e:(caps n js σ)[i]? =some (some v)):∃j,js[i-n]? =some j/\σ[j]? =some (some v):=by
 unfold caps at e
 rw[xk (by simpa using h),ji,jb]at e
 cases q:js[i-n]? with
 |none=>rw[q]at e;cases e
 | some j=>
   rw[q]at e
   refine⟨j,rfl,?_⟩
   have e':(σ[j]?).join=some v:=je e
   cases z:σ[j]? with
   |none=>rw[z]at e';cases e'
   |some o=>rw[z]at e';exact congrArg some e'
section
variable{X:Cx}{tg elt ze:Expr}{ifs:List Expr}{scope:Scope}{pos:Pos}{N N0:List Str}{n:Nat}{js:List Nat}{sc:Scope}{g:TG}{tt:TT}{te:TE}
theorem q7u{z5:List (Addr×Obj)}{σ:St}{H:Hp}{s:Shared}{it:Addr}{fp:List Addr}{tn:Nat->Heap->Prop}{J:It}{cl:List (Str×Addr)}{Fin:List V->Hp->Prop}{RR:Value->Addr->Result->Shared->Prop}{E:Value->Shared->Prop}
   (hc:X.calm=true) (hsc:X.env.scope=sc) (hN0:X.N=N0) (ok:q1w sc N0 N n js scope=true)
   (hg:∀s H C cl fp,PG (cxB X N scope s H C cl fp) tg g) (hgo:Own n g) (ht:∀s H C cl fp,PIf (cxB X N scope s H C cl fp) ifs tt) (he:∀s H C cl fp,PE (cxB X N scope s H C cl fp) elt te)
   (I:Inv X z5 σ H s) (T:Turn X.prog X.w X.K tg J fp it tn) (st:tn 0 s.heap) (fo:∀b∈fp,FpOk X z5 H b)
   (hcl:∀x c,cl.lookup x=some c->X.env.cells.lookup x=some c) (zy:∀y∈scope.names,y.2=.free->∃c,cl.lookup y.1=some c)
   (G:cGo g tt te (caps n js σ) Fin J H)
   (k:∀(D C:Addr) (oC:Obj) (m:Str->Option Value) (ys:List V) (H':Hp) (s':Shared),Inv X (z5++[(C,oC)]) σ (upd H' D (.lst ys)) s'->H' D=none->s'.heap.Ns C m->X.s₀.heap.objs.size<=C->C≠X.env.locals->(∀x c,X.env.cells.lookup x=some c->c≠C)->
     (∀p∈X.pn++z5,p.1≠C)->upd H' D (.lst ys) C=none->Fin ys H'->RR (.ref D) C (.ok .next) s'):
   wpAny (model X.prog X.w) X.A (newList []) (λacc s₃=>wpAny (model X.prog X.w) X.A (newFunctionEnv scope X.env.globals cl [] X.env.qual none .none (some X.env)) (λj3 s₄=>
     codeAny (model X.prog X.w) X.A (.compStart (.ListComp elt [⟨tg,ze,ifs,0⟩] scope pos) 0 (.ref it) acc {j3 with scope:=relabel scope X.env}) (RR acc j3.locals) s₄) E s₃) E s:=by
 simp only[q1w,Bool.and_eq_true,decide_eq_true_eq,List.all_eq_true,Bool.or_eq_true]at ok
 obtain⟨⟨⟨⟨⟨⟨⟨kind,cell⟩,free⟩,nms⟩,cap⟩,lc⟩,lf⟩,len⟩:=ok
 subst hN0 hsc
 refine xq (wpAny_newFunctionEnv cell (by intro y hy;simp at hy) (λh1 ns1 sb1=>?_) kind)
 dsimp only at ns1 sb1 ⊢
 generalize eG:s.heap.push {cls:=.type "list",dict:=none,data:=.seq ([]:List Value).toArray}=G2 at ns1 sb1 ⊢
 have eC:G2.objs.size=s.heap.objs.size+1:=by rw[<-eG,x8]
 generalize eCC:G2.objs.size=C at ns1 sb1 eC ⊢
 generalize eD:s.heap.objs.size=D at eC ⊢
 have ltD:∀b o,s.heap.get? b=some o->b<D:=λb o e=>eD▸j8 e
 have DC:D≠C:=by rw[eC];exact jh (Nat.lt_succ_self _)
 have bC:∀b:Nat,b<D->b≠C:=λb hb z=>by rw[z,eC]at hb;exact absurd hb (Nat.not_lt.mpr (Nat.le_succ _))
 have old:∀b o,s.heap.get? b=some o->h1.get? b=some o:=λb o e=>by
   have hb:=ltD b o e
   refine sb1.extBut b o (bC b hb) (j9 _ ?_)
   rw[<-eG]
   exact j9 _ e
 have accD:h1.get? D=some {cls:=.type "list",data:=.seq ([]:List Value).toArray 0}:=by
   refine sb1.extBut _ _ DC (j9 _ ?_)
   rw[<-eG,<-eD]
   exact jl _ rfl
 have freeD:H D=none:=I.hok.fresh (by rw[eD];exact ja _)
 have freeC:H C=none:=I.hok.fresh (by rw[eD,eC];exact Nat.le_succ _)
 have fpD:∀b∈fp,b<D:=λb hb=>let ⟨o,e,_⟩:=T.obj 0 _ st b hb;ltD b o e
 have cellD:∀x c,X.env.cells.lookup x=some c->c<D:=λx c e=>let ⟨v,o,ho,_⟩:=I.cell x c e;ltD c o ho
 have pinD:∀p∈X.pn++z5,p.1<D:=λp hp=>ltD _ _ (I.pin p hp).1
 have stkD:∀b∈frs X.stack,b<D:=λb hb=>by
   rcases List.mem_cons.mp (I.stkSub b hb)with e|z
   · subst e;rw[<-eD];exact I.lt
   · obtain⟨_,o,ho,_⟩:=I.ok.funs.mem z
     rw[<-eD]
     exact jm (j8 ho) I.sz
 have fpS:∀b∈fp,b∉frs X.stack:=λb hb z=>by
   obtain⟨_,f1,f2,_⟩:=fo b hb
   rcases List.mem_cons.mp (I.stkSub b z)with e|q
   · exact f1 e
   · exact f2 q
 have kindB:(compEnvC scope cl C X.env).scope.kind=.function:=kind
 have okB:(cxB X N scope s H C cl fp).Ok:={
   mod:=I.ok.mod
   kind:=kind
   glob:=I.ok.glob
   blt:=I.ok.blt
   above:=by show s.heap.objs.size<=C;rw[eD,eC];exact Nat.le_succ _
   inj:=λx y c e1 e2=>I.ok.inj x y c (hcl x c e1) (hcl y c e2)
   has:=λx hx=>by
     obtain⟨y,hy,e,f⟩:=q5w (env:=X.env) (names:=scope.names) (x:=x) hx cell
     subst e
     exact zy y hy f
   cab:=λx c z=>by cases z
   hd:=I.ok.hd
   frames:=I.ok.frames
   stk:=.inl rfl
   exf:=λb hb=>⟨bC b (fpD b hb),λx c e=>(fo b hb).2.2.2.2.1 x c (hcl x c e)⟩
   bs:=λb o e=>I.bs b o e
   bsz:=jt I.ok.bsz I.sz
   noex:=λb o e hb=>by
     rcases(fo b hb).2.2.2.1 with z|z
     · exact I.ok.noex b o e z
     · exact absurd (jm (j8 e) (jt I.ok.bsz z)) (jy _)
   exfs:=fpS
   funs:=I.stack
   frf:=I.stkFree}
 have upH:∀b o,s.heap.get? b=some o->h1.get? b=some o:=old
 have IB:Inv (cxB X N scope s H C cl fp) [(D,{cls:=.type "list",data:=.seq ([]:List Value).toArray 0})] (caps n js σ) H {s with heap:=h1,toks:=s.toks+([]:List (Str×Value)).length}:=by
   refine⟨okB,rfl,I.bare,Un.kept old,⟨_,ns1,λi x v e1 e2 e3=>?_⟩,λx c e=>?_,freeC,λx c e=>I.freeC x c (hcl x c e),λp hp=>?_,I.hok.kept old,?_⟩
   · have hi:n<=i:=by
       by_cases hlt:i<n
       · rw[q6e hlt]at e2;cases e2
       · omega
     obtain⟨j,ej,ev⟩:=qc4 hi e2
     have hxN:(N.drop n)[i-n]? =some x:=by
       rw[List.getElem?_drop,show n+(i-n)=i by omega]
       exact e1
     have hxm:x∈N.drop n:=x9 hxN
     have eN:X.N[j]? =some x:=by
       have q:(js.map λj=>X.N[j]?)[i-n]? =some (X.N[j]?):=by rw[jb,ej];rfl
       rw[cap,jb,hxN]at q
       exact(je q).symm
     obtain⟨m0,_,hl⟩:=I.loc
     have kx:=lc x hxm
     have vis:Vis X.env.scope x:=by
       rcases kx with z|z
       · exact .inr (.inl z)
       · exact .inr (.inr z)
     obtain⟨u,r,lk⟩:=hl j x v eN ev vis
     refine⟨u,r,?_⟩
     rcases lk with⟨q,_⟩|⟨_,c,ec,o,ho,hd⟩
     · exfalso
       have q':X.env.scope.names.lookup x=some .local:=q
       rcases kx with z|z
       · rw[z]at q';cases q'
       · rw[z]at q';cases q'
     · have fx:scope.names.lookup x=some .free:=lf x hxm
       obtain⟨c',ec'⟩:∃c',cl.lookup x=some c':=by
         have hm:(x,NameKind.free)∈scope.names:=mem_of_lookup fx
         exact zy _ hm rfl
       have ecc:c'=c:=by
         have z:=hcl x c' ec'
         rw[ec]at z
         exact(je z).symm
       subst ecc
       refine .inr ⟨?_,c',ec',o,old _ _ ho,hd⟩
       rcases e3 with z|z|z
       · exfalso
         have z':(relabel scope X.env).names.lookup x=some .local:=z
         exact q2z _ fx z'
       · exact .inl z
       · exact .inr z
   · obtain⟨v,o,ho,hd⟩:=I.cell x c (hcl x c e)
     exact⟨v,o,old _ _ ho,hd⟩
   · have e:p=(D,{cls:=.type "list",data:=.seq ([]:List Value).toArray 0}):=by simpa[cxB]using hp
     subst e
     exact⟨accD,freeD,DC,λz=>absurd (stkD D z) (jy _),λv=>by intro z;cases z⟩
   · show(caps n js σ).length=N.length
     rw[q8h]
     exact len
 -- what stays true of the iterator's records
 have stat:∀{H':Hp} {oD:Obj},(∀b∈fp,H' b=none)->∀b∈fp,FpOk (cxB X N scope s H C cl fp) [(D,oD)] H' b:=λ{H' oD} hn b hb=>
   ⟨hn b hb,bC b (fpD b hb),fpS b hb,.inl hb,λx c e=>(fo b hb).2.2.2.2.1 x c (hcl x c e),λp hp=>by
     have e:p=(D,oD):=by simpa[cxB]using hp
     subst e
     exact Nat.ne_of_gt (fpD b hb)⟩
 obtain⟨W,⟨m0,w0⟩,turn⟩:=G
 have loop:codeAny (model X.prog X.w) X.A (.compLoop (.ListComp elt [⟨tg,ze,ifs,0⟩] scope pos) 0 (.ref it) (.ref D) (compEnvC scope cl C X.env)) (RR (.ref D) C) {s with heap:=h1,toks:=s.toks+([]:List (Str×Value)).length}:=by
   refine q9i (λm s'=>∃(i:Nat) (ys:List V) (its:List Value) (kk:Nat) (σ':St) (H':Hp),Inv (cxB X N scope s H C cl fp) [(D,{cls:=.type "list",data:=.seq its.toArray kk})] σ' H' s'/\Vals ys its/\(σ'.length=(caps n js σ).length/\∀i,n<=i->σ'[i]? =(caps n js σ)[i]?)/\
     tn i s'.heap/\(∀b∈fp,H' b=none)/\W i m ys H') ?_ m0 ⟨0,[],[],0,_,H,IB,.nil,⟨rfl,λ_ _=>rfl⟩,T.keep _ _ _ st λb hb o e=>old b o e,λb hb=>(fo b hb).1,w0⟩
   rintro m s3 ⟨i,ys,its,kk,σ3,H3,I3,r3,⟨l3,a3⟩,st3,fr3,w3⟩
   have I3':Inv (cxB X N scope s H C cl fp) [(D,{cls:=.type "list",data:=.seq its.toArray kk})] (caps n js σ) H3 s3:=I3.weak l3.symm λj v e=>by
     by_cases hj:j<n
     · rw[q6e hj]at e;cases e
     · rw[a3 j (by omega)];exact e
   rcases turn i m ys H3 w3 with⟨stop,hz,fin⟩|⟨go,hz,Nn,hNn,step⟩
   · refine xg (T.done (cxB X N scope s H C cl fp) rfl rfl rfl hc i _ s3 _ H3 (λ_ _=>False) I3' (stat fr3) st3 stop) (λr s4 h4=>?_) λ_ _ z=>z
     obtain⟨hr,I4⟩:=h4
     refine .inl ⟨hr,?_⟩
     have pD:=I4.pin (D,{cls:=.type "list",data:=.seq its.toArray kk}) (by simp[cxB])
     obtain⟨mC,nsC,_⟩:=I4.loc
     obtain⟨oC,es,ep,hoC,dC,rC⟩:=id nsC
     have J4:Inv X z5 σ H3 s4:=I.call' (s':=s4) I4.os (ch:=fp) I4.base I4.hok I4.bare λb hb=>by
       obtain⟨_,f1,f2,f3,f4,f5⟩:=fo b hb
       exact⟨f3,f1,f4,f5⟩
     have fC:H3 C=none:=I4.free
     have ltL:X.env.locals<D:=eD▸I.lt
     have cL:C≠X.env.locals:=(bC _ ltL).symm
     have cC:∀x c,X.env.cells.lookup x=some c->c≠C:=λx c e=>bC c (cellD x c e)
     have cP:∀p∈X.pn++z5,p.1≠C:=λp hp=>bC p.1 (pinD p hp)
     have cS:X.s₀.heap.objs.size<=C:=jt I.sz (by rw[eD,eC];exact Nat.le_succ _)
     have dS:X.s₀.heap.objs.size<=D:=by have:=I.sz;rw[eD]at this;exact this
     have cF:C∉X.fs:=λz=>by
       obtain⟨_,o,ho,_⟩:=I.ok.funs.mem z
       exact jy _ (jm (j8 ho) cS)
     have J5:Inv X (z5++[(C,oC)]) σ H3 s4:=J4.pins_of λp hp=>(List.mem_append.mp hp).elim (λz=>J4.pin p (jo _ z)) λz=>by
       have e:p=(C,oC):=by simpa using z
       subst e
       exact⟨hoC,fC,cL,cF,λv z=>by have z':oC.data=.cell v:=z;rw[dC]at z';cases z'⟩
     refine k D C oC mC ys H3 s4 (J5.track pD.2.1 dS (Nat.ne_of_gt ltL) (λx c e=>jh (cellD x c e)) (λp hp=>?_) ?_) pD.2.1 nsC cS cL cC cP ?_ fin
     · rcases List.mem_append.mp hp with z|z
       · exact jh (pinD p (List.mem_append_left _ z))
       · rcases List.mem_append.mp z with z|z
         · exact jh (pinD p (jo _ z))
         · have e:p=(C,oC):=by simpa using z
           subst e
           exact Ne.symm DC
     · exact⟨hz,its,kk,r3,pD.1⟩
     · rw[q0n (Ne.symm DC)]
       exact fC
   · refine xg (T.item (cxB X N scope s H C cl fp) rfl rfl rfl hc i _ s3 _ H3 (λ_ _=>False) I3' (stat fr3) st3 go) (λr s4 h4=>?_) λ_ _ z=>z
     obtain⟨u,hr,h4⟩:=h4
     refine .inr ⟨u,hr,?_⟩
     refine thn h4 λ_ s5 h5=>?_
     obtain⟨x,H5,I5,r5,y5,st5,fr5⟩:=h5
     have I5':=I5.pinned (stat fr5) (T.obj _ _ st5)
     refine thn (hg s H C cl fp _ s5 _ H5 x u _ I5' r5 (hgo _ _ _ _ (step x H5 y5))) λ_ s6 h6=>?_
     obtain⟨σ6,H6,I6,q6,l6,a6⟩:=h6
     refine thn (ht s H C cl fp _ s6 σ6 H6 _ I6 q6) λok s7 h7=>?_
     obtain⟨H7,I7,q7⟩:=h7
     have stays:∀{H8:Hp} {s8:Shared},Inv (cxB X N scope s H C cl fp) ([(D,{cls:=.type "list",data:=.seq its.toArray kk})]++q7m fp s5.heap) σ6 H8 s8->(∀b∈fp,∀o,s5.heap.get? b=some o->s8.heap.get? b=some o)/\∀b∈fp,H8 b=none:=λ{H8 s8} I8=>
       ⟨λb hb o e=>(I8.pin (b,o) (jo _ (jo _ (q39 hb e)))).1,λb hb=>by
         obtain⟨o,e,d⟩:=T.obj _ _ st5 b hb
         exact(I8.pin (b,o) (jo _ (jo _ (q39 hb e)))).2.1⟩
     cases ok with
     | false=>
       obtain⟨m',hm,w7⟩:=hNn ys H7 (show Nn ys H7 from q7)
       obtain⟨z1,z2⟩:=stays I7
       exact⟨m',hm,i+1,ys,its,kk,σ6,H7,I7.unpinned,r3,⟨l6,a6⟩,T.keep _ _ _ st5 z1,z2,w7⟩
     | true=>
       show wpAny _ _ (eval elt _) _ _ s7
       refine thn (he s H C cl fp _ s7 σ6 H7 _ I7 q7) λy s8 h8=>?_
       obtain⟨vy,H8,I8,ry,n8⟩:=h8
       obtain⟨m',hm,w8⟩:=hNn _ _ n8
       obtain⟨z1,z2⟩:=stays I8
       have pD:=I8.pin (D,{cls:=.type "list",data:=.seq its.toArray kk}) (by simp[cxB])
       have lenits:its.length<sizeLine:=by rw[<-r3.length];exact hz
       refine append_at pD.1 (λh9 hs9 hD9=>?_) (by simpa using Nat.le_of_lt lenits)
       have keep9:∀b o,b≠D->s8.heap.get? b=some o->h9.get? b=some o:=λb o hb e=>hs9.extBut b o hb e
       have I9:Inv (cxB X N scope s H C cl fp) [] σ6 H8 {s8 with heap:=h9}:=(I8.pins_of (pins':=[]) λp hp=>nomatch hp).turned (it:=D) keep9 pD.2.1 DC (.inr (by show s.heap.objs.size<=D;rw[eD];exact ja _))
         (λx c e=>jh (cellD x c (hcl x c e))) λp hp=>by simp[cxB]at hp
       refine⟨m',hm,i+1,ys++[vy],its++[y],kk+1,σ6,H8,I9.pins_of λp hp=>?_,r3.append (.cons ry .nil),⟨l6,a6⟩,T.keep _ _ _ st5 λb hb o e=>keep9 b o (jh (fpD b hb)) (z1 b hb o e),z2,w8⟩
       have e:p=(D,{cls:=.type "list",data:=.seq (its++[y]).toArray (kk+1)}):=by simpa using hp
       subst e
       refine⟨?_,pD.2.1,DC,λz=>absurd (stkD D z) (jy _),λv z=>by cases z⟩
       show h9.get? D=_
       rw[hD9,List.push_toArray]
 exact codeAny_compStart_list loop (T.self _ 0 _ _ _ (T.keep _ _ _ st λb hb o e=>old b o e) loop)
end
section
variable{X:Cx}{tg elt ze:Expr}{ifs:List Expr}{scope:Scope}{pos:Pos}{N N0:List Str}{n:Nat}{js:List Nat}{sc:Scope}{wi:TI}{g:TG}{tt:TT}{te:TE}
theorem qc2{z5:List (Addr×Obj)}{σ:St}{H:Hp}{s:Shared}(I:Inv X z5 σ H s)(hsc:X.env.scope=sc)(ok:q1w sc N0 N n js scope=true):∀y∈scope.names,y.2=.free->∃c,X.env.cells.lookup y.1=some c:=by
 simp only[q1w,Bool.and_eq_true,decide_eq_true_eq,List.all_eq_true,Bool.or_eq_true]at ok
 obtain⟨⟨⟨⟨⟨⟨⟨kind,cell⟩,free⟩,nms⟩,cap⟩,lc⟩,lf⟩,len⟩:=ok
 subst hsc
 intro y hy hf
 rcases free y hy with(z|z)|z
 · exact absurd hf z
 · exact I.ok.has y.1 (.inl z)
 · exact I.ok.has y.1 (.inr z)
theorem q7t(ok:q1w sc N0 N n js scope=true):scope.kind=.function/\∀x∈scope.names,x.2=.local->scope.names.lookup x.1=some .local:=by
 simp only[q1w,Bool.and_eq_true,decide_eq_true_eq,List.all_eq_true,Bool.or_eq_true]at ok
 obtain⟨⟨⟨⟨⟨⟨⟨kind,cell⟩,free⟩,nms⟩,cap⟩,lc⟩,lf⟩,len⟩:=ok
 refine⟨kind,λx hx hl=>?_⟩
 rcases nms x hx with z|z
 · exact absurd hl z
 · exact z
theorem Inv.butC{z5:List (Addr×Obj)}{σ:St}{H:Hp}{s:Shared}{C:Addr}{oC:Obj}{h':Heap}(I:Inv X (z5++[(C,oC)]) σ H s)(hs:Heap.SameBut C s.heap h')(h1:X.s₀.heap.objs.size<=C)(h2:C≠X.env.locals)
   (h3:∀x c,X.env.cells.lookup x=some c->c≠C) (h4:∀p∈X.pn++z5,p.1≠C) (h5:H C=none):Inv X z5 σ H {s with heap:=h'}:=
 I.unpinned.turned (it:=C) (t':=s.toks) (λb o hb e=>hs.extBut b o hb e) h5 h2 (.inr h1) h3 h4
theorem q2f(hc:X.calm=true)(hsc:X.env.scope=sc)(hN0:X.N=N0)(ok:q1w sc N0 N n js scope=true)(hi:PI X tg ze wi)
   (hg:∀s H C cl fp,PG (cxB X N scope s H C cl fp) tg g) (hgo:Own n g) (ht:∀s H C cl fp,PIf (cxB X N scope s H C cl fp) ifs tt) (he:∀s H C cl fp,PE (cxB X N scope s H C cl fp) elt te)
   (hs:∀x,foldedSetIterable ze X.env x=pure x:=by intro _;rfl):PE X (.ListComp elt [⟨tg,ze,ifs,0⟩] scope pos) (qh2 n js wi g tt te):=by
 intro z5 s σ H Q I h
 obtain⟨cl,hclos,c1,c2⟩:=q4i (qc2 I hsc ok)
 obtain⟨kd,nm⟩:=q7t ok
 rw[eval_ListComp]
 refine wpAny_comprehension_free (use:=none) rfl hs hclos kd nm ?_
 refine thn (hi z5 s σ H _ I h) λv s1 h1=>thn h1 λitv s2 h2=>?_
 obtain⟨it,fp,tn,J,H2,e,I2,T,st2,f2,G⟩:=h2
 subst e
 refine q7u (RR:=λacc C=>compPost (model X.prog X.w) X.A X.xe none (EP X z5 σ Q) acc C) hc hsc hN0 ok hg hgo ht he I2 T st2 f2 c1 c2 G ?_
 intro D C oC m ys H' s' I' hD ns k1 k2 k3 k4 k5 fin
 exact⟨m,ns,λh' hs'=>⟨.ref D,_,I'.butC hs' k1 k2 k3 k4 k5,rfl,fin D hD⟩⟩
theorem q6n{k:Nat}{y:Str}{py zv:Pos}(hc:X.calm=true)(hsc:X.env.scope=sc)(hN0:X.N=N0)(ok:q1w sc N0 N n js scope=true)(hN:X.N.Nodup)(hk:X.N[k]? =some y)(hy:Loc X.env.scope y)
   (hi:PI X tg ze wi) (hg:∀s H C cl fp,PG (cxB X N scope s H C cl fp) tg g) (hgo:Own n g) (ht:∀s H C cl fp,PIf (cxB X N scope s H C cl fp) ifs tt) (he:∀s H C cl fp,PE (cxB X N scope s H C cl fp) elt te)
   (hsw:swapsWith (.ListComp elt [⟨tg,ze,ifs,0⟩] scope pos) (some (.Name y py)) zv.line X.env=pure true:=by rfl) (hs:∀x,foldedSetIterable ze X.env x=pure x:=by intro _;rfl)
   (hf:X.fn y=true∨X.env.scope.names.lookup y=some .local:=by first|exact .inl rfl|exact .inr rfl):PS X (.Assign [.Name y py] (.ListComp elt [⟨tg,ze,ifs,0⟩] scope pos) zv) (qha k n js wi g tt te):=by
 intro z5 s σ H D0 I h
 obtain⟨cl,hclos,c1,c2⟩:=q4i (qc2 I hsc ok)
 obtain⟨kd,nm⟩:=q7t ok
 rw[exec_Assign_Name_used _ _ _ _ hsw]
 refine j5 (wpAny_standAt (j5 ?_))
 show wpAny _ X.A (comprehension (.ListComp elt [⟨tg,ze,ifs,0⟩] scope pos) scope X.env _ (newList []) false (eval ze X.env) (some (assign (.Name y py) X.env)) >>= λ_=>pure ()) _ _ s
 refine j5 (xg (wpAny_comprehension_free (use:=some (assign (.Name y py) X.env)) (Q:=λ_ s'=>SP X z5 D0 .next s') rfl hs hclos kd nm ?_) (λ_ s' q=>j7 (j7 q)) λ_ _ z=>z)
 refine thn (hi z5 s σ H _ I h) λv s1 h1=>thn h1 λitv s2 h2=>?_
 obtain⟨it,fp,tn,J,H2,e,I2,T,st2,f2,G⟩:=h2
 subst e
 refine q7u (RR:=λacc C=>compPost (model X.prog X.w) X.A X.xe (some (assign (.Name y py) X.env)) (λ_ s'=>SP X z5 D0 .next s') acc C) hc hsc hN0 ok hg hgo ht he I2 T st2 f2 c1 c2 G ?_
 intro D C oC m ys H' s' I' hD ns k1 k2 k3 k4 k5 fin
 show wpAny _ X.A (assign (.Name y py) X.env (.ref D)) _ _ s'
 refine wpAny_assign_Name (q6b I' hN hk hy (v:=.ref D) rfl (λs'' I''=>?_) hf)
 have pc:=I''.pin (C,oC) (jo _ (jo _ jf))
 obtain⟨o,es,ep,ho,r⟩:=ns
 have pc':=I'.pin (C,oC) (jo _ (jo _ jf))
 have eo:o=oC:=by
   have z:=pc'.1
   rw[ho]at z
   exact je z
 subst eo
 exact⟨m,⟨o,es,ep,pc.1,r⟩,λh' hs'=>⟨_,_,I''.butC hs' k1 k2 k3 k4 k5,fin D hD⟩⟩
end
theorem Same.new{H:Hp}{l:Addr}{o:HO}(h:H l=none):Same H (upd H l o):=λb u e=>by rw[q0n (q1a e h)];exact e
theorem Same.tup{K:PySem.W.Frag}{H H':Hp}{a:Addr}{xs:List V}(e:Same H H')(h:SqT K H a xs):SqT K H' a xs:=by
 rcases h with(h|⟨o,h⟩)|h
 · exact .inl (.inl (e _ _ h))
 · exact .inl (.inr ⟨o,e _ _ h⟩)
 · exact .inr h
section
variable{X:Cx}{K:PySem.W.Frag}
theorem q0a(h:X.K=K):IxR X (rIx K):=h▸qqz
theorem q1o(h:X.K=K):q68 X (.builtin "len") (λxs H Q=>∃p ys,xs=[.ref p]/\(SqL K H p ys∨SqT K H p ys)/\Q (.int ys.length) H):=by subst h;exact q9k
theorem qdv(h:X.K=K):q68 X (.type "list") (λxs H Q=>∃p ys,xs=[.ref p]/\(SqL K H p ys∨SqT K H p ys)/\∀l,H l=none->Q (.ref l) (upd H l (.lst ys))):=by subst h;exact q9j
theorem q3f(h:X.K=K):q68 X (.type "tuple") (λxs H Q=>∃p ys,xs=[.ref p]/\((SqL K H p ys/\∀l,H l=none->Q (.ref l) (upd H l (.tup ys)))∨(SqT K H p ys/\Q (.ref p) H))):=by subst h;exact q8j
theorem qhk{tg l:Expr}{tl:TE}(h:X.K=K)(hl:PE X l tl):PI X tg l (qm4 K tl):=h▸ql0 hl
theorem qkz{tg l:Expr}{tl:TE}(h:X.K=K)(hl:PE X l tl):PI X tg l (iTup K tl):=h▸qor hl
theorem q3x{es:List Expr}{k:Nat}{t:TGs}{n:Nat}{pos:Pos}(hK:X.K=K)(hc:X.calm=true)(h:PGs X es t)(hn:(assignEach es X.env).length=n:=by rfl)(hst:(assignEach es X.env).findIdx? (·.1)=none:=by rfl):PG X (.Tuple es k pos) (gTup K n t):=hK▸qot hc h hn hst
theorem qac{e:Expr}{f:Str}{pos:Pos}{ta:TE}(hK:X.K=K)(he:PE X e ta)(hb:attributeBase e f X.env (eval e X.env)=eval e X.env):PE X (.Attribute e f pos) (tFld K ta f):=hK▸qox he hb
end
theorem PE.or{X:Cx}{e:Expr}{t u:TE}(h:PE X e t)(k:PE X e u):PE X e λσ H Q=>t σ H Q∨u σ H Q:=λz5 s σ H Q I q=>by
 rcases q with q|q
 · exact h z5 s σ H Q I q
 · exact k z5 s σ H Q I q
section
variable{X:Cx}
mutual
inductive DV(K:PySem.W.Frag)(H:Hp):V->PyData->Prop
 |non:DV K H .non .none
 |bl (b:Bool):DV K H (.bl b) (.bool b)
 |int (i:Int):DV K H (.int i) (.int i)
 |str (x:Str):DV K H (.str x) (.str x)
 |lst {a:Addr} {xs:List V} {ds:List PyData}:SqL K H a xs->DVs K H xs ds->DV K H (.ref a) (.list ds)
 |tup {a:Addr} {xs:List V} {ds:List PyData}:SqT K H a xs->DVs K H xs ds->DV K H (.ref a) (.tuple ds)
inductive DVs(K:PySem.W.Frag)(H:Hp):List V->List PyData->Prop
 |nil:DVs K H [] []
 |cons {x:V} {xs:List V} {d:PyData} {ds:List PyData}:DV K H x d->DVs K H xs ds->DVs K H (x::xs) (d::ds)
end
mutual
theorem q5f{z5:List (Addr×Obj)}{σ:St}{H:Hp}{s:Shared}(I:Inv X z5 σ H s):∀{x:V} {d:PyData} {u:Value},DV X.K H x d->RelV x u->∃as,Reads s.heap u d as
 |_,_,u,.non,r=>by cases(show u=Value.none from r);exact⟨_,.none⟩
 |_,_,u,.bl b,r=>by cases(show u=Value.bool b from r);exact⟨_,.bool b⟩
 |_,_,u,.int i,r=>by obtain⟨t,e⟩:=(show∃t,u=Value.int i t from r);cases e;exact⟨_,.int i t⟩
 |_,_,u,.str x,r=>by obtain⟨t,e⟩:=(show∃t,u=Value.str x t from r);cases e;exact⟨_,.str x t⟩
 | _,_,u,.lst (a:=a) hq hs,r=>by
   cases(show u=Value.ref a from r)
   obtain⟨its,rv,pl,_⟩:=I.list hq
   obtain⟨o,e,c,n,dd⟩:=pl.isList
   obtain⟨as,q⟩:=q4z I hs rv
   exact⟨_,reads_list_at e c dd (by simpa using q)⟩
 | _,_,u,.tup (a:=a) hq hs,r=>by
   cases(show u=Value.ref a from r)
   obtain⟨its,rv,pl,_⟩:=I.tuple hq
   obtain⟨o,e,c,n,dd⟩:=pl
   obtain⟨as,q⟩:=q4z I hs rv
   exact⟨_,reads_tuple_at e c dd (by simpa using q)⟩
theorem q4z{z5:List (Addr×Obj)}{σ:St}{H:Hp}{s:Shared}(I:Inv X z5 σ H s):∀{xs:List V} {ds:List PyData} {us:List Value},DVs X.K H xs ds->Vals xs us->∃as,ReadsAll s.heap us ds as
 |_,_,_,.nil,.nil=>⟨_,.nil⟩
 | _,_,_,.cons h t,.cons r rs=>by
   obtain⟨as,q⟩:=q5f I h r
   obtain⟨bs,p⟩:=q4z I t rs
   exact⟨_,.cons q p⟩
end
def rEqD(K:PySem.W.Frag):R2:=λx y H Q=>∃d e,DV K H x d/\DV K H y e/\SeqAt.shaped d=true/\SeqAt.shaped e=true/\Q (.bl (PyData.eqv d e)) H
def rNeD(K:PySem.W.Frag):R2:=λx y H Q=>∃d e,DV K H x d/\DV K H y e/\SeqAt.shaped d=true/\SeqAt.shaped e=true/\Q (.bl (!PyData.eqv d e)) H
theorem q2b{K:PySem.W.Frag}(hK:X.K=K)(hu:X.A.units+64<cLine):OpR X (compareOp .Eq) (rEqD K):=by
 subst hK
 intro z5 s σ H x y v u Q I rx ry h
 obtain⟨d,e,hd,he,sd,se,q⟩:=h
 obtain⟨as,ra⟩:=q5f I hd rx
 obtain⟨bs,rb⟩:=q5f I he ry
 exact eq_dataH ra rb sd se hu ⟨.bl _,H,I,rfl,q⟩
theorem qf4{K:PySem.W.Frag}(hK:X.K=K)(hu:X.A.units+64<cLine):OpR X (compareOp .NotEq) (rNeD K):=by
 subst hK
 intro z5 s σ H x y v u Q I rx ry h
 obtain⟨d,e,hd,he,sd,se,q⟩:=h
 obtain⟨as,ra⟩:=q5f I hd rx
 obtain⟨bs,rb⟩:=q5f I he ry
 exact ne_dataH ra rb sd se hu ⟨.bl _,H,I,rfl,q⟩
structure MkN(K:PySem.W.Frag)(C:Addr):Prop where
 makes:PySem.W.makesIn K C=true
 init:PySem.W.findIn K (.ref C) "__init__"=some (some (.builtin "object.__init__"))
 kp:PySem.W.keepIn K (.ref C)=true
def qjm(C:Addr):TE:=λ_ H Q=>∀x dx,H x=none->H dx=none->dx≠x->Q (.ref x) (upd (upd H dx (.own x)) x (.ins C dx []))
theorem qeh{C:Addr}{z5:List (Addr×Obj)}{σ:St}{H:Hp}{s:Shared}{Q:VK}(M:MkN X.K C)(I:Inv X z5 σ H s)
   (h:∀x dx,H x=none->H dx=none->dx≠x->Q (.ref x) (upd (upd H dx (.own x)) x (.ins C dx []))):wpAny (model X.prog X.w) X.A (call (.ref C) []) (EP X z5 σ Q) X.xe s:=by
 have hq:=h (s.heap.objs.size+1) s.heap.objs.size (I.hok.fresh (Nat.le_succ _)) (I.hok.fresh (ja _)) (jh (Nat.lt_succ_self _))
 have I2:=Inv.made (C:=C) I
 refine wpAny_call (qfk I.kIn M.makes M.init (λself=>PySem.W.Looks.of_pure (PySem.W.oi_bind self)) ?_)
 have Y:=PySem.W.makes_of (M:=model X.prog X.w) I.kIn M.makes
 have g1:((s.heap.push PySem.W.emptyDict).push (PySem.W.instObj C s.heap.objs.size)).get? (s.heap.objs.size+1)=some (PySem.W.instObj C s.heap.objs.size):=by
   have z:=jl (o:=PySem.W.instObj C s.heap.objs.size) (s.heap.push PySem.W.emptyDict) rfl
   rwa [x8]at z
 have t1:PySem.W.Looks (model X.prog X.w) ((s.heap.push PySem.W.emptyDict).push (PySem.W.instObj C s.heap.objs.size)) (typeOf (.ref (s.heap.objs.size+1))) (.ref C):=(PySem.W.Looks.ld g1).andThen .now
 have t2:PySem.W.Looks (model X.prog X.w) ((s.heap.push PySem.W.emptyDict).push (PySem.W.instObj C s.heap.objs.size)) (isInstance (.ref (s.heap.objs.size+1)) (.type "object")) true:=
   t1.andThen (Y.top.keeps λb o e=>j9 _ (j9 _ e))
 refine codeAny_call_builtin PySem.W.oi_plain PySem.W.entry_oi (PySem.W.check_slot PySem.W.oi_kind PySem.W.oi_split t2 (PySem.W.oi_args _) ?_)
 rw[PySem.W.oi_run]
 exact j7 ⟨rfl,⟨.ref (s.heap.objs.size+1),_,I2,rfl,hq⟩⟩
theorem qhm{C:Addr}{x:Str}{p pos:Pos}(M:MkN X.K C)(hg:Gl X x)(hm:X.mg x=some (.ref C))(hdb:(x==("__debug__":Str))=false:=by decide):PE X (.Call (.Name x p) [] [] pos) (qjm C):=by
 intro z5 s σ H Q I h
 refine xo (qag I hg hm ?_ hdb)
 exact PySem.W.callWith_K0 I.kIn M.kp (qeh M I h)
end
def seqIs(b:Bool)(h:Heap)(l:Addr)(xs:Array Value):Prop:=match b with
 |true=>h.IsList l xs
 |false=>h.IsTuple l xs
def iterIs(b:Bool)(h:Heap)(i l:Addr)(k:Nat):Prop:=match b with
 |true=>h.IsListIter i l k
 |false=>h.IsTupleIter i l k
def q4x(b:Bool)(l:Addr):Obj:={cls:=.type (if b then "list_iterator" else "tuple_iterator"),data:=.fields #[.ref l,.int 0 0]}
theorem seqIs.at_{b:Bool}{h h':Heap}{l:Addr}{xs:Array Value}(q:seqIs b h l xs)(e:∀o,h.get? l=some o->h'.get? l=some o):seqIs b h' l xs:=by
 cases b
 · obtain⟨o,z,r⟩:=(show h.IsTuple l xs from q)
   exact(show h'.IsTuple l xs from⟨o,e o z,r⟩)
 · obtain⟨o,z,r⟩:=(show h.IsList l xs from q)
   exact(show h'.IsList l xs from⟨o,e o z,r⟩)
theorem iterIs.at_{b:Bool}{h h':Heap}{i l:Addr}{k:Nat}(q:iterIs b h i l k)(e:∀o,h.get? i=some o->h'.get? i=some o):iterIs b h' i l k:=by
 cases b
 · obtain⟨o,z,r⟩:=(show h.IsTupleIter i l k from q)
   exact(show h'.IsTupleIter i l k from⟨o,e o z,r⟩)
 · obtain⟨o,z,r⟩:=(show h.IsListIter i l k from q)
   exact(show h'.IsListIter i l k from⟨o,e o z,r⟩)
theorem iterIs.obj{b:Bool}{h:Heap}{i l:Addr}{k:Nat}(q:iterIs b h i l k):∃o,h.get? i=some o/\∀v,o.data≠.cell v:=by
 cases b
 · obtain⟨o,z,_,d⟩:=(show h.IsTupleIter i l k from q)
   exact⟨o,z,λv e=>by rw[d]at e;cases e⟩
 · obtain⟨o,z,_,d⟩:=(show h.IsListIter i l k from q)
   exact⟨o,z,λv e=>by rw[d]at e;cases e⟩
theorem iterIs.mk_{b:Bool}{h:Heap}{i l:Addr}(q:h.get? i=some (q4x b l)):iterIs b h i l 0:=by
 cases b
 · exact(show h.IsTupleIter i l 0 from⟨_,q,rfl,rfl⟩)
 · exact(show h.IsListIter i l 0 from⟨_,q,rfl,rfl⟩)
section
variable{prog:Program}{w:World}{A:Around}{E:Value->Shared->Prop}{s:Shared}
theorem q7l{b:Bool}{l:Addr}{xs:Array Value}{Q:Value->Shared->Prop}(q:seqIs b s.heap l xs)(h:Q (.ref s.heap.objs.size) {s with heap:=s.heap.push (q4x b l)}):wpAny (model prog w) A (pyIter (.ref l)) Q E s:=by
 cases b
 · exact wpAny_pyIter_tuple (show s.heap.IsTuple l xs from q) h
 · exact wpAny_pyIter_list (show s.heap.IsList l xs from q) h
theorem q97{i l:Addr}{k:Nat}{xs:Array Value}{x:Value}{Q:Value->Shared->Prop}(st:s.heap.IsTupleIter i l k)(tp:s.heap.IsTuple l xs)(e:xs[k]? =some x)
   (h:∀h',h'.IsTupleIter i l (k+1)->Heap.SameBut i s.heap h'->Q x {s with heap:=h'}):wpAny (model prog w) A (Builtin.SmallTypes.nextOf (.ref i)) Q E s:=by
 obtain⟨oi,gi,ci,di⟩:=id st
 obtain⟨ot,gt,_,nt,dt⟩:=tp
 unfold Builtin.SmallTypes.nextOf
 refine j5 (k7 (name:=Str.ofString "__next__") st.typeIs kj (k6 kj st.typeIs F.entry_tuple_iterator_next ?_ (F.args_tuple_iterator_next_1 _)))
 show wpAny _ _ (field (.ref i) 0 >>= _) _ _ s
 refine j5 (xh gi di (x:=.ref l) rfl ?_)
 show wpAny _ _ (if(Value.ref l==Value.none)=true then _ else _) _ _ s
 rw[if_neg (by exact Bool.false_ne_true:¬((Value.ref l==Value.none)=true))]
 show wpAny _ _ (field (.ref i) 1 >>= _) _ _ s
 refine j5 (xh gi di (x:=.int k 0) rfl ?_)
 show wpAny _ _ (seqItems? (.ref l) >>= _) _ _ s
 refine j5 (xp gt dt ?_)
 simp only[Int.toNat_natCast,e]
 refine j5 (wpAny_setField gi di (by simp) (j7 ⟨x,rfl,j7 (h _ ?_ (kh ..))⟩))
 refine⟨_,ke _ gi (Obj.isFreed_of_fields (Obj.data_mapFields di _)),(Obj.cls_mapFields ..).trans ci,?_⟩
 rw[Obj.data_mapFields di]
 simp[rawInt]
theorem q65{i l:Addr}{k:Nat}{xs:Array Value}{Q:Value->Shared->Prop}(hh:A.handled=none)(st:s.heap.IsTupleIter i l k)(tp:s.heap.IsTuple l xs)(e:xs[k]? =none)
   (h:∀h' x,Heap.ExtBut i s.heap h'->(∃o,h'.get? x=some o/\o.cls=.type "StopIteration")->E (.ref x) {s with heap:=h'}):wpAny (model prog w) A (Builtin.SmallTypes.nextOf (.ref i)) Q E s:=by
 obtain⟨oi,gi,ci,di⟩:=id st
 obtain⟨ot,gt,_,nt,dt⟩:=tp
 unfold Builtin.SmallTypes.nextOf
 refine j5 (k7 (name:=Str.ofString "__next__") st.typeIs kj (k6 kj st.typeIs F.entry_tuple_iterator_next ?_ (F.args_tuple_iterator_next_1 _)))
 show wpAny _ _ (field (.ref i) 0 >>= _) _ _ s
 refine j5 (xh gi di (x:=.ref l) rfl ?_)
 show wpAny _ _ (if(Value.ref l==Value.none)=true then _ else _) _ _ s
 rw[if_neg (by exact Bool.false_ne_true:¬((Value.ref l==Value.none)=true))]
 show wpAny _ _ (field (.ref i) 1 >>= _) _ _ s
 refine j5 (xh gi di (x:=.int k 0) rfl ?_)
 show wpAny _ _ (seqItems? (.ref l) >>= _) _ _ s
 refine j5 (xp gt dt ?_)
 simp only[Int.toNat_natCast,e]
 refine j5 (wpAny_rule (j5 (wpAny_setField gi di (by simp) ?_)))
 show wpAny _ _ (newExc (.type "StopIteration") [] >>= _) _ _ _
 refine j5 ?_
 simp only[newExc,newTuple]
 refine j5 (xq ?_ (by size_fits))
 refine j5 (m:=firstArgMember _ _) (wpAny_of_eq (a:=Value.none) (by first|rfl|(simp only[firstArgMember]<;>rfl)) ?_)
 refine xq ?_ (by size_fits)
 simp only[raiseNew]
 refine j5 (wpAny_handled ?_)
 first|rw[(hh:A.in1.handled=none)]|rw[hh]
 refine j5 (j7 (wpAny_throw ?_))
 exact h _ _ (((kh ..).extBut.push _).push _) ⟨_,jl _ rfl,rfl⟩
theorem q5o{b:Bool}{i l:Addr}{k:Nat}{xs:Array Value}{x:Value}{Q:Value->Shared->Prop}(st:iterIs b s.heap i l k)(tp:seqIs b s.heap l xs)(e:xs[k]? =some x)
   (h:∀h',iterIs b h' i l (k+1)->Heap.SameBut i s.heap h'->Q x {s with heap:=h'}):wpAny (model prog w) A (Builtin.SmallTypes.nextOf (.ref i)) Q E s:=by
 cases b
 · exact q97 st tp e h
 · exact wpAny_nextOf_list_item st tp e h
theorem q4t{b:Bool}{i l:Addr}{k:Nat}{xs:Array Value}{Q:Value->Shared->Prop}(hh:A.handled=none)(st:iterIs b s.heap i l k)(tp:seqIs b s.heap l xs)(e:xs[k]? =none)
   (h:∀h' x,Heap.ExtBut i s.heap h'->(∃o,h'.get? x=some o/\o.cls=.type "StopIteration")->E (.ref x) {s with heap:=h'}):wpAny (model prog w) A (Builtin.SmallTypes.nextOf (.ref i)) Q E s:=by
 cases b
 · exact q65 hh st tp e h
 · exact wpAny_nextOf_list_end hh st tp e h
theorem qgs{z TI TO i1 i2 l1 l2:Addr}{b1 b2:Bool}{k1 k2:Nat}{xs ys:Array Value}{x y a b:Value}{Q:Option Value->Shared->Prop}(D:ZipApart z TI TO i1 i2 l1 l2)
   (hz:IsZip s.heap z TI TO .none) (hTI:IsPair s.heap TI (.ref i1) (.ref i2)) (hTO:IsPair s.heap TO a b) (h1:iterIs b1 s.heap i1 l1 k1) (h2:iterIs b2 s.heap i2 l2 k2) (q1:seqIs b1 s.heap l1 xs) (q2:seqIs b2 s.heap l2 ys) (hx:xs[k1]? =some x) (hy:ys[k2]? =some y)
   (hQ:∀h',IsZip h' z TI TO (rawInt s.heap.objs.size)->IsPair h' TO x y->iterIs b1 h' i1 l1 (k1+1)->iterIs b2 h' i2 l2 (k2+1)->IsPair h' s.heap.objs.size x y->
     (∀c o,c≠z->c≠TO->c≠i1->c≠i2->s.heap.get? c=some o->h'.get? c=some o)->Q (some (.ref s.heap.objs.size)) {s with heap:=h'}):wpAny (model prog w) A (pyNext (.ref z)) Q E s:=by
 have ty:s.TypeIs (.ref z) "zip":=⟨_,hz,rfl⟩
 unfold pyNext
 refine j5 (wpAny_attempt (k7 (name:=Str.ofString "__next__") ty F.slot_zip_next (k6 F.slot_zip_next ty F.entry_zip_next ?_ (F.args_zip_next_1 _))))
 show wpAny _ _ (field (.ref z) 2 >>= _) _ _ _
 refine j5 (xh hz rfl (x:=.bool false) rfl ?_)
 show wpAny _ _ (field (.ref z) 3 >>= _) _ _ _
 refine j5 (xh hz rfl (x:=.ref TI) rfl (j5 (xp hTI rfl ?_)))
 show wpAny _ _ (Builtin.SmallTypes.ownedTupleIsFree (.ref z) >>= _) _ _ _
 refine j5 ?_
 unfold Builtin.SmallTypes.ownedTupleIsFree
 refine j5 (xh hz rfl (x:=.none) rfl (j7 ?_))
 simp only[if_true]
 refine j5 (wpAny_rule (j5 (xh hz rfl (x:=.ref TO) rfl (j5 (kf hz (by simp) λg1 z1 s1=>?_)))))
 have Z1:IsZip g1 z TI TO .ellipsis:=z1
 refine j5 ?_
 simp only[List.zipIdx_cons,List.zipIdx_nil,List.forIn_cons,List.forIn_nil]
 refine j5 (j5 (wpAny_onRaise ?_))
 show wpAny _ _ (Builtin.SmallTypes.nextOf (.ref i1) >>= _) _ _ _
 refine j5 (q5o (h1.at_ λo e=>s1.extBut _ o D.i1z e) (q1.at_ λo e=>s1.extBut _ o D.l1z e) hx λg2 n2 s2=>j7 ?_)
 have P2:IsPair g2 TO a b:=s2.extBut _ _ D.TOi1 (s1.extBut _ _ D.TOz hTO)
 refine j5 (xp P2 rfl (j5 (wpAny_updateSeq_pair P2 λg3 p3 s3=>j5 (wpAny_letGo (j7 ?_)))))
 have P3:IsPair g3 TO x b:=p3
 refine j5 (j5 (wpAny_onRaise ?_))
 show wpAny _ _ (Builtin.SmallTypes.nextOf (.ref i2) >>= _) _ _ _
 refine j5 (q5o (h2.at_ λo e=>s3.extBut _ o D.TOi2.symm (s2.extBut _ o D.i12.symm (s1.extBut _ o D.i2z e))) (q2.at_ λo e=>s3.extBut _ o D.l2TO (s2.extBut _ o D.l2i1 (s1.extBut _ o D.l2z e))) hy λg4 n4 s4=>j7 ?_)
 have P4:IsPair g4 TO x b:=s4.extBut _ _ D.TOi2 P3
 refine j5 (xp P4 rfl (j5 (wpAny_updateSeq_pair P4 λg5 p5 s5=>j5 (wpAny_letGo (j7 (j7 ?_))))))
 have P5:IsPair g5 TO x y:=p5
 refine j5 (xp P5 rfl (j5 (wpAny_newTuple ?_)))
 have sz:g5.objs.size=s.heap.objs.size:=by rw[s5.1,s4.1,s3.1,s2.1,s1.1]
 have Z5:IsZip g5 z TI TO .ellipsis:=s5.extBut _ _ D.TOz.symm (s4.extBut _ _ D.i2z.symm (s3.extBut _ _ D.TOz.symm (s2.extBut _ _ D.i1z.symm Z1)))
 have K5:∀c o,c≠z->c≠TO->c≠i1->c≠i2->s.heap.get? c=some o->g5.get? c=some o:=λc o c1 c2 c3 c4 e=>s5.extBut _ _ c2 (s4.extBut _ _ c4 (s3.extBut _ _ c2 (s2.extBut _ _ c3 (s1.extBut _ _ c1 e))))
 have N1:iterIs b1 g5 i1 l1 (k1+1):=n2.at_ λo e=>s5.extBut _ o D.TOi1.symm (s4.extBut _ o D.i12 (s3.extBut _ o D.TOi1.symm e))
 have N2:iterIs b2 g5 i2 l2 (k2+1):=n4.at_ λo e=>s5.extBut _ o D.TOi2.symm e
 have zlt:z<g5.objs.size:=j8 Z5
 show wpAny _ _ (Builtin.SmallTypes.ownedTupleHandOut (.ref z) (.ref g5.objs.size) >>= _) _ _ _
 refine j5 ?_
 unfold Builtin.SmallTypes.ownedTupleHandOut
 have Z6:IsZip (g5.push {cls:=.type "tuple",data:=.seq #[x,y]}) z TI TO .ellipsis:=j9 _ Z5
 refine j5 (kf Z6 (by simp) λg7 z7 s7=>?_)
 have Z7:IsZip g7 z TI TO (rawInt g5.objs.size):=z7
 refine kf Z7 (by simp) λg8 z8 s8=>?_
 have Z8:IsZip g8 z TI TO (rawInt g5.objs.size):=z8
 have up:∀c o,c≠z->g5.get? c=some o->g8.get? c=some o:=λc o c1 e=>s8.extBut _ _ c1 (s7.extBut _ _ c1 (j9 _ e))
 have T8:IsPair g8 g5.objs.size x y:=s8.extBut _ _ (Nat.ne_of_gt zlt) (s7.extBut _ _ (Nat.ne_of_gt zlt) (jl _ rfl))
 rw[sz]at Z8 T8
 refine j7 ⟨_,rfl,j7 ?_⟩
 show Q (some (.ref g5.objs.size)) _
 rw[sz]
 exact hQ g8 Z8 (up _ _ D.TOz P5) (N1.at_ λo e=>up _ o D.i1z e) (N2.at_ λo e=>up _ o D.i2z e) T8 λc o c1 c2 c3 c4 e=>up c o c1 (K5 c o c1 c2 c3 c4 e)
theorem qkn{z TI TO i1 i2 l1 l2:Addr}{b1 b2:Bool}{k1 k2:Nat}{xs ys:Array Value}{a b:Value}{Q:Option Value->Shared->Prop}(hh:A.handled=none)(D:ZipApart z TI TO i1 i2 l1 l2)
   (hz:IsZip s.heap z TI TO .none) (hTI:IsPair s.heap TI (.ref i1) (.ref i2)) (hTO:IsPair s.heap TO a b) (h1:iterIs b1 s.heap i1 l1 k1) (h2:iterIs b2 s.heap i2 l2 k2) (q1:seqIs b1 s.heap l1 xs) (q2:seqIs b2 s.heap l2 ys) (hend:xs[k1]? =none∨ys[k2]? =none)
   (hQ:∀h',(∀c o,c≠z->c≠TO->c≠i1->c≠i2->s.heap.get? c=some o->h'.get? c=some o)->Q none {s with heap:=h'}):wpAny (model prog w) A (pyNext (.ref z)) Q E s:=by
 have ty:s.TypeIs (.ref z) "zip":=⟨_,hz,rfl⟩
 have fin:∀(h':Heap) (e:Addr),(∀c o,c≠z->c≠TO->c≠i1->c≠i2->s.heap.get? c=some o->h'.get? c=some o)->(∃o,h'.get? e=some o/\o.cls=.type "StopIteration")->
     wpAny (model prog w) A (isInstance (.ref e) (.type "StopIteration") >>= λr=>if r=true then pure none else throw (.ref e)) Q E {s with heap:=h'}:=λh' e hk ⟨o,ho,hc⟩=>
   j5 (wpAny_isInstance (T:="StopIteration") (b:=true) ⟨o,ho,hc⟩ isSubtype_stop (j7 (hQ _ hk)))
 unfold pyNext
 refine j5 (wpAny_attempt (k7 (name:=Str.ofString "__next__") ty F.slot_zip_next (k6 F.slot_zip_next ty F.entry_zip_next ?_ (F.args_zip_next_1 _))))
 show wpAny _ _ (field (.ref z) 2 >>= _) _ _ _
 refine j5 (xh hz rfl (x:=.bool false) rfl ?_)
 show wpAny _ _ (field (.ref z) 3 >>= _) _ _ _
 refine j5 (xh hz rfl (x:=.ref TI) rfl (j5 (xp hTI rfl ?_)))
 show wpAny _ _ (Builtin.SmallTypes.ownedTupleIsFree (.ref z) >>= _) _ _ _
 refine j5 ?_
 unfold Builtin.SmallTypes.ownedTupleIsFree
 refine j5 (xh hz rfl (x:=.none) rfl (j7 ?_))
 simp only[if_true]
 refine j5 (wpAny_rule (j5 (xh hz rfl (x:=.ref TO) rfl (j5 (kf hz (by simp) λg1 z1 s1=>?_)))))
 have Z1:IsZip g1 z TI TO .ellipsis:=z1
 refine j5 ?_
 simp only[List.zipIdx_cons,List.zipIdx_nil,List.forIn_cons,List.forIn_nil]
 refine j5 (j5 (wpAny_onRaise ?_))
 show wpAny _ _ (Builtin.SmallTypes.nextOf (.ref i1) >>= _) _ _ _
 have I1:iterIs b1 g1 i1 l1 k1:=h1.at_ λo e=>s1.extBut _ o D.i1z e
 have L1:seqIs b1 g1 l1 xs:=q1.at_ λo e=>s1.extBut _ o D.l1z e
 cases ex:xs[k1]? with
 | none=>
   refine j5 (q4t hh I1 L1 ex λg2 e s2 he=>?_)
   obtain⟨oe,he,ce⟩:=he
   have Z2:IsZip g2 z TI TO .ellipsis:=s2 _ _ D.i1z.symm Z1
   have nez:e≠z:=λq=>by subst q;rw[Z2]at he;cases he;simp at ce
   exact kf Z2 (by simp) λg3 _ s3=>fin g3 e (λc o c1 _ c3 _ q=>s3.extBut _ _ c1 (s2 _ _ c3 (s1.extBut _ _ c1 q))) ⟨oe,s3.extBut _ _ nez he,ce⟩
 | some x=>
   have ey:ys[k2]? =none:=by
     rcases hend with q|q
     · rw[ex]at q;cases q
     · exact q
   refine j5 (q5o I1 L1 ex λg2 n2 s2=>j7 ?_)
   have P2:IsPair g2 TO a b:=s2.extBut _ _ D.TOi1 (s1.extBut _ _ D.TOz hTO)
   refine j5 (xp P2 rfl (j5 (wpAny_updateSeq_pair P2 λg3 p3 s3=>j5 (wpAny_letGo (j7 ?_)))))
   refine j5 (j5 (wpAny_onRaise ?_))
   show wpAny _ _ (Builtin.SmallTypes.nextOf (.ref i2) >>= _) _ _ _
   refine j5 (q4t hh (h2.at_ λo e=>s3.extBut _ o D.TOi2.symm (s2.extBut _ o D.i12.symm (s1.extBut _ o D.i2z e))) (q2.at_ λo e=>s3.extBut _ o D.l2TO (s2.extBut _ o D.l2i1 (s1.extBut _ o D.l2z e))) ey λg4 e s4 he=>?_)
   obtain⟨oe,he,ce⟩:=he
   have Z4:IsZip g4 z TI TO .ellipsis:=s4 _ _ D.i2z.symm (s3.extBut _ _ D.TOz.symm (s2.extBut _ _ D.i1z.symm Z1))
   have nez:e≠z:=λq=>by subst q;rw[Z4]at he;cases he;simp at ce
   exact kf Z4 (by simp) λg5 _ s5=>fin g5 e (λc o c1 c2 c3 c4 q=>s5.extBut _ _ c1 (s4 _ _ c4 (s3.extBut _ _ c2 (s2.extBut _ _ c3 (s1.extBut _ _ c1 q))))) ⟨oe,s5.extBut _ _ nez he,ce⟩
abbrev zo1(b1:Bool)(h:Heap)(l1:Addr):Heap:=h.push (q4x b1 l1)
abbrev zo2(b1 b2:Bool)(h:Heap)(l1 l2:Addr):Heap:=(zo1 b1 h l1).push (q4x b2 l2)
abbrev zo3(b1 b2:Bool)(h:Heap)(l1 l2:Addr):Heap:=(zo2 b1 b2 h l1 l2).push {cls:=.type "tuple",data:=.seq #[.ref h.objs.size,.ref (zo1 b1 h l1).objs.size]}
abbrev zo4(b1 b2:Bool)(h:Heap)(l1 l2:Addr):Heap:=(zo3 b1 b2 h l1 l2).push {cls:=.type "tuple",data:=.seq #[.none,.none]}
abbrev zo5(b1 b2:Bool)(h:Heap)(l1 l2:Addr):Heap:=(zo4 b1 b2 h l1 l2).push {cls:=.type "zip",data:=.fields #[.none,.bool false,.bool false,.ref (zo2 b1 b2 h l1 l2).objs.size,.ref (zo3 b1 b2 h l1 l2).objs.size]}
theorem qkm(b1 b2:Bool)(l1 l2:Addr)(xs ys:Array Value):Meets (Builtin.«zip.__new__» ⟨[.type "zip",.ref l1,.ref l2],[]⟩) (λ_ R s=>seqIs b1 s.heap l1 xs/\seqIs b2 s.heap l2 ys/\
     R (.ok (.ret (.ref (zo4 b1 b2 s.heap l1 l2).objs.size))) {s with heap:=zo5 b1 b2 s.heap l1 l2}):=by
 refine .of_wp λprog w A R s q=>?_
 obtain⟨hp,g,d,tk,os⟩:=s
 obtain⟨q1,q2,q⟩:=q
 have sub:=sub_zip
 have L1:seqIs b1 (Shared.heap ⟨hp,g,d,tk,os⟩) l1 xs:=q1
 have L2':seqIs b2 (Shared.heap ⟨hp.push (q4x b1 l1),g,d,tk,os⟩) l2 ys:=q2.at_ λo z=>j9 _ z
 wp_walk using q7l L1,q7l L2'
 exact⟨_,rfl,q⟩
theorem qir{b1 b2:Bool}{l1 l2:Addr}{xs ys:Array Value}{Q:Value->Shared->Prop}(q1:seqIs b1 s.heap l1 xs)(q2:seqIs b2 s.heap l2 ys)
   (h:∀h',IsZip h' (s.heap.objs.size+4) (s.heap.objs.size+2) (s.heap.objs.size+3) .none->IsPair h' (s.heap.objs.size+2) (.ref s.heap.objs.size) (.ref (s.heap.objs.size+1))->IsPair h' (s.heap.objs.size+3) .none .none->
     iterIs b1 h' s.heap.objs.size l1 0->iterIs b2 h' (s.heap.objs.size+1) l2 0->(∀c o,s.heap.get? c=some o->h'.get? c=some o)->Q (.ref (s.heap.objs.size+4)) {s with heap:=h'}):
   wpAny (model prog w) A (call (.type "zip") [.ref l1,.ref l2]) Q E s:=by
 refine callType_new F.called_zip (by decide) (F.typeCall_zip_2 _ _) (F.newCall_zip_2 _ _) (λobj=>F.args_object_init_3 obj _ _) F.entry_zip_new (qkm b1 b2 l1 l2 xs ys) ⟨q1,q2,?_⟩
 have y1:(zo1 b1 s.heap l1).objs.size=s.heap.objs.size+1:=x8 ..
 have y2:(zo2 b1 b2 s.heap l1 l2).objs.size=s.heap.objs.size+2:=by rw[x8,y1]
 have y3:(zo3 b1 b2 s.heap l1 l2).objs.size=s.heap.objs.size+3:=by rw[x8,y2]
 have y4:(zo4 b1 b2 s.heap l1 l2).objs.size=s.heap.objs.size+4:=by rw[x8,y3]
 have k5:(zo5 b1 b2 s.heap l1 l2).get? (zo4 b1 b2 s.heap l1 l2).objs.size=some _:=jl _ rfl
 have k4:(zo5 b1 b2 s.heap l1 l2).get? (zo3 b1 b2 s.heap l1 l2).objs.size=some _:=j9 _ (jl _ rfl)
 have k3:(zo5 b1 b2 s.heap l1 l2).get? (zo2 b1 b2 s.heap l1 l2).objs.size=some _:=j9 _ (j9 _ (jl _ rfl))
 have k2:(zo5 b1 b2 s.heap l1 l2).get? (zo1 b1 s.heap l1).objs.size=some (q4x b2 l2):=j9 _ (j9 _ (j9 _ (jl _ (by cases b2<;>rfl))))
 have k1:(zo5 b1 b2 s.heap l1 l2).get? s.heap.objs.size=some (q4x b1 l1):=j9 _ (j9 _ (j9 _ (j9 _ (jl _ (by cases b1<;>rfl)))))
 show _/\_
 rw[y2,y3,y4]at k5
 rw[y1,y2]at k3
 rw[y3]at k4
 rw[y1]at k2
 rw[y4]
 exact⟨⟨_,k5,rfl⟩,h _ k5 k3 k4 (iterIs.mk_ k1) (iterIs.mk_ k2) λc o x=>j9 _ (j9 _ (j9 _ (j9 _ (j9 _ x))))⟩
end
def SqB(K:PySem.W.Frag)(b:Bool)(H:Hp)(p:Addr)(xs:List V):Prop:=match b with
 |true=>SqL K H p xs
 |false=>SqT K H p xs
section
variable{X:Cx}{z5:List (Addr×Obj)}{σ:St}{H:Hp}{s:Shared}{b b1 b2:Bool}{p p1 p2:Addr}{xs ys:List V}
theorem Inv.seqB(I:Inv X z5 σ H s)(h:SqB X.K b H p xs):∃its:List Value,Vals xs its/\seqIs b s.heap p its.toArray/\xs.length<=sizeLine:=by
 cases b
 · obtain⟨its,r,q,hz⟩:=I.tuple (show SqT X.K H p xs from h)
   exact⟨its,r,(show s.heap.IsTuple p its.toArray from q),hz⟩
 · obtain⟨its,r,q,hz⟩:=I.list (show SqL X.K H p xs from h)
   exact⟨its,r,(show s.heap.IsList p its.toArray from q.isList),hz⟩
theorem Inv.seqB_inj(I:Inv X z5 σ H s)(h:SqB X.K b H p xs)(h':SqB X.K b H p ys):xs=ys:=by
 cases b
 · exact I.tuple_inj h h'
 · exact I.list_inj h h'
end
def Itz(K:PySem.W.Frag)(b1 b2:Bool)(p1 p2:Addr):It:=
 ⟨λi H=>∃xs ys x y,SqB K b1 H p1 xs/\SqB K b2 H p2 ys/\xs[i]? =some x/\ys[i]? =some y,
  λi H v H'=>∃T x y,v=.ref T/\H T=none/\H'=upd H T (.tup [x,y])/\(∀xs,SqB K b1 H p1 xs->xs[i]? =some x)/\∀ys,SqB K b2 H p2 ys->ys[i]? =some y,
  λi H=>∃xs ys,SqB K b1 H p1 xs/\SqB K b2 H p2 ys/\(xs.length<=i∨ys.length<=i)⟩
def qs1(b1 b2:Bool)(p1 p2 z TI TO i1 i2:Addr)(i:Nat)(h:Heap):Prop:=IsZip h z TI TO .none/\IsPair h TI (.ref i1) (.ref i2)/\(∃a b,IsPair h TO a b)/\iterIs b1 h i1 p1 i/\iterIs b2 h i2 p2 i
theorem qh0{P:Program}{w:World}{K:PySem.W.Frag}{zj:List Expr}{x1:Nat}{pos:Pos}(b1 b2:Bool){p1 p2 z TI TO i1 i2:Addr}(D:ZipApart z TI TO i1 i2 p1 p2):
   Turn P w K (.Tuple zj x1 pos) (Itz K b1 b2 p1 p2) [z,TI,TO,i1,i2] z (qs1 b1 b2 p1 p2 z TI TO i1 i2) where
 mem:=by simp
 obj:=λi h st c hc=>by
   obtain⟨hz,hI,⟨a,b,hO⟩,j1,j2⟩:=st
   simp only[List.mem_cons,List.not_mem_nil,or_false]at hc
   rcases hc with rfl|rfl|rfl|rfl|rfl
   · exact⟨_,hz,λv e=>by cases e⟩
   · exact⟨_,hI,λv e=>by cases e⟩
   · exact⟨_,hO,λv e=>by cases e⟩
   · exact j1.obj
   · exact j2.obj
 keep:=λi h h' st k=>by
   obtain⟨hz,hI,⟨a,b,hO⟩,j1,j2⟩:=st
   exact⟨k z (by simp) _ hz,k TI (by simp) _ hI,⟨a,b,k TO (by simp) _ hO⟩,j1.at_ λo e=>k i1 (by simp) o e,j2.at_ λo e=>k i2 (by simp) o e⟩
 item:=by
   intro X hP hw hK hc i z5 s σ H E I hf st hg
   subst hP hw hK
   obtain⟨xs,ys,x,y,q1,q2,ex,ey⟩:=hg
   obtain⟨it1,r1,t1,_⟩:=I.seqB q1
   obtain⟨it2,r2,t2,_⟩:=I.seqB q2
   obtain⟨u,eu,ru⟩:=r1.get ex
   obtain⟨v,ev,rv⟩:=r2.get ey
   obtain⟨hz,hI,⟨a,b,hO⟩,j1,j2⟩:=st
   refine qgs D hz hI hO j1 j2 t1 t2 (x:=u) (y:=v) (by simpa using eu) (by simpa using ev) λh' z' o' n1 n2 tp kk=>?_
   refine⟨_,rfl,?_⟩
   refine wpAny_letOwnedTupleGo_zip z' λh'' z'' s''=>?_
   have fresh:H s.heap.objs.size=none:=I.hok.fresh (ja _)
   have zne:s.heap.objs.size≠z:=λe=>by
     have:=j8 hz
     rw[<-e]at this
     exact jy _ this
   have keep:∀c o,c∉[z,TI,TO,i1,i2]->s.heap.get? c=some o->h''.get? c=some o:=λc o hc e=>by
     simp only[List.mem_cons,List.not_mem_nil,or_false,not_or]at hc
     exact s''.extBut c o hc.1 (kk c o hc.1 hc.2.2.1 hc.2.2.2.1 hc.2.2.2.2 e)
   have tp':h''.get? s.heap.objs.size=some {cls:=.type "tuple",data:=.seq #[u,v]}:=s''.extBut _ _ zne tp
   have I':Inv X z5 σ (upd H s.heap.objs.size (.tup [x,y])) {s with heap:=h'',toks:=s.toks}:=by
     refine I.step (g':=s.gens) (d':=s.drawn) (ch:=[z,TI,TO,i1,i2]) (λc hc=>?_) (λc o _ _ hc e _=>keep c o hc e) (λc o _ _ hc e _=>⟨o.slots,keep c o hc e⟩) (λc o _ e n=>?_) (λc o hc e=>⟨o,keep c o hc e⟩)
       (λc zs e=>?_) (λc o w' e=>?_) (λc ps e=>⟨#[],?_⟩) (λm hm=>?_) (λc o e=>?_) I.bare
     · obtain⟨_,f1,f2,f3,f4,f5⟩:=hf c hc
       exact⟨f3,f1,f4,f5⟩
     · rw[q0n (jh (j8 e))];exact n
     · rw[q0n (q1a e fresh)];exact e
     · rw[q0n (q1a e fresh)];exact e
     · rw[q0n (q1a e fresh),e];simp
     · obtain⟨o,es,ep,ho,r⟩:=hm
       exact⟨o,es,ep,keep _ o (λq=>(hf _ q).2.1 rfl) ho,r⟩
     · by_cases hb:c=s.heap.objs.size
       · subst hb
         rw[q0r]at e
         cases e
         exact⟨by show 2<=sizeLine;decide,[u,v],.cons ru (.cons rv .nil),⟨_,tp',⟨rfl,_,rfl⟩,rfl⟩⟩
       · rw[q0n hb]at e
         refine(I.hok c o e).stay (λd w' hd q=>keep d w' (λm=>?_) q) (λd q=>?_) λd zs q=>?_
         · have n:=(hf d m).1
           rcases hd with rfl|hd
           · rw[n]at e;cases e
           · rw[n]at hd;cases hd
         · rw[q0n (q1a q fresh)];exact q
         · rw[q0n (q1a q fresh)];exact q
   refine⟨.ref s.heap.objs.size,_,I',rfl,⟨_,x,y,rfl,fresh,rfl,λzs q=>by rw[I.seqB_inj q q1];exact ex,λzs q=>by rw[I.seqB_inj q q2];exact ey⟩,?_,λc hc=>?_⟩
   · refine⟨z'',s''.extBut _ _ D.TIz (kk _ _ D.TIz D.TITO D.TIi1 D.TIi2 hI),⟨u,v,s''.extBut _ _ D.TOz o'⟩,n1.at_ λo e=>s''.extBut _ o D.i1z e,n2.at_ λo e=>s''.extBut _ o D.i2z e⟩
   · have lt:c<s.heap.objs.size:=by
       simp only[List.mem_cons,List.not_mem_nil,or_false]at hc
       rcases hc with rfl|rfl|rfl|rfl|rfl
       · exact j8 hz
       · exact j8 hI
       · exact j8 hO
       · obtain⟨o,e,_⟩:=j1.obj;exact j8 e
       · obtain⟨o,e,_⟩:=j2.obj;exact j8 e
     rw[q0n (jh lt)]
     exact(hf c hc).1
 done:=by
   intro X hP hw hK hc i z5 s σ H E I hf st hg
   subst hP hw hK
   obtain⟨xs,ys,q1,q2,hl⟩:=hg
   obtain⟨it1,r1,t1,_⟩:=I.seqB q1
   obtain⟨it2,r2,t2,_⟩:=I.seqB q2
   obtain⟨hz,hI,⟨a,b,hO⟩,j1,j2⟩:=st
   have l1:=r1.length
   have l2:=r2.length
   refine qkn (I.ok.hd hc) D hz hI hO j1 j2 t1 t2 (by rcases hl with h|h;exact .inl (by simp;omega);exact .inr (by simp;omega)) λh' kk=>⟨rfl,?_⟩
   have keep:∀c o,c∉[z,TI,TO,i1,i2]->s.heap.get? c=some o->h'.get? c=some o:=λc o hc e=>by
     simp only[List.mem_cons,List.not_mem_nil,or_false,not_or]at hc
     exact kk c o hc.1 hc.2.2.1 hc.2.2.2.1 hc.2.2.2.2 e
   show Inv X z5 σ H {s with heap:=h',toks:=s.toks}
   refine I.step (g':=s.gens) (d':=s.drawn) (ch:=[z,TI,TO,i1,i2]) (λc hc=>?_) (λc o _ _ hc e _=>keep c o hc e) (λc o _ _ hc e _=>⟨o.slots,keep c o hc e⟩) (λc o _ e n=>n) (λc o hc e=>⟨o,keep c o hc e⟩)
     (λc zs e=>e) (λc o w' e=>e) (λc ps e=>⟨#[],by rw[e];simp⟩) (λm hm=>?_) (λc o e=>?_) I.bare
   · obtain⟨_,f1,f2,f3,f4,f5⟩:=hf c hc
     exact⟨f3,f1,f4,f5⟩
   · obtain⟨o,es,ep,ho,r⟩:=hm
     exact⟨o,es,ep,keep _ o (λq=>(hf _ q).2.1 rfl) ho,r⟩
   · refine(I.hok c o e).stay (λd w' hd q=>keep d w' (λm=>?_) q) (λd q=>q) λd zs q=>q
     have n:=(hf d m).1
     rcases hd with rfl|hd
     · rw[n]at e;cases e
     · rw[n]at hd;cases hd
 self:=λ_ _ _ _ _ st h=>wpAny_pyIter_zip st.1 h
section
variable{X:Cx}{a b:Expr}{ta:TA}{p pos:Pos}{zj:List Expr}{x1:Nat}{tp:Pos}
def iZip(K:PySem.W.Frag)(b1 b2:Bool)(ta:TA):TI:=λσ H R=>ta σ H λvs H1=>∃p1 p2,vs=[.ref p1,.ref p2]/\(∃xs,SqB K b1 H1 p1 xs)/\(∃ys,SqB K b2 H1 p2 ys)/\R (Itz K b1 b2 p1 p2) H1
theorem qbc{K:PySem.W.Frag}(b1 b2:Bool)(hK:X.K=K)(hg:Gl X "zip")(hm:X.mg "zip"=none)(ha:PA X [a,b] ta)(he:starEach [a,b] X.env=(false,eval a X.env)::starEach [b] X.env:=by rfl)(hpl:(backTo pos (starEach [b] X.env)).any (·.1)=false:=by rfl):
   PI X (.Tuple zj x1 tp) (.Call (.Name "zip" p) [a,b] [] pos) (iZip K b1 b2 ta):=by
 subst hK
 intro z5 s σ H R I h
 refine xo (q4f I hg hm (u:=.type "zip") (by rfl) ?_)
 refine PyProof.Rows.callWith_type1 (thn (ha pos z5 s σ H _ I h) λus s1 h1=>?_) he hpl
 obtain⟨vs,H1,I1,r1,p1,p2,rfl,⟨xs,q1⟩,⟨ys,q2⟩,k⟩:=h1
 obtain⟨u,w',rfl,ru,rw'⟩:=vals2 r1
 cases(show u=Value.ref p1 from ru)
 cases(show w'=Value.ref p2 from rw')
 obtain⟨it1,r1,t1,_⟩:=I1.seqB q1
 obtain⟨it2,r2,t2,_⟩:=I1.seqB q2
 have lt:∀{c:Addr} {b:Bool} {zs:Array Value},seqIs b s1.heap c zs->c<s1.heap.objs.size:=λ{c b zs} q=>by
   cases b
   · obtain⟨o,e,_⟩:=(show s1.heap.IsTuple c zs from q);exact j8 e
   · obtain⟨o,e,_⟩:=(show s1.heap.IsList c zs from q);exact j8 e
 refine qir t1 t2 λh' hz hI hO j1 j2 kk=>wpAny_pyIter_zip hz ?_
 have D:=zipApart_new (lt t1) (lt t2)
 have I2:Inv X z5 σ H1 {s1 with heap:=h',toks:=s1.toks}:=I1.kept kk
 refine⟨_,_,_,_,H1,rfl,I2,qh0 b1 b2 D,⟨hz,hI,⟨_,_,hO⟩,j1,j2⟩,λc hc=>?_,k⟩
 have le:s1.heap.objs.size<=c:=by
   simp only[List.mem_cons,List.not_mem_nil,or_false]at hc
   rcases hc with rfl|rfl|rfl|rfl|rfl<;>first|exact ja _|exact Nat.le_add_right _ _
 exact I1.fpOk le (I1.hok.fresh le)
end
section
variable{X:Cx}
theorem q6o:∀(ns:List Int) (k:Nat),k<=ns.length->preSum (λi=>ns.getD i 0) k=(ns.take k).sum
 |ns,0,_=>by simp[preSum]
 | ns,k+1,h=>by
   have hk:k<ns.length:=h
   rw[preSum,q6o ns k (Nat.le_of_lt hk),List.take_add_one,jc hk,List.sum_append]
   have e:ns.getD k 0=ns[k]:=by rw[jq,jc hk];rfl
   rw[e]
   simp
theorem q2r:∀{ns:List Int} {us:List Value} {i:Nat} {v:Value},Vals (ns.map V.int) us->us[i]? =some v->∃t,v=.int (ns.getD i 0) t
 |[],us,i,v,r,e=>by cases r;simp at e
 | n::ns,us,0,v,r,e=>by
   cases r with
   | cons h t=>
     obtain⟨tk,q⟩:=h
     simp at e
     exact⟨tk,by rw[<-e,q];rfl⟩
 | n::ns,us,i+1,v,r,e=>by
   cases r with
   | cons h t=>
     obtain⟨tk,q⟩:=q2r (i:=i) t (by simpa using e)
     exact⟨tk,by rw[q];rfl⟩
theorem qc5{K:PySem.W.Frag}(hK:X.K=K)(hc:X.calm=true):q68 X (.builtin "sum") (λxs H Q=>∃(p:Addr) (ns:List Int),xs=[.ref p]/\SqL K H p (ns.map V.int)/\Q (.int ns.sum) H):=by
 subst hK
 intro z5 s σ H xs us Q I r h
 obtain⟨p,ns,rfl,hq,q⟩:=h
 obtain⟨u,rfl,ru⟩:=vals1 r
 cases ru
 obtain⟨its,rv,pl,hz⟩:=I.list hq
 have hh:X.A.in1.handled=none:=I.ok.hd hc
 have hl:=pl.isList
 have hlt:p<s.heap.objs.size:=by obtain⟨_,e,_⟩:=hl;exact j8 e
 refine call_sum_walkG (wpAny_pyIter_list hl ?_)
 refine⟨_,_,_,_,_,_,λi=>ns.getD i 0,rfl,Walks.list hh s.heap.objs.size p (jh hlt) its.toArray,⟨⟨_,jl _ rfl,rfl,rfl⟩,hl.push _⟩,λb hb=>?_,λi v hP=>q2r rv (by simpa using hP),λh' tk t' hk=>?_⟩
 · show b<(s.heap.push _).objs.size
   rw[x8]
   rcases List.mem_cons.mp hb with rfl|hb
   · exact Nat.lt_succ_self _
   · rw[List.mem_singleton.mp hb];exact Nat.lt_succ_of_lt hlt
 · have len:its.toArray.size=ns.length:=by have:=rv.length;simp at this;simp;omega
   refine⟨.int ns.sum,H,I.kept (t':=tk) λb o e=>hk b o (λz=>?_) (j9 _ e),⟨t',?_⟩,q⟩
   · have:=j8 e
     rw[List.mem_singleton.mp z]at this
     exact jy _ this
   · rw[len,q6o ns _ (ja _),List.take_length]
end
def Exc(B:Heap)(e:Addr)(cls fl:Value)(h:Heap):Prop:=
 ∃oe vs T oT ts,h.get? e=some oe/\oe.cls=cls/\oe.dict=none/\oe.data=.fields vs/\vs[1]? =some (.ref T)/\B.get? T=none/\T≠e/\h.get? T=some oT/\oT.data=.fields ts/\ts[3]? =some fl
structure FlyD(B:Heap)(l:List Env)(e:Addr)(cls fl:Value)(h:Heap):Prop where
 st:B.StaysIn h
 new:B.get? e=none
 fr:h.FunFrames B l
 ex:Exc B e cls fl h
section
variable{M:Model}{A:Around}{E:Value->Shared->Prop}{s:Shared}{B:Heap}{env:Env}{outer l:List Env}{L e:Addr}{cls fl:Value}{Q:Unit->Shared->Prop}
theorem qti{h:Heap}(hl:h.FunFrames B l){b:Addr}{o:Obj}{vs:Array Value}(ho:h.get? b=some o)(hd:o.data=.fields vs):b∉l.filterMap (·.frame):=λhb=>by
 obtain⟨_,o1,e1,d1⟩:=hl.mem hb
 rw[ho]at e1
 cases e1
 exact d1 vs hd
end
structure Flies(P:Program)(w:World)(l:List Env)(H:Hp)(s:Shared)(cls:Value)(e:Addr)(H':Hp)(s':Shared):Prop where
 os:s'.os=s.os
 bare:AllBare s'.gens
 un:Un (frs l) [] H H' s.heap s'.heap
 hok:HOk P w H' s'.heap
 fly:∃B,FlyD B l e cls .none s'.heap/\∀b o,s'.heap.get? b=some o->b∉frs l->(H' b≠none∨∃o',s.heap.get? b=some o')->B.get? b=some o
theorem ObjOk.there{P:Program}{w:World}{H:Hp}{h:Heap}{a:Addr}{o:HO}(x:ObjOk P w H h a o):∃u,h.get? a=some u:=by
 cases o with
 |lst xs=>obtain⟨_,_,_,_,e⟩:=x;exact⟨_,e⟩
 |tup xs=>obtain⟨_,_,_,ob,e,_⟩:=x;exact⟨_,e⟩
 |dK kvs=>obtain⟨_,_,_,_,o,_,e,_⟩:=x;exact⟨_,e⟩
 |dT kvs=>obtain⟨_,_,_,_,o,_,_,e,_⟩:=x;exact⟨_,e⟩
 |set S n=>obtain⟨o,_,_,_,e,_⟩:=x;exact⟨_,e⟩
 |ins C dx fs=>obtain⟨_,_,_,e,_⟩:=x;exact⟨_,e⟩
 |own y=>exact x
 |xd fs=>obtain⟨_,⟨_,_,_,e,_⟩,_⟩:=x;exact⟨_,e⟩
 |rng lo hi=>obtain⟨_,_,_,e⟩:=x;exact⟨_,e⟩
 |frz ob u=>obtain⟨e,_⟩:=x;exact⟨_,e⟩
 |tbl ps=>exact⟨_,(show h.get? a=some _ from x)⟩
 |met f y=>exact⟨_,(show h.get? a=some _ from x)⟩
 |ext φ=>obtain⟨_,⟨_,e⟩,_⟩:=x;exact⟨_,e⟩
section
variable{X:Cx}{z5:List (Addr×Obj)}{σ:St}{H H':Hp}{s:Shared}
end
section
variable{P:Program}{w:World}{K:PySem.W.Frag}{mg:Str->Option Value}{base:Heap}{N:List Str}{qual:Str}{scope:Scope}{f:Addr}{cd:Value}{A:Around}{outer:List Env}{s₀:Shared}{H₀:Hp}{E:XK}
end
section
variable{X:Cx}{x:Str}{C:Addr}{bmB:List Value}{B newId initId:String}{np zk pos:Pos}{e:Expr}{es:List Expr}{t:TA}{E:XK}
end
def excO(e:Addr)(cls:Value):HO:=.ext λh=>∃oe vs,h.get? e=some oe/\oe.cls=cls/\oe.dict=none/\oe.data=.fields vs
section
variable{X:Cx}{z5:List (Addr×Obj)}{σ:St}{H H':Hp}{s s1:Shared}{e:Addr}{cls fl:Value}
theorem Flies.fresh{l:List Env}{P:Program}{w:World}(F:Flies P w l H s cls e H' s1):s.heap.get? e=none/\H' e=none:=by
 obtain⟨B,fl,cond⟩:=F.fly
 obtain⟨oe,vs,T,oT,ts,he,hc,hdn,hd,_⟩:=fl.ex
 have nf:=qti fl.fr he hd
 have no:¬(H' e≠none∨∃o',s.heap.get? e=some o'):=λz=>by
   have q:=cond e oe he nf z
   rw[fl.new]at q
   cases q
 constructor
 · cases q:s.heap.get? e with
   |none=>rfl
   |some o=>exact absurd (.inr ⟨o,q⟩) no
 · cases q:H' e with
   |none=>rfl
   |some o=>exact absurd (.inl (by rw[q];exact λz=>nomatch z)) no
end
section
variable{X:Cx}{z5:List (Addr×Obj)}{σ:St}{H H':Hp}{s s1:Shared}{e:Addr}{cls c:Value}{i:Nat}{x n:Str}{np pos hpos:Pos}{b₀:Stmt}{suite:List Stmt}{ts:TS}{D:Ends}
end
section
variable{X:Cx}{z5:List (Addr×Obj)}{σ:St}{CX:CXT}{k:Nat}{f:Addr}{fd:FuncData}{ps:List Str}{sp:Sp}{dvs:List V}{ds:List Value}{E:XK}{x:Str}{p pos zk:Pos}{e c:Expr}{es:List Expr}{t:TA}{te:TE}{tc:TT}{st:Stmt}{a b:List Stmt}{ta tb u:TS}
end
section
variable{X:Cx}{c:Value}{i:Nat}{x n:Str}{np pos hpos:Pos}{body:List Stmt}{b₀:Stmt}{suite:List Stmt}{ts:TS}{tb:XK->TS}
end
section
variable{P:Program}{w:World}{K:PySem.W.Frag}{mg:Str->Option Value}{base:Heap}
end
section
variable{prog:Program}{w:World}{A:Around}{E:Value->Shared->Prop}{s:Shared}{K:PySem.W.Frag}{e C:Addr}{oe:Obj}
end
structure ExcK(K:PySem.W.Frag)(C:Addr):Prop where
 cls:PySem.W.isClsIn K C=true
 ty:PySem.W.typeIn K (.ref C)=some (.type "type")
 sf:PySem.W.subIn K (.ref C) (.ref C)=some true
 ga:PySem.W.findIn K (.ref C) "__getattribute__"=some (some (.builtin "BaseException.__getattribute__"))
 gt:PySem.W.findIn K (.ref C) "__getattr__"=some none
 bs:PySem.W.subIn K (.ref C) (.type "BaseException")=some true
 ha:PySem.W.findIn K (.ref C) "__class__"=some (some (.builtin "object.__class__"))
 hn:PySem.W.specialIn K (.builtin "object.__class__") "__get__"=some (some (.builtin "getset_descriptor.__get__"))
 tk:PySem.W.takesIn K (.builtin "object.__class__")=some true
 hm:PySem.W.mroIn K C (.type "object")=some true
section
variable{X:Cx}{z5:List (Addr×Obj)}{σ:St}{H:Hp}{s:Shared}{A:Around}{E:Value->Shared->Prop}{Q:Value->Shared->Prop}{c:Value}{b:Bool}{a C:Addr}
end
inductive D where
 |non
 |bl (b:Bool)
 |int (i:Int)
 |str (x:Str)
 |lst (xs:List D)
 |tup (xs:List D)
 |obj (x:Str) (fs:List (Str×D))
 |dct (kvs:List (Key×D))
 |dit (kvs:List (List Key×D))
 |exc (x:Str)
 |fn (x:Str)
mutual
inductive Rp(K:PySem.W.Frag)(R:Hp):V->D->Prop
 |non:Rp K R .non .non
 |bl (b:Bool):Rp K R (.bl b) (.bl b)
 |int (i:Int):Rp K R (.int i) (.int i)
 |str (x:Str):Rp K R (.str x) (.str x)
 |lst {a:Addr} {xs:List V} {ds:List D}:SqL K R a xs->Rps K R xs ds->Rp K R (.ref a) (.lst ds)
 |tup {a:Addr} {xs:List V} {ds:List D}:R a=some (.tup xs)->Rps K R xs ds->Rp K R (.ref a) (.tup ds)
 |obj {a C dx:Addr} {x:Str} {fs:List (Str×V)} {gs:List (Str×D)}:PySem.W.nsIn K mainGlobals x=some (some (.ref C))->R a=some (.ins C dx fs)->Rfs K R fs gs->Rp K R (.ref a) (.obj x gs)
 |dct {a:Addr} {kvs:List (Key×V)} {gs:List (Key×D)}:R a=some (.dK kvs)->Rkk K R kvs gs->Rp K R (.ref a) (.dct gs)
 |dit {a:Addr} {kvs:List (List Key×V)} {gs:List (List Key×D)}:R a=some (.dT kvs)->Rkt K R kvs gs->Rp K R (.ref a) (.dit gs)
 |exc {a C:Addr} {x:Str}:PySem.W.nsIn K mainGlobals x=some (some (.ref C))->ExcK K C->R a=some (excO a (.ref C))->Rp K R (.ref a) (.exc x)
 |fn {l:Addr} {x:Str}:PySem.W.nsIn K mainGlobals x=some (some (.ref l))->Rp K R (.ref l) (.fn x)
inductive Rps(K:PySem.W.Frag)(R:Hp):List V->List D->Prop
 |nil:Rps K R [] []
 |cons {x:V} {xs:List V} {d:D} {ds:List D}:Rp K R x d->Rps K R xs ds->Rps K R (x::xs) (d::ds)
inductive Rfs(K:PySem.W.Frag)(R:Hp):List (Str×V)->List (Str×D)->Prop
 |nil:Rfs K R [] []
 |cons {f:Str} {x:V} {xs:List (Str×V)} {d:D} {ds:List (Str×D)}:Rp K R x d->Rfs K R xs ds->Rfs K R ((f,x)::xs) ((f,d)::ds)
inductive Rkk(K:PySem.W.Frag)(R:Hp):List (Key×V)->List (Key×D)->Prop
 |nil:Rkk K R [] []
 |cons {f:Key} {x:V} {xs:List (Key×V)} {d:D} {ds:List (Key×D)}:Rp K R x d->Rkk K R xs ds->Rkk K R ((f,x)::xs) ((f,d)::ds)
inductive Rkt(K:PySem.W.Frag)(R:Hp):List (List Key×V)->List (List Key×D)->Prop
 |nil:Rkt K R [] []
 |cons {f:List Key} {x:V} {xs:List (List Key×V)} {d:D} {ds:List (List Key×D)}:Rp K R x d->Rkt K R xs ds->Rkt K R ((f,x)::xs) ((f,d)::ds)
end
section
variable{K:PySem.W.Frag}{R:Hp}
theorem Rp.isI{x:V}{i:Int}(h:Rp K R x (.int i)):x=.int i:=by cases h;rfl
theorem Rp.isS{x:V}{i:Str}(h:Rp K R x (.str i)):x=.str i:=by cases h;rfl
theorem Rp.isB{x:V}{i:Bool}(h:Rp K R x (.bl i)):x=.bl i:=by cases h;rfl
theorem Rp.isN{x:V}(h:Rp K R x .non):x=.non:=by cases h;rfl
def qtp:D->Option V
 |.int i=>some (.int i)
 |.str i=>some (.str i)
 |.bl i=>some (.bl i)
 |.non=>some .non
 |_=>none
theorem Rp.isA{x v:V}:{d:D}->Rp K R x d->qtp d=some v->x=v
 |.int _,h,e=>h.isI.trans (je e)
 |.str _,h,e=>h.isS.trans (je e)
 |.bl _,h,e=>h.isB.trans (je e)
 |.non,h,e=>h.isN.trans (je e)
theorem Rp.isL{x:V}{ds:List D}(h:Rp K R x (.lst ds)):∃a xs,x=.ref a/\SqL K R a xs/\Rps K R xs ds:=by
 cases h with
 |@lst a xs ds h r=>exact⟨a,xs,rfl,h,r⟩
theorem Rp.isT{x:V}{ds:List D}(h:Rp K R x (.tup ds)):∃a xs,x=.ref a/\R a=some (.tup xs)/\Rps K R xs ds:=by
 cases h with
 |@tup a xs ds h r=>exact⟨a,xs,rfl,h,r⟩
theorem Rps.isC{xs:List V}{d:D}{ds:List D}(h:Rps K R xs (d::ds)):∃x ys,xs=x::ys/\Rp K R x d/\Rps K R ys ds:=by
 cases h with
 |@cons x ys d ds h r=>exact⟨x,ys,rfl,h,r⟩
end
abbrev Rho:=List (Option D)
abbrev RhL:=Rho->Option (List D×Rho)
abbrev RhD:=Rho->Option (D×Rho)
abbrev RhB:=Rho->Option (Bool×Rho)
abbrev RhG:=D->Rho->Option Rho
theorem Same.sqL{K:PySem.W.Frag}{H H':Hp}{a:Addr}{xs:List V}(e:Same H H')(h:SqL K H a xs):SqL K H' a xs:=by
 rcases h with(h|⟨o,h⟩)|h
 · exact .inl (.inl (e _ _ h))
 · exact .inl (.inr ⟨o,e _ _ h⟩)
 · exact .inr h
section
variable{K:PySem.W.Frag}{R R':Hp}
theorem Rp.mono(s:Same R R'){v:V}{d:D}(h:Rp K R v d):Rp K R' v d:=
 Rp.rec (motive_1:=λv d _=>Rp K R' v d) (motive_2:=λxs ds _=>Rps K R' xs ds) (motive_3:=λxs ds _=>Rfs K R' xs ds) (motive_4:=λxs ds _=>Rkk K R' xs ds) (motive_5:=λxs ds _=>Rkt K R' xs ds)
   .non .bl .int .str (λh _ r=>.lst (s.sqL h) r) (λh _ r=>.tup (s _ _ h) r) (λn h _ r=>.obj n (s _ _ h) r) (λh _ r=>.dct (s _ _ h) r) (λh _ r=>.dit (s _ _ h) r) (λn k h=>.exc n k (s _ _ h)) (λn=>.fn n)
   .nil (λ_ _ h r=>.cons h r) .nil (λ_ _ h r=>.cons h r) .nil (λ_ _ h r=>.cons h r) .nil (λ_ _ h r=>.cons h r) h
theorem Rps.mono(s:Same R R'){xs:List V}{ds:List D}(h:Rps K R xs ds):Rps K R' xs ds:=
 Rps.rec (motive_1:=λv d _=>Rp K R' v d) (motive_2:=λxs ds _=>Rps K R' xs ds) (motive_3:=λxs ds _=>Rfs K R' xs ds) (motive_4:=λxs ds _=>Rkk K R' xs ds) (motive_5:=λxs ds _=>Rkt K R' xs ds)
   .non .bl .int .str (λh _ r=>.lst (s.sqL h) r) (λh _ r=>.tup (s _ _ h) r) (λn h _ r=>.obj n (s _ _ h) r) (λh _ r=>.dct (s _ _ h) r) (λh _ r=>.dit (s _ _ h) r) (λn k h=>.exc n k (s _ _ h)) (λn=>.fn n)
   .nil (λ_ _ h r=>.cons h r) .nil (λ_ _ h r=>.cons h r) .nil (λ_ _ h r=>.cons h r) .nil (λ_ _ h r=>.cons h r) h
theorem Rfs.mono(s:Same R R'){xs:List (Str×V)}{ds:List (Str×D)}(h:Rfs K R xs ds):Rfs K R' xs ds:=
 Rfs.rec (motive_1:=λv d _=>Rp K R' v d) (motive_2:=λxs ds _=>Rps K R' xs ds) (motive_3:=λxs ds _=>Rfs K R' xs ds) (motive_4:=λxs ds _=>Rkk K R' xs ds) (motive_5:=λxs ds _=>Rkt K R' xs ds)
   .non .bl .int .str (λh _ r=>.lst (s.sqL h) r) (λh _ r=>.tup (s _ _ h) r) (λn h _ r=>.obj n (s _ _ h) r) (λh _ r=>.dct (s _ _ h) r) (λh _ r=>.dit (s _ _ h) r) (λn k h=>.exc n k (s _ _ h)) (λn=>.fn n)
   .nil (λ_ _ h r=>.cons h r) .nil (λ_ _ h r=>.cons h r) .nil (λ_ _ h r=>.cons h r) .nil (λ_ _ h r=>.cons h r) h
theorem Rkk.mono(s:Same R R'){xs:List (Key×V)}{ds:List (Key×D)}(h:Rkk K R xs ds):Rkk K R' xs ds:=
 Rkk.rec (motive_1:=λv d _=>Rp K R' v d) (motive_2:=λxs ds _=>Rps K R' xs ds) (motive_3:=λxs ds _=>Rfs K R' xs ds) (motive_4:=λxs ds _=>Rkk K R' xs ds) (motive_5:=λxs ds _=>Rkt K R' xs ds)
   .non .bl .int .str (λh _ r=>.lst (s.sqL h) r) (λh _ r=>.tup (s _ _ h) r) (λn h _ r=>.obj n (s _ _ h) r) (λh _ r=>.dct (s _ _ h) r) (λh _ r=>.dit (s _ _ h) r) (λn k h=>.exc n k (s _ _ h)) (λn=>.fn n)
   .nil (λ_ _ h r=>.cons h r) .nil (λ_ _ h r=>.cons h r) .nil (λ_ _ h r=>.cons h r) .nil (λ_ _ h r=>.cons h r) h
theorem Rkt.mono(s:Same R R'){xs:List (List Key×V)}{ds:List (List Key×D)}(h:Rkt K R xs ds):Rkt K R' xs ds:=
 Rkt.rec (motive_1:=λv d _=>Rp K R' v d) (motive_2:=λxs ds _=>Rps K R' xs ds) (motive_3:=λxs ds _=>Rfs K R' xs ds) (motive_4:=λxs ds _=>Rkk K R' xs ds) (motive_5:=λxs ds _=>Rkt K R' xs ds)
   .non .bl .int .str (λh _ r=>.lst (s.sqL h) r) (λh _ r=>.tup (s _ _ h) r) (λn h _ r=>.obj n (s _ _ h) r) (λh _ r=>.dct (s _ _ h) r) (λh _ r=>.dit (s _ _ h) r) (λn k h=>.exc n k (s _ _ h)) (λn=>.fn n)
   .nil (λ_ _ h r=>.cons h r) .nil (λ_ _ h r=>.cons h r) .nil (λ_ _ h r=>.cons h r) .nil (λ_ _ h r=>.cons h r) h
theorem Rps.length:∀{xs:List V} {ds:List D},Rps K R xs ds->xs.length=ds.length
 |_,_,.nil=>rfl
 |_,_,.cons _ r=>by rw[jn,jn,Rps.length r]
theorem Rps.get:∀{xs:List V} {ds:List D} {i:Nat} {d:D},Rps K R xs ds->ds[i]? =some d->∃v,xs[i]? =some v/\Rp K R v d
 |_,_,_,_,.nil,e=>by simp at e
 |_,_,0,_,.cons h _,e=>by simp at e;subst e;exact⟨_,rfl,h⟩
 | _,_,i+1,d,.cons _ r,e=>by
   obtain⟨v,h1,h2⟩:=Rps.get (i:=i) (d:=d) r (by simpa using e)
   exact⟨v,by simpa using h1,h2⟩
theorem Rps.get':∀{xs:List V} {ds:List D} {i:Nat} {v:V},Rps K R xs ds->xs[i]? =some v->∃d,ds[i]? =some d/\Rp K R v d
 |_,_,_,_,.nil,e=>by simp at e
 |_,_,0,_,.cons h _,e=>by simp at e;subst e;exact⟨_,rfl,h⟩
 | _,_,i+1,v,.cons _ r,e=>by
   obtain⟨d,h1,h2⟩:=Rps.get' (i:=i) (v:=v) r (by simpa using e)
   exact⟨d,by simpa using h1,h2⟩
theorem Rps.append:∀{xs ys:List V} {ds es:List D},Rps K R xs ds->Rps K R ys es->Rps K R (xs++ys) (ds++es)
 |_,_,_,_,.nil,s=>s
 |_,_,_,_,.cons r t,s=>.cons r (Rps.append t s)
theorem Rps.take:∀{xs:List V} {ds:List D} (n:Nat),Rps K R xs ds->Rps K R (xs.take n) (ds.take n)
 |_,_,0,_=>.nil
 |_,_,_+1,.nil=>.nil
 |_,_,n+1,.cons r t=>.cons r (Rps.take n t)
theorem Rps.drop:∀{xs:List V} {ds:List D} (n:Nat),Rps K R xs ds->Rps K R (xs.drop n) (ds.drop n)
 |_,_,0,r=>r
 |_,_,_+1,.nil=>.nil
 |_,_,n+1,.cons _ t=>Rps.drop n t
theorem Rps.set{x:V}{d:D}(r:Rp K R x d):∀{xs:List V} {ds:List D} (i:Nat),Rps K R xs ds->Rps K R (xs.set i x) (ds.set i d)
 |_,_,_,.nil=>.nil
 |_,_,0,.cons _ t=>.cons r t
 |_,_,i+1,.cons q t=>.cons q (Rps.set r i t)
theorem Rps.one{x:V}{d:D}(r:Rp K R x d):Rps K R [x] [d]:=.cons r .nil
theorem Rps.ints:∀ns:List Int,Rps K R (ns.map V.int) (ns.map D.int)
 |[]=>.nil
 |n::ns=>.cons (.int n) (Rps.ints ns)
theorem Rps.snoc{xs:List V}{ds:List D}{x:V}{d:D}(h:Rps K R xs ds)(r:Rp K R x d):Rps K R (xs++[x]) (ds++[d]):=h.append (.one r)
end
inductive Sc:V->D->Prop
 |non:Sc .non .non
 |bl (b:Bool):Sc (.bl b) (.bl b)
 |int (i:Int):Sc (.int i) (.int i)
 |str (x:Str):Sc (.str x) (.str x)
theorem Sc.rp{K:PySem.W.Frag}{R:Hp}{v:V}{d:D}(h:Sc v d):Rp K R v d:=by
 cases h with
 |non=>exact .non
 |bl b=>exact .bl b
 |int i=>exact .int i
 |str x=>exact .str x
def Frh(H:Hp)(a:Addr):Prop:=H a=none∨∃xs,H a=some (.tup xs)
def Liv(H H':Hp)(a:Addr):Prop:=H' a≠none/\∀xs,H' a=some (.tup xs)->H a=some (.tup xs)
theorem Liv.refl{H:Hp}{a:Addr}(h:H a≠none):Liv H H a:=⟨h,λ_ e=>e⟩
theorem Liv.trans{H H1 H2:Hp}{a:Addr}(x:Liv H H1 a)(y:Liv H1 H2 a):Liv H H2 a:=⟨y.1,λxs e=>x.2 xs (y.2 xs e)⟩
theorem Frh.back{H H1:Hp}{a:Addr}(h:H a≠none->Liv H H1 a)(z:Frh H1 a):Frh H a:=by
 cases q:H a with
 |none=>exact .inl q
 | some o=>
   have v:=h (by rw[q];exact λz=>nomatch z)
   rcases z with z|⟨xs,z⟩
   · exact absurd z v.1
   · exact .inr ⟨xs,v.2 xs z⟩
structure Ext(H R H' R':Hp):Prop where
 h:Same H H'
 r:Same R R'
 s:∀a o,R' a=some o->H' a=some o
 n:∀a,R' a≠none->R a≠none∨Frh H a
theorem Ext.refl{H R:Hp}(s:∀a o,R a=some o->H a=some o):Ext H R H R:=⟨Same.refl _,Same.refl _,s,λ_ h=>.inl h⟩
theorem Same.some{H H':Hp}(s:Same H H'){a:Addr}(h:H a≠none):H' a≠none:=by
 cases q:H a with
 |none=>exact absurd q h
 |some o=>rw[s a o q];exact λz=>nomatch z
theorem Same.liv{H H':Hp}(s:Same H H'){a:Addr}(h:H a≠none):Liv H H' a:=⟨s.some h,λxs e=>by
 cases q:H a with
 |none=>exact absurd q h
 |some o=>rw[s a o q]at e;exact e⟩
theorem Ext.trans{H R H1 R1 H2 R2:Hp}(x:Ext H R H1 R1)(y:Ext H1 R1 H2 R2):Ext H R H2 R2:=by
 refine⟨x.h.trans y.h,x.r.trans y.r,y.s,λa h=>?_⟩
 rcases y.n a h with z|z
 · exact x.n a z
 · exact .inr (z.back x.h.liv)
theorem Ext.new{H R:Hp}{a:Addr}{o:HO}(s:∀a o,R a=some o->H a=some o)(h:H a=none):Ext H R (upd H a o) (upd R a o):=by
 have hr:R a=none:=by
   cases q:R a with
   |none=>rfl
   |some u=>rw[s a u q]at h;cases h
 refine⟨Same.new h,Same.new hr,λb u e=>?_,λb e=>?_⟩
 · by_cases hb:b=a
   · subst hb;rw[q0r]at e ⊢;exact e
   · rw[q0n hb]at e ⊢;exact s b u e
 · by_cases hb:b=a
   · subst hb;exact .inr (.inl h)
   · rw[q0n hb]at e;exact .inl e
theorem Ext.hid{H R:Hp}{a:Addr}{o:HO}(s:∀a o,R a=some o->H a=some o)(h:H a=none):Ext H R (upd H a o) R:=
 ⟨Same.new h,Same.refl _,λb u e=>Same.new h _ _ (s b u e),λ_ e=>.inl e⟩
structure Anc where
 H0:Hp
 R0:Hp
 L:Addr->Prop
 P:List Nat
inductive Ob(K:PySem.W.Frag)(R:Hp):HO->D->Prop
 |lst {vs:List V} {ds:List D}:Rps K R vs ds->Ob K R (.lst vs) (.lst ds)
 |dct {kvs:List (Key×V)} {gs:List (Key×D)}:Rkk K R kvs gs->Ob K R (.dK kvs) (.dct gs)
 |dit {kvs:List (List Key×V)} {gs:List (List Key×D)}:Rkt K R kvs gs->Ob K R (.dT kvs) (.dit gs)
theorem Ob.isL{K:PySem.W.Frag}{R:Hp}{o:HO}{ds:List D}(h:Ob K R o (.lst ds)):∃vs,o=.lst vs/\Rps K R vs ds:=by
 cases h with
 |lst r=>exact⟨_,rfl,r⟩
theorem Ob.mono{K:PySem.W.Frag}{R R':Hp}{o:HO}{d:D}(s:Same R R')(h:Ob K R o d):Ob K R' o d:=by
 cases h with
 |lst r=>exact .lst (r.mono s)
 |dct r=>exact .dct (r.mono s)
 |dit r=>exact .dit (r.mono s)
theorem Ob.noF{K:PySem.W.Frag}{H R:Hp}{o:HO}{d:D}{l:Addr}(h:Ob K R o d)(e:H l=some o)(z:Frh H l):False:=by
 rcases z with z|⟨xs,z⟩
 · rw[e]at z;cases z
 · rw[e]at z;cases z;cases h
theorem Ob.rp{K:PySem.W.Frag}{R:Hp}{o:HO}{d:D}{l:Addr}(h:Ob K R o d)(e:R l=some o):Rp K R (.ref l) d:=by
 cases h with
 |lst r=>exact .lst (SqL.of e) r
 |dct r=>exact .dct e r
 |dit r=>exact .dit e r
structure StR(K:PySem.W.Frag)(Z:Anc)(O:List Nat)(σ:St)(H R:Hp)(ρ:Rho):Prop where
 sub:∀a o,R a=some o->H a=some o
 len:σ.length=ρ.length
 env:∀i d,i∉O->ρ[i]? =some (some d)->∃v,σ[i]? =some (some v)/\Rp K R v d
 own:∀i,i∈O->∃l vs ds,ρ[i]? =some (some ds)/\σ[i]? =some (some (.ref l))/\H l=some vs/\R l=none/\Ob K R vs ds
 dis:∀i j,i∈O->j∈O->i≠j->∀l,σ[i]? =some (some (.ref l))->σ[j]? ≠some (some (.ref l))
 ah:∀a o,Z.H0 a=some o->¬Z.L a->H a=some o
 ar:Same Z.R0 R
 an:∀a,R a≠none->Z.R0 a≠none∨Frh Z.H0 a
 ad:∀a,Z.H0 a≠none->Liv Z.H0 H a
 ao:∀i,i∈O->i∉Z.P->∀l,σ[i]? =some (some (.ref l))->Z.H0 l=none
 ap:∀i,i∈O->i∈Z.P->∀l,σ[i]? =some (some (.ref l))->Z.L l
structure Stp(O:List Nat)(σ:St)(H R H' R':Hp):Prop where
 r:Same R R'
 h:∀a o,H a=some o->(∀i,i∈O->σ[i]? ≠some (some (.ref a)))->H' a=some o
 n:∀a,R' a≠none->R a≠none∨Frh H a
 d:∀a,H a≠none->Liv H H' a
theorem Stp.refl(O:List Nat)(σ:St)(H R:Hp):Stp O σ H R H R:=⟨Same.refl _,λ_ _ e _=>e,λ_ h=>.inl h,λ_ h=>.refl h⟩
theorem Stp.trans{O:List Nat}{σ:St}{H R H1 R1 H2 R2:Hp}(x:Stp O σ H R H1 R1)(y:Stp O σ H1 R1 H2 R2):Stp O σ H R H2 R2:=by
 refine⟨x.r.trans y.r,λa o e n=>y.h a o (x.h a o e n) n,λa h=>?_,λa h=>(x.d a h).trans (y.d a (x.d a h).1)⟩
 rcases y.n a h with z|z
 · exact x.n a z
 · exact .inr (z.back (x.d a))
theorem Ext.stp{O:List Nat}{σ:St}{H R H' R':Hp}(x:Ext H R H' R'):Stp O σ H R H' R':=⟨x.r,λa o e _=>x.h a o e,x.n,λ_ h=>x.h.liv h⟩
section
variable{K:PySem.W.Frag}{Z:Anc}{O O':List Nat}{σ σ':St}{H R H' R':Hp}{ρ ρ':Rho}
theorem StR.ext(S:StR K Z O σ H R ρ)(x:Ext H R H' R'):StR K Z O σ H' R' ρ:=by
 refine⟨x.s,S.len,λi d hi e=>?_,λi hi=>?_,S.dis,λa o e n=>x.h a o (S.ah a o e n),S.ar.trans x.r,λa h=>?_,λa h=>(S.ad a h).trans (x.h.liv (S.ad a h).1),S.ao,S.ap⟩
 · obtain⟨v,h1,h2⟩:=S.env i d hi e
   exact⟨v,h1,h2.mono x.r⟩
 · obtain⟨l,vs,ds,h1,h2,h3,h4,h5⟩:=S.own i hi
   refine⟨l,vs,ds,h1,h2,x.h _ _ h3,?_,h5.mono x.r⟩
   cases q:R' l with
   |none=>rfl
   | some o=>
     rcases x.n l (by rw[q];exact λz=>nomatch z)with z|z
     · exact absurd h4 z
     · exact(h5.noF h3 z).elim
 · rcases x.n a h with z|z
   · exact S.an a z
   · exact .inr (z.back (S.ad a))
noncomputable def frzR(O O':List Nat)(σ:St)(H R:Hp):Hp:=λa=>open Classical in if∃i,i∈O/\i∉O'/\σ[i]? =some (some (.ref a))then H a else R a
theorem StR.freeze(S:StR K Z O σ H R ρ)(hs:∀i,i∈O'->i∈O)(hp:∀i,i∈Z.P->i∈O->i∈O'):StR K Z O' σ H (frzR O O' σ H R) ρ/\Same R (frzR O O' σ H R):=by
 have same:Same R (frzR O O' σ H R):=λa o e=>by
   unfold frzR
   split
   · exact S.sub a o e
   · exact e
 refine⟨⟨λa o e=>?_,S.len,λi d hi e=>?_,λi hi=>?_,λi j hi hj=>S.dis i j (hs i hi) (hs j hj),S.ah,S.ar.trans same,λa h=>?_,S.ad,λi hi=>S.ao i (hs i hi),λi hi=>S.ap i (hs i hi)⟩,same⟩
 · unfold frzR at e
   split at e
   · exact e
   · exact S.sub a o e
 · by_cases hO:i∈O
   · obtain⟨l,vs,ds,h1,h2,h3,h4,h5⟩:=S.own i hO
     rw[e]at h1
     have ed:d=ds:=je (je h1)
     subst ed
     refine⟨.ref l,h2,(h5.mono same).rp ?_⟩
     unfold frzR
     rw[if_pos ⟨i,hO,hi,h2⟩]
     exact h3
   · obtain⟨v,h1,h2⟩:=S.env i d hO e
     exact⟨v,h1,h2.mono same⟩
 · obtain⟨l,vs,ds,h1,h2,h3,h4,h5⟩:=S.own i (hs i hi)
   refine⟨l,vs,ds,h1,h2,h3,?_,h5.mono same⟩
   unfold frzR
   rw[if_neg ?_]
   · exact h4
   · rintro⟨j,hj,hj',e⟩
     exact S.dis j i hj (hs i hi) (λz=>hj' (z▸hi)) l e h2
 · unfold frzR at h
   split at h
   · rename_i z
     obtain⟨j,hj,hj',e⟩:=z
     exact .inr (.inl (S.ao j hj (λz=>hj' (hp j z hj)) a e))
   · exact S.an a h
theorem StR.set(S:StR K Z O σ H R ρ){i:Nat}{v:V}{d:D}(hi:i∉O)(r:Rp K R v d):StR K Z O (σ.set i (some v)) H R (ρ.set i (some d)):=by
 have ne:∀j,j∈O->i≠j:=λj hj z=>hi (z▸hj)
 refine⟨S.sub,by rw[xm,xm];exact S.len,λj e hj q=>?_,λj hj=>?_,λj k hj hk n l e=>?_,S.ah,S.ar,S.an,S.ad,λj hj hp l e=>?_,λj hj hp l e=>?_⟩
 · by_cases hij:i=j
   · subst hij
     have hl:i<ρ.length:=by
       have:=(List.getElem?_eq_some_iff.mp q).1
       rwa [xm]at this
     rw[x5 hl]at q
     have e':d=e:=je (je q)
     subst e'
     exact⟨v,by rw[x5 (by rw[S.len];exact hl)],r⟩
   · rw[jj hij]at q
     obtain⟨w,h1,h2⟩:=S.env j e hj q
     exact⟨w,by rw[jj hij];exact h1,h2⟩
 · obtain⟨l,vs,ds,h1,h2,h3,h4,h5⟩:=S.own j hj
   exact⟨l,vs,ds,by rw[jj (ne j hj)];exact h1,by rw[jj (ne j hj)];exact h2,h3,h4,h5⟩
 · rw[jj (ne j hj)]at e
   rw[jj (ne k hk)]
   exact S.dis j k hj hk n l e
 · rw[jj (ne j hj)]at e
   exact S.ao j hj hp l e
 · rw[jj (ne j hj)]at e
   exact S.ap j hj hp l e
theorem StR.write(S:StR K Z O σ H R ρ){i:Nat}{l:Addr}{vs:HO}{ds:D}(hi:i∈O)(hl:σ[i]? =some (some (.ref l)))(r:Ob K R vs ds):StR K Z O σ (upd H l vs) R (ρ.set i (some ds)):=by
 obtain⟨l0,vs0,ds0,h1,h2,h3,h4,h5⟩:=S.own i hi
 rw[hl]at h2
 cases h2
 have other:∀j,j∈O->i≠j->∀k,σ[j]? =some (some (.ref k))->k≠l:=λj hj n k e z=>by
   subst z
   exact S.dis i j hi hj n k hl e
 refine⟨λa o e=>?_,by rw[xm];exact S.len,λj d hj q=>?_,λj hj=>?_,S.dis,λa o e n=>?_,S.ar,S.an,λa h=>?_,S.ao,S.ap⟩
 · have ne:a≠l:=λz=>by subst z;rw[h4]at e;cases e
   rw[q0n ne];exact S.sub a o e
 · have n:i≠j:=λz=>hj (z▸hi)
   rw[jj n]at q
   exact S.env j d hj q
 · by_cases n:i=j
   · subst n
     have zd:i<ρ.length:=(List.getElem?_eq_some_iff.mp h1).1
     exact⟨l,vs,ds,by rw[x5 zd],hl,q0r,h4,r⟩
   · obtain⟨k,vs',ds',g1,g2,g3,g4,g5⟩:=S.own j hj
     exact⟨k,vs',ds',by rw[jj n];exact g1,g2,by rw[q0n (other j hj n k g2)];exact g3,g4,g5⟩
 · have ne:a≠l:=λz=>by
     subst z
     by_cases hp:i∈Z.P
     · exact n (S.ap i hi hp a hl)
     · rw[S.ao i hi hp a hl]at e;cases e
   rw[q0n ne];exact S.ah a o e n
 · by_cases ha:a=l
   · subst ha;exact⟨by rw[q0r];exact(λz=>(nomatch z)),λxs e=>by rw[q0r]at e;cases e;cases r⟩
   · exact⟨by rw[q0n ha];exact(S.ad a h).1,λxs e=>by rw[q0n ha]at e;exact(S.ad a h).2 xs e⟩
theorem StR.take(S:StR K Z O σ H R ρ){i:Nat}{l:Addr}{vs:HO}{ds:D}(hi:i∉O)(hin:i∈O')(hO:∀j,j∈O'->j=i∨j∈O)(hp:i∉Z.P)(zd:i<ρ.length)(h0:Z.H0 l=none)(hH:H l=some vs)(hR:R l=none)(hn:∀j,j∈O->σ[j]? ≠some (some (.ref l)))(hs:∀j,j∈O->j∈O')(r:Ob K R vs ds):
   StR K Z O' (σ.set i (some (.ref l))) H R (ρ.set i (some ds)):=by
 have ne:∀j,j∈O->i≠j:=λj hj z=>hi (z▸hj)
 have hl:i<σ.length:=by rw[S.len];exact zd
 refine⟨S.sub,by rw[xm,xm];exact S.len,λj e hj q=>?_,λj hj=>?_,λj k hj hk n m e=>?_,S.ah,S.ar,S.an,S.ad,λj hj hp l e=>?_,λj hj hp' l e=>?_⟩
 · by_cases hij:i=j
   · subst hij
     rw[x5 zd]at q
     have e':ds=e:=je (je q)
     subst e'
     exact absurd hin hj
   · rw[jj hij]at q
     obtain⟨w,h1,h2⟩:=S.env j e (λz=>hj (hs j z)) q
     exact⟨w,by rw[jj hij];exact h1,h2⟩
 · rcases hO j hj with rfl|hj'
   · exact⟨l,vs,ds,by rw[x5 zd],by rw[x5 hl],hH,hR,r⟩
   · obtain⟨k,vs',ds',g1,g2,g3,g4,g5⟩:=S.own j hj'
     exact⟨k,vs',ds',by rw[jj (ne j hj')];exact g1,by rw[jj (ne j hj')];exact g2,g3,g4,g5⟩
 · rcases hO j hj with rfl|hj'
   · rw[x5 hl]at e
     cases e
     rcases hO k hk with rfl|hk'
     · exact absurd rfl n
     · rw[jj (ne k hk')]
       exact hn k hk'
   · rw[jj (ne j hj')]at e
     rcases hO k hk with rfl|hk'
     · rw[x5 hl]
       intro z
       cases z
       exact hn j hj' e
     · rw[jj (ne k hk')]
       exact S.dis j k hj' hk' n m e
 · rcases hO j hj with rfl|hj'
   · rw[x5 hl]at e
     cases e
     exact h0
   · rw[jj (ne j hj')]at e
     exact S.ao j hj' hp l e
 · rcases hO j hj with rfl|hj'
   · exact absurd hp' hp
   · rw[jj (ne j hj')]at e
     exact S.ap j hj' hp' l e
end
def q1s{α β:Type}(a:Rho->Option (α×Rho))(k:α->Rho->Option (β×Rho)):Rho->Option (β×Rho):=λρ=>match a ρ with
 |none=>none
 |some (x,ρ1)=>k x ρ1
def mRet{α:Type}(x:α):Rho->Option (α×Rho):=λρ=>some (x,ρ)
def q2q{α:Type}(o:Option α):Rho->Option (α×Rho):=λρ=>match o with
 |none=>none
 |some x=>some (x,ρ)
theorem q0c{α β:Type}{a:Rho->Option (α×Rho)}{k:α->Rho->Option (β×Rho)}{ρ:Rho}{r:β×Rho}(h:q1s a k ρ=some r):∃x ρ1,a ρ=some (x,ρ1)/\k x ρ1=some r:=by
 unfold q1s at h
 cases e:a ρ with
 |none=>rw[e]at h;cases h
 |some p=>rw[e]at h;exact⟨p.1,p.2,rfl,h⟩
theorem q0m{α:Type}{o:Option α}{ρ:Rho}{x:α}{ρ':Rho}(h:q2q o ρ=some (x,ρ')):o=some x/\ρ'=ρ:=by
 unfold q2q at h
 cases o with
 |none=>cases h
 |some y=>cases h;exact⟨rfl,rfl⟩
def mVar(i:Nat):RhD:=λρ=>match ρ[i]? with
 |some (some d)=>some (d,ρ)
 |_=>none
theorem q70{i:Nat}{ρ ρ':Rho}{d:D}(h:mVar i ρ=some (d,ρ')):ρ[i]? =some (some d)/\ρ'=ρ:=by
 unfold mVar at h
 cases e:ρ[i]? with
 |none=>rw[e]at h;cases h
 | some o=>
   rw[e]at h
   cases o with
   |none=>cases h
   |some y=>cases h;exact⟨rfl,rfl⟩
section
variable(K:PySem.W.Frag)(O:List Nat)
def ME(t:TE)(f:RhD):Prop:=∀(Z:Anc) (σ:St) (H R:Hp) (ρ:Rho) (d:D) (ρ':Rho) (Q:VK),StR K Z O σ H R ρ->f ρ=some (d,ρ')->(∀v H' R',StR K Z O σ H' R' ρ'->Stp O σ H R H' R'->Rp K R' v d->Q v H')->t σ H Q
def MB(t:TE)(f:RhD):Prop:=∀(Z:Anc) (σ:St) (H R:Hp) (ρ:Rho) (d:D) (ρ':Rho) (Q:VK),StR K Z O σ H R ρ->f ρ=some (d,ρ')->(∀v H' R',StR K Z O σ H' R' ρ'->Stp O σ H R H' R'->Rp K H' v d->Q v H')->t σ H Q
def MT(t:TT)(f:RhB):Prop:=∀(Z:Anc) (σ:St) (H R:Hp) (ρ:Rho) (b:Bool) (ρ':Rho) (Q:Bool->Hp->Prop),StR K Z O σ H R ρ->f ρ=some (b,ρ')->(∀H' R',StR K Z O σ H' R' ρ'->Stp O σ H R H' R'->Q b H')->t σ H Q
def MA(t:TA)(f:RhL):Prop:=∀(Z:Anc) (σ:St) (H R:Hp) (ρ:Rho) (ds:List D) (ρ':Rho) (Q:List V->Hp->Prop),StR K Z O σ H R ρ->f ρ=some (ds,ρ')->(∀vs H' R',StR K Z O σ H' R' ρ'->Stp O σ H R H' R'->Rps K R' vs ds->Q vs H')->t σ H Q
def MN(t:TE)(f:RhL):Prop:=∀(Z:Anc) (σ:St) (H R:Hp) (ρ:Rho) (ds:List D) (ρ':Rho) (Q:VK),StR K Z O σ H R ρ->f ρ=some (ds,ρ')->(∀l vs H' R',StR K Z O σ H' R' ρ'->Stp O σ H R H' R'->H l=none->H' l=some (.lst vs)->R' l=none->Rps K R' vs ds->Q (.ref l) H')->t σ H Q
end
section
variable{K:PySem.W.Frag}{Z:Anc}{O:List Nat}{t ta tb tc:TE}{tA tB':TT}{tr:TA}
theorem StR.same{σ:St}{H R:Hp}{ρ:Rho}(S:StR K Z O σ H R ρ):Same R H:=S.sub
theorem ME.mb{f:RhD}(h:ME K O t f):MB K O t f:=λZ σ H R ρ d ρ' Q S e k=>h Z σ H R ρ d ρ' Q S e λv H' R' S' st r=>k v H' R' S' st (r.mono S'.same)
theorem StR.notnew{σ:St}{H R:Hp}{ρ:Rho}(S:StR K Z O σ H R ρ){l:Addr}(h:H l=none):∀j,j∈O->σ[j]? ≠some (some (.ref l)):=λj hj e=>by
 obtain⟨k,vs,ds,_,h2,h3,_⟩:=S.own j hj
 rw[e]at h2
 (first|obtain rfl:=h2.isA rfl|cases h2)
 rw[h]at h3
 (first|obtain rfl:=h3.isA rfl|cases h3)
theorem StR.know{σ:St}{H R:Hp}{ρ:Rho}{l:Addr}{vs:HO}(S:StR K Z O σ H R ρ)(h0:Z.H0 l=none)(hH:H l=some vs)(hR:R l=none)(hn:∀j,j∈O->σ[j]? ≠some (some (.ref l))):StR K Z O σ H (upd R l vs) ρ:=by
 have same:Same R (upd R l vs):=Same.new hR
 refine⟨λa o e=>?_,S.len,λi d hi e=>?_,λi hi=>?_,S.dis,S.ah,S.ar.trans same,λa h=>?_,S.ad,S.ao,S.ap⟩
 · by_cases ha:a=l
   · subst ha;rw[q0r]at e;rw[hH,e]
   · rw[q0n ha]at e;exact S.sub a o e
 · obtain⟨v,h1,h2⟩:=S.env i d hi e
   exact⟨v,h1,h2.mono same⟩
 · obtain⟨k,ws,ds,h1,h2,h3,h4,h5⟩:=S.own i hi
   refine⟨k,ws,ds,h1,h2,h3,?_,h5.mono same⟩
   rw[q0n (λz=>hn i hi (by rw[<-z];exact h2))]
   exact h4
 · by_cases ha:a=l
   · subst ha;exact .inr (.inl h0)
   · rw[q0n ha]at h;exact S.an a h
theorem StR.new0{σ:St}{H R:Hp}{ρ:Rho}{l:Addr}(S:StR K Z O σ H R ρ)(h:H l=none):Z.H0 l=none:=by
 cases q:Z.H0 l with
 |none=>rfl
 |some o=>exact absurd h (S.ad l (by rw[q];exact λz=>nomatch z)).1
theorem Stp.know{σ:St}{H R H' R':Hp}{l:Addr}{o:HO}(x:Stp O σ H R H' R')(h:H l=none)(hr:R' l=none):Stp O σ H R H' (upd R' l o):=by
 refine⟨x.r.trans (Same.new hr),x.h,λb e=>?_,x.d⟩
 by_cases hb:b=l
 · subst hb;exact .inr (.inl h)
 · rw[q0n hb]at e;exact x.n b e
theorem MN.me{f:RhL}(h:MN K O t f):ME K O t (q1s f λds=>mRet (.lst ds)):=λZ σ H R ρ d ρ' Q S e k=>by
 obtain⟨ds,ρ1,e1,e2⟩:=q0c e
 cases e2
 refine h Z σ H R ρ ds _ Q S e1 λl vs H' R' S' st h0 hH hR r=>?_
 refine k _ H' (upd R' l (.lst vs)) (S'.know (S.new0 h0) hH hR ?_) (st.know h0 hR) (.lst (SqL.of q0r) (r.mono (Same.new hR)))
 exact S.notnew h0
theorem q03{i:Nat}(hi:i∉O:=by decide):ME K O (tVar i) (mVar i):=λZ σ H R ρ d ρ' Q S e k=>by
 obtain⟨e1,rfl⟩:=q70 e
 obtain⟨v,h1,h2⟩:=S.env i d hi e1
 exact⟨v,h1,k v H R S (Stp.refl _ _ _ _) h2⟩
theorem q3r{i:Nat}:MB K O (tVar i) (mVar i):=λZ σ H R ρ d ρ' Q S e k=>by
 obtain⟨e1,rfl⟩:=q70 e
 by_cases hi:i∈O
 · obtain⟨l,vs,ds,h1,h2,h3,h4,h5⟩:=S.own i hi
   rw[e1]at h1
   (first|obtain rfl:=h1.isA rfl|cases h1)
   exact⟨.ref l,h2,k _ H R S (Stp.refl _ _ _ _) ((h5.mono S.same).rp h3)⟩
 · obtain⟨v,h1,h2⟩:=S.env i d hi e1
   exact⟨v,h1,k v H R S (Stp.refl _ _ _ _) (h2.mono S.same)⟩
theorem me_c{v:V}{d:D}(h:Sc v d):ME K O (tC v) (mRet d):=λZ σ H R ρ e ρ' Q S q k=>by
 (first|obtain rfl:=q.isA rfl|cases q)
 exact k v H R S (Stp.refl _ _ _ _) h.rp
theorem me_int{i:Int}:ME K O (tC (.int i)) (mRet (.int i)):=me_c (.int i)
theorem me_str{x:Str}:ME K O (tC (.str x)) (mRet (.str x)):=me_c (.str x)
theorem qtf{b:Bool}:ME K O (tC (.bl b)) (mRet (.bl b)):=me_c (.bl b)
theorem me_non:ME K O (tC .non) (mRet .non):=me_c .non
def mOp2(g:D->D->Option D)(fa fb:RhD):RhD:=q1s fa λx=>q1s fb λy=>q2q (g x y)
def OpS(K:PySem.W.Frag)(r:R2)(g:D->D->Option D):Prop:=∀(H:Hp) (x y:V) (d e u:D) (Q:VK),Rp K H x d->Rp K H y e->g d e=some u->(∀v,Sc v u->Q v H)->r x y H Q
def OpG(K:PySem.W.Frag)(r:R2)(g:D->D->Option D):Prop:=∀(H R:Hp) (x y:V) (d e u:D) (Q:VK),(∀a o,R a=some o->H a=some o)->Rp K R x d->Rp K R y e->g d e=some u->(∀v H' R',Ext H R H' R'->Rp K R' v u->Q v H')->r x y H Q
theorem OpS.g{r:R2}{g:D->D->Option D}(h:OpS K r g):OpG K r g:=λH R x y d e u Q s rx ry q k=>
 h H x y d e u Q (rx.mono s) (ry.mono s) q λv z=>k v H R (Ext.refl s) z.rp
theorem q0d{r:R2}{g:D->D->Option D}{fa fb:RhD}(h:OpG K r g)(ha:ME K O ta fa)(hb:ME K O tb fb):ME K O (tOp r ta tb) (mOp2 g fa fb):=λZ σ H R ρ d ρ' Q S e k=>by
 obtain⟨x,ρ1,e1,e⟩:=q0c e
 obtain⟨y,ρ2,e2,e⟩:=q0c e
 obtain⟨e3,rfl⟩:=q0m e
 refine ha Z σ H R ρ x ρ1 _ S e1 λv H1 R1 S1 st1 r1=>hb Z σ H1 R1 ρ1 y _ _ S1 e2 λw H2 R2 S2 st2 r2=>?_
 exact h H2 R2 v w x y d Q S2.sub (r1.mono st2.r) r2 e3 λz H3 R3 x3 r3=>k z H3 R3 (S2.ext x3) ((st1.trans st2).trans x3.stp) r3
theorem q1l{r:R2}{g:D->D->Option D}{fa fb:RhD}(h:OpS K r g)(ha:ME K O ta fa)(hb:MB K O tb fb):ME K O (tOp r ta tb) (mOp2 g fa fb):=λZ σ H R ρ d ρ' Q S e k=>by
 obtain⟨x,ρ1,e1,e⟩:=q0c e
 obtain⟨y,ρ2,e2,e⟩:=q0c e
 obtain⟨e3,rfl⟩:=q0m e
 refine ha Z σ H R ρ x ρ1 _ S e1 λv H1 R1 S1 st1 r1=>hb Z σ H1 R1 ρ1 y _ _ S1 e2 λw H2 R2 S2 st2 r2=>?_
 exact h H2 v w x y d Q ((r1.mono st2.r).mono S2.same) r2 e3 λz q=>k z H2 R2 S2 (st1.trans st2) q.rp
def mIxO(i:Nat)(fb:RhD):RhD:=q1s fb λy=>q1s (mVar i) λx=>q2q (match x,y with
 |.lst xs,.int j=>atI xs j
 |_,_=>none)
theorem qat{R:Hp}{xs:List V}{ds:List D}{i:Int}{d:D}(r:Rps K R xs ds)(h:atI ds i=some d):∃v,atI xs i=some v/\Rp K R v d:=by
 unfold atI at h ⊢
 rw[r.length]
 cases e:ixN ds.length i with
 |none=>rw[e]at h;cases h
 | some j=>
   rw[e]at h
   exact r.get h
theorem qkd{i:Nat}{fb:RhD}(hi:i∈O)(hb:ME K O tb fb):ME K O (tOp (rIx K) (tVar i) tb) (mIxO i fb):=λZ σ H R ρ d ρ' Q S e k=>by
 obtain⟨y,ρ1,e1,e⟩:=q0c e
 obtain⟨x,ρ2,e2,e⟩:=q0c e
 obtain⟨e3,rfl⟩:=q0m e
 obtain⟨e4,rfl⟩:=q70 e2
 obtain⟨l,vs,ds,h1,h2,h3,_⟩:=S.own i hi
 refine⟨.ref l,h2,hb Z σ H R ρ y _ _ S e1 λw H1 R1 S1 st1 r1=>?_⟩
 obtain⟨l',vs',ds',g1,g2,g3,g4,g5⟩:=S1.own i hi
 rw[h2]at g2
 cases g2
 rw[e4]at g1
 cases g1
 split at e3
 · obtain rfl:=r1.isA rfl
   obtain⟨us,rfl,q5⟩:=g5.isL
   obtain⟨v,q1,q2⟩:=qat q5 e3
   exact .inl ⟨l,_,_,v,rfl,rfl,SqL.of g3,q1,k v H1 R1 S1 st1 q2⟩
 · cases e3
def dIx:D->D->Option D
 |.lst xs,.int i=>atI xs i
 |.tup xs,.int i=>atI xs i
 |.str z,.int i=>if z.length<=sizeLine then(atI z.cps.toList i).map λc=>.str ⟨#[c]⟩else none
 |_,_=>none
theorem q0y:OpG K (rIx K) dIx:=λH R x y d e u Q s rx ry q k=>by
 unfold dIx at q
 split at q
 · rename_i xs i
   (first|obtain rfl:=ry.isA rfl|cases ry)
   obtain⟨_,_,rfl,h,r⟩:=rx.isL
   obtain⟨v,q1,q2⟩:=qat r q
   exact .inl ⟨_,_,i,v,rfl,rfl,Same.sqL s h,q1,k v H R (Ext.refl s) q2⟩
 · rename_i xs i
   (first|obtain rfl:=ry.isA rfl|cases ry)
   obtain⟨_,_,rfl,h,r⟩:=rx.isT
   obtain⟨v,q1,q2⟩:=qat r q
   exact .inr (.inl ⟨_,_,i,v,rfl,rfl,SqT.of (s _ _ h),q1,k v H R (Ext.refl s) q2⟩)
 · rename_i z i
   (first|obtain rfl:=ry.isA rfl|cases ry)
   (first|obtain rfl:=rx.isA rfl|cases rx)
   split at q
   · rename_i hz
     cases e':atI z.cps.toList i with
     |none=>rw[e']at q;cases q
     | some c=>
       rw[e']at q
       (first|obtain rfl:=q.isA rfl|cases q)
       exact .inr (.inr ⟨z,i,c,rfl,rfl,hz,e',k _ H R (Ext.refl s) (.str _)⟩)
   · (first|obtain rfl:=q.isA rfl|cases q)
 · (first|obtain rfl:=q.isA rfl|cases q)
def dI2(C:Int->Int->Bool)(g:Int->Int->Int):D->D->Option D
 |.int i,.int j=>if C i j=true then some (.int (g i j))else none
 |_,_=>none
theorem op_i{C:Int->Int->Bool}{P:Int->Int->Prop}{g:Int->Int->Int}(hc:∀i j,C i j=true->P i j):OpG K (rI P λi j=>.int (g i j)) (dI2 C g):=λH R x y d e u Q s rx ry q k=>by
 unfold dI2 at q
 split at q
 · rename_i i j
   split at q
   · rename_i h
     (first|obtain rfl:=q.isA rfl|cases q)
     (first|obtain rfl:=rx.isA rfl|cases rx)
     (first|obtain rfl:=ry.isA rfl|cases ry)
     exact⟨i,j,rfl,rfl,hc i j h,k _ H R (Ext.refl s) (.int _)⟩
   · (first|obtain rfl:=q.isA rfl|cases q)
 · (first|obtain rfl:=q.isA rfl|cases q)
def dI0(g:Int->Int->Int):D->D->Option D
 |.int i,.int j=>some (.int (g i j))
 |_,_=>none
theorem qlf{g:Int->Int->Int}:OpG K (rI0 λi j=>.int (g i j)) (dI0 g):=λH R x y d e u Q s rx ry q k=>by
 unfold dI0 at q
 split at q
 · rename_i i j
   (first|obtain rfl:=q.isA rfl|cases q)
   (first|obtain rfl:=rx.isA rfl|cases rx)
   (first|obtain rfl:=ry.isA rfl|cases ry)
   exact⟨i,j,rfl,rfl,k _ H R (Ext.refl s) (.int _)⟩
 · (first|obtain rfl:=q.isA rfl|cases q)
def dB0(g:Int->Int->Bool):D->D->Option D
 |.int i,.int j=>some (.bl (g i j))
 |_,_=>none
end
section
variable{K:PySem.W.Frag}{Z:Anc}{O:List Nat}{t ta tb tc:TE}{tA tB':TT}{tr:TA}{fa fb fc:RhD}{ga gb:RhB}{fs:RhL}
def q11(f:RhD):RhB:=q1s f λd=>q2q (match d with
 |.bl b=>some b
 |_=>none)
theorem q19(h:ME K O t fa):MT K O (qnk t) (q11 fa):=λZ σ H R ρ b ρ' Q S e k=>by
 obtain⟨d,ρ1,e1,e⟩:=q0c e
 obtain⟨e2,rfl⟩:=q0m e
 refine h Z σ H R ρ d _ _ S e1 λv H' R' S' st r=>?_
 (first|split at e2)
 · obtain rfl:=r.isA rfl
   cases e2
   exact⟨_,rfl,k H' R' S' st⟩
 · cases e2
theorem qbo(h:ME K O t fa):MT K O (tB t) (q11 fa):=λZ σ H R ρ b ρ' Q S e k=>by
 obtain⟨d,ρ1,e1,e⟩:=q0c e
 obtain⟨e2,rfl⟩:=q0m e
 refine h Z σ H R ρ d _ _ S e1 λv H' R' S' st r=>?_
 (first|split at e2)
 · obtain rfl:=r.isA rfl
   cases e2
   exact⟨_,rfl,k H' R' S' st⟩
 · cases e2
def mAnd(f g:RhB):RhB:=q1s f λb=>if b=true then g else mRet false
def mOr(f g:RhB):RhB:=q1s f λb=>if b=true then mRet true else g
theorem qfd(h:MT K O tA ga)(h2:MT K O tB' gb):MT K O (tAnd tA tB') (mAnd ga gb):=λZ σ H R ρ b ρ' Q S e k=>by
 obtain⟨c,ρ1,e1,e⟩:=q0c e
 refine h Z σ H R ρ c _ _ S e1 λH' R' S' st=>?_
 cases c with
 |true=>exact iteT (h2 Z σ H' R' ρ1 b ρ' Q S' e λH2 R2 S2 st2=>k H2 R2 S2 (st.trans st2))
 |false=>cases e;exact iteF (k H' R' S' st)
theorem qtd(h:MT K O tA ga)(h2:MT K O tB' gb):MT K O (tOr tA tB') (mOr ga gb):=λZ σ H R ρ b ρ' Q S e k=>by
 obtain⟨c,ρ1,e1,e⟩:=q0c e
 refine h Z σ H R ρ c _ _ S e1 λH' R' S' st=>?_
 cases c with
 |true=>cases e;exact iteT (k H' R' S' st)
 |false=>exact iteF (h2 Z σ H' R' ρ1 b ρ' Q S' e λH2 R2 S2 st2=>k H2 R2 S2 (st.trans st2))
def mIf(f:RhB)(g h:RhD):RhD:=q1s f λb=>if b=true then g else h
theorem q99(h:MT K O tA ga)(h1:ME K O ta fa)(h2:ME K O tb fb):ME K O (tIf tA ta tb) (mIf ga fa fb):=λZ σ H R ρ d ρ' Q S e k=>by
 obtain⟨c,ρ1,e1,e⟩:=q0c e
 refine h Z σ H R ρ c _ _ S e1 λH' R' S' st=>?_
 cases c with
 |true=>exact iteT (h1 Z σ H' R' ρ1 d ρ' Q S' e λv H2 R2 S2 st2 r2=>k v H2 R2 S2 (st.trans st2) r2)
 |false=>exact iteF (h2 Z σ H' R' ρ1 d ρ' Q S' e λv H2 R2 S2 st2 r2=>k v H2 R2 S2 (st.trans st2) r2)
def mNil:RhL:=mRet []
def q01(f:RhD)(g:RhL):RhL:=q1s f λx=>q1s g λxs=>mRet (x::xs)
theorem q08:MA K O tNil mNil:=λZ σ H R ρ ds ρ' Q S e k=>by
 cases e
 exact k [] H R S (Stp.refl _ _ _ _) .nil
theorem q02(h:ME K O t fa)(h2:MA K O tr fs):MA K O (q9q t tr) (q01 fa fs):=λZ σ H R ρ ds ρ' Q S e k=>by
 obtain⟨x,ρ1,e1,e⟩:=q0c e
 obtain⟨xs,ρ2,e2,e⟩:=q0c e
 cases e
 refine h Z σ H R ρ x _ _ S e1 λv H1 R1 S1 st1 r1=>h2 Z σ H1 R1 ρ1 xs _ _ S1 e2 λvs H2 R2 S2 st2 r2=>?_
 exact k (v::vs) H2 R2 S2 (st1.trans st2) (.cons (r1.mono st2.r) r2)
def mTup(f:RhL):RhD:=q1s f λxs=>q2q (if xs.length<=sizeLine then some (.tup xs)else none)
theorem q3q(h:MA K O tr fs):ME K O (tTup tr) (mTup fs):=λZ σ H R ρ d ρ' Q S e k=>by
 obtain⟨xs,ρ1,e1,e⟩:=q0c e
 obtain⟨e2,rfl⟩:=q0m e
 refine h Z σ H R ρ xs _ _ S e1 λvs H1 R1 S1 st1 r1=>?_
 split at e2
 · rename_i hz
   cases e2
   refine⟨by rw[r1.length];exact hz,λp np=>?_⟩
   have x:=Ext.new (o:=.tup vs) S1.sub np
   exact k _ _ _ (S1.ext x) (st1.trans x.stp) (.tup q0r (r1.mono x.r))
 · cases e2
def mLst(f:RhL):RhL:=q1s f λxs=>q2q (if xs.length<=sizeLine then some xs else none)
theorem StR.out{σ:St}{H R:Hp}{ρ:Rho}{l:Addr}(S:StR K Z O σ H R ρ)(h:H l=none):R l=none:=by
 cases q:R l with
 |none=>rfl
 |some o=>rw[S.sub l o q]at h;cases h
theorem Stp.new{σ:St}{H R H' R':Hp}{l:Addr}(x:Stp O σ H R H' R')(h:H' l=none):H l=none:=by
 cases q:H l with
 |none=>rfl
 |some o=>exact absurd h (x.d l (by rw[q];exact λz=>nomatch z)).1
theorem q2p(h:MA K O tr fs):MN K O (tLst tr) (mLst fs):=λZ σ H R ρ ds ρ' Q S e k=>by
 obtain⟨xs,ρ1,e1,e⟩:=q0c e
 obtain⟨e2,rfl⟩:=q0m e
 refine h Z σ H R ρ xs _ _ S e1 λvs H1 R1 S1 st1 r1=>?_
 split at e2
 · rename_i hz
   cases e2
   refine⟨by rw[r1.length];exact hz,λp np=>?_⟩
   have x:=Ext.hid (o:=.lst vs) S1.sub np
   exact k p vs _ _ (S1.ext x) (st1.trans x.stp) (st1.new np) q0r (S1.out np) r1
 · cases e2
def qnc(K:PySem.W.Frag)(r:List V->Hp->VK->Prop)(g:D->Option D):Prop:=∀(H:Hp) (x:V) (d u:D) (Q:VK),Rp K H x d->g d=some u->(∀v,Sc v u->Q v H)->r [x] H Q
def mOp1(g:D->Option D)(f:RhD):RhD:=q1s f λx=>q2q (g x)
theorem q1v{r:List V->Hp->VK->Prop}{g:D->Option D}(h:qnc K r g)(ha:MB K O t fa):ME K O (tCB r (q9q t tNil)) (mOp1 g fa):=λZ σ H R ρ d ρ' Q S e k=>by
 obtain⟨x,ρ1,e1,e⟩:=q0c e
 obtain⟨e2,rfl⟩:=q0m e
 refine ha Z σ H R ρ x _ _ S e1 λv H1 R1 S1 st1 r1=>?_
 exact h H1 v x d Q r1 e2 λw z=>k w H1 R1 S1 st1 z.rp
def dLen:D->Option D
 |.lst xs=>some (.int xs.length)
 |.tup xs=>some (.int xs.length)
 |_=>none
theorem q3d:qnc K (λxs H Q=>∃p ys,xs=[.ref p]/\(SqL K H p ys∨SqT K H p ys)/\Q (.int ys.length) H) dLen:=λH x d u Q r e k=>by
 (first|split at e|(unfold dLen at e;split at e))
 · obtain⟨_,_,rfl,h,q⟩:=r.isL
   cases e
   refine⟨_,_,rfl,.inl h,?_⟩
   rw[q.length]
   exact k _ (.int _)
 · obtain⟨_,_,rfl,h,q⟩:=r.isT
   cases e
   refine⟨_,_,rfl,.inr (SqT.of h),?_⟩
   rw[q.length]
   exact k _ (.int _)
 · cases e
def q3z:List D->Option (List Int)
 |[]=>some []
 |.int i::r=>(q3z r).map (i:: ·)
 |_=>none
def qkl:List D->Option (List Bool)
 |[]=>some []
 |.bl i::r=>(qkl r).map (i:: ·)
 |_=>none
theorem q5b{R:Hp}:∀{xs:List V} {ds:List D} {ns:List Int},Rps K R xs ds->q3z ds=some ns->xs=ns.map V.int
 |_,_,ns,.nil,e=>by cases e;rfl
 | _,_,ns,.cons (d:=d) h r,e=>by
   cases h with
   | int i=>
     unfold q3z at e
     cases q:q3z _ with
     |none=>rw[q]at e;cases e
     |some ms=>rw[q]at e;cases e;rw[q5b r q];rfl
   |_=>cases e
theorem q3s:∀ns:List Int,q3z (ns.map D.int)=some ns
 |[]=>rfl
 |n::ns=>by rw[jw,q3z,q3s ns];rfl
def dSum:D->Option D
 |.lst xs=>(q3z xs).map λns=>.int ns.sum
 |_=>none
theorem qkk:qnc K (λxs H Q=>∃(p:Addr) (ns:List Int),xs=[.ref p]/\SqL K H p (ns.map V.int)/\Q (.int ns.sum) H) dSum:=λH x d u Q r e k=>by
 cases r with
 | lst h q=>
   rename_i ds
   have e':(q3z ds).map (λns=>D.int ns.sum)=some u:=e
   cases z:q3z ds with
   |none=>rw[z]at e';cases e'
   | some ns=>
     rw[z]at e'
     cases e'
     have ex:=q5b q z
     subst ex
     exact⟨_,ns,rfl,h,k _ (.int _)⟩
 |_=>cases e
end
def ItOk(K:PySem.W.Frag)(J:It)(R:Hp)(ds:List D):Prop:=∀(H' R':Hp),Same R R'->(∀a o,R' a=some o->H' a=some o)->∀i:Nat,(i=ds.length->J.stop i H')/\∀d,ds[i]? =some d->J.go i H'/\∀x H'',J.yld i H' x H''->∃R'',Ext H' R' H'' R''/\Rp K R'' x d
theorem ItOk.mono{K:PySem.W.Frag}{J:It}{R R1:Hp}{ds:List D}(h:ItOk K J R ds)(s:Same R R1):ItOk K J R1 ds:=λH' R' s' b=>h H' R' (s.trans s') b
def MI(K:PySem.W.Frag)(O:List Nat)(wi:TI)(f:RhL):Prop:=∀(Z:Anc) (σ:St) (H R:Hp) (ρ:Rho) (ds:List D) (ρ':Rho) (Q:It->Hp->Prop),StR K Z O σ H R ρ->f ρ=some (ds,ρ')->(∀J H' R',StR K Z O σ H' R' ρ'->Stp O σ H R H' R'->ItOk K J R' ds->Q J H')->wi σ H Q
def iSeq(K:PySem.W.Frag)(tl:TE):TI:=λσ H R=>qm4 K tl σ H R∨iTup K tl σ H R
theorem q26{X:Cx}{K:PySem.W.Frag}{tg l:Expr}{tl:TE}(h:X.K=K)(hl:PE X l tl):PI X tg l (iSeq K tl):=λz5 s σ H R I q=>by
 rcases q with q|q
 · exact qhk h hl z5 s σ H R I q
 · exact qkz h hl z5 s σ H R I q
def mSeq(f:RhD):RhL:=q1s f λd=>q2q (match d with
 |.lst xs=>some xs
 |.tup xs=>some xs
 |_=>none)
section
variable{K:PySem.W.Frag}{O:List Nat}{t:TE}{tr:TA}{fa:RhD}{fs:RhL}
theorem qm2{R:Hp}{a:Addr}{xs:List V}{ds:List D}(h:SqL K R a xs)(r:Rps K R xs ds):ItOk K (Itl K a) R ds:=λH' R' s b i=>by
 have q:SqL K H' a xs:=Same.sqL b (Same.sqL s h)
 refine⟨λe=>⟨xs,q,by rw[r.length];omega⟩,λd e=>?_⟩
 obtain⟨v,h1,h2⟩:=r.get e
 refine⟨⟨xs,v,q,h1⟩,λx H'' y=>?_⟩
 obtain⟨rfl,y⟩:=y
 have ex:=y xs q
 rw[h1]at ex
 cases ex
 exact⟨R',Ext.refl b,h2.mono s⟩
theorem qr1{R:Hp}{a:Addr}{xs:List V}{ds:List D}(h:SqT K R a xs)(r:Rps K R xs ds):ItOk K (Itt K a) R ds:=λH' R' s b i=>by
 have q:SqT K H' a xs:=Same.tup b (Same.tup s h)
 refine⟨λe=>⟨xs,q,by rw[r.length];omega⟩,λd e=>?_⟩
 obtain⟨v,h1,h2⟩:=r.get e
 refine⟨⟨xs,v,q,h1⟩,λx H'' y=>?_⟩
 obtain⟨rfl,y⟩:=y
 have ex:=y xs q
 rw[h1]at ex
 cases ex
 exact⟨R',Ext.refl b,h2.mono s⟩
theorem q2y(h:ME K O t fa):MI K O (iSeq K t) (mSeq fa):=λZ σ H R ρ ds ρ' Q S e k=>by
 obtain⟨d,ρ1,e1,e⟩:=q0c e
 obtain⟨e2,rfl⟩:=q0m e
 cases d with
 | lst xs=>
   cases e2
   refine .inl (h Z σ H R ρ _ _ _ S e1 λv H1 R1 S1 st1 r1=>?_)
   obtain⟨_,_,rfl,q,r⟩:=r1.isL
   exact⟨_,rfl,⟨_,Same.sqL S1.same q⟩,k _ H1 R1 S1 st1 (qm2 q r)⟩
 | tup xs=>
   cases e2
   refine .inr (h Z σ H R ρ _ _ _ S e1 λv H1 R1 S1 st1 r1=>?_)
   obtain⟨_,_,rfl,q,r⟩:=r1.isT
   exact⟨_,rfl,⟨_,SqT.of (S1.same _ _ q)⟩,k _ H1 R1 S1 st1 (qr1 (SqT.of q) r)⟩
 |_=>cases e2
def q1f(lo:Int)(n:Nat):List D:=(List.range n).map λ(k:Nat)=>D.int (lo+(k:Int))
theorem qi6{R:Hp}(lo:Int)(n:Nat):ItOk K (Itr lo n) R (q1f lo n):=λH' R' s b i=>by
 have len:(q1f lo n).length=n:=by simp[q1f]
 refine⟨λe=>by show n<=i;omega,λd e=>?_⟩
 have hi:i<n:=by
   have:=(List.getElem?_eq_some_iff.mp e).1
   omega
 have ed:d=D.int (lo+(i:Int)):=by
   unfold q1f at e
   rw[jb,xr hi]at e
   exact(je e).symm
 subst ed
 refine⟨hi,λx H'' y=>?_⟩
 obtain⟨rfl,rfl⟩:=y
 exact⟨R',Ext.refl b,.int _⟩
def big(j:Int):Bool:=decide (-(2^62)<=j)&&decide (j<2^62)
def q37(f:RhL):RhL:=q1s f λds=>q2q (match ds with
 |[.int j]=>if big j=true then some (q1f 0 j.toNat)else none
 |_=>none)
theorem q2k(h:MA K O tr fs):MI K O (qr4 tr) (q37 fs):=λZ σ H R ρ ds ρ' Q S e k=>by
 obtain⟨xs,ρ1,e1,e⟩:=q0c e
 obtain⟨e2,rfl⟩:=q0m e
 split at e2
 · rename_i j
   split at e2
   · rename_i hb
     cases e2
     refine h Z σ H R ρ _ _ _ S e1 λvs H1 R1 S1 st1 r1=>?_
     obtain⟨_,_,rfl,q,r⟩:=r1.isC
     (first|obtain rfl:=r.isA rfl|cases r)
     (first|obtain rfl:=q.isA rfl|cases q)
     unfold big at hb
     rw[Bool.and_eq_true]at hb
     exact⟨j,rfl,of_decide_eq_true hb.1,of_decide_eq_true hb.2,k _ H1 R1 S1 st1 (qi6 0 _)⟩
   · cases e2
 · cases e2
end
def MG(K:PySem.W.Frag)(O T:List Nat)(g:TG)(f:RhG):Prop:=∀(Z:Anc) (σ:St) (H R:Hp) (ρ:Rho) (x:V) (d:D) (ρ':Rho) (Q:St->Hp->Prop),StR K Z O σ H R ρ->Rp K R x d->f d ρ=some ρ'->(∀σ',StR K Z O σ' H R ρ'->(∀j,j∉T->σ'[j]? =σ[j]?)->Q σ' H)->g x σ H Q
def MGs(K:PySem.W.Frag)(O T:List Nat)(g:TGs)(f:List D->Rho->Option Rho):Prop:=∀(Z:Anc) (σ:St) (H R:Hp) (ρ:Rho) (xs:List V) (ds:List D) (ρ':Rho) (Q:St->Hp->Prop),StR K Z O σ H R ρ->Rps K R xs ds->f ds ρ=some ρ'->(∀σ',StR K Z O σ' H R ρ'->(∀j,j∉T->σ'[j]? =σ[j]?)->Q σ' H)->g xs σ H Q
def gSet(i:Nat):RhG:=λd ρ=>some (ρ.set i (some d))
def q27:List D->Rho->Option Rho:=λds ρ=>match ds with
 |[]=>some ρ
 |_=>none
def q0q(f:RhG)(g:List D->Rho->Option Rho):List D->Rho->Option Rho:=λds ρ=>match ds with
 | d::r=>match f d ρ with
   |some ρ1=>g r ρ1
   |none=>none
 |[]=>none
def q25(n:Nat)(f:List D->Rho->Option Rho):RhG:=λd ρ=>match d with
 |.tup ds=>if ds.length=n then f ds ρ else none
 |_=>none
section
variable{K:PySem.W.Frag}{O T T':List Nat}{g:TG}{gs:TGs}{f:RhG}{fs:List D->Rho->Option Rho}
theorem q0u{i:Nat}(hi:i∉O:=by decide):MG K O [i] (q67 i) (gSet i):=λZ σ H R ρ x d ρ' Q S r e k=>by
 cases e
 exact k _ (S.set hi r) λj hj=>jj (λ(z:i=j)=>hj (by rw[z];exact List.mem_singleton_self j))
theorem q3y:MGs K O [] gNil q27:=λZ σ H R ρ xs ds ρ' Q S r e k=>by
 cases r with
 |nil=>cases e;exact⟨rfl,k σ S λ_ _=>rfl⟩
 |cons _ _=>cases e
theorem q1r(h:MG K O T g f)(h2:MGs K O T' gs fs):MGs K O (T++T') (qid g gs) (q0q f fs):=λZ σ H R ρ xs ds ρ' Q S r e k=>by
 cases r with
 |nil=>cases e
 | cons q r=>
   rename_i x xs d ds
   unfold q0q at e
   cases e1:f d ρ with
   |none=>simp only[e1]at e;cases e
   | some ρ1=>
     simp only[e1]at e
     refine⟨x,xs,rfl,h Z σ H R ρ x d ρ1 _ S q e1 λσ1 S1 n1=>h2 Z σ1 H R ρ1 xs ds ρ' _ S1 r e λσ2 S2 n2=>?_⟩
     refine k σ2 S2 λj hj=>?_
     rw[List.mem_append,not_or]at hj
     rw[n2 j hj.2,n1 j hj.1]
theorem q59{n:Nat}(h:MGs K O T gs fs):MG K O T (gTup K n gs) (q25 n fs):=λZ σ H R ρ x d ρ' Q S r e k=>by
 cases r with
 | tup q rs=>
   unfold q25 at e
   simp only at e
   split at e
   · rename_i hn
     exact⟨_,_,rfl,SqT.of (S.same _ _ q),by rw[rs.length];exact hn,h Z σ H R ρ _ _ ρ' Q S rs e k⟩
   · cases e
 |_=>cases e
end
def q51(n:Nat)(js:List Nat)(ρ:Rho):Rho:=List.replicate n none++js.map λj=>(ρ[j]?).join
def bwO:Option (Nat×Nat)->List Nat
 |none=>[]
 |some p=>[p.2]
def q4p(bw:Option (Nat×Nat))(ρ ρb:Rho):Rho:=match bw with
 |none=>ρ
 | some p=>match ρb[p.2]? with
   |some x=>ρ.set p.1 x
   |none=>ρ
def bwOk(n:Nat)(js O:List Nat)(bw:Option (Nat×Nat)):Bool:=match bw with
 |none=>js.all λj=>!O.contains j
 |some p=>O.contains p.1&&decide (n<=p.2)&&decide (js[p.2-n]? =some p.1)&&(List.range js.length).all λk=>decide (n+k=p.2)|| !O.contains (js.getD k 0)
def q0v(n:Nat)(js:List Nat)(bw:Option (Nat×Nat))(fg:RhG)(ft:RhB)(fe:RhD):List D->RhL
 |[],ρ=>some ([],ρ)
 | d::r,ρ=>match fg d (q51 n js ρ)with
   |none=>none
   | some ρ1=>match ft ρ1 with
     |none=>none
     |some (false,ρ2)=>q0v n js bw fg ft fe r (q4p bw ρ ρ2)
     | some (true,ρ2)=>match fe ρ2 with
       |none=>none
       | some (y,ρ3)=>match q0v n js bw fg ft fe r (q4p bw ρ ρ3)with
         |none=>none
         |some (ys,ρ4)=>some (y::ys,ρ4)
section
variable{K:PySem.W.Frag}{Z Z':Anc}{O:List Nat}{σ σ4:St}{H R H6 R6:Hp}{ρ ρ3:Rho}{n:Nat}{js:List Nat}{bw:Option (Nat×Nat)}
theorem qgc:(q51 n js ρ).length=n+js.length:=by simp[q51]
theorem qgd{i:Nat}{d:D}(e:(q51 n js ρ)[i]? =some (some d)):n<=i/\∃j,js[i-n]? =some j/\ρ[j]? =some (some d):=by
 unfold q51 at e
 by_cases h:i<n
 · rw[xy (by simpa using h),xx,if_pos h]at e
   cases e
 · refine⟨by omega,?_⟩
   rw[xk (by simp;omega),ji,jb]at e
   cases q:js[i-n]? with
   |none=>rw[q]at e;cases e
   | some j=>
     rw[q]at e
     refine⟨j,rfl,?_⟩
     have e':(ρ[j]?).join=some d:=je e
     cases z:ρ[j]? with
     |none=>rw[z]at e';cases e'
     |some o=>rw[z]at e';have:o=some d:=e';rw[this]
theorem qiq{i j:Nat}(h:n<=i)(e:js[i-n]? =some j){d:D}(q:ρ[j]? =some (some d)):(q51 n js ρ)[i]? =some (some d):=by
 unfold q51
 rw[xk (by simp;omega),ji,jb,e]
 show some ((ρ[j]?).join)=_
 rw[q]
 rfl
theorem q8i{i j:Nat}(h:n<=i)(e:js[i-n]? =some j){v:V}(q:σ[j]? =some (some v)):(caps n js σ)[i]? =some (some v):=by
 unfold caps
 rw[xk (by simp;omega),ji,jb,e]
 show some ((σ[j]?).join)=_
 rw[q]
 rfl
def bwL(bw:Option (Nat×Nat))(σ:St):Addr->Prop:=match bw with
 |none=>λ_=>False
 |some p=>λl=>σ[p.1]? =some (some (.ref l))
theorem StR.block(S:StR K Z O σ H R ρ)(hb:bwOk n js O bw=true):StR K ⟨H,R,bwL bw σ,bwO bw⟩ (bwO bw) (caps n js σ) H R (q51 n js ρ):=by
 have noO:∀i j,n<=i->js[i-n]? =some j->i∉bwO bw->j∉O:=λi j hi hj hn hO=>by
   cases bw with
   | none=>
     unfold bwOk at hb
     have z:=List.all_eq_true.mp hb j (x9 hj)
     simp at z
     exact z hO
   | some p=>
     unfold bwOk at hb
     simp only[Bool.and_eq_true]at hb
     have hk:i-n<js.length:=(List.getElem?_eq_some_iff.mp hj).1
     have z:=List.all_eq_true.mp hb.2 (i-n) (List.mem_range.mpr hk)
     have ej:js.getD (i-n) 0=j:=by rw[jq,hj];rfl
     rw[ej]at z
     simp only[Bool.or_eq_true,decide_eq_true_eq]at z
     rcases z with z|z
     · exact hn (by show i∈[p.2];rw[List.mem_singleton];omega)
     · simp at z;exact z hO
 have inO:∀p,bw=some p->p.1∈O/\n<=p.2/\js[p.2-n]? =some p.1:=λp e=>by
   subst e
   unfold bwOk at hb
   simp only[Bool.and_eq_true,decide_eq_true_eq]at hb
   exact⟨by simpa using hb.1.1.1,hb.1.1.2,hb.1.2⟩
 have only:∀i,i∈bwO bw->∃p,bw=some p/\i=p.2:=λi hi=>by
   cases bw with
   |none=>exact absurd hi (by simp[bwO])
   |some p=>exact⟨p,rfl,by simpa[bwO]using hi⟩
 refine⟨S.sub,by rw[qgc,q8h],λi d hi e=>?_,λi hi=>?_,λi j hi hj hn=>?_,λa o e _=>e,Same.refl _,λa h=>.inl h,λa h=>.refl h,λi hi hp=>absurd hi hp,λi hi _ l e=>?_⟩
 · obtain⟨h1,j,h2,h3⟩:=qgd e
   obtain⟨v,q1,q2⟩:=S.env j d (noO i j h1 h2 hi) h3
   exact⟨v,q8i h1 h2 q1,q2⟩
 · obtain⟨p,rfl,rfl⟩:=only i hi
   obtain⟨h1,h2,h3⟩:=inO p rfl
   obtain⟨l,vs,ds,q1,q2,q3⟩:=S.own p.1 h1
   exact⟨l,vs,ds,qiq h2 h3 q1,q8i h2 h3 q2,q3⟩
 · obtain⟨p,rfl,rfl⟩:=only i hi
   obtain⟨p',e,rfl⟩:=only j hj
   cases e
   exact absurd rfl hn
 · obtain⟨p,rfl,rfl⟩:=only i hi
   obtain⟨h1,h2,h3⟩:=inO p rfl
   obtain⟨l',vs,ds,q1,q2,q3⟩:=S.own p.1 h1
   rw[q8i h2 h3 q2]at e
   cases e
   exact q2
theorem StR.back(S:StR K Z O σ H R ρ)(hb:bwOk n js O bw=true)(Sb:StR K Z' (bwO bw) σ4 H6 R6 ρ3)(st:Stp (bwO bw) σ4 H R H6 R6)(hσ:∀p,bw=some p->σ4[p.2]? =σ[p.1]?):
   StR K Z O σ H6 R6 (q4p bw ρ ρ3)/\Stp O σ H R H6 R6:=by
 have inO:∀p,bw=some p->p.1∈O:=λp e=>by
   subst e
   unfold bwOk at hb
   simp only[Bool.and_eq_true,decide_eq_true_eq]at hb
   simpa using hb.1.1.1
 have only:∀i,i∈bwO bw->∃p,bw=some p/\i=p.2:=λi hi=>by
   cases bw with
   |none=>exact absurd hi (by simp[bwO])
   |some p=>exact⟨p,rfl,by simpa[bwO]using hi⟩
 have st':Stp O σ H R H6 R6:=⟨st.r,λa o e n=>st.h a o e λi hi z=>by
   obtain⟨p,e1,rfl⟩:=only i hi
   rw[hσ p e1]at z
   exact n p.1 (inO p e1) z,st.n,st.d⟩
 have keepH0:∀a o,Z.H0 a=some o->¬Z.L a->H6 a=some o:=λa o e n=>by
   refine st'.h a o (S.ah a o e n) λi hi z=>?_
   by_cases hp:i∈Z.P
   · exact n (S.ap i hi hp a z)
   · rw[S.ao i hi hp a z]at e;cases e
 have len:(q4p bw ρ ρ3).length=ρ.length:=by
   unfold q4p
   cases bw with
   |none=>rfl
   | some p=>
     dsimp only
     split
     · rw[xm]
     · rfl
 have other:∀i,(∀p,bw=some p->p.1≠i)->(q4p bw ρ ρ3)[i]? =ρ[i]? :=λi h=>by
   unfold q4p
   cases bw with
   |none=>rfl
   | some p=>
     dsimp only
     split
     · rw[jj (h p rfl)]
     · rfl
 refine⟨⟨Sb.sub,by rw[len];exact S.len,λi d hi e=>?_,λi hi=>?_,S.dis,keepH0,S.ar.trans st.r,λa h=>?_,λa h=>(S.ad a h).trans (st.d a (S.ad a h).1),S.ao,S.ap⟩,st'⟩
 · rw[other i λp e1 z=>hi (z▸inO p e1)]at e
   obtain⟨v,h1,h2⟩:=S.env i d hi e
   exact⟨v,h1,h2.mono st.r⟩
 · by_cases hp:∃p,bw=some p/\p.1=i
   · obtain⟨p,rfl,rfl⟩:=hp
     obtain⟨l,vs,ds,q1,q2,q3,q4,q5⟩:=Sb.own p.2 (by simp[bwO])
     rw[hσ p rfl]at q2
     obtain⟨_,_,_,g1,_⟩:=S.own p.1 hi
     have zd:p.1<ρ.length:=(List.getElem?_eq_some_iff.mp g1).1
     refine⟨l,vs,ds,?_,q2,q3,q4,q5⟩
     unfold q4p
     dsimp only
     rw[q1]
     exact x5 zd
   · have hne:∀p,bw=some p->p.1≠i:=λp e z=>hp ⟨p,e,z⟩
     obtain⟨l,vs,ds,q1,q2,q3,q4,q5⟩:=S.own i hi
     have nob:∀j,j∈bwO bw->σ4[j]? ≠some (some (.ref l)):=λj hj z=>by
       obtain⟨p,e1,rfl⟩:=only j hj
       rw[hσ p e1]at z
       exact S.dis p.1 i (inO p e1) hi (hne p e1) l z q2
     refine⟨l,vs,ds,by rw[other i hne];exact q1,q2,st.h l _ q3 nob,?_,q5.mono st.r⟩
     cases q:R6 l with
     |none=>rfl
     | some o=>
       rcases st.n l (by rw[q];exact λz=>nomatch z)with z|z
       · exact absurd q4 z
       · exact(q5.noF q3 z).elim
 · rcases st.n a h with z|z
   · exact S.an a z
   · exact .inr (z.back (S.ad a))
end
theorem qdt{K:PySem.W.Frag}{Z:Anc}{O T:List Nat}{σ:St}{H R:Hp}{ρ ρ':Rho}{n:Nat}{js:List Nat}{bw:Option (Nat×Nat)}{g:TG}{tt:TT}{te:TE}{fg:RhG}{ft:RhB}{fe:RhD}{J:It}{ds ys:List D}{Fin:List V->Hp->Prop}
   (hb:bwOk n js O bw=true) (hg:MG K (bwO bw) T g fg) (hT:∀p,bw=some p->p.2∉T) (ht:MT K (bwO bw) tt ft) (he:ME K (bwO bw) te fe) (S:StR K Z O σ H R ρ) (ok:ItOk K J R ds) (e:q0v n js bw fg ft fe ds ρ=some (ys,ρ')) (hz:ds.length<=sizeLine)
   (fin:∀vs H' R',StR K Z O σ H' R' ρ'->Stp O σ H R H' R'->Rps K R' vs ys->vs.length<=sizeLine->Fin vs H'):cGo g tt te (caps n js σ) Fin J H:=by
 refine⟨λi m vs H2=>m=ds.length-i/\i<=ds.length/\vs.length<=i/\∃R2 ρ2 ys1 ys2,StR K Z O σ H2 R2 ρ2/\Stp O σ H R H2 R2/\Rps K R2 vs ys1/\q0v n js bw fg ft fe (ds.drop i) ρ2=some (ys2,ρ')/\ys1++ys2=ys,
   ⟨ds.length,by simp,Nat.zero_le _,Nat.zero_le _,R,ρ,[],ys,S,Stp.refl _ _ _ _,.nil,by rw[List.drop_zero];exact e,rfl⟩,?_⟩
 rintro i m vs H2 ⟨rfl,hi,hv,R2,ρ2,ys1,ys2,S2,st2,r2,e2,ey⟩
 obtain⟨o1,o2⟩:=ok H2 R2 st2.r S2.sub i
 by_cases hlt:i<ds.length
 · obtain⟨g1,g2⟩:=o2 ds[i] (jc hlt)
   rw[xv hlt]at e2
   refine .inr ⟨g1,by omega,λvs' H'=>∃R' ρ2 ys1 ys2,vs'.length<=i+1/\StR K Z O σ H' R' ρ2/\Stp O σ H R H' R'/\Rps K R' vs' ys1/\q0v n js bw fg ft fe (ds.drop (i+1)) ρ2=some (ys2,ρ')/\ys1++ys2=ys,?_,λx H3 y=>?_⟩
   · rintro vs' H' ⟨R',ρ3,zs1,zs2,q0,q1,q2,q3,q4,q5⟩
     exact⟨ds.length-(i+1),by omega,rfl,hlt,q0,R',ρ3,zs1,zs2,q1,q2,q3,q4,q5⟩
   · obtain⟨R3,x3,r3⟩:=g2 x H3 y
     have S3:=S2.ext x3
     have B3:=S3.block hb
     unfold q0v at e2
     cases e3:fg ds[i] (q51 n js ρ2)with
     |none=>rw[e3]at e2;cases e2
     | some ρb1=>
       rw[e3]at e2
       dsimp only at e2
       refine hg _ _ _ _ _ x _ ρb1 _ B3 r3 e3 λσ4 S4 n4=>?_
       have cap:∀p,bw=some p->σ4[p.2]? =σ[p.1]? :=λp e1=>by
         rw[n4 p.2 (hT p e1)]
         subst e1
         unfold bwOk at hb
         simp only[Bool.and_eq_true,decide_eq_true_eq]at hb
         obtain⟨l,_,_,_,q2,_⟩:=S3.own p.1 (by simpa using hb.1.1.1)
         rw[q8i hb.1.1.2 hb.1.2 q2,q2]
       cases e4:ft ρb1 with
       |none=>rw[e4]at e2;cases e2
       | some c=>
         obtain⟨b,ρb2⟩:=c
         rw[e4]at e2
         refine ht _ σ4 H3 R3 ρb1 b ρb2 _ S4 e4 λH5 R5 S5 st5=>?_
         cases b with
         | false=>
           dsimp only at e2
           obtain⟨T1,T2⟩:=S3.back hb S5 st5 cap
           exact iteF ⟨R5,_,ys1,ys2,by omega,T1,(st2.trans x3.stp).trans T2,(r2.mono x3.r).mono st5.r,e2,ey⟩
         | true=>
           dsimp only at e2
           cases e5:fe ρb2 with
           |none=>rw[e5]at e2;cases e2
           | some c=>
             obtain⟨y0,ρb3⟩:=c
             rw[e5]at e2
             dsimp only at e2
             cases e6:q0v n js bw fg ft fe (ds.drop (i+1)) (q4p bw ρ2 ρb3)with
             |none=>rw[e6]at e2;cases e2
             | some c=>
               obtain⟨zs,ρ6⟩:=c
               rw[e6]at e2
               dsimp only at e2
               cases e2
               refine iteT (he _ σ4 H5 R5 ρb2 y0 ρb3 _ S5 e5 λw H6 R6 S6 st6 r6=>?_)
               obtain⟨T1,T2⟩:=S3.back hb S6 (st5.trans st6) cap
               refine⟨R6,_,ys1++[y0],zs,by rw[jd];show vs.length+1<=i+1;omega,T1,(st2.trans x3.stp).trans T2,(((r2.mono x3.r).mono st5.r).mono st6.r).snoc r6,e6,?_⟩
               rw[<-ey,List.append_assoc]
               rfl
 · have ei:i=ds.length:=by omega
   subst ei
   rw[List.drop_length]at e2
   unfold q0v at e2
   cases e2
   rw[List.append_nil]at ey
   subst ey
   exact .inl ⟨o1 rfl,by omega,fin vs H2 R2 S2 st2 r2 (by omega)⟩
def q21(n:Nat)(js:List Nat)(bw:Option (Nat×Nat))(fi:RhL)(fg:RhG)(ft:RhB)(fe:RhD):RhL:=q1s fi λds ρ=>if ds.length<=sizeLine then q0v n js bw fg ft fe ds ρ else none
theorem q2w{K:PySem.W.Frag}{O:List Nat}:MT K O tYes (mRet true):=λZ σ H R ρ b ρ' Q S e k=>by
 cases e
 exact k H R S (Stp.refl _ _ _ _)
theorem q1x{K:PySem.W.Frag}{O T:List Nat}{n:Nat}{js:List Nat}{bw:Option (Nat×Nat)}{wi:TI}{g:TG}{tt:TT}{te:TE}{fi:RhL}{fg:RhG}{ft:RhB}{fe:RhD}
   (hi:MI K O wi fi) (hg:MG K (bwO bw) T g fg) (ht:MT K (bwO bw) tt ft) (he:ME K (bwO bw) te fe) (hb:bwOk n js O bw=true:=by decide) (hT:∀p,bw=some p->p.2∉T:=by decide):MN K O (qh2 n js wi g tt te) (q21 n js bw fi fg ft fe):=λZ σ H R ρ ds ρ' Q S e k=>by
 obtain⟨xs,ρ1,e1,e⟩:=q0c e
 split at e
 · rename_i hz
   refine hi Z σ H R ρ xs ρ1 _ S e1 λJ H1 R1 S1 st1 ok=>?_
   refine qdt hb hg hT ht he S1 ok e hz λvs H2 R2 S2 st2 r2 l2 D nD=>?_
   have x:=Ext.hid (o:=.lst vs) S2.sub nD
   exact k D vs _ _ (S2.ext x) ((st1.trans st2).trans x.stp) ((st1.trans st2).new nD) q0r (S2.out nD) r2
 · cases e
inductive Out where
 |nx (ρ:Rho)
 |rt (d:D) (ρ:Rho)
 |bk (ρ:Rho)
 |ct (ρ:Rho)
abbrev RhO:=Rho->Option Out
structure MC where
 K:PySem.W.Frag
 fr:Bool
 P:List Nat
 Ol:List Nat
def Res(K:PySem.W.Frag)(fr:Bool)(H:Hp)(v:V)(d:D)(H' R':Hp):Prop:=match fr with
 |false=>Rp K R' v d
 |true=>∃l vs ds,v=.ref l/\d=.lst ds/\H l=none/\H' l=some (.lst vs)/\R' l=none/\Rps K R' vs ds
def Ends.ok(c:MC)(Z:Anc)(O':List Nat)(R:Hp)(E:Ends):Out->Prop
 |.nx ρ'=>∀σ' H' R',StR c.K Z O' σ' H' R' ρ'->Same R R'->E.nx σ' H'
 |.bk ρ'=>∀σ' H' R',StR c.K Z c.Ol σ' H' R' ρ'->Same R R'->E.bk σ' H'
 |.ct ρ'=>∀σ' H' R',StR c.K Z c.Ol σ' H' R' ρ'->Same R R'->E.ct σ' H'
 |.rt d ρ'=>∀v σ' H' R',StR c.K Z c.P σ' H' R' ρ'->Res c.K c.fr Z.H0 v d H' R'->E.rt v H'
def MS(c:MC)(O O':List Nat)(t:TS)(f:RhO):Prop:=∀(Z:Anc) (E:Ends) (σ:St) (H R:Hp) (ρ:Rho) (o:Out),Z.P=c.P->StR c.K Z O σ H R ρ->f ρ=some o->E.ok c Z O' R o->t E σ H
def subO(c:MC)(O O':List Nat):Bool:=O'.all (λi=>O.contains i)&&c.P.all λi=>!O.contains i||O'.contains i
section
variable{c:MC}{O O' O1:List Nat}{t u:TS}{te:TE}{tt:TT}{g:TG}{f h:RhO}{fe:RhD}{fn:RhL}{ft:RhB}{fg:RhG}
theorem StR.sub'{Z:Anc}{σ:St}{H R:Hp}{ρ:Rho}(S:StR c.K Z O σ H R ρ)(hP:Z.P=c.P)(hs:subO c O O'=true):StR c.K Z O' σ H (frzR O O' σ H R) ρ/\Same R (frzR O O' σ H R):=by
 unfold subO at hs
 simp only[Bool.and_eq_true,List.all_eq_true]at hs
 refine S.freeze (λi hi=>by simpa using hs.1 i hi) λi hi hO=>?_
 rw[hP]at hi
 have z:=hs.2 i hi
 simp only[Bool.or_eq_true]at z
 rcases z with z|z
 · simp at z;exact absurd hO z
 · simpa using z
def sNil:RhO:=λρ=>some (.nx ρ)
theorem q33(hs:subO c O O'=true):MS c O O' qnm sNil:=λZ E σ H R ρ o hP S e k=>by
 cases e
 obtain⟨S',s⟩:=S.sub' hP hs
 exact k σ H _ S' s
def sSeq(f h:RhO):RhO:=λρ=>match f ρ with
 |none=>none
 |some (.nx ρ1)=>h ρ1
 |some o=>some o
theorem q0i(h1:MS c O O1 t f)(h2:MS c O1 O' u h):MS c O O' (tSeq t u) (sSeq f h):=λZ E σ H R ρ o hP S e k=>by
 unfold sSeq at e
 cases e1:f ρ with
 |none=>rw[e1]at e;cases e
 | some o1=>
   rw[e1]at e
   cases o1 with
   | nx ρ1=>
     refine h1 Z _ σ H R ρ _ hP S e1 λσ' H' R' S' s'=>?_
     refine h2 Z E σ' H' R' ρ1 o hP S' e ?_
     cases o with
     |nx ρ'=>exact λσ2 H2 R2 S2 s2=>k σ2 H2 R2 S2 (s'.trans s2)
     |bk ρ'=>exact λσ2 H2 R2 S2 s2=>k σ2 H2 R2 S2 (s'.trans s2)
     |ct ρ'=>exact λσ2 H2 R2 S2 s2=>k σ2 H2 R2 S2 (s'.trans s2)
     |rt d ρ'=>exact k
   |bk ρ1=>cases e;exact h1 Z _ σ H R ρ _ hP S e1 k
   |ct ρ1=>cases e;exact h1 Z _ σ H R ρ _ hP S e1 k
   |rt d ρ1=>cases e;exact h1 Z _ σ H R ρ _ hP S e1 k
def sSet(i:Nat)(fe:RhD):RhO:=λρ=>match fe ρ with
 |none=>none
 |some (d,ρ1)=>some (.nx (ρ1.set i (some d)))
theorem q12{i:Nat}(he:ME c.K O te fe)(hs:subO c O O'=true:=by rfl)(hi:i∉O':=by decide):MS c O O' (tAsg te (q67 i)) (sSet i fe):=λZ E σ H R ρ o hP S e k=>by
 unfold sSet at e
 cases e1:fe ρ with
 |none=>rw[e1]at e;cases e
 | some p=>
   obtain⟨d,ρ1⟩:=p
   rw[e1]at e
   cases e
   refine he Z σ H R ρ d ρ1 _ S e1 λv H1 R1 S1 st1 r1=>?_
   obtain⟨S2,s2⟩:=S1.sub' hP hs
   exact k _ H1 _ (S2.set hi (r1.mono s2)) (st1.r.trans s2)
def sOwn(i:Nat)(fn:RhL):RhO:=λρ=>match fn ρ with
 |none=>none
 |some (ds,ρ1)=>if i<ρ1.length then some (.nx (ρ1.set i (some (.lst ds))))else none
def ownO(c:MC)(i:Nat)(O O':List Nat):Bool:=subO c O (O'.filter λj=>decide (j≠i))&&O'.contains i&& !c.P.contains i
theorem q4b{i:Nat}(he:MN c.K O te fn)(hs:ownO c i O O'=true):MS c O O' (tAsg te (q67 i)) (sOwn i fn):=λZ E σ H R ρ o hP S e k=>by
 unfold sOwn at e
 unfold ownO at hs
 simp only[Bool.and_eq_true]at hs
 cases e1:fn ρ with
 |none=>rw[e1]at e;cases e
 | some p=>
   obtain⟨ds,ρ1⟩:=p
   rw[e1]at e
   dsimp only at e
   split at e
   · rename_i zd
     cases e
     refine he Z σ H R ρ ds ρ1 _ S e1 λl vs H1 R1 S1 st1 h0 hH hR r1=>?_
     obtain⟨S2,s2⟩:=S1.sub' hP hs.1.1
     have notown:∀j,j∈O->σ[j]? ≠some (some (.ref l)):=S.notnew h0
     have hO':∀j,j∈O'.filter (λj=>decide (j≠i))->j∈O:=λj hj=>by
       have z:=hs.1.1
       unfold subO at z
       simp only[Bool.and_eq_true,List.all_eq_true]at z
       simpa using z.1 j hj
     refine k _ H1 _ (S2.take (i:=i) (l:=l) (vs:=.lst vs) (ds:=.lst ds) (by simp) (by simpa using hs.1.2) (λj hj=>?_) (by rw[hP];simpa using hs.2) zd (S.new0 h0) hH ?_ (λj hj=>notown j (hO' j hj)) (λj hj=>(List.mem_filter.mp hj).1) (.lst (r1.mono s2))) (st1.r.trans s2)
     · by_cases z:j=i
       · exact .inl z
       · exact .inr (List.mem_filter.mpr ⟨hj,by simpa using z⟩)
     · unfold frzR
       rw[if_neg ?_]
       · exact hR
       · rintro⟨j,hj,_,z⟩
         exact notown j hj z
   · cases e
def sAsg(fe:RhD)(fg:RhG):RhO:=λρ=>match fe ρ with
 |none=>none
 | some (d,ρ1)=>match fg d ρ1 with
   |none=>none
   |some ρ2=>some (.nx ρ2)
theorem qqj{T:List Nat}(he:ME c.K O te fe)(hs:subO c O O'=true)(hg:MG c.K O' T g fg):MS c O O' (tAsg te g) (sAsg fe fg):=λZ E σ H R ρ o hP S e k=>by
 unfold sAsg at e
 cases e1:fe ρ with
 |none=>rw[e1]at e;cases e
 | some p=>
   obtain⟨d,ρ1⟩:=p
   rw[e1]at e
   dsimp only at e
   cases e2:fg d ρ1 with
   |none=>rw[e2]at e;cases e
   | some ρ2=>
     rw[e2]at e
     cases e
     refine he Z σ H R ρ d ρ1 _ S e1 λv H1 R1 S1 st1 r1=>?_
     obtain⟨S2,s2⟩:=S1.sub' hP hs
     exact hg Z σ H1 _ ρ1 v d ρ2 _ S2 (r1.mono s2) e2 λσ' S3 _=>k σ' H1 _ S3 (st1.r.trans s2)
def sIf(ft:RhB)(f h:RhO):RhO:=λρ=>match ft ρ with
 |none=>none
 |some (b,ρ1)=>if b=true then f ρ1 else h ρ1
theorem q4c(ht:MT c.K O tt ft)(h1:MS c O O' t f)(h2:MS c O O' u h):MS c O O' (tIfS tt t u) (sIf ft f h):=λZ E σ H R ρ o hP S e k=>by
 unfold sIf at e
 cases e1:ft ρ with
 |none=>rw[e1]at e;cases e
 | some p=>
   obtain⟨b,ρ1⟩:=p
   rw[e1]at e
   dsimp only at e
   refine ht Z σ H R ρ b ρ1 _ S e1 λH1 R1 S1 st1=>?_
   have k':E.ok c Z O' R1 o:=by
     cases o with
     |nx ρ'=>exact λσ2 H2 R2 S2 s2=>k σ2 H2 R2 S2 (st1.r.trans s2)
     |bk ρ'=>exact λσ2 H2 R2 S2 s2=>k σ2 H2 R2 S2 (st1.r.trans s2)
     |ct ρ'=>exact λσ2 H2 R2 S2 s2=>k σ2 H2 R2 S2 (st1.r.trans s2)
     |rt d ρ'=>exact k
   cases b with
   |true=>exact iteT (h1 Z E σ H1 R1 ρ1 o hP S1 e k')
   |false=>exact iteF (h2 Z E σ H1 R1 ρ1 o hP S1 e k')
def sRet(fe:RhD):RhO:=λρ=>match fe ρ with
 |none=>none
 |some (d,ρ1)=>some (.rt d ρ1)
theorem q1b(hf:c.fr=false)(he:ME c.K O te fe)(hs:subO c O c.P=true):MS c O O' (tRet te) (sRet fe):=λZ E σ H R ρ o hP S e k=>by
 unfold sRet at e
 cases e1:fe ρ with
 |none=>rw[e1]at e;cases e
 | some p=>
   obtain⟨d,ρ1⟩:=p
   rw[e1]at e
   cases e
   refine he Z σ H R ρ d ρ1 _ S e1 λv H1 R1 S1 st1 r1=>?_
   obtain⟨S2,s2⟩:=S1.sub' hP hs
   refine k v σ H1 _ S2 ?_
   unfold Res
   rw[hf]
   exact r1.mono s2
def q7e(fn:RhL):RhO:=λρ=>match fn ρ with
 |none=>none
 |some (ds,ρ1)=>some (.rt (.lst ds) ρ1)
theorem q6u(hf:c.fr=true)(he:MN c.K O te fn)(hs:subO c O c.P=true):MS c O O' (tRet te) (q7e fn):=λZ E σ H R ρ o hP S e k=>by
 unfold q7e at e
 cases e1:fn ρ with
 |none=>rw[e1]at e;cases e
 | some p=>
   obtain⟨ds,ρ1⟩:=p
   rw[e1]at e
   cases e
   refine he Z σ H R ρ ds ρ1 _ S e1 λl vs H1 R1 S1 st1 h0 hH hR r1=>?_
   obtain⟨S2,s2⟩:=S1.sub' hP hs
   refine k _ σ H1 _ S2 ?_
   unfold Res
   rw[hf]
   refine⟨l,vs,ds,rfl,rfl,S.new0 h0,hH,?_,r1.mono s2⟩
   unfold frzR
   rw[if_neg ?_]
   · exact hR
   · rintro⟨j,hj,_,z⟩
     exact S.notnew h0 j hj z
theorem StR.drop{K:PySem.W.Frag}{Z:Anc}{σ:St}{H R:Hp}{ρ:Rho}{i:Nat}(S:StR K Z O σ H R ρ)(hO:∀j,j∈O'->j∈O/\j≠i)(hc:∀j,j∈O->j≠i->j∈O'):StR K Z O' σ H R (ρ.set i none):=by
 refine⟨S.sub,by rw[xm];exact S.len,λj d hj e=>?_,λj hj=>?_,λj k hj hk=>S.dis j k (hO j hj).1 (hO k hk).1,S.ah,S.ar,S.an,S.ad,λj hj=>S.ao j (hO j hj).1,λj hj=>S.ap j (hO j hj).1⟩
 · by_cases z:i=j
   · subst z
     have hl:i<ρ.length:=by
       have:=(List.getElem?_eq_some_iff.mp e).1
       rwa [xm]at this
     rw[x5 hl]at e
     cases e
   · rw[jj z]at e
     exact S.env j d (λq=>hj (hc j q (Ne.symm z))) e
 · obtain⟨l,vs,ds,h1,h2⟩:=S.own j (hO j hj).1
   exact⟨l,vs,ds,by rw[jj (Ne.symm (hO j hj).2)];exact h1,h2⟩
def q55(i:Nat):RhO:=λρ=>match ρ[i]? with
 |some (some (.lst xs))=>some (.rt (.lst xs) (ρ.set i none))
 |_=>none
theorem q4w{i:Nat}(hf:c.fr=true)(hi:i∈O)(hs:subO c O (i::c.P)=true)(hp:i∉c.P):MS c O O' (tRet (tVar i)) (q55 i):=λZ E σ H R ρ o hP S e k=>by
 obtain⟨S2,s2⟩:=S.sub' hP hs
 obtain⟨l,vs,ds,h1,h2,h3,h4,h5⟩:=S2.own i jf
 unfold q55 at e
 rw[h1]at e
 have hd:∃xs,ds=.lst xs:=by
   cases h5 with
   |lst _=>exact⟨_,rfl⟩
   |_=>cases e
 obtain⟨xs,rfl⟩:=hd
 cases e
 refine⟨.ref l,h2,k _ σ H _ (S2.drop (i:=i) (O':=c.P) (λj hj=>⟨jg _ hj,λz=>hp (z▸hj)⟩) λj hj n=>?_) ?_⟩
 · rcases List.mem_cons.mp hj with z|z
   · exact absurd z n
   · exact z
 · unfold Res
   rw[hf]
   cases h5 with
   |lst h5=>exact⟨l,_,_,rfl,rfl,S2.ao i jf (by rw[hP];exact hp) l h2,h3,h4,h5⟩
theorem qbp{O O':List Nat}:MS c O O' qjl (λ_=>none):=λZ E σ H R ρ o hP S e k=>by cases e
def q2l(fg:RhG)(fb:RhO):List D->RhO
 |[],ρ=>some (.nx ρ)
 | d::r,ρ=>match fg d ρ with
   |none=>none
   | some ρ1=>match fb ρ1 with
     |none=>none
     |some (.nx ρ2)=>q2l fg fb r ρ2
     |some (.ct ρ2)=>q2l fg fb r ρ2
     |some (.bk ρ2)=>some (.nx ρ2)
     |some (.rt d ρ2)=>some (.rt d ρ2)
def sFor(fi:RhL)(fg:RhG)(fb:RhO):RhO:=λρ=>match fi ρ with
 |none=>none
 |some (ds,ρ1)=>q2l fg fb ds ρ1
theorem q3j{T:List Nat}{wi:TI}{fi:RhL}{tb:TS}{fb:RhO}(hi:MI c.K O wi fi)(hs:subO c O O'=true)(hg:MG c.K O' T g fg)(hb:MS {c with Ol:=O'} O' O' tb fb):MS c O O' (tFor wi g tb) (sFor fi fg fb):=λZ E σ H R ρ o hP S e k=>by
 unfold sFor at e
 cases e1:fi ρ with
 |none=>rw[e1]at e;cases e
 | some p=>
   obtain⟨ds,ρ1⟩:=p
   rw[e1]at e
   dsimp only at e
   refine hi Z σ H R ρ ds ρ1 _ S e1 λJ H1 R1 S1 st1 ok=>?_
   obtain⟨S2,s2⟩:=S1.sub' hP hs
   have ok2:=ok.mono s2
   refine⟨λi m σ' H'=>m=ds.length-i/\i<=ds.length/\∃R' ρ',StR c.K Z O' σ' H' R' ρ'/\Same (frzR O O' σ H1 R1) R'/\q2l fg fb (ds.drop i) ρ'=some o,⟨ds.length,by simp,Nat.zero_le _,_,ρ1,S2,Same.refl _,by rw[List.drop_zero];exact e⟩,?_⟩
   rintro i m σ' H' ⟨rfl,hi',R',ρ',S',s',e'⟩
   obtain⟨o1,o2⟩:=ok2 H' R' s' S'.sub i
   by_cases hlt:i<ds.length
   · obtain⟨g1,g2⟩:=o2 ds[i] (jc hlt)
     rw[xv hlt]at e'
     refine .inr ⟨g1,λσ3 H3=>∃R3 ρ3,StR c.K Z O' σ3 H3 R3 ρ3/\Same (frzR O O' σ H1 R1) R3/\q2l fg fb (ds.drop (i+1)) ρ3=some o,?_,λx H3 y=>?_⟩
     · rintro σ3 H3 ⟨R3,ρ3,q1,q2,q3⟩
       exact⟨ds.length-(i+1),by omega,rfl,hlt,R3,ρ3,q1,q2,q3⟩
     · obtain⟨R3,x3,r3⟩:=g2 x H3 y
       have S3:=S'.ext x3
       unfold q2l at e'
       cases e3:fg ds[i] ρ' with
       |none=>rw[e3]at e';cases e'
       | some ρ4=>
         rw[e3]at e'
         dsimp only at e'
         refine hg Z σ' H3 R3 ρ' x _ ρ4 _ S3 r3 e3 λσ4 S4 _=>?_
         cases e4:fb ρ4 with
         |none=>rw[e4]at e';cases e'
         | some o4=>
           rw[e4]at e'
           refine hb Z _ σ4 H3 R3 ρ4 o4 hP S4 e4 ?_
           cases o4 with
           |nx ρ5=>exact λσ5 H5 R5 S5 s5=>⟨R5,ρ5,S5,(s'.trans x3.r).trans s5,e'⟩
           |ct ρ5=>exact λσ5 H5 R5 S5 s5=>⟨R5,ρ5,S5,(s'.trans x3.r).trans s5,e'⟩
           | bk ρ5=>
             cases e'
             exact λσ5 H5 R5 S5 s5=>k σ5 H5 R5 S5 (((st1.r.trans s2).trans s').trans (x3.r.trans s5))
           | rt d ρ5=>
             cases e'
             exact k
   · have ei:i=ds.length:=by omega
     subst ei
     rw[List.drop_length]at e'
     unfold q2l at e'
     cases e'
     exact .inl ⟨o1 rfl,k σ' H' R' S' ((st1.r.trans s2).trans s')⟩
def q2v(ft:RhB)(fb:RhO):Nat->RhO
 |0,_=>none
 | n+1,ρ=>match ft ρ with
   |none=>none
   |some (false,ρ1)=>some (.nx ρ1)
   | some (true,ρ1)=>match fb ρ1 with
     |none=>none
     |some (.nx ρ2)=>q2v ft fb n ρ2
     |some (.ct ρ2)=>q2v ft fb n ρ2
     |some (.bk ρ2)=>some (.nx ρ2)
     |some (.rt d ρ2)=>some (.rt d ρ2)
theorem qhx{n:Nat}{tb:TS}{fb:RhO}(ht:MT c.K O' tt ft)(hs:subO c O O'=true)(hb:MS {c with Ol:=O'} O' O' tb fb):MS c O O' (qjk tt tb) (q2v ft fb n):=λZ E σ H R ρ o hP S e k=>by
 obtain⟨S2,s2⟩:=S.sub' hP hs
 refine⟨λm σ' H'=>∃R' ρ',StR c.K Z O' σ' H' R' ρ'/\Same (frzR O O' σ H R) R'/\q2v ft fb m ρ'=some o,⟨n,_,ρ,S2,Same.refl _,e⟩,?_⟩
 rintro m σ' H' ⟨R',ρ',S',s',e'⟩
 cases m with
 |zero=>cases e'
 | succ m=>
   unfold q2v at e'
   cases e1:ft ρ' with
   |none=>rw[e1]at e';cases e'
   | some p=>
     obtain⟨b,ρ1⟩:=p
     rw[e1]at e'
     refine ht Z σ' H' R' ρ' b ρ1 _ S' e1 λH1 R1 S1 st1=>?_
     cases b with
     | false=>
       dsimp only at e'
       cases e'
       exact iteF (k σ' H1 R1 S1 ((s2.trans s').trans st1.r))
     | true=>
       dsimp only at e'
       refine iteT ⟨λσ3 H3=>∃R3 ρ3,StR c.K Z O' σ3 H3 R3 ρ3/\Same (frzR O O' σ H R) R3/\q2v ft fb m ρ3=some o,λσ3 H3 q=>⟨m,Nat.lt_succ_self _,q⟩,?_⟩
       cases e4:fb ρ1 with
       |none=>rw[e4]at e';cases e'
       | some o4=>
         rw[e4]at e'
         refine hb Z _ σ' H1 R1 ρ1 o4 hP S1 e4 ?_
         cases o4 with
         |nx ρ5=>exact λσ5 H5 R5 S5 s5=>⟨R5,ρ5,S5,(s'.trans st1.r).trans s5,e'⟩
         |ct ρ5=>exact λσ5 H5 R5 S5 s5=>⟨R5,ρ5,S5,(s'.trans st1.r).trans s5,e'⟩
         | bk ρ5=>
           cases e'
           exact λσ5 H5 R5 S5 s5=>k σ5 H5 R5 S5 ((s2.trans s').trans (st1.r.trans s5))
         | rt d ρ5=>
           cases e'
           exact k
end
section
variable{c:MC}{O O':List Nat}{te ti:TE}{fe fi:RhD}{tr:TA}{fs:RhL}
def isL(ρ:Rho)(i:Nat):Bool:=match ρ[i]? with
 |some (some (.lst _))=>true
 |_=>false
theorem qft{K:PySem.W.Frag}{R:Hp}{ρ:Rho}{i:Nat}{o:HO}{d:D}(h:isL ρ i=true)(e:ρ[i]? =some (some d))(b:Ob K R o d):∃vs ds,o=.lst vs/\d=.lst ds/\Rps K R vs ds:=by
 unfold isL at h
 rw[e]at h
 cases b with
 |lst r=>exact⟨_,_,rfl,rfl,r⟩
 |_=>cases h
def sMut(g:List D->List D->Option (List D))(i:Nat)(fs:RhL):RhO:=λρ=>if isL ρ i=true then(match fs ρ with
 |none=>none
 | some (as,ρ1)=>match ρ1[i]? with
   | some (some (.lst xs))=>match g xs as with
     |some ys=>some (.nx (ρ1.set i (some (.lst ys))))
     |none=>none
   |_=>none)else none
def qrz(K:PySem.W.Frag)(r:V->List V->Hp->VK->Prop)(g:List D->List D->Option (List D)):Prop:=∀(H R:Hp) (l:Addr) (xs:List V) (ds:List D) (vs:List V) (as bs:List D) (Q:VK),(∀a o,R a=some o->H a=some o)->H l=some (.lst xs)->R l=none->Rps K R xs ds->Rps K R vs as->g ds as=some bs->(∀ys,Rps K R ys bs->Q .non (upd H l (.lst ys)))->r (.ref l) vs H Q
theorem q6v{r:V->List V->Hp->VK->Prop}{g:List D->List D->Option (List D)}{i:Nat}(hm:qrz c.K r g)(hi:i∈O)(ha:MA c.K O tr fs)(hs:subO c O O'=true):MS c O O' (qcc (tBM c.K "list" r (tVar i) tr)) (sMut g i fs):=λZ E σ H R ρ o hP S e k=>by
 unfold sMut at e
 split at e
 case isFalse=>cases e
 rename_i hL
 cases e1:fs ρ with
 |none=>rw[e1]at e;cases e
 | some p=>
   obtain⟨as,ρ1⟩:=p
   rw[e1]at e
   dsimp only at e
   obtain⟨l,vs,ds,h1,h2,h3,h4,h5⟩:=S.own i hi
   obtain⟨us,_,rfl,rfl,_⟩:=qft hL h1 h5
   refine⟨.ref l,h2,.inl ⟨rfl,us,SqL.of h3⟩,ha Z σ H R ρ as ρ1 _ S e1 λws H1 R1 S1 st1 r1=>?_⟩
   obtain⟨l',vs',ds',g1,g2,g3,g4,g5⟩:=S1.own i hi
   rw[h2]at g2
   cases g2
   rw[g1]at e
   cases g5 with
   |dct _=>cases e
   |dit _=>cases e
   |lst g5=>
   rename_i vs' ds'
   dsimp only at e
   cases e2:g ds' as with
   |none=>rw[e2]at e;cases e
   | some ys=>
     rw[e2]at e
     cases e
     refine hm H1 R1 l vs' ds' ws as ys _ S1.sub g3 g4 g5 r1 e2 λzs rz=>?_
     obtain⟨S2,s2⟩:=(S1.write hi h2 (.lst rz)).sub' hP hs
     exact k σ _ _ S2 (st1.r.trans s2)
def q1n:List D->List D->Option (List D):=λxs as=>match as with
 |[d]=>if xs.length<sizeLine then some (xs++[d])else none
 |_=>none
theorem q3c{K:PySem.W.Frag}:qrz K qa8 q1n:=λH R l xs ds vs as bs Q s h hr r ra e k=>by
 cases ra with
 |nil=>cases e
 | cons q t=>
   cases t with
   |cons _ _=>cases e
   | nil=>
     rename_i x d
     have e':(if ds.length<sizeLine then some (ds++[d])else none)=some bs:=e
     split at e'
     · rename_i hz
       cases e'
       exact⟨l,xs,x,rfl,rfl,h,by rw[r.length];exact hz,k _ (r.snoc q)⟩
     · cases e'
end
def runP(fr:Bool)(n N:Nat)(f:RhO)(ds:List D):Option D:=if ds.length=n then match f (ds.map some++List.replicate (N-n) none)with
   |some (.rt d _)=>some d
   |some (.nx _)=>if fr=true then none else some .non
   |_=>none
 else none
def spP(K:PySem.W.Frag)(fr:Bool)(n:Nat)(f:List D->Option D):Sp:=λvs H Q _=>vs.length=n/\∃R ds d,(∀a o,R a=some o->H a=some o)/\Rps K R vs ds/\f ds=some d/\∀v H' R',Ext H R H' R'->Res K fr H v d H' R'->Q v H'
theorem q8q{N:List Str}{vs:List V}{i:Nat}{v:V}(h:vs[i]? =some v):(start N vs)[i]? =some (some v):=by
 unfold start
 have hi:i<vs.length:=(List.getElem?_eq_some_iff.mp h).1
 rw[xy (by simpa using hi),jb,h]
 rfl
theorem q8r{ds:List D}{m i:Nat}{d:D}(h:(ds.map some++List.replicate m none)[i]? =some (some d)):ds[i]? =some d:=by
 by_cases hi:i<ds.length
 · rw[xy (by simpa using hi),jb]at h
   cases q:ds[i]? with
   |none=>rw[q]at h;cases h
   |some e=>rw[q]at h;cases h;rfl
 · rw[xk (by simpa using hi),xx]at h
   split at h<;>cases h
theorem q0j{K:PySem.W.Frag}{fr:Bool}{n:Nat}{Nms:List Str}{O':List Nat}{t:TS}{f:RhO}{vs:List V}{H:Hp}{Q:VK}{E:XK}(hm:MS ⟨K,fr,[],[]⟩ [] O' t f)(h:spP K fr n (runP fr n Nms.length f) vs H Q E):t {nx:=λ_ H'=>Q .non H',rt:=Q} (start Nms vs) H:=by
 obtain⟨hn,R,ds,d,sub,r,e,k⟩:=h
 unfold runP at e
 split at e
 · rename_i hl
   have S:StR K ⟨H,R,λ_=>False,[]⟩ [] (start Nms vs) H R (ds.map some++List.replicate (Nms.length-n) none):=by
     refine⟨sub,?_,λi d _ q=>?_,λi hi=>absurd hi (by simp),λi j hi=>absurd hi (by simp),λa o q _=>q,Same.refl _,λa q=>.inl q,λa q=>.refl q,λi hi=>absurd hi (by simp),λi hi=>absurd hi (by simp)⟩
     · unfold start
       rw[jd,jd,j6,j6,ji,ji,hn,hl]
     · obtain⟨v,h1,h2⟩:=r.get (q8r q)
       exact⟨v,q8q h1,h2⟩
   have ext:∀{O1:List Nat} {σ':St} {H' R':Hp} {ρ':Rho},StR K ⟨H,R,λ_=>False,[]⟩ O1 σ' H' R' ρ'->Ext H R H' R':=λS'=>⟨λa o q=>S'.ah a o q (λz=>z),S'.ar,S'.sub,S'.an⟩
   cases e1:f (ds.map some++List.replicate (Nms.length-n) none)with
   |none=>rw[e1]at e;cases e
   | some o=>
     rw[e1]at e
     refine hm _ _ _ _ _ _ o rfl S e1 ?_
     cases o with
     | nx ρ'=>
       dsimp only at e
       split at e
       · cases e
       · rename_i hf
         cases e
         refine λσ' H' R' S' _=>k .non H' R' (ext S') ?_
         cases fr with
         |false=>exact .non
         |true=>exact absurd rfl hf
     |bk ρ'=>cases e
     |ct ρ'=>cases e
     | rt d' ρ'=>
       cases e
       exact λv σ' H' R' S' q=>k v H' R' (ext S') q
 · cases e
structure ExtS(l:Addr)(H R H' R':Hp):Prop where
 h:∀a o,a≠l->H a=some o->H' a=some o
 r:Same R R'
 s:∀a o,R' a=some o->H' a=some o
 n:∀a,R' a≠none->R a≠none∨Frh H a
 d:∀a,H a≠none->Liv H H' a
section
variable{K:PySem.W.Frag}{O:List Nat}{tr:TA}{fs:RhL}{E:XK}{n:Nat}
def q0k(f:List D->Option D)(fs:RhL):RhD:=q1s fs λds=>q2q (f ds)
def q1j(n:Nat)(f:List D->Option D):Prop:=∀ds d,f ds=some d->ds.length=n
theorem q16{fr:Bool}{n N:Nat}{f:RhO}:q1j n (runP fr n N f):=λds d e=>by
 unfold runP at e
 split at e
 · assumption
 · cases e
theorem q0h{f:List D->Option D}(hf:q1j n f)(h:MA K O tr fs):ME K O (qkr (spP K false n f) [] E tr) (q0k f fs):=λZ σ H R ρ d ρ' Q S e k=>by
 obtain⟨ds,ρ1,e1,e⟩:=q0c e
 obtain⟨e2,rfl⟩:=q0m e
 refine h Z σ H R ρ ds _ _ S e1 λvs H1 R1 S1 st1 r1=>?_
 show spP K false n f (vs++[]) H1 Q E
 rw[List.append_nil]
 exact⟨by rw[r1.length];exact hf ds d e2,R1,ds,d,S1.sub,r1,e2,λv H2 R2 x q=>k v H2 R2 (S1.ext x) (st1.trans x.stp) q⟩
def qfo(o:Option D):Option (List D):=match o with
 |some (.lst ds)=>some ds
 |_=>none
def q1i(f:List D->Option D)(fs:RhL):RhL:=q1s fs λds=>q2q (qfo (f ds))
theorem qdj{o:Option D}{ds:List D}(h:qfo o=some ds):o=some (.lst ds):=by
 unfold qfo at h
 split at h
 · cases h;rfl
 · (first|obtain rfl:=h.isA rfl|cases h)
theorem q1m{f:List D->Option D}(hf:q1j n f)(h:MA K O tr fs):MN K O (qkr (spP K true n f) [] E tr) (q1i f fs):=λZ σ H R ρ d ρ' Q S e k=>by
 obtain⟨ds,ρ1,e1,e⟩:=q0c e
 obtain⟨e2,rfl⟩:=q0m e
 have e3:=qdj e2
 refine h Z σ H R ρ ds _ _ S e1 λvs H1 R1 S1 st1 r1=>?_
 show spP K true n f (vs++[]) H1 Q E
 rw[List.append_nil]
 refine⟨by rw[r1.length];exact hf ds _ e3,R1,ds,_,S1.sub,r1,e3,λv H2 R2 x q=>?_⟩
 obtain⟨l,us,gs,rfl,e4,h0,hH,hR,r⟩:=q
 cases e4
 exact k l us H2 R2 (S1.ext x) (st1.trans x.stp) (st1.new h0) hH hR r
end
def qoo(K:PySem.W.Frag):R2:=λx y H Q=>∃l b xs zs,x=.ref l/\y=.ref b/\SqL K H l xs/\SqL K H b zs/\xs.length+zs.length<=sizeLine/\∀p,H p=none->Q (.ref p) (upd H p (.lst (xs++zs)))
def qon(K:PySem.W.Frag):R2:=λx y H Q=>∃a b xs ys,x=.ref a/\y=.ref b/\SqT K H a xs/\SqT K H b ys/\xs.length+ys.length<=sizeLine/\
 (xs=[]->Q (.ref b) H)/\(xs≠[]->ys=[]->Q (.ref a) H)/\(xs≠[]->ys≠[]->∀p,H p=none->Q (.ref p) (upd H p (.tup (xs++ys))))
section
variable{X:Cx}{K:PySem.W.Frag}
theorem qlh(hK:X.K=K):OpR X (binaryOp .Add) (qoo K):=by
 subst hK
 intro z5 s σ H x y v u Q I rx ry h
 obtain⟨l,b,xs,zs,rfl,rfl,hH,hB,hz,q⟩:=h
 (first|obtain rfl:=rx.isA rfl|cases rx)
 (first|obtain rfl:=ry.isA rfl|cases ry)
 obtain⟨its,r,pl,z⟩:=I.list hH
 obtain⟨its2,r2,pl2,z2⟩:=I.list hB
 obtain⟨⟨cls,dd,data,sl⟩,ho,hc,n,hd⟩:=pl.isList
 obtain⟨⟨cls2,dd2,data2,sl2⟩,ho2,hc2,n2,hd2⟩:=pl2.isList
 simp only at hc hd hc2 hd2
 subst hc hd hc2 hd2
 have e:its.toArray++its2.toArray=(its++its2).toArray:=by simp
 refine concat_meets ⟨_,ho,rfl⟩ ⟨_,ho2,rfl⟩ noFill_list_add seq_list_add PySem.F.slot_list_add PySem.F.entry_list_add (PySem.F.args_list_add_2 _ _) (list_addW l b its.toArray its2.toArray n n2 dd dd2 sl sl2 (by rw[jv,jv,<-r.length,<-r2.length];exact hz)) ⟨ho,ho2,?_⟩
 rw[e]
 exact⟨.ref _,_,I.lnew (t':=s.toks) (r.append r2) (by rw[jd];omega),rfl,q _ I.fresh⟩
theorem qlg(hK:X.K=K):OpR X (binaryOp .Add) (qon K):=by
 subst hK
 intro z5 s σ H x y v u Q I rx ry h
 obtain⟨a,b,xs,ys,rfl,rfl,ha,hb,hz,q0,q1,q2⟩:=h
 (first|obtain rfl:=rx.isA rfl|cases rx)
 (first|obtain rfl:=ry.isA rfl|cases ry)
 obtain⟨its,r1,p1,_⟩:=I.tuple ha
 obtain⟨its2,r2,p2,_⟩:=I.tuple hb
 obtain⟨⟨cls,dd,data,sl⟩,ho,hc,n,hd⟩:=id p1
 obtain⟨⟨cls2,dd2,data2,sl2⟩,ho2,hc2,n2,hd2⟩:=id p2
 simp only at hc hd hc2 hd2
 subst hc hd hc2 hd2
 have e:its.toArray++its2.toArray=(its++its2).toArray:=by simp
 by_cases hv:its=[]
 · exact concat_meets ⟨_,ho,rfl⟩ ⟨_,ho2,rfl⟩ noFill_tuple_add seq_tuple_add PySem.F.slot_tuple_add PySem.F.entry_tuple_add (PySem.F.args_tuple_add_2 _ _)
     (tuple_addW0 a b its.toArray its2.toArray n n2 dd dd2 sl sl2 (by simp[hv])) ⟨ho,ho2,⟨.ref b,H,I,rfl,q0 (r1.nil_iff.mp hv)⟩⟩
 · have hx:xs≠[]:=λz=>hv (r1.nil_iff.mpr z)
   by_cases hw:its2=[]
   · exact concat_meets ⟨_,ho,rfl⟩ ⟨_,ho2,rfl⟩ noFill_tuple_add seq_tuple_add PySem.F.slot_tuple_add PySem.F.entry_tuple_add (PySem.F.args_tuple_add_2 _ _)
       (tuple_addW1 a b its.toArray its2.toArray n n2 dd dd2 sl sl2 (by simpa using hv) (by simp[hw])) ⟨ho,ho2,⟨.ref a,H,I,rfl,q1 hx (r2.nil_iff.mp hw)⟩⟩
   · refine concat_meets ⟨_,ho,rfl⟩ ⟨_,ho2,rfl⟩ noFill_tuple_add seq_tuple_add PySem.F.slot_tuple_add PySem.F.entry_tuple_add (PySem.F.args_tuple_add_2 _ _)
       (tuple_addW2 a b its.toArray its2.toArray n n2 dd dd2 sl sl2 (by simpa using hv) (by simpa using hw) (by rw[List.size_toArray,List.size_toArray,<-r1.length,<-r2.length];exact hz)) ⟨ho,ho2,?_⟩
     rw[e]
     refine⟨.ref s.heap.objs.size,_,I.laid (t':=s.toks) (o:=.tup (xs++ys)) (λb ob q=>j9 _ q) (ja _) ?_,rfl,q2 hx (λw=>hw (r2.nil_iff.mpr w)) _ (I.hok.fresh (ja _))⟩
     exact⟨by rw[jd];exact hz,_,r1.append r2,TupN.new _ _⟩
def qkx(K:PySem.W.Frag):R2:=λx y H Q=>rI0 (λi j=>.int (i+j)) x y H Q∨qoo K x y H Q∨qon K x y H Q∨∃i j,x=.str i/\y=.str j/\i.length+j.length<=sizeLine/\Q (.str (i++j)) H
theorem q20(hK:X.K=K):OpR X (binaryOp .Add) (qkx K):=op_add.or ((qlh hK).or ((qlg hK).or qda))
end
section
variable{K:PySem.W.Frag}{O:List Nat}
def dAdd:D->D->Option D
 |.int i,.int j=>some (.int (i+j))
 |.lst xs,.lst ys=>if xs.length+ys.length<=sizeLine then some (.lst (xs++ys))else none
 |.tup xs,.tup ys=>if xs.length+ys.length<=sizeLine then some (.tup (xs++ys))else none
 |.str x,.str y=>if x.length+y.length<=sizeLine then some (.str (x++y))else none
 |_,_=>none
theorem q2s:OpG K (qkx K) dAdd:=λH R x y d e u Q s rx ry q k=>by
 unfold dAdd at q
 split at q
 · rename_i i j
   (first|obtain rfl:=q.isA rfl|cases q)
   (first|obtain rfl:=rx.isA rfl|cases rx)
   (first|obtain rfl:=ry.isA rfl|cases ry)
   exact .inl ⟨i,j,rfl,rfl,k _ H R (Ext.refl s) (.int _)⟩
 · split at q
   · rename_i hz
     (first|obtain rfl:=q.isA rfl|cases q)
     obtain⟨a1,xs,rfl,h,r⟩:=rx.isL
     obtain⟨a2,ys,rfl,h2,r2⟩:=ry.isL
     refine .inr (.inl ⟨_,_,_,_,rfl,rfl,Same.sqL s h,Same.sqL s h2,by rw[r.length,r2.length];exact hz,λp np=>?_⟩)
     have x:=Ext.new (o:=.lst (xs++ys)) s np
     exact k _ _ _ x (.lst (SqL.of q0r) ((r.append r2).mono x.r))
   · (first|obtain rfl:=q.isA rfl|cases q)
 · split at q
   · rename_i hz
     (first|obtain rfl:=q.isA rfl|cases q)
     obtain⟨a1,xs,rfl,h,r⟩:=rx.isT
     obtain⟨a2,ys,rfl,h2,r2⟩:=ry.isT
     refine .inr (.inr (.inl ⟨_,_,_,_,rfl,rfl,SqT.of (s _ _ h),SqT.of (s _ _ h2),by rw[r.length,r2.length];exact hz,λz=>?_,λ_ z=>?_,λ_ _ p np=>?_⟩))
     · subst z
       (first|obtain rfl:=r.isA rfl|cases r)
       exact k _ H R (Ext.refl s) (.tup h2 r2)
     · subst z
       (first|obtain rfl:=r2.isA rfl|cases r2)
       rw[List.append_nil]at k
       exact k _ H R (Ext.refl s) (.tup h r)
     · have x:=Ext.new (o:=.tup (xs++ys)) s np
       exact k _ _ _ x (.tup q0r ((r.append r2).mono x.r))
   · (first|obtain rfl:=q.isA rfl|cases q)
 · rename_i i j
   split at q
   · rename_i hz
     (first|obtain rfl:=q.isA rfl|cases q)
     (first|obtain rfl:=rx.isA rfl|cases rx)
     (first|obtain rfl:=ry.isA rfl|cases ry)
     exact .inr (.inr (.inr ⟨i,j,rfl,rfl,hz,k _ H R (Ext.refl s) (.str _)⟩))
   · (first|obtain rfl:=q.isA rfl|cases q)
 · (first|obtain rfl:=q.isA rfl|cases q)
def OpN(K:PySem.W.Frag)(r:R2)(g:D->D->Option (List D)):Prop:=∀(H R:Hp) (x y:V) (d e:D) (us:List D) (Q:VK),(∀a o,R a=some o->H a=some o)->Rp K R x d->Rp K R y e->g d e=some us->(∀l vs,H l=none->Rps K R vs us->Q (.ref l) (upd H l (.lst vs)))->r x y H Q
def qfl(g:D->D->Option (List D))(fa fb:RhD):RhL:=q1s fa λx=>q1s fb λy=>q2q (g x y)
theorem qqk{ta tb:TE}{r:R2}{g:D->D->Option (List D)}{fa fb:RhD}(h:OpN K r g)(ha:ME K O ta fa)(hb:ME K O tb fb):MN K O (tOp r ta tb) (qfl g fa fb):=λZ σ H R ρ d ρ' Q S e k=>by
 obtain⟨x,ρ1,e1,e⟩:=q0c e
 obtain⟨y,ρ2,e2,e⟩:=q0c e
 obtain⟨e3,rfl⟩:=q0m e
 refine ha Z σ H R ρ x ρ1 _ S e1 λv H1 R1 S1 st1 r1=>hb Z σ H1 R1 ρ1 y _ _ S1 e2 λw H2 R2 S2 st2 r2=>?_
 refine h H2 R2 v w x y d Q S2.sub (r1.mono st2.r) r2 e3 λl vs hl rv=>?_
 have x:=Ext.hid (o:=.lst vs) S2.sub hl
 exact k l vs _ _ (S2.ext x) ((st1.trans st2).trans x.stp) ((st1.trans st2).new hl) q0r (S2.out hl) rv
def qg6:D->D->Option (List D)
 |.lst xs,.lst ys=>if xs.length+ys.length<=sizeLine then some (xs++ys)else none
 |_,_=>none
theorem qjx:OpN K (qkx K) qg6:=λH R x y d e u Q s rx ry q k=>by
 unfold qg6 at q
 split at q
 · split at q
   · rename_i hz
     (first|obtain rfl:=q.isA rfl|cases q)
     obtain⟨_,_,rfl,h,r⟩:=rx.isL
     obtain⟨_,_,rfl,h2,r2⟩:=ry.isL
     exact .inr (.inl ⟨_,_,_,_,rfl,rfl,Same.sqL s h,Same.sqL s h2,by rw[r.length,r2.length];exact hz,λp np=>k p _ np (r.append r2)⟩)
   · (first|obtain rfl:=q.isA rfl|cases q)
 · (first|obtain rfl:=q.isA rfl|cases q)
end
mutual
def D.toP:D->Option PyData
 |.non=>some .none
 |.bl b=>some (.bool b)
 |.int i=>some (.int i)
 |.str x=>some (.str x)
 |.lst xs=>(D.toPs xs).map PyData.list
 |.tup xs=>(D.toPs xs).map PyData.tuple
 |.obj _ _=>none
 |.dct _=>none
 |.exc _=>none
 |.fn _=>none
 |.dit _=>none
def D.toPs:List D->Option (List PyData)
 |[]=>some []
 | d::r=>match D.toP d,D.toPs r with
   |some p,some ps=>some (p::ps)
   |_,_=>none
end
section
variable{K:PySem.W.Frag}{O:List Nat}{R:Hp}
theorem qrr(p:PyData)(e:D.toP .non=some p):DV K R .non p:=by simp only[D.toP]at e;cases e;exact .non
theorem qto(b:Bool)(p:PyData)(e:D.toP (.bl b)=some p):DV K R (.bl b) p:=by simp only[D.toP]at e;cases e;exact .bl b
theorem qrt(b:Int)(p:PyData)(e:D.toP (.int b)=some p):DV K R (.int b) p:=by simp only[D.toP]at e;cases e;exact .int b
theorem qrq(b:Str)(p:PyData)(e:D.toP (.str b)=some p):DV K R (.str b) p:=by simp only[D.toP]at e;cases e;exact .str b
theorem qrs{a:Addr}{xs:List V}{ds:List D}{p:PyData}(h:SqL K R a xs)(r:∀ps,D.toPs ds=some ps->DVs K R xs ps)(e:D.toP (.lst ds)=some p):DV K R (.ref a) p:=by
 simp only[D.toP]at e
 cases z:D.toPs ds with
 |none=>rw[z]at e;cases e
 |some ps=>rw[z]at e;cases e;exact .lst h (r _ z)
theorem qrp{a:Addr}{xs:List V}{ds:List D}{p:PyData}(h:R a=some (.tup xs))(r:∀ps,D.toPs ds=some ps->DVs K R xs ps)(e:D.toP (.tup ds)=some p):DV K R (.ref a) p:=by
 simp only[D.toP]at e
 cases z:D.toPs ds with
 |none=>rw[z]at e;cases e
 |some ps=>rw[z]at e;cases e;exact .tup (SqT.of h) (r _ z)
theorem qms(ps:List PyData)(e:D.toPs []=some ps):DVs K R [] ps:=by simp only[D.toPs]at e;cases e;exact .nil
theorem qin{x:V}{xs:List V}{d:D}{ds:List D}{ps:List PyData}(h:∀p,d.toP=some p->DV K R x p)(r:∀ps,D.toPs ds=some ps->DVs K R xs ps)(e:D.toPs (d::ds)=some ps):DVs K R (x::xs) ps:=by
 simp only[D.toPs]at e
 cases z:d.toP with
 |none=>rw[z]at e;cases e
 | some p=>
   cases w:D.toPs ds with
   |none=>rw[z,w]at e;cases e
   |some qs=>rw[z,w]at e;cases e;exact .cons (h _ z) (r _ w)
theorem Rp.dv{v:V}{d:D}{p:PyData}(h:Rp K R v d)(e:d.toP=some p):DV K R v p:=
 Rp.rec (motive_1:=λv d _=>∀p,d.toP=some p->DV K R v p) (motive_2:=λxs ds _=>∀ps,D.toPs ds=some ps->DVs K R xs ps) (motive_3:=λ_ _ _=>True) (motive_4:=λ_ _ _=>True) (motive_5:=λ_ _ _=>True)
   qrr qto qrt qrq (λh _ r _=>qrs h r) (λh _ r _=>qrp h r) (λ_ _ _ _ _ e=>by simp only[D.toP]at e;cases e) (λ_ _ _ _ e=>by simp only[D.toP]at e;cases e) (λ_ _ _ _ e=>by simp only[D.toP]at e;cases e) (λ_ _ _ _ e=>by simp only[D.toP]at e;cases e) (λ_ _ e=>by simp only[D.toP]at e;cases e)
   qms (λ_ _ h r _=>qin h r) trivial (λ_ _ _ _=>trivial) trivial (λ_ _ _ _=>trivial) trivial (λ_ _ _ _=>trivial) h _ e
def eqD(d e:D):Option Bool:=match d.toP,e.toP with
 |some p,some q=>if SeqAt.shaped p=true/\SeqAt.shaped q=true then some (PyData.eqv p q)else none
 |_,_=>none
def dEq(d e:D):Option D:=(eqD d e).map .bl
def dNe(d e:D):Option D:=(eqD d e).map λb=>.bl (!b)
theorem qbz{d e:D}{b:Bool}(h:eqD d e=some b):∃p q,d.toP=some p/\e.toP=some q/\SeqAt.shaped p=true/\SeqAt.shaped q=true/\PyData.eqv p q=b:=by
 unfold eqD at h
 cases h1:d.toP with
 |none=>rw[h1]at h;cases h
 | some p=>
   cases h2:e.toP with
   |none=>rw[h1,h2]at h;cases h
   | some q=>
     rw[h1,h2]at h
     dsimp only at h
     split at h
     · rename_i z
       exact⟨p,q,rfl,rfl,z.1,z.2,je h⟩
     · (first|obtain rfl:=h.isA rfl|cases h)
theorem os_eq:OpS K (rEqD K) dEq:=λH x y d e u Q rx ry q k=>by
 unfold dEq at q
 cases h:eqD d e with
 |none=>rw[h]at q;cases q
 | some b=>
   rw[h]at q
   (first|obtain rfl:=q.isA rfl|cases q)
   obtain⟨p,r,h1,h2,h3,h4,h5⟩:=qbz h
   refine⟨p,r,rx.dv h1,ry.dv h2,h3,h4,?_⟩
   rw[h5]
   exact k _ (.bl _)
theorem qlc:OpS K (rNeD K) dNe:=λH x y d e u Q rx ry q k=>by
 unfold dNe at q
 cases h:eqD d e with
 |none=>rw[h]at q;cases q
 | some b=>
   rw[h]at q
   (first|obtain rfl:=q.isA rfl|cases q)
   obtain⟨p,r,h1,h2,h3,h4,h5⟩:=qbz h
   refine⟨p,r,rx.dv h1,ry.dv h2,h3,h4,?_⟩
   rw[h5]
   exact k _ (.bl _)
def dIsN(d e:D):Option D:=match e with
 |.non=>some (.bl (match d with|.non=>true|_=>false))
 |_=>none
def qdq(d e:D):Option D:=match e with
 |.non=>some (.bl (match d with|.non=>false|_=>true))
 |_=>none
theorem qp1:OpS K (λx y H Q=>y=.non/\Q (.bl (decide (x=.non))) H) dIsN:=λH x y d e u Q rx ry q k=>by
 (first|split at q|(unfold dIsN at q;split at q))
 · obtain rfl:=ry.isA rfl
   refine⟨rfl,?_⟩
   cases rx<;>(cases q;exact k _ (.bl _))
 · cases q
theorem qlb:OpS K (λx y H Q=>y=.non/\Q (.bl (!decide (x=.non))) H) qdq:=λH x y d e u Q rx ry q k=>by
 (first|split at q|(unfold qdq at q;split at q))
 · obtain rfl:=ry.isA rfl
   refine⟨rfl,?_⟩
   cases rx<;>(cases q;exact k _ (.bl _))
 · cases q
end
section
variable{K:PySem.W.Frag}{O:List Nat}{t ta tb tc:TE}{tr:TA}{fa fb fc:RhD}{fs:RhL}
def qnd(K:PySem.W.Frag)(r:List V->Hp->VK->Prop)(g:D->Option D):Prop:=∀(H R:Hp) (x:V) (d u:D) (Q:VK),(∀a o,R a=some o->H a=some o)->Rp K R x d->g d=some u->(∀v H' R',Ext H R H' R'->Rp K R' v u->Q v H')->r [x] H Q
theorem q4l{r:List V->Hp->VK->Prop}{g:D->Option D}(h:qnd K r g)(ha:ME K O t fa):ME K O (tCB r (q9q t tNil)) (mOp1 g fa):=λZ σ H R ρ d ρ' Q S e k=>by
 obtain⟨x,ρ1,e1,e⟩:=q0c e
 obtain⟨e2,rfl⟩:=q0m e
 refine ha Z σ H R ρ x _ _ S e1 λv H1 R1 S1 st1 r1=>?_
 exact h H1 R1 v x d Q S1.sub r1 e2 λw H2 R2 x2 r2=>k w H2 R2 (S1.ext x2) (st1.trans x2.stp) r2
def qs0(K:PySem.W.Frag)(r:List V->Hp->VK->Prop)(g:D->Option (List D)):Prop:=∀(H R:Hp) (x:V) (d:D) (us:List D) (Q:VK),(∀a o,R a=some o->H a=some o)->Rp K R x d->g d=some us->(∀l vs,H l=none->Rps K R vs us->Q (.ref l) (upd H l (.lst vs)))->r [x] H Q
def qdh(g:D->Option (List D))(f:RhD):RhL:=q1s f λx=>q2q (g x)
theorem qhy{r:List V->Hp->VK->Prop}{g:D->Option (List D)}(h:qs0 K r g)(ha:ME K O t fa):MN K O (tCB r (q9q t tNil)) (qdh g fa):=λZ σ H R ρ d ρ' Q S e k=>by
 obtain⟨x,ρ1,e1,e⟩:=q0c e
 obtain⟨e2,rfl⟩:=q0m e
 refine ha Z σ H R ρ x _ _ S e1 λv H1 R1 S1 st1 r1=>?_
 refine h H1 R1 v x d Q S1.sub r1 e2 λl vs hl rv=>?_
 have y:=Ext.hid (o:=.lst vs) S1.sub hl
 exact k l vs _ _ (S1.ext y) (st1.trans y.stp) (st1.new hl) q0r (S1.out hl) rv
def dSeq:D->Option (List D)
 |.lst xs=>some xs
 |.tup xs=>some xs
 |_=>none
theorem qmu:qs0 K (λxs H Q=>∃p ys,xs=[.ref p]/\(SqL K H p ys∨SqT K H p ys)/\∀l,H l=none->Q (.ref l) (upd H l (.lst ys))) dSeq:=λH R x d us Q s r e k=>by
 (first|split at e|(unfold dSeq at e;split at e))
 · obtain⟨_,_,rfl,h,q⟩:=r.isL
   cases e
   exact⟨_,_,rfl,.inl (Same.sqL s h),λl hl=>k l _ hl q⟩
 · obtain⟨_,_,rfl,h,q⟩:=r.isT
   cases e
   exact⟨_,_,rfl,.inr (SqT.of (s _ _ h)),λl hl=>k l _ hl q⟩
 · cases e
def q4u:D->Option D
 |.lst xs=>some (.tup xs)
 |.tup xs=>some (.tup xs)
 |_=>none
theorem q5i:qnd K (λxs H Q=>∃p ys,xs=[.ref p]/\((SqL K H p ys/\∀l,H l=none->Q (.ref l) (upd H l (.tup ys)))∨(SqT K H p ys/\Q (.ref p) H))) q4u:=λH R x d u Q s r e k=>by
 cases r with
 | lst h q=>
   cases e
   refine⟨_,_,rfl,.inl ⟨Same.sqL s h,λl hl=>?_⟩⟩
   rename_i a xs ds
   have y:=Ext.new (o:=.tup xs) s hl
   exact k _ _ _ y (.tup q0r (q.mono y.r))
 |tup h q=>cases e;exact⟨_,_,rfl,.inr ⟨SqT.of (s _ _ h),k _ H R (Ext.refl s) (.tup h q)⟩⟩
 |_=>cases e
def MO(K:PySem.W.Frag)(O:List Nat)(t:TO)(f:Rho->Option (Option Int×Rho)):Prop:=∀(Z:Anc) (σ:St) (H R:Hp) (ρ:Rho) (o:Option Int) (ρ':Rho) (Q:Option Int->Hp->Prop),StR K Z O σ H R ρ->f ρ=some (o,ρ')->(∀H' R',StR K Z O σ H' R' ρ'->Stp O σ H R H' R'->Q o H')->t σ H Q
theorem q8a:MO K O qe9 (mRet none):=λZ σ H R ρ o ρ' Q S e k=>by
 cases e
 exact k H R S (Stp.refl _ _ _ _)
def q66(f:RhD):Rho->Option (Option Int×Rho):=q1s f λd=>q2q (match d with
 |.int i=>some (some i)
 |_=>none)
theorem q4d(h:ME K O t fa):MO K O (qnl t) (q66 fa):=λZ σ H R ρ o ρ' Q S e k=>by
 obtain⟨x,ρ1,e1,e⟩:=q0c e
 obtain⟨e2,rfl⟩:=q0m e
 refine h Z σ H R ρ x _ _ S e1 λv H1 R1 S1 st1 r1=>?_
 (first|split at e2)
 · rename_i i
   obtain rfl:=r1.isA rfl
   cases e2
   exact⟨i,rfl,k H1 R1 S1 st1⟩
 · cases e2
def cutD(xs:List D)(lo hi:Option Int):List D:=(xs.drop (HT.sIx xs.length 0 lo)).take (HT.sIx xs.length xs.length hi-HT.sIx xs.length 0 lo)
theorem Rps.cut{R:Hp}{xs:List V}{ds:List D}(r:Rps K R xs ds)(lo hi:Option Int):Rps K R (cutV xs lo hi) (cutD ds lo hi):=by
 unfold cutV cutD
 rw[r.length]
 exact(r.drop _).take _
def rSlG(K:PySem.W.Frag):V->Option Int->Option Int->Hp->VK->Prop:=λx lo hi H Q=>rSlL K x lo hi H Q∨rSlT K x lo hi H Q
theorem q5l{X:Cx}(h:X.K=K):SlR X (rSlG K):=by
 subst h
 exact sl_list.or qnu
def dSl(d:D)(lo hi:Option Int):Option D:=match d with
 |.lst xs=>some (.lst (cutD xs lo hi))
 |.tup xs=>if HT.sIx xs.length 0 lo=0/\HT.sIx xs.length xs.length hi=xs.length then none else some (.tup (cutD xs lo hi))
 |_=>none
def mSl(f:RhD)(fl fh:Rho->Option (Option Int×Rho)):RhD:=q1s f λd=>q1s fl λlo=>q1s fh λhi=>q2q (dSl d lo hi)
theorem q4k{tl th:TO}{fl fh:Rho->Option (Option Int×Rho)}(h:ME K O t fa)(hl:MO K O tl fl)(hh:MO K O th fh):ME K O (tSl (rSlG K) t tl th) (mSl fa fl fh):=λZ σ H R ρ d ρ' Q S e k=>by
 obtain⟨x,ρ1,e1,e⟩:=q0c e
 obtain⟨lo,ρ2,e2,e⟩:=q0c e
 obtain⟨hi,ρ3,e3,e⟩:=q0c e
 obtain⟨e4,rfl⟩:=q0m e
 refine h Z σ H R ρ x _ _ S e1 λv H1 R1 S1 st1 r1=>hl Z σ H1 R1 ρ1 lo _ _ S1 e2 λH2 R2 S2 st2=>hh Z σ H2 R2 ρ2 hi _ _ S2 e3 λH3 R3 S3 st3=>?_
 have r3:=(r1.mono st2.r).mono st3.r
 have st:=(st1.trans st2).trans st3
 cases r3 with
 | @lst a xs ds q r=>
   cases e4
   refine .inl ⟨a,xs,rfl,Same.sqL S3.same q,λp np=>?_⟩
   have y:=Ext.new (o:=.lst (cutV xs lo hi)) S3.sub np
   exact k _ _ _ (S3.ext y) (st.trans y.stp) (.lst (SqL.of q0r) ((r.cut lo hi).mono y.r))
 | @tup a xs ds q r=>
   have e5:(if HT.sIx ds.length 0 lo=0/\HT.sIx ds.length ds.length hi=ds.length then none else some (D.tup (cutD ds lo hi)))=some d:=e4
   split at e5
   · cases e5
   · rename_i hn
     cases e5
     refine .inr ⟨a,xs,rfl,SqT.of (S3.same _ _ q),by rw[r.length];exact hn,λp np=>?_⟩
     have y:=Ext.new (o:=.tup (cutV xs lo hi)) S3.sub np
     exact k _ _ _ (S3.ext y) (st.trans y.stp) (.tup q0r ((r.cut lo hi).mono y.r))
 |_=>cases e4
theorem qd9{g:Int->Int->Bool}:OpS K (rI0 λi j=>.bl (g i j)) (dB0 g):=λH x y d e u Q rx ry q k=>by
 unfold dB0 at q
 split at q
 · rename_i i j
   (first|obtain rfl:=q.isA rfl|cases q)
   (first|obtain rfl:=rx.isA rfl|cases rx)
   (first|obtain rfl:=ry.isA rfl|cases ry)
   exact⟨i,j,rfl,rfl,k _ (.bl _)⟩
 · (first|obtain rfl:=q.isA rfl|cases q)
def qtg(f:RhL):RhD:=q1s f λds=>q2q (match ds with
 |[.int i,.int j]=>if 0<j/\j<1073741824 then some (.tup [.int (i / j),.int (i % j)])else none
 |_=>none)
def mMM(g:Int->Int->Int)(f:RhL):RhD:=q1s f λds=>q2q (match ds with
 |[.int i,.int j]=>some (.int (g i j))
 |_=>none)
theorem qqp{g:Int->Int->Int}(h:MA K O tr fs):ME K O (tCB (λxs H Q=>∃i j,xs=[.int i,.int j]/\Q (.int (g i j)) H) tr) (mMM g fs):=λZ σ H R ρ d ρ' Q S e k=>by
 obtain⟨xs,ρ1,e1,e⟩:=q0c e
 obtain⟨e2,rfl⟩:=q0m e
 refine h Z σ H R ρ xs _ _ S e1 λvs H1 R1 S1 st1 r1=>?_
 split at e2
 · rename_i i j
   cases e2
   obtain⟨_,_,rfl,q,r⟩:=r1.isC
   (first|obtain rfl:=q.isA rfl|cases q)
   cases r with
   | cons q r=>
     (first|obtain rfl:=q.isA rfl|cases q)
     (first|obtain rfl:=r.isA rfl|cases r)
     exact⟨i,j,rfl,k _ H1 R1 S1 st1 (.int _)⟩
 · cases e2
def qr3(K:PySem.W.Frag)(ta:TA):TI:=λσ H R=>(iZip K true true ta σ H R∨iZip K true false ta σ H R)∨(iZip K false true ta σ H R∨iZip K false false ta σ H R)
theorem q5n{X:Cx}{a b:Expr}{ta:TA}{p pos:Pos}{zj:List Expr}{x1:Nat}{tp:Pos}(hK:X.K=K)(hg:Gl X "zip")(hm:X.mg "zip"=none)(ha:PA X [a,b] ta)(he:starEach [a,b] X.env=(false,eval a X.env)::starEach [b] X.env:=by rfl)(hpl:(backTo pos (starEach [b] X.env)).any (·.1)=false:=by rfl):
   PI X (.Tuple zj x1 tp) (.Call (.Name "zip" p) [a,b] [] pos) (qr3 K ta):=λz5 s σ H R I q=>by
 rcases q with(q|q)|(q|q)
 · exact qbc true true hK hg hm ha he hpl z5 s σ H R I q
 · exact qbc true false hK hg hm ha he hpl z5 s σ H R I q
 · exact qbc false true hK hg hm ha he hpl z5 s σ H R I q
 · exact qbc false false hK hg hm ha he hpl z5 s σ H R I q
def zipD(xs ys:List D):List D:=List.zipWith (λx y=>D.tup [x,y]) xs ys
def mZip(f:RhL):RhL:=q1s f λds=>q2q (match ds with
 | [x,y]=>match dSeq x,dSeq y with
   |some xs,some ys=>some (zipD xs ys)
   |_,_=>none
 |_=>none)
theorem SqB.inj_same{K:PySem.W.Frag}{b:Bool}{R H:Hp}{p:Addr}{xs:List V}(s:Same R H)(h:SqB K b R p xs):SqB K b H p xs:=by
 cases b
 · exact Same.tup s h
 · exact Same.sqL s h
theorem qr0{R:Hp}{b1 b2:Bool}{p1 p2:Addr}{xs ys:List V}{ds es:List D}(h1:SqB K b1 R p1 xs)(h2:SqB K b2 R p2 ys)(r1:Rps K R xs ds)(r2:Rps K R ys es):ItOk K (Itz K b1 b2 p1 p2) R (zipD ds es):=λH' R' s b i=>by
 have q1:=(SqB.inj_same s h1)
 have q2:=(SqB.inj_same s h2)
 have g1:=(SqB.inj_same b q1)
 have g2:=(SqB.inj_same b q2)
 have len:(zipD ds es).length=min ds.length es.length:=by simp[zipD]
 have l1:=r1.length
 have l2:=r2.length
 refine⟨λe=>⟨xs,ys,g1,g2,by omega⟩,λd e=>?_⟩
 unfold zipD at e
 rw[List.getElem?_zipWith]at e
 cases e1:ds[i]? with
 |none=>rw[e1]at e;cases e
 | some d1=>
   cases e2:es[i]? with
   |none=>rw[e1,e2]at e;cases e
   | some d2=>
     rw[e1,e2]at e
     cases e
     obtain⟨v1,a1,a2⟩:=r1.get e1
     obtain⟨v2,c1,c2⟩:=r2.get e2
     refine⟨⟨xs,ys,v1,v2,g1,g2,a1,c1⟩,λx H'' y=>?_⟩
     obtain⟨T,x1,y1,rfl,hT,rfl,z1,z2⟩:=y
     have w1:=z1 xs g1
     have w2:=z2 ys g2
     rw[a1]at w1
     rw[c1]at w2
     cases w1
     cases w2
     have y:=Ext.new (o:=.tup [v1,v2]) b hT
     exact⟨_,y,.tup q0r (.cons ((a2.mono s).mono y.r) (.cons ((c2.mono s).mono y.r) .nil))⟩
theorem q9g{x:D}{ds:List D}(h:dSeq x=some ds):x=.lst ds∨x=.tup ds:=by
 unfold dSeq at h
 split at h
 · cases h;exact .inl rfl
 · cases h;exact .inr rfl
 · (first|obtain rfl:=h.isA rfl|cases h)
theorem q7o(h:MA K O tr fs):MI K O (qr3 K tr) (mZip fs):=λZ σ H R ρ ds ρ' Q S e k=>by
 obtain⟨xs,ρ1,e1,e⟩:=q0c e
 obtain⟨e2,rfl⟩:=q0m e
 have go:∀(b1 b2:Bool) (x y:D) (as bs:List D),xs=[x,y]->ds=zipD as bs->(∀(R1:Hp) (v:V),Rp K R1 v x->∃p vs,v=.ref p/\SqB K b1 R1 p vs/\Rps K R1 vs as)->(∀(R1:Hp) (v:V),Rp K R1 v y->∃p vs,v=.ref p/\SqB K b2 R1 p vs/\Rps K R1 vs bs)->iZip K b1 b2 tr σ H Q:=λb1 b2 x y as bs hx hd g1 g2=>by
   subst hx hd
   refine h Z σ H R ρ _ _ _ S e1 λvs H1 R1 S1 st1 r1=>?_
   obtain⟨_,_,rfl,q,r⟩:=r1.isC
   obtain⟨_,_,rfl,q',r⟩:=r.isC
   (first|obtain rfl:=r.isA rfl|cases r)
   obtain⟨p1,us,rfl,s1,t1⟩:=g1 _ _ q
   obtain⟨p2,ws,rfl,s2,t2⟩:=g2 _ _ q'
   exact⟨p1,p2,rfl,⟨us,SqB.inj_same S1.same s1⟩,⟨ws,SqB.inj_same S1.same s2⟩,k _ H1 R1 S1 st1 (qr0 s1 s2 t1 t2)⟩
 have gl:∀(as:List D) (R1:Hp) (v:V),Rp K R1 v (.lst as)->∃p vs,v=.ref p/\SqB K true R1 p vs/\Rps K R1 vs as:=λas R1 v r=>by
   obtain⟨_,_,rfl,h,q⟩:=r.isL
   exact⟨_,_,rfl,h,q⟩
 have gt:∀(as:List D) (R1:Hp) (v:V),Rp K R1 v (.tup as)->∃p vs,v=.ref p/\SqB K false R1 p vs/\Rps K R1 vs as:=λas R1 v r=>by
   obtain⟨_,_,rfl,h,q⟩:=r.isT
   exact⟨_,_,rfl,SqT.of h,q⟩
 split at e2
 · rename_i x y
   split at e2
   · rename_i as bs h1 h2
     cases e2
     rcases q9g h1 with rfl|rfl<;>rcases q9g h2 with rfl|rfl
     · exact .inl (.inl (go true true _ _ as bs rfl rfl (gl as) (gl bs)))
     · exact .inl (.inr (go true false _ _ as bs rfl rfl (gl as) (gt bs)))
     · exact .inr (.inl (go false true _ _ as bs rfl rfl (gt as) (gl bs)))
     · exact .inr (.inr (go false false _ _ as bs rfl rfl (gt as) (gt bs)))
   · cases e2
 · cases e2
end
inductive TyO(K:PySem.W.Frag)(H:Hp):V->Value->Prop where
 |of {x:V} {t:Value} (h:TyOf K H x t):TyO K H x t
 |sl {a:Addr} {xs:List V} (h:SqL K H a xs):TyO K H (.ref a) (.type "list")
 |st {a:Addr} {xs:List V} (h:SqT K H a xs):TyO K H (.ref a) (.type "tuple")
section
variable{X:Cx}{K:PySem.W.Frag}{O:List Nat}{t:TE}{fa:RhD}
end
def mOf(f:RhL):RhD:=q1s f λds=>mRet (D.lst ds)
section
variable{K:PySem.W.Frag}{O O1 O':List Nat}{t:TE}{c:MC}{u:TS}{f:RhO}{fn:RhL}
theorem q1c(h:MN K O t fn):ME K O t (mOf fn):=h.me
theorem q6s(h:MS c O O1 u f)(hs:subO c O1 O'=true):MS c O O' u f:=λZ E σ H R ρ o hP S e k=>by
 refine h Z E σ H R ρ o hP S e ?_
 cases o with
 | nx ρ'=>
   intro σ' H' R' S' s'
   obtain⟨S2,s2⟩:=S'.sub' hP hs
   exact k σ' H' _ S2 (s'.trans s2)
 |bk ρ'=>exact k
 |ct ρ'=>exact k
 |rt d ρ'=>exact k
theorem q6t{k n:Nat}{js:List Nat}{wi:TI}{g:TG}{tt:TT}{te:TE}(he:MN c.K O (qh2 n js wi g tt te) fn)(hs:subO c O O'=true)(hi:k∉O'):MS c O O' (qha k n js wi g tt te) (sSet k (mOf fn)):=
 show MS c O O' (tAsg (qh2 n js wi g tt te) (q67 k)) (sSet k (mOf fn))from q12 (q1c he) hs hi
def q81(fe:RhD):RhO:=λρ=>match fe ρ with
 |none=>none
 |some (_,ρ1)=>some (.nx ρ1)
theorem q89{fe:RhD}(he:ME c.K O t fe)(hs:subO c O O'=true):MS c O O' (qcc t) (q81 fe):=λZ E σ H R ρ o hP S e k=>by
 unfold q81 at e
 cases e1:fe ρ with
 |none=>rw[e1]at e;cases e
 | some p=>
   obtain⟨d,ρ1⟩:=p
   rw[e1]at e
   cases e
   refine he Z σ H R ρ d ρ1 _ S e1 λv H1 R1 S1 st1 r1=>?_
   obtain⟨S2,s2⟩:=S1.sub' hP hs
   exact k σ H1 _ S2 (st1.r.trans s2)
end
def qlj(i j:Int):Bool:=(decide (-(2^64)<i)&&decide (i<2^64))||(decide (-(2^64)<j)&&decide (j<2^64))
def qlk(_ j:Int):Bool:=decide (0<j)&&decide (j<1073741824)
def qq3(_ j:Int):Bool:=decide (0<j)
def qf7(i j:Int):Bool:=decide (0<=j)&&decide (j<=1000000)&&decide (i.natAbs<2^64)
def qq2(_ j:Int):Bool:=decide (0<=j)
abbrev dDiv:D->D->Option D:=dI2 qlk λi j=>i / j
abbrev dMod:D->D->Option D:=dI2 qq3 λi j=>i % j
abbrev dPow:D->D->Option D:=dI2 qf7 λi j=>i^j.toNat
abbrev dShl:D->D->Option D:=dI2 qf7 λi j=>i*2^j.toNat
abbrev dShr:D->D->Option D:=dI2 qq2 λi j=>i / 2^j.toNat
abbrev dSub:D->D->Option D:=dI0 λi j=>i-j
abbrev dAnd:D->D->Option D:=dI0 λi j=>Builtin.bitAnd i j
abbrev dXor:D->D->Option D:=dI0 λi j=>Builtin.bitXor i j
abbrev dLt:D->D->Option D:=dB0 λi j=>decide (i<j)
abbrev dGt:D->D->Option D:=dB0 λi j=>decide (j<i)
section
variable{K:PySem.W.Frag}
theorem qk8:OpG K (rI CDiv λi j=>.int (i / j)) dDiv:=op_i λi j h=>by
 unfold qlk at h
 simp only[Bool.and_eq_true,decide_eq_true_eq]at h
 exact h
theorem q2c:OpG K (rI (λ_ j=>0<j) λi j=>.int (i % j)) dMod:=op_i λi j h=>of_decide_eq_true h
theorem qk7:OpG K (rI CPow λi j=>.int (i^j.toNat)) dPow:=op_i λi j h=>by
 unfold qf7 at h
 simp only[Bool.and_eq_true,decide_eq_true_eq]at h
 exact⟨h.1.1,h.1.2,h.2⟩
theorem qf9:OpG K (rI CPow λi j=>.int (i*2^j.toNat)) dShl:=op_i λi j h=>by
 unfold qf7 at h
 simp only[Bool.and_eq_true,decide_eq_true_eq]at h
 exact⟨h.1.1,h.1.2,h.2⟩
theorem qk6:OpG K (rI (λ_ j=>0<=j) λi j=>.int (i / 2^j.toNat)) dShr:=op_i λi j h=>of_decide_eq_true h
theorem q4s:OpG K (rI0 λi j=>.int (i-j)) dSub:=qlf
theorem q96:OpG K (rI0 λi j=>.int (Builtin.bitAnd i j)) dAnd:=qlf
theorem qk5:OpG K (rI0 λi j=>.int (Builtin.bitXor i j)) dXor:=qlf
def qks(K:PySem.W.Frag)(n:Nat):Sp:=λvs H Q _=>∃(b:Addr) (ns:List Int),vs=[.ref b]/\SqL K H b (ns.map V.int)/\ns.length<=n/\∀H',Q (.bl true) H'
theorem qqt{P:Program}{w:World}{mg:Str->Option Value}{base:Heap}{CX:CXT}{k n:Nat}{fa:Addr}{fd:FuncData}{x:Str}{f:List D->Option D}(F:FnOk P w K mg base CX k fa fd [x] (spP K false 1 f))(h:∀ns:List Int,ns.length<=n->f [.lst (ns.map D.int)]=some (.bl true)):FnOk P w K mg base CX k fa fd [x] (qks K n):=
 F.imp λvs H Q E q=>by
   obtain⟨b,ns,rfl,hb,hl,k⟩:=q
   refine⟨rfl,H,[.lst (ns.map D.int)],.bl true,λ_ _ e=>e,.cons (.lst hb (Rps.ints ns)) .nil,h ns hl,λv H' R' _ r=>?_⟩
   have r':Rp K R' v (.bl true):=r
   cases r'
   exact k H'
end
section
variable{K:PySem.W.Frag}{O O':List Nat}{t ta tb:TE}{fa fb:RhD}{fn:RhL}{c:MC}
def dNeg:D->Option D
 |.int i=>some (.int (-i))
 |_=>none
theorem qkc(h:ME K O t fa):ME K O (tUn (rU λi=>.int (-i)) t) (mOp1 dNeg fa):=λZ σ H R ρ d ρ' Q S e k=>by
 obtain⟨x,ρ1,e1,e⟩:=q0c e
 obtain⟨e2,rfl⟩:=q0m e
 refine h Z σ H R ρ x _ _ S e1 λv H1 R1 S1 st1 r1=>?_
 (first|split at e2|(unfold dNeg at e2;split at e2))
 · rename_i i
   obtain rfl:=r1.isA rfl
   cases e2
   exact⟨i,rfl,k _ H1 R1 S1 st1 (.int _)⟩
 · cases e2
def dAny:D->Option D
 |.lst xs=>(qkl xs).map λbs=>.bl (bs.any id)
 |_=>none
def sExt(i:Nat)(fn:RhL):RhO:=λρ=>if isL ρ i=true then(match fn ρ with
 |none=>none
 | some (ys,ρ1)=>match ρ1[i]? with
   |some (some (.lst xs))=>if xs.length+ys.length<=sizeLine then some (.nx (ρ1.set i (some (.lst (xs++ys)))))else none
   |_=>none)else none
theorem qfe{i:Nat}(hi:i∈O)(ha:MN c.K O ta fn)(hs:subO c O O'=true):MS c O O' (qcc (tBM c.K "list" qel (tVar i) (q9q ta tNil))) (sExt i fn):=λZ E σ H R ρ o hP S e k=>by
 unfold sExt at e
 split at e
 case isFalse=>cases e
 rename_i hL
 cases e1:fn ρ with
 |none=>rw[e1]at e;cases e
 | some p=>
   obtain⟨ys,ρ1⟩:=p
   rw[e1]at e
   dsimp only at e
   obtain⟨l,vs,ds,h1,h2,h3,h4,h5⟩:=S.own i hi
   obtain⟨us,_,rfl,rfl,_⟩:=qft hL h1 h5
   refine⟨.ref l,h2,.inl ⟨rfl,us,SqL.of h3⟩,ha Z σ H R ρ ys ρ1 _ S e1 λb zs H1 R1 S1 st1 b0 bH bR r1=>?_⟩
   obtain⟨l',vs',ds',g1,g2,g3,g4,g5⟩:=S1.own i hi
   rw[h2]at g2
   cases g2
   rw[g1]at e
   cases g5 with
   |dct _=>cases e
   |dit _=>cases e
   |lst g5=>
   rename_i vs' ds'
   dsimp only at e
   split at e
   · rename_i hz
     cases e
     refine⟨l,b,vs',zs,rfl,rfl,g3,bH,by rw[g5.length,r1.length];exact hz,?_⟩
     obtain⟨S2,s2⟩:=(S1.write hi h2 (.lst (g5.append r1))).sub' hP hs
     exact k σ _ _ S2 (st1.r.trans s2)
   · cases e
def mRep(fn:RhL)(fb:RhD):RhL:=q1s fn λxs=>q1s fb λy=>q2q (match y with
 |.int k=>if -(2^63)<=k/\k<2^63/\xs.length*k.toNat<=sizeLine then some (List.replicate k.toNat xs).flatten else none
 |_=>none)
theorem Rps.rep{R:Hp}{xs:List V}{ds:List D}(r:Rps K R xs ds):∀k:Nat,Rps K R (List.replicate k xs).flatten (List.replicate k ds).flatten
 |0=>.nil
 | k+1=>by
   rw[List.replicate_succ,List.replicate_succ,List.flatten_cons,List.flatten_cons]
   exact r.append (Rps.rep r k)
theorem qbq(ha:MN K O ta fn)(hb:ME K O tb fb):MN K O (tOp rRep ta tb) (mRep fn fb):=λZ σ H R ρ d ρ' Q S e k=>by
 obtain⟨xs,ρ1,e1,e⟩:=q0c e
 obtain⟨y,ρ2,e2,e⟩:=q0c e
 obtain⟨e3,rfl⟩:=q0m e
 refine ha Z σ H R ρ xs ρ1 _ S e1 λl vs H1 R1 S1 st1 h0 hH hR r1=>hb Z σ H1 R1 ρ1 y _ _ S1 e2 λw H2 R2 S2 st2 r2=>?_
 (first|split at e3)
 · rename_i j
   obtain rfl:=r2.isA rfl
   have e4:(if -(2^63)<=j/\j<2^63/\xs.length*j.toNat<=sizeLine then some (List.replicate j.toNat xs).flatten else none)=some d:=e3
   split at e4
   · rename_i hz
     cases e4
     refine⟨l,j,vs,rfl,rfl,st2.h l _ hH (λi hi=>S.notnew h0 i hi),hz.1,hz.2.1,by rw[r1.length];exact hz.2.2,λp np=>?_⟩
     have y:=Ext.hid (o:=.lst (List.replicate j.toNat vs).flatten) S2.sub np
     exact k p _ _ _ (S2.ext y) ((st1.trans st2).trans y.stp) ((st1.trans st2).new np) q0r (S2.out np) ((r1.mono st2.r).rep _)
   · cases e4
 · cases e3
end
section
variable{M:Model}{A:Around}{E:Value->Shared->Prop}{s:Shared}
end
section
variable{X:Cx}{K:PySem.W.Frag}
end
section
variable{c:MC}{O O':List Nat}{te:TE}{fn:RhL}
end
theorem foldl_size{α:Type}(a:Array α):∀(k:Nat) (acc:Array α),(List.foldl (λx1 x2=>x1++x2) acc (List.replicate k a)).size=acc.size+k*a.size
 |0,acc=>by simp
 | k+1,acc=>by
   rw[List.replicate_succ,List.foldl_cons,foldl_size a k,Array.size_append,Nat.succ_mul]
   omega
theorem q64:fillsNumberSlot (.type "tuple") "mul"=pure false:=
 PySem.fillsNumberSlot_seq (id:="tuple.__mul__") (r:=some (.builtin "tuple.__rmul__")) F.slot_tuple_mul.lookup (by decide+kernel) F.slot_tuple_rmul.lookup (by decide+kernel)
theorem q8z:seqRepeat? (.type "tuple")=pure (some (.builtin "tuple.__mul__")):=by
 unfold seqRepeat?
 rw[PySem.seqSlot_of (T:="tuple") (name:="__mul__") (id:="tuple.__mul__") F.slot_tuple_mul.lookup (by decide+kernel),PySem.seqSlot_of (T:="tuple") (name:="__rmul__") (id:="tuple.__rmul__") F.slot_tuple_rmul.lookup (by decide+kernel)]
 rfl
theorem q7g(a:Int)(t:Tok)(l:Addr)(items:Array Value)(n:Nat)(dd:Option Addr)(sl:Array (Option Value)):
   Meets (Builtin.«int.__rmul__» ⟨[.int a t,.ref l],[]⟩) (λ_ R s=>s.heap.get? l=some {cls:=.type "tuple",dict:=dd,data:=.seq items n,slots:=sl}/\R (.ok (.ret Value.notImplemented)) s):=
 .of_wp λprog w A R s h=>by obtain⟨hp,g,d,tk,os⟩:=s;obtain⟨hl,h⟩:=h;wp_walk;exact⟨_,rfl,h⟩
theorem qcb(l:Addr)(items:Array Value)(n:Nat)(dd:Option Addr)(sl:Array (Option Value))(x:Int)(u:Tok)(h1:1<x)(h2:x<=1000)(he:items.isEmpty=false)(hz:items.size<=1000):
   Meets (Builtin.«tuple.__mul__» ⟨[.ref l,.int x u],[]⟩) (λ_ R s=>s.heap.get? l=some {cls:=.type "tuple",dict:=dd,data:=.seq items n,slots:=sl}/\R (.ok (.ret (Value.ref s.heap.objs.size))) {s with heap:=s.heap.push {cls:=Value.type "tuple",data:=Data.seq (List.foldl (λx1 x2=>x1++x2) #[] (List.replicate x.toNat items))},toks:=s.toks}):=
 .of_wp λprog w A R s h=>by
   obtain⟨hp,g,d,tk,os⟩:=s;obtain⟨hl,h⟩:=h
   have f1:=AutoSeq1.idx_int
   have f2:=AutoSeq1.sub_tuple_tuple
   have hc0:¬(decide (x< -2^63)||decide (x≥2^63))=true:=by
     simp only[Bool.or_eq_true,decide_eq_true_eq]
     omega
   have hc1:¬(items.isEmpty||x==1)=true:=by
     rw[he,Bool.false_or]
     simp
     omega
   have hc2:¬(decide (x<=0)||items.isEmpty)=true:=by
     rw[he,Bool.or_false]
     simp
     omega
   have hm:(items.size:Int)*x<=1000*1000:=Int.le_trans (Int.mul_le_mul_of_nonneg_left h2 (Int.natCast_nonneg _)) (Int.mul_le_mul_of_nonneg_right (by omega) (by decide))
   have hc3:¬(items.size:Int)*x>(2^63-1) / 8:=by omega
   have hc4:¬Builtin.Tuple.tupleTooMany ((items.size:Int)*x)=true:=by
     unfold Builtin.Tuple.tupleTooMany
     have:(sizeLine:Int)≥1000*1000:=by decide
     simp
     omega
   wp_walk using kg hl
   rw[if_neg hc0]
   wp_walk using kg hl
   rw[if_neg hc1]
   rw[if_neg hc2]
   rw[if_neg hc3]
   rw[if_neg hc4]
   wp_walk using kg hl
   have hc5:¬(List.foldl (λx1 x2=>x1++x2) #[] (List.replicate x.toNat items)).size>sizeLine:=by
     rw[foldl_size]
     have h7:x.toNat*items.size<=1000*1000:=Nat.mul_le_mul (by omega) hz
     have h8:(sizeLine:Nat)≥1000*1000:=by decide
     simp
     omega
   rw[if_neg hc5]
   wp_walk using kg hl
   exact⟨_,rfl,h⟩
def qok(K:PySem.W.Frag):R2:=λx y H Q=>∃l k xs,x=.ref l/\y=.int k/\SqT K H l xs/\1<k/\k<=1000/\xs≠[]/\xs.length<=1000/\∀p,H p=none->Q (.ref p) (upd H p (.tup (List.replicate k.toNat xs).flatten))
section
variable{X:Cx}{K:PySem.W.Frag}
theorem qld(hK:X.K=K):OpR X (binaryOp .Mult) (qok K):=by
 subst hK
 intro z5 s σ H x y v u Q I rx ry h
 obtain⟨l,k,xs,rfl,rfl,hH,h1,h2,hx,hz,q⟩:=h
 (first|obtain rfl:=rx.isA rfl|cases rx)
 obtain⟨t,rfl⟩:=ry
 obtain⟨its,r1,p1,_⟩:=I.tuple hH
 obtain⟨⟨cls,dd,data,sl⟩,ho,hc,n,hd⟩:=id p1
 simp only at hc hd
 subst hc hd
 have zd:=r1.length
 have he:its.toArray.isEmpty=false:=by
   cases its with
   |nil=>exact absurd (r1.nil_iff.mp rfl) hx
   |cons a r=>rfl
 have f0:List.foldl (λx1 x2=>x1++x2) #[] (List.replicate k.toNat its.toArray)=(List.replicate k.toNat its).flatten.toArray:=by
   have:=foldl_rep its k.toNat []
   rw[List.nil_append]at this
   exact this
 refine wpAny_binaryOp_repeat_ref (T:="tuple") (U:="int") (by decide) ⟨_,ho,rfl⟩ (λs'=>typeIs_int s' k t) q64 F.fills_int_mul F.slot_int_rmul q8z F.slot_int_index.lookup
   (call_meets F.slot_int_rmul (typeIs_int s k t) F.entry_int_rmul (F.args_int_rmul_2 _ _) (q7g k t l its.toArray n dd sl)
     ⟨ho,rfl,⟨_,ho,rfl⟩,call_meets F.slot_tuple_mul ⟨_,ho,rfl⟩ F.entry_tuple_mul (F.args_tuple_mul_2 _ _) (qcb l its.toArray n dd sl k t h1 h2 he (by rw[jv];omega)) ⟨ho,?_⟩⟩)
 rw[f0]
 have hsz:(List.replicate k.toNat xs).flatten.length<=sizeLine:=by
   rw[len_rep]
   exact jt (Nat.mul_le_mul (by omega:k.toNat<=1000) hz) (by decide)
 refine⟨.ref s.heap.objs.size,_,I.laid (t':=s.toks) (o:=.tup (List.replicate k.toNat xs).flatten) (λb ob q=>j9 _ q) (ja _) ?_,rfl,q _ (I.hok.fresh (ja _))⟩
 exact⟨hsz,_,r1.rep k.toNat,TupN.new _ _⟩
def qb3(z:Str)(k:Int):Str:=if(k==1||z.length==0)=true then z else⟨List.foldl (λx1 x2=>x1++x2) #[] (List.replicate k.toNat z.cps)⟩
theorem qf3:OpR X (binaryOp .Mult) (λx y H Q=>∃z k,x=.str z/\y=.int k/\0<k/\k<=1000/\0<z.length/\z.length<=1000/\Q (.str (qb3 z k)) H):=by
 intro z5 s σ H x y v u Q I rx ry h
 obtain⟨z,k,rfl,rfl,h1,h2,h3,h4,q⟩:=h
 obtain⟨t,rfl⟩:=rx
 obtain⟨t',rfl⟩:=ry
 have hm:z.length*k.toNat<=1000*1000:=Nat.mul_le_mul h4 (by omega)
 refine PySem.P.mul_str (by simp;omega) (λ_ _=>?_) (λ_ _=>?_) ?_
 · intro hgt
   have h5:((2:Int)^63-1) / 1000<=(2^63-1) / k:=by
     refine Int.le_ediv_of_mul_le h1 ?_
     have:((2:Int)^63-1) / 1000*k<=(2^63-1) / 1000*1000:=Int.mul_le_mul_of_nonneg_left h2 (by decide)
     exact Int.le_trans this (by decide)
   have h6:(1000:Int)<(2^63-1) / 1000:=by decide
   omega
 · unfold Builtin.Str.tooLong
   have:(sizeLine:Nat)≥1000*1000:=by decide
   simp
   omega
 · rw[if_neg (by omega)]
   unfold qb3 at q
   split
   · rename_i hh
     rw[if_pos hh]at q
     exact⟨.str z,H,I,⟨t,rfl⟩,q⟩
   · rename_i hh
     rw[if_neg hh]at q
     refine⟨?_,⟨.str _,H,I.tok _,⟨_,rfl⟩,q⟩⟩
     show(List.foldl (λx1 x2=>x1++x2) #[] (List.replicate k.toNat z.cps)).size<=sizeLine
     rw[foldl_size]
     have h7:k.toNat*z.cps.size<=1000*1000:=Nat.mul_le_mul (by omega) h4
     have h8:(sizeLine:Nat)≥1000*1000:=by decide
     simp
     omega
def CMul2(i j:Int):Prop:=CMul i j∨(i.natAbs<2^250/\j.natAbs<2^250)
theorem qgj{k:Int}(h:k.natAbs<2^250):Builtin.Int.intBits k<=250:=by
 unfold Builtin.Int.intBits
 split
 · exact Nat.zero_le _
 · rename_i h0
   have hk:k.natAbs≠0:=λz=>h0 (by simpa using z)
   have:k.natAbs.log2<250:=(Nat.log2_lt hk).mpr h
   omega
theorem CMul2.ok{i j:Int}(h:CMul2 i j):IntMulOk i j:=by
 rcases h with h|⟨h1,h2⟩
 · exact h.ok
 · exact IntMulOk.of_le (qgj h1) (qgj h2) (by decide)
theorem op_mul2:OpR X (binaryOp .Mult) (rI CMul2 λi j=>.int (i*j)):=opI λ_ _ _ _ _ _ _ hc q=>mul_int q hc.ok
def bigM(i:Int):Bool:=decide (i.natAbs<2^250)
def qbm(i j:Int):Bool:=qlj i j||(bigM i&&bigM j)
theorem qf8{i j:Int}(h:qbm i j=true):CMul2 i j:=by
 unfold qbm qlj bigM at h
 simp only[Bool.or_eq_true,Bool.and_eq_true,decide_eq_true_eq]at h
 rcases h with h|h
 · exact .inl h
 · exact .inr h
def qol(K:PySem.W.Frag):R2:=λx y H Q=>rI CMul2 (λi j=>.int (i*j)) x y H Q∨qok K x y H Q∨∃z k,x=.str z/\y=.int k/\0<k/\k<=1000/\0<z.length/\z.length<=1000/\Q (.str (qb3 z k)) H
theorem q30(hK:X.K=K):OpR X (binaryOp .Mult) (qol K):=op_mul2.or ((qld hK).or qf3)
end
def q32:D->D->Option D
 |.int i,.int j=>if qbm i j=true then some (.int (i*j))else none
 |.tup xs,.int k=>if 1<k/\k<=1000/\xs≠[]/\xs.length<=1000 then some (.tup (List.replicate k.toNat xs).flatten)else none
 |.str z,.int k=>if 0<k/\k<=1000/\0<z.length/\z.length<=1000 then some (.str (qb3 z k))else none
 |_,_=>none
theorem q31{K:PySem.W.Frag}:OpG K (qol K) q32:=λH R x y d e u Q s rx ry q k=>by
 unfold q32 at q
 split at q
 · rename_i i j
   split at q
   · rename_i h
     (first|obtain rfl:=q.isA rfl|cases q)
     (first|obtain rfl:=rx.isA rfl|cases rx)
     (first|obtain rfl:=ry.isA rfl|cases ry)
     exact .inl ⟨i,j,rfl,rfl,qf8 h,k _ H R (Ext.refl s) (.int _)⟩
   · (first|obtain rfl:=q.isA rfl|cases q)
 · rename_i ds j
   split at q
   · rename_i hc
     (first|obtain rfl:=q.isA rfl|cases q)
     (first|obtain rfl:=ry.isA rfl|cases ry)
     obtain⟨a,xs,rfl,h,r⟩:=rx.isT
     refine .inr (.inl ⟨a,j,xs,rfl,rfl,SqT.of (s _ _ h),hc.1,hc.2.1,λz=>?_,by rw[r.length];exact hc.2.2.2,λp np=>?_⟩)
     · subst z
       (first|obtain rfl:=r.isA rfl|cases r)
       exact hc.2.2.1 rfl
     · have y:=Ext.new (o:=.tup (List.replicate j.toNat xs).flatten) s np
       exact k _ _ _ y (.tup q0r ((r.rep _).mono y.r))
   · (first|obtain rfl:=q.isA rfl|cases q)
 · rename_i z j
   split at q
   · rename_i hc
     (first|obtain rfl:=q.isA rfl|cases q)
     (first|obtain rfl:=ry.isA rfl|cases ry)
     (first|obtain rfl:=rx.isA rfl|cases rx)
     exact .inr (.inr ⟨z,j,rfl,rfl,hc.1,hc.2.1,hc.2.2.1,hc.2.2.2,k _ H R (Ext.refl s) (.str _)⟩)
   · (first|obtain rfl:=q.isA rfl|cases q)
 · (first|obtain rfl:=q.isA rfl|cases q)
section
variable{X:Cx}{K:PySem.W.Frag}{O:List Nat}{pos:Pos}
end
inductive TyX(K:PySem.W.Frag)(H:Hp):V->Value->Prop where
 |exc {a C:Addr} (h:H a=some (excO a (.ref C))) (k:ExcK K C):TyX K H (.ref a) (.ref C)
 |non:TyX K H .non (.type "NoneType")
section
variable{X:Cx}{K:PySem.W.Frag}{O:List Nat}{t:TE}{fa:RhD}
structure KitE(K:PySem.W.Frag)(c:Value)(sub:Str->Option Bool):Prop where
 exc:∀x C b,PySem.W.nsIn K mainGlobals x=some (some (.ref C))->sub x=some b->PySem.W.kitOne K (.ref C) c=some b
 non:PySem.W.kitOne K (.type "NoneType") c=some false
structure qtr(K:PySem.W.Frag)(cs:List Value)(sub:Str->Option Bool):Prop where
 exc:∀x C b,PySem.W.nsIn K mainGlobals x=some (some (.ref C))->sub x=some b->PySem.W.kitAny K (.ref C) cs=some b
 non:PySem.W.kitAny K (.type "NoneType") cs=some false
end
abbrev Xr:=Rho->Option (Str×Rho)
def ExE(K:PySem.W.Frag)(E:XK)(C:Str)(H:Hp):Prop:=∀v,PySem.W.nsIn K mainGlobals C=some (some v)->E v none H
section
variable(K:PySem.W.Frag)(O:List Nat)
end
section
variable{K:PySem.W.Frag}{O:List Nat}{E:XK}{t ta tb:TE}{tr:TA}{tt:TT}{fa fb:RhD}{fs:RhL}{xa xb xs:Xr}
end
def MSX(c:MC)(O:List Nat)(t:TS)(E:XK)(fx:Xr):Prop:=∀(Z:Anc) (D:Ends) (σ:St) (H R:Hp) (ρ:Rho) (C:Str) (ρ':Rho),Z.P=c.P->StR c.K Z O σ H R ρ->fx ρ=some (C,ρ')->(∀O' σ' H' R',StR c.K Z O' σ' H' R' ρ'->ExE c.K E C H')->t D σ H
def MSXa(c:MC)(O:List Nat)(t:TS)(E:XK)(fx:Xr):Prop:=∀(Z:Anc) (D:Ends) (σ:St) (H R:Hp) (ρ:Rho) (C:Str) (ρ':Rho),Z.P=c.P->StR c.K Z O σ H R ρ->fx ρ=some (C,ρ')->(∀H' R',StR c.K Z O σ H' R' ρ'->Same R R'->ExE c.K E C H')->t D σ H
theorem MSXa.g{c:MC}{O:List Nat}{t:TS}{E:XK}{fx:Xr}(h:MSXa c O t E fx):MSX c O t E fx:=λZ D σ H R ρ C ρ' hP S e k=>h Z D σ H R ρ C ρ' hP S e λH' R' S' _=>k O σ H' R' S'
section
variable{c:MC}{O O' O1:List Nat}{t u:TS}{te:TE}{tt:TT}{tr:TA}{g:TG}{f h:RhO}{fe:RhD}{fs:RhL}{ft:RhB}{E:XK}{xe xt fx hx:Xr}
end
section
variable{c:MC}{O O':List Nat}{cv:Value}{i:Nat}{sub:Str->Bool}{tb:XK->TS}{ts:TS}{fb fh:RhO}{xb:Xr}
end
section
variable{K:PySem.W.Frag}{O:List Nat}{tr:TA}{fs:RhL}{E:XK}{n:Nat}
end
section
variable{K:PySem.W.Frag}
end
section
variable(K:PySem.W.Frag)(O:List Nat)
end
section
variable{K:PySem.W.Frag}{O:List Nat}{ta:TE}{tr:TA}{fa:RhD}{fs:RhL}{E:XK}{n:Nat}
end
theorem q8e{α:Type}{o:Option (α×Rho)}{x:α}(h:o.map (·.1)=some x):∃ρ,o=some (x,ρ):=by
 cases o with
 |none=>cases h
 |some p=>cases h;exact⟨p.2,rfl⟩
theorem q43{n:Nat}{js:List Nat}{fg:RhG}{fe:RhD}{ρ:Rho}(g:D->D):∀(xs:List D),(∀x∈xs,∃ρ1,fg x (q51 n js ρ)=some ρ1/\(fe ρ1).map (·.1)=some (g x))->q0v n js none fg (mRet true) fe xs ρ=some (xs.map g,ρ)
 |[],_=>rfl
 | x::xs,h=>by
   obtain⟨ρ1,h1,h2⟩:=h x jf
   obtain⟨ρ2,h2⟩:=q8e h2
   have ih:=q43 (n:=n) (js:=js) (fg:=fg) (fe:=fe) (ρ:=ρ) g xs λy hy=>h y (jg _ hy)
   simp only[q0v,h1,mRet,h2,q4p]
   rw[ih]
   rfl
theorem q4h{n:Nat}{js:List Nat}{fg:RhG}{ft:RhB}{fe:RhD}{ρ:Rho}(p:D->Bool)(g:D->D):∀(xs:List D),(∀x∈xs,∃ρ1,fg x (q51 n js ρ)=some ρ1/\ft ρ1=some (p x,ρ1)/\(p x=true->(fe ρ1).map (·.1)=some (g x)))->q0v n js none fg ft fe xs ρ=some ((xs.filter p).map g,ρ)
 |[],_=>rfl
 | x::xs,h=>by
   obtain⟨ρ1,h1,h2,h3⟩:=h x jf
   have ih:=q4h (n:=n) (js:=js) (fg:=fg) (ft:=ft) (fe:=fe) (ρ:=ρ) p g xs λy hy=>h y (jg _ hy)
   cases hp:p x with
   | false=>
     rw[hp]at h2
     simp only[q0v,h1,h2,q4p]
     rw[ih,List.filter_cons_of_neg (by rw[hp];exact Bool.false_ne_true)]
   | true=>
     rw[hp]at h2
     obtain⟨ρ3,h4⟩:=q8e (h3 hp)
     simp only[q0v,h1,h2,h4,q4p]
     rw[ih,List.filter_cons_of_pos hp]
     rfl
theorem q2n{fg:RhG}{fb:RhO}(I:Nat->Rho->Prop):∀(xs:List D) (k:Nat) (ρ:Rho),I k ρ->(∀i x ρ,xs[i]? =some x->I (k+i) ρ->∃ρ1 ρ2,fg x ρ=some ρ1/\(fb ρ1=some (.nx ρ2)∨fb ρ1=some (.ct ρ2))/\I (k+i+1) ρ2)->∃ρ',q2l fg fb xs ρ=some (.nx ρ')/\I (k+xs.length) ρ'
 |[],k,ρ,h0,_=>⟨ρ,rfl,h0⟩
 | x::xs,k,ρ,h0,hs=>by
   obtain⟨ρ1,ρ2,h1,h2,h3⟩:=hs 0 x ρ rfl h0
   obtain⟨ρ',g1,g2⟩:=q2n I xs (k+1) ρ2 h3 λi y ρ e hi=>by
     have e1:k+1+i=k+(i+1):=by omega
     rw[e1]at hi ⊢
     exact hs (i+1) y ρ (by simpa using e) hi
   refine ⟨ρ', ?_, by rw[jn];have e1:k+(xs.length+1)=k+1+xs.length:=by omega
                      rw[e1];exact g2⟩
   simp only[q2l,h1]
   rcases h2 with h2|h2
   · rw[h2];exact g1
   · rw[h2];exact g1
theorem at0{α:Type}(x:α)(xs:List α):atI (x::xs) 0=some x:=by
 unfold atI ixN
 simp
theorem at1{α:Type}(x y:α)(xs:List α):atI (x::y::xs) 1=some y:=qav (j:=1) rfl
theorem at2{α:Type}(x y z:α)(xs:List α):atI (x::y::z::xs) 2=some z:=qav (j:=2) rfl
theorem at3{α:Type}(x y z u:α)(xs:List α):atI (x::y::z::u::xs) 3=some u:=qav (j:=3) rfl
theorem q3t{α:Type}{xs:List α}{i:Int}(h0:0<=i)(h:i<xs.length):atI xs i=xs[i.toNat]? :=by
 unfold atI ixN
 rw[if_pos h0,if_pos h]
 rfl
theorem q17{n:Nat}(h:n<=1000000):n<=sizeLine:=jt h (by decide)
theorem q1u(lo:Int)(n:Nat):(q1f lo n).length=n:=by simp[q1f]
theorem q29{lo:Int}{n i:Nat}{d:D}(h:(q1f lo n)[i]? =some d):i<n/\d=.int (lo+(i:Int)):=by
 have hi:i<n:=by
   have:=(List.getElem?_eq_some_iff.mp h).1
   rwa [q1u]at this
 refine⟨hi,?_⟩
 unfold q1f at h
 rw[jb,xr hi]at h
 exact(je h).symm
def nx(s:Int):Int:=(s*1181783497276652981+12345678910987) % (2^61-1)
theorem qg2(i j:Int):eqD (.int i) (.int j)=some (i==j):=by
 simp[eqD,D.toP,SeqAt.shaped,PyData.canLay0,PyData.depth,PyData.eqv]
theorem q28{i j:Str}(hi:PyData.strOk i=true)(hj:PyData.strOk j=true):eqD (.str i) (.str j)=some (i==j):=by
 simp[eqD,D.toP,SeqAt.shaped,PyData.canLay0,PyData.depth,PyData.eqv,hi,hj]
theorem q5y(j:Int):eqD .non (.int j)=some false:=by
 simp[eqD,D.toP,SeqAt.shaped,PyData.canLay0,PyData.depth,PyData.eqv]
theorem q5z(j:Int):eqD (.int j) .non=some false:=by
 simp[eqD,D.toP,SeqAt.shaped,PyData.canLay0,PyData.depth,PyData.eqv]
theorem eqD_none:eqD .non .non=some true:=by
 simp[eqD,D.toP,SeqAt.shaped,PyData.canLay0,PyData.depth,PyData.eqv]
section
variable{α β:Type}{a:Rho->Option (α×Rho)}{k:α->Rho->Option (β×Rho)}{ρ:Rho}{fa fb fc:RhD}{ga gb:RhB}{fs:RhL}{g g':D->D->Option D}{g1:D->Option D}{gl:D->Option (List D)}{g2:D->D->Option (List D)}{fl fh:Rho->Option (Option Int×Rho)}
theorem q14:q1s a k ρ=(a ρ).bind λp=>k p.1 p.2:=by
 unfold q1s
 cases a ρ<;>rfl
theorem qrb{x:α}:mRet x ρ=some (x,ρ):=rfl
theorem q1z{o:Option α}:q2q o ρ=o.map λx=>(x,ρ):=by cases o<;>rfl
theorem qki{i:Nat}:mVar i ρ=(ρ[i]?).join.map λd=>(d,ρ):=by
 unfold mVar
 cases h:ρ[i]? with
 |none=>rfl
 |some o=>cases o<;>rfl
theorem qrd:mOp2 g fa fb ρ=(fa ρ).bind λp=>(fb p.2).bind λq=>(g p.1 q.1).map λx=>(x,q.2):=by
 unfold mOp2
 rw[q14]
 congr 1;funext p
 rw[q14]
 congr 1;funext q
 rw[q1z]
theorem qre:mOp1 g1 fa ρ=(fa ρ).bind λp=>(g1 p.1).map λx=>(x,p.2):=by
 unfold mOp1
 rw[q14]
 congr 1;funext p
 rw[q1z]
theorem qmj:qdh gl fa ρ=(fa ρ).bind λp=>(gl p.1).map λx=>(x,p.2):=by
 unfold qdh
 rw[q14]
 congr 1;funext p
 rw[q1z]
theorem qmi:qfl g2 fa fb ρ=(fa ρ).bind λp=>(fb p.2).bind λq=>(g2 p.1 q.1).map λx=>(x,q.2):=by
 unfold qfl
 rw[q14]
 congr 1;funext p
 rw[q14]
 congr 1;funext q
 rw[q1z]
def ixO:D->D->Option D
 |.lst xs,.int j=>atI xs j
 |_,_=>none
theorem qrh{i:Nat}:mIxO i fb ρ=(fb ρ).bind λq=>((q.2[i]?).join).bind λx=>(ixO x q.1).map λz=>(z,q.2):=by
 unfold mIxO
 rw[q14]
 congr 1;funext q
 rw[q14,qki]
 cases(q.2[i]?).join with
 |none=>rfl
 |some x=>show q2q _ _=_;rw[q1z];first|rfl|(cases x<;>(cases q.1<;>rfl))
def blO:D->Option Bool
 |.bl b=>some b
 |_=>none
theorem qm6:q11 fa ρ=(fa ρ).bind λp=>(blO p.1).map λx=>(x,p.2):=by
 unfold q11
 rw[q14]
 congr 1;funext p
 rw[q1z]
 first|rfl|(cases p.1<;>rfl)
theorem qrk:mAnd ga gb ρ=(ga ρ).bind λp=>if p.1=true then gb p.2 else some (false,p.2):=by
 unfold mAnd
 rw[q14]
 congr 1;funext p
 split<;>rfl
theorem qtl:mOr ga gb ρ=(ga ρ).bind λp=>if p.1=true then some (true,p.2)else gb p.2:=by
 unfold mOr
 rw[q14]
 congr 1;funext p
 split<;>rfl
theorem qtn:mIf ga fa fb ρ=(ga ρ).bind λp=>if p.1=true then fa p.2 else fb p.2:=by
 unfold mIf
 rw[q14]
 congr 1;funext p
 split<;>rfl
theorem qrf:mNil ρ=some ([],ρ):=rfl
theorem qmo:q01 fa fs ρ=(fa ρ).bind λp=>(fs p.2).map λq=>(p.1::q.1,q.2):=by
 unfold q01
 rw[q14]
 congr 1;funext p
 rw[q14]
 cases fs p.2<;>rfl
theorem qr7:mTup fs ρ=(fs ρ).bind λp=>if p.1.length<=sizeLine then some (.tup p.1,p.2)else none:=by
 unfold mTup
 rw[q14]
 congr 1;funext p
 rw[q1z]
 split<;>rfl
theorem qrg:mLst fs ρ=(fs ρ).bind λp=>if p.1.length<=sizeLine then some (p.1,p.2)else none:=by
 unfold mLst
 rw[q14]
 congr 1;funext p
 rw[q1z]
 split<;>rfl
theorem qtm:mOf fs ρ=(fs ρ).map λp=>(.lst p.1,p.2):=by
 unfold mOf
 rw[q14]
 cases fs ρ<;>rfl
theorem qmq{f:List D->Option D}:q0k f fs ρ=(fs ρ).bind λp=>(f p.1).map λx=>(x,p.2):=by
 unfold q0k
 rw[q14]
 congr 1;funext p
 rw[q1z]
theorem qik{f:List D->Option D}:q1i f fs ρ=(fs ρ).bind λp=>(qfo (f p.1)).map λx=>(x,p.2):=by
 unfold q1i
 rw[q14]
 congr 1;funext p
 rw[q1z]
def lsO:D->Option (List D)
 |.lst xs=>some xs
 |_=>none
theorem qmp{n:Nat}{js:List Nat}{bw:Option (Nat×Nat)}{fg:RhG}:q21 n js bw fs fg ga fa ρ=(fs ρ).bind λp=>if p.1.length<=sizeLine then q0v n js bw fg ga fa p.1 p.2 else none:=by
 unfold q21
 rw[q14]
theorem qr9:mSeq fa ρ=(fa ρ).bind λp=>(dSeq p.1).map λx=>(x,p.2):=by
 unfold mSeq
 rw[q14]
 congr 1;funext p
 rw[q1z]
 cases p.1<;>rfl
def rng1:List D->Option (List D)
 |[.int j]=>if big j=true then some (q1f 0 j.toNat)else none
 |_=>none
theorem qg1:q37 fs ρ=(fs ρ).bind λp=>(rng1 p.1).map λx=>(x,p.2):=by
 unfold q37
 rw[q14]
 congr 1;funext p
 rw[q1z]
 rfl
def zip2:List D->Option (List D)
 | [x,y]=>match dSeq x,dSeq y with
   |some xs,some ys=>some (zipD xs ys)
   |_,_=>none
 |_=>none
theorem qr6:mZip fs ρ=(fs ρ).bind λp=>(zip2 p.1).map λx=>(x,p.2):=by
 unfold mZip
 rw[q14]
 congr 1;funext p
 rw[q1z]
 rfl
def inO:D->Option (Option Int)
 |.int i=>some (some i)
 |_=>none
theorem qmg:q66 fa ρ=(fa ρ).bind λp=>(inO p.1).map λx=>(x,p.2):=by
 unfold q66
 rw[q14]
 congr 1;funext p
 rw[q1z]
 cases p.1<;>rfl
theorem qtk:mSl fa fl fh ρ=(fa ρ).bind λp=>(fl p.2).bind λq=>(fh q.2).bind λr=>(dSl p.1 q.1 r.1).map λx=>(x,r.2):=by
 unfold mSl
 rw[q14]
 congr 1;funext p
 rw[q14]
 congr 1;funext q
 rw[q14]
 congr 1;funext r
 rw[q1z]
theorem qg0{f h:RhO}:sSeq f h ρ=(f ρ).bind λo=>match o with
   |.nx ρ1=>h ρ1
   |o=>some o:=by
 unfold sSeq
 cases f ρ with
 |none=>rfl
 |some o=>cases o<;>rfl
theorem qm7{i:Nat}:sSet i fa ρ=(fa ρ).map λp=>.nx (p.2.set i (some p.1)):=by
 unfold sSet
 cases fa ρ<;>rfl
theorem qm9{i:Nat}:sOwn i fs ρ=(fs ρ).bind λp=>if i<p.2.length then some (.nx (p.2.set i (some (.lst p.1))))else none:=by
 unfold sOwn
 cases fs ρ<;>rfl
theorem qme{fg:RhG}:sAsg fa fg ρ=(fa ρ).bind λp=>(fg p.1 p.2).map .nx:=by
 unfold sAsg
 cases fa ρ with
 |none=>rfl
 | some p=>
   obtain⟨d,ρ1⟩:=p
   show(match fg d ρ1 with|none=>none|some ρ2=>some (Out.nx ρ2))=(fg d ρ1).map _
   cases fg d ρ1<;>rfl
theorem qr8{f h:RhO}:sIf ga f h ρ=(ga ρ).bind λp=>if p.1=true then f p.2 else h p.2:=by
 unfold sIf
 cases ga ρ<;>rfl
theorem qm8:sRet fa ρ=(fa ρ).map λp=>.rt p.1 p.2:=by
 unfold sRet
 cases fa ρ<;>rfl
theorem qih:q7e fs ρ=(fs ρ).map λp=>.rt (.lst p.1) p.2:=by
 unfold q7e
 cases fs ρ<;>rfl
theorem qig{i:Nat}:q55 i ρ=((ρ[i]?).join.bind lsO).map λd=>.rt (.lst d) (ρ.set i none):=by
 unfold q55
 cases h:ρ[i]? with
 |none=>rfl
 | some o=>
   cases o with
   |none=>rfl
   |some d=>cases d<;>rfl
theorem q8c{α:Type}(i:Nat)(x:Option α):(if isL ρ i=true then x else none)=((ρ[i]?).join.bind lsO).bind λ_=>x:=by
 unfold isL
 cases h:ρ[i]? with
 |none=>rfl
 | some o=>
   cases o with
   |none=>rfl
   |some d=>cases d<;>rfl
theorem qma:sNil ρ=some (.nx ρ):=rfl
theorem qij:q81 fa ρ=(fa ρ).map λp=>.nx p.2:=by
 unfold q81
 cases fa ρ<;>rfl
theorem qmb{gm:List D->List D->Option (List D)}{i:Nat}:sMut gm i fs ρ=((ρ[i]?).join.bind lsO).bind λ_=>(fs ρ).bind λp=>((p.2[i]?).join.bind lsO).bind λxs=>(gm xs p.1).map λys=>.nx (p.2.set i (some (.lst ys))):=by
 refine Eq.trans ?_ (q8c _ _)
 unfold sMut
 congr 1
 cases fs ρ with
 |none=>rfl
 | some p=>
   show(match p.2[i]? with|some (some (.lst xs))=>_|_=>none)=_
   show _=((p.2[i]?).join.bind lsO).bind _
   cases h:p.2[i]? with
   |none=>rfl
   | some o=>
     cases o with
     |none=>rfl
     | some d=>
       cases d with
       | lst xs=>
         show(match gm xs p.1 with|some ys=>some (Out.nx _)|none=>none)=(gm xs p.1).map _
         cases gm xs p.1<;>rfl
       |_=>rfl
theorem qmd{i:Nat}:sExt i fs ρ=((ρ[i]?).join.bind lsO).bind λ_=>(fs ρ).bind λp=>((p.2[i]?).join.bind lsO).bind λxs=>if xs.length+p.1.length<=sizeLine then some (.nx (p.2.set i (some (.lst (xs++p.1)))))else none:=by
 refine Eq.trans ?_ (q8c _ _)
 unfold sExt
 congr 1
 cases fs ρ with
 |none=>rfl
 | some p=>
   show(match p.2[i]? with|some (some (.lst xs))=>_|_=>none)=_
   show _=((p.2[i]?).join.bind lsO).bind _
   cases h:p.2[i]? with
   |none=>rfl
   | some o=>
     cases o with
     |none=>rfl
     |some d=>cases d<;>rfl
theorem qmc{fg:RhG}{f:RhO}:sFor fs fg f ρ=(fs ρ).bind λp=>q2l fg f p.1 p.2:=by
 unfold sFor
 cases fs ρ<;>rfl
theorem qmm{i:Nat}{d:D}:gSet i d ρ=some (ρ.set i (some d)):=rfl
end
theorem qlz{n:Nat}(h:n<=1000000):(n<=sizeLine)=True:=eq_true (q17 h)
theorem q80{n d:Nat}{k:Int}(h:0<=k):HT.sIx n d (some k)=min k.toNat n:=by
 show(if k<0 then(k+(n:Int)).toNat else min k.toNat n)=_
 rw[if_neg (by omega)]
theorem qmt(xs:List D){k:Int}(h:0<=k):cutD xs none (some k)=xs.take k.toNat:=by
 unfold cutD
 rw[q80 h,HT.sIx_none,List.drop_zero,Nat.sub_zero]
 exact List.take_eq_take_min.symm
theorem qg7(xs:List D){k:Int}(h:0<=k):cutD xs (some k) none=xs.drop k.toNat:=by
 unfold cutD
 rw[q80 h,HT.sIx_none]
 by_cases hk:k.toNat<=xs.length
 · rw[Nat.min_eq_left hk]
   exact List.take_of_length_le (by rw[xl];exact ja _)
 · rw[Nat.min_eq_right (by omega),List.drop_eq_nil_of_le (ja _),List.drop_eq_nil_of_le (by omega)]
   simp
theorem qg5{xs:List D}{k:Int}(h0:0<=k):dSl (.lst xs) none (some k)=some (.lst (xs.take k.toNat)):=by
 show some (D.lst (cutD xs none (some k)))=_
 rw[qmt xs h0]
theorem q5g{xs:List D}{k:Int}(h0:0<=k):dSl (.lst xs) (some k) none=some (.lst (xs.drop k.toNat)):=by
 show some (D.lst (cutD xs (some k) none))=_
 rw[qg7 xs h0]
def Ite(K:PySem.W.Frag)(p:Addr):It:=
 ⟨λi H=>∃xs x,SqL K H p xs/\xs[i]? =some x,
  λi H v H'=>∃T x,v=.ref T/\H T=none/\H'=upd H T (.tup [.int (i:Int),x])/\∀xs,SqL K H p xs->xs[i]? =some x,
  λi H=>∃xs,SqL K H p xs/\xs.length<=i⟩
def qrn(p e it:Addr)(i:Nat)(h:Heap):Prop:=(∃old,IsEnum h e it (i:Int) old)/\h.IsListIter it p i
theorem qe8{P:Program}{w:World}{K:PySem.W.Frag}{zj:List Expr}{x1:Nat}{pos:Pos}{p e it:Addr}(hei:e≠it):
   Turn P w K (.Tuple zj x1 pos) (Ite K p) [e,it] e (qrn p e it) where
 mem:=by simp
 obj:=λi h st c hc=>by
   obtain⟨⟨old,he⟩,o,go,_,gd⟩:=st
   simp only[List.mem_cons,List.not_mem_nil,or_false]at hc
   rcases hc with rfl|rfl
   · exact⟨_,he,λv e=>by cases e⟩
   · exact⟨o,go,λv e=>by rw[gd]at e;cases e⟩
 keep:=λi h h' st k=>by
   obtain⟨⟨old,he⟩,o,go,r⟩:=st
   exact⟨⟨old,k e (by simp) _ he⟩,o,k it (by simp) _ go,r⟩
 item:=by
   intro X hP hw hK hc i z5 s σ H E I hf st hg
   subst hP hw hK
   obtain⟨xs,x,q1,ex⟩:=hg
   obtain⟨it1,r1,t1,_⟩:=I.list q1
   obtain⟨u,eu,ru⟩:=r1.get ex
   obtain⟨⟨old,he⟩,j1⟩:=st
   refine wpAny_pyNext_enum_item he j1 t1.isList (x:=u) (by simpa using eu) hei λh' ho n1 tp sz kk=>?_
   refine⟨_,rfl,?_⟩
   refine wpAny_letOwnedTupleGo_enum ho λh'' z'' s''=>?_
   have fresh:H s.heap.objs.size=none:=I.hok.fresh (ja _)
   have zne:s.heap.objs.size≠e:=λq=>by
     have:=j8 he
     rw[<-q]at this
     exact jy _ this
   have keep:∀c o,c∉[e,it]->s.heap.get? c=some o->h''.get? c=some o:=λc o hc q=>by
     simp only[List.mem_cons,List.not_mem_nil,or_false,not_or]at hc
     exact s''.extBut c o hc.1 (kk c o hc.1 hc.2 q)
   have tp':h''.get? s.heap.objs.size=some {cls:=.type "tuple",data:=.seq #[.int i s.toks,u]}:=s''.extBut _ _ zne tp
   have I':Inv X z5 σ (upd H s.heap.objs.size (.tup [.int (i:Int),x])) {s with heap:=h'',toks:=s.toks+1}:=by
     refine I.step (g':=s.gens) (d':=s.drawn) (ch:=[e,it]) (λc hc=>?_) (λc o _ _ hc e _=>keep c o hc e) (λc o _ _ hc e _=>⟨o.slots,keep c o hc e⟩) (λc o _ e n=>?_) (λc o hc e=>⟨o,keep c o hc e⟩)
       (λc zs e=>?_) (λc o w' e=>?_) (λc ps e=>⟨#[],?_⟩) (λm hm=>?_) (λc o e=>?_) I.bare
     · obtain⟨_,f1,f2,f3,f4,f5⟩:=hf c hc
       exact⟨f3,f1,f4,f5⟩
     · rw[q0n (jh (j8 e))];exact n
     · rw[q0n (q1a e fresh)];exact e
     · rw[q0n (q1a e fresh)];exact e
     · rw[q0n (q1a e fresh),e];simp
     · obtain⟨o,es,ep,ho,r⟩:=hm
       exact⟨o,es,ep,keep _ o (λq=>(hf _ q).2.1 rfl) ho,r⟩
     · by_cases hb:c=s.heap.objs.size
       · subst hb
         rw[q0r]at e
         cases e
         exact⟨by show 2<=sizeLine;decide,[.int i s.toks,u],.cons ⟨_,rfl⟩ (.cons ru .nil),⟨_,tp',⟨rfl,_,rfl⟩,rfl⟩⟩
       · rw[q0n hb]at e
         refine(I.hok c o e).stay (λd w' hd q=>keep d w' (λm=>?_) q) (λd q=>?_) λd zs q=>?_
         · have n:=(hf d m).1
           rcases hd with rfl|hd
           · rw[n]at e;cases e
           · rw[n]at hd;cases hd
         · rw[q0n (q1a q fresh)];exact q
         · rw[q0n (q1a q fresh)];exact q
   have lt:∀c∈[e,it],c<s.heap.objs.size:=λc hc=>by
     simp only[List.mem_cons,List.not_mem_nil,or_false]at hc
     rcases hc with rfl|rfl
     · exact j8 he
     · obtain⟨o,e,_⟩:=j1;exact j8 e
   refine⟨.ref s.heap.objs.size,_,I',rfl,⟨_,x,rfl,fresh,rfl,λzs q=>by rw[I.list_inj q q1];exact ex⟩,?_,λc hc=>?_⟩
   · obtain⟨o,go,r⟩:=n1
     exact⟨⟨u,by simpa using z''⟩,o,s''.extBut _ _ hei.symm go,r⟩
   · rw[q0n (jh (lt c hc))]
     exact(hf c hc).1
 done:=by
   intro X hP hw hK hc i z5 s σ H E I hf st hg
   subst hP hw hK
   obtain⟨xs,q1,hl⟩:=hg
   obtain⟨it1,r1,t1,_⟩:=I.list q1
   obtain⟨⟨old,he⟩,j1⟩:=st
   have l1:=r1.length
   refine wpAny_pyNext_enum_end (I.ok.hd hc) he j1 t1.isList (by simp;omega) λh' kk=>⟨rfl,?_⟩
   have keep:∀c o,c∉[e,it]->s.heap.get? c=some o->h'.get? c=some o:=λc o hc q=>by
     simp only[List.mem_cons,List.not_mem_nil,or_false,not_or]at hc
     exact kk c o hc.2 q
   show Inv X z5 σ H {s with heap:=h',toks:=s.toks}
   refine I.step (g':=s.gens) (d':=s.drawn) (ch:=[e,it]) (λc hc=>?_) (λc o _ _ hc e _=>keep c o hc e) (λc o _ _ hc e _=>⟨o.slots,keep c o hc e⟩) (λc o _ e n=>n) (λc o hc e=>⟨o,keep c o hc e⟩)
     (λc zs e=>e) (λc o w' e=>e) (λc ps e=>⟨#[],by rw[e];simp⟩) (λm hm=>?_) (λc o e=>?_) I.bare
   · obtain⟨_,f1,f2,f3,f4,f5⟩:=hf c hc
     exact⟨f3,f1,f4,f5⟩
   · obtain⟨o,es,ep,ho,r⟩:=hm
     exact⟨o,es,ep,keep _ o (λq=>(hf _ q).2.1 rfl) ho,r⟩
   · refine(I.hok c o e).stay (λd w' hd q=>keep d w' (λm=>?_) q) (λd q=>q) λd zs q=>q
     have n:=(hf d m).1
     rcases hd with rfl|hd
     · rw[n]at e;cases e
     · rw[n]at hd;cases hd
 self:=λ_ _ _ _ _ st h=>by
   obtain⟨⟨old,he⟩,_⟩:=st
   exact wpAny_pyIter_enum he h
section
variable{X:Cx}{a:Expr}{ta:TE}{p pos:Pos}{zj:List Expr}{x1:Nat}{tp:Pos}
def qr5(K:PySem.W.Frag)(ta:TE):TI:=λσ H R=>ta σ H λv H1=>∃p1,[v]=[V.ref p1]/\(∃xs,SqL K H1 p1 xs)/\R (Ite K p1) H1
theorem qes{K:PySem.W.Frag}(hK:X.K=K)(hg:Gl X "enumerate")(hm:X.mg "enumerate"=none)(ha:PE X a ta)(he:starEach [a] X.env=(false,eval a X.env)::starEach [] X.env:=by rfl)(hpl:(backTo pos (starEach [] X.env)).any (·.1)=false:=by rfl):
   PI X (.Tuple zj x1 tp) (.Call (.Name "enumerate" p) [a] [] pos) (qr5 K ta):=by
 subst hK
 intro z5 s σ H R I h
 refine xo (q4f I hg hm (u:=.type "enumerate") (by rfl) ?_)
 refine PyProof.Rows.callWith_type1 (thn ((q00 ha q05 he) pos z5 s σ H (λvs H1=>∃p1,vs=[.ref p1]/\(∃xs,SqL X.K H1 p1 xs)/\R (Ite X.K p1) H1) I h) λus s1 h1=>?_) he hpl
 obtain⟨vs,H1,I1,r1,p1,rfl,⟨xs,q1⟩,k⟩:=h1
 obtain⟨u,rfl,ru⟩:=vals1 r1
 cases(show u=Value.ref p1 from ru)
 obtain⟨it1,r1,t1,_⟩:=I1.list q1
 have lt:p1<s1.heap.objs.size:=by
   obtain⟨o,e,_⟩:=t1.isList;exact j8 e
 refine call_enumerate_list t1.isList λh' hz j1 sz kk=>wpAny_pyIter_enum hz ?_
 have I2:Inv X z5 σ H1 {s1 with heap:=h',toks:=s1.toks}:=I1.kept kk
 refine⟨_,_,_,_,H1,rfl,I2,qe8 (p:=p1) (e:=s1.heap.objs.size+1) (it:=s1.heap.objs.size) (Nat.ne_of_gt (Nat.lt_succ_self _)),⟨⟨_,hz⟩,j1⟩,λc hc=>?_,k⟩
 have le:s1.heap.objs.size<=c:=by
   simp only[List.mem_cons,List.not_mem_nil,or_false]at hc
   rcases hc with rfl|rfl<;>first|exact ja _|exact Nat.le_add_right _ _
 exact I1.fpOk le (I1.hok.fresh le)
end
def q5e(xs:List D):List D:=xs.zipIdx.map λq=>D.tup [.int (q.2:Int),q.1]
section
variable{K:PySem.W.Frag}{O:List Nat}{t:TE}{fa:RhD}
theorem q76{xs:List D}{i:Nat}:(q5e xs)[i]? =(xs[i]?).map λx=>D.tup [.int (i:Int),x]:=by
 unfold q5e
 rw[jb,List.getElem?_zipIdx]
 cases xs[i]? with
 |none=>rfl
 |some x=>simp
theorem qm3{R:Hp}{p:Addr}{xs:List V}{ds:List D}(h:SqL K R p xs)(r:Rps K R xs ds):ItOk K (Ite K p) R (q5e ds):=λH' R' s b i=>by
 have g1:=Same.sqL b (Same.sqL s h)
 have l1:=r.length
 have len:(q5e ds).length=ds.length:=by simp[q5e]
 refine⟨λe=>⟨xs,g1,by omega⟩,λd e=>?_⟩
 rw[q76]at e
 cases e1:ds[i]? with
 |none=>rw[e1]at e;cases e
 | some d1=>
   rw[e1]at e
   cases e
   obtain⟨v1,a1,a2⟩:=r.get e1
   refine⟨⟨xs,v1,g1,a1⟩,λx H'' y=>?_⟩
   obtain⟨T,x1,rfl,hT,rfl,z1⟩:=y
   have w1:=z1 xs g1
   rw[a1]at w1
   cases w1
   have y:=Ext.new (o:=.tup [.int (i:Int),v1]) b hT
   exact⟨_,y,.tup q0r (.cons (.int _) (.cons ((a2.mono s).mono y.r) .nil))⟩
def qdi(f:RhD):RhL:=q1s f λd=>q2q (match d with
 |.lst xs=>some (q5e xs)
 |_=>none)
theorem qfh(h:ME K O t fa):MI K O (qr5 K t) (qdi fa):=λZ σ H R ρ ds ρ' Q S e k=>by
 obtain⟨d,ρ1,e1,e⟩:=q0c e
 obtain⟨e2,rfl⟩:=q0m e
 cases d with
 | lst xs=>
   cases e2
   refine h Z σ H R ρ _ _ _ S e1 λv H1 R1 S1 st1 r1=>?_
   obtain⟨_,_,rfl,q,r⟩:=r1.isL
   exact⟨_,rfl,⟨_,Same.sqL S1.same q⟩,k _ H1 R1 S1 st1 (qm3 q r)⟩
 |_=>cases e2
def qrm:D->Option (List D)
 |.lst xs=>some (q5e xs)
 |_=>none
theorem qmn{ρ:Rho}:qdi fa ρ=(fa ρ).bind λp=>(qrm p.1).map λx=>(x,p.2):=by
 unfold qdi
 rw[q14]
 congr 1;funext p
 rw[q1z]
 cases p.1<;>rfl
end
theorem qdn(l:Addr)(xs:Array Value)(n:Nat)(b:Addr)(ys:Array Value)(m:Nat)(dct:Option Addr)(sl:Array (Option Value))
   (h0:¬(!xs.isEmpty&&Builtin.List.listTooLong (xs.size+ys.size))=true) (h1:xs.size<=sizeLine) (h2:xs.size+ys.size<=sizeLine+1):
   Meets (Builtin.«list.extend» ⟨[.ref l,.ref b],[]⟩) (λ_ R s=>
     s.heap.get? l=some ⟨.type "list",none,.seq xs n,#[]⟩/\s.heap.get? b=some ⟨.type "tuple",dct,.seq ys m,sl⟩/\
     R (.ok (.ret Value.none)) ⟨s.heap.update l (Obj.mapSeq λz=>z++ys),s.gens,s.drawn,s.toks,s.os⟩):=by
 refine .of_wp λprog w A R s h=>?_
 obtain⟨hp,g,d,tk,os⟩:=s
 obtain⟨hl,hb,h⟩:=h
 have c1:=AutoSeq1.idx_int
 have c2:=AutoSeq1.sub_tuple_tuple
 have c3:=AutoSeq1.sub_list_list
 have c4:=AutoSeq1.sub_tuple_list
 have c5:=AutoSeq1.sub_list_tuple
 have hz:(xs++ys).size<=sizeLine+1:=by rw[Array.size_append];exact h2
 wp_walk using(wpAny_updateSeq hl rfl (hz:=h1) (_hz':=hz)),AutoSeq1.wpAny_loadPart' hl,AutoSeq1.wpAny_loadPart' hb
 exact⟨_,rfl,h⟩
def qb5(K:PySem.W.Frag):V->List V->Hp->VK->Prop:=λx vs H Q=>∃l b xs zs,x=.ref l/\vs=[.ref b]/\H l=some (.lst xs)/\SqT K H b zs/\xs.length+zs.length<=sizeLine/\Q .non (upd H l (.lst (xs++zs)))
section
variable{X:Cx}{K:PySem.W.Frag}{c:MC}{O O':List Nat}{t:TE}{fa:RhD}
theorem qdc(hK:X.K=K):MtM X "list.extend" (qb5 K):=by
 subst hK
 intro z5 s σ H x vs v us Q I rx rv h
 obtain⟨l,b,xs,zs,rfl,rfl,hH,hB,hz,q⟩:=h
 (first|obtain rfl:=rx.isA rfl|cases rx)
 obtain⟨u,rfl,ru⟩:=rv.one
 (first|obtain rfl:=ru.isA rfl|cases ru)
 obtain⟨z,its,n,r,hl,e⟩:=I.lstM hH
 obtain⟨its2,r2,⟨⟨c2,dct,dt,sl⟩,e2,hc,n2,hd⟩,_⟩:=I.tuple hB
 replace hc:c2=.type "tuple":=hc
 replace hd:dt=.seq its2.toArray n2:=hd
 subst hc hd
 have l2:=r2.length
 have hsz:its.toArray.size+its2.toArray.size<=sizeLine:=by rw[jv,jv];omega
 have hlong:¬(!its.toArray.isEmpty&&Builtin.List.listTooLong (its.toArray.size+its2.toArray.size))=true:=by
   rw[q87 hsz,Bool.and_false]
   exact Bool.false_ne_true
 refine call_meets F.slot_list_extend ⟨_,e,rfl⟩ F.entry_list_extend (F.args_list_extend_2 _ _) (qdn l its.toArray n b its2.toArray n2 dct sl hlong (by rw[jv];omega) (by omega)) ⟨e,e2,?_⟩
 refine⟨.non,_,I.lset (its':=its++its2) hH e (by simp) (r.append r2) ?_,rfl,q⟩
 rw[jd]
 omega
def qd3(i:Nat)(fa:RhD):RhO:=λρ=>if isL ρ i=true then(match fa ρ with
 | some (.tup ys,ρ1)=>match ρ1[i]? with
   |some (some (.lst xs))=>if xs.length+ys.length<=sizeLine then some (.nx (ρ1.set i (some (.lst (xs++ys)))))else none
   |_=>none
 |_=>none)else none
theorem qls{i:Nat}(hi:i∈O)(ha:ME c.K O t fa)(hs:subO c O O'=true):MS c O O' (qcc (tBM c.K "list" (qb5 c.K) (tVar i) (q9q t tNil))) (qd3 i fa):=λZ E σ H R ρ o hP S e k=>by
 unfold qd3 at e
 split at e
 case isFalse=>cases e
 rename_i hL
 cases e1:fa ρ with
 |none=>rw[e1]at e;cases e
 | some p=>
   obtain⟨d,ρ1⟩:=p
   rw[e1]at e
   cases d with
   | tup ys=>
     dsimp only at e
     obtain⟨l,vs,ds,h1,h2,h3,h4,h5⟩:=S.own i hi
     obtain⟨us,_,rfl,rfl,_⟩:=qft hL h1 h5
     refine⟨.ref l,h2,.inl ⟨rfl,us,SqL.of h3⟩,ha Z σ H R ρ _ ρ1 _ S e1 λv H1 R1 S1 st1 r1=>?_⟩
     obtain⟨l',vs',ds',g1,g2,g3,g4,g5⟩:=S1.own i hi
     rw[h2]at g2
     cases g2
     rw[g1]at e
     cases g5 with
     |dct _=>cases e
     |dit _=>cases e
     |lst g5=>
     rename_i vs' ds'
     dsimp only at e
     split at e
     · rename_i hz
       cases e
       obtain⟨_,_,rfl,q,r⟩:=r1.isT
       refine⟨l,_,vs',_,rfl,rfl,g3,SqT.of (S1.same _ _ q),by rw[g5.length,r.length];exact hz,?_⟩
       obtain⟨S2,s2⟩:=(S1.write hi h2 (.lst (g5.append r))).sub' hP hs
       exact k σ _ _ S2 (st1.r.trans s2)
     · cases e
   |_=>cases e
end
section
variable{ρ:Rho}{fa fb:RhD}{fs:RhL}
def tupO:D->Option (List D)
 |.tup xs=>some xs
 |_=>none
theorem qii{i:Nat}:qd3 i fa ρ=((ρ[i]?).join.bind lsO).bind λ_=>(fa ρ).bind λp=>(tupO p.1).bind λys=>((p.2[i]?).join.bind lsO).bind λxs=>if xs.length+ys.length<=sizeLine then some (.nx (p.2.set i (some (.lst (xs++ys)))))else none:=by
 refine Eq.trans ?_ (q8c _ _)
 unfold qd3
 congr 1
 cases fa ρ with
 |none=>rfl
 | some p=>
   obtain⟨d,ρ1⟩:=p
   cases d with
   | tup ys=>
     show(match ρ1[i]? with|some (some (.lst xs))=>_|_=>none)=((ρ1[i]?).join.bind lsO).bind _
     cases h:ρ1[i]? with
     |none=>rfl
     | some o=>
       cases o with
       |none=>rfl
       |some d=>cases d<;>rfl
   |_=>rfl
def repO(xs:List D):D->Option (List D)
 |.int k=>if -(2^63)<=k/\k<2^63/\xs.length*k.toNat<=sizeLine then some (List.replicate k.toNat xs).flatten else none
 |_=>none
theorem qkj:mRep fs fb ρ=(fs ρ).bind λp=>(fb p.2).bind λq=>(repO p.1 q.1).map λx=>(x,q.2):=by
 unfold mRep
 rw[q14]
 congr 1;funext p
 rw[q14]
 congr 1;funext q
 rw[q1z]
 cases q.1<;>rfl
theorem qb4{ρ1 ρ2:Rho}{xs zs:List D}{y:D}(h1:fs ρ=some (xs,ρ1))(h2:fb ρ1=some (y,ρ2))(h3:repO xs y=some zs):mRep fs fb ρ=some (zs,ρ2):=by
 rw[qkj,h1]
 show(fb ρ1).bind _=_
 rw[h2]
 show(repO xs y).map _=_
 rw[h3]
 rfl
theorem q82(x:D){k:Int}(h0:0<=k)(h:k<=1000000):repO [x] (.int k)=some (List.replicate k.toNat x):=by
 have hz:[x].length*k.toNat<=sizeLine:=by rw[List.length_singleton,Nat.one_mul];exact q17 (by omega)
 show(if -(2^63)<=k/\k<2^63/\[x].length*k.toNat<=sizeLine then some (List.replicate k.toNat [x]).flatten else none)=_
 rw[if_pos ⟨by omega,by omega,hz⟩,List.flatten_replicate_singleton]
theorem q6g(xs ys:List Int):zipD (xs.map D.int) (ys.map D.int)=(xs.zip ys).map λq=>D.tup [.int q.1,.int q.2]:=by
 unfold zipD
 rw[List.zipWith_map,List.zip,List.map_zipWith]
end
def qeb(C:Addr)(names:List Str):Sp:=λvs H Q _=>∃(x dx:Addr) (args:List V),vs=.ref x::args/\args.length=names.length/\H x=some (.ins C dx [])/\Q .non (upd H x (.ins C dx (names.zip args)))
section
variable{K:PySem.W.Frag}{R:Hp}{O:List Nat}{t ta:TE}{tr:TA}{fa fb:RhD}{fs:RhL}{E:XK}{C:Addr}{x m f:Str}
theorem Rfs.zip:∀{names:List Str} {vs:List V} {ds:List D},Rps K R vs ds->Rfs K R (names.zip vs) (names.zip ds)
 |[],_,_,_=>.nil
 |_::_,_,_,.nil=>.nil
 |_::_,_,_,.cons h r=>.cons h (Rfs.zip r)
theorem Rfs.lookup:∀{fs:List (Str×V)} {gs:List (Str×D)} {d:D},Rfs K R fs gs->gs.lookup f=some d->∃v,fs.lookup f=some v/\Rp K R v d
 |_,_,_,.nil,e=>by cases e
 | _,_,d,.cons (f:=g) (x:=v) (d:=d') h r,e=>by
   rw[List.lookup_cons]at e ⊢
   cases q:f==g with
   | true=>
     rw[q]at e
     cases e
     exact⟨v,rfl,h⟩
   | false=>
     rw[q]at e
     exact Rfs.lookup r e
theorem Rfs.lookup_none:∀{fs:List (Str×V)} {gs:List (Str×D)},Rfs K R fs gs->gs.lookup f=none->fs.lookup f=none
 |_,_,.nil,_=>rfl
 | _,_,.cons (f:=g) h r,e=>by
   rw[List.lookup_cons]at e ⊢
   cases q:f==g with
   |true=>rw[q]at e;cases e
   | false=>
     rw[q]at e
     exact Rfs.lookup_none r e
def qfn(x:Str)(names:List Str)(fs:RhL):RhD:=q1s fs λds=>q2q (if ds.length=names.length then some (.obj x (names.zip ds))else none)
theorem qfi{names:List Str}(n:PySem.W.nsIn K mainGlobals x=some (some (.ref C)))(h:MA K O tr fs):ME K O (qnq C (qeb C names) [] E tr) (qfn x names fs):=λZ σ H R ρ d ρ' Q S e k=>by
 obtain⟨ds,ρ1,e1,e⟩:=q0c e
 obtain⟨e2,rfl⟩:=q0m e
 split at e2
 · rename_i hl
   cases e2
   refine h Z σ H R ρ ds _ _ S e1 λvs H1 R1 S1 st1 r1=>?_
   intro a dx ha hdx hne
   refine⟨a,dx,vs,by rw[List.append_nil],by rw[r1.length,hl],q0r,rfl,?_⟩
   rw[qe4]
   have y1:=Ext.hid (o:=.own a) S1.sub hdx
   have ha2:(upd H1 dx (HO.own a)) a=none:=by rw[q0n (Ne.symm hne)];exact ha
   have y2:=Ext.new (o:=.ins C dx (names.zip vs)) y1.s ha2
   exact k _ _ _ ((S1.ext y1).ext y2) ((st1.trans y1.stp).trans y2.stp) (.obj n q0r (Rfs.zip (r1.mono y2.r)))
 · cases e2
def qfm(x:Str):RhD:=mRet (.obj x [])
theorem qi0(n:PySem.W.nsIn K mainGlobals x=some (some (.ref C))):ME K O (qjm C) (qfm x):=λZ σ H R ρ d ρ' Q S e k=>by
 cases e
 intro a dx ha hdx hne
 have y1:=Ext.hid (o:=.own a) S.sub hdx
 have ha2:(upd H dx (HO.own a)) a=none:=by rw[q0n (Ne.symm hne)];exact ha
 have y2:=Ext.new (o:=.ins C dx []) y1.s ha2
 exact k _ _ _ ((S.ext y1).ext y2) (y1.stp.trans y2.stp) (.obj n q0r .nil)
def fldO(x f:Str):D->Option D
 |.obj y gs=>if y=x then gs.lookup f else none
 |_=>none
def mFld(x f:Str)(fa:RhD):RhD:=q1s fa λd=>q2q (fldO x f d)
theorem qk9{C':Addr}(n:PySem.W.nsIn K mainGlobals x=some (some (.ref C)))(n':PySem.W.nsIn K mainGlobals x=some (some (.ref C'))):C'=C:=by
 rw[n]at n'
 cases n'
 rfl
theorem qfj(n:PySem.W.nsIn K mainGlobals x=some (some (.ref C)))(c:Cls K C)(na:NoAttr K C f)(h:ME K O ta fa):ME K O (tFld K ta f) (mFld x f fa):=λZ σ H R ρ d ρ' Q S e k=>by
 obtain⟨d0,ρ1,e1,e⟩:=q0c e
 obtain⟨e2,rfl⟩:=q0m e
 refine h Z σ H R ρ _ _ _ S e1 λv H1 R1 S1 st1 r1=>?_
 cases d0 with
 | obj y gs=>
   have e3:(if y=x then gs.lookup f else none)=some d:=e2
   split at e3
   · rename_i hy
     subst hy
     cases r1 with
     | obj n' hR rf=>
       have hC:=qk9 n n'
       subst hC
       obtain⟨v',hl,rv⟩:=rf.lookup e3
       exact⟨_,_,_,_,v',rfl,S1.sub _ _ hR,c,na,hl,k v' H1 R1 S1 st1 rv⟩
   · cases e3
 |_=>cases e2
def q7f(x m:Str)(f:List D->Option D)(d:D)(ds:List D):Option D:=match d with
 |.obj y gs=>if y=x/\gs.lookup m=none then f (d::ds)else none
 |_=>none
def q3m(x m:Str)(f:List D->Option D)(fa:RhD)(fs:RhL):RhD:=q1s fa λd=>q1s fs λds=>q2q (q7f x m f d ds)
theorem qaf{k0:Nat}{g:List D->Option D}(n:PySem.W.nsIn K mainGlobals x=some (some (.ref C)))(hg:q1j k0 g)(h:ME K O ta fa)(ha:MA K O tr fs):ME K O (qnp C m (spP K false k0 g) [] E ta tr) (q3m x m g fa fs):=λZ σ H R ρ d ρ' Q S e k=>by
 obtain⟨d0,ρ1,e1,e⟩:=q0c e
 obtain⟨ds,ρ2,e2,e⟩:=q0c e
 obtain⟨e3,rfl⟩:=q0m e
 refine h Z σ H R ρ _ _ _ S e1 λv H1 R1 S1 st1 r1=>?_
 cases d0 with
 | obj y gs=>
   have e4:(if y=x/\gs.lookup m=none then g (.obj y gs::ds)else none)=some d:=e3
   split at e4
   · rename_i hy
     obtain⟨hy,hm⟩:=hy
     subst hy
     have r1':=r1
     cases r1 with
     | obj n' hR rf=>
       have hC:=qk9 n n'
       subst hC
       refine⟨_,_,_,rfl,S1.sub _ _ hR,rf.lookup_none hm,?_⟩
       refine ha Z σ H1 R1 ρ1 ds _ _ S1 e2 λvs H2 R2 S2 st2 r2=>?_
       rw[List.append_nil]
       have r3:=Rps.cons (r1'.mono st2.r) r2
       exact⟨by rw[r3.length];exact hg _ d e4,R2,_,d,S2.sub,r3,e4,λv H3 R3 y q=>k v H3 R3 (S2.ext y) ((st1.trans st2).trans y.stp) q⟩
   · cases e4
 |_=>cases e3
def mOrE(f g:RhD):RhD:=λρ=>match f ρ with
 |some r=>some r
 |none=>g ρ
theorem qkb{t1 t2:TE}(h1:ME K O t1 fa)(h2:ME K O t2 fb):ME K O (λσ H Q=>t1 σ H Q∨t2 σ H Q) (mOrE fa fb):=λZ σ H R ρ d ρ' Q S e k=>by
 unfold mOrE at e
 cases e1:fa ρ with
 | some q=>
   rw[e1]at e
   cases e
   exact .inl (h1 Z σ H R ρ d ρ' Q S e1 k)
 | none=>
   rw[e1]at e
   exact .inr (h2 Z σ H R ρ d ρ' Q S e k)
theorem qml{ρ:Rho}{names:List Str}:qfn x names fs ρ=(fs ρ).bind λp=>(if p.1.length=names.length then some (D.obj x (names.zip p.1))else none).map λy=>(y,p.2):=by
 unfold qfn
 rw[q14]
 congr 1;funext p
 rw[q1z]
theorem qrj{ρ:Rho}:mFld x f fa ρ=(fa ρ).bind λp=>(fldO x f p.1).map λy=>(y,p.2):=by
 unfold mFld
 rw[q14]
 congr 1;funext p
 rw[q1z]
theorem qmk{ρ:Rho}{g:List D->Option D}:q3m x m g fa fs ρ=(fa ρ).bind λp=>(fs p.2).bind λq=>(q7f x m g p.1 q.1).map λy=>(y,q.2):=by
 unfold q3m
 rw[q14]
 congr 1;funext p
 rw[q14]
 congr 1;funext q
 rw[q1z]
theorem qrc{ρ:Rho}:mOrE fa fb ρ=(fa ρ).or (fb ρ):=by
 unfold mOrE
 cases fa ρ<;>rfl
end
theorem q7b{x0:Str}:∀{names:List (Str×NameKind)} (n:Nat) (acc:List (Str×Addr)),names.filter (λy=>y.2==NameKind.cell)=[(x0,.cell)]->cellsFrom n names acc=(x0,n)::acc
 |[],_,_,h=>by cases h
 | (a,kd)::r,n,acc,h=>by
   unfold cellsFrom
   cases hk:kd==NameKind.cell with
   | true=>
     rw[List.filter_cons_of_pos (by exact hk)]at h
     have e1:(a,kd)=(x0,NameKind.cell):=(List.cons.inj h).1
     have e2:r.filter (λy=>y.2==NameKind.cell)=[]:=(List.cons.inj h).2
     have none:∀(r:List (Str×NameKind)) (n:Nat) (acc:List (Str×Addr)),r.filter (λy=>y.2==NameKind.cell)=[]->cellsFrom n r acc=acc:=λr=>by
       induction r with
       |nil=>intro n acc _;rfl
       | cons q r ih=>
         intro n acc h
         obtain⟨b,kb⟩:=q
         cases hb:kb==NameKind.cell with
         |true=>rw[List.filter_cons_of_pos (by exact hb)]at h;cases h
         | false=>
           rw[List.filter_cons_of_neg (by show¬(kb==NameKind.cell)=true;rw[hb];exact Bool.false_ne_true)]at h
           unfold cellsFrom
           rw[hb]
           exact ih n acc h
     rw[if_pos rfl,none r _ _ e2]
     cases e1
     rfl
   | false=>
     rw[List.filter_cons_of_neg (by show¬(kd==NameKind.cell)=true;rw[hk];exact Bool.false_ne_true)]at h
     rw[if_neg Bool.false_ne_true]
     exact q7b n acc h
theorem qg3{M:Model}{A:Around}{E:Value->Shared->Prop}{s:Shared}{scope:Scope}{globals:Addr}{zh:List (Str×Addr)}{qual:Str}{j4:Env}{x0:Str}{Q:Env->Shared->Prop}
   (hf:scope.names.filter (λy=>y.2==NameKind.cell)=[(x0,.cell)])
   (hQ:∀h',h'.Ns s.heap.objs.size (λ_=>none)->h'.IsCell (s.heap.objs.size+1) none->(∀b o,s.heap.get? b=some o->h'.get? b=some o)->
     Q (newEnv scope s.heap.objs.size globals ((x0,s.heap.objs.size+1)::zh) qual none .none (some j4) builtinsNs) {s with heap:=h'}):
   wpAny M A (newFunctionEnv scope globals zh [] qual none .none (some j4)) Q E s:=by
 simp only[newFunctionEnv,Option.isSome_some,if_true]
 refine j5 (wpAny_alloc ?_)
 refine j5 (wpAny_layCells _ (λname kind cells=>by cases hkc:kind==NameKind.cell<;>simp[hkc]) _ _ _ _ ?_)
 have sz:(s.heap.push {cls:=.type "dict",data:=.dict #[]}).objs.size=s.heap.objs.size+1:=x8 ..
 have ok:=cellsFrom_ok scope.names (s.heap.push {cls:=.type "dict",data:=.dict #[]}) (s.heap.objs.size+1) [] ⟨λ_ _ hm=>(nomatch hm),List.Pairwise.nil⟩ (by rw[sz];exact ja _)
 rw[sz,q7b _ _ hf]at ok
 show wpAny M A (forIn [] _ _ >>= _) Q E _
 rw[List.forIn_nil]
 refine j5 (j7 (j7 ?_))
 have e1:cellsFrom ({s with heap:=s.heap.push {cls:=.type "dict",data:=.dict #[]}}:Shared).heap.objs.size scope.names zh=(x0,s.heap.objs.size+1)::zh:=by
   rw[q7b _ _ hf]
   show(x0,(s.heap.push {cls:=.type "dict",data:=.dict #[]}).objs.size)::zh=_
   rw[sz]
 rw[e1]
 exact hQ _ ((Heap.Ns.new s.heap (.type "dict")).keeps (pushCells_keeps _ _)) (ok.empty x0 _ jf).1 λb o e=>pushCells_keeps _ _ b o (j9 _ e)
theorem q56{env:Env}:∀{names:List (Str×NameKind)} {x:Str},(names.map λ(n,k)=>if(k==NameKind.free&&env.scope.kind==.function&&env.kindOf n==some .cell)then(n,NameKind.cell)else(n,k)).lookup x=some .cell∨
   (names.map λ(n,k)=>if(k==NameKind.free&&env.scope.kind==.function&&env.kindOf n==some .cell)then(n,NameKind.cell)else(n,k)).lookup x=some .free->∃y∈names,y.1=x/\(y.2=.free∨y.2=.cell)
 |[],_,h=>by rcases h with h|h<;>simp at h
 | (n,k)::r,x,h=>by
   have ih:=@q56 env r x
   by_cases hx:x=n
   · subst hx
     refine⟨(x,k),jf,rfl,?_⟩
     by_cases hf:k=.free
     · exact .inl hf
     · have hb:(k==NameKind.free)=false:=by simpa using hf
       simp only[List.map_cons,hb,Bool.false_and,Bool.false_eq_true,if_false,List.lookup_cons,beq_self_eq_true]at h
       rcases h with h|h
       · exact .inr (je h)
       · exact .inl (je h)
   · have hb:(x==n)=false:=beq_eq_false_iff_ne.mpr hx
     have step:∀(q:Str×NameKind) (l:List (Str×NameKind)),q.1=n->List.lookup x (q::l)=List.lookup x l:=λq l e=>by
       obtain⟨a,b⟩:=q
       have e':a=n:=e
       subst e'
       rw[List.lookup_cons,hb]
     have nm:(if(k==NameKind.free&&env.scope.kind==.function&&env.kindOf n==some .cell)then(n,NameKind.cell)else(n,k)).1=n:=by split<;>rfl
     rw[jw,step _ _ nm]at h
     obtain⟨y,hy,r1,r2⟩:=ih h
     exact⟨y,jg _ hy,r1,r2⟩
def cxC(X:Cx)(N:List Str)(scope:Scope)(s:Shared)(H:Hp)(C:Addr)(cl:List (Str×Addr))(fp:List Addr)(x0:Str):Cx where
 prog:=X.prog
 w:=X.w
 K:=X.K
 mg:=X.mg
 base:=X.base
 A:=X.A
 N:=N
 s₀:=s
 H₀:=H
 env:=compEnvC scope cl C X.env
 outer:=X.stack
 stack:=X.stack
 ex:=fp
 fn:=λx=>decide (x=x0)
 calm:=X.calm
 pn:=[]
 xe:=λ_ _=>False
def q4g(sc:Scope)(N0 N:List Str)(js:List Nat)(scope:Scope)(x0:Str):Bool:=
 decide (scope.kind=.function)&&decide (scope.names.filter (λy=>y.2==NameKind.cell)=[(x0,.cell)])&&decide (scope.names.lookup x0=some .cell)&&scope.names.all (λy=>decide (y.2≠.free)||decide (sc.names.lookup y.1=some .cell)||decide (sc.names.lookup y.1=some .free))&&
 scope.names.all (λy=>decide (y.2≠.local)||decide (scope.names.lookup y.1=some .local))&&decide (js.map (λj=>N0[j]?)=(N.drop 1).map some)&&
 (N.drop 1).all (λx=>decide (sc.names.lookup x=some .cell)||decide (sc.names.lookup x=some .free))&&(N.drop 1).all (λx=>decide (scope.names.lookup x=some .free))&&decide (1+js.length=N.length)
section
variable{X:Cx}{tg elt ze:Expr}{ifs:List Expr}{scope:Scope}{pos:Pos}{N N0:List Str}{js:List Nat}{sc:Scope}{wi:TI}{g:TG}{tt:TT}{te:TE}
theorem qap{x0:Str}{z5:List (Addr×Obj)}{σ:St}{H:Hp}{s:Shared}{it:Addr}{fp:List Addr}{tn:Nat->Heap->Prop}{J:It}{cl:List (Str×Addr)}{Fin:List V->Hp->Prop}{RR:Value->Addr->Result->Shared->Prop}{E:Value->Shared->Prop}
   (hc:X.calm=true) (hsc:X.env.scope=sc) (hN0:X.N=N0) (ok:q4g sc N0 N js scope x0=true)
   (hg:∀s H C cl fp,PG (cxC X N scope s H C cl fp x0) tg g) (hgo:Own 1 g) (ht:∀s H C cl fp,PIf (cxC X N scope s H C cl fp x0) ifs tt) (he:∀s H C cl fp,PE (cxC X N scope s H C cl fp x0) elt te)
   (I:Inv X z5 σ H s) (T:Turn X.prog X.w X.K tg J fp it tn) (st:tn 0 s.heap) (fo:∀b∈fp,FpOk X z5 H b)
   (hcl:∀x c,cl.lookup x=some c->X.env.cells.lookup x=some c) (zy:∀y∈scope.names,y.2=.free->∃c,cl.lookup y.1=some c)
   (G:cGo g tt te (caps 1 js σ) Fin J H)
   (k:∀(D C:Addr) (oC:Obj) (m:Str->Option Value) (ys:List V) (H':Hp) (s':Shared),Inv X (z5++[(C,oC)]) σ (upd H' D (.lst ys)) s'->H' D=none->s'.heap.Ns C m->X.s₀.heap.objs.size<=C->C≠X.env.locals->(∀x c,X.env.cells.lookup x=some c->c≠C)->
     (∀p∈X.pn++z5,p.1≠C)->upd H' D (.lst ys) C=none->Fin ys H'->RR (.ref D) C (.ok .next) s'):
   wpAny (model X.prog X.w) X.A (newList []) (λacc s₃=>wpAny (model X.prog X.w) X.A (newFunctionEnv scope X.env.globals cl [] X.env.qual none .none (some X.env)) (λj3 s₄=>
     codeAny (model X.prog X.w) X.A (.compStart (.ListComp elt [⟨tg,ze,ifs,0⟩] scope pos) 0 (.ref it) acc {j3 with scope:=relabel scope X.env}) (RR acc j3.locals) s₄) E s₃) E s:=by
 simp only[q4g,Bool.and_eq_true,decide_eq_true_eq,List.all_eq_true,Bool.or_eq_true]at ok
 obtain⟨⟨⟨⟨⟨⟨⟨⟨kind,cell⟩,cell0⟩,free⟩,nms⟩,cap⟩,lc⟩,lf⟩,len⟩:=ok
 subst hN0 hsc
 refine xq (qg3 cell λh1 ns1 cn1 sb1=>?_)
 dsimp only at ns1 cn1 sb1 ⊢
 generalize eG:s.heap.push {cls:=.type "list",dict:=none,data:=.seq ([]:List Value).toArray}=G2 at ns1 cn1 sb1 ⊢
 have eC:G2.objs.size=s.heap.objs.size+1:=by rw[<-eG,x8]
 generalize eCC:G2.objs.size=C at ns1 cn1 eC ⊢
 generalize eD:s.heap.objs.size=D at eC ⊢
 have ltD:∀b o,s.heap.get? b=some o->b<D:=λb o e=>eD▸j8 e
 have DC:D≠C:=by rw[eC];exact jh (Nat.lt_succ_self _)
 have bC:∀b:Nat,b<D->b≠C:=λb hb z=>by rw[z,eC]at hb;exact absurd hb (Nat.not_lt.mpr (Nat.le_succ _))
 have old:∀b o,s.heap.get? b=some o->h1.get? b=some o:=λb o e=>by
   refine sb1 b o ?_
   rw[<-eG]
   exact j9 _ e
 have accD:h1.get? D=some {cls:=.type "list",data:=.seq ([]:List Value).toArray 0}:=by
   refine sb1 _ _ ?_
   rw[<-eG,<-eD]
   exact jl _ rfl
 have freeD:H D=none:=I.hok.fresh (by rw[eD];exact ja _)
 have freeC:H C=none:=I.hok.fresh (by rw[eD,eC];exact Nat.le_succ _)
 have fpD:∀b∈fp,b<D:=λb hb=>let ⟨o,e,_⟩:=T.obj 0 _ st b hb;ltD b o e
 have cellD:∀x c,X.env.cells.lookup x=some c->c<D:=λx c e=>let ⟨v,o,ho,_⟩:=I.cell x c e;ltD c o ho
 have pinD:∀p∈X.pn++z5,p.1<D:=λp hp=>ltD _ _ (I.pin p hp).1
 have stkD:∀b∈frs X.stack,b<D:=λb hb=>by
   rcases List.mem_cons.mp (I.stkSub b hb)with e|z
   · subst e;rw[<-eD];exact I.lt
   · obtain⟨_,o,ho,_⟩:=I.ok.funs.mem z
     rw[<-eD]
     exact jm (j8 ho) I.sz
 have fpS:∀b∈fp,b∉frs X.stack:=λb hb z=>by
   obtain⟨_,f1,f2,_⟩:=fo b hb
   rcases List.mem_cons.mp (I.stkSub b z)with e|q
   · exact f1 e
   · exact f2 q
 have lk:∀x c,((x0,C+1)::cl).lookup x=some c->(x=x0/\c=C+1)∨(x≠x0/\cl.lookup x=some c):=λx c e=>by
   rw[List.lookup_cons]at e
   by_cases hx:x=x0
   · subst hx
     simp only[beq_self_eq_true]at e
     cases e
     exact .inl ⟨rfl,rfl⟩
   · rw[beq_eq_false_iff_ne.mpr hx]at e
     exact .inr ⟨hx,e⟩
 have lkn:∀x c,x≠x0->cl.lookup x=some c->((x0,C+1)::cl).lookup x=some c:=λx c hx e=>by
   rw[List.lookup_cons,beq_eq_false_iff_ne.mpr hx]
   exact e
 have c0D:D<C+1:=by rw[eC];exact Nat.lt_succ_of_lt (Nat.lt_succ_self _)
 have cne:∀b:Nat,b<D->C+1≠b:=λb hb z=>by rw[<-z]at hb;exact absurd (Nat.lt_trans hb c0D) (jy _)
 have fpc:∀b∈fp,∀x c,((x0,C+1)::cl).lookup x=some c->c≠b:=λb hb x c e=>by
   rcases lk x c e with⟨_,h⟩|⟨_,h⟩
   · rw[h];exact cne b (fpD b hb)
   · exact(fo b hb).2.2.2.2.1 x c (hcl x c h)
 have freeK:H (C+1)=none:=I.hok.fresh (by rw[eD];exact Nat.le_of_lt c0D)
 have okB:(cxC X N scope s H C ((x0,C+1)::cl) fp x0).Ok:={
   mod:=I.ok.mod
   kind:=kind
   glob:=I.ok.glob
   blt:=I.ok.blt
   above:=by show s.heap.objs.size<=C;rw[eD,eC];exact Nat.le_succ _
   inj:=λx y c e1 e2=>by
     rcases lk x c e1 with⟨a1,a2⟩|⟨a1,a2⟩<;>rcases lk y c e2 with⟨b1,b2⟩|⟨b1,b2⟩
     · rw[a1,b1]
     · exact absurd a2.symm (cne c (cellD y c (hcl y c b2)))
     · exact absurd b2.symm (cne c (cellD x c (hcl x c a2)))
     · exact I.ok.inj x y c (hcl x c a2) (hcl y c b2)
   has:=λx hx=>by
     by_cases h0:x=x0
     · subst h0
       exact⟨C+1,by show List.lookup x ((x,C+1)::cl)=_;simp[List.lookup_cons]⟩
     · obtain⟨y,hy,e,f⟩:=q56 (env:=X.env) (names:=scope.names) (x:=x) hx
       rcases f with f|f
       · subst e
         obtain⟨c,q⟩:=zy y hy f
         exact⟨c,lkn _ _ h0 q⟩
       · have hm:y∈scope.names.filter (λy=>y.2==NameKind.cell):=List.mem_filter.mpr ⟨hy,by rw[f];rfl⟩
         rw[cell]at hm
         have:=List.mem_singleton.mp hm
         subst this
         exact absurd e.symm h0
   cab:=λx c z e=>by
     have hx:x=x0:=of_decide_eq_true z
     rcases lk x c e with⟨_,h⟩|⟨h,_⟩
     · rw[h]
       show s.heap.objs.size<=C+1
       rw[eD]
       exact Nat.le_of_lt c0D
     · exact absurd hx h
   hd:=I.ok.hd
   frames:=I.ok.frames
   stk:=.inl rfl
   exf:=λb hb=>⟨bC b (fpD b hb),fpc b hb⟩
   bs:=λb o e=>I.bs b o e
   bsz:=jt I.ok.bsz I.sz
   noex:=λb o e hb=>by
     rcases(fo b hb).2.2.2.1 with z|z
     · exact I.ok.noex b o e z
     · exact absurd (jm (j8 e) (jt I.ok.bsz z)) (jy _)
   exfs:=fpS
   funs:=I.stack
   frf:=I.stkFree}
 have upH:∀b o,s.heap.get? b=some o->h1.get? b=some o:=old
 have IB:Inv (cxC X N scope s H C ((x0,C+1)::cl) fp x0) [(D,{cls:=.type "list",data:=.seq ([]:List Value).toArray 0})] (caps 1 js σ) H {s with heap:=h1}:=by
   refine⟨okB,rfl,I.bare,Un.kept old,⟨_,ns1,λi x v e1 e2 e3=>?_⟩,λx c e=>?_,freeC,λx c e=>?_,λp hp=>?_,I.hok.kept old,?_⟩
   · have hi:1<=i:=by
       by_cases hlt:i<1
       · rw[q6e hlt]at e2;cases e2
       · omega
     obtain⟨j,ej,ev⟩:=qc4 hi e2
     have hxN:(N.drop 1)[i-1]? =some x:=by
       rw[List.getElem?_drop,show 1+(i-1)=i by omega]
       exact e1
     have hxm:x∈N.drop 1:=x9 hxN
     have eN:X.N[j]? =some x:=by
       have q:(js.map λj=>X.N[j]?)[i-1]? =some (X.N[j]?):=by rw[jb,ej];rfl
       rw[cap,jb,hxN]at q
       exact(je q).symm
     obtain⟨m0,_,hl⟩:=I.loc
     have kx:=lc x hxm
     have vis:Vis X.env.scope x:=by
       rcases kx with z|z
       · exact .inr (.inl z)
       · exact .inr (.inr z)
     obtain⟨u,r,lk⟩:=hl j x v eN ev vis
     refine⟨u,r,?_⟩
     rcases lk with⟨q,_⟩|⟨_,c,ec,o,ho,hd⟩
     · exfalso
       have q':X.env.scope.names.lookup x=some .local:=q
       rcases kx with z|z
       · rw[z]at q';cases q'
       · rw[z]at q';cases q'
     · have fx:scope.names.lookup x=some .free:=lf x hxm
       obtain⟨c',ec'⟩:∃c',cl.lookup x=some c':=by
         have hm:(x,NameKind.free)∈scope.names:=mem_of_lookup fx
         exact zy _ hm rfl
       have ecc:c'=c:=by
         have z:=hcl x c' ec'
         rw[ec]at z
         exact(je z).symm
       subst ecc
       have hx0:x≠x0:=λz=>by rw[z,cell0]at fx;cases fx
       refine .inr ⟨?_,c',lkn _ _ hx0 ec',o,old _ _ ho,hd⟩
       rcases e3 with z|z|z
       · exfalso
         have z':(relabel scope X.env).names.lookup x=some .local:=z
         exact q2z _ fx z'
       · exact .inl z
       · exact .inr z
   · rcases lk x c e with⟨_,h⟩|⟨_,h⟩
     · rw[h];exact⟨none,cn1⟩
     · obtain⟨v,o,ho,hd⟩:=I.cell x c (hcl x c h)
       exact⟨v,o,old _ _ ho,hd⟩
   · rcases lk x c e with⟨_,h⟩|⟨_,h⟩
     · rw[h];exact freeK
     · exact I.freeC x c (hcl x c h)
   · have e:p=(D,{cls:=.type "list",data:=.seq ([]:List Value).toArray 0}):=by simpa[cxC]using hp
     subst e
     exact⟨accD,freeD,DC,λz=>absurd (stkD D z) (jy _),λv=>by intro z;cases z⟩
   · show(caps 1 js σ).length=N.length
     rw[q8h]
     exact len
 -- what stays true of the iterator's records
 have stat:∀{H':Hp} {oD:Obj},(∀b∈fp,H' b=none)->∀b∈fp,FpOk (cxC X N scope s H C ((x0,C+1)::cl) fp x0) [(D,oD)] H' b:=λ{H' oD} hn b hb=>
   ⟨hn b hb,bC b (fpD b hb),fpS b hb,.inl hb,fpc b hb,λp hp=>by
     have e:p=(D,oD):=by simpa[cxC]using hp
     subst e
     exact Nat.ne_of_gt (fpD b hb)⟩
 obtain⟨W,⟨m0,w0⟩,turn⟩:=G
 have loop:codeAny (model X.prog X.w) X.A (.compLoop (.ListComp elt [⟨tg,ze,ifs,0⟩] scope pos) 0 (.ref it) (.ref D) (compEnvC scope ((x0,C+1)::cl) C X.env)) (RR (.ref D) C) {s with heap:=h1}:=by
   refine q9i (λm s'=>∃(i:Nat) (ys:List V) (its:List Value) (kk:Nat) (σ':St) (H':Hp),Inv (cxC X N scope s H C ((x0,C+1)::cl) fp x0) [(D,{cls:=.type "list",data:=.seq its.toArray kk})] σ' H' s'/\Vals ys its/\(σ'.length=(caps 1 js σ).length/\∀i,1<=i->σ'[i]? =(caps 1 js σ)[i]?)/\
     tn i s'.heap/\(∀b∈fp,H' b=none)/\W i m ys H') ?_ m0 ⟨0,[],[],0,_,H,IB,.nil,⟨rfl,λ_ _=>rfl⟩,T.keep _ _ _ st λb hb o e=>old b o e,λb hb=>(fo b hb).1,w0⟩
   rintro m s3 ⟨i,ys,its,kk,σ3,H3,I3,r3,⟨l3,a3⟩,st3,fr3,w3⟩
   have I3':Inv (cxC X N scope s H C ((x0,C+1)::cl) fp x0) [(D,{cls:=.type "list",data:=.seq its.toArray kk})] (caps 1 js σ) H3 s3:=I3.weak l3.symm λj v e=>by
     by_cases hj:j<1
     · rw[q6e hj]at e;cases e
     · rw[a3 j (by omega)];exact e
   rcases turn i m ys H3 w3 with⟨stop,hz,fin⟩|⟨go,hz,Nn,hNn,step⟩
   · refine xg (T.done (cxC X N scope s H C ((x0,C+1)::cl) fp x0) rfl rfl rfl hc i _ s3 _ H3 (λ_ _=>False) I3' (stat fr3) st3 stop) (λr s4 h4=>?_) λ_ _ z=>z
     obtain⟨hr,I4⟩:=h4
     refine .inl ⟨hr,?_⟩
     have pD:=I4.pin (D,{cls:=.type "list",data:=.seq its.toArray kk}) (by simp[cxC])
     obtain⟨mC,nsC,_⟩:=I4.loc
     obtain⟨oC,es,ep,hoC,dC,rC⟩:=id nsC
     have J4:Inv X z5 σ H3 s4:=I.call' (s':=s4) I4.os (ch:=fp) I4.base I4.hok I4.bare λb hb=>by
       obtain⟨_,f1,f2,f3,f4,f5⟩:=fo b hb
       exact⟨f3,f1,f4,f5⟩
     have fC:H3 C=none:=I4.free
     have ltL:X.env.locals<D:=eD▸I.lt
     have cL:C≠X.env.locals:=(bC _ ltL).symm
     have cC:∀x c,X.env.cells.lookup x=some c->c≠C:=λx c e=>bC c (cellD x c e)
     have cP:∀p∈X.pn++z5,p.1≠C:=λp hp=>bC p.1 (pinD p hp)
     have cS:X.s₀.heap.objs.size<=C:=jt I.sz (by rw[eD,eC];exact Nat.le_succ _)
     have dS:X.s₀.heap.objs.size<=D:=by have:=I.sz;rw[eD]at this;exact this
     have cF:C∉X.fs:=λz=>by
       obtain⟨_,o,ho,_⟩:=I.ok.funs.mem z
       exact jy _ (jm (j8 ho) cS)
     have J5:Inv X (z5++[(C,oC)]) σ H3 s4:=J4.pins_of λp hp=>(List.mem_append.mp hp).elim (λz=>J4.pin p (jo _ z)) λz=>by
       have e:p=(C,oC):=by simpa using z
       subst e
       exact⟨hoC,fC,cL,cF,λv z=>by have z':oC.data=.cell v:=z;rw[dC]at z';cases z'⟩
     refine k D C oC mC ys H3 s4 (J5.track pD.2.1 dS (Nat.ne_of_gt ltL) (λx c e=>jh (cellD x c e)) (λp hp=>?_) ?_) pD.2.1 nsC cS cL cC cP ?_ fin
     · rcases List.mem_append.mp hp with z|z
       · exact jh (pinD p (List.mem_append_left _ z))
       · rcases List.mem_append.mp z with z|z
         · exact jh (pinD p (jo _ z))
         · have e:p=(C,oC):=by simpa using z
           subst e
           exact Ne.symm DC
     · exact⟨hz,its,kk,r3,pD.1⟩
     · rw[q0n (Ne.symm DC)]
       exact fC
   · refine xg (T.item (cxC X N scope s H C ((x0,C+1)::cl) fp x0) rfl rfl rfl hc i _ s3 _ H3 (λ_ _=>False) I3' (stat fr3) st3 go) (λr s4 h4=>?_) λ_ _ z=>z
     obtain⟨u,hr,h4⟩:=h4
     refine .inr ⟨u,hr,?_⟩
     refine thn h4 λ_ s5 h5=>?_
     obtain⟨x,H5,I5,r5,y5,st5,fr5⟩:=h5
     have I5':=I5.pinned (stat fr5) (T.obj _ _ st5)
     refine thn (hg s H C ((x0,C+1)::cl) fp _ s5 _ H5 x u _ I5' r5 (hgo _ _ _ _ (step x H5 y5))) λ_ s6 h6=>?_
     obtain⟨σ6,H6,I6,q6,l6,a6⟩:=h6
     refine thn (ht s H C ((x0,C+1)::cl) fp _ s6 σ6 H6 _ I6 q6) λok s7 h7=>?_
     obtain⟨H7,I7,q7⟩:=h7
     have stays:∀{H8:Hp} {s8:Shared},Inv (cxC X N scope s H C ((x0,C+1)::cl) fp x0) ([(D,{cls:=.type "list",data:=.seq its.toArray kk})]++q7m fp s5.heap) σ6 H8 s8->(∀b∈fp,∀o,s5.heap.get? b=some o->s8.heap.get? b=some o)/\∀b∈fp,H8 b=none:=λ{H8 s8} I8=>
       ⟨λb hb o e=>(I8.pin (b,o) (jo _ (jo _ (q39 hb e)))).1,λb hb=>by
         obtain⟨o,e,d⟩:=T.obj _ _ st5 b hb
         exact(I8.pin (b,o) (jo _ (jo _ (q39 hb e)))).2.1⟩
     cases ok with
     | false=>
       obtain⟨m',hm,w7⟩:=hNn ys H7 (show Nn ys H7 from q7)
       obtain⟨z1,z2⟩:=stays I7
       exact⟨m',hm,i+1,ys,its,kk,σ6,H7,I7.unpinned,r3,⟨l6,a6⟩,T.keep _ _ _ st5 z1,z2,w7⟩
     | true=>
       show wpAny _ _ (eval elt _) _ _ s7
       refine thn (he s H C ((x0,C+1)::cl) fp _ s7 σ6 H7 _ I7 q7) λy s8 h8=>?_
       obtain⟨vy,H8,I8,ry,n8⟩:=h8
       obtain⟨m',hm,w8⟩:=hNn _ _ n8
       obtain⟨z1,z2⟩:=stays I8
       have pD:=I8.pin (D,{cls:=.type "list",data:=.seq its.toArray kk}) (by simp[cxC])
       have lenits:its.length<sizeLine:=by rw[<-r3.length];exact hz
       refine append_at pD.1 (λh9 hs9 hD9=>?_) (by simpa using Nat.le_of_lt lenits)
       have keep9:∀b o,b≠D->s8.heap.get? b=some o->h9.get? b=some o:=λb o hb e=>hs9.extBut b o hb e
       have I9:Inv (cxC X N scope s H C ((x0,C+1)::cl) fp x0) [] σ6 H8 {s8 with heap:=h9}:=(I8.pins_of (pins':=[]) λp hp=>nomatch hp).turned (it:=D) keep9 pD.2.1 DC (.inr (by show s.heap.objs.size<=D;rw[eD];exact ja _))
         (λx c e=>by
           rcases lk x c e with⟨_,h⟩|⟨_,h⟩
           · rw[h];exact Nat.ne_of_gt c0D
           · exact jh (cellD x c (hcl x c h))) λp hp=>by simp[cxC]at hp
       refine⟨m',hm,i+1,ys++[vy],its++[y],kk+1,σ6,H8,I9.pins_of λp hp=>?_,r3.append (.cons ry .nil),⟨l6,a6⟩,T.keep _ _ _ st5 λb hb o e=>keep9 b o (jh (fpD b hb)) (z1 b hb o e),z2,w8⟩
       have e:p=(D,{cls:=.type "list",data:=.seq (its++[y]).toArray (kk+1)}):=by simpa using hp
       subst e
       refine⟨?_,pD.2.1,DC,λz=>absurd (stkD D z) (jy _),λv z=>by cases z⟩
       show h9.get? D=_
       rw[hD9,List.push_toArray]
 exact codeAny_compStart_list loop (T.self _ 0 _ _ _ (T.keep _ _ _ st λb hb o e=>old b o e) loop)
theorem qg9{x0:Str}{z5:List (Addr×Obj)}{σ:St}{H:Hp}{s:Shared}(I:Inv X z5 σ H s)(hsc:X.env.scope=sc)(ok:q4g sc N0 N js scope x0=true):∀y∈scope.names,y.2=.free->∃c,X.env.cells.lookup y.1=some c:=by
 simp only[q4g,Bool.and_eq_true,decide_eq_true_eq,List.all_eq_true,Bool.or_eq_true]at ok
 obtain⟨⟨⟨⟨⟨⟨⟨⟨kind,cell⟩,cell0⟩,free⟩,nms⟩,cap⟩,lc⟩,lf⟩,len⟩:=ok
 subst hsc
 intro y hy hf
 rcases free y hy with(z|z)|z
 · exact absurd hf z
 · exact I.ok.has y.1 (.inl z)
 · exact I.ok.has y.1 (.inr z)
theorem qao{x0:Str}(ok:q4g sc N0 N js scope x0=true):scope.kind=.function/\∀x∈scope.names,x.2=.local->scope.names.lookup x.1=some .local:=by
 simp only[q4g,Bool.and_eq_true,decide_eq_true_eq,List.all_eq_true,Bool.or_eq_true]at ok
 obtain⟨⟨⟨⟨⟨⟨⟨⟨kind,cell⟩,cell0⟩,free⟩,nms⟩,cap⟩,lc⟩,lf⟩,len⟩:=ok
 refine⟨kind,λx hx hl=>?_⟩
 rcases nms x hx with z|z
 · exact absurd hl z
 · exact z
theorem qhi{x0:Str}{k:Nat}{y:Str}{py zv:Pos}(hc:X.calm=true)(hsc:X.env.scope=sc)(hN0:X.N=N0)(ok:q4g sc N0 N js scope x0=true)(hN:X.N.Nodup)(hk:X.N[k]? =some y)(hy:Loc X.env.scope y)
   (hi:PI X tg ze wi) (hg:∀s H C cl fp,PG (cxC X N scope s H C cl fp x0) tg g) (hgo:Own 1 g) (ht:∀s H C cl fp,PIf (cxC X N scope s H C cl fp x0) ifs tt) (he:∀s H C cl fp,PE (cxC X N scope s H C cl fp x0) elt te)
   (hsw:swapsWith (.ListComp elt [⟨tg,ze,ifs,0⟩] scope pos) (some (.Name y py)) zv.line X.env=pure true:=by rfl) (hs:∀x,foldedSetIterable ze X.env x=pure x:=by intro _;rfl)
   (hf:X.fn y=true∨X.env.scope.names.lookup y=some .local:=by first|exact .inl rfl|exact .inr rfl):PS X (.Assign [.Name y py] (.ListComp elt [⟨tg,ze,ifs,0⟩] scope pos) zv) (qha k 1 js wi g tt te):=by
 intro z5 s σ H D0 I h
 obtain⟨cl,hclos,c1,c2⟩:=q4i (qg9 I hsc ok)
 obtain⟨kd,nm⟩:=qao ok
 rw[exec_Assign_Name_used _ _ _ _ hsw]
 refine j5 (wpAny_standAt (j5 ?_))
 show wpAny _ X.A (comprehension (.ListComp elt [⟨tg,ze,ifs,0⟩] scope pos) scope X.env _ (newList []) false (eval ze X.env) (some (assign (.Name y py) X.env)) >>= λ_=>pure ()) _ _ s
 refine j5 (xg (wpAny_comprehension_free (use:=some (assign (.Name y py) X.env)) (Q:=λ_ s'=>SP X z5 D0 .next s') rfl hs hclos kd nm ?_) (λ_ s' q=>j7 (j7 q)) λ_ _ z=>z)
 refine thn (hi z5 s σ H _ I h) λv s1 h1=>thn h1 λitv s2 h2=>?_
 obtain⟨it,fp,tn,J,H2,e,I2,T,st2,f2,G⟩:=h2
 subst e
 refine qap (RR:=λacc C=>compPost (model X.prog X.w) X.A X.xe (some (assign (.Name y py) X.env)) (λ_ s'=>SP X z5 D0 .next s') acc C) hc hsc hN0 ok hg hgo ht he I2 T st2 f2 c1 c2 G ?_
 intro D C oC m ys H' s' I' hD ns k1 k2 k3 k4 k5 fin
 show wpAny _ X.A (assign (.Name y py) X.env (.ref D)) _ _ s'
 refine wpAny_assign_Name (q6b I' hN hk hy (v:=.ref D) rfl (λs'' I''=>?_) hf)
 have pc:=I''.pin (C,oC) (jo _ (jo _ jf))
 obtain⟨o,es,ep,ho,r⟩:=ns
 have pc':=I'.pin (C,oC) (jo _ (jo _ jf))
 have eo:o=oC:=by
   have z:=pc'.1
   rw[ho]at z
   exact je z
 subst eo
 exact⟨m,⟨o,es,ep,pc.1,r⟩,λh' hs'=>⟨_,_,I''.butC hs' k1 k2 k3 k4 k5,fin D hD⟩⟩
end
end L2
namespace L2
def Bits(w:List Int):Prop:=∀b∈w,b=0∨b=1
def writ(w:List Int):Int:=w.foldl (λx b=>x*2+b) 0
theorem q44(w:List Int)(b:Int):writ (w++[b])=writ w*2+b:=by
 unfold writ
 rw[List.foldl_append]
 rfl
def endR(m a:Int)(bs:List Int):Int:=bs.foldl (λx b=>(x+x+b) % m) a
def wayR(m a:Int)(bs:List Int):List Int:=(List.range (bs.length+1)).map λk=>endR m a (bs.take k)
theorem q77(m a:Int)(bs:List Int)(b:Int):endR m a (bs++[b])=(endR m a bs+endR m a bs+b) % m:=by
 unfold endR
 rw[List.foldl_append]
 rfl
theorem qe0(m a:Int)(bs:List Int)(b:Int):wayR m a (bs++[b])=wayR m a bs++[(endR m a bs+endR m a bs+b) % m]:=by
 unfold wayR
 rw[jd,List.length_singleton,List.range_succ,ju]
 congr 1
 · apply List.map_congr_left
   intro k hk
   have hk:k<bs.length+1:=List.mem_range.mp hk
   rw[List.take_append_of_le_length (by omega)]
 · have e:(bs++[b]).take (bs.length+1)=bs++[b]:=List.take_of_length_le (by rw[jd,List.length_singleton];exact ja _)
   simp only[List.map_cons,List.map_nil]
   rw[e,q77]
theorem qb0(m a:Int)(bs:List Int):(wayR m a bs).length=bs.length+1:=by
 unfold wayR
 rw[j6,List.length_range]
theorem qgu(m a:Int)(bs:List Int){k:Nat}(h:k<=bs.length):(wayR m a bs)[k]? =some (endR m a (bs.take k)):=by
 unfold wayR
 rw[jb,xr (by omega)]
 rfl
theorem take_snoc{α:Type}{u:List α}{i:Nat}{b:α}(q:u[i]? =some b):u.take (i+1)=u.take i++[b]:=List.take_add_one.trans (by rw[q];rfl)
def q5k(a:Int)(w:List Int):Int:=w.foldl (λx b=>x*2+b) a
theorem q3h:∀(w:List Int) (a:Int),q5k a w=a*2^w.length+writ w
 |[],a=>by simp[q5k,writ]
 | b::bs,a=>by
   have h1:=q3h bs (a*2+b)
   have h2:=q3h bs (0*2+b)
   have e1:q5k a (b::bs)=q5k (a*2+b) bs:=rfl
   have e2:writ (b::bs)=q5k (0*2+b) bs:=rfl
   rw[e1,e2,h1,h2,jn,Int.pow_succ]
   generalize (2:Int)^bs.length=p
   generalize writ bs=z
   rw[Int.add_mul,Int.add_mul,Int.zero_mul,Int.zero_mul,Int.zero_add,Int.mul_assoc,Int.mul_comm 2 p]
   omega
theorem q6d(m:Int):∀(w:List Int) (a:Int),endR m a w % m=q5k a w % m
 |[],a=>rfl
 | b::bs,a=>by
   have e1:endR m a (b::bs)=endR m ((a+a+b) % m) bs:=rfl
   have e2:q5k a (b::bs)=q5k (a*2+b) bs:=rfl
   rw[e1,e2,q6d m bs,q3h,q3h]
   have e3:a+a+b=a*2+b:=by omega
   rw[e3,Int.add_emod,Int.mul_emod,Int.emod_emod,<-Int.mul_emod,<-Int.add_emod]
theorem q3n{m:Int}(hm:0<m):∀(w:List Int) (a:Int),(0<=a/\a<m)->0<=endR m a w/\endR m a w<m
 |[],a,h=>h
 |b::bs,a,h=>q3n hm bs ((a+a+b) % m) ⟨Int.emod_nonneg _ (by omega),Int.emod_lt_of_pos _ hm⟩
theorem q45:∀(w:List Int),(∀b∈w,b=0∨b=1)->0<=writ w/\writ w<2^w.length
 |[],_=>by decide
 | b::bs,h=>by
   have h1:=q45 bs λx hx=>h x (jg _ hx)
   have e2:writ (b::bs)=q5k (0*2+b) bs:=rfl
   rw[e2,q3h,jn,Int.pow_succ]
   generalize (2:Int)^bs.length=p at h1 ⊢
   rcases h b jf with rfl|rfl
   · simp only[Int.zero_mul,Int.zero_add];omega
   · simp only[Int.zero_mul,Int.zero_add,Int.one_mul];omega
theorem q6a(u v:List Int):writ (u++v)=writ u*2^v.length+writ v:=by
 have:writ (u++v)=q5k (writ u) v:=by
   unfold writ q5k
   rw[List.foldl_append]
 rw[this,q3h]
theorem q6h:∀n,writ (List.replicate n 0)=0
 |0=>rfl
 | n+1=>by
   rw[List.replicate_succ',q6a,q6h n]
   rfl
theorem qg4(n:Nat)(w:List Int):endR (2^n) 0 (w++List.replicate n 0)=0:=by
 have m0:(0:Int)<2^n:=Int.pow_pos (by decide)
 have h1:=q6d (2^n) (w++List.replicate n 0) 0
 rw[q3h,Int.zero_mul,Int.zero_add,q6a,q6h,ji,Int.add_zero,Int.mul_emod_left]at h1
 have h2:=q3n m0 (w++List.replicate n 0) 0 ⟨Int.le_refl _,m0⟩
 rw[Int.emod_eq_of_lt h2.1 h2.2]at h1
 exact h1
theorem qc0(n:Nat)(pre u:List Int)(hp:pre.length=n)(hb:Bits pre)(hu:Bits u)(k:Nat)(hk:k<=u.length):
   endR (2^n) (writ pre) (u.take k)=writ (((pre++u).drop k).take n):=by
 have m0:(0:Int)<2^n:=Int.pow_pos (by decide)
 have ha:=q45 pre hb
 rw[hp]at ha
 have h1:=q6d (2^n) (u.take k) (writ pre)
 have e1:q5k (writ pre) (u.take k)=writ (pre++u.take k):=by
   unfold writ q5k
   rw[List.foldl_append]
 have e2:pre++u.take k=(pre++u).take k++((pre++u).drop k).take n:=by
   rw[<-List.take_add,Nat.add_comm k n,<-hp,List.take_length_add_append]
 have hl:(((pre++u).drop k).take n).length=n:=by rw[jz,xl,jd];omega
 have hlt:=q45 (((pre++u).drop k).take n) λb h=>by
   rcases List.mem_append.mp (List.mem_of_mem_drop (List.mem_of_mem_take h))with h|h
   · exact hb b h
   · exact hu b h
 rw[hl]at hlt
 rw[e1,e2,q6a,hl,Int.add_comm,Int.add_mul_emod_self_right,Int.emod_eq_of_lt hlt.1 hlt.2]at h1
 have h2:=q3n m0 (u.take k) (writ pre) ha
 rw[Int.emod_eq_of_lt h2.1 h2.2]at h1
 exact h1
def parF:Nat->Nat->Nat
 |0,_=>0
 |f+1,n=>(n % 2+parF f (n / 2)) % 2
theorem q6q:∀f,parF f 0=0
 |0=>rfl
 |f+1=>by unfold parF;rw[show(0:Nat) / 2=0 from rfl,q6q f]
theorem ql6:∀f n,parF f n<2
 |0,_=>Nat.zero_lt_two
 |f+1,n=>Nat.mod_lt _ (by decide)
def sgn(win tap:Int):Int:=(parF 5 (win.toNat &&& tap.toNat):Nat)
theorem qjh(x y:Nat):(x &&& y) / 2=x / 2 &&& y / 2:=by
 apply Nat.eq_of_testBit_eq
 intro i
 rw[Nat.testBit_div_two,Nat.testBit_and,Nat.testBit_and,Nat.testBit_div_two,Nat.testBit_div_two]
theorem qn7(x y:Nat):(x &&& y) % 2=(x % 2)*(y % 2):=by
 have h:=Nat.testBit_and x y 0
 simp only[Nat.testBit_zero]at h
 have h1:=Nat.mod_two_eq_zero_or_one x
 have h2:=Nat.mod_two_eq_zero_or_one y
 have h3:=Nat.mod_two_eq_zero_or_one (x &&& y)
 rcases h1 with h1|h1<;>rcases h2 with h2|h2<;>rcases h3 with h3|h3<;>simp_all
def lsum:List Int->Int->Int
 |[],_=>0
 |b::bs,t=>(t % 2)*b+lsum bs (t / 2)
theorem q93:∀(f:Nat) (ws:List Int) (t:Int),Bits ws->ws.length<=f->0<=t->((parF f ((writ ws.reverse).toNat &&& t.toNat):Nat):Int)=lsum ws t % 2
 | f,[],t,_,_,_=>by
   have:(writ ([]:List Int).reverse).toNat=0:=rfl
   rw[this,Nat.zero_and,q6q]
   rfl
 |0,b::bs,t,_,h,_=>by simp at h
 | f+1,b::bs,t,hb,hl,ht=>by
   have ih:=q93 f bs (t / 2) (λx hx=>hb x (jg _ hx)) (by simpa using hl) (by omega)
   have hw:=q45 bs.reverse λx hx=>hb x (jg _ (List.mem_reverse.mp hx))
   have hbb:=hb b jf
   rw[List.reverse_cons,q44]
   unfold parF lsum
   rw[qjh,qn7]
   have e1:(writ bs.reverse*2+b).toNat / 2=(writ bs.reverse).toNat:=by omega
   have e2:t.toNat / 2=(t / 2).toNat:=by omega
   have e3:(writ bs.reverse*2+b).toNat % 2=b.toNat:=by omega
   have e4:(t.toNat % 2:Nat)=(t % 2).toNat:=by omega
   rw[e1,e2,e3,e4]
   generalize parF f ((writ bs.reverse).toNat &&& (t / 2).toNat)=P at ih ⊢
   generalize lsum bs (t / 2)=Q at ih ⊢
   have t2:t % 2=0∨t % 2=1:=by omega
   rcases hbb with rfl|rfl<;>rcases t2 with q|q<;>rw[q]<;>simp<;>omega
theorem qh6(ws:List Int)(t:Int)(hb:Bits ws)(hl:ws.length<=5)(ht:0<=t):sgn (writ ws.reverse) t=lsum ws t % 2:=q93 5 ws t hb hl ht
def q3v(row:List Int)(signs:List Int):List Int:=((signs.zip row).filter λq=>q.2==1).map (·.1)
theorem q6p(row taps:List Int)(g:Int->Int):q3v row (taps.map g)=((taps.zip row).filter λq=>q.2==1).map λq=>g q.1:=by
 unfold q3v
 rw[List.zip_map_left,List.filter_map,jk]
 rfl
theorem qer(row signs:List Int):(q3v row signs).length<=signs.length:=by
 unfold q3v
 rw[j6]
 refine jt (List.length_filter_le _ _) ?_
 rw[xn]
 exact xi _ _
def rowAt(rows:List (List Int))(k:Nat):List Int:=(rows[k % rows.length]?).getD []
def q2m(n:Nat)(taps:List Int)(rows:List (List Int))(a:Int)(u:List Int)(k:Nat):List Int:=
 q3v (rowAt rows k) (taps.map (sgn (2*endR (2^n) a (u.take k)+u.getD k 0)))
def q8t(n:Nat)(taps:List Int)(rows:List (List Int))(a:Int)(u:List Int):List Int:=(List.range u.length).flatMap (q2m n taps rows a u)
theorem q1g{α:Type}(f:Nat->List α)(k:Nat):(List.range (k+1)).flatMap f=(List.range k).flatMap f++f k:=by
 rw[List.range_succ,List.flatMap_append]
 simp
theorem q40{α:Type}(f:Nat->List α)(m:Nat)(h:∀k,(f k).length<=m):∀n,((List.range n).flatMap f).length<=n*m
 |0=>by simp
 | n+1=>by
   rw[q1g,jd]
   have:=q40 f m h n
   have:=h n
   rw[Nat.succ_mul]
   omega
def preR(ring:Bool)(n:Nat)(w:List Int):List Int:=if ring=true then w.drop (w.length-n)else List.replicate n 0
def bitF(ring:Bool)(w:List Int)(i:Int):Int:=if 0<=i/\i<w.length then w.getD i.toNat 0 else if ring=true then w.getD (i+w.length).toNat 0 else 0
theorem qbb{ring:Bool}{n:Nat}{w:List Int}(h:ring=true->n<=w.length):(preR ring n w).length=n:=by
 unfold preR
 split
 · rename_i q
   have:=h q
   rw[xl];omega
 · rw[ji]
theorem q90{ring:Bool}{n:Nat}{w:List Int}(h:Bits w):Bits (preR ring n w):=by
 unfold preR
 split
 · exact λb hb=>h b (List.mem_of_mem_drop hb)
 · exact λb hb=>.inl (List.eq_of_mem_replicate hb)
theorem qn8{ring:Bool}{n z:Nat}{w:List Int}(h:ring=true->n<=w.length/\z=0){i:Nat}(hi:i<n+(w.length+z)):
   (preR ring n w++(w++List.replicate z 0))[i]? =some (bitF ring w ((i:Int)-n)):=by
 have hl:(preR ring n w).length=n:=qbb λq=>(h q).1
 by_cases h1:i<n
 · rw[xy (by omega)]
   unfold bitF
   rw[if_neg (by omega)]
   unfold preR
   cases ring with
   | true=>
     obtain⟨h2,h3⟩:=h rfl
     simp only[if_true]
     have e:w.length-n+i<w.length:=by omega
     have e2:((i:Int)-n+w.length).toNat=w.length-n+i:=by omega
     rw[List.getElem?_drop,jc e,e2,jq,jc e]
     rfl
   | false=>
     simp only[Bool.false_eq_true,if_false]
     rw[xx,if_pos h1]
 · rw[xk (by omega),hl]
   have e2:((i:Int)-n).toNat=i-n:=by omega
   unfold bitF
   by_cases h4:i-n<w.length
   · rw[if_pos ⟨by omega,by omega⟩,e2,xy h4,jq,jc h4]
     rfl
   · rw[if_neg (by omega)]
     cases ring with
     | true=>
       obtain⟨h2,h3⟩:=h rfl
       omega
     | false=>
       simp only[Bool.false_eq_true,if_false]
       rw[xk (by omega),xx,if_pos (by omega)]
def q5j(ring:Bool)(w:List Int)(k:Int)(n:Nat):List Int:=(List.range n).map λ(j:Nat)=>bitF ring w (k-(j:Int))
theorem q4n{u v:List Int}(hu:Bits u)(hv:Bits v):Bits (u++v):=λb h=>by
 rcases List.mem_append.mp h with h|h
 · exact hu b h
 · exact hv b h
theorem q41(z:Nat):Bits (List.replicate z 0):=λb h=>.inl (List.eq_of_mem_replicate h)
theorem qne{ring:Bool}{n z:Nat}{w:List Int}(hb:Bits w)(h:ring=true->n<=w.length/\z=0){k:Nat}(hk:k<w.length+z):
   2*endR (2^n) (writ (preR ring n w)) ((w++List.replicate z 0).take k)+(w++List.replicate z 0).getD k 0=writ (q5j ring w k (n+1)).reverse/\Bits (q5j ring w k (n+1)):=by
 have hl:(preR ring n w).length=n:=qbb λq=>(h q).1
 have hu:Bits (w++List.replicate z 0):=q4n hb (q41 z)
 have hul:(w++List.replicate z 0).length=w.length+z:=by rw[jd,ji]
 have ga:∀i,i<n+(w.length+z)->(preR ring n w++(w++List.replicate z 0))[i]? =some (bitF ring w ((i:Int)-n)):=λi hi=>qn8 h hi
 have gu:∀j,j<w.length+z->(w++List.replicate z 0)[j]? =some (bitF ring w (j:Int)):=λj hj=>by
   have:=ga (n+j) (by omega)
   rw[xk (by omega),hl,show n+j-n=j from by omega]at this
   rw[this]
   congr 2
   omega
 rw[qc0 n (preR ring n w) (w++List.replicate z 0) hl (q90 hb) hu k (by omega)]
 have hBs:Bits (preR ring n w++(w++List.replicate z 0)):=q4n (q90 hb) hu
 have hLl:(preR ring n w++(w++List.replicate z 0)).length=n+(w.length+z):=by rw[jd,hl,hul]
 generalize hL:preR ring n w++(w++List.replicate z 0)=L at ga hBs hLl ⊢
 have e1:(w++List.replicate z 0).getD k 0=bitF ring w (k:Int):=by
   rw[jq,gu k hk]
   rfl
 rw[e1]
 have e2:(q5j ring w k (n+1)).reverse=(L.drop k).take n++[bitF ring w (k:Int)]:=by
   apply List.ext_getElem?
   intro i
   have lb:(q5j ring w k (n+1)).length=n+1:=by unfold q5j;rw[j6,List.length_range]
   have lt:((L.drop k).take n).length=n:=by rw[jz,xl];omega
   by_cases hi:i<n+1
   · rw[List.getElem?_reverse (by omega),lb]
     unfold q5j
     rw[jb,xr (by omega)]
     by_cases hi2:i<n
     · rw[xy (by omega),List.getElem?_take_of_lt hi2,List.getElem?_drop,ga (k+i) (by omega)]
       show some (bitF ring w ((k:Int)-((n+1-1-i:Nat):Int)))=some (bitF ring w (((k+i:Nat):Int)-(n:Int)))
       congr 2
       omega
     · have:i=n:=by omega
       subst this
       rw[xk (by omega),lt,Nat.sub_self]
       show some (bitF ring w ((k:Int)-((i+1-1-i:Nat):Int)))=some (bitF ring w (k:Int))
       congr 2
       omega
   · rw[xc (by rw[List.length_reverse];omega),xc (by rw[jd,List.length_singleton];omega)]
 refine⟨by rw[e2,q44];omega,λb hb'=>?_⟩
 have:b∈(q5j ring w k (n+1)).reverse:=List.mem_reverse.mpr hb'
 rw[e2]at this
 rcases List.mem_append.mp this with q|q
 · exact hBs b (List.mem_of_mem_drop (List.mem_of_mem_take q))
 · rw[List.mem_singleton.mp q,<-e1]
   rw[jq,jc (by omega)]
   exact hu _ (xj _)
theorem qh7{ring:Bool}{n z:Nat}{w:List Int}(hn:n<=4)(hb:Bits w)(h:ring=true->n<=w.length/\z=0){k:Nat}(hk:k<w.length+z){t:Int}(ht:0<=t):
   sgn (2*endR (2^n) (writ (preR ring n w)) ((w++List.replicate z 0).take k)+(w++List.replicate z 0).getD k 0) t=lsum (q5j ring w k (n+1)) t % 2:=by
 obtain⟨h1,h2⟩:=qne hb h hk
 rw[h1]
 exact qh6 _ t h2 (by unfold q5j;rw[j6,List.length_range];omega) ht
def selK(taps:List Int)(rows:List (List Int))(k:Nat):List (Int×Int):=(taps.zip (rowAt rows k)).filter λq=>q.2==1
theorem qh9{taps:List Int}{rows:List (List Int)}{k:Nat}{q:Int×Int}(h:q∈selK taps rows k):q.1∈taps:=by
 have:=(List.mem_filter.mp h).1
 exact(List.of_mem_zip (show(q.1,q.2)∈_ from this)).1
def q3g(ring:Bool)(n:Nat)(taps:List Int)(rows:List (List Int))(w:List Int)(N:Nat):List Int:=
 (List.range N).flatMap λk=>(selK taps rows k).map λq=>lsum (q5j ring w k (n+1)) q.1 % 2
theorem q7q{α:Type}{f g:Nat->List α}{N:Nat}(h:∀k,k<N->f k=g k):(List.range N).flatMap f=(List.range N).flatMap g:=by
 induction N with
 |zero=>rfl
 |succ N ih=>rw[q1g,q1g,ih λk hk=>h k (by omega),h N (by omega)]
theorem q7z{ring:Bool}{n z:Nat}{taps:List Int}{rows:List (List Int)}{w:List Int}(hn:n<=4)(hb:Bits w)(h:ring=true->n<=w.length/\z=0)(ht:∀t∈taps,0<=t):
   q8t n taps rows (writ (preR ring n w)) (w++List.replicate z 0)=q3g ring n taps rows w (w.length+z):=by
 unfold q8t q3g
 rw[jd,ji]
 refine q7q λk hk=>?_
 unfold q2m
 rw[q6p]
 show(selK taps rows k).map _=_
 refine List.map_congr_left λq hq=>?_
 exact qh7 hn hb h hk (ht _ (qh9 hq))
def unl(u v:List Int):List Int:=List.zipWith (λa b=>if a=b then 0 else 1) u v
theorem q35:∀u v:List Int,Bits (unl u v)
 |[],_=>λb h=>by simp[unl]at h
 |_::_,[]=>λb h=>by simp[unl]at h
 | a::u,c::v=>λb h=>by
   have e:unl (a::u) (c::v)=(if a=c then 0 else 1)::unl u v:=rfl
   rw[e]at h
   rcases List.mem_cons.mp h with rfl|h
   · split
     · exact .inl rfl
     · exact .inr rfl
   · exact q35 u v b h
theorem qe6{u v:List Int}(hu:Bits u)(hv:Bits v)(hl:u.length=v.length)(i:Nat):(unl u v).getD i 0=(u.getD i 0+v.getD i 0) % 2:=by
 unfold unl
 rw[jq,jq,jq,List.getElem?_zipWith]
 cases h1:u[i]? with
 | none=>
   have:v[i]? =none:=xc (by have:=List.getElem?_eq_none_iff.mp h1;omega)
   rw[this]
   rfl
 | some a=>
   cases h2:v[i]? with
   | none=>
     have:=List.getElem?_eq_none_iff.mp h2
     have:=(List.getElem?_eq_some_iff.mp h1).1
     omega
   | some b=>
     show(if a=b then 0 else 1)=(a+b) % 2
     rcases hu a (x9 h1)with rfl|rfl<;>rcases hv b (x9 h2)with rfl|rfl<;>rfl
theorem q46{u v:List Int}(hl:u.length=v.length):(unl u v).length=u.length:=by
 unfold unl
 rw[List.length_zipWith]
 omega
theorem qis{ring:Bool}{u v:List Int}(hu:Bits u)(hv:Bits v)(hl:u.length=v.length)(i:Int):bitF ring (unl u v) i=(bitF ring u i+bitF ring v i) % 2:=by
 unfold bitF
 rw[q46 hl,hl]
 split
 · exact qe6 hu hv hl _
 · split
   · exact qe6 hu hv hl _
   · rfl
theorem qbr{ring:Bool}{u v:List Int}(hu:Bits u)(hv:Bits v)(hl:u.length=v.length):∀(js:List Int) (t:Int),lsum (js.map (bitF ring (unl u v))) t % 2=(lsum (js.map (bitF ring u)) t+lsum (js.map (bitF ring v)) t) % 2
 |[],_=>rfl
 | j::js,t=>by
   have ih:=qbr hu hv hl (ring:=ring) js (t / 2)
   simp only[List.map_cons,lsum]
   rw[qis hu hv hl]
   generalize lsum (js.map (bitF ring (unl u v))) (t / 2)=A at ih ⊢
   generalize lsum (js.map (bitF ring u)) (t / 2)=B at ih ⊢
   generalize lsum (js.map (bitF ring v)) (t / 2)=C at ih ⊢
   have t2:t % 2=0∨t % 2=1:=by omega
   rcases t2 with q|q<;>rw[q]<;>omega
theorem q7c(ring:Bool)(w:List Int)(k:Int)(n:Nat):q5j ring w k n=((List.range n).map λ(j:Nat)=>k-(j:Int)).map (bitF ring w):=by
 unfold q5j
 rw[jk]
 rfl
theorem qay{α:Type}(S:Nat->List α)(f g:Nat->α->Int)(op:Int->Int->Int):∀N,List.zipWith op ((List.range N).flatMap λk=>(S k).map (f k)) ((List.range N).flatMap λk=>(S k).map (g k))=(List.range N).flatMap λk=>(S k).map λq=>op (f k q) (g k q)
 |0=>rfl
 | N+1=>by
   have len:∀N,((List.range N).flatMap λk=>(S k).map (f k)).length=((List.range N).flatMap λk=>(S k).map (g k)).length:=λN=>by
     induction N with
     |zero=>rfl
     |succ N ih=>rw[q1g,q1g,jd,jd,ih,j6,j6]
   rw[q1g,q1g,q1g,List.zipWith_append (len N),qay S f g op N]
   congr 1
   rw[List.zipWith_map,List.zipWith_self]
theorem qee{ring:Bool}{n N:Nat}{taps:List Int}{rows:List (List Int)}{u v:List Int}(hu:Bits u)(hv:Bits v)(hl:u.length=v.length):
   q3g ring n taps rows (unl u v) N=unl (q3g ring n taps rows u N) (q3g ring n taps rows v N):=by
 unfold q3g
 show _=List.zipWith (λa b=>if a=b then 0 else 1) _ _
 rw[qay (selK taps rows) (λk q=>lsum (q5j ring u k (n+1)) q.1 % 2) (λk q=>lsum (q5j ring v k (n+1)) q.1 % 2)]
 refine q7q λk hk=>List.map_congr_left λq hq=>?_
 rw[q7c,q7c,q7c,qbr hu hv hl]
 generalize lsum (List.map (bitF ring u) _) q.1=A
 generalize lsum (List.map (bitF ring v) _) q.1=B
 show _=if A % 2=B % 2 then(0:Int)else 1
 split<;>omega
theorem q5m{ring:Bool}{n N:Nat}{taps:List Int}{rows:List (List Int)}{w:List Int}:Bits (q3g ring n taps rows w N):=λb hb=>by
 unfold q3g at hb
 obtain⟨k,hk,hb⟩:=List.mem_flatMap.mp hb
 obtain⟨q,hq,rfl⟩:=List.mem_map.mp hb
 omega
end L2
namespace L2
open PySem
def rowD(row:List Int):D:=.tup (row.map D.int)
def schD(r:Int)(taps:List Int)(rows:List (List Int))(e:Str):D:=.tup [.int r,.tup (taps.map D.int),.tup (rows.map rowD),.str e]
structure q22(r:Int)(taps:List Int)(rows:List (List Int))(e:Str):Prop where
 r0:0<=r
 r4:r<=4
 t1:1<=taps.length
 t4:taps.length<=4
 tb:∀t∈taps,0<=t/\t<2*2^r.toNat
 m1:1<=rows.length
 m6:rows.length<=6
 rw:∀row∈rows,row.length=taps.length/\∀b∈row,b=0∨b=1
 en:e="open"∨e="ended"∨e="ring"
theorem qah{P:Int->Prop}:∀{ys:List D},(∀y∈ys,∃t,y=.int t/\P t)->∃ts:List Int,ys=ts.map D.int/\∀t∈ts,P t
 |[],_=>⟨[],rfl,λ_ h=>nomatch h⟩
 | y::ys,h=>by
   obtain⟨t,rfl,ht⟩:=h y jf
   obtain⟨ts,rfl,hs⟩:=qah (P:=P) λz hz=>h z (jg _ hz)
   refine⟨t::ts,rfl,λu hu=>?_⟩
   rcases List.mem_cons.mp hu with rfl|hu
   · exact ht
   · exact hs u hu
theorem s_or:eqD (.str "open") (.str "ring")=some false:=by rw[q28 (by decide+kernel) (by decide+kernel)];decide+kernel
theorem s_er:eqD (.str "ended") (.str "ring")=some false:=by rw[q28 (by decide+kernel) (by decide+kernel)];decide+kernel
theorem s_rr:eqD (.str "ring") (.str "ring")=some true:=by rw[q28 (by decide+kernel) (by decide+kernel)];decide+kernel
theorem s_oe:eqD (.str "open") (.str "ended")=some false:=by rw[q28 (by decide+kernel) (by decide+kernel)];decide+kernel
theorem s_ee:eqD (.str "ended") (.str "ended")=some true:=by rw[q28 (by decide+kernel) (by decide+kernel)];decide+kernel
theorem s_re:eqD (.str "ring") (.str "ended")=some false:=by rw[q28 (by decide+kernel) (by decide+kernel)];decide+kernel
def frst(r:Int)(e:Str)(w:List Int):Int:=if e="ring" then writ (w.drop (w.length-r.toNat))else 0
def q2t(r:Int)(e:Str)(w:List Int):List Int:=if e="ended" then w++List.replicate r.toNat 0 else w
theorem qgo{α:Type}(xs:List α)(x:α):atI (xs++[x]) (-1)=some x:=by
 unfold atI ixN
 have h1:¬((0:Int)<= -1):=by decide
 have h2:(-(((xs++[x]).length:Nat):Int)<= -1):=by rw[jd,List.length_singleton];omega
 have h3:((-1:Int)+(((xs++[x]).length:Nat):Int)).toNat=xs.length:=by rw[jd,List.length_singleton];omega
 rw[if_neg h1,if_pos h2,h3]
 show(xs++[x])[xs.length]? =some x
 rw[xk (ja _),Nat.sub_self]
 rfl
theorem qe1(m a:Int)(bs:List Int):atI ((wayR m a bs).map D.int) (-1)=some (.int (endR m a bs)):=by
 unfold wayR
 rw[List.range_succ,ju,ju]
 simp only[List.map_cons,List.map_nil]
 rw[qgo,List.take_length]
theorem qil(n:Nat)(w:List Int)(hb:∀b∈w,b=0∨b=1)(hn:n<=w.length):endR (2^n) (writ (w.drop (w.length-n))) w=writ (w.drop (w.length-n)):=by
 have m0:(0:Int)<2^n:=Int.pow_pos (by decide)
 have hl:(w.drop (w.length-n)).length=n:=by rw[xl];omega
 have ha:=q45 (w.drop (w.length-n)) λb h=>hb b (List.mem_of_mem_drop h)
 rw[hl]at ha
 generalize hz:writ (w.drop (w.length-n))=a at ha ⊢
 have h1:=q6d (2^n) w a
 have hw:writ w=writ (w.take (w.length-n))*2^n+a:=by
   have:=q6a (w.take (w.length-n)) (w.drop (w.length-n))
   rw[List.take_append_drop,hl,hz]at this
   exact this
 have hp:(2:Int)^w.length=2^(w.length-n)*2^n:=by rw[<-Int.pow_add];congr 1;omega
 rw[q3h,hw,hp,<-Int.mul_assoc,<-Int.add_assoc,<-Int.add_mul,Int.add_comm,Int.add_mul_emod_self_right,Int.emod_eq_of_lt ha.1 ha.2]at h1
 have h2:=q3n m0 w a ha
 rw[Int.emod_eq_of_lt h2.1 h2.2]at h1
 exact h1
theorem qbu{r:Int}{taps:List Int}{rows:List (List Int)}{e:Str}(ok:q22 r taps rows e)(w:List Int)(hl:w.length<=60):(q2t r e w).length<=64:=by
 have:=ok.r4
 unfold q2t
 split
 · rw[jd,ji];omega
 · omega
def isRing(e:Str):Bool:=decide (e="ring")
def q09(r:Int)(e:Str):Nat:=if e="ended" then r.toNat else 0
theorem q38(r:Int)(e:Str)(w:List Int):q2t r e w=w++List.replicate (q09 r e) 0:=by
 unfold q2t q09
 split
 · rfl
 · simp
theorem qal(r:Int)(e:Str)(w:List Int):frst r e w=writ (preR (isRing e) r.toNat w):=by
 unfold frst preR isRing
 by_cases h:e="ring"
 · rw[if_pos h,decide_eq_true h,if_pos rfl]
 · rw[if_neg h,decide_eq_false h,if_neg (by decide),q6h]
theorem q6m{r:Int}{e:Str}{n:Nat}(hw:e="ring"->r.toNat<=n):isRing e=true->r.toNat<=n/\q09 r e=0:=λh=>by
 have he:e="ring":=of_decide_eq_true h
 subst he
 exact⟨hw rfl,if_neg (by decide)⟩
theorem qgr{x:Int}(h:0<=x):Builtin.bitAnd x 1=x % 2:=by
 unfold Builtin.bitAnd
 rw[decide_eq_true h,decide_eq_true (by decide:(0:Int)<=1)]
 show((x.toNat &&& 1:Nat):Int)=x % 2
 rw[Nat.and_one_is_mod]
 omega
theorem qax{x y:Int}(h:0<=x)(g:0<=y):Builtin.bitAnd x y=((x.toNat &&& y.toNat:Nat):Int):=by
 unfold Builtin.bitAnd
 rw[decide_eq_true h,decide_eq_true g]
theorem qaz{x y:Int}(h:x=0∨x=1)(g:y=0∨y=1):Builtin.bitXor x y=(x+y) % 2:=by
 rcases h with rfl|rfl<;>rcases g with rfl|rfl<;>decide
theorem qko(m a:Int)(bs:List Int){k:Nat}(h:k<=bs.length):atI ((wayR m a bs).map D.int) (k:Int)=some (.int (endR m a (bs.take k))):=by
 have hl:(k:Int)<(((wayR m a bs).map D.int).length:Nat):=by rw[j6,qb0];omega
 rw[q3t (by omega) hl,jx,jb,qgu m a bs h]
 rfl
theorem q49{r:Int}(r0:0<=r)(r4:r<=4):(1:Int)<=2^r.toNat/\(2:Int)^r.toNat<=16:=by
 rcases(by omega:r=0∨r=1∨r=2∨r=3∨r=4)with rfl|rfl|rfl|rfl|rfl<;>decide
end L2
namespace L2
open PySem PySem.Spec PyProof.Rows
section
variable{prog:Program}{w:World}{A:Around}{E:Value->Shared->Prop}{s:Shared}{a₀:Array Keyed}
end
section
variable{X:Cx}{K:PySem.W.Frag}
end
section
variable{K:PySem.W.Frag}{O:List Nat}{t tb:TE}{fa fb:RhD}
end
section
variable{X:Cx}
end
section
variable{X:Cx}
end
section
variable{K:PySem.W.Frag}{O:List Nat}{t tb:TE}{fa fb:RhD}
end
section
variable{c:MC}{O O':List Nat}{te:TE}{fe:RhD}
end
section
variable{K:PySem.W.Frag}{O:List Nat}{tr:TA}{fs:RhL}{E:XK}{n:Nat}
end
section
variable{X:Cx}{K:PySem.W.Frag}{o e:Expr}{es:List Expr}{to:TE}{t:TA}{name:Str}{zr zk:Pos}{T id:String}{r:V->List V->Hp->VK->Prop}
end
end L2
namespace L2
open PySem PySem.NumText
end L2
namespace L2
open PySem PySem.NumText
end L2
namespace L2
open PySem PySem.Spec
section
variable{fa:RhD}{fl fh:Rho->Option (Option Int×Rho)}{ρ:Rho}
end
end L2
namespace L2
open PySem PySem.Spec
def DOk(n:Nat)(d:D):Prop:=∃p,d.toP=some p/\p.canLay0=true/\p.depth<=n
def DOks(n:Nat)(ds:List D):Prop:=∃ps,D.toPs ds=some ps/\PyData.canLayAll0 ps=true/\PyData.depthAll ps<=n
theorem DOk.int(n:Nat)(i:Int):DOk n (.int i):=⟨.int i,by simp only[D.toP],by simp only[PyData.canLay0],by simp only[PyData.depth];exact Nat.zero_le _⟩
theorem DOk.bl(n:Nat)(i:Bool):DOk n (.bl i):=⟨.bool i,by simp only[D.toP],by simp only[PyData.canLay0],by simp only[PyData.depth];exact Nat.zero_le _⟩
theorem DOk.str(n:Nat){x:Str}(h:PyData.strOk x=true):DOk n (.str x):=⟨.str x,by simp only[D.toP],by simp only[PyData.canLay0];exact h,by simp only[PyData.depth];exact Nat.zero_le _⟩
theorem DOks.nil(n:Nat):DOks n []:=⟨[],by simp only[D.toPs],by simp only[PyData.canLayAll0],by simp only[PyData.depthAll];exact Nat.zero_le _⟩
theorem DOks.cons{n:Nat}{d:D}{ds:List D}(h:DOk n d)(r:DOks n ds):DOks n (d::ds):=by
 obtain⟨p,h1,h2,h3⟩:=h
 obtain⟨ps,g1,g2,g3⟩:=r
 refine⟨p::ps,by simp only[D.toPs,h1,g1],by simp only[PyData.canLayAll0,h2,g2];rfl,?_⟩
 simp only[PyData.depthAll]
 exact Nat.max_le.mpr ⟨h3,g3⟩
theorem DOks.lst{n:Nat}{ds:List D}(h:DOks n ds):DOk (n+1) (.lst ds):=by
 obtain⟨ps,g1,g2,g3⟩:=h
 exact⟨.list ps,by simp only[D.toP,g1];rfl,by simp only[PyData.canLay0];exact g2,by simp only[PyData.depth];omega⟩
theorem DOks.tup{n:Nat}{ds:List D}(h:DOks n ds):DOk (n+1) (.tup ds):=by
 obtain⟨ps,g1,g2,g3⟩:=h
 exact⟨.tuple ps,by simp only[D.toP,g1];rfl,by simp only[PyData.canLay0];exact g2,by simp only[PyData.depth];omega⟩
theorem DOk.le{n m:Nat}{d:D}(h:DOk n d)(hn:n<=m):DOk m d:=by
 obtain⟨p,h1,h2,h3⟩:=h
 exact⟨p,h1,h2,by omega⟩
end L2
namespace L2
open PySem PySem.Spec
end L2
namespace L2
open PySem
inductive Told where
 |clear (b:Int)
 |gap
 |soft (z o:Int)
def q15:Told->D
 |.clear b=>.tup [.str "clear",.int b]
 |.gap=>.tup [.str "gap"]
 |.soft z o=>.tup [.str "soft",.int z,.int o]
def objD:Told->D
 |.clear b=>.obj "Clear" [("bit",.int b)]
 |.gap=>.obj "Gap" []
 |.soft z o=>.obj "Soft" [("zero",.int z),("one",.int o)]
def q3u:Told->Int->Int
 |.clear b,x=>if x=b then 0 else 1
 |.gap,_=>0
 |.soft z o,x=>if x=1 then o else z
def q3e(ts:List Told)(bits:List Int):Int:=((ts.zip bits).map λq=>q3u q.1 q.2).sum
theorem q8b{x m:Str}{f:List D->Option D}{gs:List (Str×D)}{ds:List D}(h:gs.lookup m=none):q7f x m f (.obj x gs) ds=f (.obj x gs::ds):=if_pos ⟨rfl,h⟩
theorem q6y{x y m:Str}{f:List D->Option D}{gs:List (Str×D)}{ds:List D}(h:¬y=x):q7f x m f (.obj y gs) ds=none:=if_neg λq=>h q.1
theorem qam{x f:Str}{gs:List (Str×D)}{d:D}(h:gs.lookup f=some d):fldO x f (.obj x gs)=some d:=(if_pos rfl).trans h
def q0g(taps:List Int)(rows:List (List Int))(N:Nat):List Int:=(List.range N).flatMap λk=>List.replicate (selK taps rows k).length (k:Int)
theorem qaa{ring:Bool}{n:Nat}{taps:List Int}{rows:List (List Int)}(w:List Int):∀N,(q0g taps rows N).length=(q3g ring n taps rows w N).length:=λN=>by
 unfold q0g q3g
 induction N with
 |zero=>rfl
 |succ N ih=>rw[q1g,q1g,jd,jd,ih,ji,j6]
theorem q69(xs ys:List D):zipD xs ys=(xs.zip ys).map λq=>D.tup [q.1,q.2]:=by
 unfold zipD
 rw[List.zip,List.map_zipWith]
theorem q52{α β γ δ:Type}(f:α->γ)(g:β->δ):∀(xs:List α) (ys:List β),(xs.map f).zip (ys.map g)=(xs.zip ys).map λq=>(f q.1,g q.2)
 |[],_=>rfl
 |_::_,[]=>rfl
 | x::xs,y::ys=>by
   show(f x,g y)::(xs.map f).zip (ys.map g)=(f x,g y)::(xs.zip ys).map _
   rw[q52 f g xs ys]
theorem t_cg:eqD (.str "gap") (.str "clear")=some false:=by rw[q28 (by decide+kernel) (by decide+kernel)];decide+kernel
theorem t_cs:eqD (.str "soft") (.str "clear")=some false:=by rw[q28 (by decide+kernel) (by decide+kernel)];decide+kernel
theorem t_gs:eqD (.str "soft") (.str "gap")=some false:=by rw[q28 (by decide+kernel) (by decide+kernel)];decide+kernel
theorem t_cc:eqD (.str "clear") (.str "clear")=some true:=by rw[q28 (by decide+kernel) (by decide+kernel)];decide+kernel
theorem t_gg:eqD (.str "gap") (.str "gap")=some true:=by rw[q28 (by decide+kernel) (by decide+kernel)];decide+kernel
theorem DOk.told(t:Told):DOk 1 (q15 t):=by
 cases t with
 |clear b=>exact DOks.tup (.cons (.str _ (by decide+kernel)) (.cons (.int _ _) (.nil _)))
 |gap=>exact DOks.tup (.cons (.str _ (by decide+kernel)) (.nil _))
 |soft z o=>exact DOks.tup (.cons (.str _ (by decide+kernel)) (.cons (.int _ _) (.cons (.int _ _) (.nil _))))
end L2
namespace L2
open PySem PySem.Spec PyProof.Rows
section
variable{X:Cx}
end
section
variable{K:PySem.W.Frag}{O:List Nat}{t tb:TE}{fa fb:RhD}
def mIfL(f:RhB)(g h:RhL):RhL:=q1s f λb=>if b=true then g else h
theorem qte{tA:TT}{ga:RhB}{fa fb:RhL}(h:MT K O tA ga)(h1:MN K O t fa)(h2:MN K O tb fb):MN K O (tIf tA t tb) (mIfL ga fa fb):=λZ σ H R ρ d ρ' Q S e k=>by
 obtain⟨c,ρ1,e1,e⟩:=q0c e
 refine h Z σ H R ρ c _ _ S e1 λH' R' S' st=>?_
 cases c with
 |true=>exact iteT (h1 Z σ H' R' ρ1 d ρ' Q S' e λl vs H2 R2 S2 st2 a1 a2 a3 a4=>k l vs H2 R2 S2 (st.trans st2) (st.new a1) a2 a3 a4)
 |false=>exact iteF (h2 Z σ H' R' ρ1 d ρ' Q S' e λl vs H2 R2 S2 st2 a1 a2 a3 a4=>k l vs H2 R2 S2 (st.trans st2) (st.new a1) a2 a3 a4)
theorem qri{ga:RhB}{fa fb:RhL}{ρ:Rho}:mIfL ga fa fb ρ=(ga ρ).bind λp=>if p.1=true then fa p.2 else fb p.2:=by
 unfold mIfL
 rw[q14]
 congr 1;funext p
 split<;>rfl
end
end L2
namespace L2
open PySem PySem.Spec
end L2
namespace L2
open PySem PySem.Spec PyProof.Rows
section
variable{X:Cx}
end
section
variable{K:PySem.W.Frag}{O:List Nat}{t tb:TE}{fa fb:RhD}
end
section
variable{X:Cx}{z5:List (Addr×Obj)}{σ:St}{CX:CXT}{k:Nat}{f:Addr}{fd:FuncData}{ps:List Str}{sp:Sp}{dvs:List V}{ds:List Value}{E:XK}{x:Str}{p pos:Pos}{e:Expr}{es:List Expr}{t:TA}{i:Nat}
end
section
variable{K:PySem.W.Frag}{O:List Nat}{tr:TA}{fs:RhL}{E:XK}{n:Nat}
end
section
variable{prog:Program}{w:World}{A:Around}{E:Value->Shared->Prop}{s:Shared}
end
section
variable{X:Cx}{a b:Expr}{ta:TA}{p pos:Pos}{zj:List Expr}{x1:Nat}{tp:Pos}
end
section
variable{K:PySem.W.Frag}{O:List Nat}{tr:TA}{fs:RhL}
end
end L2
namespace L2
open PySem PySem.Spec PySem.NumText
section
variable{K:PySem.W.Frag}{O:List Nat}{E:XK}
end
end L2
namespace L2
open PySem PySem.Spec PyProof.Rows
section
variable{c:MC}{O O':List Nat}{te:TE}{fa:RhD}
end
section
variable{M:Model}{A:Around}{E:Value->Shared->Prop}{s:Shared}{B:Heap}{env:Env}{outer l:List Env}{L e:Addr}{cls fl:Value}{Q:Unit->Shared->Prop}
end
section
variable{X:Cx}{z5:List (Addr×Obj)}{σ:St}{H H':Hp}{s:Shared}
end
section
variable{P:Program}{w:World}{K:PySem.W.Frag}{mg:Str->Option Value}{base:Heap}{N:List Str}{qual:Str}{scope:Scope}{f:Addr}{cd:Value}{A:Around}{outer:List Env}{s₀:Shared}{H₀:Hp}{E:XK}
end
section
variable{X:Cx}{tg elt ze:Expr}{ifs:List Expr}{scope:Scope}{pos:Pos}{N N0:List Str}{n:Nat}{js:List Nat}{sc:Scope}{wi:TI}{g:TG}{tt:TT}{te:TE}
end
section
variable{X:Cx}{tg elt ze:Expr}{ifs:List Expr}{scope:Scope}{pos:Pos}{N N0:List Str}{n:Nat}{js:List Nat}{sc:Scope}{wi:TI}{g:TG}{tt:TT}{te:TE}
end
@[irreducible] def QSs(X:Cx)(st:List Stmt)(t:TS):Prop:=PSs X st t
section
variable{X:Cx}{st:Stmt}{sts a b:List Stmt}{t u:TS}{tc:TT}{c tg ze:Expr}{wi:TI}{g:TG}{pos:Pos}
theorem QSs.of(h:PSs X sts t):QSs X sts t:=by
 unfold QSs
 exact h
end
inductive Inn(K:PySem.W.Frag)(H R:Hp):List Addr->List (List D)->Prop
 |nil:Inn K H R [] []
 |cons {a:Addr} {as:List Addr} {vs:List V} {ds:List D} {dss:List (List D)}:H a=some (.lst vs)->R a=none->Rps K R vs ds->Inn K H R as dss->Inn K H R (a::as) (ds::dss)
structure Deep(K:PySem.W.Frag)(H R:Hp)(l:Addr)(as:List Addr)(dss:List (List D)):Prop where
 top:H l=some (.lst (as.map V.ref))
 rl:R l=none
 inn:Inn K H R as dss
 nd:(l::as).Nodup
theorem StR.put{K:PySem.W.Frag}{Z:Anc}{O:List Nat}{σ:St}{H R:Hp}{ρ:Rho}{a:Addr}{o:HO}(S:StR K Z O σ H R ρ)(hr:R a=none)(n:∀i,i∈O->σ[i]? ≠some (some (.ref a)))(z:Z.H0 a=none):StR K Z O σ (upd H a o) R ρ:=by
 have ne:∀b u,Z.H0 b=some u->b≠a:=λb u e q=>by rw[q,z]at e;cases e
 refine⟨λb u e=>?_,S.len,S.env,λi hi=>?_,S.dis,λb u e nl=>?_,S.ar,S.an,λb h=>?_,S.ao,S.ap⟩
 · have q:b≠a:=λq=>by rw[q,hr]at e;cases e
   rw[q0n q]
   exact S.sub b u e
 · obtain⟨l,vs,ds,h1,h2,h3,h4,h5⟩:=S.own i hi
   have q:l≠a:=λq=>n i hi (by rw[h2,q])
   exact⟨l,vs,ds,h1,h2,by rw[q0n q];exact h3,h4,h5⟩
 · rw[q0n (ne b u e)]
   exact S.ah b u e nl
 · have q:b≠a:=λq=>h (by rw[q];exact z)
   have l:=S.ad b h
   unfold Liv at l ⊢
   rw[q0n q]
   exact l
theorem Inn.has{K:PySem.W.Frag}{H R:Hp}{as:List Addr}{dss:List (List D)}(h:Inn K H R as dss):∀a∈as,∃vs,H a=some (.lst vs):=by
 induction h with
 |nil=>exact λ_ h=>nomatch h
 | cons h1 _ _ _ ih=>
   intro a ha
   rcases List.mem_cons.mp ha with rfl|ha
   · exact⟨_,h1⟩
   · exact ih a ha
theorem Inn.wr{K:PySem.W.Frag}{H R:Hp}{as:List Addr}{dss:List (List D)}{b:Addr}{o:HO}(h:Inn K H R as dss)(n:b∉as):Inn K (upd H b o) R as dss:=by
 induction h with
 |nil=>exact .nil
 | cons h1 h2 h3 _ ih=>
   exact .cons (by rw[q0n λq=>n (by rw[q];exact jf)];exact h1) h2 h3 (ih λq=>n (jg _ q))
theorem Inn.len{K:PySem.W.Frag}{H R:Hp}{as:List Addr}{dss:List (List D)}(h:Inn K H R as dss):as.length=dss.length:=by
 induction h with
 |nil=>rfl
 |cons _ _ _ _ ih=>rw[jn,jn,ih]
theorem Inn.at{K:PySem.W.Frag}{H R:Hp}{as:List Addr}{dss:List (List D)}(h:Inn K H R as dss):∀{k:Nat} {a:Addr},as[k]? =some a->∃vs ds,dss[k]? =some ds/\H a=some (.lst vs)/\R a=none/\Rps K R vs ds:=by
 induction h with
 |nil=>intro k a e;simp at e
 | cons h1 h2 h3 _ ih=>
   intro k a e
   cases k with
   | zero=>
     cases e
     exact⟨_,_,rfl,h1,h2,h3⟩
   |succ k=>exact ih e
theorem Inn.setAt{K:PySem.W.Frag}{H R:Hp}{as:List Addr}{dss:List (List D)}{vs:List V}{ds:List D}(h:Inn K H R as dss)(r:Rps K R vs ds):∀{k:Nat} {a:Addr},as.Nodup->as[k]? =some a->Inn K (upd H a (.lst vs)) R as (dss.set k ds):=by
 induction h with
 |nil=>intro k a _ e;simp at e
 | @cons b _ _ _ _ h1 h2 h3 t ih=>
   intro k a nd e
   obtain⟨n1,n2⟩:=List.nodup_cons.mp nd
   cases k with
   | zero=>
     cases e
     exact .cons q0r h2 r (t.wr n1)
   | succ k=>
     rw[List.getElem?_cons_succ]at e
     have m:=x9 e
     have ne:b≠a:=λq=>n1 (by rw[q];exact m)
     exact .cons (by rw[q0n ne];exact h1) h2 h3 (ih n2 e)
theorem Deep.setAt{K:PySem.W.Frag}{H R:Hp}{l a:Addr}{as:List Addr}{dss:List (List D)}{vs:List V}{ds:List D}{k:Nat}(h:Deep K H R l as dss)(e:as[k]? =some a)(r:Rps K R vs ds):Deep K (upd H a (.lst vs)) R l as (dss.set k ds):=by
 obtain⟨n1,n2⟩:=List.nodup_cons.mp h.nd
 have ne:l≠a:=λq=>n1 (by rw[q];exact x9 e)
 exact⟨by rw[q0n ne];exact h.top,h.rl,h.inn.setAt r n2 e,h.nd⟩
theorem Inn.other{K:PySem.W.Frag}{H R:Hp}{as:List Addr}{dss:List (List D)}{b:Addr}{o:HO}(h:Inn K H R as dss)(n:b∉as)(hb:R b=none):Inn K H (upd R b o) as dss:=by
 have s:Same R (upd R b o):=λa u e=>by
   have q:a≠b:=λq=>by rw[q,hb]at e;cases e
   rw[q0n q]
   exact e
 induction h with
 |nil=>exact .nil
 | cons h1 h2 h3 _ ih=>
   exact .cons h1 (by rw[q0n λq=>n (by rw[q];exact jf)];exact h2) (h3.mono s) (ih λq=>n (jg _ q))
theorem StR.knowAll{K:PySem.W.Frag}{Z:Anc}{O:List Nat}{σ:St}{H:Hp}{ρ:Rho}:∀{as:List Addr} {dss:List (List D)} {R:Hp},StR K Z O σ H R ρ->Inn K H R as dss->as.Nodup->(∀a∈as,Z.H0 a=none/\∀j,j∈O->σ[j]? ≠some (some (.ref a)))->∃R1,StR K Z O σ H R1 ρ/\Same R R1/\Rps K R1 (as.map V.ref) (dss.map D.lst)/\∀b,b∉as->R1 b=R b
 | [],dss,R,S,h,_,_=>by
   have l:=h.len
   cases dss with
   |cons x r=>simp at l
   |nil=>exact⟨R,S,Same.refl _,.nil,λ_ _=>rfl⟩
 | a::as,dss,R,S,h,nd,hz=>by
   cases h with
   | @cons _ _ vs ds dss h1 h2 h3 h4=>
     obtain⟨na,nd'⟩:=List.nodup_cons.mp nd
     obtain⟨z1,z2⟩:=hz a jf
     have s:Same R (upd R a (.lst vs)):=λb u e=>by
       have q:b≠a:=λq=>by rw[q,h2]at e;cases e
       rw[q0n q]
       exact e
     obtain⟨R1,S1,s1,r1,o1⟩:=StR.knowAll (S.know z1 h1 h2 z2) (h4.other na h2) nd' λb hb=>hz b (jg _ hb)
     refine⟨R1,S1,s.trans s1,.cons (.lst (SqL.of (s1 _ _ q0r)) ((h3.mono s).mono s1)) r1,λb hb=>?_⟩
     have hb1:b≠a:=λq=>hb (by rw[q];exact jf)
     rw[o1 b λq=>hb (jg _ q),q0n hb1]
theorem Inn.stp{K:PySem.W.Frag}{O:List Nat}{σ:St}{H R H' R':Hp}{as:List Addr}{dss:List (List D)}(h:Inn K H R as dss)(s:Stp O σ H R H' R')(ow:∀a∈as,∀j,j∈O->σ[j]? ≠some (some (.ref a))):Inn K H' R' as dss:=by
 induction h with
 |nil=>exact .nil
 | @cons a as vs ds dss h1 h2 h3 _ ih=>
   refine .cons (s.h _ _ h1 (ow a jf)) ?_ (h3.mono s.r) (ih λb hb=>ow b (jg _ hb))
   cases q:R' a with
   |none=>rfl
   | some o=>
     rcases s.n a (by rw[q];exact λz=>nomatch z)with z|z
     · exact absurd h2 z
     · rcases z with z|⟨xs,z⟩<;>(rw[h1]at z;cases z)
structure StD(K:PySem.W.Frag)(Z:Anc)(O:List Nat)(i:Nat)(σ:St)(H R:Hp)(ρ:Rho)(l:Addr)(as:List Addr)(dss:List (List D)):Prop where
 st:StR K Z O σ H R ρ
 hi:i∉O
 no:ρ[i]? =some none
 at':σ[i]? =some (some (.ref l))
 dp:Deep K H R l as dss
 z0:∀a∈l::as,Z.H0 a=none
 ow:∀a∈l::as,∀j,j∈O->σ[j]? ≠some (some (.ref a))
section
variable{K:PySem.W.Frag}{Z:Anc}{O:List Nat}{i j:Nat}{σ:St}{H R H' R':Hp}{ρ ρ':Rho}{l:Addr}{as:List Addr}{dss:List (List D)}
theorem StD.stp(S:StD K Z O i σ H R ρ l as dss)(T:StR K Z O σ H' R' ρ')(s:Stp O σ H R H' R')(no:ρ'[i]? =some none):StD K Z O i σ H' R' ρ' l as dss:=by
 refine⟨T,S.hi,no,S.at',⟨s.h _ _ S.dp.top (S.ow l jf),?_,S.dp.inn.stp s λa ha=>S.ow a (jg _ ha),S.dp.nd⟩,S.z0,S.ow⟩
 cases q:R' l with
 |none=>rfl
 | some o=>
   rcases s.n l (by rw[q];exact λz=>nomatch z)with z|z
   · exact absurd S.dp.rl z
   · rcases z with z|⟨xs,z⟩<;>(rw[S.dp.top]at z;cases z)
theorem StD.set(S:StD K Z O i σ H R ρ l as dss){v:V}{d:D}(hj:j∉O)(ij:j≠i)(r:Rp K R v d):StD K Z O i (σ.set j (some v)) H R (ρ.set j (some d)) l as dss:=
 ⟨S.st.set hj r,S.hi,by rw[jj ij];exact S.no,by rw[jj ij];exact S.at',S.dp,S.z0,λa ha k hk=>by
   rw[jj λ(q:j=k)=>hj (q▸hk)]
   exact S.ow a ha k hk⟩
theorem StR.blind{v:V}(S:StR K Z O σ H R ρ)(hj:j∉O):StR K Z O (σ.set j (some v)) H R (ρ.set j none):=by
 have ne:∀k,k∈O->j≠k:=λk hk z=>hj (z▸hk)
 refine⟨S.sub,by rw[xm,xm];exact S.len,λk e hk q=>?_,λk hk=>?_,λk m hk hm n l e=>?_,S.ah,S.ar,S.an,S.ad,λk hk hp l e=>?_,λk hk hp l e=>?_⟩
 · by_cases hij:j=k
   · subst hij
     have hl:j<ρ.length:=by
       have:=(List.getElem?_eq_some_iff.mp q).1
       rwa [xm]at this
     rw[x5 hl]at q
     cases q
   · rw[jj hij]at q ⊢
     exact S.env k e hk q
 · rw[jj (ne k hk),jj (ne k hk)]
   exact S.own k hk
 · rw[jj (ne k hk)]at e
   rw[jj (ne m hm)]
   exact S.dis k m hk hm n l e
 · rw[jj (ne k hk)]at e
   exact S.ao k hk hp l e
 · rw[jj (ne k hk)]at e
   exact S.ap k hk hp l e
theorem StD.wrAt{k:Nat}{a:Addr}{vs:List V}{ds:List D}(S:StD K Z O i σ H R ρ l as dss)(e:as[k]? =some a)(r:Rps K R vs ds):StD K Z O i σ (upd H a (.lst vs)) R ρ l as (dss.set k ds):=by
 have m:a∈l::as:=jg _ (x9 e)
 obtain⟨_,_,_,_,hr,_⟩:=S.dp.inn.at e
 exact⟨S.st.put hr (λj hj=>S.ow a m j hj) (S.z0 a m),S.hi,S.no,S.at',S.dp.setAt e r,S.z0,S.ow⟩
end
abbrev Fd:=Rho->List (List D)->Option (Rho×List (List D))
def MSD(K:PySem.W.Frag)(O:List Nat)(i:Nat)(t:TS)(f:Fd):Prop:=∀(Z:Anc) (E:Ends) (σ:St) (H R:Hp) (ρ:Rho) (l:Addr) (as:List Addr) (dss:List (List D)) (ρ':Rho) (zu:List (List D)),StD K Z O i σ H R ρ l as dss->f ρ dss=some (ρ',zu)->
 (∀σ' H' R' as',StD K Z O i σ' H' R' ρ' l as' zu->Same R R'->E.nx σ' H')->t E σ H
section
variable{K:PySem.W.Frag}{O:List Nat}{i j:Nat}{t u:TS}{te:TE}{tt:TT}{tr:TA}{f h:Fd}{fe:RhD}{fs:RhL}{ft:RhB}
def isFree(ρ:Rho)(i:Nat):Bool:=match ρ[i]? with
 |some none=>true
 |_=>false
theorem q5a{ρ:Rho}{i:Nat}(h:isFree ρ i=true):ρ[i]? =some none:=by
 unfold isFree at h
 split at h
 · assumption
 · cases h
end
def spD(K:PySem.W.Frag)(n:Nat)(f:List D->Option (List (List D))):Sp:=λvs H Q _=>vs.length=n/\∃R ds dss,(∀a o,R a=some o->H a=some o)/\Rps K R vs ds/\f ds=some dss/\
 ∀l as H' R',Ext H R H' R'->(∀a∈l::as,H a=none)->Deep K H' R' l as dss->Q (.ref l) H'
def qds(o:Option (List (List D))):Option D:=o.map λdss=>.lst (dss.map D.lst)
theorem Deep.known{K:PySem.W.Frag}{H R H' R':Hp}{l:Addr}{as:List Addr}{dss:List (List D)}(x:Ext H R H' R')(z:∀a∈l::as,H a=none)(h:Deep K H' R' l as dss):∃R1,Ext H R H' R1/\Rp K R1 (.ref l) (.lst (dss.map D.lst)):=by
 have S:StR K ⟨H,R,λ_=>False,[]⟩ [] [] H' R' []:=⟨x.s,rfl,λi d _ q=>by simp at q,λi hi=>(nomatch hi),λi j hi=>(nomatch hi),λa o q _=>x.h a o q,x.r,x.n,λa q=>x.h.liv q,λi hi=>(nomatch hi),λi hi=>(nomatch hi)⟩
 obtain⟨nl,nd⟩:=List.nodup_cons.mp h.nd
 obtain⟨R1,S1,s1,r1,o1⟩:=S.knowAll h.inn nd λa ha=>⟨z a (jg _ ha),λj hj=>(nomatch hj)⟩
 have e1:R1 l=none:=by rw[o1 l nl];exact h.rl
 have S2:=S1.know (z l jf) h.top e1 λj hj=>(nomatch hj)
 exact⟨_,⟨λa o q=>S2.ah a o q (λz=>z),S2.ar,S2.sub,S2.an⟩,.lst (SqL.of q0r) (r1.mono (Same.new e1))⟩
theorem qs4{K:PySem.W.Frag}{n:Nat}{f:List D->Option (List (List D))}{vs:List V}{H:Hp}{Q:VK}{E:XK}(h:spP K false n (λds=>qds (f ds)) vs H Q E):spD K n f vs H Q E:=by
 obtain⟨hn,R,ds,d,sub,r,e,k⟩:=h
 have e:qds (f ds)=some d:=e
 cases q:f ds with
 |none=>rw[q]at e;cases e
 | some dss=>
   rw[q]at e
   cases e
   refine⟨hn,R,ds,dss,sub,r,q,λl as H' R' x z dp=>?_⟩
   obtain⟨R1,x1,r1⟩:=dp.known x z
   exact k _ H' R1 x1 r1
theorem qif{K:PySem.W.Frag}{Nms:List Str}{n:Nat}{H R:Hp}{vs:List V}{ds:List D}(hn:vs.length=n)(hl:ds.length=n)(sub:∀a o,R a=some o->H a=some o)(r:Rps K R vs ds):StR K ⟨H,R,λ_=>False,[]⟩ [] (start Nms vs) H R (ds.map some++List.replicate (Nms.length-n) none):=by
 refine⟨sub,?_,λi d _ q=>?_,λi hi=>absurd hi (by simp),λi j hi=>absurd hi (by simp),λa o q _=>q,Same.refl _,λa q=>.inl q,λa q=>.refl q,λi hi=>absurd hi (by simp),λi hi=>absurd hi (by simp)⟩
 · unfold start
   rw[jd,jd,j6,j6,ji,ji,hn,hl]
 · obtain⟨v,h1,h2⟩:=r.get (q8r q)
   exact⟨v,q8q h1,h2⟩
section
variable{K:PySem.W.Frag}{O T:List Nat}{i:Nat}{t:TS}{te:TE}{tr:TA}{g:TG}{f:Fd}{fe:RhD}{fs:RhL}{fg:RhG}
def q5d(i:Nat)(fg:RhG)(f:Fd):List D->Fd
 |[],ρ,dss=>some (ρ,dss)
 | d::r,ρ,dss=>match fg d ρ with
   | some ρ1=>if isFree ρ1 i=true then(match f ρ1 dss with
     |some p=>q5d i fg f r p.1 p.2
     |none=>none)else none
   |none=>none
def qbx(i:Nat)(fg:RhG)(fi:RhL)(f:Fd):Fd:=λρ dss=>match fi ρ with
 |some (ds,ρ1)=>if isFree ρ1 i=true then q5d i fg f ds ρ1 dss else none
 |none=>none
theorem StD.tgt{Z:Anc}{σ σ':St}{H R:Hp}{ρ ρ':Rho}{l:Addr}{as:List Addr}{dss:List (List D)}(S:StD K Z O i σ H R ρ l as dss)(S':StR K Z O σ' H R ρ')(n:∀j,j∉T->σ'[j]? =σ[j]?)(hT:∀k∈i::O,k∉T)(no:ρ'[i]? =some none):StD K Z O i σ' H R ρ' l as dss:=
 ⟨S',S.hi,no,by rw[n i (hT i jf)];exact S.at',S.dp,S.z0,λa ha k hk=>by
   rw[n k (hT k (jg _ hk))]
   exact S.ow a ha k hk⟩
theorem qhw{wi:TI}{fi:RhL}{tb:TS}(hi:MI K O wi fi)(hg:MG K O T g fg)(hT:∀k∈i::O,k∉T)(hb:MSD K O i tb f):MSD K O i (tFor wi g tb) (qbx i fg fi f):=λZ E σ H R ρ l as dss ρ' zu S e k=>by
 unfold qbx at e
 split at e
 · rename_i ds ρ1 q
   split at e
   · rename_i z
     have no:=q5a z
     refine hi Z σ H R ρ ds ρ1 _ S.st q λJ H1 R1 S1 st1 ok=>?_
     have S2:=S.stp S1 st1 no
     refine⟨λn m σ' H'=>m=ds.length-n/\n<=ds.length/\∃R2 ρ2 as2 dss2,StD K Z O i σ' H' R2 ρ2 l as2 dss2/\Same R1 R2/\q5d i fg f (ds.drop n) ρ2 dss2=some (ρ',zu),⟨ds.length,by simp,Nat.zero_le _,R1,ρ1,as,dss,S2,Same.refl _,by rw[List.drop_zero];exact e⟩,?_⟩
     rintro n m σ' H' ⟨rfl,hn,R2,ρ2,as2,dss2,S3,s3,e3⟩
     obtain⟨o1,o2⟩:=ok H' R2 s3 S3.st.sub n
     by_cases hlt:n<ds.length
     · obtain⟨g1,g2⟩:=o2 ds[n] (jc hlt)
       rw[xv hlt]at e3
       refine .inr ⟨g1,λσ3 H3=>∃R2 ρ2 as2 dss2,StD K Z O i σ3 H3 R2 ρ2 l as2 dss2/\Same R1 R2/\q5d i fg f (ds.drop (n+1)) ρ2 dss2=some (ρ',zu),?_,λx H3 y=>?_⟩
       · rintro σ3 H3 ⟨R3,ρ3,as3,dss3,q1,q2,q3⟩
         exact⟨ds.length-(n+1),by omega,rfl,hlt,R3,ρ3,as3,dss3,q1,q2,q3⟩
       · obtain⟨R3,x3,r3⟩:=g2 x H3 y
         have S4:=S3.stp (S3.st.ext x3) x3.stp S3.no
         unfold q5d at e3
         split at e3
         · rename_i ρ4 e4
           split at e3
           · rename_i z4
             have no4:=q5a z4
             refine hg Z σ' H3 R3 ρ2 x ds[n] ρ4 _ S4.st r3 e4 λσ4 S5 n5=>?_
             have S6:=S4.tgt S5 n5 hT no4
             split at e3
             · rename_i p e5
               exact hb Z _ _ H3 R3 _ l as2 dss2 p.1 p.2 S6 e5 λσ5 H5 R5 as5 S7 s5=>⟨R5,p.1,as5,p.2,S7,(s3.trans x3.r).trans s5,e3⟩
             · cases e3
           · cases e3
         · cases e3
     · have en:n=ds.length:=by omega
       subst en
       rw[List.drop_length]at e3
       unfold q5d at e3
       cases e3
       exact .inl ⟨o1 rfl,k σ' H' R2 as2 S3 (st1.r.trans s3)⟩
   · cases e
 · cases e
def q78(dss:List (List D))(n:Int)(d:D):Option (List (List D)):=if 0<=n then(match dss[n.toNat]? with
 |some ds=>if ds.length<sizeLine then some (dss.set n.toNat (ds++[d]))else none
 |none=>none)else none
def q4m(i:Nat)(fe:RhD)(fs:RhL):Fd:=λρ dss=>match fe ρ with
 | some (.int n,ρ0)=>if isFree ρ0 i=true then(match fs ρ0 with
   |some ([d],ρ1)=>if isFree ρ1 i=true then(q78 dss n d).map λx=>(ρ1,x)else none
   |_=>none)else none
 |_=>none
theorem qdd(he:ME K O te fe)(ha:MA K O tr fs):MSD K O i (qcc (tBM K "list" qa8 (tOp (rIx K) (tVar i) te) tr)) (q4m i fe fs):=λZ E σ H R ρ l as dss ρ' zu S e k=>by
 unfold q4m at e
 split at e
 · rename_i n ρ0 q0
   split at e
   · rename_i z0
     have no0:=q5a z0
     split at e
     · rename_i d ρ1 q
       split at e
       · rename_i z
         have no:=q5a z
         cases w:q78 dss n d with
         |none=>rw[w]at e;cases e
         | some x=>
           rw[w]at e
           cases e
           unfold q78 at w
           split at w
           · rename_i hn0
             split at w
             · rename_i ds w1
               split at w
               · rename_i w2
                 cases w
                 refine⟨.ref l,S.at',he Z σ H R ρ (.int n) ρ0 _ S.st q0 λv0 H0 R0 S0 st0 r0=>?_⟩
                 cases r0
                 have T0:=S.stp S0 st0 no0
                 have ln:=T0.dp.inn.len
                 have hk:n.toNat<as.length:=by rw[ln];exact(List.getElem?_eq_some_iff.mp w1).1
                 have ea:as[n.toNat]? =some as[n.toNat]:=jc hk
                 obtain⟨vs,ds2,g1,g2,g3,g4⟩:=T0.dp.inn.at ea
                 rw[w1]at g1
                 cases g1
                 refine .inl ⟨l,_,n,.ref as[n.toNat],rfl,rfl,SqL.of T0.dp.top,?_,?_⟩
                 · unfold atI
                   have e1:ixN (as.map V.ref).length n=some n.toNat:=by
                     rw[j6]
                     unfold ixN
                     rw[if_pos hn0,if_pos (by omega)]
                   rw[e1]
                   show(as.map V.ref)[n.toNat]? =_
                   rw[jb,ea]
                   rfl
                 · refine⟨.inl ⟨rfl,vs,SqL.of g2⟩,ha Z σ H0 R0 ρ0 [d] _ _ T0.st q λws H1 R1 S1 st1 r1=>?_⟩
                   obtain⟨v,_,rfl,rv,rn⟩:=r1.isC
                   cases rn
                   have S2:=T0.stp S1 st1 no
                   obtain⟨vs2,ds3,g1,g2,g3,g4⟩:=S2.dp.inn.at ea
                   rw[w1]at g1
                   cases g1
                   exact⟨_,vs2,v,rfl,rfl,g2,by rw[g4.length];exact w2,k σ _ R1 as (S2.wrAt ea (g4.snoc rv)) (st0.r.trans st1.r)⟩
               · cases w
             · cases w
           · cases w
       · cases e
     · cases e
   · cases e
 · cases e
end
def qjn(i n:Nat)(js:List Nat)(wi:TI)(t:TS):TS:=tSeq (qha i n js wi (q67 0) tYes (tLst tNil)) (tSeq t (tRet (tVar i)))
theorem Inn.empty{K:PySem.W.Frag}{H R:Hp}:∀{as:List Addr},(∀a∈as,H a=some (.lst []))->(∀a∈as,R a=none)->Inn K H R as (List.replicate as.length [])
 |[],_,_=>.nil
 |a::as,h,r=>.cons (h a jf) (r a jf) .nil (Inn.empty (λb hb=>h b (jg _ hb)) λb hb=>r b (jg _ hb))
theorem qdp{K:PySem.W.Frag}{i n:Nat}{js:List Nat}{wi:TI}{fi:RhL}{t:TS}{f:Fd}{H R H1 R1:Hp}{σ:St}{ρ ρ1:Rho}{ds:List D}{dss:List (List D)}{Q:VK}(hw:MI K [] wi fi)(hm:MSD K [] i t f)(S:StR K ⟨H,R,λ_=>False,[]⟩ [] σ H1 R1 ρ)(e1:fi ρ=some (ds,ρ1))(hl:i<ρ1.length)(hz:ds.length<=sizeLine){ρ':Rho}(e:f (ρ1.set i none) (List.replicate ds.length [])=some (ρ',dss))
   (k:∀l as H' R',Ext H R H' R'->(∀a∈l::as,H a=none)->Deep K H' R' l as dss->Q (.ref l) H'):qjn i n js wi t {nx:=λ_ H'=>Q .non H',rt:=Q} σ H1:=by
 refine hw _ σ H1 R1 ρ ds ρ1 _ S e1 λJ H2 R2 S2 st2 ok=>?_
 refine⟨λc m ys H3=>m=ds.length-c/\c<=ds.length/\∃(R3:Hp) (as:List Addr),ys=as.map V.ref/\as.length=c/\as.Nodup/\(∀a∈as,H a=none)/\(∀a∈as,H3 a=some (.lst []))/\(∀a∈as,R3 a=none)/\Same R2 R3/\StR K ⟨H,R,λ_=>False,[]⟩ [] σ H3 R3 ρ1,
   ⟨ds.length,by simp,Nat.zero_le _,R2,[],rfl,rfl,List.nodup_nil,λ_ h=>(nomatch h),λ_ h=>(nomatch h),λ_ h=>(nomatch h),Same.refl _,S2⟩,?_⟩
 rintro c m ys H3 ⟨rfl,hc,R3,as,rfl,la,nd,a1,a2,a3,s3,S3⟩
 obtain⟨o1,o2⟩:=ok H3 R3 s3 S3.sub c
 by_cases hlt:c<ds.length
 · obtain⟨g1,g2⟩:=o2 ds[c] (jc hlt)
   refine .inr ⟨g1,by rw[j6];omega,λys' H'=>∃(R3:Hp) (as:List Addr),ys'=as.map V.ref/\as.length=c+1/\as.Nodup/\(∀a∈as,H a=none)/\(∀a∈as,H' a=some (.lst []))/\(∀a∈as,R3 a=none)/\Same R2 R3/\StR K ⟨H,R,λ_=>False,[]⟩ [] σ H' R3 ρ1,?_,λx H4 y=>?_⟩
   · rintro ys' H' ⟨R4,as4,q⟩
     exact⟨ds.length-(c+1),by omega,rfl,hlt,R4,as4,q⟩
   · obtain⟨R4,x4,r4⟩:=g2 x H4 y
     have S4:=S3.ext x4
     dsimp only[q67,tYes]
     rw[if_pos rfl]
     refine⟨by show 0<=sizeLine;exact Nat.zero_le _,λp hp=>?_⟩
     have b2:∀a∈as,H4 a=some (.lst []):=λa ha=>x4.h a _ (a2 a ha)
     have np:p∉as:=λq=>by have:=b2 p q;rw[hp]at this;cases this
     have b3:∀a∈as,R4 a=none:=λa ha=>by
       cases q:R4 a with
       |none=>rfl
       | some o=>
         rcases x4.n a (by rw[q];exact λz=>nomatch z)with z|z
         · exact absurd (a3 a ha) z
         · rcases z with z|⟨xs,z⟩<;>(rw[a2 a ha]at z;cases z)
     refine⟨R4,as++[p],by rw[ju];rfl,by rw[jd,la];rfl,List.nodup_append.mpr ⟨nd,by simp,λu hu v hv q=>np (by rw[List.mem_singleton.mp hv]at q;exact q▸hu)⟩,λa ha=>?_,λa ha=>?_,λa ha=>?_,s3.trans x4.r,S4.ext (Ext.hid S4.sub hp)⟩
     · rcases List.mem_append.mp ha with ha|ha
       · exact a1 a ha
       · rw[List.mem_singleton.mp ha];exact S4.new0 hp
     · rcases List.mem_append.mp ha with ha|ha
       · rw[q0n λq=>np (by rw[<-q];exact ha)];exact b2 a ha
       · rw[List.mem_singleton.mp ha];exact q0r
     · rcases List.mem_append.mp ha with ha|ha
       · exact b3 a ha
       · rw[List.mem_singleton.mp ha];exact S4.out hp
 · have ec:c=ds.length:=by omega
   subst ec
   refine .inl ⟨o1 rfl,by rw[j6,la];exact hz,λp hp=>?_⟩
   have np:p∉as:=λq=>by have:=a2 p q;rw[hp]at this;cases this
   have x:=Ext.hid (o:=.lst (as.map V.ref)) S3.sub hp
   have S4:=S3.ext x
   have T:StD K ⟨H,R,λ_=>False,[]⟩ [] i (σ.set i (some (.ref p))) (upd H3 p (.lst (as.map V.ref))) R3 (ρ1.set i none) p as (List.replicate ds.length []):=by
     refine⟨S4.blind (by simp),by simp,List.getElem?_set_self hl,List.getElem?_set_self (by rw[S3.len];exact hl),⟨q0r,S3.out hp,?_,List.nodup_cons.mpr ⟨np,nd⟩⟩,λa ha=>?_,λa ha j hj=>(nomatch hj)⟩
     · rw[<-la]
       exact Inn.empty (λa ha=>by rw[q0n λq=>np (by rw[<-q];exact ha)];exact a2 a ha) a3
     · rcases List.mem_cons.mp ha with ha|ha
       · rw[ha];exact S3.new0 hp
       · exact a1 a ha
   refine hm _ _ _ _ R3 _ p as _ ρ' dss T e λσ' H' R' as' S' s'=>?_
   exact⟨.ref p,S'.at',k p as' H' R' ⟨λa o q=>S'.st.ah a o q (λz=>z),S'.st.ar,S'.st.sub,S'.st.an⟩ S'.z0 S'.dp⟩
def qa6(n N i:Nat)(fi:RhL)(f:Fd)(ds:List D):Option (List (List D)):=if ds.length=n then match fi (ds.map some++List.replicate (N-n) none)with
   | some (xs,ρ1)=>if i<ρ1.length/\xs.length<=sizeLine then(match f (ρ1.set i none) (List.replicate xs.length [])with
     |some p=>some p.2
     |none=>none)else none
   |none=>none
 else none
theorem qkw{n N i:Nat}{fi:RhL}{f:Fd}:q1j n (λds=>qds (qa6 n N i fi f ds)):=λds d e=>by
 have e:qds (qa6 n N i fi f ds)=some d:=e
 unfold qa6 at e
 split at e
 · assumption
 · cases e
theorem qec{K:PySem.W.Frag}{n i m:Nat}{js:List Nat}{Nms:List Str}{wi:TI}{fi:RhL}{t:TS}{f:Fd}{vs:List V}{H:Hp}{Q:VK}{E:XK}(hw:MI K [] wi fi)(hm:MSD K [] i t f)(h:spD K n (qa6 n Nms.length i fi f) vs H Q E):qjn i m js wi t {nx:=λ_ H'=>Q .non H',rt:=Q} (start Nms vs) H:=by
 obtain⟨hn,R,ds,dss,sub,r,e,k⟩:=h
 unfold qa6 at e
 split at e
 · rename_i hl
   split at e
   · rename_i xs ρ1 e1
     split at e
     · rename_i hz
       split at e
       · rename_i p e2
         cases e
         exact qdp hw hm (qif hn hl sub r) e1 hz.1 hz.2 e2 k
       · cases e
     · cases e
   · cases e
 · cases e
theorem qfb:typeLookup (.type "list_reverseiterator") (Str.ofString "__len__")=pure none:=by kernel_rfl
theorem qi9:typeLookup (.type "list_reverseiterator") (Str.ofString "__length_hint__")=pure (some (.builtin "list_reverseiterator.__length_hint__")):=by kernel_rfl
def Itv(K:PySem.W.Frag)(a:Addr)(n:Nat):It:=
 ⟨λi H=>∃xs,SqL K H a xs/\xs.length=n/\i<n,λi H x H'=>H'=H/\∀xs,SqL K H a xs->xs[n-1-i]? =some x,λi H=>i=n⟩
theorem qh1{P:Program}{w:World}{K:PySem.W.Frag}{tg:Expr}(a it:Addr)(n:Nat):Turn P w K tg (Itv K a n) [it] it (λi h=>i<=n/\h.IsRevIter it a ((n:Int)-1-i)) where
 mem:=by simp
 obj:=λi h st b hb=>by
   have e:b=it:=by simpa using hb
   subst e
   obtain⟨_,o,e,c,d⟩:=st
   exact⟨o,e,λv z=>by rw[d]at z;cases z⟩
 keep:=λi h h' st k=>⟨st.1,by obtain⟨o,e,c⟩:=st.2;exact⟨o,k it (by simp) o e,c⟩⟩
 item:=by
   intro X hP hw hK hc i z5 s σ H E I hf st hg
   subst hP hw hK
   obtain⟨xs,hq,hl,hi⟩:=hg
   obtain⟨its,rv,p,hz⟩:=I.list hq
   have hx:xs[n-1-i]? =some (xs[n-1-i]'(by omega)):=jc (by omega)
   obtain⟨u,hu,ru⟩:=rv.get hx
   obtain⟨f0,f1,f2,f3,f4,f5⟩:=hf it (by simp)
   have st2:=st.2
   have en:((n:Int)-1-i)=((n-1-i:Nat):Int):=by omega
   rw[en]at st2
   refine wpAny_pyNext_rev_item st2 p.isList (x:=u) (by simpa using hu) λh' st' sb=>?_
   have I1:Inv X z5 σ H {s with heap:=h'}:=I.turned (t':=s.toks) (λb o hb e=>(sb.2 b hb).trans e) f0 f1 f3 f4 f5
   have st3:h'.IsRevIter it a ((n:Int)-1-(i+1:Nat)):=by
     have e2:((n:Int)-1-(i+1:Nat))=((n-1-i:Nat):Int)-1:=by omega
     rw[e2];exact st'
   obtain⟨o,e,c,d⟩:=id st'
   exact⟨u,rfl,qfy (s:={s with heap:=h'}) e c d (by decide) ⟨_,H,I1,ru,⟨rfl,λys hy=>by rw[I.list_inj hy hq];exact hx⟩,⟨by omega,st3⟩,λb hb=>(hf b hb).1⟩⟩
 done:=by
   intro X hP hw hK hc i z5 s σ H E I hf st hg
   subst hP hw hK
   have hi:i=n:=hg
   obtain⟨f0,f1,f2,f3,f4,f5⟩:=hf it (by simp)
   have st2:=st.2
   have en:((n:Int)-1-i)= -1:=by omega
   rw[en]at st2
   exact wpAny_pyNext_rev_end (I.ok.hd hc) st2 λh' eb=>⟨rfl,I.turned (t':=s.toks) (λb o hb e=>eb b o hb e) f0 f1 f3 f4 f5⟩
 self:=λ_ _ _ _ _ st h=>wpAny_pyIter_revIter st.2 h
section
variable{X:Cx}{K:PySem.W.Frag}{a tg:Expr}{ta:TE}{p pos:Pos}
def iRev(K:PySem.W.Frag)(ta:TE):TI:=λσ H R=>ta σ H λv H1=>∃p1 xs,[v]=[V.ref p1]/\SqL K H1 p1 xs/\R (Itv K p1 xs.length) H1
theorem qos(hK:X.K=K)(hg:Gl X "reversed")(hm:X.mg "reversed"=none)(ha:PE X a ta)(he:starEach [a] X.env=(false,eval a X.env)::starEach [] X.env:=by rfl)(hpl:(backTo pos (starEach [] X.env)).any (·.1)=false:=by rfl):
   PI X tg (.Call (.Name "reversed" p) [a] [] pos) (iRev K ta):=by
 subst hK
 intro z5 s σ H R I h
 refine xo (q4f I hg hm (u:=.type "reversed") (by rfl) ?_)
 refine PyProof.Rows.callWith_type1 (thn ((q00 ha q05 he) pos z5 s σ H (λvs H1=>∃p1 xs,vs=[V.ref p1]/\SqL X.K H1 p1 xs/\R (Itv X.K p1 xs.length) H1) I h) λus s1 h1=>?_) he hpl
 obtain⟨vs,H1,I1,r1,p1,xs,rfl,q1,k⟩:=h1
 obtain⟨u,rfl,ru⟩:=vals1 r1
 cases(show u=Value.ref p1 from ru)
 obtain⟨its,rv,pl,hz⟩:=I1.list q1
 have ln:its.length=xs.length:=by have:=rv.length;omega
 refine call_reversed_list pl.isList (wpAny_pyIter_revIter ⟨_,jl _ rfl,rfl,rfl⟩ ?_)
 refine⟨s1.heap.objs.size,[s1.heap.objs.size],_,_,H1,rfl,I1.kept (t':=s1.toks) λb o e=>j9 _ e,qh1 p1 _ xs.length,⟨Nat.zero_le _,_,jl _ rfl,rfl,?_⟩,λb hb=>?_,k⟩
 · show Data.fields #[Value.ref p1,rawInt ((its.toArray.size:Int)-1)]=_
   rw[jv,ln]
   simp
 · have e:b=s1.heap.objs.size:=by simpa using hb
   subst e
   exact I1.fpOk (ja _) (I1.hok.fresh (ja _))
end
theorem qdo{prog:Program}{w:World}{A:Around}{s:Shared}{R:Result->Shared->Prop}{I l S:Addr}{items:Array Value}{c₀:Nat}{res:Value}(hh:A.in1.handled=none)(hn:items.size<=sizeLine)(gI:s.heap.IsRevIter I l ((items.size:Int)-1))(gl:s.heap.IsList l items)(lI:l≠I)(SI:S≠I)(Sl:S≠l)
   (hS:s.heap.get? S=some {cls:=.type "list",data:=.seq #[] c₀})
   (hR:∀s' acc c',Moved [S,I] (λa b=>b=a) s s'->s'.heap.get? S=some {cls:=.type "list",data:=.seq acc c'}->ItemsOf (λi v=>items[items.size-1-i]? =some v) acc items.size->R (.ok (.ret res)) s'):
   wpAny (model prog w) A.in1 (Builtin.List.listExtendWith (.ref S) (.ref I) res) (λfin s'=>match fin with
     |.done f=>R (.ok f) s'
     |.again c'=>c'.quiet=true/\codeAny (model prog w) A c' R s') (λe s'=>R (.error e) s') s:=by
 have ty:s.TypeIs (.ref I) "list_reverseiterator":=by
   obtain⟨o,e,c,_⟩:=gI
   exact⟨o,e,c⟩
 have W:=(Walks.listRev (prog:=prog) (w:=w) hh I l lI items).toS
 unfold Builtin.List.listExtendWith
 refine j5 (wpAny_typeOf ty ?_)
 have h1:Builtin.List.listSameRef (.ref S) (.ref I)=false:=by
   unfold Builtin.List.listSameRef
   simp[SI]
 have h2:(Value.type "list_reverseiterator"==Value.type "list")=false:=by decide
 have h3:(Value.type "list_reverseiterator"==Value.type "tuple")=false:=by decide
 simp only[h1,h2,h3,Bool.or_false,Bool.false_eq_true,if_false]
 refine j5 (wpAny_pyIter_revIter gI ?_)
 refine j5 (xu ?_)
 unfold Builtin.List.listLengthHint
 refine j5 (wpAny_specialOf ty qfb ?_)
 show wpAny _ _ (specialOf (.ref I) (Str.ofString "__length_hint__") >>= _) _ _ s
 refine j5 (wpAny_specialOf ty qi9 ?_)
 show wpAny _ _ (isInstance (.ref I) (.type "list_reverseiterator") >>= _) _ _ s
 refine j5 (wpAny_isInstance ty (b:=true) (by kernel_rfl) ?_)
 show wpAny _ _ (pure false) _ _ s
 refine j7 ?_
 show wpAny _ _ (again (.builtin "list.extend.loop" ⟨[.ref S,.ref I,res],[]⟩)) _ _ s
 refine j7 ⟨ka F.plain_extend_loop _,?_⟩
 refine codeAny_extend_loopS W hn S (by simp;exact⟨SI,Sl⟩) res items.size 0 s #[] c₀ rfl (Nat.zero_le _) ⟨Nat.zero_le _,by simpa using gI,gl⟩ hS (.nil _) λs' acc c' m e i=>hR s' acc c' ?_ e i
 exact m
theorem qi8{prog:Program}{w:World}{A:Around}{s:Shared}{R:Result->Shared->Prop}{I l S:Addr}{items:Array Value}(hh:A.in1.handled=none)(hn:items.size<=sizeLine)(gI:s.heap.IsRevIter I l ((items.size:Int)-1))(gl:s.heap.IsList l items)(lI:l≠I)(SI:S≠I)(Sl:S≠l)
   (hS:s.heap.get? S=some {cls:=.type "list",data:=.seq #[]})
   (hR:∀s' acc c',Moved [S,I] (λa b=>b=a) s s'->s'.heap.get? S=some {cls:=.type "list",data:=.seq acc c'}->ItemsOf (λi v=>items[items.size-1-i]? =some v) acc items.size->R (.ok (.ret .none)) s'):
   wpAny (model prog w) A.in1 (Builtin.«list.__init__» ⟨[.ref S,.ref I],[]⟩) (λfin s'=>match fin with
     |.done f=>R (.ok f) s'
     |.again c'=>c'.quiet=true/\codeAny (model prog w) A c' R s') (λe s'=>R (.error e) s') s:=by
 show wpAny _ _ (Builtin.List.listItems (.ref S) >>= _) _ _ s
 refine j5 ?_
 unfold Builtin.List.listItems
 refine j5 (xp hS rfl (j7 ?_))
 show wpAny _ _ (Builtin.List.listUpdate (.ref S) _ >>= _) _ _ s
 unfold Builtin.List.listUpdate
 refine j5 (wpAny_updateSeq hS rfl ?_ (by simp) (by simp))
 have hS2:=ke (Obj.mapSeq λ_=>#[]) hS rfl
 have oth:∀b o,b≠S->s.heap.get? b=some o->(s.heap.update S (Obj.mapSeq λ_=>#[])).get? b=some o:=λb o hb e=>(k9 s.heap (Obj.mapSeq λ_=>#[]) (Ne.symm hb)).trans e
 refine j5 (wpAny_letGo ?_)
 refine qdo (s:={s with heap:=s.heap.update S (Obj.mapSeq λ_=>#[])}) hh hn ?_ ?_ lI SI Sl hS2 λs' acc c' m e i=>hR s' acc c' ?_ e i
 · obtain⟨o,e,c⟩:=gI
   exact⟨o,oth I o (Ne.symm SI) e,c⟩
 · obtain⟨o,e,c⟩:=gl
   exact⟨o,oth l o (Ne.symm Sl) e,c⟩
 · exact⟨λb o nb e=>m.heap b o nb (oth b o (λq=>nb (by rw[q];simp)) e),m.gens,m.drawn,m.os,m.toks⟩
theorem q8k{prog:Program}{w:World}{A:Around}{E:Value->Shared->Prop}{s:Shared}{Q:Value->Shared->Prop}{I l:Addr}{items:Array Value}(hh:A.in1.in1.handled=none)(hn:items.size<=sizeLine)(gI:s.heap.IsRevIter I l ((items.size:Int)-1))(gl:s.heap.IsList l items)(lI:l≠I)
   (hQ:∀s' acc c',(∀b o,b≠I->s.heap.get? b=some o->s'.heap.get? b=some o)->s'.gens=s.gens->s'.drawn=s.drawn->s'.os=s.os->s'.heap.get? s.heap.objs.size=some {cls:=.type "list",data:=.seq acc c'}->ItemsOf (λi v=>items[items.size-1-i]? =some v) acc items.size->Q (.ref s.heap.objs.size) s'):
   wpAny (model prog w) A (call (.type "list") [.ref I]) Q E s:=by
 have ltI:I<s.heap.objs.size:=by obtain⟨o,e,_⟩:=gI;exact j8 e
 have ltl:l<s.heap.objs.size:=by obtain⟨o,e,_⟩:=gl;exact j8 e
 refine callType_codes F.called_list (F.typeCall_list_1 _) F.entry_list_init (Q₁:=λv s1=>v=.ref s.heap.objs.size/\s1={s with heap:=s.heap.push {cls:=.type "list",data:=.seq #[]}}) (code_list_new _ ⟨rfl,rfl⟩) λobj s1 h1=>?_
 obtain⟨rfl,rfl⟩:=h1
 have hS:=jl s.heap (o:={cls:=.type "list",data:=.seq #[]}) rfl
 refine⟨⟨_,hS,rfl⟩,F.args_list_init_2 _ _,?_⟩
 refine qi8 (l:=l) (items:=items) hh hn ?_ ?_ lI (Nat.ne_of_gt ltI) (Nat.ne_of_gt ltl) hS λs' acc c' m e i=>⟨rfl,hQ s' acc c' (λb o nb eb=>?_) m.gens m.drawn m.os e i⟩
 · obtain⟨o,e,c⟩:=gI
   exact⟨o,j9 _ e,c⟩
 · obtain⟨o,e,c⟩:=gl
   exact⟨o,j9 _ e,c⟩
 · refine m.heap b o (λq=>?_) (j9 _ eb)
   rcases List.mem_cons.mp q with q|q
   · have:=j8 eb
     rw[q]at this
     exact jy _ this
   · exact nb (List.mem_singleton.mp q)
section
variable{X:Cx}{K:PySem.W.Frag}{O:List Nat}{a:Expr}{ta:TE}{p p2 pos zm:Pos}{fa:RhD}
def qns(K:PySem.W.Frag)(ta:TE):TE:=λσ H Q=>ta σ H λv H1=>∃p xs,[v]=[V.ref p]/\SqL K H1 p xs/\∀q,H1 q=none->Q (.ref q) (upd H1 q (.lst xs.reverse))
theorem ql4(hK:X.K=K)(hc:X.calm=true)(hg:Gl X "list")(hm:X.mg "list"=none)(hg2:Gl X "reversed")(hm2:X.mg "reversed"=none)(ha:PE X a ta)(he2:starEach [a] X.env=(false,eval a X.env)::starEach [] X.env:=by rfl)(hpl2:(backTo pos (starEach [] X.env)).any (·.1)=false:=by rfl)
   (he:starEach [.Call (.Name "reversed" p) [a] [] pos] X.env=(false,eval (.Call (.Name "reversed" p) [a] [] pos) X.env)::starEach [] X.env:=by rfl) (hpl:(backTo zm (starEach [] X.env)).any (·.1)=false:=by rfl):
   PE X (.Call (.Name "list" p2) [.Call (.Name "reversed" p) [a] [] pos] [] zm) (qns K ta):=by
 subst hK
 intro z5 s σ H Q I h
 refine xo (q4f I hg hm (u:=.type "list") (by rfl) ?_)
 refine PyProof.Rows.callWith_type1 ?_ he hpl
 rw[he]
 show wpAny _ _ (spliced ((false,eval (.Call (.Name "reversed" p) [a] [] pos) X.env)::backTo zm (starEach [] X.env))) _ _ s
 refine Calls.spliced_cons ?_
 refine xo (q4f I hg2 hm2 (u:=.type "reversed") (by rfl) ?_)
 refine PyProof.Rows.callWith_type1 (thn ((q00 ha q05 he2) pos z5 s σ H (λvs H1=>∃p1 xs,vs=[V.ref p1]/\SqL X.K H1 p1 xs/\∀q,H1 q=none->Q (.ref q) (upd H1 q (.lst xs.reverse))) I h) λus s1 h1=>?_) he2 hpl2
 obtain⟨vs,H1,I1,r1,p1,xs,rfl,q1,k⟩:=h1
 obtain⟨u,rfl,ru⟩:=vals1 r1
 cases(show u=Value.ref p1 from ru)
 obtain⟨its,rv,pl,hz⟩:=I1.list q1
 have ln:its.length=xs.length:=by have:=rv.length;omega
 have lp:p1<s1.heap.objs.size:=by obtain⟨o,e,_⟩:=pl.isList;exact j8 e
 refine call_reversed_list pl.isList (Calls.spliced_nil ?_)
 have gl:(s1.heap.push (revObj p1 ((its.toArray.size:Int)-1))).IsList p1 its.toArray:=by
   obtain⟨o,e,c⟩:=pl.isList
   exact⟨o,j9 _ e,c⟩
 refine q8k (l:=p1) (items:=its.toArray) (I1.ok.hd hc) (by rw[jv];omega) ⟨_,jl _ rfl,rfl,rfl⟩ gl (jh lp) λs2 acc c' kp eg ed eo e i=>?_
 have es:s2={s1 with heap:=s2.heap,toks:=s2.toks}:=by
   obtain⟨h2,g2,d2,t2,o2⟩:=s2
   cases eg;cases ed;cases eo
   rfl
 have hf:H1 (s1.heap.push (revObj p1 ((its.toArray.size:Int)-1))).objs.size=none:=I1.hok.fresh (by rw[x8];exact Nat.le_succ _)
 have ea:acc.toList=its.reverse:=by
   apply List.ext_getElem?
   intro j
   by_cases hj:j<its.length
   · have hj2:j<acc.size:=by rw[i.1,jv];exact hj
     have v2:=i.2 j acc[j] (Array.getElem?_eq_getElem hj2)
     rw[List.getElem?_reverse hj]
     have v2':its[its.length-1-j]? =some acc[j]:=by simpa using v2
     rw[v2']
     simp
   · rw[xc (by simp;have:=i.1;simp at this;omega),xc (by simp;omega)]
 refine⟨.ref _,_,?_,rfl,k _ hf⟩
 rw[es]
 refine I1.laid (t':=s2.toks) (λb o eb=>kp b o (jh (j8 eb)) (j9 _ eb)) (by rw[x8];exact Nat.le_succ _) ?_
 refine⟨by rw[List.length_reverse];exact hz,its.reverse,c',rv.reverse,?_⟩
 rw[e,<-ea]
theorem qr2{R:Hp}{b:Addr}{xs:List V}{ds:List D}(h:SqL K R b xs)(r:Rps K R xs ds):ItOk K (Itv K b xs.length) R ds.reverse:=λH' R' s sb i=>by
 have q:SqL K H' b xs:=Same.sqL sb (Same.sqL s h)
 have ln:=r.length
 refine⟨λe=>by show i=xs.length;rw[e,List.length_reverse];exact ln.symm,λd e=>?_⟩
 have hi:i<ds.length:=by
   have:=(List.getElem?_eq_some_iff.mp e).1
   rwa [List.length_reverse]at this
 rw[List.getElem?_reverse hi]at e
 obtain⟨v,h1,h2⟩:=r.get e
 refine⟨⟨xs,q,rfl,by omega⟩,λx H'' y=>?_⟩
 obtain⟨rfl,y⟩:=y
 have ex:=y xs q
 rw[ln,h1]at ex
 cases ex
 exact⟨R',Ext.refl sb,h2.mono s⟩
def revO:D->Option (List D)
 |.lst xs=>some xs.reverse
 |_=>none
def mRev(f:RhD):RhL:=q1s f λd=>q2q (revO d)
theorem qqm(h:ME K O ta fa):MI K O (iRev K ta) (mRev fa):=λZ σ H R ρ ds ρ' Q S e k=>by
 obtain⟨x,ρ1,e1,e⟩:=q0c e
 obtain⟨e3,rfl⟩:=q0m e
 refine h Z σ H R ρ x _ _ S e1 λv H1 R1 S1 st1 r1=>?_
 unfold revO at e3
 split at e3
 · cases e3
   obtain⟨b,xs,rfl,q,r⟩:=r1.isL
   exact⟨b,xs,rfl,Same.sqL S1.sub q,k _ H1 R1 S1 st1 (qr2 q r)⟩
 · cases e3
theorem qra{ρ:Rho}:mRev fa ρ=(fa ρ).bind λp=>(revO p.1).map λx=>(x,p.2):=by
 unfold mRev q1s q2q
 cases fa ρ with
 |none=>rfl
 |some p=>cases h:revO p.1<;>simp[h]
theorem Rps.rev{R:Hp}:∀{xs:List V} {ds:List D},Rps K R xs ds->Rps K R xs.reverse ds.reverse
 |_,_,.nil=>.nil
 | _,_,.cons h r=>by
   rw[List.reverse_cons,List.reverse_cons]
   exact(Rps.rev r).snoc h
end
structure Kp(I S:Addr)(s0 s:Shared):Prop where
 heap:∀b o,b≠I->b≠S->s0.heap.get? b=some o->s.heap.get? b=some o
 gens:s.gens=s0.gens
 drawn:s.drawn=s0.drawn
 os:s.os=s0.os
structure Kq(s s':Shared):Prop where
 heap:∀b o,s.heap.get? b=some o->s'.heap.get? b=some o
 gens:s'.gens=s.gens
 drawn:s'.drawn=s.drawn
 os:s'.os=s.os
theorem Kp.on{I S:Addr}{s0 s s':Shared}(x:Kp I S s0 s)(heap:∀b o,b≠I->b≠S->s.heap.get? b=some o->s'.heap.get? b=some o)(g:s'.gens=s.gens)(d:s'.drawn=s.drawn)(o:s'.os=s.os):Kp I S s0 s':=
 ⟨λb u h1 h2 e=>heap b u h1 h2 (x.heap b u h1 h2 e),g.trans x.gens,d.trans x.drawn,o.trans x.os⟩
def CmpK(prog:Program)(w:World)(A:Around)(I S:Addr)(s0:Shared)(its:Array Value)(bt:Nat->Nat->Bool):Prop:=
 ∀(i j:Nat) (vi vj:Value) (s:Shared) (Q:Value->Shared->Prop) (E:Value->Shared->Prop),its[i]? =some vi->its[j]? =some vj->Kp I S s0 s->(∀s',Kq s s'->Q (.bool (bt i j)) s')->wpAny (model prog w) A (richCompare .Lt vi vj) Q E s
section
variable{prog:Program}{w:World}{A:Around}{R:Result->Shared->Prop}{I S l:Addr}{its:Array Value}{s0:Shared}{bt:Nat->Nat->Bool}{kw:List (Str×Value)}
abbrev StL(I l:Addr)(its:Array Value)(i:Nat)(h:Heap):Prop:=h.IsListIter I l i/\h.IsList l its
theorem StL.keep{i:Nat}{h h':Heap}(st:StL I l its i h)(k:∀b o,b=I∨b=l->h.get? b=some o->h'.get? b=some o):StL I l its i h':=by
 obtain⟨⟨o,e,c⟩,⟨o2,e2,c2⟩⟩:=st
 exact⟨⟨o,k I o (.inl rfl) e,c⟩,⟨o2,k l o2 (.inr rfl) e2,c2⟩⟩
theorem qfg(hh:A.in1.handled=none)(lI:l≠I)(SI:S≠I)(Sl:S≠l)(zo:CmpK prog w A.in1 I S s0 its bt)(hR:∀v s',its[argBest bt (its.size-1)]? =some v->Kp I S s0 s'->R (.ok (.ret v)) s'):
   ∀(k j:Nat) (s:Shared) (vb:Value) (c:Nat),its.size-(j+1)=k->j+1<=its.size->StL I l its (j+1) s.heap->its[argBest bt j]? =some vb->s.heap.get? S=some {cls:=.type "list",data:=.seq #[vb,vb] c}->Kp I S s0 s->
     codeAny (model prog w) A (.builtin "min.loop" ⟨[.ref I,.none,.ref S],kw⟩) R s:=by
 intro k
 induction k with
 | zero=>
   intro j s vb c hk hj st hb hS K
   have en:j+1=its.size:=by omega
   refine codeAny_builtin F.entry_min_loop ?_
   rw[ki kc]
   show wpAny _ _ (seqItems? (.ref S) >>= _) _ _ s
   refine j5 (xp hS rfl ?_)
   refine j5 (wpAny_tryCatch ?_)
   refine wpAny_pyNext_list_end hh st.1 st.2 (Array.getElem?_eq_none (by omega)) λh' eb=>?_
   have hS2:h'.get? S=some {cls:=.type "list",data:=.seq #[vb,vb] c}:=eb S _ SI hS
   show wpAny _ _ (updateSeq S (λ_=>#[]) >>= _) _ _ {s with heap:=h'}
   refine j5 (wpAny_updateSeq (s:={s with heap:=h'}) hS2 rfl ?_ (by simp[sizeLine_eq]) (by simp[sizeLine_eq]))
   refine j5 (wpAny_letGo ?_)
   refine j7 ?_
   have ej:its.size-1=j:=by omega
   refine hR vb _ (by rw[ej];exact hb) (K.on (λb o h1 h2 e=>?_) rfl rfl rfl)
   exact(k9 h' _ (Ne.symm h2)).trans (eb b o h1 e)
 | succ k ih=>
   intro j s vb c hk hj st hb hS K
   have lt:j+1<its.size:=by omega
   refine codeAny_builtin F.entry_min_loop ?_
   rw[ki kc]
   show wpAny _ _ (seqItems? (.ref S) >>= _) _ _ s
   refine j5 (xp hS rfl ?_)
   refine j5 (wpAny_tryCatch ?_)
   have hx:its[j+1]? =some its[j+1]:=Array.getElem?_eq_getElem lt
   refine wpAny_pyNext_list_item st.1 st.2 (x:=its[j+1]) hx λh' st' sb=>?_
   have kI:∀b o,b≠I->s.heap.get? b=some o->h'.get? b=some o:=λb o hb e=>(sb.2 b hb).trans e
   have hS2:h'.get? S=some {cls:=.type "list",data:=.seq #[vb,vb] c}:=kI S _ SI hS
   have L2:h'.IsList l its:=by obtain⟨o,e,q⟩:=st.2;exact⟨o,kI l o lI e,q⟩
   have K2:Kp I S s0 {s with heap:=h'}:=K.on (λb o h1 _ e=>kI b o h1 e) rfl rfl rfl
   show wpAny _ _ (pure its[j+1] >>= _) _ _ {s with heap:=h'}
   refine j5 (j7 ?_)
   show wpAny _ _ (Sem.tryCatch _ _ >>= _) _ _ {s with heap:=h'}
   refine j5 (wpAny_tryCatch (xu ?_))
   refine j5 (zo (j+1) (argBest bt j) _ vb _ _ _ hx hb K2 λs3 q3=>?_)
   refine j5 (xu (wpAny_truthy_bool ?_))
   refine j5 (wpAny_letGo ?_)
   refine j7 ?_
   have hS3:=q3.heap S _ hS2
   have st3:StL I l its (j+1+1) s3.heap:=StL.keep ⟨st',L2⟩ λb o _ e=>q3.heap b o e
   have K3:Kp I S s0 s3:=K2.on (λb o _ _ e=>q3.heap b o e) q3.gens q3.drawn q3.os
   have eb:argBest bt (j+1)=if bt (j+1) (argBest bt j)=true then j+1 else argBest bt j:=by rw[argBest]
   cases q:bt (j+1) (argBest bt j)with
   | true=>
     rw[q,if_pos rfl]at eb
     show wpAny _ _ (updateSeq S _ >>= _) _ _ s3
     refine j5 (wpAny_updateSeq hS3 rfl ?_ (by simp[sizeLine_eq]) (by simp[sizeLine_eq]))
     refine j5 (wpAny_letGo ?_)
     refine j7 ⟨ka kc _,?_⟩
     have hS4:=ke (Obj.mapSeq λ_=>#[its[j+1],its[j+1]]) hS3 rfl
     refine ih (j+1) _ its[j+1] _ (by omega) lt (st3.keep λb o hb e=>?_) (by rw[eb];exact hx) hS4 (K3.on (λb o h1 h2 e=>(k9 s3.heap _ (Ne.symm h2)).trans e) rfl rfl rfl)
     refine(k9 s3.heap _ ?_).trans e
     rcases hb with rfl|rfl
     · exact SI
     · exact Sl
   | false=>
     rw[q,if_neg (by decide)]at eb
     show wpAny _ _ (letGo _ >>= _) _ _ s3
     refine j5 (wpAny_letGo ?_)
     refine j7 ⟨ka kc _,?_⟩
     exact ih (j+1) s3 vb c (by omega) lt st3 (by rw[eb];exact hb) hS3 K3
theorem qde(hh:A.in1.handled=none)(lI:l≠I)(SI:S≠I)(Sl:S≠l)(zo:CmpK prog w A.in1 I S s0 its bt)(hR:∀v s',its[argBest bt (its.size-1)]? =some v->Kp I S s0 s'->R (.ok (.ret v)) s')
   (hD:its.size=0->∃x d r,kw=(x,d)::r/\∀s',Kp I S s0 s'->R (.ok (.ret d)) s')
   {s:Shared} {c:Nat} (st:StL I l its 0 s.heap) (hS:s.heap.get? S=some {cls:=.type "list",data:=.seq #[] c}) (K:Kp I S s0 s):codeAny (model prog w) A (.builtin "min.loop" ⟨[.ref I,.none,.ref S],kw⟩) R s:=by
 refine codeAny_builtin F.entry_min_loop ?_
 rw[ki kc]
 show wpAny _ _ (seqItems? (.ref S) >>= _) _ _ s
 refine j5 (xp hS rfl ?_)
 refine j5 (wpAny_tryCatch ?_)
 by_cases h0:its.size=0
 · obtain⟨x,d,r,rfl,hE⟩:=hD h0
   refine wpAny_pyNext_list_end hh st.1 st.2 (Array.getElem?_eq_none (by omega)) λh' eb=>?_
   show wpAny _ _ (rule _ >>= _) _ _ {s with heap:=h'}
   refine j5 (wpAny_rule ?_)
   refine j7 ?_
   exact hE _ (K.on (λb o h1 h2 e=>eb b o h1 e) rfl rfl rfl)
 · have lt:0<its.size:=by omega
   have hx:its[0]? =some its[0]:=Array.getElem?_eq_getElem lt
   refine wpAny_pyNext_list_item st.1 st.2 (x:=its[0]) hx λh' st' sb=>?_
   have kI:∀b o,b≠I->s.heap.get? b=some o->h'.get? b=some o:=λb o hb e=>(sb.2 b hb).trans e
   have hS2:h'.get? S=some {cls:=.type "list",data:=.seq #[] c}:=kI S _ SI hS
   have L2:h'.IsList l its:=by obtain⟨o,e,q⟩:=st.2;exact⟨o,kI l o lI e,q⟩
   show wpAny _ _ (pure its[0] >>= _) _ _ {s with heap:=h'}
   refine j5 (j7 ?_)
   show wpAny _ _ (updateSeq S _ >>= _) _ _ {s with heap:=h'}
   refine j5 (wpAny_updateSeq (s:={s with heap:=h'}) hS2 rfl ?_ (by simp[sizeLine_eq]) (by simp[sizeLine_eq]))
   refine j7 ⟨ka kc _,?_⟩
   have hS4:=ke (Obj.mapSeq λ_=>#[its[0],its[0]]) hS2 rfl
   refine qfg hh lI SI Sl zo hR (its.size-1) 0 _ its[0] _ rfl lt (StL.keep ⟨st',L2⟩ λb o hb e=>?_) hx hS4 (K.on (λb o h1 h2 e=>(k9 h' _ (Ne.symm h2)).trans (kI b o h1 e)) rfl rfl rfl)
   refine(k9 h' _ ?_).trans e
   rcases hb with rfl|rfl
   · exact SI
   · exact Sl
end
section
open PySem.SeqAt PySem.MeetsSeq PySem.MeetsSeq2 PySem.MeetsSeq3
theorem q3k{M:Model}{A:Around}{E:Value->Shared->Prop}{s:Shared}{l:Addr}{items:Array Value}{n:Nat}{dd:Option Addr}{sl:Array (Option Value)}{Q:Array Value->Shared->Prop}(h:s.heap.get? l=some {cls:=.type "list",dict:=dd,data:=.seq items n,slots:=sl})(q:Q items s):wpAny M A (Builtin.List.listItems (.ref l)) Q E s:=by
 unfold Builtin.List.listItems
 exact j5 (xp h rfl (j7 q))
theorem q5q:∀{vs:List Value} {ns:List Int},IntsAre vs ns->∀{i:Nat} {a:Int},ns[i]? =some a->∃t,vs[i]? =some (.int a t):=by
 intro vs ns h
 induction h with
 |nil=>intro i a e;simp at e
 | cons a t _ ih=>
   intro i b e
   cases i with
   |zero=>cases e;exact⟨t,rfl⟩
   |succ i=>exact ih e
theorem qly(l b:Addr)(items zc:Array Value)(n n2:Nat)(dd dd2:Option Addr)(sl sl2:Array (Option Value))(ns ms:List Int)(hi:IntsAre items.toList ns)(hj:IntsAre zc.toList ms)(hl:ns.length=ms.length):
   ∀(k i:Nat),ns.length-i=k->i<=ns.length->Meets (Builtin.«list.__eq__.loop» ⟨[.ref l,.ref b,rawInt i,rawInt 0],[]⟩)
     (λ_ R s=>s.heap.get? l=some {cls:=.type "list",dict:=dd,data:=.seq items n,slots:=sl}/\s.heap.get? b=some {cls:=.type "list",dict:=dd2,data:=.seq zc n2,slots:=sl2}/\
       R (.ok (.ret (.bool (HT.lexLt (ns.drop i) (ms.drop i))))) s):=by
 have z1:items.size=ns.length:=by rw[<-hi.length];simp
 have z2:zc.size=ms.length:=by rw[<-hj.length];simp
 intro k
 induction k with
 | zero=>
   intro i hk hle prog w A R s h
   obtain⟨h1,h2,h⟩:=h
   have e1:items[i]? =none:=Array.getElem?_eq_none (by omega)
   rw[List.drop_eq_nil_of_le (as:=ns) (by omega),List.drop_eq_nil_of_le (as:=ms) (by omega)]at h
   show wpAny _ _ (Builtin.List.listItems (.ref l) >>= _) _ _ s
   refine j5 (q3k h1 (j5 (q3k h2 ?_)))
   simp only[Int.toNat_natCast,e1]
   refine j5 (q3k h1 (j5 (q3k h2 (j7 ?_))))
   have ez:items.size=zc.size:=by omega
   show R (.ok (.ret (.bool (decide (items.size<zc.size))))) s
   rw[ez,decide_eq_false (jy _)]
   exact h
 | succ k ih=>
   intro i hk hle prog w A R s h
   obtain⟨h1,h2,h⟩:=h
   have lt1:i<ns.length:=by omega
   have lt2:i<ms.length:=by omega
   obtain⟨t,e1⟩:=q5q hi (jc lt1)
   obtain⟨u,e2⟩:=q5q hj (jc lt2)
   have e1:items[i]? =some (.int ns[i] t):=by simpa using e1
   have e2:zc[i]? =some (.int ms[i] u):=by simpa using e2
   rw[xv lt1,xv lt2,HT.lexLt_cons]at h
   show wpAny _ _ (Builtin.List.listItems (.ref l) >>= _) _ _ s
   refine j5 (q3k h1 (j5 (q3k h2 ?_)))
   simp only[Int.toNat_natCast,e1,e2]
   obtain⟨e,he,hiff⟩:=HT.eqAt_int A.in1 s ns[i] t ms[i] u
   refine j5 (he prog w _ _ ?_)
   cases e with
   | true=>
     rw[if_pos (hiff.mp rfl)]at h
     simp only[if_true]
     refine j7 ⟨ka plain_eq_loop _,?_⟩
     refine codeAny_builtin entry_eq_loop ?_
     rw[ki plain_eq_loop]
     have ei:rawInt ((i:Int)+1)=rawInt ((i+1:Nat):Int):=by rw[Int.natCast_add];rfl
     rw[ei]
     exact ih (i+1) (by omega) (by omega) prog w A R s ⟨h1,h2,h⟩
   | false=>
     rw[if_neg (λq=>absurd (hiff.mpr q) Bool.false_ne_true)]at h
     simp only[Bool.false_eq_true,if_false]
     refine j5 (q3k h1 (j5 (q3k h2 ?_)))
     simp only[e1,e2]
     refine j5 (HT.rcLt_int A.in1 s _ t _ u prog w _ _ ?_)
     exact j7 h
theorem q9a(l b:Addr)(items zc:Array Value)(n n2:Nat)(dd dd2:Option Addr)(sl sl2:Array (Option Value))(ns ms:List Int)(hi:IntsAre items.toList ns)(hj:IntsAre zc.toList ms)(hl:ns.length=ms.length):
   Meets (Builtin.«list.__lt__» ⟨[.ref l,.ref b],[]⟩)
     (λ_ R s=>s.heap.get? l=some {cls:=.type "list",dict:=dd,data:=.seq items n,slots:=sl}/\s.heap.get? b=some {cls:=.type "list",dict:=dd2,data:=.seq zc n2,slots:=sl2}/\
       R (.ok (.ret (.bool (HT.lexLt ns ms)))) s):=λprog w A R s h=>by
 obtain⟨h1,h2,h⟩:=h
 have ty:s.TypeIs (.ref b) "list":=⟨_,h2,rfl⟩
 show wpAny _ _ (isInstance (.ref b) (.type "list") >>= _) _ _ s
 refine j5 (wpAny_isInstance ty (b:=true) sub_list_self ?_)
 show wpAny _ _ (again (.builtin "list.__eq__.loop" ⟨[.ref l,.ref b,rawInt 0,rawInt 0],[]⟩)) _ _ s
 refine j7 ⟨ka plain_eq_loop _,?_⟩
 refine codeAny_builtin entry_eq_loop ?_
 rw[ki plain_eq_loop]
 exact qly l b items zc n n2 dd dd2 sl sl2 ns ms hi hj hl _ 0 rfl (Nat.zero_le _) prog w A R s ⟨h1,h2,h⟩
end
section
variable{prog:Program}{w:World}{A:Around}{E:Value->Shared->Prop}{s:Shared}
theorem qek{l b:Addr}{items zc:Array Value}{ns ms:List Int}{Q:Value->Shared->Prop}(hl:s.heap.IsList l items)(hb:s.heap.IsList b zc)(hi:IntsAre items.toList ns)(hj:IntsAre zc.toList ms)(hn:ns.length=ms.length)
   (hu:A.units<cLine) (h:Q (.bool (HT.lexLt ns ms)) s):wpAny (model prog w) A (richCompare .Lt (.ref l) (.ref b)) Q E s:=by
 obtain⟨⟨cls,dd,data,sl⟩,ho,hc,n,hd⟩:=id hl
 obtain⟨⟨cls2,dd2,data2,sl2⟩,ho2,hc2,n2,hd2⟩:=id hb
 simp only at hc hd hc2 hd2
 subst hc hd hc2 hd2
 exact richCompare_meets_room (op:=.Lt) ⟨_,ho,rfl⟩ ⟨_,ho2,rfl⟩ PySem.F.slot_list_lt PySem.F.entry_list_lt (PySem.F.args_list_lt_2 _ _) (q9a l b items zc n n2 dd dd2 sl sl2 ns ms hi hj hn)
   ⟨ho,ho2,show Value.bool (HT.lexLt ns ms)≠Value.notImplemented/\Q (.bool (HT.lexLt ns ms)) s from⟨(λx=>nomatch x),h⟩⟩ hu
end
inductive Cmps(A:Around)(s:Shared):List Value->List Value->Bool->Prop
 |nil:Cmps A s [] [] false
 |eq {x y:Value} {vs ws:List Value} {r:Bool}:SeqAt.EqAt A s x y true->Cmps A s vs ws r->Cmps A s (x::vs) (y::ws) r
 |ne {x y:Value} {vs ws:List Value} {r:Bool}:SeqAt.EqAt A s x y false->(∀(prog:Program) (w:World) (E Q:Value->Shared->Prop),Q (.bool r) s->wpAny (model prog w) A (richCompare .Lt x y) Q E s)->vs.length=ws.length->Cmps A s (x::vs) (y::ws) r
theorem Cmps.len{A:Around}{s:Shared}{vs ws:List Value}{r:Bool}(h:Cmps A s vs ws r):vs.length=ws.length:=by
 induction h with
 |nil=>rfl
 |eq _ _ ih=>rw[jn,jn,ih]
 |ne _ _ e=>rw[jn,jn,e]
section
open PySem.SeqAt
open PySem.AutoSeq1 (wpAny_loadPart')
open PySem.MeetsSeq PySem.MeetsSeq2 PySem.MeetsSeq3
theorem q8n(l b:Addr)(items zc:Array Value)(n n2:Nat)(dd dd2:Option Addr)(sl sl2:Array (Option Value))(r:Bool):
   Meets (Builtin.«tuple.__lt__» ⟨[.ref l,.ref b],[]⟩)
     (λA R s=>s.heap.get? l=some {cls:=.type "tuple",dict:=dd,data:=.seq items n,slots:=sl}/\s.heap.get? b=some {cls:=.type "tuple",dict:=dd2,data:=.seq zc n2,slots:=sl2}/\
       Cmps A.in1 s items.toList zc.toList r/\R (.ok (.ret (.bool r))) s):=
 .of_wp λprog w A R s h=>by
   obtain⟨hp,g,d,tk,os⟩:=s;obtain⟨hl,hb,hC,h⟩:=h
   have f2:=AutoSeq1.sub_tuple_tuple
   have z:items.size=zc.size:=by have:=hC.len;simpa using this
   wp_walk using kg hl,kg hb,wpAny_forIn_list _ (λrest b s'=>b.1=none/\s'=⟨hp,g,d,tk,os⟩/\∃(vs ws:List Value),rest=vs.zip ws/\
     Cmps A.in1 ⟨hp,g,d,tk,os⟩ vs ws r) _
   case turn=>
     rintro⟨y,x⟩ rest b s' ⟨hb',rfl,vs,ws,hz,hv⟩
     cases hv with
     |nil=>cases hz
     | eq he hr=>
       rw[List.zip_cons_cons]at hz
       injection hz with hyx hrest
       injection hyx with hy hx
       subst hy hx
       refine j5 (he prog w _ _ ?_)
       wp_walk
       exact⟨rfl,rfl,_,_,hrest,hr⟩
     | ne he hc hl'=>
       rw[List.zip_cons_cons]at hz
       injection hz with hyx hrest
       injection hyx with hy hx
       subst hy hx
       refine j5 (he prog w _ _ ?_)
       have hri:=hc prog w
       wp_walk using hri
       exact⟨_,rfl,by simpa using h⟩
   case fin=>
     rintro⟨b1,b2⟩ s' ⟨hb',rfl,vs,ws,hz,hv⟩
     simp only at hb'
     subst hb'
     cases hv with
     | nil=>
       wp_walk
       exact⟨_,rfl,by simpa[Builtin.Tuple.tupleCompareSizes,z]using h⟩
     |eq he hr=>rw[List.zip_cons_cons]at hz;cases hz
     |ne he hc hl'=>rw[List.zip_cons_cons]at hz;cases hz
   case h=>
     exact⟨rfl,rfl,items.toList,zc.toList,rfl,hC⟩
end
section
variable{prog:Program}{w:World}{A:Around}{E:Value->Shared->Prop}{s:Shared}
theorem qhe{l b:Addr}{items zc:Array Value}{r:Bool}{Q:Value->Shared->Prop}(hl:IsTup s.heap l items)(hb:IsTup s.heap b zc)(hC:Cmps A.in1 s items.toList zc.toList r)
   (hu:A.units<cLine) (h:Q (.bool r) s):wpAny (model prog w) A (richCompare .Lt (.ref l) (.ref b)) Q E s:=by
 obtain⟨⟨cls,dd,data,sl⟩,ho,hc,n,hd⟩:=id hl
 obtain⟨⟨cls2,dd2,data2,sl2⟩,ho2,hc2,n2,hd2⟩:=id hb
 simp only at hc hd hc2 hd2
 subst hc hd hc2 hd2
 exact richCompare_meets_room (op:=.Lt) ⟨_,ho,rfl⟩ ⟨_,ho2,rfl⟩ PySem.F.slot_tuple_lt PySem.F.entry_tuple_lt (PySem.F.args_tuple_lt_2 _ _) (q8n l b items zc n n2 dd dd2 sl sl2 r)
   ⟨ho,ho2,hC,show Value.bool r≠Value.notImplemented/\Q (.bool r) s from⟨(λx=>nomatch x),h⟩⟩ hu
end
theorem q5p:∀ns:List Int,HT.lexLt ns ns=false
 |[]=>rfl
 |n::ns=>by rw[HT.lexLt_cons,if_pos rfl,q5p ns]
theorem qfv{A:Around}{s:Shared}{l b:Addr}{vs ws:List Value}{ns ms:List Int}(hl:s.heap.IsList l vs.toArray)(hb:s.heap.IsList b ws.toArray)(hi:IntsAre vs ns)(hj:IntsAre ws ms)(hn:ns.length=ms.length)(hu:A.units<cLine):SeqAt.EqAt A s (.ref l) (.ref b) (decide (ns=ms)):=by
 by_cases q:l=b
 · subst q
   have e:vs=ws:=by
     obtain⟨o,e1,c1,n1,d1⟩:=hl
     obtain⟨o2,e2,c2,n2,d2⟩:=hb
     rw[e1]at e2
     cases e2
     rw[d1]at d2
     injection d2 with d3 _
     simpa using d3
   subst e
   have en:ns=ms:=by
     apply List.ext_getElem?
     intro i
     by_cases h:i<ns.length
     · obtain⟨t,e1⟩:=q5q hi (jc h)
       obtain⟨u,e2⟩:=q5q hj (jc (show i<ms.length by omega))
       rw[e1]at e2
       injection e2 with e3
       injection e3 with e4 _
       rw[jc h,jc (show i<ms.length by omega),e4]
     · rw[xc (by omega),xc (by omega)]
   rw[decide_eq_true en]
   exact SeqAt.EqAt.same _
 · have lv:vs.length=ns.length:=hi.length
   have lw:ws.length=ms.length:=hj.length
   have h:=SeqAt.RcAt.lists (A:=A) (e:=λj=>decide (ns[j]? =ms[j]?)) hl hb (by simp;omega) hu λj h1 h2=>by
     have h1':j<ns.length:=by simp at h1;omega
     have h2':j<ms.length:=by omega
     obtain⟨t,e1⟩:=q5q hi (jc h1')
     obtain⟨u,e2⟩:=q5q hj (jc h2')
     obtain⟨e,he,hiff⟩:=HT.eqAt_int A.in1 s ns[j] t ms[j] u
     have g1:vs.toArray[j]=.int ns[j] t:=by
       have:=(List.getElem?_eq_some_iff.mp e1).2
       simpa using this
     have g2:ws.toArray[j]=.int ms[j] u:=by
       have:=(List.getElem?_eq_some_iff.mp e2).2
       simpa using this
     rw[g1,g2]
     have ee:decide (ns[j]? =ms[j]?)=e:=by
       rw[jc h1',jc h2']
       cases e with
       |true=>simp[hiff.mp rfl]
       | false=>
         have:¬ns[j]=ms[j]:=λz=>absurd (hiff.mpr z) (by decide)
         simp[this]
     rw[ee]
     exact he
   have ea:(List.range vs.toArray.size).all (λj=>decide (ns[j]? =ms[j]?))=decide (ns=ms):=by
     rw[Bool.eq_iff_iff]
     simp only[List.all_eq_true,decide_eq_true_eq,List.mem_range,List.size_toArray]
     constructor
     · intro z
       apply List.ext_getElem?
       intro i
       by_cases hi:i<ns.length
       · exact z i (by omega)
       · rw[xc (by omega),xc (by omega)]
     · intro z i _
       rw[z]
   rw[ea]at h
   exact SeqAt.EqAt.of_refs q h
def q57(a c:Int)(ns ms:List Int):Bool:=if a=c then HT.lexLt ns ms else decide (a<c)
theorem qej{prog:Program}{w:World}{A:Around}{E:Value->Shared->Prop}{s:Shared}{l b p q:Addr}{a c:Int}{t u:Tok}{vs ws:List Value}{ns ms:List Int}{Q:Value->Shared->Prop}(hl:IsTup s.heap l #[.int a t,.ref p])(hb:IsTup s.heap b #[.int c u,.ref q])(hp:s.heap.IsList p vs.toArray)(hq:s.heap.IsList q ws.toArray)(hi:IntsAre vs ns)(hj:IntsAre ws ms)(hn:ns.length=ms.length)
   (hu:A.units+1<cLine) (h:Q (.bool (q57 a c ns ms)) s):wpAny (model prog w) A (richCompare .Lt (.ref l) (.ref b)) Q E s:=by
 have hu1:A.in1.units<cLine:=hu
 refine qhe (r:=q57 a c ns ms) hl hb ?_ (by omega) h
 obtain⟨e,he,hiff⟩:=HT.eqAt_int A.in1 s a t c u
 unfold q57
 cases e with
 | true=>
   have eac:=hiff.mp rfl
   rw[if_pos eac]
   refine .eq he ?_
   have ee:=qfv (A:=A.in1) hp hq hi hj hn hu1
   by_cases z:ns=ms
   · rw[decide_eq_true z]at ee
     subst z
     rw[q5p]
     exact .eq ee .nil
   · rw[decide_eq_false z]at ee
     exact .ne ee (λprog w E Q h=>qek hp hq (by simpa using hi) (by simpa using hj) hn hu1 h) rfl
 | false=>
   rw[if_neg λz=>absurd (hiff.mpr z) (by decide)]
   exact .ne he (λprog w E Q h=>HT.rcLt_int A.in1 s a t c u prog w E Q h) rfl
theorem qgp(a d:Value):argsOk "min" ⟨[a],[(Str.ofString "default",d)]⟩:=by kernel_rfl
section
variable{prog:Program}{w:World}{A:Around}{E:Value->Shared->Prop}{s:Shared}{Q:Value->Shared->Prop}{p:Addr}{its:Array Value}{bt:Nat->Nat->Bool}
theorem qka(hh:A.in1.handled=none)(hl:s.heap.IsList p its){kw:List (Str×Value)}{dflt:Option Value}(hk:kw=dflt.toList.map λd=>(Str.ofString "default",d))
   (zo:CmpK prog w A.in1 s.heap.objs.size (s.heap.objs.size+1) s its bt)
   (hD:its.size=0->∃d,dflt=some d/\∀s',Kq s s'->Q d s') (hQ:∀v s',its[argBest bt (its.size-1)]? =some v->Kq s s'->Q v s'):
   wpAny (model prog w) A.in1 (do let it <-pyIter (.ref p);let b <-newList [];again (.builtin "min.loop" ⟨[it,.none,b],kw⟩)) (λfin s'=>match fin with
     | .done f=>(match (Except.ok f:Result)with
       |.ok (.ret v)=>Q v s'
       |.ok _=>False
       |.error e=>E e s')
     | .again c'=>c'.quiet=true/\codeAny (model prog w) A c' (λr s'=>match r with
       |.ok (.ret v)=>Q v s'
       |.ok _=>False
       |.error e=>E e s') s') E s:=by
 have lp:p<s.heap.objs.size:=by obtain⟨o,e,_⟩:=hl;exact j8 e
 refine j5 (wpAny_pyIter_list hl ?_)
 refine j5 (xq ?_ (by first|exact Nat.zero_le _|(show(0:Nat)<=sizeLine;exact Nat.zero_le _)))
 refine j7 ⟨ka kc _,?_⟩
 have push2:∀b o,s.heap.get? b=some o->((s.heap.push {cls:=.type "list_iterator",data:=.fields #[.ref p,.int 0 0]}).push {cls:=.type "list",data:=.seq #[]}).get? b=some o:=λb o e=>j9 _ (j9 _ e)
 have sz:(s.heap.push {cls:=.type "list_iterator",data:=.fields #[.ref p,.int 0 0]}).objs.size=s.heap.objs.size+1:=x8 _ _
 have kq:∀s',Kp s.heap.objs.size (s.heap.objs.size+1) s s'->Kq s s':=λs' k=>⟨λb o e=>k.heap b o (jh (j8 e)) (jh (Nat.lt_succ_of_lt (j8 e))) e,k.gens,k.drawn,k.os⟩
 dsimp only
 rw[sz]
 refine qde (s0:=s) hh (jh lp) (Nat.ne_of_gt (Nat.lt_succ_self _)) (Nat.ne_of_gt (Nat.lt_succ_of_lt lp)) zo (λv s' e k=>hQ v s' e (kq s' k)) (λh0=>?_) (c:=0) ⟨⟨_,j9 _ (jl _ rfl),rfl,rfl⟩,?_⟩ ?_ ⟨λb o _ _ e=>push2 b o e,rfl,rfl,rfl⟩
 · obtain⟨d,e,k⟩:=hD h0
   subst e
   exact⟨_,d,[],by rw[hk];rfl,λs' k'=>k s' (kq s' k')⟩
 · obtain⟨o,e,c⟩:=hl
   exact⟨o,push2 p o e,c⟩
 · have:=jl (s.heap.push {cls:=.type "list_iterator",data:=.fields #[.ref p,.int 0 0]}) (o:={cls:=.type "list",data:=.seq #[]}) rfl
   rw[sz]at this
   exact this
theorem qgf(hh:A.in1.handled=none)(hl:s.heap.IsList p its){d:Value}(zo:CmpK prog w A.in1 s.heap.objs.size (s.heap.objs.size+1) s its bt)
   (hD:its.size=0->∀s',Kq s s'->Q d s') (hQ:∀v s',0<its.size->its[argBest bt (its.size-1)]? =some v->Kq s s'->Q v s'):wpAny (model prog w) A (call (.builtin "min") [.ref p] [(Str.ofString "default",d)]) Q E s:=by
 refine kmk_tree F.kind_min F.plain_min F.entry_min (qgp _ _) ?_
 show wpAny _ _ (Builtin.Builtins.bindParams "min" ["key","default"] 0 ⟨[],[(Str.ofString "default",d)]⟩ >>= _) _ _ s
 refine j5 (wpAny_of_eq (show _=pure [none,some d]from by rfl) ?_)
 show wpAny _ _ (pure (Value.ref p) >>= _) _ _ s
 refine j5 (j7 ?_)
 dsimp only
 rw[show(toString "min"++toString ".loop")="min.loop" from by decide]
 exact qka hh hl (dflt:=some d) rfl zo (λh=>⟨d,rfl,hD h⟩) λv s' e k=>hQ v s' (by
   rcases Nat.eq_zero_or_pos its.size with z|z
   · rw[Array.getElem?_eq_none (by omega)]at e;cases e
   · exact z) e k
theorem qge(hh:A.in1.handled=none)(hl:s.heap.IsList p its)(h0:0<its.size)(zo:CmpK prog w A.in1 s.heap.objs.size (s.heap.objs.size+1) s its bt)
   (hQ:∀v s',its[argBest bt (its.size-1)]? =some v->Kq s s'->Q v s'):wpAny (model prog w) A (call (.builtin "min") [.ref p]) Q E s:=by
 refine kmk_tree F.kind_min F.plain_min F.entry_min (F.args_min1 _) ?_
 show wpAny _ _ (Builtin.Builtins.bindParams "min" ["key","default"] 0 ⟨[],[]⟩ >>= _) _ _ s
 refine j5 (wpAny_of_eq (show _=pure [none,none]from by rfl) ?_)
 show wpAny _ _ (pure (Value.ref p) >>= _) _ _ s
 refine j5 (j7 ?_)
 dsimp only
 rw[show(toString "min"++toString ".loop")="min.loop" from by decide]
 exact qka hh hl (dflt:=none) rfl zo (λh=>absurd h (by omega)) hQ
end
theorem q7v{α:Type}{lt:α->α->Bool}{f:Nat->α}(h1:∀a,lt a a=false)(h2:∀a b c,lt a b=true->lt c b=false->lt c a=false)(n:Nat):argBest (λi j=>lt (f i) (f j)) n<=n/\∀i,i<=n->lt (f i) (f (argBest (λi j=>lt (f i) (f j)) n))=false:=by
 induction n with
 | zero=>
   rw[argBest]
   exact⟨ja _,λi hi=>by rw[Nat.le_zero.mp hi];exact h1 _⟩
 | succ n ih=>
   obtain⟨h3,h4⟩:=ih
   rw[argBest]
   cases q:lt (f (n+1)) (f (argBest (λi j=>lt (f i) (f j)) n))with
   | true=>
     rw[if_pos rfl]
     refine⟨ja _,λi hi=>?_⟩
     rcases Nat.lt_or_ge i (n+1)with z|z
     · exact h2 _ _ _ q (h4 i (by omega))
     · have e:i=n+1:=by omega
       rw[e];exact h1 _
   | false=>
     rw[if_neg (by decide)]
     refine⟨by omega,λi hi=>?_⟩
     rcases Nat.lt_or_ge i (n+1)with z|z
     · exact h4 i (by omega)
     · have e:i=n+1:=by omega
       rw[e];exact q
theorem qfr{X:Cx}{z5:List (Addr×Obj)}{σ:St}{H:Hp}{s s':Shared}(I:Inv X z5 σ H s)(k:Kq s s'):Inv X z5 σ H s':=by
 have es:s'={s with heap:=s'.heap,toks:=s'.toks}:=by
   obtain⟨h2,g2,d2,t2,o2⟩:=s'
   obtain⟨_,eg,ed,eo⟩:=k
   cases eg;cases ed;cases eo
   rfl
 rw[es]
 exact I.kept k.heap
def btI(ns:List Int):Nat->Nat->Bool:=λi j=>decide (ns.getD i 0<ns.getD j 0)
def minI(ns:List Int):Option Int:=match ns with
 |[]=>none
 |_=>some (ns.getD (argBest (btI ns) (ns.length-1)) 0)
def qff(ns:List Int):V:=match minI ns with
 |none=>.non
 |some m=>.int m
theorem qae{ns:List Int}{m:Int}(h:minI ns=some m):m∈ns/\∀x∈ns,m<=x:=by
 cases ns with
 |nil=>cases h
 | cons a r=>
   cases h
   obtain⟨h1,h2⟩:=q7v (lt:=λ(x y:Int)=>decide (x<y)) (f:=λi=>(a::r).getD i 0) (λa=>by simp) (λa b c=>by simp;omega) ((a::r).length-1)
   have hb:argBest (btI (a::r)) ((a::r).length-1)<(a::r).length:=Nat.lt_of_le_of_lt h1 (by simp)
   refine⟨?_,λx hx=>?_⟩
   · rw[jq,jc hb]
     exact xj hb
   · obtain⟨i,hi,rfl⟩:=List.mem_iff_getElem.mp hx
     have:=h2 i (by omega)
     simp only[decide_eq_false_iff_not]at this
     rw[jq (i:=i),jc hi]at this
     exact Int.not_lt.mp this
theorem q98{ns:List Int}(h:minI ns=none):ns=[]:=by
 cases ns with
 |nil=>rfl
 |cons a r=>cases h
theorem qlw{ns:List Int}{m:Int}(h:m∈ns)(k:∀x∈ns,m<=x):minI ns=some m:=by
 cases q:minI ns with
 |none=>rw[q98 q]at h;cases h
 | some y=>
   obtain⟨h1,h2⟩:=qae q
   have e1:=h2 m h
   have e2:=k y h1
   congr 1
   omega
section
variable{X:Cx}{K:PySem.W.Frag}{O:List Nat}{e:Expr}{d:Expr}{te:TE}{p kp pos:Pos}{fe:RhD}
def qno(K:PySem.W.Frag)(te:TE):TE:=λσ H Q=>te σ H λv H1=>∃(p:Addr) (ns:List Int),[v]=[V.ref p]/\SqL K H1 p (ns.map V.int)/\Q (qff ns) H1
theorem ql2(hK:X.K=K)(hc:X.calm=true)(hg:Gl X "min")(hm:X.mg "min"=none)(ha:PE X e te)(hd:PE X d (tC .non))(he:starEach [e] X.env=(false,eval e X.env)::starEach [] X.env:=by rfl)
   (h1:backTo pos (starEach [e] X.env)=(false,eval e X.env)::backTo pos (starEach [] X.env):=by rfl) (h2:(backTo pos (starEach [e] X.env)).any (·.1)=false:=by rfl)
   (h3:(backToKw pos (keywordEach [⟨some "default",d,kp⟩] X.env)).all (λx=>x.1.isSome)=true:=by rfl) (h4:(backToKw pos (keywordEach [⟨some "default",d,kp⟩] X.env)).any (λx=>x.1.isNone)=false:=by rfl)
   (h5:(backToKw pos (keywordEach [⟨some "default",d,kp⟩] X.env)).filterMap (·.1)=[Str.ofString "default"]:=by rfl):
   PE X (.Call (.Name "min" p) [e] [⟨some "default",d,kp⟩] pos) (qno K te):=by
 subst hK
 intro z5 s σ H Q I h
 refine xo (q4f I hg hm (u:=.builtin "min") (by rfl) ?_)
 refine callWith_kw (thn ((q00 ha q05 he) pos z5 s σ H (λvs H1=>∃(p1:Addr) (ns:List Int),vs=[V.ref p1]/\SqL X.K H1 p1 (ns.map V.int)/\Q (qff ns) H1) I h) λus s1 hh1=>?_) h1 h2 h3 h4
 obtain⟨vs,H1,I1,r1,p1,ns,rfl,q1,k⟩:=hh1
 obtain⟨u,rfl,ru⟩:=vals1 r1
 cases(show u=Value.ref p1 from ru)
 refine kws_cons (thn (hd z5 s1 σ H1 (λv H2=>v=.non/\H2=H1) I1 ⟨rfl,rfl⟩) λdv s2 hh2=>?_)
 obtain⟨x,H2,I2,r2,rfl,rfl⟩:=hh2
 cases r2
 refine kws_nil ?_
 rw[h5]
 obtain⟨its,rv,pl,hz⟩:=I2.list q1
 have ln:its.length=ns.length:=by have:=rv.length;simp at this;omega
 have hh:X.A.in1.handled=none:=I2.ok.hd hc
 show wpAny _ _ (call (.builtin "min") [.ref p1] [(Str.ofString "default",.none)]) _ _ s2
 refine qgf (its:=its.toArray) (bt:=btI ns) hh pl.isList (λi j vi vj s Q E hi hj _ q=>?_) (λh0 s' k'=>?_) λv s' h0 ev k'=>?_
 · obtain⟨t,rfl⟩:=q2r rv (by simpa using hi)
   obtain⟨t',rfl⟩:=q2r rv (by simpa using hj)
   exact HT.rcLt_int _ s _ t _ t' _ _ _ _ (q s ⟨λ_ _ e=>e,rfl,rfl,rfl⟩)
 · have en:ns=[]:=List.eq_nil_of_length_eq_zero (by simp at h0;rw[h0]at ln;simpa using ln.symm)
   subst en
   exact⟨.non,_,qfr I2 k',rfl,k⟩
 · have hn:ns≠[]:=λz=>by rw[z]at ln;simp at h0 ln;rw[ln]at h0;exact absurd h0 (by simp)
   rw[jv,ln]at ev
   obtain⟨t,rfl⟩:=q2r rv (by simpa using ev)
   refine⟨_,_,qfr I2 k',?_,k⟩
   unfold qff minI
   cases ns with
   |nil=>exact absurd rfl hn
   |cons a r=>exact⟨t,rfl⟩
def optI:Option Int->D
 |none=>.non
 |some m=>.int m
def qdr:D->Option D
 |.lst xs=>(q3z xs).map λns=>optI (minI ns)
 |_=>none
theorem qlx(h:MB K O te fe):ME K O (qno K te) (mOp1 qdr fe):=λZ σ H R ρ d ρ' Q S e k=>by
 obtain⟨x,ρ1,e1,e⟩:=q0c e
 obtain⟨e3,rfl⟩:=q0m e
 refine h Z σ H R ρ x _ _ S e1 λv H1 R1 S1 st1 r1=>?_
 unfold qdr at e3
 split at e3
 · rename_i xs
   obtain⟨b,vs,rfl,q,r⟩:=r1.isL
   cases z:q3z xs with
   |none=>rw[z]at e3;cases e3
   | some ns=>
     rw[z]at e3
     cases e3
     have ex:=q5b r z
     subst ex
     refine⟨b,ns,rfl,q,k _ H1 R1 S1 st1 ?_⟩
     show Rp K R1 (qff ns) (optI (minI ns))
     unfold qff
     cases minI ns with
     |none=>exact .non
     |some m=>exact .int m
 · cases e3
end
theorem q9b:∀a b c:List Int,HT.lexLt a b=true->HT.lexLt c b=false->HT.lexLt c a=false
 |[],[],_,h,_=>by cases h
 |[],_::_,[],_,g=>by cases g
 |[],_::_,_::_,_,_=>rfl
 |_::_,[],_,h,_=>by cases h
 |_::_,_::_,[],_,g=>by cases g
 | x::xs,y::ys,z::zs,h,g=>by
   rw[HT.lexLt_cons]at h g ⊢
   by_cases q:x=y
   · rw[if_pos q]at h
     subst q
     by_cases r:z=x
     · rw[if_pos r]at g ⊢
       exact q9b xs ys zs h g
     · rw[if_neg r]at g ⊢
       exact g
   · rw[if_neg q]at h
     simp only[decide_eq_true_eq]at h
     by_cases r:z=y
     · rw[if_neg (by omega)]
       simp;omega
     · rw[if_neg r]at g
       simp only[decide_eq_false_iff_not]at g
       rw[if_neg (by omega)]
       simp;omega
def qLt(x y:Int×List Int):Bool:=q57 x.1 y.1 x.2 y.2
theorem qhg(x:Int×List Int):qLt x x=false:=by unfold qLt q57;rw[if_pos rfl,q5p]
theorem qen(a b c:Int×List Int)(h:qLt a b=true)(g:qLt c b=false):qLt c a=false:=by
 unfold qLt q57 at h g ⊢
 by_cases q:a.1=b.1
 · rw[if_pos q]at h
   rw[q]
   by_cases r:c.1=b.1
   · rw[if_pos r]at g ⊢
     exact q9b _ _ _ h g
   · rw[if_neg r]at g ⊢
     exact g
 · rw[if_neg q]at h
   simp only[decide_eq_true_eq]at h
   by_cases r:c.1=b.1
   · rw[if_neg (by omega)]
     simp;omega
   · rw[if_neg r]at g
     simp only[decide_eq_false_iff_not]at g
     rw[if_neg (by omega)]
     simp;omega
def btP(qs:List (Int×List Int)):Nat->Nat->Bool:=λi j=>qLt (qs.getD i (0,[])) (qs.getD j (0,[]))
def q4e(qs:List (Int×List Int)):Int×List Int:=qs.getD (argBest (btP qs) (qs.length-1)) (0,[])
theorem q9c{qs:List (Int×List Int)}(h:qs≠[]):q4e qs∈qs/\∀x∈qs,qLt x (q4e qs)=false:=by
 obtain⟨h1,h2⟩:=q7v (lt:=qLt) (f:=λi=>qs.getD i (0,[])) qhg qen (qs.length-1)
 have hp:0<qs.length:=List.length_pos_iff.mpr h
 have hb:argBest (btP qs) (qs.length-1)<qs.length:=Nat.lt_of_le_of_lt h1 (by omega)
 refine⟨?_,λx hx=>?_⟩
 · unfold q4e
   rw[jq,jc hb]
   exact xj hb
 · obtain⟨i,hi,rfl⟩:=List.mem_iff_getElem.mp hx
   have:=h2 i (by omega)
   rw[jq (i:=i),jc hi]at this
   exact this
section
variable{X:Cx}{K:PySem.W.Frag}{O:List Nat}
def PrV(K:PySem.W.Frag)(H:Hp)(v:V)(q:Int×List Int):Prop:=∃a b,v=.ref a/\SqT K H a [.int q.1,.ref b]/\SqL K H b (q.2.map V.int)
def qom(K:PySem.W.Frag):List V->Hp->VK->Prop:=λxs H Q=>∃(p:Addr) (vs:List V) (qs:List (Int×List Int)) (n:Nat),xs=[.ref p]/\SqL K H p vs/\vs.length=qs.length/\(∀i v,vs[i]? =some v->PrV K H v (qs.getD i (0,[])))/\(∀q∈qs,q.2.length=n)/\qs≠[]/\∀v,vs[argBest (btP qs) (qs.length-1)]? =some v->Q v H
theorem qjs{X:Cx}{z5:List (Addr×Obj)}{σ:St}{H:Hp}{s:Shared}{v:V}{q:Int×List Int}{u:Value}(I:Inv X z5 σ H s)(h:PrV X.K H v q)(r:RelV v u):∃a b t vs,u=.ref a/\IsTup s.heap a #[.int q.1 t,.ref b]/\s.heap.IsList b vs.toArray/\IntsAre vs q.2:=by
 obtain⟨a,b,rfl,h1,h2⟩:=h
 cases r
 obtain⟨its,rv,p,_⟩:=I.tuple h1
 obtain⟨its2,rv2,p2,_⟩:=I.list h2
 cases rv with
 | cons r1 r2=>
   cases r2 with
   | cons r2 r3=>
     cases r3
     obtain⟨t,rfl⟩:=r1
     cases r2
     exact⟨a,b,t,its2,rfl,p,p2.isList,intsAre_of rv2⟩
theorem q53:∀{xs:List V} {us:List Value} {i:Nat} {u:Value},Vals xs us->us[i]? =some u->∃x,xs[i]? =some x/\RelV x u
 |_,_,_,_,.nil,e=>by simp at e
 |_,_,0,_,.cons r _,e=>by simp at e;subst e;exact⟨_,rfl,r⟩
 | _,_,i+1,u,.cons _ t,e=>by
   obtain⟨x,h1,h2⟩:=q53 (i:=i) (u:=u) t (by simpa using e)
   exact⟨x,by simpa using h1,h2⟩
theorem qdu(hK:X.K=K)(hc:X.calm=true)(hu:X.A.units+64<cLine):q68 X (.builtin "min") (qom K):=by
 subst hK
 intro z5 s σ H xs us Q I r h
 obtain⟨p,vs,qs,n,rfl,hq,hl,hp,hn,h0,k⟩:=h
 obtain⟨u,rfl,ru⟩:=vals1 r
 cases ru
 obtain⟨its,rv,pl,hz⟩:=I.list hq
 have ln:its.length=qs.length:=by have:=rv.length;omega
 have hh:X.A.in1.handled=none:=I.ok.hd hc
 have h0':0<qs.length:=List.length_pos_iff.mpr h0
 have old:∀s',Kp s.heap.objs.size (s.heap.objs.size+1) s s'->∀b o,s.heap.get? b=some o->s'.heap.get? b=some o:=λs' k b o e=>k.heap b o (jh (j8 e)) (jh (Nat.lt_succ_of_lt (j8 e))) e
 have ql:∀i,i<qs.length->(qs.getD i (0,[])).2.length=n:=λi hi=>by
   rw[jq,jc hi]
   exact hn _ (xj hi)
 refine qge (its:=its.toArray) (bt:=btP qs) hh pl.isList (by simp;omega) (λi j vi vj s1 Q1 E1 hi hj kp q=>?_) λv s' ev k'=>?_
 · obtain⟨x,hx,rx⟩:=q53 rv (show its[i]? =some vi by simpa using hi)
   obtain⟨y,hy,ry⟩:=q53 rv (show its[j]? =some vj by simpa using hj)
   obtain⟨a,b,t,us,rfl,g1,g2,g3⟩:=qjs I (hp i x hx) rx
   obtain⟨a',b',t',us',rfl,g1',g2',g3'⟩:=qjs I (hp j y hy) ry
   have hi':i<qs.length:=by have:=(List.getElem?_eq_some_iff.mp hx).1;omega
   have hj':j<qs.length:=by have:=(List.getElem?_eq_some_iff.mp hy).1;omega
   have up:=old s1 kp
   refine qej (t:=t) (u:=t') (p:=b) (q:=b') ?_ ?_ ?_ ?_ g3 g3' (by rw[ql i hi',ql j hj']) (by show X.A.units+1+1<cLine;omega) (q s1 ⟨λ_ _ e=>e,rfl,rfl,rfl⟩)
   · obtain⟨o,e,c⟩:=g1;exact⟨o,up _ o e,c⟩
   · obtain⟨o,e,c⟩:=g1';exact⟨o,up _ o e,c⟩
   · obtain⟨o,e,c⟩:=g2;exact⟨o,up _ o e,c⟩
   · obtain⟨o,e,c⟩:=g2';exact⟨o,up _ o e,c⟩
 · rw[jv,ln]at ev
   obtain⟨x,hx,rx⟩:=q53 rv (show its[argBest (btP qs) (qs.length-1)]? =some v by simpa using ev)
   exact⟨x,H,qfr I k',rx,k x hx⟩
def qho:D->Option (Int×List Int)
 |.tup [.int a,.lst xs]=>(q3z xs).map λns=>(a,ns)
 |_=>none
def q5x:List D->Option (List (Int×List Int))
 |[]=>some []
 | d::r=>match qho d,q5x r with
   |some q,some qs=>some (q::qs)
   |_,_=>none
def pairD(q:Int×List Int):D:=.tup [.int q.1,.lst (q.2.map D.int)]
def qio:D->Option D
 | .lst xs=>match q5x xs with
   |some qs=>if qs≠[]/\(qs.all λq=>decide (q.2.length=(q4e qs).2.length))=true then some (pairD (q4e qs))else none
   |none=>none
 |_=>none
theorem qbv:∀{xs:List D} {ns:List Int},q3z xs=some ns->xs=ns.map D.int
 |[],ns,h=>by cases h;rfl
 | d::r,ns,h=>by
   cases d with
   | int i=>
     have h:(q3z r).map (λx=>i::x)=some ns:=h
     cases q:q3z r with
     |none=>rw[q]at h;cases h
     | some ms=>
       rw[q]at h
       cases h
       rw[qbv q]
       rfl
   |_=>cases h
theorem qhn{R:Hp}{v:V}{d:D}{q:Int×List Int}(r:Rp K R v d)(e:qho d=some q):PrV K R v q/\d=pairD q:=by
 unfold qho at e
 split at e
 · rename_i a xs
   cases z:q3z xs with
   |none=>rw[z]at e;cases e
   | some ns=>
     rw[z]at e
     cases e
     obtain⟨l,vs,rfl,h,r⟩:=r.isT
     obtain⟨v1,_,rfl,r1,r⟩:=r.isC
     obtain⟨v2,_,rfl,r2,r⟩:=r.isC
     cases r
     obtain rfl:=r1.isI
     obtain⟨b,ws,rfl,h2,r3⟩:=r2.isL
     have ex:=q5b r3 z
     subst ex
     refine⟨⟨l,b,rfl,SqT.of h,h2⟩,?_⟩
     unfold pairD
     rw[qbv z]
 · cases e
theorem q7n{R:Hp}:∀{vs:List V} {ds:List D} {qs:List (Int×List Int)},Rps K R vs ds->q5x ds=some qs->vs.length=qs.length/\ds=qs.map pairD/\∀i v,vs[i]? =some v->PrV K R v (qs.getD i (0,[]))
 | _,[],qs,.nil,e=>by
   unfold q5x at e
   cases e
   exact⟨rfl,rfl,λi v e=>by simp at e⟩
 | v::vs,d::ds,qs,.cons r t,e=>by
   unfold q5x at e
   split at e
   · rename_i q qs' e1 e2
     cases e
     obtain⟨h1,h2⟩:=qhn r e1
     obtain⟨g1,g2,g3⟩:=q7n t e2
     refine⟨by rw[jn,jn,g1],by rw[h2,g2];rfl,λi w e=>?_⟩
     cases i with
     |zero=>cases e;exact h1
     |succ i=>exact g3 i w e
   · cases e
theorem PrV.mono{H R:Hp}{v:V}{q:Int×List Int}(s:Same R H)(h:PrV K R v q):PrV K H v q:=by
 obtain⟨a,b,e,h1,h2⟩:=h
 exact⟨a,b,e,Same.tup s h1,Same.sqL s h2⟩
theorem qmw:qnd K (qom K) qio:=λH R x d u Q s r e k=>by
 unfold qio at e
 split at e
 · rename_i xs
   split at e
   · rename_i qs e1
     split at e
     · rename_i hc
       cases e
       obtain⟨p,vs,rfl,h,rs⟩:=r.isL
       obtain⟨g1,g2,g3⟩:=q7n rs e1
       subst g2
       refine⟨p,vs,qs,_,rfl,Same.sqL s h,g1,λi v e=>(g3 i v e).mono s,λq hq=>by simpa using List.all_eq_true.mp hc.2 q hq,hc.1,λv hv=>?_⟩
       have hd:(qs.map pairD)[argBest (btP qs) (qs.length-1)]? =some (pairD (q4e qs)):=by
         obtain⟨d,hd,_⟩:=rs.get' hv
         have hb:=(List.getElem?_eq_some_iff.mp hd).1
         rw[j6]at hb
         unfold q4e
         rw[jb,jq,jc hb]
         rfl
       obtain⟨w,hw,rw'⟩:=rs.get hd
       rw[hv]at hw
       cases hw
       exact k _ H R (Ext.refl s) rw'
     · cases e
   · cases e
 · cases e
end
def DRaw(h:Heap)(d:Addr)(es:Array DictEntry)(ep:Nat):Prop:=∃o,h.get? d=some o/\o.ExactDict/\o.data=.dict es ep
theorem DRaw.ty{s:Shared}{d:Addr}{es:Array DictEntry}{ep:Nat}(x:DRaw s.heap d es ep):s.TypeIs (.ref d) "dict":=let ⟨o,e,c,_⟩:=x;⟨o,e,c.1⟩
theorem DRaw.at_{h h':Heap}{d:Addr}{es:Array DictEntry}{ep:Nat}(x:DRaw h d es ep)(k:∀o,h.get? d=some o->h'.get? d=some o):DRaw h' d es ep:=let ⟨o,e,r⟩:=x;⟨o,k o e,r⟩
section
variable{prog:Program}{w:World}{A:Around}{E:Value->Shared->Prop}{s:Shared}
theorem qi3{d:Addr}{es:Array DictEntry}{ep:Nat}{Q:Value->Shared->Prop}(nd:(d==sysModules)=false)(x:DRaw s.heap d es ep)
   (q:Q (.ref s.heap.objs.size) {s with heap:=s.heap.push {cls:=.type "dict_keyiterator",data:=.fields #[.ref d,.int 0 0,.int es.size 0,.int ep 0]}}):wpAny (model prog w) A (pyIter (.ref d)) Q E s:=by
 obtain⟨o,e,c,dt⟩:=id x
 refine wpAny_pyIter_slot x.ty F.slot_dict_iter (k6 F.slot_dict_iter x.ty F.entry_dict_iter ?_ (F.args_dict_iter_1 _))
 unfold Builtin.«dict.__iter__» Builtin.Dict.dictSlotNone
 refine j5 (j5 (wpAny_notOrdered_dict x.ty ?_))
 show wpAny _ _ (pure (Value.ref d)) _ _ s
 refine j7 ?_
 unfold Builtin.Dict.showsAll
 show wpAny _ _ ((if(d==sysModules)=true then _ else _) >>= _) _ _ s
 rw[if_neg (by rw[nd];decide)]
 exact j5 (j7 (j5 (wpAny_dictEntries e dt (j5 (wpAny_dictEpoch e dt (j5 (xq (j7 ⟨_,rfl,"dict_keyiterator",_,⟨_,jl _ rfl,rfl⟩,F.slot_dict_keyiterator_next.lookup,q⟩))))))))
theorem qi4{it d:Addr}{i ep:Nat}{es:Array DictEntry}{Q:Option Value->Shared->Prop}(g:s.heap.IsKeyIter it d i es.size ep)(x:DRaw s.heap d es ep)(hi:i<es.size)
   (q:∀h',h'.IsKeyIter it d (i+1) es.size ep->Heap.SameBut it s.heap h'->Q (some es[i].key) {s with heap:=h'}):wpAny (model prog w) A (pyNext (.ref it)) Q E s:=by
 obtain⟨oi,ei,ci,fi⟩:=id g
 obtain⟨o,e,c,dt⟩:=id x
 have own0:Builtin.Dict_items.ownsTuple "dict_keyiterator"=false:=by decide
 unfold pyNext
 refine j5 (wpAny_attempt (k7 (name:=Str.ofString "__next__") g.typeIs kl (k6 kl g.typeIs F.entry_dict_keyiterator_next (j5 (j7 (j5 ?_))) (F.args_dict_keyiterator_next_1 _))))
 refine j5 (j5 (km g.typeIs (j7 (j5 (wpAny_fieldsOf ei fi ?_)))))
 simp only[own0,Bool.false_eq_true,if_false]
 show wpAny _ _ (if(Value.ref d==Value.none)=true then _ else _) _ _ s
 have nn:(Value.ref d==Value.none)=false:=rfl
 rw[if_neg (by rw[nn];decide)]
 refine j5 (j7 (j5 (wpAny_dictEntries e dt ?_)))
 rw[if_neg (by simp)]
 refine j5 (j7 (j5 (wpAny_dictEpoch e dt ?_)))
 rw[if_neg (by simp)]
 refine j7 ?_
 have n0:¬((i:Int)<0):=by omega
 simp only[n0,if_false,Int.toNat_natCast,Array.getElem?_eq_getElem hi]
 refine j5 (j5 (km g.typeIs (j7 (j5 (wpAny_isOneOf_keyiter g.typeIs ?_)))))
 show wpAny _ _ (setField (.ref it) 1 (rawInt ((i:Int)+1)) >>= _) _ _ s
 have g':(s.heap.update it (Obj.mapFields (·.setIfInBounds 1 (rawInt ((i:Int)+1))))).IsKeyIter it d (i+1) es.size ep:=
   ⟨_,ke _ ei (Obj.isFreed_of_fields (Obj.data_mapFields fi _)),(Obj.cls_mapFields ..).trans ci,by rw[Obj.data_mapFields fi];simp[rawInt]⟩
 refine j5 (wpAny_setField ei fi (by simp) (j5 (xu (j5 (wpAny_isOneOf_keyiter (s:={s with heap:=s.heap.update it (Obj.mapFields (·.setIfInBounds 1 (rawInt ((i:Int)+1))))}) g'.typeIs ?_)))))
 show wpAny _ _ (pure es[i].key) _ _ _
 exact j7 (j7 ⟨_,rfl,j7 (q _ g' (kh ..))⟩)
theorem qm0{it d:Addr}{i ep:Nat}{es:Array DictEntry}{Q:Option Value->Shared->Prop}(hh:A.handled=none)(g:s.heap.IsKeyIter it d i es.size ep)(x:DRaw s.heap d es ep)(hi:es.size<=i)
   (q:∀h',Heap.ExtBut it s.heap h'->Q none {s with heap:=h'}):wpAny (model prog w) A (pyNext (.ref it)) Q E s:=by
 obtain⟨oi,ei,ci,fi⟩:=id g
 obtain⟨o,e,c,dt⟩:=id x
 have own0:Builtin.Dict_items.ownsTuple "dict_keyiterator"=false:=by decide
 unfold pyNext
 refine j5 (wpAny_attempt (k7 (name:=Str.ofString "__next__") g.typeIs kl (k6 kl g.typeIs F.entry_dict_keyiterator_next (j5 (j7 (j5 ?_))) (F.args_dict_keyiterator_next_1 _))))
 refine j5 (j5 (km g.typeIs (j7 (j5 (wpAny_fieldsOf ei fi ?_)))))
 simp only[own0,Bool.false_eq_true,if_false]
 show wpAny _ _ (if(Value.ref d==Value.none)=true then _ else _) _ _ s
 have nn:(Value.ref d==Value.none)=false:=rfl
 rw[if_neg (by rw[nn];decide)]
 refine j5 (j7 (j5 (wpAny_dictEntries e dt ?_)))
 rw[if_neg (by simp)]
 refine j5 (j7 (j5 (wpAny_dictEpoch e dt ?_)))
 rw[if_neg (by simp)]
 refine j7 ?_
 have n0:¬((i:Int)<0):=by omega
 simp only[n0,if_false,Int.toNat_natCast,Array.getElem?_eq_none hi]
 refine j5 (j5 (km g.typeIs (j7 ?_)))
 show wpAny _ _ (setField (.ref it) 0 .none >>= _) _ _ s
 refine j5 (wpAny_setField ei fi (by simp) ?_)
 show wpAny _ _ (newExc (.type "StopIteration") [] >>= _) _ _ _
 simp only[newExc,newTuple,raiseNew]
 refine j5 (j5 (xq (j5 (m:=firstArgMember _ _) (wpAny_of_eq (a:=Value.none) (by first|rfl|(simp only[firstArgMember];rfl)) (xq ?_ (by size_fits)))) (by size_fits)))
 refine j5 (wpAny_handled ?_)
 rw[show A.in1.handled=none from hh]
 refine j5 (j7 (wpAny_throw ?_))
 exact j5 (wpAny_isInstance (T:="StopIteration") (b:=true) ⟨_,jl _ rfl,rfl⟩ isSubtype_stop (j7 (q _ (((kh ..).extBut.push _).push _))))
end
theorem qnt{X:Cx}{z5:List (Addr×Obj)}{σ:St}{H:Hp}{s:Shared}(I:Inv X z5 σ H s):sysModules<s.heap.objs.size:=by
 have h:mainGlobals<s.heap.objs.size:=(I.mod.glob.keeps I.bk).lt
 exact Nat.lt_trans (by decide) h
def qnn:TE:=λ_ H Q=>∀p,H p=none->Q (.ref p) (upd H p (.dK []))
theorem ql1{X:Cx}{pos:Pos}:PE X (.Dict [] [] pos) qnn:=λz5 s σ H Q I h=>
 wpAny_Dict_empty ⟨.ref s.heap.objs.size,_,I.laid (a:=s.heap.objs.size) (o:=.dK []) (t':=s.toks) (λ_ _ q=>j9 _ q) (ja _)
   ⟨Nat.zero_le _,beq_eq_false_iff_ne.mpr (Ne.symm (jh (qnt I))),[],.nil,_,#[],jl _ rfl,⟨rfl,rfl,rfl⟩,rfl,λe he=>by simp at he,.nil,List.nodup_nil⟩,rfl,h _ (I.hok.fresh (ja _))⟩
section
variable{prog:Program}{w:World}{κ:Type}[DecidableEq κ]{knd:KeyKind prog w κ}{A:Around}{E:Value->Shared->Prop}{s:Shared}
theorem qsc{d:Addr}{kvs:List (κ×Value)}{n:Nat}{k:κ}{key v:Value}{Q:Unit->Shared->Prop}(hk:knd.is k key=true)(hm:DictN knd s.heap d kvs n)(hz:kvs.length<=sizeLine)(nk:k∉kvs.map (·.1))
   (q:∀h',DictN knd h' d (kvs++[(k,v)]) (n+1)->Heap.SameBut d s.heap h'->Q () {s with heap:=h',toks:=s.toks+1}):wpAny (model prog w) A (dictSet d key v) Q E s:=by
 obtain⟨o,es,g0,cx,dt,ko,hp,nd⟩:=hm
 have z1:es.size=kvs.length:=by have:=hp.length;simpa using this
 have fi:es.findIdx? (λe=>knd.is k e.key)=none:=by
   have h1:=hp.findIdx k
   have h2:kvs.findIdx? (λkv=>decide (kv.1=k))=none:=by
     rw[List.findIdx?_eq_none_iff]
     intro x hx
     exact decide_eq_false λe=>nk (List.mem_map.mpr ⟨x,hx,e⟩)
   rw[h2]at h1
   obtain⟨l⟩:=es
   simpa using h1
 unfold dictSet
 (try with_reducible refine xu ?_);refine j5 (knd.pyHash hk ?_)
 unfold dictSetHashed
 (try with_reducible refine xu ?_);refine j5 (wpAny_dictFind_of (s:={s with toks:=s.toks+1}) hk g0 dt ko ?_)
 rw[fi]
 refine j5 (wpAny_rule (wpAny_updateDictKeys (hz:=by omega) (s:={s with toks:=s.toks+1}) g0 dt (q _ ?_ (kh ..))))
 refine⟨_,_,ke _ g0 (Obj.isFreed_of_dict (Obj.data_mapDictKeys dt _)),cx.mapDictKeys _,Obj.data_mapDictKeys dt _,ko.push hk v,?_,?_⟩
 · have:=hp.append hk (knd.hash k) v
   simpa using this
 · rw[ju,List.nodup_append]
   refine⟨nd,by simp,λx hx y hy z=>?_⟩
   have ey:y=k:=by simpa using hy
   exact nk (by rw[<-ey,<-z];exact hx)
theorem qnz{d:Addr}{kvs:List (κ×Value)}{n:Nat}{k:κ}{key v:Value}{Q:Unit->Shared->Prop}(hk:knd.is k key=true)(hm:DictN knd s.heap d kvs n)(hz:kvs.length<=sizeLine)(nk:k∉kvs.map (·.1))
   (q:∀h',DictN knd h' d (kvs++[(k,v)]) (n+1)->Heap.SameBut d s.heap h'->Q () {s with heap:=h',toks:=s.toks+1}):wpAny (model prog w) A (setItem (.ref d) key v) Q E s:=by
 have ty:=hm.of.typeIs (s:=s)
 unfold setItem
 (try with_reducible refine xu ?_);refine j5 (wpAny_sequenceKey ty (by decide) (j5 ?_))
 refine k7 (name:=Str.ofString "__setitem__") ty slot_dict_setitem (k6 slot_dict_setitem ty entry_dict_setitem ?_ (args_dict_setitem _ _ _))
 show wpAny _ _ (Builtin.Dict.notOrdered "__setitem__" ⟨[.ref d,key,v],[]⟩ >>= _) _ _ s
 refine j5 (wpAny_notOrdered_dict ty ?_)
 show wpAny _ _ (dictSet d key v >>= _) _ _ s
 exact j5 (qsc hk hm hz nk λh' m' t'=>j7 ⟨.none,rfl,j7 (q h' m' t')⟩)
end
def isIn(kvs:List (Key×V))(k:Int):Prop:=Sum.inl k∈kvs.map (·.1)
theorem KV.map1{κ:Type}{kvs:List (κ×V)}{vs:List (κ×Value)}(r:KV kvs vs):kvs.map (·.1)=vs.map (·.1):=by
 unfold KV at r
 induction r with
 |nil=>rfl
 |cons h _ ih=>rw[jw,jw,ih,h.1]
theorem KV.snoc{κ:Type}{kvs:List (κ×V)}{vs:List (κ×Value)}{k:κ}{v:V}{u:Value}(r:KV kvs vs)(h:RelV v u):KV (kvs++[(k,v)]) (vs++[(k,u)]):=by
 unfold KV at r ⊢
 induction r with
 |nil=>exact .cons ⟨rfl,h⟩ .nil
 |cons g _ ih=>exact .cons g ih
theorem KV.len{κ:Type}{kvs:List (κ×V)}{vs:List (κ×Value)}(r:KV kvs vs):kvs.length=vs.length:=Paired.length r
section
variable{X:Cx}{K:PySem.W.Frag}
def qoj:V->V->V->Hp->(Hp->Prop)->Prop:=λo i v H Q=>∃p kvs k,o=.ref p/\i=.int k/\H p=some (.dK kvs)/\kvs.length<sizeLine/\¬isIn kvs k/\Q (upd H p (.dK (kvs++[(.inl k,v)])))
theorem qs5:PSet X qoj:=by
 intro z5 s σ H o i v ov iv u Q I ro ri rv h
 obtain⟨p,kvs,k,rfl,rfl,hp,hz,hn,q⟩:=h
 cases ro
 obtain⟨t,rfl⟩:=ri
 obtain⟨_,hd,vs,rel,dd⟩:=(show ObjOk X.prog X.w H s.heap p (.dK kvs)from I.hok p _ hp)
 refine qnz (k:=.inl k) (q6w _ _ k t) dd (by rw[<-rel.len];omega) (by rw[<-rel.map1];exact hn) λh' dd' sb=>⟨_,?_,q⟩
 have he:∃q,h'.get? p=some q:=let ⟨q,_,hq,_⟩:=dd';⟨q,hq⟩
 refine I.write (t':=s.toks+1) (x:=p) (e:=p) (by rw[hp];exact True.intro) (.inl rfl) (λb q hb z=>(sb.2 b hb).trans z) he ⟨by rw[jd];exact hz,hd,_,rel.snoc rv,?_⟩
 rw[jd]
 exact dd'
def getK(kvs:List (Key×V))(k:Int):Option V:=(kvs.find? λp=>decide (p.1=Sum.inl k)).map (·.2)
theorem qic{kvs:List (Key×V)}{vs:List (Key×Value)}{k:Int}{v:V}(r:KV kvs vs)(h:getK kvs k=some v):∃u,valueAt vs (Sum.inl k)=some u/\RelV v u:=by
 unfold KV at r
 induction r with
 |nil=>cases h
 | @cons p q ps qs g _ ih=>
   obtain⟨h1,h2⟩:=g
   unfold getK at h
   by_cases e:p.1=Sum.inl k
   · have e':q.1=Sum.inl k:=h1.symm.trans e
     simp[List.find?_cons,e]at h
     subst h
     exact⟨q.2,by simp[valueAt,List.find?_cons,e'],h2⟩
   · have e':¬q.1=Sum.inl k:=λz=>e (h1.trans z)
     simp[List.find?_cons,e]at h
     obtain⟨u,u1,u2⟩:=ih (by unfold getK;simpa using h)
     exact⟨u,by rw[<-u1];simp[valueAt,List.find?_cons,e'],u2⟩
def rIxK:R2:=λx y H Q=>∃p kvs k v,x=.ref p/\y=.int k/\H p=some (.dK kvs)/\getK kvs k=some v/\Q v H
theorem ix_K:IxR X rIxK:=by
 intro value zf z5 s σ H x y v u Q I rx ry h hs
 obtain⟨p,kvs,k,z,rfl,rfl,hp,hg,q⟩:=h
 cases rx
 obtain⟨t,rfl⟩:=ry
 obtain⟨_,hd,vs,rel,dd⟩:=(show ObjOk X.prog X.w H s.heap p (.dK kvs)from I.hok p _ hp)
 obtain⟨w',hw,rw'⟩:=qic rel hg
 have ty:=dd.of.typeIs (s:=s)
 unfold subscriptTail
 refine j5 ?_
 rw[getitemInPython_of_ne ty.not_modules]
 refine j5 (wpAny_specialOf ty PySem.F.slot_dict_getitem.lookup ?_)
 have fin:wpAny (model X.prog X.w) X.A (subscripted zf false (.ref p) (.int k t)) (λr s₃=>wpAny (model X.prog X.w) X.A (letTemporaryGo value (.ref p) r >>= λ_=>pure r) (EP X z5 σ Q) X.xe s₃) X.xe s:=by
   rw[hs]
   exact wpAny_operating (wpAny_getItem_of (knd:=q6x X.prog X.w) (k:=.inl k) (q6w _ _ k t) dd.of.mapOf hw (j5 (wpAny_letTemporaryGo (j7 ⟨z,H,I.tok _,rw',q⟩))))
 first
   |exact j7 (j5 fin)
   |exact j5 (j7 (j5 fin))
   |exact j5 fin
end
def Itkk(a:Addr)(n:Nat):It:=
 ⟨λi H=>∃kvs p,H a=some (.dK kvs)/\kvs.length=n/\kvs[i]? =some p,
  λi H v H'=>H'=H/\∀kvs p,H a=some (.dK kvs)->kvs[i]? =some p->v=kV p.1,
  λi H=>∃kvs,H a=some (.dK kvs)/\kvs.length=n/\n<=i⟩
theorem pairs_at{P:Program}{w:World}:∀{es:List DictEntry} {kvs:List (Key×V)} {vs:List (Key×Value)} {i:Nat} {p:Key×V},Pairs (q6x P w) es vs->KV kvs vs->kvs[i]? =some p->∃e,es[i]? =some e/\RelV (kV p.1) e.key:=by
 intro es kvs vs i p h
 induction h generalizing kvs i with
 |nil=>intro r e;cases r;simp at e
 | @cons en kv es vs h1 h2 _ ih=>
   intro r e
   cases r with
   | @cons q _ ks _ g r=>
     cases i with
     | zero=>
       simp at e
       subst e
       refine⟨en,rfl,?_⟩
       rw[g.1]
       rcases q1y h1 with⟨j,t,e1,e2⟩|⟨x,t,e1,e2⟩
       · rw[e1,e2];exact⟨t,rfl⟩
       · rw[e1,e2];exact⟨t,rfl⟩
     |succ i=>exact ih r (by simpa using e)
theorem qa7{X:Cx}{z5:List (Addr×Obj)}{σ:St}{H:Hp}{s:Shared}{a:Addr}{kvs:List (Key×V)}(I:Inv X z5 σ H s)(e:H a=some (.dK kvs)):
   (a==sysModules)=false/\∃es,es.size=kvs.length/\DRaw s.heap a es kvs.length/\∀i p,kvs[i]? =some p->∃hi:i<es.size,RelV (kV p.1) es[i].key:=by
 obtain⟨_,y,vs,r,o,es,h1,h2,h3,h4,h5,_⟩:=(show ObjOk X.prog X.w H s.heap a (.dK kvs)from I.hok a _ e)
 have z:es.size=kvs.length:=by
   have:=h5.length
   rw[<-r.len]at this
   simpa using this
 refine⟨y,es,z,⟨o,h1,h2,h3⟩,λi p hp=>?_⟩
 obtain⟨en,e1,e2⟩:=pairs_at h5 r hp
 have hi:i<es.size:=by rw[z];exact(List.getElem?_eq_some_iff.mp hp).1
 refine⟨hi,?_⟩
 have ee:es[i]=en:=by
   have:=(List.getElem?_eq_some_iff.mp e1).2
   simpa using this
 rw[ee]
 exact e2
theorem qca{P:Program}{w:World}{K:PySem.W.Frag}{tg:Expr}(a it:Addr)(n:Nat):Turn P w K tg (Itkk a n) [it] it (λi h=>h.IsKeyIter it a i n n) where
 mem:=by simp
 obj:=λi h st b hb=>by
   obtain⟨o,e,c,d⟩:=st
   rw[List.mem_singleton.mp hb]
   exact⟨o,e,λv z=>by rw[d]at z;cases z⟩
 keep:=λi h h' st k=>st.at λo e=>k it (by simp) o e
 item:=by
   intro X hP hw hK hc i z5 s σ H E I hf st hg
   subst hP hw hK
   obtain⟨kvs,p,e,rfl,hp⟩:=hg
   obtain⟨_,es,z,dr,al⟩:=qa7 I e
   obtain⟨hi,k1⟩:=al i p hp
   obtain⟨f0,f1,f2,f3,f4,f5⟩:=hf it (by simp)
   rw[<-z]at st dr
   refine qi4 st dr hi λh' st' sb=>?_
   have I1:Inv X z5 σ H {s with heap:=h'}:=I.turned (t':=s.toks) (λb o hb e=>(sb.2 b hb).trans e) f0 f1 f3 f4 f5
   obtain⟨o,e1,c1,d1⟩:=id st'
   refine⟨_,rfl,qfy (s:={s with heap:=h'}) e1 c1 d1 (by decide) ⟨kV p.1,H,I1,k1,⟨rfl,λkvs' p' e' hp'=>?_⟩,by rw[<-z];exact st',λb hb=>(hf b hb).1⟩⟩
   rw[e]at e'
   cases e'
   rw[hp]at hp'
   cases hp'
   rfl
 done:=by
   intro X hP hw hK hc i z5 s σ H E I hf st hg
   subst hP hw hK
   obtain⟨kvs,e,rfl,hp⟩:=hg
   obtain⟨_,es,z,dr,_⟩:=qa7 I e
   obtain⟨f0,f1,f2,f3,f4,f5⟩:=hf it (by simp)
   rw[<-z]at st dr hp
   exact qm0 (I.ok.hd hc) st dr hp λh' eb=>⟨rfl,I.turned (t':=s.toks) (λb o hb e=>eb b o hb e) f0 f1 f3 f4 f5⟩
 self:=λ_ _ _ _ _ st h=>wpAny_pyIter_keyiter st h
def qkg(td:TE):TI:=λσ H R=>td σ H λx H1=>∃a kvs,x=.ref a/\H1 a=some (.dK kvs)/\R (Itkk a kvs.length) H1
theorem qhl{X:Cx}{tg l:Expr}{td:TE}(hl:PE X l td):PI X tg l (qkg td):=by
 intro z5 s σ H R I h
 refine thn (hl z5 s σ H _ I h) λv s1 ⟨x,H1,I1,rx,a,kvs,ex,e,q⟩=>?_
 subst ex
 obtain rfl:v=Value.ref a:=rx
 obtain⟨y,es,z,dr,_⟩:=qa7 I1 e
 refine qi3 y dr ?_
 refine⟨s1.heap.objs.size,[s1.heap.objs.size],_,_,H1,rfl,I1.kept (t':=s1.toks) λb o e=>j9 _ e,qca a _ kvs.length,⟨_,jl _ rfl,rfl,by rw[z];rfl⟩,λb hb=>?_,q⟩
 rw[List.mem_singleton.mp hb]
 exact I1.fpOk (ja _) (I1.hok.fresh (ja _))
def kD:Key->D
 |.inl i=>.int i
 |.inr x=>.str x
section
variable{K:PySem.W.Frag}{O O':List Nat}{R:Hp}
theorem qth(k:Key):Rp K R (kV k) (kD k):=by
 cases k with
 |inl i=>exact .int i
 |inr x=>exact .str x
theorem Rkk.length:∀{kvs:List (Key×V)} {gs:List (Key×D)},Rkk K R kvs gs->kvs.length=gs.length
 |_,_,.nil=>rfl
 |_,_,.cons _ r=>by rw[jn,jn,Rkk.length r]
theorem Rkk.keys:∀{kvs:List (Key×V)} {gs:List (Key×D)},Rkk K R kvs gs->kvs.map (·.1)=gs.map (·.1)
 |_,_,.nil=>rfl
 |_,_,.cons _ r=>by rw[jw,jw,Rkk.keys r]
theorem Rkk.snoc{k:Key}{v:V}{d:D}(r:Rp K R v d):∀{kvs:List (Key×V)} {gs:List (Key×D)},Rkk K R kvs gs->Rkk K R (kvs++[(k,v)]) (gs++[(k,d)])
 |_,_,.nil=>.cons r .nil
 |_,_,.cons h t=>.cons h (Rkk.snoc r t)
def qaj(gs:List (Key×D))(k:Int):Option D:=(gs.find? λp=>decide (p.1=Sum.inl k)).map (·.2)
theorem Rkk.val{k:Int}{d:D}:∀{kvs:List (Key×V)} {gs:List (Key×D)},Rkk K R kvs gs->qaj gs k=some d->∃v,getK kvs k=some v/\Rp K R v d
 |_,_,.nil,e=>by cases e
 | _,_,@Rkk.cons _ _ f x xs d' ds h t,e=>by
   unfold qaj at e
   by_cases z:f=Sum.inl k
   · simp[List.find?_cons,z]at e
     subst e
     exact⟨x,by simp[getK,List.find?_cons,z],h⟩
   · simp[List.find?_cons,z]at e
     obtain⟨v,h1,h2⟩:=Rkk.val (k:=k) (d:=d) t (by unfold qaj;simpa using e)
     exact⟨v,by rw[<-h1];simp[getK,List.find?_cons,z],h2⟩
theorem Rkk.get:∀{kvs:List (Key×V)} {gs:List (Key×D)} {i:Nat} {g:Key×D},Rkk K R kvs gs->gs[i]? =some g->∃v,kvs[i]? =some (g.1,v)
 |_,_,_,_,.nil,e=>by simp at e
 |_,_,0,_,.cons h _,e=>by simp at e;subst e;exact⟨_,rfl⟩
 | _,_,i+1,g,.cons _ t,e=>by
   obtain⟨v,h1⟩:=Rkk.get (i:=i) (g:=g) t (by simpa using e)
   exact⟨v,by simpa using h1⟩
def dIxK:D->D->Option D
 |.dct gs,.int k=>qaj gs k
 |_,_=>none
theorem Rp.isD{x:V}{gs:List (Key×D)}(h:Rp K R x (.dct gs)):∃a kvs,x=.ref a/\R a=some (.dK kvs)/\Rkk K R kvs gs:=by
 cases h with
 |dct h r=>exact⟨_,_,rfl,h,r⟩
theorem qp2:OpG K rIxK dIxK:=λH R x y d e u Q s rx ry q k=>by
 unfold dIxK at q
 split at q
 · rename_i gs i
   obtain rfl:=ry.isI
   obtain⟨a,kvs,rfl,h,r⟩:=rx.isD
   obtain⟨v,h1,h2⟩:=r.val q
   exact⟨a,kvs,i,v,rfl,rfl,s _ _ h,h1,k v H R (Ext.refl s) h2⟩
 · cases q
def q9d:D->Option (List D)
 |.dct gs=>some (gs.map λg=>kD g.1)
 |_=>none
def q71(f:RhD):RhL:=q1s f λd=>q2q (q9d d)
theorem qi7{a:Addr}{kvs:List (Key×V)}{gs:List (Key×D)}(h:R a=some (.dK kvs))(r:Rkk K R kvs gs):ItOk K (Itkk a kvs.length) R (gs.map λg=>kD g.1):=λH' R' s b i=>by
 have q:H' a=some (.dK kvs):=b _ _ (s _ _ h)
 refine⟨λe=>⟨kvs,q,rfl,by rw[j6]at e;rw[r.length];omega⟩,λd e=>?_⟩
 rw[jb]at e
 cases g0:gs[i]? with
 |none=>rw[g0]at e;cases e
 | some g=>
   rw[g0]at e
   cases e
   obtain⟨v,h1⟩:=r.get g0
   refine⟨⟨kvs,_,q,rfl,h1⟩,λx H'' y=>?_⟩
   obtain⟨rfl,y⟩:=y
   have ex:=y kvs _ q h1
   subst ex
   exact⟨R',Ext.refl b,qth _⟩
theorem qhz{td:TE}{fd:RhD}(h:ME K O td fd):MI K O (qkg td) (q71 fd):=λZ σ H R ρ ds ρ' Q S e k=>by
 obtain⟨d,ρ1,e1,e⟩:=q0c e
 obtain⟨e2,rfl⟩:=q0m e
 refine h Z σ H R ρ d _ _ S e1 λv H1 R1 S1 st1 r1=>?_
 unfold q9d at e2
 split at e2
 · cases e2
   obtain⟨a,kvs,rfl,q,r⟩:=r1.isD
   exact⟨a,kvs,rfl,S1.sub _ _ q,k _ H1 R1 S1 st1 (qi7 q r)⟩
 · cases e2
theorem qby{fd:RhD}{ρ:Rho}:q71 fd ρ=(fd ρ).bind λp=>(q9d p.1).map λx=>(x,p.2):=by
 unfold q71 q1s q2q
 cases fd ρ with
 |none=>rfl
 |some p=>cases h:q9d p.1<;>simp[h]
end
section
variable{c:MC}{O O':List Nat}{te ti:TE}{fe fi:RhD}
def qa5(i:Nat):RhO:=λρ=>if i<ρ.length then some (.nx (ρ.set i (some (.dct []))))else none
theorem qlr{i:Nat}(hs:ownO c i O O'=true):MS c O O' (tAsg qnn (q67 i)) (qa5 i):=λZ E σ H R ρ o hP S e k=>by
 unfold qa5 at e
 unfold ownO at hs
 simp only[Bool.and_eq_true]at hs
 split at e
 · rename_i zd
   cases e
   intro l hl
   have S1:=S.ext (Ext.hid (o:=.dK []) S.sub hl)
   obtain⟨S2,s2⟩:=S1.sub' hP hs.1.1
   have notown:∀j,j∈O->σ[j]? ≠some (some (.ref l)):=S.notnew hl
   have hO':∀j,j∈O'.filter (λj=>decide (j≠i))->j∈O:=λj hj=>by
     have z:=hs.1.1
     unfold subO at z
     simp only[Bool.and_eq_true,List.all_eq_true]at z
     simpa using z.1 j hj
   refine k _ _ _ (S2.take (i:=i) (l:=l) (vs:=.dK []) (ds:=.dct []) (by simp) (by simpa using hs.1.2) (λj hj=>?_) (by rw[hP];simpa using hs.2) zd (S.new0 hl) q0r ?_ (λj hj=>notown j (hO' j hj)) (λj hj=>(List.mem_filter.mp hj).1) (.dct .nil)) s2
   · by_cases z:j=i
     · exact .inl z
     · exact .inr (List.mem_filter.mpr ⟨hj,by simpa using z⟩)
   · unfold frzR
     rw[if_neg ?_]
     · exact S.out hl
     · rintro⟨j,hj,_,z⟩
       exact notown j hj z
 · cases e
def qd4(gs:List (Key×D))(k:Int)(d:D):Option (List (Key×D)):=if gs.length<sizeLine/\(gs.all λg=>!decide (g.1=Sum.inl k))=true then some (gs++[(.inl k,d)])else none
def qa4(i:Nat)(fe fi:RhD):RhO:=λρ=>match fe ρ with
 |none=>none
 | some (d,ρ1)=>match fi ρ1 with
   | some (.int k,ρ2)=>match ρ2[i]? with
     | some (some (.dct gs))=>match qd4 gs k d with
       |some gs'=>some (.nx (ρ2.set i (some (.dct gs'))))
       |none=>none
     |_=>none
   |_=>none
theorem qlq{i:Nat}(hi:i∈O)(he:ME c.K O te fe)(hx:ME c.K O ti fi)(hs:subO c O O'=true):MS c O O' (tAsg te (gSub (tVar i) ti qoj)) (qa4 i fe fi):=λZ E σ H R ρ o hP S e k=>by
 unfold qa4 at e
 cases e1:fe ρ with
 |none=>rw[e1]at e;cases e
 | some p=>
   obtain⟨d,ρ1⟩:=p
   rw[e1]at e
   dsimp only at e
   cases e2:fi ρ1 with
   |none=>rw[e2]at e;cases e
   | some p=>
     obtain⟨x,ρ2⟩:=p
     rw[e2]at e
     refine he Z σ H R ρ d ρ1 _ S e1 λv H1 R1 S1 st1 r1=>?_
     obtain⟨l,vs,ds,h1,h2,h3,h4,h5⟩:=S1.own i hi
     refine⟨.ref l,h2,hx Z σ H1 R1 ρ1 x ρ2 _ S1 e2 λw H2 R2 S2 st2 r2=>?_⟩
     obtain⟨l',vs',ds',g1,g2,g3,g4,g5⟩:=S2.own i hi
     rw[h2]at g2
     cases g2
     cases r2 with
     | int j=>
       dsimp only at e
       rw[g1]at e
       cases g5 with
       |lst _=>cases e
       |dit _=>cases e
       |dct g5=>
       rename_i kvs gs
       dsimp only at e
       cases e3:qd4 gs j d with
       |none=>rw[e3]at e;cases e
       | some m=>
         rw[e3]at e
         cases e
         unfold qd4 at e3
         split at e3
         · rename_i hz
           cases e3
           refine⟨l,kvs,j,rfl,rfl,g3,by rw[g5.length];exact hz.1,by
             unfold isIn
             rw[g5.keys]
             intro hm
             obtain⟨g,hg,eg⟩:=List.mem_map.mp hm
             have:=List.all_eq_true.mp hz.2 g hg
             simp[eg]at this,?_⟩
           obtain⟨S3,s3⟩:=(S2.write hi h2 (.dct (g5.snoc (r1.mono st2.r)))).sub' hP hs
           exact k σ _ _ S3 ((st1.r.trans st2.r).trans s3)
         · cases e3
     |_=>cases e
theorem qmh{i:Nat}{ρ:Rho}(h:i<ρ.length):qa5 i ρ=some (.nx (ρ.set i (some (.dct [])))):=by
 unfold qa5;rw[if_pos h]
theorem qmf{i:Nat}{ρ ρ1 ρ2:Rho}{d:D}{k:Int}{gs gs':List (Key×D)}(h1:fe ρ=some (d,ρ1))(h2:fi ρ1=some (.int k,ρ2))(h3:ρ2[i]? =some (some (.dct gs)))(h4:qd4 gs k d=some gs'):qa4 i fe fi ρ=some (.nx (ρ2.set i (some (.dct gs')))):=by
 unfold qa4;simp only[h1,h2,h3,h4]
end
theorem qlu{K:PySem.W.Frag}{O:List Nat}{ta:TE}{fa:RhD}(h:ME K O ta fa):MN K O (qns K ta) (mRev fa):=λZ σ H R ρ ds ρ' Q S e k=>by
 obtain⟨x,ρ1,e1,e⟩:=q0c e
 obtain⟨e3,rfl⟩:=q0m e
 refine h Z σ H R ρ x _ _ S e1 λv H1 R1 S1 st1 r1=>?_
 unfold revO at e3
 split at e3
 · cases e3
   obtain⟨b,xs,rfl,q,r⟩:=r1.isL
   refine⟨b,xs,rfl,Same.sqL S1.sub q,λl hl=>?_⟩
   have x:=Ext.hid (o:=.lst xs.reverse) S1.sub hl
   exact k l xs.reverse _ _ (S1.ext x) (st1.trans x.stp) (st1.new hl) q0r (S1.out hl) r.rev
 · cases e3
section
variable{X:Cx}{K:PySem.W.Frag}{O:List Nat}{a:Expr}{ta:TE}{p p2 pos zm:Pos}{fa:RhD}
def ups(n:Int):List Int:=(List.range n.toNat).map λ(i:Nat)=>(i:Int)
def qnr(ta:TE):TE:=λσ H Q=>ta σ H λv H1=>∃n:Int,[v]=[V.int n]/\0<=n/\n<=1000000/\∀q,H1 q=none->Q (.ref q) (upd H1 q (.lst ((ups n).map V.int)))
theorem qgv{acc:List Value}{ns:List Int}(hl:acc.length=ns.length)(h:∀(i:Nat) (v:Value),acc[i]? =some v->∃t,v=Value.int (ns.getD i 0) t):Vals (ns.map V.int) acc:=by
 induction acc generalizing ns with
 | nil=>
   cases ns with
   |nil=>exact .nil
   |cons n ns=>simp at hl
 | cons v r ih=>
   cases ns with
   |nil=>simp at hl
   | cons n ns=>
     refine .cons ?_ (ih (by simpa using hl) λi w e=>?_)
     · obtain⟨t,e⟩:=h 0 v rfl
       exact⟨t,e⟩
     · obtain⟨t,e⟩:=h (i+1) w (by simpa using e)
       exact⟨t,by simpa using e⟩
theorem ql3(hc:X.calm=true)(hg:Gl X "list")(hm:X.mg "list"=none)(hg2:Gl X "range")(hm2:X.mg "range"=none)(ha:PE X a ta)(he2:starEach [a] X.env=(false,eval a X.env)::starEach [] X.env:=by rfl)(hpl2:(backTo pos (starEach [] X.env)).any (·.1)=false:=by rfl)
   (he:starEach [.Call (.Name "range" p) [a] [] pos] X.env=(false,eval (.Call (.Name "range" p) [a] [] pos) X.env)::starEach [] X.env:=by rfl) (hpl:(backTo zm (starEach [] X.env)).any (·.1)=false:=by rfl):
   PE X (.Call (.Name "list" p2) [.Call (.Name "range" p) [a] [] pos] [] zm) (qnr ta):=by
 intro z5 s σ H Q I h
 refine xo (q4f I hg hm (u:=.type "list") (by rfl) ?_)
 refine PyProof.Rows.callWith_type1 ?_ he hpl
 rw[he]
 show wpAny _ _ (spliced ((false,eval (.Call (.Name "range" p) [a] [] pos) X.env)::backTo zm (starEach [] X.env))) _ _ s
 refine Calls.spliced_cons ?_
 refine xo (q4f I hg2 hm2 (u:=.type "range") (by rfl) ?_)
 refine PyProof.Rows.callWith_type1 (thn ((q00 ha q05 he2) pos z5 s σ H (λvs H1=>∃n:Int,vs=[V.int n]/\0<=n/\n<=1000000/\∀q,H1 q=none->Q (.ref q) (upd H1 q (.lst ((ups n).map V.int)))) I h) λus s1 h1=>?_) he2 hpl2
 obtain⟨vs,H1,I1,r1,n,rfl,n0,n1,k⟩:=h1
 obtain⟨u,rfl,ru⟩:=vals1 r1
 obtain⟨t,rfl⟩:=ru
 refine call_range_1 (Calls.spliced_nil ?_)
 have sz:Builtin.Range.rangeSize 0 n 1=(n.toNat:Int):=by rw[rangeSize_one];split<;>omega
 refine call_list_range (n := n.toNat) (I1.ok.hd hc) (IsRange.new ..) (small_one (by omega) (by omega) (by omega) (by omega)) sz (by have:(2:Nat)^24=16777216:=by decide
                                                                                                                                     omega) λh' tk acc c' kp e i=>?_
 have hf:H1 (s1.heap.push {cls:=.type "range",data:=.fields #[.int 0 s1.toks,.int n t,.int 1 (s1.toks+1)]}).objs.size=none:=I1.hok.fresh (by rw[x8];exact Nat.le_succ _)
 refine⟨.ref _,_,?_,rfl,k _ hf⟩
 refine I1.laid (t':=tk) (λb o eb=>kp b o (j9 _ eb)) (by rw[x8];exact Nat.le_succ _) ?_
 have hsl:=sizeLine_eq
 refine⟨by simp only[ups,List.length_map,List.length_range];omega,acc.toList,c',qgv (by have:=i.1;simp[ups];omega) λj v ev=>?_,by rw[e]⟩
 have ev':acc[j]? =some v:=by simpa using ev
 obtain⟨t',e'⟩:=i.2 j v ev'
 have hj:j<n.toNat:=by
   have:=(Array.getElem?_eq_some_iff.mp ev').1
   have:=i.1
   omega
 refine⟨t',?_⟩
 rw[e']
 simp[ups,List.getD_eq_getElem?_getD,hj]
def upsO:D->Option (List D)
 |.int n=>if 0<=n/\n<=1000000 then some ((ups n).map D.int)else none
 |_=>none
theorem qlt(h:ME K O ta fa):MN K O (qnr ta) (qdh upsO fa):=λZ σ H R ρ ds ρ' Q S e k=>by
 obtain⟨x,ρ1,e1,e⟩:=q0c e
 obtain⟨e3,rfl⟩:=q0m e
 refine h Z σ H R ρ x _ _ S e1 λv H1 R1 S1 st1 r1=>?_
 unfold upsO at e3
 split at e3
 · rename_i n
   split at e3
   · rename_i hn
     cases e3
     obtain rfl:=r1.isI
     refine⟨n,rfl,hn.1,hn.2,λl hl=>?_⟩
     have x:=Ext.hid (o:=.lst ((ups n).map V.int)) S1.sub hl
     exact k l _ _ _ (S1.ext x) (st1.trans x.stp) (st1.new hl) q0r (S1.out hl) (Rps.ints _)
   · cases e3
 · cases e3
end
end L2
namespace L2
open PySem
abbrev Mv:=Int×Int
abbrev Sx:=List (List Mv)
abbrev Rw:=List (Option Int)
def atR(t:Rw)(z9:Int):Option Int:=(t[z9.toNat]?).join
def q1t(q:Mv)(zb:Rw):Option Int:=(atR zb q.1).map λx=>q.2+x
def q23(ch:List Mv)(zb:Rw):Option Int:=minI ((ch.map λq=>q1t q zb).filterMap id)
def q0e:List Sx->Rw->List Rw
 |[],za=>[za]
 |st::rest,za=>(st.map λch=>q23 ch ((q0e rest za).headD []))::q0e rest za
def chAt(st:Sx)(z9:Int):List Mv:=st.getD z9.toNat []
def q3l:List Sx->Rw->Int->List Int->Option Int
 |[],za,z9,_=>atR za z9
 | st::rest,za,z9,b::bs=>match (chAt st z9)[b.toNat]? with
   |some q=>(q3l rest za q.1 bs).map λx=>q.2+x
   |none=>none
 |_::_,_,_,[]=>none
def q5u(st:Sx)(t t':Rw)(z9:Int):Int:=if q1t ((chAt st z9).getD 0 (0,0)) t'=atR t z9 then 0 else 1
def q34:Nat->List Sx->List Rw->Int->List Int
 |0,_,_,_=>[]
 |_+1,[],_,_=>[]
 |_+1,_::_,[],_=>[]
 |n+1,st::rest,t::ts,z9=>q5u st t (ts.headD []) z9::q34 n rest ts ((chAt st z9).getD (q5u st t (ts.headD []) z9).toNat (0,0)).1
theorem q92(st:Sx)(rest:List Sx)(za:Rw)(z9 b:Int)(bs:List Int):q3l (st::rest) za z9 (b::bs)=match (chAt st z9)[b.toNat]? with
   |some q=>(q3l rest za q.1 bs).map λx=>q.2+x
   |none=>none:=rfl
theorem q4y(n:Nat)(st:Sx)(rest:List Sx)(t:Rw)(ts:List Rw)(z9:Int):q34 (n+1) (st::rest) (t::ts) z9=q5u st t (ts.headD []) z9::q34 n rest ts ((chAt st z9).getD (q5u st t (ts.headD []) z9).toNat (0,0)).1:=rfl
theorem q5v:∀(z6:List Sx) (za:Rw),(q0e z6 za).length=z6.length+1
 |[],_=>rfl
 | _::rest,za=>by
   unfold q0e
   rw[jn,q5v rest za,jn]
theorem q7d:∀(z6:List Sx) (za:Rw) (k:Nat),k<=z6.length->(q0e z6 za).drop k=q0e (z6.drop k) za
 |_,_,0,_=>rfl
 |[],_,k+1,h=>by simp at h
 | _::rest,za,k+1,h=>by
   show(q0e rest za).drop k=q0e (rest.drop k) za
   exact q7d rest za k (by simpa using h)
theorem q6z{ch:List Mv}{zb:Rw}{q:Mv}{x:Int}(h:q∈ch)(e:q1t q zb=some x):x∈(ch.map λq=>q1t q zb).filterMap id:=by
 rw[List.mem_filterMap]
 exact⟨some x,List.mem_map.mpr ⟨q,h,e⟩,rfl⟩
theorem qas{st:Sx}{f:List Mv->Option Int}{z9:Int}{ch:List Mv}(h:st[z9.toNat]? =some ch):atR (st.map f) z9=f ch:=by
 unfold atR
 rw[jb,h]
 rfl
theorem q5h{st:Sx}{z9:Int}{ch:List Mv}(h:st[z9.toNat]? =some ch):chAt st z9=ch:=by
 unfold chAt
 rw[jq,h]
 rfl
theorem qmv{st:Sx}{z9:Int}{i:Nat}{q:Mv}(h:(chAt st z9)[i]? =some q):st[z9.toNat]? =some (chAt st z9):=by
 unfold chAt at h ⊢
 rw[jq]at h ⊢
 cases e:st[z9.toNat]? with
 |none=>rw[e]at h;simp at h
 |some ch=>rfl
theorem q6f:∀(z6:List Sx) (za:Rw) (z9:Int) (us:List Int) (c:Int),q3l z6 za z9 us=some c->∃m,atR ((q0e z6 za).headD []) z9=some m/\m<=c
 |[],za,z9,us,c,h=>⟨c,h,Int.le_refl _⟩
 |st::rest,za,z9,[],c,h=>by cases h
 | st::rest,za,z9,b::bs,c,h=>by
   unfold q3l at h
   cases e:(chAt st z9)[b.toNat]? with
   |none=>rw[e]at h;cases h
   | some q=>
     rw[e]at h
     simp only at h
     cases e1:q3l rest za q.1 bs with
     |none=>rw[e1]at h;cases h
     | some c1=>
       rw[e1]at h
       cases h
       obtain⟨m1,h1,h2⟩:=q6f rest za q.1 bs c1 e1
       have hc:q1t q ((q0e rest za).headD [])=some (q.2+m1):=by unfold q1t;rw[h1];rfl
       have hm:=q6z (x9 e) hc
       show∃m,atR (st.map λch=>q23 ch ((q0e rest za).headD [])) z9=some m/\_
       rw[qas (qmv e)]
       unfold q23
       cases e2:minI (((chAt st z9).map λq=>q1t q ((q0e rest za).headD [])).filterMap id)with
       |none=>rw[q98 e2]at hm;cases hm
       | some m=>
         have:=(qae e2).2 _ hm
         exact⟨m,rfl,by show m<=q.2+c1;omega⟩
def OkS(M:Nat):Nat->List Sx->Prop
 |_,[]=>True
 |n,st::rest=>st.length=M/\(∀ch∈st,ch.length=(if n=0 then 1 else 2)/\∀q∈ch,0<=q.1/\q.1.toNat<M)/\OkS M (n-1) rest
def q4q(k:Nat):List Int:=List.replicate k 0
theorem q7p(a:Int)(xs ys:List Int):HT.lexLt (a::xs) (a::ys)=HT.lexLt xs ys:=by rw[HT.lexLt_cons,if_pos rfl]
theorem qdb{q:Mv}{zb:Rw}:q23 [q] zb=q1t q zb:=by
 unfold q23
 cases h:q1t q zb with
 |none=>simp[h];rfl
 | some x=>
   simp[h]
   exact qlw (by simp) (by simp)
theorem qgz{q0 q1:Mv}{zb:Rw}{m:Int}(h:q23 [q0,q1] zb=some m):(q1t q0 zb=some m∨q1t q1 zb=some m)/\(∀x,q1t q0 zb=some x->m<=x)/\∀x,q1t q1 zb=some x->m<=x:=by
 unfold q23 at h
 obtain⟨h1,h2⟩:=qae h
 refine⟨?_,λx hx=>h2 x (q6z (by simp) hx),λx hx=>h2 x (q6z (by simp) hx)⟩
 rw[List.mem_filterMap]at h1
 obtain⟨o,ho,eo⟩:=h1
 have eo:o=some m:=eo
 subst eo
 simp at ho
 rcases ho with ho|ho
 · exact .inl ho.symm
 · exact .inr ho.symm
theorem qjj{α:Type}{xs:List α}(h:xs.length=2):∃a b,xs=[a,b]:=by
 match xs,h with
 |[a,b],_=>exact⟨a,b,rfl⟩
theorem q5c(M:Nat):∀(z6:List Sx) (n:Nat) (za:Rw) (z9:Int) (m:Int),OkS M n z6->n<=z6.length->(0<=z9/\z9.toNat<M)->atR ((q0e z6 za).headD []) z9=some m->
   Bits (q34 n z6 (q0e z6 za) z9)/\(q34 n z6 (q0e z6 za) z9).length=n/\q3l z6 za z9 (q34 n z6 (q0e z6 za) z9++q4q (z6.length-n))=some m/\
   ∀w,Bits w->w.length=n->q3l z6 za z9 (w++q4q (z6.length-n))=some m->HT.lexLt w (q34 n z6 (q0e z6 za) z9)=false
 |[],0,za,z9,m,_,_,_,h=>⟨λb h=>(nomatch h),rfl,h,λw _ hw _=>by rw[List.eq_nil_of_length_eq_zero hw];rfl⟩
 |[],n+1,_,_,_,_,hn,_,_=>by simp at hn
 | st::rest,0,za,z9,m,ok,_,hr,h=>by
   obtain⟨o1,o2,o3⟩:=ok
   have hlt:z9.toNat<st.length:=by rw[o1];exact hr.2
   have es:st[z9.toNat]? =some st[z9.toNat]:=jc hlt
   obtain⟨c1,c2⟩:=o2 _ (xj hlt)
   rw[if_pos rfl]at c1
   obtain⟨q,eq⟩:=List.length_eq_one_iff.mp c1
   have h:atR (st.map λch=>q23 ch ((q0e rest za).headD [])) z9=some m:=h
   rw[qas es,eq,qdb]at h
   unfold q1t at h
   cases e1:atR ((q0e rest za).headD []) q.1 with
   |none=>rw[e1]at h;cases h
   | some m1=>
     rw[e1]at h
     cases h
     have hq:=c2 q (by rw[eq];simp)
     obtain⟨_,_,g3,_⟩:=q5c M rest 0 za q.1 m1 (by simpa using o3) (Nat.zero_le _) hq e1
     refine⟨λb h=>(nomatch h),rfl,?_,λw _ hw _=>by rw[List.eq_nil_of_length_eq_zero hw];rfl⟩
     show q3l (st::rest) za z9 ([]++q4q (rest.length+1-0))=_
     have ez:q4q (rest.length+1-0)=0::q4q rest.length:=rfl
     rw[List.nil_append,ez]
     unfold q3l
     rw[q5h es,eq]
     simp only[Int.toNat_zero,List.getElem?_cons_zero]
     have g3:q3l rest za q.1 ([]++q4q (rest.length-0))=some m1:=g3
     rw[List.nil_append,Nat.sub_zero]at g3
     rw[g3]
     rfl
 | st::rest,n+1,za,z9,m,ok,hn,hr,h=>by
   obtain⟨o1,o2,o3⟩:=ok
   have hlt:z9.toNat<st.length:=by rw[o1];exact hr.2
   have es:st[z9.toNat]? =some st[z9.toNat]:=jc hlt
   obtain⟨c1,c2⟩:=o2 _ (xj hlt)
   rw[if_neg (by omega)]at c1
   obtain⟨q0,q1,eq⟩:=qjj c1
   have h0:atR (st.map λch=>q23 ch ((q0e rest za).headD [])) z9=some m:=h
   rw[qas es,eq]at h0
   obtain⟨t1,t2,t3⟩:=qgz h0
   have ech:chAt st z9=[q0,q1]:=by rw[q5h es,eq]
   have hq0:=c2 q0 (by rw[eq];simp)
   have hq1:=c2 q1 (by rw[eq];simp)
   have hn':n<=rest.length:=by simpa using hn
   have ln:(st::rest).length-(n+1)=rest.length-n:=by simp
   have hd:(q0e (st::rest) za)=(st.map λch=>q23 ch ((q0e rest za).headD []))::q0e rest za:=rfl
   have ea:atR (st.map λch=>q23 ch ((q0e rest za).headD [])) z9=some m:=h
   rw[ln,hd]
   have o3:OkS M n rest:=by simpa using o3
   have pc:∀(b:Int) (bs:List Int) (q:Mv),[q0,q1][b.toNat]? =some q->q3l (st::rest) za z9 (b::bs)=(q3l rest za q.1 bs).map λx=>q.2+x:=λb bs q e=>by
     rw[q92,ech,e]
   by_cases z:q1t q0 ((q0e rest za).headD [])=some m
   · have eb:q5u st (st.map λch=>q23 ch ((q0e rest za).headD [])) ((q0e rest za).headD []) z9=0:=by
       unfold q5u
       rw[ech,ea]
       exact if_pos z
     have eg:q34 (n+1) (st::rest) ((st.map λch=>q23 ch ((q0e rest za).headD []))::q0e rest za) z9=0::q34 n rest (q0e rest za) q0.1:=by
       rw[q4y,eb,ech]
       rfl
     rw[eg]
     unfold q1t at z
     cases e1:atR ((q0e rest za).headD []) q0.1 with
     |none=>rw[e1]at z;cases z
     | some m1=>
       rw[e1]at z
       have z:q0.2+m1=m:=je z
       obtain⟨g1,g2,g3,g4⟩:=q5c M rest n za q0.1 m1 o3 hn' hq0 e1
       refine⟨λb hb=>?_,by rw[jn,g2],?_,λw hw lw pw=>?_⟩
       · rcases List.mem_cons.mp hb with rfl|hb
         · exact .inl rfl
         · exact g1 b hb
       · rw[List.cons_append,pc 0 _ q0 rfl,g3]
         exact congrArg some z
       · cases w with
         |nil=>simp at lw
         | cons b bs=>
           have hbs:Bits bs:=λx hx=>hw x (jg _ hx)
           have lbs:bs.length=n:=by simpa using lw
           rcases hw b jf with rfl|rfl
           · rw[q7p]
             rw[List.cons_append,pc 0 _ q0 rfl]at pw
             refine g4 bs hbs lbs ?_
             cases e2:q3l rest za q0.1 (bs++q4q (rest.length-n))with
             |none=>rw[e2]at pw;cases pw
             | some c=>
               rw[e2]at pw
               have pw:q0.2+c=m:=je pw
               congr 1
               omega
           · rw[HT.lexLt_cons,if_neg (by decide)]
             decide
   · have z1:q1t q1 ((q0e rest za).headD [])=some m:=t1.resolve_left z
     have eb:q5u st (st.map λch=>q23 ch ((q0e rest za).headD [])) ((q0e rest za).headD []) z9=1:=by
       unfold q5u
       rw[ech,ea]
       exact if_neg z
     have eg:q34 (n+1) (st::rest) ((st.map λch=>q23 ch ((q0e rest za).headD []))::q0e rest za) z9=1::q34 n rest (q0e rest za) q1.1:=by
       rw[q4y,eb,ech]
       rfl
     rw[eg]
     unfold q1t at z1
     cases e1:atR ((q0e rest za).headD []) q1.1 with
     |none=>rw[e1]at z1;cases z1
     | some m1=>
       rw[e1]at z1
       have z1:q1.2+m1=m:=je z1
       obtain⟨g1,g2,g3,g4⟩:=q5c M rest n za q1.1 m1 o3 hn' hq1 e1
       refine⟨λb hb=>?_,by rw[jn,g2],?_,λw hw lw pw=>?_⟩
       · rcases List.mem_cons.mp hb with rfl|hb
         · exact .inr rfl
         · exact g1 b hb
       · rw[List.cons_append,pc 1 _ q1 rfl,g3]
         exact congrArg some z1
       · cases w with
         |nil=>simp at lw
         | cons b bs=>
           have hbs:Bits bs:=λx hx=>hw x (jg _ hx)
           have lbs:bs.length=n:=by simpa using lw
           rcases hw b jf with rfl|rfl
           · exfalso
             rw[List.cons_append,pc 0 _ q0 rfl]at pw
             cases e2:q3l rest za q0.1 (bs++q4q (rest.length-n))with
             |none=>rw[e2]at pw;cases pw
             | some c=>
               rw[e2]at pw
               have pw:q0.2+c=m:=je pw
               obtain⟨m0,h1,h2⟩:=q6f rest za q0.1 _ c e2
               have hc:q1t q0 ((q0e rest za).headD [])=some (q0.2+m0):=by unfold q1t;rw[h1];rfl
               have:=t2 _ hc
               have e3:q0.2+m0=m:=by omega
               exact z (by rw[hc,e3])
           · rw[q7p]
             rw[List.cons_append,pc 1 _ q1 rfl]at pw
             refine g4 bs hbs lbs ?_
             cases e2:q3l rest za q1.1 (bs++q4q (rest.length-n))with
             |none=>rw[e2]at pw;cases pw
             | some c=>
               rw[e2]at pw
               have pw:q1.2+c=m:=je pw
               congr 1
               omega
end L2
namespace L2
open PySem
theorem qbt:∀a b:List Int,HT.lexLt a b=false->HT.lexLt b a=false->a=b
 |[],[],_,_=>rfl
 |[],_::_,h,_=>by cases h
 |_::_,[],_,h=>by cases h
 | x::xs,y::ys,h,g=>by
   rw[HT.lexLt_cons]at h g
   by_cases q:x=y
   · rw[if_pos q]at h
     rw[if_pos q.symm]at g
     rw[q,qbt xs ys h g]
   · rw[if_neg q]at h
     rw[if_neg λz=>q z.symm]at g
     simp only[decide_eq_false_iff_not]at h g
     omega
theorem qop{x y:Int×List Int}(h:qLt x y=false)(g:qLt y x=false):x=y:=by
 unfold qLt q57 at h g
 by_cases q:x.1=y.1
 · rw[if_pos q]at h
   rw[if_pos q.symm]at g
   exact Prod.ext q (qbt _ _ h g)
 · rw[if_neg q]at h
   rw[if_neg λz=>q z.symm]at g
   simp only[decide_eq_false_iff_not]at h g
   omega
theorem qem{x y z:Int×List Int}(h:qLt x y=false)(g:qLt y z=false):qLt x z=false:=by
 cases q:qLt x z with
 |false=>rfl
 | true=>
   have e:=qop h (qen x z y q g)
   rw[e,g]at q
   cases q
structure Near(n:Nat)(cost:List Int->Int)(x:Int×List Int):Prop where
 bits:Bits x.2
 len:x.2.length=n
 val:x.1=cost x.2
 least:∀w,Bits w->w.length=n->qLt (cost w,w) x=false
section
variable(r:Int)(taps:List Int)(rows:List (List Int))(e:Str)(ts:List Told)(n:Nat)
def chunk(k:Nat):List Told:=(ts.drop (q0g taps rows k).length).take (selK taps rows k).length
def mvK(k:Nat)(z9 bit:Int):Mv:=((2*z9+bit) % 2^r.toNat,q3e (chunk taps rows ts k) (q3v (rowAt rows k) (taps.map (sgn (2*z9+bit)))))
def q42(k:Nat):List Int:=if k<n then [0,1]else [0]
def stepK(k:Nat):Sx:=(List.range (2^r.toNat)).map λ(z9:Nat)=>(q42 n k).map λb=>mvK r taps rows ts k (z9:Int) b
def q1e(k len:Nat):List Sx:=(List.range' k len).map (stepK r taps rows ts n)
def q4o(s:Int):Rw:=(List.range (2^r.toNat)).map λ(z9:Nat)=>if e="open"∨(z9:Int)=(if e="ring" then s else 0)then some 0 else none
def q50(w:List Int):Int:=q3e ts (q8t r.toNat taps rows (frst r e w) (q2t r e w))
end
section
variable{r:Int}{taps:List Int}{rows:List (List Int)}{e:Str}{ts:List Told}{n:Nat}
theorem q4v(k len:Nat):q1e r taps rows ts n k (len+1)=stepK r taps rows ts n k::q1e r taps rows ts n (k+1) len:=by
 unfold q1e
 rw[List.range'_succ]
 rfl
theorem q3b:((2^r.toNat:Nat):Int)=(2:Int)^r.toNat:=by rw[Int.natCast_pow];rfl
theorem q58:∀(len k:Nat),OkS (2^r.toNat) (n-k) (q1e r taps rows ts n k len)
 |0,k=>True.intro
 | len+1,k=>by
   rw[q4v]
   refine⟨by unfold stepK;simp,λch hch=>?_,by rw[Nat.sub_sub];exact q58 len (k+1)⟩
   unfold stepK at hch
   obtain⟨z9,hr,rfl⟩:=List.mem_map.mp hch
   refine⟨?_,λq hq=>?_⟩
   · unfold q42
     by_cases h:k<n
     · rw[if_pos h,if_neg (by omega)];rfl
     · rw[if_neg h,if_pos (by omega)];rfl
   · obtain⟨b,_,rfl⟩:=List.mem_map.mp hq
     have h1:(0:Int)<2^r.toNat:=Int.pow_pos (by decide)
     have h2:=Int.emod_nonneg (2*(z9:Int)+b) (by omega:(2:Int)^r.toNat≠0)
     have h3:=Int.emod_lt_of_pos (2*(z9:Int)+b) h1
     have h4:=q3b (r:=r)
     refine⟨h2,?_⟩
     show((2*(z9:Int)+b) % 2^r.toNat).toNat<_
     omega
theorem qgb{k:Nat}{z9:Int}(h0:0<=z9)(h1:z9<2^r.toNat):chAt (stepK r taps rows ts n k) z9=(q42 n k).map λb=>mvK r taps rows ts k z9 b:=by
 have h4:=q3b (r:=r)
 have lt:z9.toNat<2^r.toNat:=by omega
 refine q5h ?_
 unfold stepK
 rw[jb,xr lt]
 simp only[Option.map_some,Int.toNat_of_nonneg h0]
theorem q85{a:Int}{u:List Int}(ha:0<=a/\a<2^r.toNat)(hb:Bits u)(hz:∀k b,n<=k->u[k]? =some b->b=0)(za:Rw):∀(len k:Nat),k+len=u.length->
   q3l (q1e r taps rows ts n k len) za (endR (2^r.toNat) a (u.take k)) (u.drop k)=(atR za (endR (2^r.toNat) a u)).map λx=>((List.range' k len).map λj=>q3e (chunk taps rows ts j) (q2m r.toNat taps rows a u j)).sum+x
 | 0,k,h=>by
   have e1:u.take k=u:=List.take_of_length_le (by omega)
   rw[e1]
   show atR za _=_
   cases atR za (endR (2^r.toNat) a u)with
   |none=>rfl
   |some x=>simp
 | len+1,k,h=>by
   have lt:k<u.length:=by omega
   have ek:u[k]? =some u[k]:=jc lt
   have mp:(0:Int)<2^r.toNat:=Int.pow_pos (by decide)
   have hr:=q3n mp (u.take k) a ha
   rw[q4v,xv lt,q92,qgb hr.1 hr.2]
   have eb:((q42 n k).map λb=>mvK r taps rows ts k (endR (2^r.toNat) a (u.take k)) b)[u[k].toNat]? =some (mvK r taps rows ts k (endR (2^r.toNat) a (u.take k)) u[k]):=by
     unfold q42
     by_cases h1:k<n
     · rw[if_pos h1]
       rcases hb _ (xj lt)with z|z
       · rw[z];rfl
       · rw[z];rfl
     · have z:=hz k _ (by omega) ek
       rw[if_neg h1,z]
       rfl
   rw[eb]
   simp only
   have en:(mvK r taps rows ts k (endR (2^r.toNat) a (u.take k)) u[k]).1=endR (2^r.toNat) a (u.take (k+1)):=by
     rw[take_snoc ek,q77]
     show(2*_+u[k]) % _=_
     congr 1
     omega
   rw[en,q85 ha hb hz za len (k+1) (by omega),Option.map_map]
   have es:(mvK r taps rows ts k (endR (2^r.toNat) a (u.take k)) u[k]).2=q3e (chunk taps rows ts k) (q2m r.toNat taps rows a u k):=by
     unfold q2m
     rw[jq,ek]
     rfl
   rw[es,List.range'_succ,jw,List.sum_cons]
   congr 1
   funext x
   show _+(_+x)=_
   omega
theorem qg8{a b:List Told}{c d:List Int}(h:a.length=c.length):q3e (a++b) (c++d)=q3e a c+q3e b d:=by
 unfold q3e
 rw[List.zip_append h,ju,List.sum_append]
theorem qcf{a:Int}{u:List Int}{m:Nat}(k:Nat):(q2m m taps rows a u k).length=(selK taps rows k).length:=by
 unfold q2m
 rw[q6p,j6]
 rfl
theorem q3i(N:Nat):(q0g taps rows (N+1)).length=(q0g taps rows N).length+(selK taps rows N).length:=by
 unfold q0g
 rw[q1g,jd,ji]
theorem q9e{m:Nat}{a:Int}{u:List Int}:∀N,((List.range N).flatMap (q2m m taps rows a u)).length=(q0g taps rows N).length
 |0=>rfl
 |N+1=>by rw[q1g,jd,q9e N,qcf,q3i]
theorem q7r{m:Nat}{a:Int}{u:List Int}:∀N,(q0g taps rows N).length<=ts.length->q3e (ts.take (q0g taps rows N).length) ((List.range N).flatMap (q2m m taps rows a u))=((List.range' 0 N).map λj=>q3e (chunk taps rows ts j) (q2m m taps rows a u j)).sum
 |0,_=>rfl
 | N+1,h=>by
   rw[q3i]at h
   have e1:ts.take (q0g taps rows (N+1)).length=ts.take (q0g taps rows N).length++chunk taps rows ts N:=by
     rw[q3i,List.take_add]
     rfl
   rw[e1,q1g,qg8 (by rw[jz,q9e];omega),q7r N (by omega),List.range'_concat,ju,List.sum_append]
   simp
theorem qgt{a:Int}{u:List Int}(hl:ts.length=(q0g taps rows u.length).length):q3e ts (q8t r.toNat taps rows a u)=((List.range' 0 u.length).map λj=>q3e (chunk taps rows ts j) (q2m r.toNat taps rows a u j)).sum:=by
 have h:=q7r (ts:=ts) (taps:=taps) (rows:=rows) (m:=r.toNat) (a:=a) (u:=u) u.length (by omega)
 rw[List.take_of_length_le (by omega)]at h
 exact h
theorem q7h{w:List Int}(hw:w.length=n):∀k b,n<=k->(w++List.replicate (q09 r e) 0)[k]? =some b->b=0:=λk b hk h=>by
 rw[xk (by omega)]at h
 exact List.eq_of_mem_replicate (x9 h)
theorem qc6{s z9:Int}(h0:0<=z9)(h1:z9<2^r.toNat):atR (q4o r e s) z9=if e="open"∨z9=(if e="ring" then s else 0)then some 0 else none:=by
 have h4:=q3b (r:=r)
 have lt:z9.toNat<2^r.toNat:=by omega
 unfold atR q4o
 rw[jb,xr lt]
 simp only[Option.map_some,Option.join_some,Int.toNat_of_nonneg h0]
theorem qbw(hb:∀w:List Int,Bits w->0<=writ w/\writ w<2^w.length)(w:List Int)(hw:Bits w)(hl:e="ring"->r.toNat<=w.length):0<=frst r e w/\frst r e w<2^r.toNat:=by
 unfold frst
 by_cases h:e="ring"
 · rw[if_pos h]
   have hd:Bits (w.drop (w.length-r.toNat)):=λb m=>hw b (List.mem_of_mem_drop m)
   have:=hb _ hd
   rw[xl,show w.length-(w.length-r.toNat)=r.toNat from by have:=hl h;omega]at this
   exact this
 · rw[if_neg h]
   exact⟨Int.le_refl _,Int.pow_pos (by decide)⟩
theorem q8o{w:List Int}(hb:Bits w):Bits (w++List.replicate (q09 r e) 0):=q4n hb (q41 _)
theorem q6i{w:List Int}(hb:Bits w)(hw:w.length=n)(hl:e="ring"->r.toNat<=n)(hen:e="open"∨e="ended"∨e="ring")(ht:ts.length=(q0g taps rows (n+q09 r e)).length):
   q3l (q1e r taps rows ts n 0 (n+q09 r e)) (q4o r e (frst r e w)) (frst r e w) (w++List.replicate (q09 r e) 0)=some (q50 r taps rows e ts w):=by
 have hf:=qbw (r:=r) (e:=e) q45 w hb (by rw[hw];exact hl)
 have lu:(w++List.replicate (q09 r e) 0).length=n+q09 r e:=by rw[jd,ji,hw]
 have h:=q85 (r:=r) (taps:=taps) (rows:=rows) (ts:=ts) (n:=n) hf (q8o (r:=r) (e:=e) hb) (q7h hw) (q4o r e (frst r e w)) (n+q09 r e) 0 (by omega)
 have h':q3l (q1e r taps rows ts n 0 (n+q09 r e)) (q4o r e (frst r e w)) (frst r e w) (w++List.replicate (q09 r e) 0)=_:=h
 rw[h']
 have mp:(0:Int)<2^r.toNat:=Int.pow_pos (by decide)
 have he:=q3n mp (w++List.replicate (q09 r e) 0) _ hf
 rw[qc6 he.1 he.2,if_pos]
 · unfold q50
   rw[q38,qgt (by rw[lu];exact ht),lu]
   simp
 · rcases hen with h1|h1|h1
   · exact .inl h1
   · refine .inr ?_
     have h2:¬e="ring":=by rw[h1];decide
     have h3:q09 r e=r.toNat:=by unfold q09;rw[if_pos h1]
     rw[if_neg h2,h3]
     unfold frst
     rw[if_neg h2]
     exact qg4 r.toNat w
   · refine .inr ?_
     have h2:¬e="ended":=by rw[h1];decide
     have h3:q09 r e=0:=by unfold q09;rw[if_neg h2]
     rw[if_pos h1,h3]
     simp only[List.replicate_zero,List.append_nil]
     unfold frst
     rw[if_pos h1]
     exact qil r.toNat w hb (by rw[hw];exact hl h1)
theorem qaq:∀(m:Nat) (x:Int),0<=x->x<2^m->∃p:List Int,p.length=m/\Bits p/\writ p=x
 |0,x,h0,h1=>⟨[],rfl,λ_ h=>(nomatch h),by have:x<1:=h1;show(0:Int)=x;omega⟩
 | m+1,x,h0,h1=>by
   have h2:x / 2<2^m:=by rw[Int.pow_succ]at h1;omega
   obtain⟨p,p1,p2,p3⟩:=qaq m (x / 2) (by omega) h2
   refine⟨p++[x % 2],by rw[jd,p1];rfl,q4n p2 λb hb=>?_,by rw[q44,p3];omega⟩
   rw[List.mem_singleton.mp hb]
   omega
theorem qh5{w:List Int}{s:Int}(hb:Bits w)(hl:r.toNat<=w.length)(h0:0<=s)(h1:s<2^r.toNat)(h:endR (2^r.toNat) s w=s):writ (w.drop (w.length-r.toNat))=s:=by
 obtain⟨p,p1,p2,p3⟩:=qaq r.toNat s h0 h1
 have g:=qc0 r.toNat p w p1 p2 hb w.length (ja _)
 rw[List.take_length,p3,h]at g
 rw[g]
 congr 1
 have e1:(p++w).drop w.length=w.drop (w.length-r.toNat):=by
   rw[List.drop_append,List.drop_eq_nil_of_le (by omega),List.nil_append,p1]
 rw[e1,List.take_of_length_le (by rw[xl];omega)]
section
variable(r:Int)(taps:List Int)(rows:List (List Int))(e:Str)(ts:List Told)(n:Nat)
def q1d:List Int:=if e="ring" then(List.range (2^r.toNat)).map λ(k:Nat)=>(k:Int)else [0]
def q47(s:Int):List Rw:=q0e (q1e r taps rows ts n 0 (n+q09 r e)) (q4o r e s)
def bestOf(s:Int):Int×List Int:=((atR ((q47 r taps rows e ts n s).headD []) s).getD 0,q34 n (q1e r taps rows ts n 0 (n+q09 r e)) (q47 r taps rows e ts n s) s)
def q2j:Int×List Int:=q4e ((q1d r e).map (bestOf r taps rows e ts n))
end
theorem q54{s:Int}(h:s∈q1d r e):0<=s/\s<2^r.toNat:=by
 unfold q1d at h
 by_cases q:e="ring"
 · rw[if_pos q]at h
   obtain⟨k,hk,rfl⟩:=List.mem_map.mp h
   have:=List.mem_range.mp hk
   have h4:=q3b (r:=r)
   omega
 · rw[if_neg q]at h
   rw[List.mem_singleton.mp h]
   exact⟨Int.le_refl _,Int.pow_pos (by decide)⟩
theorem q5r{w:List Int}(hb:Bits w)(hl:e="ring"->r.toNat<=w.length):frst r e w∈q1d r e:=by
 have h:=qbw (r:=r) (e:=e) q45 w hb hl
 unfold q1d
 by_cases q:e="ring"
 · rw[if_pos q]
   have h4:=q3b (r:=r)
   exact List.mem_map.mpr ⟨(frst r e w).toNat,List.mem_range.mpr (by omega),Int.toNat_of_nonneg h.1⟩
 · rw[if_neg q]
   unfold frst
   rw[if_neg q]
   simp
theorem qcd{s:Int}(h:s∈q1d r e)(hl:e="ring"->r.toNat<=n):∃w:List Int,Bits w/\w.length=n/\frst r e w=s:=by
 have hs:=q54 h
 by_cases q:e="ring"
 · obtain⟨p,p1,p2,p3⟩:=qaq r.toNat s hs.1 hs.2
   have hn:=hl q
   refine⟨List.replicate (n-r.toNat) 0++p,q4n (q41 _) p2,by rw[jd,ji,p1];omega,?_⟩
   unfold frst
   rw[if_pos q,jd,ji,p1,List.drop_append,List.drop_eq_nil_of_le (by rw[ji];omega),List.nil_append,ji,
     show n-r.toNat+r.toNat-r.toNat-(n-r.toNat)=0 from by omega,List.drop_zero,p3]
 · unfold q1d at h
   rw[if_neg q]at h
   refine⟨List.replicate n 0,q41 _,ji,?_⟩
   unfold frst
   rw[if_neg q,List.mem_singleton.mp h]
theorem qev{w:List Int}{s c:Int}(hs:s∈q1d r e)(hb:Bits w)(hw:w.length=n)(hl:e="ring"->r.toNat<=n)(hen:e="open"∨e="ended"∨e="ring")(ht:ts.length=(q0g taps rows (n+q09 r e)).length)
   (h:q3l (q1e r taps rows ts n 0 (n+q09 r e)) (q4o r e s) s (w++List.replicate (q09 r e) 0)=some c):s=frst r e w/\c=q50 r taps rows e ts w:=by
 have h1:=q54 hs
 have es:s=frst r e w:=by
   by_cases q:e="ring"
   · have lu:(w++List.replicate (q09 r e) 0).length=n+q09 r e:=by rw[jd,ji,hw]
     have g:=q85 (r:=r) (taps:=taps) (rows:=rows) (ts:=ts) (n:=n) h1 (q8o (r:=r) (e:=e) hb) (q7h hw) (q4o r e s) (n+q09 r e) 0 (by omega)
     have g':q3l (q1e r taps rows ts n 0 (n+q09 r e)) (q4o r e s) s (w++List.replicate (q09 r e) 0)=_:=g
     rw[g']at h
     have mp:(0:Int)<2^r.toNat:=Int.pow_pos (by decide)
     have he:=q3n mp (w++List.replicate (q09 r e) 0) _ h1
     have h2:¬e="ended":=by rw[q];decide
     have h5:¬e="open":=by rw[q];decide
     have h3:q09 r e=0:=by unfold q09;rw[if_neg h2]
     rw[qc6 he.1 he.2]at h
     by_cases z:e="open"∨endR (2^r.toNat) s (w++List.replicate (q09 r e) 0)=(if e="ring" then s else 0)
     · rcases z with z|z
       · exact absurd z h5
       · rw[if_pos q,h3]at z
         simp only[List.replicate_zero,List.append_nil]at z
         unfold frst
         rw[if_pos q]
         exact(qh5 hb (by rw[hw];exact hl q) h1.1 h1.2 z).symm
     · rw[if_neg z]at h
       cases h
   · unfold q1d at hs
     rw[if_neg q]at hs
     unfold frst
     rw[if_neg q]
     exact List.mem_singleton.mp hs
 refine⟨es,?_⟩
 rw[es,q6i hb hw hl hen ht]at h
 exact(je h).symm
theorem q8l{s:Int}(hs:s∈q1d r e)(hl:e="ring"->r.toNat<=n)(hen:e="open"∨e="ended"∨e="ring")(ht:ts.length=(q0g taps rows (n+q09 r e)).length):
   atR ((q47 r taps rows e ts n s).headD []) s=some (bestOf r taps rows e ts n s).1/\Bits (bestOf r taps rows e ts n s).2/\(bestOf r taps rows e ts n s).2.length=n/\(bestOf r taps rows e ts n s).1=q50 r taps rows e ts (bestOf r taps rows e ts n s).2/\
   ∀w,Bits w->w.length=n->frst r e w=s->qLt (q50 r taps rows e ts w,w) (bestOf r taps rows e ts n s)=false:=by
 have h1:=q54 hs
 obtain⟨w0,b0,l0,f0⟩:=qcd hs hl
 have p0:=q6i (taps:=taps) (rows:=rows) b0 l0 hl hen ht
 rw[f0]at p0
 obtain⟨m,hm,_⟩:=q6f _ _ _ _ _ p0
 have hm:atR ((q47 r taps rows e ts n s).headD []) s=some m:=hm
 have e1:(bestOf r taps rows e ts n s).1=m:=by unfold bestOf;rw[hm];rfl
 have ls:(q1e r taps rows ts n 0 (n+q09 r e)).length=n+q09 r e:=by unfold q1e;rw[j6,List.length_range']
 have h4:=q3b (r:=r)
 obtain⟨g1,g2,g3,g4⟩:=q5c (2^r.toNat) (q1e r taps rows ts n 0 (n+q09 r e)) n (q4o r e s) s m (q58 (n:=n) (n+q09 r e) 0) (by rw[ls];omega) ⟨h1.1,by omega⟩ hm
 have ez:q4q ((q1e r taps rows ts n 0 (n+q09 r e)).length-n)=List.replicate (q09 r e) 0:=by rw[ls,Nat.add_sub_cancel_left];rfl
 rw[ez]at g3 g4
 obtain⟨_,c1⟩:=qev hs g1 g2 hl hen ht g3
 refine⟨by rw[hm,e1],g1,g2,by rw[e1,c1];rfl,λw hb hw hf=>?_⟩
 have pw:=q6i (taps:=taps) (rows:=rows) hb hw hl hen ht
 rw[hf]at pw
 obtain⟨m',hm',le⟩:=q6f _ _ _ _ _ pw
 have hm':atR ((q47 r taps rows e ts n s).headD []) s=some m':=hm'
 rw[hm]at hm'
 cases hm'
 unfold qLt q57
 simp only
 rw[e1]
 by_cases z:q50 r taps rows e ts w=m
 · rw[if_pos z]
   exact g4 w hb hw (by rw[pw,z])
 · rw[if_neg z]
   simp
   omega
theorem q88(hl:e="ring"->r.toNat<=n)(hen:e="open"∨e="ended"∨e="ring")(ht:ts.length=(q0g taps rows (n+q09 r e)).length):Near n (q50 r taps rows e ts) (q2j r taps rows e ts n):=by
 have hne:(q1d r e).map (bestOf r taps rows e ts n)≠[]:=by
   have h:=q5r (r:=r) (e:=e) (w:=List.replicate n 0) (q41 _) (by rw[ji];exact hl)
   intro z
   rw[List.map_eq_nil_iff.mp z]at h
   cases h
 obtain⟨h1,h2⟩:=q9c hne
 obtain⟨s,hs,es⟩:=List.mem_map.mp h1
 obtain⟨_,g1,g2,g3,_⟩:=q8l (ts:=ts) (taps:=taps) (rows:=rows) hs hl hen ht
 have es:bestOf r taps rows e ts n s=q2j r taps rows e ts n:=es
 rw[es]at g1 g2 g3
 refine⟨g1,g2,g3,λw hb hw=>?_⟩
 have hf:=q5r (r:=r) (e:=e) hb (by rw[hw];exact hl)
 obtain⟨_,_,_,_,g5⟩:=q8l (ts:=ts) (taps:=taps) (rows:=rows) hf hl hen ht
 exact qem (g5 w hb hw rfl) (h2 _ (List.mem_map.mpr ⟨_,hf,rfl⟩))
end
end L2
namespace L2
open PySem
def mvD(q:Mv):D:=.tup [.int q.1,.int q.2]
def chD(ch:List Mv):D:=.lst (ch.map mvD)
def sxD(st:Sx):D:=.lst (st.map chD)
def stD(z6:List Sx):D:=.lst (z6.map sxD)
def rwD(t:Rw):D:=.lst (t.map optI)
def tbD(t:List Rw):D:=.lst (t.map rwD)
def q62{α:Type}(c:List (List α))(q:Int×α):List (List α):=c.set q.1.toNat (c.getD q.1.toNat []++[q.2])
theorem qb7{α:Type}(j:Nat):∀(xs:List α) (c:List (List α)),j<c.length->((List.replicate xs.length (j:Int)).zip xs).foldl q62 c=c.set j (c.getD j []++xs)
 | [],c,h=>by
   have e:c.set j (c.getD j []++[])=c:=by
     rw[List.append_nil,jq,jc h]
     exact List.set_getElem_self h
   rw[e]
   rfl
 | x::xs,c,h=>by
   have e1:((List.replicate (x::xs).length (j:Int)).zip (x::xs))=((j:Int),x)::(List.replicate xs.length (j:Int)).zip xs:=rfl
   rw[e1,List.foldl_cons]
   have e2:q62 c ((j:Int),x)=c.set j (c.getD j []++[x]):=by unfold q62;simp only[Int.toNat_natCast]
   rw[e2,qb7 j xs _ (by rw[xm];exact h),List.set_set]
   congr 1
   rw[jq,x5 h]
   simp
theorem q7x{α β:Type}:∀{xs:List α} {ys zs:List β},xs.length=ys.length->xs.zip (ys++zs)=xs.zip ys
 |[],[],_,_=>rfl
 | x::xs,y::ys,zs,h=>by
   rw[List.cons_append,List.zip_cons_cons,List.zip_cons_cons,q7x (by simpa using h)]
 |[],_::_,_,h=>by simp at h
 |_::_,[],_,h=>by simp at h
section
variable{taps:List Int}{rows:List (List Int)}{ts:List Told}
theorem qb8(N:Nat):∀j,j<=N->(q0g taps rows j).length<=ts.length->((q0g taps rows j).zip ts).foldl q62 (List.replicate N [])=(List.range N).map λk=>if k<j then chunk taps rows ts k else []
 | 0,_,_=>by
   show List.replicate N []=_
   apply List.ext_getElem?
   intro i
   by_cases h:i<N
   · rw[jb,xr h,xx,if_pos h];simp
   · rw[xc (by simp;omega),xc (by simp;omega)]
 | j+1,hj,hl=>by
   rw[q3i]at hl
   have eP:q0g taps rows (j+1)=q0g taps rows j++List.replicate (selK taps rows j).length (j:Int):=q1g _ _
   have lc:(chunk taps rows ts j).length=(selK taps rows j).length:=by unfold chunk;rw[jz,xl];omega
   have eT:ts=ts.take (q0g taps rows j).length++(chunk taps rows ts j++(ts.drop (q0g taps rows j).length).drop (selK taps rows j).length):=by
     unfold chunk
     rw[List.take_append_drop,List.take_append_drop]
   have ez:(q0g taps rows (j+1)).zip ts=(q0g taps rows j).zip ts++(List.replicate (selK taps rows j).length (j:Int)).zip (chunk taps rows ts j):=by
     have h1:(q0g taps rows j).length=(ts.take (q0g taps rows j).length).length:=by rw[jz];omega
     have e1:(q0g taps rows j).zip ts=(q0g taps rows j).zip (ts.take (q0g taps rows j).length):=by
       have:=q7x (zs:=chunk taps rows ts j++(ts.drop (q0g taps rows j).length).drop (selK taps rows j).length) h1
       rw[<-eT]at this
       exact this
     rw[e1,eP]
     have:=List.zip_append (r₁:=List.replicate (selK taps rows j).length (j:Int)) (r₂:=chunk taps rows ts j++(ts.drop (q0g taps rows j).length).drop (selK taps rows j).length) h1
     rw[<-eT]at this
     rw[this,q7x (by rw[ji,lc])]
   rw[ez,List.foldl_append,qb8 N j (by omega) (by omega),<-lc,qb7 j _ _ (by simp;omega)]
   apply List.ext_getElem?
   intro i
   by_cases h:i<N
   · rw[jb,xr h]
     by_cases q:j=i
     · subst q
       rw[x5 (by simp;omega)]
       rw[jq,jb,xr h]
       simp
     · rw[jj q,jb,xr h]
       simp only[Option.map_some]
       congr 1
       by_cases z:i<j
       · rw[if_pos z,if_pos (by omega)]
       · rw[if_neg z,if_neg (by omega)]
   · rw[xc (by simp;omega),xc (by simp;omega)]
theorem qeo(N:Nat)(hl:(q0g taps rows N).length<=ts.length):((q0g taps rows N).zip ts).foldl q62 (List.replicate N [])=(List.range N).map (chunk taps rows ts):=by
 rw[qb8 N N (ja _) hl]
 refine List.map_congr_left λk hk=>?_
 rw[if_pos (List.mem_range.mp hk)]
end
theorem qan{i:Nat}{fg:RhG}{f:Fd}(d:D)(r:List D)(ρ:Rho)(dss:List (List D)):q5d i fg f (d::r) ρ dss=match fg d ρ with
   | some ρ1=>if isFree ρ1 i=true then(match f ρ1 dss with
     |some p=>q5d i fg f r p.1 p.2
     |none=>none)else none
   |none=>none:=rfl
theorem qb6{i a b:Nat}{fe:RhD}{fs:RhL}{α:Type}(dat obj:α->D)(ρ0:Option D->Option D->Rho)(hf:∀u v,isFree (ρ0 u v) i=true)
   (hg:∀(k:Int) (t:α) (u v:Option D),(q25 2 (q0q (gSet a) (q0q (gSet b) q27))) (.tup [.int k,dat t]) (ρ0 u v)=some (ρ0 (some (.int k)) (some (dat t))))
   (he:∀(k:Int) (t:α),fe (ρ0 (some (.int k)) (some (dat t)))=some (.int k,ρ0 (some (.int k)) (some (dat t)))) (hs:∀(k:Int) (t:α),fs (ρ0 (some (.int k)) (some (dat t)))=some ([obj t],ρ0 (some (.int k)) (some (dat t)))):
   ∀(zs:List (Int×α)) (c:List (List α)) (u v:Option D),(∀q∈zs,0<=q.1/\q.1.toNat<c.length)->(∀g∈c,g.length+zs.length<sizeLine)->∃u' v',q5d i (q25 2 (q0q (gSet a) (q0q (gSet b) q27))) (q4m i fe fs) (zs.map λq=>D.tup [.int q.1,dat q.2]) (ρ0 u v) (c.map λg=>g.map obj)=some (ρ0 u' v',(zs.foldl q62 c).map λg=>g.map obj)
 |[],c,u,v,_,_=>⟨u,v,rfl⟩
 | q::zs,c,u,v,hz,hc=>by
   obtain⟨z0,z1⟩:=hz q jf
   have hq:c[q.1.toNat]? =some c[q.1.toNat]:=jc z1
   have hp:q78 (c.map λg=>g.map obj) q.1 (obj q.2)=some ((q62 c q).map λg=>g.map obj):=by
     unfold q78
     rw[if_pos z0,jb,hq]
     simp only[Option.map_some]
     rw[if_pos (by rw[j6];have:=hc _ (xj z1);simp at this;omega)]
     unfold q62
     rw[List.map_set,jq,hq]
     simp
   obtain⟨u',v',h⟩:=qb6 (i:=i) (a:=a) (b:=b) (fe:=fe) (fs:=fs) dat obj ρ0 hf hg he hs zs (q62 c q) (some (.int q.1)) (some (dat q.2)) (λp hp=>by
     have:=hz p (jg _ hp)
     refine⟨this.1,?_⟩
     unfold q62
     rw[xm]
     exact this.2) (λg hg=>by
     unfold q62 at hg
     rcases List.mem_or_eq_of_mem_set hg with h1|h1
     · have:=hc g h1
       simp at this
       omega
     · rw[h1,jq,hq]
       have:=hc _ (xj z1)
       simp at this ⊢
       omega)
   refine⟨u',v',?_⟩
   have step:q4m i fe fs (ρ0 (some (.int q.1)) (some (dat q.2))) (c.map λg=>g.map obj)=some (ρ0 (some (.int q.1)) (some (dat q.2)),(q62 c q).map λg=>g.map obj):=by
     unfold q4m
     rw[he q.1 q.2]
     simp only[hf,if_true]
     rw[hs q.1 q.2]
     simp only[hf,if_true,hp,Option.map_some]
   rw[jw,List.foldl_cons,<-h,qan,hg q.1 q.2 u v]
   simp only[hf,if_true,step]
end L2
namespace K16
open PySem L2
local macro_rules|`(tactic|walk_at "ev")=>`(tactic|simp[runP,q14,qrb,q1z,qki,qrd,qre,qmj,qmi,qrh,qm6,qrk,qtl,qtn,qrf,qmo,qr7,qrg,qtm,qmq,qik,qmp,qr9,qg1,qr6,qmg,qtk,qg0,qm7,qm9,qme,qr8,qm8,qih,qig,qma,qij,qmb,qmd,qmc,qmm,q2l,ixO,blO,lsO,qfo,rng1,zip2,inO,q27,q0q,q25,dI2,dI0,dB0,dAdd,q32,dIx,dLen,dSum,q4u,dSeq,qg5,q5g,dNeg,dIsN,qdq,q1n,qlj,qbm,qq3,qlk,qf7,qq2,at0,at1,at2,at3,ixN,dEq,dNe,qg2,eqD_none,q5z,q5y,qlz,qri,qra,revO,qby,q9d,dIxK,qdr,optI,upsO,mMM,qmn,qrm,qii,tupO,qkj,qg6,qml,qrj,qmk,qrc,qfm, *])
local macro_rules|`(tactic|walk_at "sc")=>`(tactic|exact⟨rfl,rfl,rfl,by decide+kernel,rfl,by decide+kernel,by decide+kernel⟩)
local macro_rules|`(tactic|walk_at "lr")=>`(tactic|first|exact Or.inl rfl|exact Or.inr rfl)
def top(i:Nat):Stmt:=PySem.Challenge.pw_trellisway_k16_whole_turned_by_a_word.main.body.getD i (.Pass ⟨0,0,0,0⟩)
abbrev s_y0:Stmt:=top 5
theorem qsb:q0p ["reach"] ["reach"] (q04 s_y0):=by walk_at "sc"
abbrev s_y1:Stmt:=top 6
theorem qsa:q0p ["scheme"] ["scheme"] (q04 s_y1):=by walk_at "sc"
abbrev s_y2:Stmt:=top 7
theorem sc_y2:q0p ["number","left","odd"] ["number"] (q04 s_y2):=by walk_at "sc"
abbrev s_y3:Stmt:=top 8
theorem sc_y3:q0p ["scheme","room","bit","window","signs"] ["scheme","room","bit"] (q04 s_y3):=by walk_at "sc"
abbrev s_y4:Stmt:=top 9
theorem sc_y4:q0p ["scheme","number","signs","rows","row"] ["scheme","number","signs"] (q04 s_y4):=by walk_at "sc"
abbrev s_y5:Stmt:=top 11
theorem qs9:q0p ["scheme"] ["scheme"] (q04 s_y5):=by walk_at "sc"
abbrev s_y6:Stmt:=top 12
theorem qs8:q0p ["scheme","size"] ["scheme","size"] (q04 s_y6):=by walk_at "sc"
abbrev s_y7:Stmt:=top 13
theorem qs7:q0p ["scheme"] ["scheme"] (q04 s_y7):=by walk_at "sc"
abbrev s_y8:Stmt:=top 14
theorem qs6:q0p ["scheme","word"] ["scheme","word"] (q04 s_y8):=by walk_at "sc"
abbrev s_y9:Stmt:=top 15
theorem sc_y9:q0p ["scheme","word","room","bit"] ["scheme","word"] (q04 s_y9):=by walk_at "sc"
abbrev qd2:Stmt:=top 16
theorem qod:q0p ["scheme"] ["scheme"] (q04 qd2):=by walk_at "sc"
abbrev qd1:Stmt:=top 17
theorem sc_y11:q0p ["scheme","word","bits","way","bit"] ["scheme","word"] (q04 qd1):=by walk_at "sc"
abbrev qd0:Stmt:=top 18
theorem sc_y12:q0p ["scheme","word","way","found","number","bit","signs"] ["scheme","word"] (q04 qd0):=by walk_at "sc"
abbrev qcz:Stmt:=top 19
theorem qoc:q0p ["scheme","size"] ["scheme","size"] (q04 qcz):=by walk_at "sc"
abbrev qcy:Stmt:=top 20
theorem sc_y14:q0p ["scheme","size","signs","places","number"] ["scheme","size"] (q04 qcy):=by walk_at "sc"
abbrev qcx:Stmt:=inClass (top 23) 0
theorem qob:q0p ["self","bit"] ["self","bit"] (q04 qcx):=by walk_at "sc"
abbrev qcw:Stmt:=inClass (top 23) 2
theorem qoa:q0p ["self","bit"] ["self","bit"] (q04 qcw):=by walk_at "sc"
abbrev qcv:Stmt:=inClass (top 24) 1
theorem qo9:q0p ["self","bit"] ["self","bit"] (q04 qcv):=by walk_at "sc"
abbrev qcu:Stmt:=inClass (top 25) 0
theorem qo8:q0p ["self","zero","one"] ["self","zero","one"] (q04 qcu):=by walk_at "sc"
abbrev qct:Stmt:=inClass (top 25) 2
theorem qo7:q0p ["self","bit"] ["self","bit"] (q04 qct):=by walk_at "sc"
abbrev qcs:Stmt:=top 26
theorem qo6:q0p ["told"] ["told"] (q04 qcs):=by walk_at "sc"
abbrev qcr:Stmt:=top 28
theorem sc_y24:q0p ["scheme","size","heard","places"] ["scheme","size","heard"] (q04 qcr):=by walk_at "sc"
abbrev qa2:Stmt:=top 29
theorem qo5:q0p ["signs","bits"] ["signs","bits"] (q04 qa2):=by walk_at "sc"
abbrev qa1:Stmt:=top 30
theorem qo4:q0p ["scheme","word","heard"] ["scheme","word","heard"] (q04 qa1):=by walk_at "sc"
abbrev qa0:Stmt:=top 31
theorem sc_y27:q0p ["scheme","size","heard","found","number","told"] ["scheme","size","heard"] (q04 qa0):=by walk_at "sc"
abbrev qcq:Stmt:=top 32
theorem sc_y28:q0p ["scheme","number","signs","room","bit","led"] ["scheme","number","signs","room","bit"] (q04 qcq):=by walk_at "sc"
abbrev q9z:Stmt:=top 33
theorem qo3:q0p ["scheme","number","signs","room","bits"] ["scheme","number","signs","room","bits"] (q04 q9z):=by walk_at "sc"
abbrev q9y:Stmt:=top 34
theorem sc_y30:q0p ["scheme","size","heard","found","number","signs","bits"] ["scheme","size","heard"] (q04 q9y):=by walk_at "sc"
abbrev q9x:Stmt:=top 35
theorem sc_y31:q0p ["scheme","start","end"] ["scheme","start"] (q04 q9x):=by walk_at "sc"
abbrev qcp:Stmt:=top 36
theorem sc_y32:q0p ["taken","behind","rest"] ["taken","behind"] (q04 qcp):=by walk_at "sc"
abbrev q8y:Stmt:=top 37
theorem sc_y33:q0p ["choices","behind","found"] ["choices","behind"] (q04 q8y):=by walk_at "sc"
abbrev q9w:Stmt:=top 38
theorem sc_y34:q0p ["steps","ends","table","choices_by_room","behind"] ["steps","ends"] (q04 q9w):=by walk_at "sc"
abbrev qco:Stmt:=top 39
theorem sc_y35:q0p ["scheme","steps","tables","start"] ["scheme","steps"] (q04 qco):=by walk_at "sc"
abbrev qcn:Stmt:=top 41
theorem sc_y36:q0p ["start","steps","table","size","word","room","number","choices","bit"] ["start","steps","table","size"] (q04 qcn):=by walk_at "sc"
abbrev q9v:Stmt:=top 42
theorem sc_y37:q0p ["scheme","size","heard","steps","tables"] ["scheme","size","heard"] (q04 q9v):=by walk_at "sc"
abbrev qcm:Stmt:=top 44
theorem qo2:q0p ["_law_script","_law_k"] ["_law_script","_law_k"] (q04 qcm):=by walk_at "sc"
abbrev qcl:Stmt:=top 45
theorem sc_y39:q0p ["_law_cell","_law_many","_law_found","_law_number","_law_k"] ["_law_cell","_law_many"] (q04 qcl):=by walk_at "sc"
abbrev q8x:Stmt:=top 46
theorem sc_y40:q0p ["_law_x","_law_top","_law_xs","_law_ending","_law_reach","_law_taps","_law_rows","_law_y"] ["_law_x","_law_top"] (q04 q8x):=by walk_at "sc"
abbrev q9u:Stmt:=top 47
theorem sc_y41:q0p ["_law_scheme_here","_law_room","_law_bit","_law_window","_law_signs"] ["_law_scheme_here","_law_room","_law_bit"] (q04 q9u):=by walk_at "sc"
abbrev q9t:Stmt:=top 48
theorem sc_y42:q0p ["_law_scheme_here","_law_number","_law_signs","_law_row"] ["_law_scheme_here","_law_number","_law_signs"] (q04 q9t):=by walk_at "sc"
abbrev qck:Stmt:=top 49
theorem qo1:q0p ["_law_scheme_here","_law_size"] ["_law_scheme_here","_law_size"] (q04 qck):=by walk_at "sc"
abbrev q9s:Stmt:=top 50
theorem sc_y44:q0p ["_law_scheme_here","_law_size","_law_found","_law_number"] ["_law_scheme_here","_law_size"] (q04 q9s):=by walk_at "sc"
abbrev qcj:Stmt:=top 51
theorem sc_y45:q0p ["_law_scheme_here","_law_word","_law_room","_law_bit"] ["_law_scheme_here","_law_word"] (q04 qcj):=by walk_at "sc"
abbrev qci:Stmt:=top 52
theorem sc_y46:q0p ["_law_scheme_here","_law_word","_law_room","_law_found","_law_number","_law_signs"] ["_law_scheme_here","_law_word"] (q04 qci):=by walk_at "sc"
abbrev qch:Stmt:=top 53
theorem sc_y47:q0p ["_law_cell","_law_xs","_law_way","_law_great"] ["_law_cell"] (q04 qch):=by walk_at "sc"
abbrev q8w:Stmt:=top 54
theorem sc_y48:q0p ["_law_cells","_law_many","_law_x","_law_found"] ["_law_cells","_law_many","_law_x"] (q04 q8w):=by walk_at "sc"
abbrev qcg:Stmt:=top 55
theorem sc_y49:q0p ["_law_heard_here","_law_signs","_law_found","_law_told","_law_sign_here"] ["_law_heard_here","_law_signs"] (q04 qcg):=by walk_at "sc"
abbrev q9r:Stmt:=top 56
theorem qo0:q0p ["_law_one","_law_other"] ["_law_one","_law_other"] (q04 q9r):=by walk_at "sc"
abbrev qa3:Stmt:=top 57
theorem sc_law:q0p ["_law_script","_law_hs","_law_scheme_here","_law_size","_law_heard_here","_law_word","_law_others","_law_one","_law_other"] ["_law_script"] (q04 qa3):=by walk_at "sc"
structure Ad where
 c_Clear:Addr
 c_Gap:Addr
 c_Soft:Addr
 f_y0:Addr
 fd_y0:FuncData
 f_y1:Addr
 fd_y1:FuncData
 f_y2:Addr
 fd_y2:FuncData
 f_y3:Addr
 fd_y3:FuncData
 f_y4:Addr
 fd_y4:FuncData
 f_y5:Addr
 fd_y5:FuncData
 f_y6:Addr
 fd_y6:FuncData
 f_y7:Addr
 fd_y7:FuncData
 f_y8:Addr
 fd_y8:FuncData
 f_y9:Addr
 fd_y9:FuncData
 f_y10:Addr
 fd_y10:FuncData
 f_y11:Addr
 fd_y11:FuncData
 f_y12:Addr
 fd_y12:FuncData
 f_y13:Addr
 fd_y13:FuncData
 f_y14:Addr
 fd_y14:FuncData
 f_y15:Addr
 fd_y15:FuncData
 f_y17:Addr
 fd_y17:FuncData
 f_y19:Addr
 fd_y19:FuncData
 f_y20:Addr
 fd_y20:FuncData
 f_y22:Addr
 fd_y22:FuncData
 f_y23:Addr
 fd_y23:FuncData
 f_y24:Addr
 fd_y24:FuncData
 f_y25:Addr
 fd_y25:FuncData
 f_y26:Addr
 fd_y26:FuncData
 f_y27:Addr
 fd_y27:FuncData
 f_y28:Addr
 fd_y28:FuncData
 f_y29:Addr
 fd_y29:FuncData
 f_y30:Addr
 fd_y30:FuncData
 f_y31:Addr
 fd_y31:FuncData
 f_y32:Addr
 fd_y32:FuncData
 f_y33:Addr
 fd_y33:FuncData
 f_y34:Addr
 fd_y34:FuncData
 f_y35:Addr
 fd_y35:FuncData
 f_y36:Addr
 fd_y36:FuncData
 f_y37:Addr
 fd_y37:FuncData
 f_y38:Addr
 fd_y38:FuncData
 f_y39:Addr
 fd_y39:FuncData
 f_y40:Addr
 fd_y40:FuncData
 f_y41:Addr
 fd_y41:FuncData
 f_y42:Addr
 fd_y42:FuncData
 f_y43:Addr
 fd_y43:FuncData
 f_y44:Addr
 fd_y44:FuncData
 f_y45:Addr
 fd_y45:FuncData
 f_y46:Addr
 fd_y46:FuncData
 f_y47:Addr
 fd_y47:FuncData
 f_y48:Addr
 fd_y48:FuncData
 f_y49:Addr
 fd_y49:FuncData
 f_y50:Addr
 fd_y50:FuncData
 f_law:Addr
 fd_law:FuncData
structure Txt(K:PySem.W.Frag)(mg:Str->Option Value)(a:Ad):Prop where
 mg_Clear:mg "Clear"=some (.ref a.c_Clear)
 ns_Clear:PySem.W.nsIn K mainGlobals "Clear"=some (some (.ref a.c_Clear))
 cl_Clear:Cls K a.c_Clear
 no_Clear_bit:NoAttr K a.c_Clear "bit"
 mg_Gap:mg "Gap"=some (.ref a.c_Gap)
 ns_Gap:PySem.W.nsIn K mainGlobals "Gap"=some (some (.ref a.c_Gap))
 cl_Gap:Cls K a.c_Gap
 mg_Soft:mg "Soft"=some (.ref a.c_Soft)
 ns_Soft:PySem.W.nsIn K mainGlobals "Soft"=some (some (.ref a.c_Soft))
 cl_Soft:Cls K a.c_Soft
 no_Soft_zero:NoAttr K a.c_Soft "zero"
 no_Soft_one:NoAttr K a.c_Soft "one"
 F_y0:Fun K "rooms_at" "rooms_at" s_y0 a.f_y0 a.fd_y0
 B_y0:Binds K a.fd_y0 ["reach"] []
 mg_y0:mg "rooms_at"=some (.ref a.f_y0)
 kp_y0:PySem.W.keepIn K (.ref a.f_y0)=true
 F_y1:Fun K "rooms" "rooms" s_y1 a.f_y1 a.fd_y1
 B_y1:Binds K a.fd_y1 ["scheme"] []
 mg_y1:mg "rooms"=some (.ref a.f_y1)
 kp_y1:PySem.W.keepIn K (.ref a.f_y1)=true
 F_y2:Fun K "parity" "parity" s_y2 a.f_y2 a.fd_y2
 B_y2:Binds K a.fd_y2 ["number"] []
 mg_y2:mg "parity"=some (.ref a.f_y2)
 kp_y2:PySem.W.keepIn K (.ref a.f_y2)=true
 F_y3:Fun K "step" "step" s_y3 a.f_y3 a.fd_y3
 B_y3:Binds K a.fd_y3 ["scheme","room","bit"] []
 mg_y3:mg "step"=some (.ref a.f_y3)
 kp_y3:PySem.W.keepIn K (.ref a.f_y3)=true
 F_y4:Fun K "sent_at" "sent_at" s_y4 a.f_y4 a.fd_y4
 B_y4:Binds K a.fd_y4 ["scheme","number","signs"] []
 mg_y4:mg "sent_at"=some (.ref a.f_y4)
 kp_y4:PySem.W.keepIn K (.ref a.f_y4)=true
 F_y5:Fun K "is_ring" "is_ring" s_y5 a.f_y5 a.fd_y5
 B_y5:Binds K a.fd_y5 ["scheme"] []
 mg_y5:mg "is_ring"=some (.ref a.f_y5)
 kp_y5:PySem.W.keepIn K (.ref a.f_y5)=true
 F_y6:Fun K "check_size" "check_size" s_y6 a.f_y6 a.fd_y6
 B_y6:Binds K a.fd_y6 ["scheme","size"] []
 mg_y6:mg "check_size"=some (.ref a.f_y6)
 kp_y6:PySem.W.keepIn K (.ref a.f_y6)=true
 F_y7:Fun K "bits_behind" "bits_behind" s_y7 a.f_y7 a.fd_y7
 B_y7:Binds K a.fd_y7 ["scheme"] []
 mg_y7:mg "bits_behind"=some (.ref a.f_y7)
 kp_y7:PySem.W.keepIn K (.ref a.f_y7)=true
 F_y8:Fun K "bits_of" "bits_of" s_y8 a.f_y8 a.fd_y8
 B_y8:Binds K a.fd_y8 ["scheme","word"] []
 mg_y8:mg "bits_of"=some (.ref a.f_y8)
 kp_y8:PySem.W.keepIn K (.ref a.f_y8)=true
 F_y9:Fun K "first_room" "first_room" s_y9 a.f_y9 a.fd_y9
 B_y9:Binds K a.fd_y9 ["scheme","word"] []
 mg_y9:mg "first_room"=some (.ref a.f_y9)
 kp_y9:PySem.W.keepIn K (.ref a.f_y9)=true
 F_y10:Fun K "first_rooms" "first_rooms" qd2 a.f_y10 a.fd_y10
 B_y10:Binds K a.fd_y10 ["scheme"] []
 mg_y10:mg "first_rooms"=some (.ref a.f_y10)
 kp_y10:PySem.W.keepIn K (.ref a.f_y10)=true
 F_y11:Fun K "rooms_of" "rooms_of" qd1 a.f_y11 a.fd_y11
 B_y11:Binds K a.fd_y11 ["scheme","word"] []
 mg_y11:mg "rooms_of"=some (.ref a.f_y11)
 kp_y11:PySem.W.keepIn K (.ref a.f_y11)=true
 F_y12:Fun K "sent" "sent" qd0 a.f_y12 a.fd_y12
 B_y12:Binds K a.fd_y12 ["scheme","word"] []
 mg_y12:mg "sent"=some (.ref a.f_y12)
 kp_y12:PySem.W.keepIn K (.ref a.f_y12)=true
 F_y13:Fun K "steps_of" "steps_of" qcz a.f_y13 a.fd_y13
 B_y13:Binds K a.fd_y13 ["scheme","size"] []
 mg_y13:mg "steps_of"=some (.ref a.f_y13)
 kp_y13:PySem.W.keepIn K (.ref a.f_y13)=true
 F_y14:Fun K "places_of" "places_of" qcy a.f_y14 a.fd_y14
 B_y14:Binds K a.fd_y14 ["scheme","size"] []
 mg_y14:mg "places_of"=some (.ref a.f_y14)
 kp_y14:PySem.W.keepIn K (.ref a.f_y14)=true
 F_y15:Fun K "__init__" "Clear.__init__" qcx a.f_y15 a.fd_y15
 B_y15:Binds K a.fd_y15 ["self","bit"] []
 F_y17:Fun K "cost" "Clear.cost" qcw a.f_y17 a.fd_y17
 B_y17:Binds K a.fd_y17 ["self","bit"] []
 m_y17:Meth K a.c_Clear "cost" a.f_y17
 F_y19:Fun K "cost" "Gap.cost" qcv a.f_y19 a.fd_y19
 B_y19:Binds K a.fd_y19 ["self","bit"] []
 m_y19:Meth K a.c_Gap "cost" a.f_y19
 F_y20:Fun K "__init__" "Soft.__init__" qcu a.f_y20 a.fd_y20
 B_y20:Binds K a.fd_y20 ["self","zero","one"] []
 F_y22:Fun K "cost" "Soft.cost" qct a.f_y22 a.fd_y22
 B_y22:Binds K a.fd_y22 ["self","bit"] []
 m_y22:Meth K a.c_Soft "cost" a.f_y22
 F_y23:Fun K "sign_of" "sign_of" qcs a.f_y23 a.fd_y23
 B_y23:Binds K a.fd_y23 ["told"] []
 mg_y23:mg "sign_of"=some (.ref a.f_y23)
 kp_y23:PySem.W.keepIn K (.ref a.f_y23)=true
 F_y24:Fun K "check_heard" "check_heard" qcr a.f_y24 a.fd_y24
 B_y24:Binds K a.fd_y24 ["scheme","size","heard"] []
 mg_y24:mg "check_heard"=some (.ref a.f_y24)
 kp_y24:PySem.W.keepIn K (.ref a.f_y24)=true
 F_y25:Fun K "signs_cost" "signs_cost" qa2 a.f_y25 a.fd_y25
 B_y25:Binds K a.fd_y25 ["signs","bits"] []
 mg_y25:mg "signs_cost"=some (.ref a.f_y25)
 kp_y25:PySem.W.keepIn K (.ref a.f_y25)=true
 F_y26:Fun K "cost" "cost" qa1 a.f_y26 a.fd_y26
 B_y26:Binds K a.fd_y26 ["scheme","word","heard"] []
 mg_y26:mg "cost"=some (.ref a.f_y26)
 kp_y26:PySem.W.keepIn K (.ref a.f_y26)=true
 F_y27:Fun K "signs_by_step" "signs_by_step" qa0 a.f_y27 a.fd_y27
 B_y27:Binds K a.fd_y27 ["scheme","size","heard"] []
 mg_y27:mg "signs_by_step"=some (.ref a.f_y27)
 kp_y27:PySem.W.keepIn K (.ref a.f_y27)=true
 F_y28:Fun K "move" "move" qcq a.f_y28 a.fd_y28
 B_y28:Binds K a.fd_y28 ["scheme","number","signs","room","bit"] []
 mg_y28:mg "move"=some (.ref a.f_y28)
 kp_y28:PySem.W.keepIn K (.ref a.f_y28)=true
 F_y29:Fun K "moves_from" "moves_from" q9z a.f_y29 a.fd_y29
 B_y29:Binds K a.fd_y29 ["scheme","number","signs","room","bits"] []
 mg_y29:mg "moves_from"=some (.ref a.f_y29)
 kp_y29:PySem.W.keepIn K (.ref a.f_y29)=true
 F_y30:Fun K "moves" "moves" q9y a.f_y30 a.fd_y30
 B_y30:Binds K a.fd_y30 ["scheme","size","heard"] []
 mg_y30:mg "moves"=some (.ref a.f_y30)
 kp_y30:PySem.W.keepIn K (.ref a.f_y30)=true
 F_y31:Fun K "end_costs" "end_costs" q9x a.f_y31 a.fd_y31
 B_y31:Binds K a.fd_y31 ["scheme","start"] []
 mg_y31:mg "end_costs"=some (.ref a.f_y31)
 kp_y31:PySem.W.keepIn K (.ref a.f_y31)=true
 F_y32:Fun K "cost_by" "cost_by" qcp a.f_y32 a.fd_y32
 B_y32:Binds K a.fd_y32 ["taken","behind"] []
 mg_y32:mg "cost_by"=some (.ref a.f_y32)
 kp_y32:PySem.W.keepIn K (.ref a.f_y32)=true
 F_y33:Fun K "least_by" "least_by" q8y a.f_y33 a.fd_y33
 B_y33:Binds K a.fd_y33 ["choices","behind"] []
 mg_y33:mg "least_by"=some (.ref a.f_y33)
 kp_y33:PySem.W.keepIn K (.ref a.f_y33)=true
 F_y34:Fun K "ahead_by" "ahead_by" q9w a.f_y34 a.fd_y34
 B_y34:Binds K a.fd_y34 ["steps","ends"] []
 mg_y34:mg "ahead_by"=some (.ref a.f_y34)
 kp_y34:PySem.W.keepIn K (.ref a.f_y34)=true
 F_y35:Fun K "ahead_by_start" "ahead_by_start" qco a.f_y35 a.fd_y35
 B_y35:Binds K a.fd_y35 ["scheme","steps"] []
 mg_y35:mg "ahead_by_start"=some (.ref a.f_y35)
 kp_y35:PySem.W.keepIn K (.ref a.f_y35)=true
 F_y36:Fun K "nearest_from" "nearest_from" qcn a.f_y36 a.fd_y36
 B_y36:Binds K a.fd_y36 ["start","steps","table","size"] []
 mg_y36:mg "nearest_from"=some (.ref a.f_y36)
 kp_y36:PySem.W.keepIn K (.ref a.f_y36)=true
 F_y37:Fun K "nearest" "nearest" q9v a.f_y37 a.fd_y37
 B_y37:Binds K a.fd_y37 ["scheme","size","heard"] []
 mg_y37:mg "nearest"=some (.ref a.f_y37)
 kp_y37:PySem.W.keepIn K (.ref a.f_y37)=true
 F_y38:Fun K "_law_cell_at" "_law_cell_at" qcm a.f_y38 a.fd_y38
 B_y38:Binds K a.fd_y38 ["_law_script","_law_k"] []
 mg_y38:mg "_law_cell_at"=some (.ref a.f_y38)
 kp_y38:PySem.W.keepIn K (.ref a.f_y38)=true
 F_y39:Fun K "_law_mixed" "_law_mixed" qcl a.f_y39 a.fd_y39
 B_y39:Binds K a.fd_y39 ["_law_cell","_law_many"] []
 mg_y39:mg "_law_mixed"=some (.ref a.f_y39)
 kp_y39:PySem.W.keepIn K (.ref a.f_y39)=true
 F_y40:Fun K "_law_scheme" "_law_scheme" q8x a.f_y40 a.fd_y40
 B_y40:Binds K a.fd_y40 ["_law_x","_law_top"] []
 mg_y40:mg "_law_scheme"=some (.ref a.f_y40)
 kp_y40:PySem.W.keepIn K (.ref a.f_y40)=true
 F_y41:Fun K "_law_step" "_law_step" q9u a.f_y41 a.fd_y41
 B_y41:Binds K a.fd_y41 ["_law_scheme_here","_law_room","_law_bit"] []
 mg_y41:mg "_law_step"=some (.ref a.f_y41)
 kp_y41:PySem.W.keepIn K (.ref a.f_y41)=true
 F_y42:Fun K "_law_sent_at" "_law_sent_at" q9t a.f_y42 a.fd_y42
 B_y42:Binds K a.fd_y42 ["_law_scheme_here","_law_number","_law_signs"] []
 mg_y42:mg "_law_sent_at"=some (.ref a.f_y42)
 kp_y42:PySem.W.keepIn K (.ref a.f_y42)=true
 F_y43:Fun K "_law_steps" "_law_steps" qck a.f_y43 a.fd_y43
 B_y43:Binds K a.fd_y43 ["_law_scheme_here","_law_size"] []
 mg_y43:mg "_law_steps"=some (.ref a.f_y43)
 kp_y43:PySem.W.keepIn K (.ref a.f_y43)=true
 F_y44:Fun K "_law_places" "_law_places" q9s a.f_y44 a.fd_y44
 B_y44:Binds K a.fd_y44 ["_law_scheme_here","_law_size"] []
 mg_y44:mg "_law_places"=some (.ref a.f_y44)
 kp_y44:PySem.W.keepIn K (.ref a.f_y44)=true
 F_y45:Fun K "_law_start" "_law_start" qcj a.f_y45 a.fd_y45
 B_y45:Binds K a.fd_y45 ["_law_scheme_here","_law_word"] []
 mg_y45:mg "_law_start"=some (.ref a.f_y45)
 kp_y45:PySem.W.keepIn K (.ref a.f_y45)=true
 F_y46:Fun K "_law_sent" "_law_sent" qci a.f_y46 a.fd_y46
 B_y46:Binds K a.fd_y46 ["_law_scheme_here","_law_word"] []
 mg_y46:mg "_law_sent"=some (.ref a.f_y46)
 kp_y46:PySem.W.keepIn K (.ref a.f_y46)=true
 F_y47:Fun K "_law_sign" "_law_sign" qch a.f_y47 a.fd_y47
 B_y47:Binds K a.fd_y47 ["_law_cell"] []
 mg_y47:mg "_law_sign"=some (.ref a.f_y47)
 kp_y47:PySem.W.keepIn K (.ref a.f_y47)=true
 F_y48:Fun K "_law_heard" "_law_heard" q8w a.f_y48 a.fd_y48
 B_y48:Binds K a.fd_y48 ["_law_cells","_law_many","_law_x"] []
 mg_y48:mg "_law_heard"=some (.ref a.f_y48)
 kp_y48:PySem.W.keepIn K (.ref a.f_y48)=true
 F_y49:Fun K "_law_turned" "_law_turned" qcg a.f_y49 a.fd_y49
 B_y49:Binds K a.fd_y49 ["_law_heard_here","_law_signs"] []
 mg_y49:mg "_law_turned"=some (.ref a.f_y49)
 kp_y49:PySem.W.keepIn K (.ref a.f_y49)=true
 F_y50:Fun K "_law_added" "_law_added" q9r a.f_y50 a.fd_y50
 B_y50:Binds K a.fd_y50 ["_law_one","_law_other"] []
 mg_y50:mg "_law_added"=some (.ref a.f_y50)
 kp_y50:PySem.W.keepIn K (.ref a.f_y50)=true
 F_law:Fun K "law" "law" qa3 a.f_law a.fd_law
 B_law:Binds K a.fd_law ["_law_script"] []
 mg_law:mg "law"=some (.ref a.f_law)
 kp_law:PySem.W.keepIn K (.ref a.f_law)=true
 mk_Clear:Mk K a.c_Clear a.f_y15
 mk_Gap:MkN K a.c_Gap
 mk_Soft:Mk K a.c_Soft a.f_y20
 z_enumerate:mg "enumerate"=none
 z_len:mg "len"=none
 z_list:mg "list"=none
 z_max:mg "max"=none
 z_min:mg "min"=none
 z_range:mg "range"=none
 z_reversed:mg "reversed"=none
 z_sum:mg "sum"=none
 z_tuple:mg "tuple"=none
 z_zip:mg "zip"=none
section
variable{P:Program}{w:World}{K:PySem.W.Frag}{mg:Str->Option Value}{base:Heap}{a:Ad}
def b_y0:RhO:=
 (sRet (mOp2 dShl (mRet (.int 1)) (mVar 0)))
def f_y0:List D->Option D:=runP false 1 1 b_y0
theorem n_y0:q1j 1 f_y0:=q16
theorem qsp(T:Txt K mg a):FnOk P w K mg base CX0 1 a.f_y0 a.fd_y0 ["reach"] (spP K false 1 f_y0):=by
 refine T.F_y0.ok qsb (λ_ _ _ _ h=>h.1) (λcdv A outer s H vs Q E hr h=>?_)
 · refine⟨_,(q0b (q0z (q0x qf2 q06 (pv 0)))),?_⟩
   exact q0j (O':=[]) (Nms:=["reach"]) (f:=b_y0) (by
     unfold b_y0
     exact(q1b rfl (q0d qf9 me_int (q03 (i:=0))) rfl)) h
def b_y1:RhO:=
 (sRet (q0k f_y0 (q01 (mOp2 dIx (mVar 0) (mRet (.int 0))) mNil)))
def f_y1:List D->Option D:=runP false 1 1 b_y1
theorem n_y1:q1j 1 f_y1:=q16
theorem qhu(T:Txt K mg a):FnOk P w K mg base CX0 2 a.f_y1 a.fd_y1 ["scheme"] (spP K false 1 f_y1):=by
 have G_y0:=qsp (P:=P) (w:=w) (base:=base) T
 refine T.F_y1.ok qsa (λ_ _ _ _ h=>h.1) (λcdv A outer s H vs Q E hr h=>?_)
 · refine⟨_,(q0b (q0z (q0f G_y0 hr.m (by rfl) T.mg_y0 T.kp_y0 T.B_y0 .nil q10 (q00 (q0w (q0a (K:=K) rfl) (pv 0) q06) q05)))),?_⟩
   exact q0j (O':=[]) (Nms:=["scheme"]) (f:=b_y1) (by
     unfold b_y1
     exact(q1b rfl (q0h n_y0 (q02 (q0d q0y (q03 (i:=0)) me_int) q08)) rfl)) h
def b_y2:RhO:=
 (sSeq (sSet 1 (mVar 0))
 (sSeq (sSet 2 (mRet (.int 0)))
 (sSeq (q2v (q11 (mOp2 dGt (mVar 1) (mRet (.int 0))))
   (sSeq (sSet 2 (mOp2 dXor (mVar 2) (mOp2 dAnd (mVar 1) (mRet (.int 1)))))
 (sSet 1 (mOp2 dDiv (mVar 1) (mRet (.int 2))))) 1000)
 (sRet (mVar 2)))))
def f_y2:List D->Option D:=runP false 1 3 b_y2
theorem n_y2:q1j 1 f_y2:=q16
theorem qso(T:Txt K mg a):FnOk P w K mg base CX0 1 a.f_y2 a.fd_y2 ["number"] (spP K false 1 f_y2):=by
 refine T.F_y2.ok sc_y2 (λ_ _ _ _ h=>h.1) (λcdv A outer s H vs Q E hr h=>?_)
 · refine⟨_,(q07 (q0t (i:=1) sc_y2.nd rfl (by walk_at "lr") (pv 0)) (q07 (q0t (i:=2) sc_y2.nd rfl (by walk_at "lr") q06) (q07 (qhh xf (q18 qsm (pv 1) q06 (q1k _)) (q07 (q0t (i:=2) sc_y2.nd rfl (by walk_at "lr") (q0x qju (pv 2) (q0x q95 (pv 1) q06))) (q0b (q0t (i:=1) sc_y2.nd rfl (by walk_at "lr") (q0x qf6 (pv 1) q06))))) (q0b (q0z (pv 2)))))),?_⟩
   exact q0j (O':=[]) (Nms:=["number","left","odd"]) (f:=b_y2) (by
     unfold b_y2
     exact(q0i (O1:=[]) (q12 (q03 (i:=0))) (q0i (O1:=[]) (q12 me_int) (q0i (O1:=[]) (qhx (O':=[]) (q19 (q1l qd9 (q03 (i:=1)) me_int.mb)) rfl (q0i (O1:=[]) (q12 (q0d qk5 (q03 (i:=2)) (q0d q96 (q03 (i:=1)) me_int))) (q12 (q0d qk8 (q03 (i:=1)) me_int)))) (q1b rfl (q03 (i:=2)) rfl))))) h
def b_y3:RhO:=
 (sSeq (sSet 3 (mOp2 dAdd (mOp2 q32 (mRet (.int 2)) (mVar 1)) (mVar 2)))
 (sSeq (sSet 4 (mOf (q21 1 [3] none (mSeq (mOp2 dIx (mVar 0) (mRet (.int 1)))) (gSet 0) (mRet true) (q0k f_y2 (q01 (mOp2 dAnd (mVar 1) (mVar 0)) mNil)))))
 (sRet (mTup (q01 (mOp2 dMod (mVar 3) (q0k f_y1 (q01 (mVar 0) mNil))) (q01 (mOp1 q4u (mVar 4)) mNil))))))
def f_y3:List D->Option D:=runP false 3 5 b_y3
theorem n_y3:q1j 3 f_y3:=q16
theorem qht(T:Txt K mg a):FnOk P w K mg base CX0 3 a.f_y3 a.fd_y3 ["scheme","room","bit"] (spP K false 3 f_y3):=by
 have G_y2:=qso (P:=P) (w:=w) (base:=base) T
 have G_y1:=qhu (P:=P) (w:=w) (base:=base) T
 refine T.F_y3.ok sc_y3 (λ_ _ _ _ h=>h.1) (λcdv A outer s H vs Q E hr h=>?_)
 · refine⟨_,(q07 (q0t (i:=3) sc_y3.nd rfl (by walk_at "lr") (q0x (q20 (K:=K) rfl) (q0x (q30 (K:=K) rfl) q06 (pv 1)) (pv 2))) (q07 (q6n (k:=4) (sc:=q04 s_y3) (N0:=["scheme","room","bit","window","signs"]) rfl rfl rfl (show q1w _ _ ["tap","window"] 1 [3] _=true by decide+kernel) sc_y3.nd rfl (Or.inl rfl) (q26 (K:=K) rfl (q0w (q0a (K:=K) rfl) (pv 0) q06)) (λ_ _ _ _ _=>(q0s (i:=0) (show List.Nodup (["tap","window"]:List Str)from(by decide+kernel)) rfl (Or.inl rfl))) (q1q (by decide)) (λ_ _ _ _ _=>q24) (λ_ _ _ _ _=>(q0f G_y2 hr.m (by rfl) T.mg_y2 T.kp_y2 T.B_y2 .nil q10 (q00 (q0x q95 (pv 1) (pv 0)) q05)))) (q0b (q0z (q3o (q00 (q0x q2a (pv 3) (q0f G_y1 hr.m (by rfl) T.mg_y1 T.kp_y1 T.B_y1 .nil q10 (q00 (pv 0) q05))) (q00 (q3p (q3f (K:=K) rfl) (by rfl) T.z_tuple (by rfl) (q00 (pv 4) q05)) q05))))))),?_⟩
   exact q0j (O':=[]) (Nms:=["scheme","room","bit","window","signs"]) (f:=b_y3) (by
     unfold b_y3
     exact(q0i (O1:=[]) (q12 (q0d q2s (q0d q31 me_int (q03 (i:=1))) (q03 (i:=2)))) (q0i (O1:=[]) (q6t (q1x (bw:=none) (q2y (q0d q0y (q03 (i:=0)) me_int)) (q0u (i:=0)) q2w (q0h n_y2 (q02 (q0d q96 (q03 (i:=1)) (q03 (i:=0))) q08))) rfl (by decide)) (q1b rfl (q3q (q02 (q0d q2c (q03 (i:=3)) (q0h n_y1 (q02 (q03 (i:=0)) q08))) (q02 (q4l q5i (q03 (i:=4))) q08))) rfl)))) h
def b_y4:RhO:=
 (sSeq (sSet 3 (mOp2 dIx (mVar 0) (mRet (.int 2))))
 (sSeq (sSet 4 (mOp2 dIx (mVar 3) (mOp2 dMod (mVar 1) (mOp1 dLen (mVar 3)))))
 (sRet (mOp1 q4u (mOf (q21 2 [] none (mZip (q01 (mVar 2) (q01 (mVar 4) mNil))) (q25 2 (q0q (gSet 0) (q0q (gSet 1) q27))) (q11 (mOp2 dEq (mVar 1) (mRet (.int 1)))) (mVar 0)))))))
def f_y4:List D->Option D:=runP false 3 5 b_y4
theorem n_y4:q1j 3 f_y4:=q16
theorem qli(T:Txt K mg a):FnOk P w K mg base CX0 1 a.f_y4 a.fd_y4 ["scheme","number","signs"] (spP K false 3 f_y4):=by
 refine T.F_y4.ok sc_y4 (λ_ _ _ _ h=>h.1) (λcdv A outer s H vs Q E hr h=>?_)
 · refine⟨_,(q07 (q0t (i:=3) sc_y4.nd rfl (by walk_at "lr") (q0w (q0a (K:=K) rfl) (pv 0) q06)) (q07 (q0t (i:=4) sc_y4.nd rfl (by walk_at "lr") (q0w (q0a (K:=K) rfl) (pv 3) (q0x q2a (pv 1) (q1h (q1o (K:=K) rfl) (by rfl) T.z_len (by rfl) (q00 (pv 3) q05))))) (q0b (q0z (q3p (q3f (K:=K) rfl) (by rfl) T.z_tuple (by rfl) (q00 (q2f (sc:=q04 s_y4) (N0:=["scheme","number","signs","rows","row"]) rfl rfl rfl (show q1w _ _ ["sign","chosen"] 2 [] _=true by decide+kernel) (q5n (K:=K) rfl (by rfl) T.z_zip (q00 (pv 2) (q00 (pv 4) q05))) (λ_ _ _ _ _=>(q3x (K:=K) rfl rfl (q1p (q0s (i:=0) (show List.Nodup (["sign","chosen"]:List Str)from(by decide+kernel)) rfl (Or.inl rfl)) (q1p (q0s (i:=1) (show List.Nodup (["sign","chosen"]:List Str)from(by decide+kernel)) rfl (Or.inl rfl)) q3w)))) (q6c (by decide) (by decide)) (λ_ _ _ _ _=>(q84 (q18 (q2b (K:=K) rfl hr.units) (pv 1) q06 (q1k _)))) (λ_ _ _ _ _=>(pv 0))) q05)))))),?_⟩
   exact q0j (O':=[]) (Nms:=["scheme","number","signs","rows","row"]) (f:=b_y4) (by
     unfold b_y4
     exact(q0i (O1:=[]) (q12 (q0d q0y (q03 (i:=0)) me_int)) (q0i (O1:=[]) (q12 (q0d q0y (q03 (i:=3)) (q0d q2c (q03 (i:=1)) (q1v q3d q3r)))) (q1b rfl (q4l q5i (q1c (q1x (bw:=none) (q7o (q02 (q03 (i:=2)) (q02 (q03 (i:=4)) q08))) (q59 (q1r (q0u (i:=0)) (q1r (q0u (i:=1)) q3y))) (q19 (q1l os_eq (q03 (i:=1)) me_int.mb)) (q03 (i:=0))))) rfl)))) h
def b_y5:RhO:=
 (sRet (mOp2 dEq (mOp2 dIx (mVar 0) (mRet (.int 3))) (mRet (.str "ring"))))
def f_y5:List D->Option D:=runP false 1 1 b_y5
theorem n_y5:q1j 1 f_y5:=q16
theorem qhs(T:Txt K mg a):FnOk P w K mg base CX0 1 a.f_y5 a.fd_y5 ["scheme"] (spP K false 1 f_y5):=by
 refine T.F_y5.ok qs9 (λ_ _ _ _ h=>h.1) (λcdv A outer s H vs Q E hr h=>?_)
 · refine⟨_,(q0b (q0z (qeu (q2b (K:=K) rfl hr.units) (q0w (q0a (K:=K) rfl) (pv 0) q06) q2h (q1k _)))),?_⟩
   exact q0j (O':=[]) (Nms:=["scheme"]) (f:=b_y5) (by
     unfold b_y5
     exact(q1b rfl (q1l os_eq (q0d q0y (q03 (i:=0)) me_int) me_str.mb) rfl)) h
def b_y6:RhO:=
 (sIf (mAnd (q11 (q0k f_y5 (q01 (mVar 0) mNil))) (q11 (mOp2 dLt (mVar 1) (mOp2 dIx (mVar 0) (mRet (.int 0))))))
   (λ_=>none)
   sNil)
def f_y6:List D->Option D:=runP false 2 2 b_y6
theorem n_y6:q1j 2 f_y6:=q16
theorem qp6(T:Txt K mg a):FnOk P w K mg base CX0 2 a.f_y6 a.fd_y6 ["scheme","size"] (spP K false 2 f_y6):=by
 have G_y5:=qhs (P:=P) (w:=w) (base:=base) T
 refine T.F_y6.ok qs8 (λ_ _ _ _ h=>h.1) (λcdv A outer s H vs Q E hr h=>?_)
 · refine⟨_,(q0b (q48 (PW.pt (pw_and (qb9 (q0f G_y5 hr.m (by rfl) T.mg_y5 T.kp_y5 T.B_y5 .nil q10 (q00 (pv 0) q05))) (pw_and1 (q18 qf5 (pv 1) (q0w (q0a (K:=K) rfl) (pv 0) q06) (q1k _))))) (q0b qba) q2d)),?_⟩
   exact q0j (O':=[]) (Nms:=["scheme","size"]) (f:=b_y6) (by
     unfold b_y6
     exact(q4c (qfd (qbo (q0h n_y5 (q02 (q03 (i:=0)) q08))) (q19 (q1l qd9 (q03 (i:=1)) (q0d q0y (q03 (i:=0)) me_int).mb))) qbp (q33 rfl))) h
def b_y7:RhO:=
 (sRet (mIf (q11 (mOp2 dEq (mOp2 dIx (mVar 0) (mRet (.int 3))) (mRet (.str "ended")))) (mOp2 dIx (mVar 0) (mRet (.int 0))) (mRet (.int 0))))
def f_y7:List D->Option D:=runP false 1 1 b_y7
theorem n_y7:q1j 1 f_y7:=q16
theorem qp5(T:Txt K mg a):FnOk P w K mg base CX0 1 a.f_y7 a.fd_y7 ["scheme"] (spP K false 1 f_y7):=by
 refine T.F_y7.ok qs7 (λ_ _ _ _ h=>h.1) (λcdv A outer s H vs Q E hr h=>?_)
 · refine⟨_,(q0b (q0z (q36 (q18 (q2b (K:=K) rfl hr.units) (q0w (q0a (K:=K) rfl) (pv 0) q06) q2h (q1k _)) (q0w (q0a (K:=K) rfl) (pv 0) q06) q06))),?_⟩
   exact q0j (O':=[]) (Nms:=["scheme"]) (f:=b_y7) (by
     unfold b_y7
     exact(q1b rfl (q99 (q19 (q1l os_eq (q0d q0y (q03 (i:=0)) me_int) me_str.mb)) (q0d q0y (q03 (i:=0)) me_int) me_int) rfl)) h
def b_y8:RhO:=
 (sSeq (q81 (q0k f_y6 (q01 (mVar 0) (q01 (mOp1 dLen (mVar 1)) mNil))))
 (q7e (qfl qg6 (mOf (qdh dSeq (mVar 1))) (mOf (mRep (mLst (q01 (mRet (.int 0)) mNil)) (q0k f_y7 (q01 (mVar 0) mNil)))))))
def f_y8:List D->Option D:=runP true 2 2 b_y8
theorem n_y8:q1j 2 f_y8:=q16
theorem qp4(T:Txt K mg a):FnOk P w K mg base CX0 3 a.f_y8 a.fd_y8 ["scheme","word"] (spP K true 2 f_y8):=by
 have G_y6:=qp6 (P:=P) (w:=w) (base:=base) T
 have G_y7:=qp5 (P:=P) (w:=w) (base:=base) T
 refine T.F_y8.ok qs6 (λ_ _ _ _ h=>h.1) (λcdv A outer s H vs Q E hr h=>?_)
 · refine⟨_,(q07 (q2e (q0f G_y6 hr.m (by rfl) T.mg_y6 T.kp_y6 T.B_y6 .nil q10 (q00 (pv 0) (q00 (q1h (q1o (K:=K) rfl) (by rfl) T.z_len (by rfl) (q00 (pv 1) q05)) q05)))) (q0b (q0z (q0x (q20 (K:=K) rfl) (q3p (qdv (K:=K) rfl) (by rfl) T.z_list (by rfl) (q00 (pv 1) q05)) (q0x qbk (q2i (q00 q06 q05)) (q0f G_y7 hr.m (by rfl) T.mg_y7 T.kp_y7 T.B_y7 .nil q10 (q00 (pv 0) q05))))))),?_⟩
   exact q0j (O':=[]) (Nms:=["scheme","word"]) (f:=b_y8) (by
     unfold b_y8
     exact(q0i (O1:=[]) (q89 (q0h n_y6 (q02 (q03 (i:=0)) (q02 (q1v q3d q3r) q08))) rfl) (q6u rfl (qqk qjx (q1c (qhy qmu (q03 (i:=1)))) (q1c (qbq (q2p (q02 me_int q08)) (q0h n_y7 (q02 (q03 (i:=0)) q08))))) rfl))) h
def b_y9:RhO:=
 (sSeq (sSet 2 (mRet (.int 0)))
 (sSeq (sIf (q11 (q0k f_y5 (q01 (mVar 0) mNil)))
   (sFor (mSeq (mSl (mVar 1) (q66 (mOp2 dSub (mOp1 dLen (mVar 1)) (mOp2 dIx (mVar 0) (mRet (.int 0))))) (mRet none))) (gSet 3)
   (sSet 2 (mOp2 dAdd (mOp2 q32 (mRet (.int 2)) (mVar 2)) (mVar 3))))
   sNil)
 (sRet (mVar 2))))
def f_y9:List D->Option D:=runP false 2 4 b_y9
theorem n_y9:q1j 2 f_y9:=q16
theorem qsn(T:Txt K mg a):FnOk P w K mg base CX0 2 a.f_y9 a.fd_y9 ["scheme","word"] (spP K false 2 f_y9):=by
 have G_y5:=qhs (P:=P) (w:=w) (base:=base) T
 refine T.F_y9.ok sc_y9 (λ_ _ _ _ h=>h.1) (λcdv A outer s H vs Q E hr h=>?_)
 · refine⟨_,(q07 (q0t (i:=2) sc_y9.nd rfl (by walk_at "lr") q06) (q07 (q48 (qb9 (q0f G_y5 hr.m (by rfl) T.mg_y5 T.kp_y5 T.B_y5 .nil q10 (q00 (pv 0) q05))) (q0b (q3a xf rfl (q26 (K:=K) rfl (q4j (q5l (K:=K) rfl) (pv 1) (q4a (q0x q4r (q1h (q1o (K:=K) rfl) (by rfl) T.z_len (by rfl) (q00 (pv 1) q05)) (q0w (q0a (K:=K) rfl) (pv 0) q06))) q83)) (q0s (i:=3) sc_y9.nd rfl (by walk_at "lr")) (q0b (q0t (i:=2) sc_y9.nd rfl (by walk_at "lr") (q0x (q20 (K:=K) rfl) (q0x (q30 (K:=K) rfl) q06 (pv 2)) (pv 3)))))) q2d) (q0b (q0z (pv 2))))),?_⟩
   exact q0j (O':=[]) (Nms:=["scheme","word","room","bit"]) (f:=b_y9) (by
     unfold b_y9
     exact(q0i (O1:=[]) (q12 me_int) (q0i (O1:=[]) (q4c (qbo (q0h n_y5 (q02 (q03 (i:=0)) q08))) (q3j (O':=[]) (q2y (q4k (q03 (i:=1)) (q4d (q0d q4s (q1v q3d q3r) (q0d q0y (q03 (i:=0)) me_int))) q8a)) rfl (q0u (i:=3)) (q12 (q0d q2s (q0d q31 me_int (q03 (i:=2))) (q03 (i:=3))))) (q33 rfl)) (q1b rfl (q03 (i:=2)) rfl)))) h
def qgn:RhO:=
 (q7e (mIfL (q11 (q0k f_y5 (q01 (mVar 0) mNil))) (qdh upsO (q0k f_y1 (q01 (mVar 0) mNil))) (mLst (q01 (mRet (.int 0)) mNil))))
def f_y10:List D->Option D:=runP true 1 1 qgn
theorem qtc:q1j 1 f_y10:=q16
theorem qq0(T:Txt K mg a):FnOk P w K mg base CX0 3 a.f_y10 a.fd_y10 ["scheme"] (spP K true 1 f_y10):=by
 have G_y5:=qhs (P:=P) (w:=w) (base:=base) T
 have G_y1:=qhu (P:=P) (w:=w) (base:=base) T
 refine T.F_y10.ok qod (λ_ _ _ _ h=>h.1) (λcdv A outer s H vs Q E hr h=>?_)
 · refine⟨_,(q0b (q0z (q36 (qb9 (q0f G_y5 hr.m (by rfl) T.mg_y5 T.kp_y5 T.B_y5 .nil q10 (q00 (pv 0) q05))) (ql3 rfl (by rfl) T.z_list (by rfl) T.z_range (q0f G_y1 hr.m (by rfl) T.mg_y1 T.kp_y1 T.B_y1 .nil q10 (q00 (pv 0) q05))) (q2i (q00 q06 q05))))),?_⟩
   exact q0j (O':=[]) (Nms:=["scheme"]) (f:=qgn) (by
     unfold qgn
     exact(q6u rfl (qte (qbo (q0h n_y5 (q02 (q03 (i:=0)) q08))) (qlt (q0h n_y1 (q02 (q03 (i:=0)) q08))) (q2p (q02 me_int q08))) rfl)) h
def qjg:RhO:=
 (sSeq (sSet 2 (mOf (q1i f_y8 (q01 (mVar 0) (q01 (mVar 1) mNil)))))
 (sSeq (sOwn 3 (mLst (q01 (q0k f_y9 (q01 (mVar 0) (q01 (mVar 1) mNil))) mNil)))
 (sSeq (sFor (mSeq (mVar 2)) (gSet 4)
   (sMut q1n 3 (q01 (mOp2 dIx (q0k f_y3 (q01 (mVar 0) (q01 (mIxO 3 (mOp1 dNeg (mRet (.int 1)))) (q01 (mVar 4) mNil)))) (mRet (.int 0))) mNil)))
 (q55 3))))
def f_y11:List D->Option D:=runP true 2 5 qjg
theorem qtb:q1j 2 f_y11:=q16
theorem qpz(T:Txt K mg a):FnOk P w K mg base CX0 4 a.f_y11 a.fd_y11 ["scheme","word"] (spP K true 2 f_y11):=by
 have G_y8:=qp4 (P:=P) (w:=w) (base:=base) T
 have G_y9:=qsn (P:=P) (w:=w) (base:=base) T
 have G_y3:=qht (P:=P) (w:=w) (base:=base) T
 refine T.F_y11.ok sc_y11 (λ_ _ _ _ h=>h.1) (λcdv A outer s H vs Q E hr h=>?_)
 · refine⟨_,(q07 (q0t (i:=2) sc_y11.nd rfl (by walk_at "lr") (q0f G_y8 hr.m (by rfl) T.mg_y8 T.kp_y8 T.B_y8 .nil q10 (q00 (pv 0) (q00 (pv 1) q05)))) (q07 (q0t (i:=3) sc_y11.nd rfl (by walk_at "lr") (q2i (q00 (q0f G_y9 hr.m (by rfl) T.mg_y9 T.kp_y9 T.B_y9 .nil q10 (q00 (pv 0) (q00 (pv 1) q05))) q05))) (q07 (q3a xf rfl (q26 (K:=K) rfl (pv 2)) (q0s (i:=4) sc_y11.nd rfl (by walk_at "lr")) (q0b (q2e (q63 PySem.F.plainAttrs_list PySem.F.slot_list_append PySem.F.type_list_append q2x (pv 3) (q00 (q0w (q0a (K:=K) rfl) (q0f G_y3 hr.m (by rfl) T.mg_y3 T.kp_y3 T.B_y3 .nil q10 (q00 (pv 0) (q00 (q0w (q0a (K:=K) rfl) (pv 3) (qow qji q06)) (q00 (pv 4) q05)))) q06) q05))))) (q0b (q0z (pv 3)))))),?_⟩
   exact q0j (O':=[]) (Nms:=["scheme","word","bits","way","bit"]) (f:=qjg) (by
     unfold qjg
     exact(q0i (O1:=[]) (q12 (q1c (q1m n_y8 (q02 (q03 (i:=0)) (q02 (q03 (i:=1)) q08))))) (q0i (O1:=[3]) (q4b (q2p (q02 (q0h n_y9 (q02 (q03 (i:=0)) (q02 (q03 (i:=1)) q08))) q08)) rfl) (q0i (O1:=[3]) (q3j (O':=[3]) (q2y (q03 (i:=2))) rfl (q0u (i:=4)) (q6v q3c (by decide) (q02 (q0d q0y (q0h n_y3 (q02 (q03 (i:=0)) (q02 (qkd (i:=3) (by decide) (qkc me_int)) (q02 (q03 (i:=4)) q08)))) me_int) q08) rfl)) (q4w rfl (by first|decide|simp) rfl (by first|decide|simp)))))) h
def qjf:RhO:=
 (sSeq (sSet 2 (mOf (q1i f_y11 (q01 (mVar 0) (q01 (mVar 1) mNil)))))
 (sSeq (sOwn 3 (mLst mNil))
 (sSeq (sFor (qdi (mOf (q1i f_y8 (q01 (mVar 0) (q01 (mVar 1) mNil))))) (q25 2 (q0q (gSet 4) (q0q (gSet 5) q27)))
   (sSeq (sSet 6 (mOp2 dIx (q0k f_y3 (q01 (mVar 0) (q01 (mOp2 dIx (mVar 2) (mVar 4)) (q01 (mVar 5) mNil)))) (mRet (.int 1))))
 (qd3 3 (q0k f_y4 (q01 (mVar 0) (q01 (mVar 4) (q01 (mVar 6) mNil)))))))
 (q55 3))))
def f_y12:List D->Option D:=runP true 2 7 qjf
theorem qta:q1j 2 f_y12:=q16
theorem qpy(T:Txt K mg a):FnOk P w K mg base CX0 5 a.f_y12 a.fd_y12 ["scheme","word"] (spP K true 2 f_y12):=by
 have G_y11:=qpz (P:=P) (w:=w) (base:=base) T
 have G_y8:=qp4 (P:=P) (w:=w) (base:=base) T
 have G_y3:=qht (P:=P) (w:=w) (base:=base) T
 have G_y4:=qli (P:=P) (w:=w) (base:=base) T
 refine T.F_y12.ok sc_y12 (λ_ _ _ _ h=>h.1) (λcdv A outer s H vs Q E hr h=>?_)
 · refine⟨_,(q07 (q0t (i:=2) sc_y12.nd rfl (by walk_at "lr") (q0f G_y11 hr.m (by rfl) T.mg_y11 T.kp_y11 T.B_y11 .nil q10 (q00 (pv 0) (q00 (pv 1) q05)))) (q07 (q0t (i:=3) sc_y12.nd rfl (by walk_at "lr") (q2i q05)) (q07 (q3a xf rfl (qes (K:=K) rfl (by rfl) T.z_enumerate (q0f G_y8 hr.m (by rfl) T.mg_y8 T.kp_y8 T.B_y8 .nil q10 (q00 (pv 0) (q00 (pv 1) q05)))) (q3x (K:=K) rfl rfl (q1p (q0s (i:=4) sc_y12.nd rfl (by walk_at "lr")) (q1p (q0s (i:=5) sc_y12.nd rfl (by walk_at "lr")) q3w))) (q07 (q0t (i:=6) sc_y12.nd rfl (by walk_at "lr") (q0w (q0a (K:=K) rfl) (q0f G_y3 hr.m (by rfl) T.mg_y3 T.kp_y3 T.B_y3 .nil q10 (q00 (pv 0) (q00 (q0w (q0a (K:=K) rfl) (pv 2) (pv 4)) (q00 (pv 5) q05)))) q06)) (q0b (q2e (q63 PySem.F.plainAttrs_list PySem.F.slot_list_extend PySem.F.type_list_extend (qdc (K:=K) rfl) (pv 3) (q00 (q0f G_y4 hr.m (by rfl) T.mg_y4 T.kp_y4 T.B_y4 .nil q10 (q00 (pv 0) (q00 (pv 4) (q00 (pv 6) q05)))) q05)))))) (q0b (q0z (pv 3)))))),?_⟩
   exact q0j (O':=[]) (Nms:=["scheme","word","way","found","number","bit","signs"]) (f:=qjf) (by
     unfold qjf
     exact(q0i (O1:=[]) (q12 (q1c (q1m qtb (q02 (q03 (i:=0)) (q02 (q03 (i:=1)) q08))))) (q0i (O1:=[3]) (q4b (q2p q08) rfl) (q0i (O1:=[3]) (q3j (O':=[3]) (qfh (q1c (q1m n_y8 (q02 (q03 (i:=0)) (q02 (q03 (i:=1)) q08))))) rfl (q59 (q1r (q0u (i:=4)) (q1r (q0u (i:=5)) q3y))) (q0i (O1:=[3]) (q12 (q0d q0y (q0h n_y3 (q02 (q03 (i:=0)) (q02 (q0d q0y (q03 (i:=2)) (q03 (i:=4))) (q02 (q03 (i:=5)) q08)))) me_int)) (qls (by decide) (q0h n_y4 (q02 (q03 (i:=0)) (q02 (q03 (i:=4)) (q02 (q03 (i:=6)) q08)))) rfl))) (q4w rfl (by first|decide|simp) rfl (by first|decide|simp)))))) h
def qje:RhO:=
 (sSeq (q81 (q0k f_y6 (q01 (mVar 0) (q01 (mVar 1) mNil))))
 (sRet (mOp2 dAdd (mVar 1) (q0k f_y7 (q01 (mVar 0) mNil)))))
def f_y13:List D->Option D:=runP false 2 2 qje
theorem qqh:q1j 2 f_y13:=q16
theorem qk4(T:Txt K mg a):FnOk P w K mg base CX0 3 a.f_y13 a.fd_y13 ["scheme","size"] (spP K false 2 f_y13):=by
 have G_y6:=qp6 (P:=P) (w:=w) (base:=base) T
 have G_y7:=qp5 (P:=P) (w:=w) (base:=base) T
 refine T.F_y13.ok qoc (λ_ _ _ _ h=>h.1) (λcdv A outer s H vs Q E hr h=>?_)
 · refine⟨_,(q07 (q2e (q0f G_y6 hr.m (by rfl) T.mg_y6 T.kp_y6 T.B_y6 .nil q10 (q00 (pv 0) (q00 (pv 1) q05)))) (q0b (q0z (q0x (q20 (K:=K) rfl) (pv 1) (q0f G_y7 hr.m (by rfl) T.mg_y7 T.kp_y7 T.B_y7 .nil q10 (q00 (pv 0) q05)))))),?_⟩
   exact q0j (O':=[]) (Nms:=["scheme","size"]) (f:=qje) (by
     unfold qje
     exact(q0i (O1:=[]) (q89 (q0h n_y6 (q02 (q03 (i:=0)) (q02 (q03 (i:=1)) q08))) rfl) (q1b rfl (q0d q2s (q03 (i:=1)) (q0h n_y7 (q02 (q03 (i:=0)) q08))) rfl))) h
def qjd:RhO:=
 (sSeq (sSet 2 (mOp2 dIx (q0k f_y3 (q01 (mVar 0) (q01 (mRet (.int 0)) (q01 (mRet (.int 0)) mNil)))) (mRet (.int 1))))
 (sSeq (sOwn 3 (mLst mNil))
 (sSeq (sFor (q37 (q01 (q0k f_y13 (q01 (mVar 0) (q01 (mVar 1) mNil))) mNil)) (gSet 4)
   (sExt 3 (mRep (mLst (q01 (mVar 4) mNil)) (mOp1 dLen (q0k f_y4 (q01 (mVar 0) (q01 (mVar 4) (q01 (mVar 2) mNil))))))))
 (q55 3))))
def f_y14:List D->Option D:=runP true 2 5 qjd
theorem qqg:q1j 2 f_y14:=q16
theorem qk3(T:Txt K mg a):FnOk P w K mg base CX0 4 a.f_y14 a.fd_y14 ["scheme","size"] (spP K true 2 f_y14):=by
 have G_y3:=qht (P:=P) (w:=w) (base:=base) T
 have G_y13:=qk4 (P:=P) (w:=w) (base:=base) T
 have G_y4:=qli (P:=P) (w:=w) (base:=base) T
 refine T.F_y14.ok sc_y14 (λ_ _ _ _ h=>h.1) (λcdv A outer s H vs Q E hr h=>?_)
 · refine⟨_,(q07 (q0t (i:=2) sc_y14.nd rfl (by walk_at "lr") (q0w (q0a (K:=K) rfl) (q0f G_y3 hr.m (by rfl) T.mg_y3 T.kp_y3 T.B_y3 .nil q10 (q00 (pv 0) (q00 q06 (q00 q06 q05)))) q06)) (q07 (q0t (i:=3) sc_y14.nd rfl (by walk_at "lr") (q2i q05)) (q07 (q3a xf rfl (q2g (by rfl) T.z_range (q00 (q0f G_y13 hr.m (by rfl) T.mg_y13 T.kp_y13 T.B_y13 .nil q10 (q00 (pv 0) (q00 (pv 1) q05))) q05)) (q0s (i:=4) sc_y14.nd rfl (by walk_at "lr")) (q0b (q2e (q63 PySem.F.plainAttrs_list PySem.F.slot_list_extend PySem.F.type_list_extend q6r (pv 3) (q00 (q0x qbk (q2i (q00 (pv 4) q05)) (q1h (q1o (K:=K) rfl) (by rfl) T.z_len (by rfl) (q00 (q0f G_y4 hr.m (by rfl) T.mg_y4 T.kp_y4 T.B_y4 .nil q10 (q00 (pv 0) (q00 (pv 4) (q00 (pv 2) q05)))) q05))) q05))))) (q0b (q0z (pv 3)))))),?_⟩
   exact q0j (O':=[]) (Nms:=["scheme","size","signs","places","number"]) (f:=qjd) (by
     unfold qjd
     exact(q0i (O1:=[]) (q12 (q0d q0y (q0h n_y3 (q02 (q03 (i:=0)) (q02 me_int (q02 me_int q08)))) me_int)) (q0i (O1:=[3]) (q4b (q2p q08) rfl) (q0i (O1:=[3]) (q3j (O':=[3]) (q2k (q02 (q0h qqh (q02 (q03 (i:=0)) (q02 (q03 (i:=1)) q08))) q08)) rfl (q0u (i:=4)) (qfe (by decide) (qbq (q2p (q02 (q03 (i:=4)) q08)) (q1v q3d (q0h n_y4 (q02 (q03 (i:=0)) (q02 (q03 (i:=4)) (q02 (q03 (i:=2)) q08)))).mb)) rfl)) (q4w rfl (by first|decide|simp) rfl (by first|decide|simp)))))) h
theorem qpx(T:Txt K mg a):FnOk P w K mg base CX0 1 a.f_y15 a.fd_y15 ["self","bit"] (qeb a.c_Clear ["bit"]):=by
 refine T.F_y15.ok qob (λvs H Q E h=>?_) (λcdv A outer s H vs Q E hr h=>?_)
 · obtain⟨x,dx,args,rfl,hl,_⟩:=h
   exact congrArg Nat.succ hl
 · obtain⟨x,dx,args,rfl,hl,hx,k⟩:=h
   match args,hl,k with
   | [b0],_,k=>
     refine⟨_,(q0b (qep (pv 0) (pv 1) rfl)),?_⟩
     refine⟨_,rfl,_,rfl,x,_,dx,_,rfl,hx,T.cl_Clear,T.no_Clear_bit,(by show 0<1000;decide),?_⟩
     exact k
def qjc:RhO:=
 (sRet (mIf (q11 (mOp2 dEq (mVar 1) (mFld "Clear" "bit" (mVar 0)))) (mRet (.int 0)) (mRet (.int 1))))
def f_y17:List D->Option D:=runP false 2 2 qjc
theorem qt9:q1j 2 f_y17:=q16
theorem qpw(T:Txt K mg a):FnOk P w K mg base CX0 1 a.f_y17 a.fd_y17 ["self","bit"] (spP K false 2 f_y17):=by
 refine T.F_y17.ok qoa (λ_ _ _ _ h=>h.1) (λcdv A outer s H vs Q E hr h=>?_)
 · refine⟨_,(q0b (q0z (q36 (q18 (q2b (K:=K) rfl hr.units) (pv 1) (qac (K:=K) rfl (pv 0) rfl) (q1k _)) q06 q06))),?_⟩
   exact q0j (O':=[]) (Nms:=["self","bit"]) (f:=qjc) (by
     unfold qjc
     exact(q1b rfl (q99 (q19 (q1l os_eq (q03 (i:=1)) (qfj T.ns_Clear T.cl_Clear T.no_Clear_bit (q03 (i:=0))).mb)) me_int me_int) rfl)) h
def qjb:RhO:=
 (sRet (mRet (.int 0)))
def f_y19:List D->Option D:=runP false 2 2 qjb
theorem qt8:q1j 2 f_y19:=q16
theorem qpv(T:Txt K mg a):FnOk P w K mg base CX0 1 a.f_y19 a.fd_y19 ["self","bit"] (spP K false 2 f_y19):=by
 refine T.F_y19.ok qo9 (λ_ _ _ _ h=>h.1) (λcdv A outer s H vs Q E hr h=>?_)
 · refine⟨_,(q0b (q0z q06)),?_⟩
   exact q0j (O':=[]) (Nms:=["self","bit"]) (f:=qjb) (by
     unfold qjb
     exact(q1b rfl me_int rfl)) h
theorem qpu(T:Txt K mg a):FnOk P w K mg base CX0 1 a.f_y20 a.fd_y20 ["self","zero","one"] (qeb a.c_Soft ["zero","one"]):=by
 refine T.F_y20.ok qo8 (λvs H Q E h=>?_) (λcdv A outer s H vs Q E hr h=>?_)
 · obtain⟨x,dx,args,rfl,hl,_⟩:=h
   exact congrArg Nat.succ hl
 · obtain⟨x,dx,args,rfl,hl,hx,k⟩:=h
   match args,hl,k with
   | [b0,b1],_,k=>
     refine⟨_,(q07 (qep (pv 0) (pv 1) rfl) (q0b (qep (pv 0) (pv 2) rfl))),?_⟩
     refine⟨_,rfl,_,rfl,x,_,dx,_,rfl,hx,T.cl_Soft,T.no_Soft_zero,(by show 0<1000;decide),?_⟩
     refine⟨_,rfl,_,rfl,x,_,dx,_,rfl,q0r,T.cl_Soft,T.no_Soft_one,(by show 1<1000;decide),?_⟩
     rw[qe4]
     have e:(putF "one" b1 (putF "zero" b0 []))=([("zero",b0),("one",b1)]:List (Str×V)):=by
       have hne:¬(("zero":Str)="one"):=by decide+kernel
       simp[putF,hne]
     rw[e]
     exact k
def qja:RhO:=
 (sRet (mIf (q11 (mOp2 dEq (mVar 1) (mRet (.int 1)))) (mFld "Soft" "one" (mVar 0)) (mFld "Soft" "zero" (mVar 0))))
def f_y22:List D->Option D:=runP false 2 2 qja
theorem qt7:q1j 2 f_y22:=q16
theorem qpt(T:Txt K mg a):FnOk P w K mg base CX0 1 a.f_y22 a.fd_y22 ["self","bit"] (spP K false 2 f_y22):=by
 refine T.F_y22.ok qo7 (λ_ _ _ _ h=>h.1) (λcdv A outer s H vs Q E hr h=>?_)
 · refine⟨_,(q0b (q0z (q36 (q18 (q2b (K:=K) rfl hr.units) (pv 1) q06 (q1k _)) (qac (K:=K) rfl (pv 0) rfl) (qac (K:=K) rfl (pv 0) rfl)))),?_⟩
   exact q0j (O':=[]) (Nms:=["self","bit"]) (f:=qja) (by
     unfold qja
     exact(q1b rfl (q99 (q19 (q1l os_eq (q03 (i:=1)) me_int.mb)) (qfj T.ns_Soft T.cl_Soft T.no_Soft_one (q03 (i:=0))) (qfj T.ns_Soft T.cl_Soft T.no_Soft_zero (q03 (i:=0)))) rfl)) h
def qj9:RhO:=
 (sSeq (sIf (q11 (mOp2 dEq (mOp2 dIx (mVar 0) (mRet (.int 0))) (mRet (.str "clear"))))
   (sRet (qfn "Clear" ["bit"] (q01 (mOp2 dIx (mVar 0) (mRet (.int 1))) mNil)))
   sNil)
 (sSeq (sIf (q11 (mOp2 dEq (mOp2 dIx (mVar 0) (mRet (.int 0))) (mRet (.str "gap"))))
   (sRet (qfm "Gap"))
   sNil)
 (sRet (qfn "Soft" ["zero","one"] (q01 (mOp2 dIx (mVar 0) (mRet (.int 1))) (q01 (mOp2 dIx (mVar 0) (mRet (.int 2))) mNil))))))
def f_y23:List D->Option D:=runP false 1 1 qj9
theorem qqf:q1j 1 f_y23:=q16
theorem qk2(T:Txt K mg a):FnOk P w K mg base CX0 3 a.f_y23 a.fd_y23 ["told"] (spP K false 1 f_y23):=by
 have G_y15:=qpx (P:=P) (w:=w) (base:=base) T
 have G_y20:=qpu (P:=P) (w:=w) (base:=base) T
 refine T.F_y23.ok qo6 (λ_ _ _ _ h=>h.1) (λcdv A outer s H vs Q E hr h=>?_)
 · refine⟨_,(q07 (q48 (q18 (q2b (K:=K) rfl hr.units) (q0w (q0a (K:=K) rfl) (pv 0) q06) q2h (q1k _)) (q0b (q0z (qet T.mk_Clear G_y15 hr.m (by rfl) T.mg_Clear T.B_y15 .nil q10 (q00 (q0w (q0a (K:=K) rfl) (pv 0) q06) q05)))) q2d) (q07 (q48 (q18 (q2b (K:=K) rfl hr.units) (q0w (q0a (K:=K) rfl) (pv 0) q06) q2h (q1k _)) (q0b (q0z (qhm T.mk_Gap (by rfl) T.mg_Gap))) q2d) (q0b (q0z (qet T.mk_Soft G_y20 hr.m (by rfl) T.mg_Soft T.B_y20 .nil q10 (q00 (q0w (q0a (K:=K) rfl) (pv 0) q06) (q00 (q0w (q0a (K:=K) rfl) (pv 0) q06) q05))))))),?_⟩
   exact q0j (O':=[]) (Nms:=["told"]) (f:=qj9) (by
     unfold qj9
     exact(q0i (O1:=[]) (q4c (q19 (q1l os_eq (q0d q0y (q03 (i:=0)) me_int) me_str.mb)) (q1b rfl (qfi T.ns_Clear (q02 (q0d q0y (q03 (i:=0)) me_int) q08)) rfl) (q33 rfl)) (q0i (O1:=[]) (q4c (q19 (q1l os_eq (q0d q0y (q03 (i:=0)) me_int) me_str.mb)) (q1b rfl (qi0 T.ns_Gap) rfl) (q33 rfl)) (q1b rfl (qfi T.ns_Soft (q02 (q0d q0y (q03 (i:=0)) me_int) (q02 (q0d q0y (q03 (i:=0)) me_int) q08))) rfl)))) h
def qj8:RhO:=
 (sSeq (sSet 3 (mOf (q1i f_y14 (q01 (mVar 0) (q01 (mVar 1) mNil)))))
 (sIf (q11 (mOp2 dNe (mOp1 dLen (mVar 2)) (mOp1 dLen (mVar 3))))
   (λ_=>none)
   sNil))
def f_y24:List D->Option D:=runP false 3 4 qj8
theorem qqe:q1j 3 f_y24:=q16
theorem qk1(T:Txt K mg a):FnOk P w K mg base CX0 5 a.f_y24 a.fd_y24 ["scheme","size","heard"] (spP K false 3 f_y24):=by
 have G_y14:=qk3 (P:=P) (w:=w) (base:=base) T
 refine T.F_y24.ok sc_y24 (λ_ _ _ _ h=>h.1) (λcdv A outer s H vs Q E hr h=>?_)
 · refine⟨_,(q07 (q0t (i:=3) sc_y24.nd rfl (by walk_at "lr") (q0f G_y14 hr.m (by rfl) T.mg_y14 T.kp_y14 T.B_y14 .nil q10 (q00 (pv 0) (q00 (pv 1) q05)))) (q0b (q48 (q18 (qf4 (K:=K) rfl hr.units) (q1h (q1o (K:=K) rfl) (by rfl) T.z_len (by rfl) (q00 (pv 2) q05)) (q1h (q1o (K:=K) rfl) (by rfl) T.z_len (by rfl) (q00 (pv 3) q05)) (q1k _)) (q0b qba) q2d))),?_⟩
   exact q0j (O':=[]) (Nms:=["scheme","size","heard","places"]) (f:=qj8) (by
     unfold qj8
     exact(q0i (O1:=[]) (q12 (q1c (q1m qqg (q02 (q03 (i:=0)) (q02 (q03 (i:=1)) q08))))) (q4c (q19 (q1l qlc (q1v q3d q3r) (q1v q3d q3r).mb)) qbp (q33 rfl)))) h
def qgm:RhO:=
 (sRet (mOp1 dSum (mOf (q21 2 [] none (mZip (q01 (mVar 0) (q01 (mVar 1) mNil))) (q25 2 (q0q (gSet 0) (q0q (gSet 1) q27))) (mRet true) (mOrE (q3m "Clear" "cost" f_y17 (mVar 0) (q01 (mVar 1) mNil)) (mOrE (q3m "Gap" "cost" f_y19 (mVar 0) (q01 (mVar 1) mNil)) (q3m "Soft" "cost" f_y22 (mVar 0) (q01 (mVar 1) mNil))))))))
def f_y25:List D->Option D:=runP false 2 2 qgm
theorem qqd:q1j 2 f_y25:=q16
theorem qk0(T:Txt K mg a):FnOk P w K mg base CX0 2 a.f_y25 a.fd_y25 ["signs","bits"] (spP K false 2 f_y25):=by
 have G_y22:=qpt (P:=P) (w:=w) (base:=base) T
 have G_y19:=qpv (P:=P) (w:=w) (base:=base) T
 have G_y17:=qpw (P:=P) (w:=w) (base:=base) T
 refine T.F_y25.ok qo5 (λ_ _ _ _ h=>h.1) (λcdv A outer s H vs Q E hr h=>?_)
 · refine⟨_,(q0b (q0z (q1h (qc5 (K:=K) rfl rfl) (by rfl) T.z_sum (by rfl) (q00 (q2f (sc:=q04 qa2) (N0:=["signs","bits"]) rfl rfl rfl (show q1w _ _ ["sign","bit"] 2 [] _=true by decide+kernel) (q5n (K:=K) rfl (by rfl) T.z_zip (q00 (pv 0) (q00 (pv 1) q05))) (λ_ _ _ _ _=>(q3x (K:=K) rfl rfl (q1p (q0s (i:=0) (show List.Nodup (["sign","bit"]:List Str)from(by decide+kernel)) rfl (Or.inl rfl)) (q1p (q0s (i:=1) (show List.Nodup (["sign","bit"]:List Str)from(by decide+kernel)) rfl (Or.inl rfl)) q3w)))) (q6c (by decide) (by decide)) (λ_ _ _ _ _=>q24) (λ_ _ _ _ _=>(PE.or (qab (pv 0) T.cl_Clear T.m_y17 G_y17 hr.m T.B_y17 .nil q10 (q00 (pv 1) q05)) (PE.or (qab (pv 0) T.cl_Gap T.m_y19 G_y19 hr.m T.B_y19 .nil q10 (q00 (pv 1) q05)) (qab (pv 0) T.cl_Soft T.m_y22 G_y22 hr.m T.B_y22 .nil q10 (q00 (pv 1) q05)))))) q05)))),?_⟩
   exact q0j (O':=[]) (Nms:=["signs","bits"]) (f:=qgm) (by
     unfold qgm
     exact(q1b rfl (q1v qkk (q1c (q1x (bw:=none) (q7o (q02 (q03 (i:=0)) (q02 (q03 (i:=1)) q08))) (q59 (q1r (q0u (i:=0)) (q1r (q0u (i:=1)) q3y))) q2w (qkb (qaf T.ns_Clear qt9 (q03 (i:=0)) (q02 (q03 (i:=1)) q08)) (qkb (qaf T.ns_Gap qt8 (q03 (i:=0)) (q02 (q03 (i:=1)) q08)) (qaf T.ns_Soft qt7 (q03 (i:=0)) (q02 (q03 (i:=1)) q08)))))).mb) rfl)) h
def qj7:RhO:=
 (sSeq (q81 (q0k f_y24 (q01 (mVar 0) (q01 (mOp1 dLen (mVar 1)) (q01 (mVar 2) mNil)))))
 (sRet (q0k f_y25 (q01 (mOf (q21 1 [] none (mSeq (mVar 2)) (gSet 0) (mRet true) (q0k f_y23 (q01 (mVar 0) mNil)))) (q01 (mOf (q1i f_y12 (q01 (mVar 0) (q01 (mVar 1) mNil)))) mNil)))))
def f_y26:List D->Option D:=runP false 3 3 qj7
theorem qqc:q1j 3 f_y26:=q16
theorem qps(T:Txt K mg a):FnOk P w K mg base CX0 6 a.f_y26 a.fd_y26 ["scheme","word","heard"] (spP K false 3 f_y26):=by
 have G_y24:=qk1 (P:=P) (w:=w) (base:=base) T
 have G_y12:=qpy (P:=P) (w:=w) (base:=base) T
 have G_y23:=qk2 (P:=P) (w:=w) (base:=base) T
 have G_y25:=qk0 (P:=P) (w:=w) (base:=base) T
 refine T.F_y26.ok qo4 (λ_ _ _ _ h=>h.1) (λcdv A outer s H vs Q E hr h=>?_)
 · refine⟨_,(q07 (q2e (q0f G_y24 hr.m (by rfl) T.mg_y24 T.kp_y24 T.B_y24 .nil q10 (q00 (pv 0) (q00 (q1h (q1o (K:=K) rfl) (by rfl) T.z_len (by rfl) (q00 (pv 1) q05)) (q00 (pv 2) q05))))) (q0b (q0z (q0f G_y25 hr.m (by rfl) T.mg_y25 T.kp_y25 T.B_y25 .nil q10 (q00 (q2f (sc:=q04 qa1) (N0:=["scheme","word","heard"]) rfl rfl rfl (show q1w _ _ ["told"] 1 [] _=true by decide+kernel) (q26 (K:=K) rfl (pv 2)) (λ_ _ _ _ _=>(q0s (i:=0) (show List.Nodup (["told"]:List Str)from(by decide+kernel)) rfl (Or.inl rfl))) (q1q (by decide)) (λ_ _ _ _ _=>q24) (λ_ _ _ _ _=>(q0f G_y23 hr.m (by rfl) T.mg_y23 T.kp_y23 T.B_y23 .nil q10 (q00 (pv 0) q05)))) (q00 (q0f G_y12 hr.m (by rfl) T.mg_y12 T.kp_y12 T.B_y12 .nil q10 (q00 (pv 0) (q00 (pv 1) q05))) q05)))))),?_⟩
   exact q0j (O':=[]) (Nms:=["scheme","word","heard"]) (f:=qj7) (by
     unfold qj7
     exact(q0i (O1:=[]) (q89 (q0h qqe (q02 (q03 (i:=0)) (q02 (q1v q3d q3r) (q02 (q03 (i:=2)) q08)))) rfl) (q1b rfl (q0h qqd (q02 (q1c (q1x (bw:=none) (q2y (q03 (i:=2))) (q0u (i:=0)) q2w (q0h qqf (q02 (q03 (i:=0)) q08)))) (q02 (q1c (q1m qta (q02 (q03 (i:=0)) (q02 (q03 (i:=1)) q08)))) q08))) rfl))) h
def qdy:Fd:=
 (qbx 3 (q25 2 (q0q (gSet 4) (q0q (gSet 5) q27))) (mZip (q01 (mOf (q1i f_y14 (q01 (mVar 0) (q01 (mVar 1) mNil)))) (q01 (mVar 2) mNil)))
   (q4m 3 (mVar 4) (q01 (q0k f_y23 (q01 (mVar 5) mNil)) mNil)))
def qdk:RhL:=(q37 (q01 (q0k f_y13 (q01 (mVar 0) (q01 (mVar 1) mNil))) mNil))
def q9f:List D->Option (List (List D)):=qa6 3 6 3 qdk qdy
def f_y27:List D->Option D:=λds=>qds (q9f ds)
theorem qt6:q1j 3 f_y27:=qkw
theorem qll(T:Txt K mg a):FnOk P w K mg base CX0 5 a.f_y27 a.fd_y27 ["scheme","size","heard"] (spD K 3 q9f):=by
 have G_y13:=qk4 (P:=P) (w:=w) (base:=base) T
 have G_y14:=qk3 (P:=P) (w:=w) (base:=base) T
 have G_y23:=qk2 (P:=P) (w:=w) (base:=base) T
 refine T.F_y27.ok sc_y27 (λvs H Q E h=>h.1) (λcdv A outer s H vs Q E hr h=>?_)
 refine⟨_,(q07 (q6n (k:=3) (sc:=q04 qa0) (N0:=["scheme","size","heard","found","number","told"]) rfl rfl rfl (show q1w _ _ ["number"] 1 [] _=true by decide+kernel) sc_y27.nd rfl (Or.inl rfl) (q2g (by rfl) T.z_range (q00 (q0f G_y13 hr.m (by rfl) T.mg_y13 T.kp_y13 T.B_y13 .nil q10 (q00 (pv 0) (q00 (pv 1) q05))) q05)) (λ_ _ _ _ _=>(q0s (i:=0) (show List.Nodup (["number"]:List Str)from(by decide+kernel)) rfl (Or.inl rfl))) (q1q (by decide)) (λ_ _ _ _ _=>q24) (λ_ _ _ _ _=>(q2i q05))) (q07 (q3a xf rfl (q5n (K:=K) rfl (by rfl) T.z_zip (q00 (q0f G_y14 hr.m (by rfl) T.mg_y14 T.kp_y14 T.B_y14 .nil q10 (q00 (pv 0) (q00 (pv 1) q05))) (q00 (pv 2) q05))) (q3x (K:=K) rfl rfl (q1p (q0s (i:=4) sc_y27.nd rfl (by walk_at "lr")) (q1p (q0s (i:=5) sc_y27.nd rfl (by walk_at "lr")) q3w))) (q0b (q2e (q63 PySem.F.plainAttrs_list PySem.F.slot_list_append PySem.F.type_list_append q2x (q0w (q0a (K:=K) rfl) (pv 3) (pv 4)) (q00 (q0f G_y23 hr.m (by rfl) T.mg_y23 T.kp_y23 T.B_y23 .nil q10 (q00 (pv 5) q05)) q05))))) (q0b (q0z (pv 3))))),?_⟩
 exact qec (Nms:=["scheme","size","heard","found","number","told"]) (i:=3) (m:=1) (js:=[]) (fi:=qdk) (f:=qdy) (by
     unfold qdk
     exact(q2k (q02 (q0h qqh (q02 (q03 (i:=0)) (q02 (q03 (i:=1)) q08))) q08))) (by
     unfold qdy
     exact(qhw (q7o (q02 (q1c (q1m qqg (q02 (q03 (i:=0)) (q02 (q03 (i:=1)) q08)))) (q02 (q03 (i:=2)) q08))) (q59 (q1r (q0u (i:=4)) (q1r (q0u (i:=5)) q3y))) (by decide) (qdd (q03 (i:=4)) (q02 (q0h qqf (q02 (q03 (i:=5)) q08)) q08)))) h
theorem qpr(T:Txt K mg a):FnOk P w K mg base CX0 5 a.f_y27 a.fd_y27 ["scheme","size","heard"] (spP K false 3 f_y27):=(qll T).imp λ_ _ _ _ h=>qs4 h
def qj6:RhO:=
 (sSeq (sSet 5 (q0k f_y3 (q01 (mVar 0) (q01 (mVar 3) (q01 (mVar 4) mNil)))))
 (sRet (mTup (q01 (mOp2 dIx (mVar 5) (mRet (.int 0))) (q01 (q0k f_y25 (q01 (mVar 2) (q01 (q0k f_y4 (q01 (mVar 0) (q01 (mVar 1) (q01 (mOp2 dIx (mVar 5) (mRet (.int 1))) mNil)))) mNil))) mNil)))))
def f_y28:List D->Option D:=runP false 5 6 qj6
theorem qt5:q1j 5 f_y28:=q16
theorem qpq(T:Txt K mg a):FnOk P w K mg base CX0 4 a.f_y28 a.fd_y28 ["scheme","number","signs","room","bit"] (spP K false 5 f_y28):=by
 have G_y3:=qht (P:=P) (w:=w) (base:=base) T
 have G_y4:=qli (P:=P) (w:=w) (base:=base) T
 have G_y25:=qk0 (P:=P) (w:=w) (base:=base) T
 refine T.F_y28.ok sc_y28 (λ_ _ _ _ h=>h.1) (λcdv A outer s H vs Q E hr h=>?_)
 · refine⟨_,(q07 (q0t (i:=5) sc_y28.nd rfl (by walk_at "lr") (q0f G_y3 hr.m (by rfl) T.mg_y3 T.kp_y3 T.B_y3 .nil q10 (q00 (pv 0) (q00 (pv 3) (q00 (pv 4) q05))))) (q0b (q0z (q3o (q00 (q0w (q0a (K:=K) rfl) (pv 5) q06) (q00 (q0f G_y25 hr.m (by rfl) T.mg_y25 T.kp_y25 T.B_y25 .nil q10 (q00 (pv 2) (q00 (q0f G_y4 hr.m (by rfl) T.mg_y4 T.kp_y4 T.B_y4 .nil q10 (q00 (pv 0) (q00 (pv 1) (q00 (q0w (q0a (K:=K) rfl) (pv 5) q06) q05)))) q05))) q05)))))),?_⟩
   exact q0j (O':=[]) (Nms:=["scheme","number","signs","room","bit","led"]) (f:=qj6) (by
     unfold qj6
     exact(q0i (O1:=[]) (q12 (q0h n_y3 (q02 (q03 (i:=0)) (q02 (q03 (i:=3)) (q02 (q03 (i:=4)) q08))))) (q1b rfl (q3q (q02 (q0d q0y (q03 (i:=5)) me_int) (q02 (q0h qqd (q02 (q03 (i:=2)) (q02 (q0h n_y4 (q02 (q03 (i:=0)) (q02 (q03 (i:=1)) (q02 (q0d q0y (q03 (i:=5)) me_int) q08)))) q08))) q08))) rfl))) h
def qj5:RhO:=
 (sRet (mOf (q21 1 [0,1,2,3] none (mSeq (mVar 4)) (gSet 0) (mRet true) (q0k f_y28 (q01 (mVar 1) (q01 (mVar 2) (q01 (mVar 3) (q01 (mVar 4) (q01 (mVar 0) mNil)))))))))
def f_y29:List D->Option D:=runP false 5 5 qj5
theorem qt4:q1j 5 f_y29:=q16
theorem qpp(T:Txt K mg a):FnOk P w K mg base CX0 5 a.f_y29 a.fd_y29 ["scheme","number","signs","room","bits"] (spP K false 5 f_y29):=by
 have G_y28:=qpq (P:=P) (w:=w) (base:=base) T
 refine T.F_y29.ok qo3 (λ_ _ _ _ h=>h.1) (λcdv A outer s H vs Q E hr h=>?_)
 · refine⟨_,(q0b (q0z (q2f (sc:=q04 q9z) (N0:=["scheme","number","signs","room","bits"]) rfl rfl rfl (show q1w _ _ ["bit","scheme","number","signs","room"] 1 [0,1,2,3] _=true by decide+kernel) (q26 (K:=K) rfl (pv 4)) (λ_ _ _ _ _=>(q0s (i:=0) (show List.Nodup (["bit","scheme","number","signs","room"]:List Str)from(by decide+kernel)) rfl (Or.inl rfl))) (q1q (by decide)) (λ_ _ _ _ _=>q24) (λ_ _ _ _ _=>(q0f G_y28 hr.m (by rfl) T.mg_y28 T.kp_y28 T.B_y28 .nil q10 (q00 (pv 1) (q00 (pv 2) (q00 (pv 3) (q00 (pv 4) (q00 (pv 0) q05)))))))))),?_⟩
   exact q0j (O':=[]) (Nms:=["scheme","number","signs","room","bits"]) (f:=qj5) (by
     unfold qj5
     exact(q1b rfl (q1c (q1x (bw:=none) (q2y (q03 (i:=4))) (q0u (i:=0)) q2w (q0h qt5 (q02 (q03 (i:=1)) (q02 (q03 (i:=2)) (q02 (q03 (i:=3)) (q02 (q03 (i:=4)) (q02 (q03 (i:=0)) q08)))))))) rfl)) h
def qj4:RhO:=
 (sSeq (q81 (q0k f_y24 (q01 (mVar 0) (q01 (mVar 1) (q01 (mVar 2) mNil)))))
 (sSeq (sOwn 3 (mLst mNil))
 (sSeq (sFor (qdi (q0k f_y27 (q01 (mVar 0) (q01 (mVar 1) (q01 (mVar 2) mNil))))) (q25 2 (q0q (gSet 4) (q0q (gSet 5) q27)))
   (sSeq (sSet 6 (mIf (q11 (mOp2 dLt (mVar 4) (mVar 1))) (mTup (q01 (mRet (.int 0)) (q01 (mRet (.int 1)) mNil))) (mTup (q01 (mRet (.int 0)) mNil))))
 (sMut q1n 3 (q01 (mOf (q21 1 [0,4,5,6] none (q37 (q01 (q0k f_y1 (q01 (mVar 0) mNil)) mNil)) (gSet 0) (mRet true) (q0k f_y29 (q01 (mVar 1) (q01 (mVar 2) (q01 (mVar 3) (q01 (mVar 0) (q01 (mVar 4) mNil)))))))) mNil))))
 (sRet (mVar 3)))))
def f_y30:List D->Option D:=runP false 3 7 qj4
theorem qt3:q1j 3 f_y30:=q16
theorem qpo(T:Txt K mg a):FnOk P w K mg base CX0 6 a.f_y30 a.fd_y30 ["scheme","size","heard"] (spP K false 3 f_y30):=by
 have G_y24:=qk1 (P:=P) (w:=w) (base:=base) T
 have G_y27:=qpr (P:=P) (w:=w) (base:=base) T
 have G_y1:=qhu (P:=P) (w:=w) (base:=base) T
 have G_y29:=qpp (P:=P) (w:=w) (base:=base) T
 refine T.F_y30.ok sc_y30 (λ_ _ _ _ h=>h.1) (λcdv A outer s H vs Q E hr h=>?_)
 · refine⟨_,(q07 (q2e (q0f G_y24 hr.m (by rfl) T.mg_y24 T.kp_y24 T.B_y24 .nil q10 (q00 (pv 0) (q00 (pv 1) (q00 (pv 2) q05))))) (q07 (q0t (i:=3) sc_y30.nd rfl (by walk_at "lr") (q2i q05)) (q07 (q3a xf rfl (qes (K:=K) rfl (by rfl) T.z_enumerate (q0f G_y27 hr.m (by rfl) T.mg_y27 T.kp_y27 T.B_y27 .nil q10 (q00 (pv 0) (q00 (pv 1) (q00 (pv 2) q05))))) (q3x (K:=K) rfl rfl (q1p (q0s (i:=4) sc_y30.nd rfl (by walk_at "lr")) (q1p (q0s (i:=5) sc_y30.nd rfl (by walk_at "lr")) q3w))) (q07 (q0t (i:=6) sc_y30.nd rfl (by walk_at "lr") (q36 (q18 qf5 (pv 4) (pv 1) (q1k _)) (q3o (q00 q06 (q00 q06 q05))) (q3o (q00 q06 q05)))) (q0b (q2e (q63 PySem.F.plainAttrs_list PySem.F.slot_list_append PySem.F.type_list_append q2x (pv 3) (q00 (q2f (sc:=q04 q9y) (N0:=["scheme","size","heard","found","number","signs","bits"]) rfl rfl rfl (show q1w _ _ ["room","scheme","number","signs","bits"] 1 [0,4,5,6] _=true by decide+kernel) (q2g (by rfl) T.z_range (q00 (q0f G_y1 hr.m (by rfl) T.mg_y1 T.kp_y1 T.B_y1 .nil q10 (q00 (pv 0) q05)) q05)) (λ_ _ _ _ _=>(q0s (i:=0) (show List.Nodup (["room","scheme","number","signs","bits"]:List Str)from(by decide+kernel)) rfl (Or.inl rfl))) (q1q (by decide)) (λ_ _ _ _ _=>q24) (λ_ _ _ _ _=>(q0f G_y29 hr.m (by rfl) T.mg_y29 T.kp_y29 T.B_y29 .nil q10 (q00 (pv 1) (q00 (pv 2) (q00 (pv 3) (q00 (pv 0) (q00 (pv 4) q05)))))))) q05)))))) (q0b (q0z (pv 3)))))),?_⟩
   exact q0j (O':=[]) (Nms:=["scheme","size","heard","found","number","signs","bits"]) (f:=qj4) (by
     unfold qj4
     exact(q0i (O1:=[]) (q89 (q0h qqe (q02 (q03 (i:=0)) (q02 (q03 (i:=1)) (q02 (q03 (i:=2)) q08)))) rfl) (q0i (O1:=[3]) (q4b (q2p q08) rfl) (q0i (O1:=[]) (q6s (q3j (O':=[3]) (qfh (q0h qt6 (q02 (q03 (i:=0)) (q02 (q03 (i:=1)) (q02 (q03 (i:=2)) q08))))) rfl (q59 (q1r (q0u (i:=4)) (q1r (q0u (i:=5)) q3y))) (q0i (O1:=[3]) (q12 (q99 (q19 (q1l qd9 (q03 (i:=4)) q3r)) (q3q (q02 me_int (q02 me_int q08))) (q3q (q02 me_int q08)))) (q6v q3c (by decide) (q02 (q1c (q1x (bw:=none) (q2k (q02 (q0h n_y1 (q02 (q03 (i:=0)) q08)) q08)) (q0u (i:=0)) q2w (q0h qt4 (q02 (q03 (i:=1)) (q02 (q03 (i:=2)) (q02 (q03 (i:=3)) (q02 (q03 (i:=0)) (q02 (q03 (i:=4)) q08)))))))) q08) rfl))) rfl) (q1b rfl (q03 (i:=3)) rfl))))) h
def qj3:RhO:=
 (sSeq (sIf (q11 (mOp2 dEq (mOp2 dIx (mVar 0) (mRet (.int 3))) (mRet (.str "open"))))
   (sRet (mOf (mRep (mLst (q01 (mRet (.int 0)) mNil)) (q0k f_y1 (q01 (mVar 0) mNil)))))
   sNil)
 (sSeq (sSet 2 (mIf (q11 (q0k f_y5 (q01 (mVar 0) mNil))) (mVar 1) (mRet (.int 0))))
 (sRet (mOf (q21 1 [2] none (q37 (q01 (q0k f_y1 (q01 (mVar 0) mNil)) mNil)) (gSet 0) (mRet true) (mIf (q11 (mOp2 dEq (mVar 0) (mVar 1))) (mRet (.int 0)) (mRet .non)))))))
def f_y31:List D->Option D:=runP false 2 3 qj3
theorem qt2:q1j 2 f_y31:=q16
theorem qpn(T:Txt K mg a):FnOk P w K mg base CX0 3 a.f_y31 a.fd_y31 ["scheme","start"] (spP K false 2 f_y31):=by
 have G_y1:=qhu (P:=P) (w:=w) (base:=base) T
 have G_y5:=qhs (P:=P) (w:=w) (base:=base) T
 refine T.F_y31.ok sc_y31 (λ_ _ _ _ h=>h.1) (λcdv A outer s H vs Q E hr h=>?_)
 · refine⟨_,(q07 (q48 (q18 (q2b (K:=K) rfl hr.units) (q0w (q0a (K:=K) rfl) (pv 0) q06) q2h (q1k _)) (q0b (q0z (q0x qbk (q2i (q00 q06 q05)) (q0f G_y1 hr.m (by rfl) T.mg_y1 T.kp_y1 T.B_y1 .nil q10 (q00 (pv 0) q05))))) q2d) (q07 (q0t (i:=2) sc_y31.nd rfl (by walk_at "lr") (q36 (qb9 (q0f G_y5 hr.m (by rfl) T.mg_y5 T.kp_y5 T.B_y5 .nil q10 (q00 (pv 0) q05))) (pv 1) q06)) (q0b (q0z (q2f (sc:=q04 q9x) (N0:=["scheme","start","end"]) rfl rfl rfl (show q1w _ _ ["room","end"] 1 [2] _=true by decide+kernel) (q2g (by rfl) T.z_range (q00 (q0f G_y1 hr.m (by rfl) T.mg_y1 T.kp_y1 T.B_y1 .nil q10 (q00 (pv 0) q05)) q05)) (λ_ _ _ _ _=>(q0s (i:=0) (show List.Nodup (["room","end"]:List Str)from(by decide+kernel)) rfl (Or.inl rfl))) (q1q (by decide)) (λ_ _ _ _ _=>q24) (λ_ _ _ _ _=>(q36 (q18 (q2b (K:=K) rfl hr.units) (pv 0) (pv 1) (q1k _)) q06 q91))))))),?_⟩
   exact q0j (O':=[]) (Nms:=["scheme","start","end"]) (f:=qj3) (by
     unfold qj3
     exact(q0i (O1:=[]) (q4c (q19 (q1l os_eq (q0d q0y (q03 (i:=0)) me_int) me_str.mb)) (q1b rfl (q1c (qbq (q2p (q02 me_int q08)) (q0h n_y1 (q02 (q03 (i:=0)) q08)))) rfl) (q33 rfl)) (q0i (O1:=[]) (q12 (q99 (qbo (q0h n_y5 (q02 (q03 (i:=0)) q08))) (q03 (i:=1)) me_int)) (q1b rfl (q1c (q1x (bw:=none) (q2k (q02 (q0h n_y1 (q02 (q03 (i:=0)) q08)) q08)) (q0u (i:=0)) q2w (q99 (q19 (q1l os_eq (q03 (i:=0)) q3r)) me_int me_non))) rfl)))) h
def qgl:RhO:=
 (sSeq (sSet 2 (mOp2 dIx (mVar 1) (mOp2 dIx (mVar 0) (mRet (.int 0)))))
 (sRet (mIf (q11 (mOp2 dIsN (mVar 2) (mRet .non))) (mRet .non) (mOp2 dAdd (mOp2 dIx (mVar 0) (mRet (.int 1))) (mVar 2)))))
def f_y32:List D->Option D:=runP false 2 3 qgl
theorem qqb:q1j 2 f_y32:=q16
theorem qjz(T:Txt K mg a):FnOk P w K mg base CX0 1 a.f_y32 a.fd_y32 ["taken","behind"] (spP K false 2 f_y32):=by
 refine T.F_y32.ok sc_y32 (λ_ _ _ _ h=>h.1) (λcdv A outer s H vs Q E hr h=>?_)
 · refine⟨_,(q07 (q0t (i:=2) sc_y32.nd rfl (by walk_at "lr") (q0w (q0a (K:=K) rfl) (pv 1) (q0w (q0a (K:=K) rfl) (pv 0) q06))) (q0b (q0z (q36 (q18 qp3 (pv 2) q91 (q1k _)) q91 (q0x (q20 (K:=K) rfl) (q0w (q0a (K:=K) rfl) (pv 0) q06) (pv 2)))))),?_⟩
   exact q0j (O':=[]) (Nms:=["taken","behind","rest"]) (f:=qgl) (by
     unfold qgl
     exact(q0i (O1:=[]) (q12 (q0d q0y (q03 (i:=1)) (q0d q0y (q03 (i:=0)) me_int))) (q1b rfl (q99 (q19 (q1l qp1 (q03 (i:=2)) me_non.mb)) me_non (q0d q2s (q0d q0y (q03 (i:=0)) me_int) (q03 (i:=2)))) rfl))) h
def qj2:RhO:=
 (sSeq (sSet 2 (mOf (q21 1 [1] none (mSeq (mVar 0)) (gSet 0) (mRet true) (q0k f_y32 (q01 (mVar 0) (q01 (mVar 1) mNil))))))
 (sRet (mOp1 qdr (mOf (q21 1 [] none (mSeq (mVar 2)) (gSet 0) (q11 (mOp2 qdq (mVar 0) (mRet .non))) (mVar 0))))))
def f_y33:List D->Option D:=runP false 2 3 qj2
theorem qt1:q1j 2 f_y33:=q16
theorem qpm(T:Txt K mg a):FnOk P w K mg base CX0 2 a.f_y33 a.fd_y33 ["choices","behind"] (spP K false 2 f_y33):=by
 have G_y32:=qjz (P:=P) (w:=w) (base:=base) T
 refine T.F_y33.ok sc_y33 (λ_ _ _ _ h=>h.1) (λcdv A outer s H vs Q E hr h=>?_)
 · refine⟨_,(q07 (q6n (k:=2) (sc:=q04 q8y) (N0:=["choices","behind","found"]) rfl rfl rfl (show q1w _ _ ["taken","behind"] 1 [1] _=true by decide+kernel) sc_y33.nd rfl (Or.inl rfl) (q26 (K:=K) rfl (pv 0)) (λ_ _ _ _ _=>(q0s (i:=0) (show List.Nodup (["taken","behind"]:List Str)from(by decide+kernel)) rfl (Or.inl rfl))) (q1q (by decide)) (λ_ _ _ _ _=>q24) (λ_ _ _ _ _=>(q0f G_y32 hr.m (by rfl) T.mg_y32 T.kp_y32 T.B_y32 .nil q10 (q00 (pv 0) (q00 (pv 1) q05))))) (q0b (q0z (ql2 (K:=K) rfl rfl (by rfl) T.z_min (q2f (sc:=q04 q8y) (N0:=["choices","behind","found"]) rfl rfl rfl (show q1w _ _ ["one"] 1 [] _=true by decide+kernel) (q26 (K:=K) rfl (pv 2)) (λ_ _ _ _ _=>(q0s (i:=0) (show List.Nodup (["one"]:List Str)from(by decide+kernel)) rfl (Or.inl rfl))) (q1q (by decide)) (λ_ _ _ _ _=>(q84 (q18 qle (pv 0) q91 (q1k _)))) (λ_ _ _ _ _=>(pv 0))) q91)))),?_⟩
   exact q0j (O':=[]) (Nms:=["choices","behind","found"]) (f:=qj2) (by
     unfold qj2
     exact(q0i (O1:=[]) (q6t (q1x (bw:=none) (q2y (q03 (i:=0))) (q0u (i:=0)) q2w (q0h qqb (q02 (q03 (i:=0)) (q02 (q03 (i:=1)) q08)))) rfl (by decide)) (q1b rfl (qlx (q1c (q1x (bw:=none) (q2y (q03 (i:=2))) (q0u (i:=0)) (q19 (q1l qlb (q03 (i:=0)) me_non.mb)) (q03 (i:=0)))).mb) rfl))) h
def qj1:RhO:=
 (sSeq (sOwn 2 (mLst (q01 (mVar 1) mNil)))
 (sSeq (sFor (mRev (mVar 0)) (gSet 3)
   (sSeq (sSet 4 (mIxO 2 (mOp1 dNeg (mRet (.int 1)))))
 (sMut q1n 2 (q01 (mOf (q21 1 [4] none (mSeq (mVar 3)) (gSet 0) (mRet true) (q0k f_y33 (q01 (mVar 0) (q01 (mVar 1) mNil))))) mNil))))
 (sRet (mOf (mRev (mVar 2))))))
def f_y34:List D->Option D:=runP false 2 5 qj1
theorem qt0:q1j 2 f_y34:=q16
theorem qpl(T:Txt K mg a):FnOk P w K mg base CX0 3 a.f_y34 a.fd_y34 ["steps","ends"] (spP K false 2 f_y34):=by
 have G_y33:=qpm (P:=P) (w:=w) (base:=base) T
 refine T.F_y34.ok sc_y34 (λ_ _ _ _ h=>h.1) (λcdv A outer s H vs Q E hr h=>?_)
 · refine⟨_,(q07 (q0t (i:=2) sc_y34.nd rfl (by walk_at "lr") (q2i (q00 (pv 1) q05))) (q07 (q3a xf rfl (qos (K:=K) rfl (by rfl) T.z_reversed (pv 0)) (q0s (i:=3) sc_y34.nd rfl (by walk_at "lr")) (q07 (q0t (i:=4) sc_y34.nd rfl (by walk_at "lr") (q0w (q0a (K:=K) rfl) (pv 2) (qow qji q06))) (q0b (q2e (q63 PySem.F.plainAttrs_list PySem.F.slot_list_append PySem.F.type_list_append q2x (pv 2) (q00 (q2f (sc:=q04 q9w) (N0:=["steps","ends","table","choices_by_room","behind"]) rfl rfl rfl (show q1w _ _ ["choices","behind"] 1 [4] _=true by decide+kernel) (q26 (K:=K) rfl (pv 3)) (λ_ _ _ _ _=>(q0s (i:=0) (show List.Nodup (["choices","behind"]:List Str)from(by decide+kernel)) rfl (Or.inl rfl))) (q1q (by decide)) (λ_ _ _ _ _=>q24) (λ_ _ _ _ _=>(q0f G_y33 hr.m (by rfl) T.mg_y33 T.kp_y33 T.B_y33 .nil q10 (q00 (pv 0) (q00 (pv 1) q05))))) q05)))))) (q0b (q0z (ql4 (K:=K) rfl rfl (by rfl) T.z_list (by rfl) T.z_reversed (pv 2)))))),?_⟩
   exact q0j (O':=[]) (Nms:=["steps","ends","table","choices_by_room","behind"]) (f:=qj1) (by
     unfold qj1
     exact(q0i (O1:=[2]) (q4b (q2p (q02 (q03 (i:=1)) q08)) rfl) (q0i (O1:=[]) (q6s (q3j (O':=[2]) (qqm (q03 (i:=0))) rfl (q0u (i:=3)) (q0i (O1:=[2]) (q12 (qkd (i:=2) (by decide) (qkc me_int))) (q6v q3c (by decide) (q02 (q1c (q1x (bw:=none) (q2y (q03 (i:=3))) (q0u (i:=0)) q2w (q0h qt1 (q02 (q03 (i:=0)) (q02 (q03 (i:=1)) q08))))) q08) rfl))) rfl) (q1b rfl (q1c (qlu (q03 (i:=2)))) rfl)))) h
def qj0:RhO:=
 (sSeq (qa5 2)
 (sSeq (sFor (mSeq (mOf (q1i f_y10 (q01 (mVar 0) mNil)))) (gSet 3)
   (qa4 2 (q0k f_y34 (q01 (mVar 1) (q01 (q0k f_y31 (q01 (mVar 0) (q01 (mVar 3) mNil))) mNil))) (mVar 3)))
 (sRet (mVar 2))))
def f_y35:List D->Option D:=runP false 2 4 qj0
theorem qsz:q1j 2 f_y35:=q16
theorem qpk(T:Txt K mg a):FnOk P w K mg base CX0 4 a.f_y35 a.fd_y35 ["scheme","steps"] (spP K false 2 f_y35):=by
 have G_y10:=qq0 (P:=P) (w:=w) (base:=base) T
 have G_y31:=qpn (P:=P) (w:=w) (base:=base) T
 have G_y34:=qpl (P:=P) (w:=w) (base:=base) T
 refine T.F_y35.ok sc_y35 (λ_ _ _ _ h=>h.1) (λcdv A outer s H vs Q E hr h=>?_)
 · refine⟨_,(q07 (q0t (i:=2) sc_y35.nd rfl (by walk_at "lr") ql1) (q07 (q3a xf rfl (q26 (K:=K) rfl (q0f G_y10 hr.m (by rfl) T.mg_y10 T.kp_y10 T.B_y10 .nil q10 (q00 (pv 0) q05))) (q0s (i:=3) sc_y35.nd rfl (by walk_at "lr")) (q0b (qjr (q0f G_y34 hr.m (by rfl) T.mg_y34 T.kp_y34 T.B_y34 .nil q10 (q00 (pv 1) (q00 (q0f G_y31 hr.m (by rfl) T.mg_y31 T.kp_y31 T.B_y31 .nil q10 (q00 (pv 0) (q00 (pv 3) q05))) q05))) (qou (pv 2) (pv 3) qs5)))) (q0b (q0z (pv 2))))),?_⟩
   exact q0j (O':=[]) (Nms:=["scheme","steps","tables","start"]) (f:=qj0) (by
     unfold qj0
     exact(q0i (O1:=[2]) (qlr rfl) (q0i (O1:=[]) (q6s (q3j (O':=[2]) (q2y (q1c (q1m qtc (q02 (q03 (i:=0)) q08)))) rfl (q0u (i:=3)) (qlq (by decide) (q0h qt0 (q02 (q03 (i:=1)) (q02 (q0h qt2 (q02 (q03 (i:=0)) (q02 (q03 (i:=3)) q08))) q08))) (q03 (i:=3)) rfl)) rfl) (q1b rfl (q03 (i:=2)) rfl)))) h
def qiz:RhO:=
 (sSeq (sOwn 4 (mLst mNil))
 (sSeq (sSet 5 (mVar 0))
 (sSeq (sFor (q37 (q01 (mVar 3) mNil)) (gSet 6)
   (sSeq (sSet 7 (mOp2 dIx (mOp2 dIx (mVar 1) (mVar 6)) (mVar 5)))
 (sSeq (sSet 8 (mIf (q11 (mOp2 dEq (q0k f_y32 (q01 (mOp2 dIx (mVar 7) (mRet (.int 0))) (q01 (mOp2 dIx (mVar 2) (mOp2 dAdd (mVar 6) (mRet (.int 1)))) mNil))) (mOp2 dIx (mOp2 dIx (mVar 2) (mVar 6)) (mVar 5)))) (mRet (.int 0)) (mRet (.int 1))))
 (sSeq (sMut q1n 4 (q01 (mVar 8) mNil))
 (sSet 5 (mOp2 dIx (mOp2 dIx (mVar 7) (mVar 8)) (mRet (.int 0))))))))
 (sRet (mTup (q01 (mOp2 dIx (mOp2 dIx (mVar 2) (mRet (.int 0))) (mVar 0)) (q01 (mVar 4) mNil)))))))
def f_y36:List D->Option D:=runP false 4 9 qiz
theorem qsy:q1j 4 f_y36:=q16
theorem qpj(T:Txt K mg a):FnOk P w K mg base CX0 2 a.f_y36 a.fd_y36 ["start","steps","table","size"] (spP K false 4 f_y36):=by
 have G_y32:=qjz (P:=P) (w:=w) (base:=base) T
 refine T.F_y36.ok sc_y36 (λ_ _ _ _ h=>h.1) (λcdv A outer s H vs Q E hr h=>?_)
 · refine⟨_,(q07 (q0t (i:=4) sc_y36.nd rfl (by walk_at "lr") (q2i q05)) (q07 (q0t (i:=5) sc_y36.nd rfl (by walk_at "lr") (pv 0)) (q07 (q3a xf rfl (q2g (by rfl) T.z_range (q00 (pv 3) q05)) (q0s (i:=6) sc_y36.nd rfl (by walk_at "lr")) (q07 (q0t (i:=7) sc_y36.nd rfl (by walk_at "lr") (q0w (q0a (K:=K) rfl) (q0w (q0a (K:=K) rfl) (pv 1) (pv 6)) (pv 5))) (q07 (q0t (i:=8) sc_y36.nd rfl (by walk_at "lr") (q36 (q18 (q2b (K:=K) rfl hr.units) (q0f G_y32 hr.m (by rfl) T.mg_y32 T.kp_y32 T.B_y32 .nil q10 (q00 (q0w (q0a (K:=K) rfl) (pv 7) q06) (q00 (q0w (q0a (K:=K) rfl) (pv 2) (q0x (q20 (K:=K) rfl) (pv 6) q06)) q05))) (q0w (q0a (K:=K) rfl) (q0w (q0a (K:=K) rfl) (pv 2) (pv 6)) (pv 5)) (q1k _)) q06 q06)) (q07 (q2e (q63 PySem.F.plainAttrs_list PySem.F.slot_list_append PySem.F.type_list_append q2x (pv 4) (q00 (pv 8) q05))) (q0b (q0t (i:=5) sc_y36.nd rfl (by walk_at "lr") (q0w (q0a (K:=K) rfl) (q0w (q0a (K:=K) rfl) (pv 7) (pv 8)) q06))))))) (q0b (q0z (q3o (q00 (q0w (q0a (K:=K) rfl) (q0w (q0a (K:=K) rfl) (pv 2) q06) (pv 0)) (q00 (pv 4) q05)))))))),?_⟩
   exact q0j (O':=[]) (Nms:=["start","steps","table","size","word","room","number","choices","bit"]) (f:=qiz) (by
     unfold qiz
     exact(q0i (O1:=[4]) (q4b (q2p q08) rfl) (q0i (O1:=[4]) (q12 (q03 (i:=0))) (q0i (O1:=[]) (q6s (q3j (O':=[4]) (q2k (q02 (q03 (i:=3)) q08)) rfl (q0u (i:=6)) (q0i (O1:=[4]) (q12 (q0d q0y (q0d q0y (q03 (i:=1)) (q03 (i:=6))) (q03 (i:=5)))) (q0i (O1:=[4]) (q12 (q99 (q19 (q1l os_eq (q0h qqb (q02 (q0d q0y (q03 (i:=7)) me_int) (q02 (q0d q0y (q03 (i:=2)) (q0d q2s (q03 (i:=6)) me_int)) q08))) (q0d q0y (q0d q0y (q03 (i:=2)) (q03 (i:=6))) (q03 (i:=5))).mb)) me_int me_int)) (q0i (O1:=[4]) (q6v q3c (by decide) (q02 (q03 (i:=8)) q08) rfl) (q12 (q0d q0y (q0d q0y (q03 (i:=7)) (q03 (i:=8))) me_int)))))) rfl) (q1b rfl (q3q (q02 (q0d q0y (q0d q0y (q03 (i:=2)) me_int) (q03 (i:=0))) (q02 (q03 (i:=4)) q08))) rfl))))) h
def qn4:RhO:=
 (sSeq (sSet 3 (q0k f_y30 (q01 (mVar 0) (q01 (mVar 1) (q01 (mVar 2) mNil)))))
 (sSeq (sSet 4 (q0k f_y35 (q01 (mVar 0) (q01 (mVar 3) mNil))))
 (sRet (mOp1 qio (mOf (q21 1 [3,1,4] none (q71 (mVar 4)) (gSet 0) (mRet true) (q0k f_y36 (q01 (mVar 0) (q01 (mVar 1) (q01 (mOp2 dIxK (mVar 3) (mVar 0)) (q01 (mVar 2) mNil)))))))))))
def f_y37:List D->Option D:=runP false 3 5 qn4
theorem qqa:q1j 3 f_y37:=q16
theorem qpi(T:Txt K mg a):FnOk P w K mg base CX0 7 a.f_y37 a.fd_y37 ["scheme","size","heard"] (spP K false 3 f_y37):=by
 have G_y30:=qpo (P:=P) (w:=w) (base:=base) T
 have G_y35:=qpk (P:=P) (w:=w) (base:=base) T
 have G_y36:=qpj (P:=P) (w:=w) (base:=base) T
 refine T.F_y37.ok sc_y37 (λ_ _ _ _ h=>h.1) (λcdv A outer s H vs Q E hr h=>?_)
 · refine⟨_,(q07 (q0t (i:=3) sc_y37.nd rfl (by walk_at "lr") (q0f G_y30 hr.m (by rfl) T.mg_y30 T.kp_y30 T.B_y30 .nil q10 (q00 (pv 0) (q00 (pv 1) (q00 (pv 2) q05))))) (q07 (q0t (i:=4) sc_y37.nd rfl (by walk_at "lr") (q0f G_y35 hr.m (by rfl) T.mg_y35 T.kp_y35 T.B_y35 .nil q10 (q00 (pv 0) (q00 (pv 3) q05)))) (q0b (q0z (q1h (qdu (K:=K) rfl rfl hr.units) (by rfl) T.z_min (by rfl) (q00 (q2f (sc:=q04 q9v) (N0:=["scheme","size","heard","steps","tables"]) rfl rfl rfl (show q1w _ _ ["start","steps","size","tables"] 1 [3,1,4] _=true by decide+kernel) (qhl (pv 4)) (λ_ _ _ _ _=>(q0s (i:=0) (show List.Nodup (["start","steps","size","tables"]:List Str)from(by decide+kernel)) rfl (Or.inl rfl))) (q1q (by decide)) (λ_ _ _ _ _=>q24) (λ_ _ _ _ _=>(q0f G_y36 hr.m (by rfl) T.mg_y36 T.kp_y36 T.B_y36 .nil q10 (q00 (pv 0) (q00 (pv 1) (q00 (q0w ix_K (pv 3) (pv 0)) (q00 (pv 2) q05))))))) q05)))))),?_⟩
   exact q0j (O':=[]) (Nms:=["scheme","size","heard","steps","tables"]) (f:=qn4) (by
     unfold qn4
     exact(q0i (O1:=[]) (q12 (q0h qt3 (q02 (q03 (i:=0)) (q02 (q03 (i:=1)) (q02 (q03 (i:=2)) q08))))) (q0i (O1:=[]) (q12 (q0h qsz (q02 (q03 (i:=0)) (q02 (q03 (i:=3)) q08)))) (q1b rfl (q4l qmw (q1c (q1x (bw:=none) (qhz (q03 (i:=4))) (q0u (i:=0)) q2w (q0h qsy (q02 (q03 (i:=0)) (q02 (q03 (i:=1)) (q02 (q0d qp2 (q03 (i:=3)) (q03 (i:=0))) (q02 (q03 (i:=2)) q08)))))))) rfl)))) h
def qgk:RhO:=
 (sSeq (sIf (q11 (mOp2 dLt (mVar 1) (mOp1 dLen (mVar 0))))
   (sRet (mOp2 dIx (mVar 0) (mVar 1)))
   sNil)
 (sRet (mRet (.int 0))))
def f_y38:List D->Option D:=runP false 2 2 qgk
theorem qq9:q1j 2 f_y38:=q16
theorem qph(T:Txt K mg a):FnOk P w K mg base CX0 1 a.f_y38 a.fd_y38 ["_law_script","_law_k"] (spP K false 2 f_y38):=by
 refine T.F_y38.ok qo2 (λ_ _ _ _ h=>h.1) (λcdv A outer s H vs Q E hr h=>?_)
 · refine⟨_,(q07 (q48 (q18 qf5 (pv 1) (q1h (q1o (K:=K) rfl) (by rfl) T.z_len (by rfl) (q00 (pv 0) q05)) (q1k _)) (q0b (q0z (q0w (q0a (K:=K) rfl) (pv 0) (pv 1)))) q2d) (q0b (q0z q06))),?_⟩
   exact q0j (O':=[]) (Nms:=["_law_script","_law_k"]) (f:=qgk) (by
     unfold qgk
     exact(q0i (O1:=[]) (q4c (q19 (q1l qd9 (q03 (i:=1)) (q1v q3d q3r).mb)) (q1b rfl (q0d q0y (q03 (i:=0)) (q03 (i:=1))) rfl) (q33 rfl)) (q1b rfl me_int rfl))) h
def qiy:RhO:=
 (sSeq (sOwn 2 (mLst mNil))
 (sSeq (sSet 3 (mOp2 dAdd (mOp2 q32 (mOp2 dMod (mVar 0) (mRet (.int 2305843009213693951))) (mRet (.int 1000000007))) (mRet (.int 104729))))
 (sSeq (sFor (q37 (q01 (mVar 1) mNil)) (gSet 4)
   (sSeq (sSet 3 (mOp2 dMod (mOp2 dAdd (mOp2 dAdd (mOp2 q32 (mVar 3) (mOp2 dAdd (mVar 3) (mRet (.int 65537)))) (mOp2 q32 (mRet (.int 13)) (mVar 4))) (mRet (.int 5))) (mRet (.int 2305843009213693951))))
 (sMut q1n 2 (q01 (mVar 3) mNil))))
 (q55 2))))
def f_y39:List D->Option D:=runP true 2 5 qiy
theorem qfc:q1j 2 f_y39:=q16
theorem qbl(T:Txt K mg a):FnOk P w K mg base CX0 1 a.f_y39 a.fd_y39 ["_law_cell","_law_many"] (spP K true 2 f_y39):=by
 refine T.F_y39.ok sc_y39 (λ_ _ _ _ h=>h.1) (λcdv A outer s H vs Q E hr h=>?_)
 · refine⟨_,(q07 (q0t (i:=2) sc_y39.nd rfl (by walk_at "lr") (q2i q05)) (q07 (q0t (i:=3) sc_y39.nd rfl (by walk_at "lr") (q0x (q20 (K:=K) rfl) (q0x (q30 (K:=K) rfl) (q0x q2a (pv 0) q06) q06) q06)) (q07 (q3a xf rfl (q2g (by rfl) T.z_range (q00 (pv 1) q05)) (q0s (i:=4) sc_y39.nd rfl (by walk_at "lr")) (q07 (q0t (i:=3) sc_y39.nd rfl (by walk_at "lr") (q0x q2a (q0x (q20 (K:=K) rfl) (q0x (q20 (K:=K) rfl) (q0x (q30 (K:=K) rfl) (pv 3) (q0x (q20 (K:=K) rfl) (pv 3) q06)) (q0x (q30 (K:=K) rfl) q06 (pv 4))) q06) q06)) (q0b (q2e (q63 PySem.F.plainAttrs_list PySem.F.slot_list_append PySem.F.type_list_append q2x (pv 2) (q00 (pv 3) q05)))))) (q0b (q0z (pv 2)))))),?_⟩
   exact q0j (O':=[]) (Nms:=["_law_cell","_law_many","_law_found","_law_number","_law_k"]) (f:=qiy) (by
     unfold qiy
     exact(q0i (O1:=[2]) (q4b (q2p q08) rfl) (q0i (O1:=[2]) (q12 (q0d q2s (q0d q31 (q0d q2c (q03 (i:=0)) me_int) me_int) me_int)) (q0i (O1:=[2]) (q3j (O':=[2]) (q2k (q02 (q03 (i:=1)) q08)) rfl (q0u (i:=4)) (q0i (O1:=[2]) (q12 (q0d q2c (q0d q2s (q0d q2s (q0d q31 (q03 (i:=3)) (q0d q2s (q03 (i:=3)) me_int)) (q0d q31 me_int (q03 (i:=4)))) me_int) me_int)) (q6v q3c (by decide) (q02 (q03 (i:=3)) q08) rfl))) (q4w rfl (by first|decide|simp) rfl (by first|decide|simp)))))) h
def qix:RhO:=
 (sSeq (sSet 2 (mOf (q1i f_y39 (q01 (mVar 0) (q01 (mRet (.int 14)) mNil)))))
 (sSeq (sSet 3 (mOp2 dIx (mOf (mLst (q01 (mRet (.str "open")) (q01 (mRet (.str "ended")) (q01 (mRet (.str "ring")) (q01 (mRet (.str "ended")) mNil)))))) (mOp2 dMod (mOp2 dIx (mVar 2) (mRet (.int 0))) (mRet (.int 4)))))
 (sSeq (sSet 4 (mOp2 dMod (mOp2 dIx (mVar 2) (mRet (.int 1))) (mOp2 dAdd (mVar 1) (mRet (.int 1)))))
 (sSeq (sIf (q11 (mOp2 dEq (mVar 3) (mRet (.str "ring"))))
   (sSet 4 (mOp2 dMod (mOp2 dIx (mVar 2) (mRet (.int 1))) (mMM (λi j=>if j<i then j else i) (q01 (mRet (.int 3)) (q01 (mOp2 dAdd (mVar 1) (mRet (.int 1))) mNil)))))
   sNil)
 (sSeq (sSet 5 (mOp1 q4u (mOf (q21 1 [4] none (mSeq (mSl (mVar 2) (q66 (mRet (.int 2))) (q66 (mOp2 dAdd (mRet (.int 3)) (mOp2 dIx (mOf (mLst (q01 (mRet (.int 1)) (q01 (mRet (.int 0)) (q01 (mRet (.int 2)) (q01 (mRet (.int 1)) (q01 (mRet (.int 3)) mNil))))))) (mOp2 dMod (mOp2 dIx (mVar 2) (mRet (.int 6))) (mRet (.int 5)))))))) (gSet 0) (mRet true) (mOp2 dMod (mVar 0) (mOp2 dShl (mRet (.int 2)) (mVar 1)))))))
 (sSeq (sOwn 6 (mLst mNil))
 (sSeq (sFor (mSeq (mSl (mVar 2) (q66 (mRet (.int 7))) (q66 (mOp2 dAdd (mRet (.int 7)) (mOp2 dIx (mOf (mLst (q01 (mRet (.int 1)) (q01 (mRet (.int 2)) (q01 (mRet (.int 4)) (q01 (mRet (.int 3)) (q01 (mRet (.int 5)) (q01 (mRet (.int 6)) mNil)))))))) (mOp2 dMod (mOp2 dIx (mVar 2) (mRet (.int 13))) (mRet (.int 6)))))))) (gSet 7)
   (sMut q1n 6 (q01 (mOp1 q4u (mOf (q21 1 [7] none (q37 (q01 (mOp1 dLen (mVar 5)) mNil)) (gSet 0) (mRet true) (mOp2 dIx (mOf (mLst (q01 (mRet (.int 1)) (q01 (mRet (.int 1)) (q01 (mRet (.int 0)) (q01 (mRet (.int 1)) mNil)))))) (mOp2 dAnd (mOp2 dShr (mVar 1) (mOp2 q32 (mRet (.int 2)) (mVar 0))) (mRet (.int 3))))))) mNil)))
 (sRet (mTup (q01 (mVar 4) (q01 (mVar 5) (q01 (mOp1 q4u (mVar 6)) (q01 (mVar 3) mNil)))))))))))))
def f_y40:List D->Option D:=runP false 2 8 qix
theorem qsx:q1j 2 f_y40:=q16
theorem qpg(T:Txt K mg a):FnOk P w K mg base CX0 2 a.f_y40 a.fd_y40 ["_law_x","_law_top"] (spP K false 2 f_y40):=by
 have G_y39:=qbl (P:=P) (w:=w) (base:=base) T
 refine T.F_y40.ok sc_y40 (λ_ _ _ _ h=>h.1) (λcdv A outer s H vs Q E hr h=>?_)
 · refine⟨_,(q07 (q0t (i:=2) sc_y40.nd rfl (by walk_at "lr") (q0f G_y39 hr.m (by rfl) T.mg_y39 T.kp_y39 T.B_y39 .nil q10 (q00 (pv 0) (q00 q06 q05)))) (q07 (q0t (i:=3) sc_y40.nd rfl (by walk_at "lr") (q0w (q0a (K:=K) rfl) (q2i (q00 q2h (q00 q2h (q00 q2h (q00 q2h q05))))) (q0x q2a (q0w (q0a (K:=K) rfl) (pv 2) q06) q06))) (q07 (q0t (i:=4) sc_y40.nd rfl (by walk_at "lr") (q0x q2a (q0w (q0a (K:=K) rfl) (pv 2) q06) (q0x (q20 (K:=K) rfl) (pv 1) q06))) (q07 (q48 (q18 (q2b (K:=K) rfl hr.units) (pv 3) q2h (q1k _)) (q0b (q0t (i:=4) sc_y40.nd rfl (by walk_at "lr") (q0x q2a (q0w (q0a (K:=K) rfl) (pv 2) q06) (q1h (qgg rfl) (by rfl) T.z_min (by rfl) (q00 q06 (q00 (q0x (q20 (K:=K) rfl) (pv 1) q06) q05)))))) q2d) (q07 (q0t (i:=5) sc_y40.nd rfl (by walk_at "lr") (q3p (q3f (K:=K) rfl) (by rfl) T.z_tuple (by rfl) (q00 (q2f (sc:=q04 q8x) (N0:=["_law_x","_law_top","_law_xs","_law_ending","_law_reach","_law_taps","_law_rows","_law_y"]) rfl rfl rfl (show q1w _ _ ["_law_y","_law_reach"] 1 [4] _=true by decide+kernel) (q26 (K:=K) rfl (q4j (q5l (K:=K) rfl) (pv 2) (q4a q06) (q4a (q0x (q20 (K:=K) rfl) q06 (q0w (q0a (K:=K) rfl) (q2i (q00 q06 (q00 q06 (q00 q06 (q00 q06 (q00 q06 q05)))))) (q0x q2a (q0w (q0a (K:=K) rfl) (pv 2) q06) q06)))))) (λ_ _ _ _ _=>(q0s (i:=0) (show List.Nodup (["_law_y","_law_reach"]:List Str)from(by decide+kernel)) rfl (Or.inl rfl))) (q1q (by decide)) (λ_ _ _ _ _=>q24) (λ_ _ _ _ _=>(q0x q2a (pv 0) (q0x qf2 q06 (pv 1))))) q05))) (q07 (q0t (i:=6) sc_y40.nd rfl (by walk_at "lr") (q2i q05)) (q07 (q3a xf rfl (q26 (K:=K) rfl (q4j (q5l (K:=K) rfl) (pv 2) (q4a q06) (q4a (q0x (q20 (K:=K) rfl) q06 (q0w (q0a (K:=K) rfl) (q2i (q00 q06 (q00 q06 (q00 q06 (q00 q06 (q00 q06 (q00 q06 q05))))))) (q0x q2a (q0w (q0a (K:=K) rfl) (pv 2) q06) q06)))))) (q0s (i:=7) sc_y40.nd rfl (by walk_at "lr")) (q0b (q2e (q63 PySem.F.plainAttrs_list PySem.F.slot_list_append PySem.F.type_list_append q2x (pv 6) (q00 (q3p (q3f (K:=K) rfl) (by rfl) T.z_tuple (by rfl) (q00 (q2f (sc:=q04 q8x) (N0:=["_law_x","_law_top","_law_xs","_law_ending","_law_reach","_law_taps","_law_rows","_law_y"]) rfl rfl rfl (show q1w _ _ ["_law_k","_law_y"] 1 [7] _=true by decide+kernel) (q2g (by rfl) T.z_range (q00 (q1h (q1o (K:=K) rfl) (by rfl) T.z_len (by rfl) (q00 (pv 5) q05)) q05)) (λ_ _ _ _ _=>(q0s (i:=0) (show List.Nodup (["_law_k","_law_y"]:List Str)from(by decide+kernel)) rfl (Or.inl rfl))) (q1q (by decide)) (λ_ _ _ _ _=>q24) (λ_ _ _ _ _=>(q0w (q0a (K:=K) rfl) (q2i (q00 q06 (q00 q06 (q00 q06 (q00 q06 q05))))) (q0x q95 (q0x qjv (pv 1) (q0x (q30 (K:=K) rfl) q06 (pv 0))) q06)))) q05)) q05))))) (q0b (q0z (q3o (q00 (pv 4) (q00 (pv 5) (q00 (q3p (q3f (K:=K) rfl) (by rfl) T.z_tuple (by rfl) (q00 (pv 6) q05)) (q00 (pv 3) q05)))))))))))))),?_⟩
   exact q0j (O':=[]) (Nms:=["_law_x","_law_top","_law_xs","_law_ending","_law_reach","_law_taps","_law_rows","_law_y"]) (f:=qix) (by
     unfold qix
     exact(q0i (O1:=[]) (q12 (q1c (q1m qfc (q02 (q03 (i:=0)) (q02 me_int q08))))) (q0i (O1:=[]) (q12 (q0d q0y (q1c (q2p (q02 me_str (q02 me_str (q02 me_str (q02 me_str q08)))))) (q0d q2c (q0d q0y (q03 (i:=2)) me_int) me_int))) (q0i (O1:=[]) (q12 (q0d q2c (q0d q0y (q03 (i:=2)) me_int) (q0d q2s (q03 (i:=1)) me_int))) (q0i (O1:=[]) (q4c (q19 (q1l os_eq (q03 (i:=3)) me_str.mb)) (q12 (q0d q2c (q0d q0y (q03 (i:=2)) me_int) (qqp (q02 me_int (q02 (q0d q2s (q03 (i:=1)) me_int) q08))))) (q33 rfl)) (q0i (O1:=[]) (q12 (q4l q5i (q1c (q1x (bw:=none) (q2y (q4k (q03 (i:=2)) (q4d me_int) (q4d (q0d q2s me_int (q0d q0y (q1c (q2p (q02 me_int (q02 me_int (q02 me_int (q02 me_int (q02 me_int q08))))))) (q0d q2c (q0d q0y (q03 (i:=2)) me_int) me_int)))))) (q0u (i:=0)) q2w (q0d q2c (q03 (i:=0)) (q0d qf9 me_int (q03 (i:=1)))))))) (q0i (O1:=[6]) (q4b (q2p q08) rfl) (q0i (O1:=[]) (q6s (q3j (O':=[6]) (q2y (q4k (q03 (i:=2)) (q4d me_int) (q4d (q0d q2s me_int (q0d q0y (q1c (q2p (q02 me_int (q02 me_int (q02 me_int (q02 me_int (q02 me_int (q02 me_int q08)))))))) (q0d q2c (q0d q0y (q03 (i:=2)) me_int) me_int)))))) rfl (q0u (i:=7)) (q6v q3c (by decide) (q02 (q4l q5i (q1c (q1x (bw:=none) (q2k (q02 (q1v q3d q3r) q08)) (q0u (i:=0)) q2w (q0d q0y (q1c (q2p (q02 me_int (q02 me_int (q02 me_int (q02 me_int q08)))))) (q0d q96 (q0d qk6 (q03 (i:=1)) (q0d q31 me_int (q03 (i:=0)))) me_int))))) q08) rfl)) rfl) (q1b rfl (q3q (q02 (q03 (i:=4)) (q02 (q03 (i:=5)) (q02 (q4l q5i (q03 (i:=6))) (q02 (q03 (i:=3)) q08))))) rfl))))))))) h
def qn3:RhO:=
 (sSeq (sSet 3 (mOp2 dAdd (mOp2 q32 (mRet (.int 2)) (mVar 1)) (mVar 2)))
 (sSeq (sSet 4 (mOf (q21 1 [3] none (mSeq (mOp2 dIx (mVar 0) (mRet (.int 1)))) (gSet 0) (mRet true) (mOp2 dMod (mOp1 dSum (mOf (q21 1 [0,1] none (q37 (q01 (mRet (.int 5)) mNil)) (gSet 0) (mRet true) (mOp2 dAnd (mOp2 dShr (mOp2 dAnd (mVar 1) (mVar 2)) (mVar 0)) (mRet (.int 1)))))) (mRet (.int 2))))))
 (sRet (mTup (q01 (mOp2 dMod (mVar 3) (mOp2 dShl (mRet (.int 1)) (mOp2 dIx (mVar 0) (mRet (.int 0))))) (q01 (mVar 4) mNil))))))
def f_y41:List D->Option D:=runP false 3 5 qn3
theorem qsw:q1j 3 f_y41:=q16
theorem qpf(T:Txt K mg a):FnOk P w K mg base CX0 1 a.f_y41 a.fd_y41 ["_law_scheme_here","_law_room","_law_bit"] (spP K false 3 f_y41):=by
 refine T.F_y41.ok sc_y41 (λ_ _ _ _ h=>h.1) (λcdv A outer s H vs Q E hr h=>?_)
 · refine⟨_,(q07 (q0t (i:=3) sc_y41.nd rfl (by walk_at "lr") (q0x (q20 (K:=K) rfl) (q0x (q30 (K:=K) rfl) q06 (pv 1)) (pv 2))) (q07 (qhi (k:=4) (sc:=q04 q9u) (N0:=["_law_scheme_here","_law_room","_law_bit","_law_window","_law_signs"]) rfl rfl rfl (show q4g _ _ ["_law_tap","_law_window"] [3] _ "_law_tap"=true by decide+kernel) sc_y41.nd rfl (Or.inl rfl) (q26 (K:=K) rfl (q0w (q0a (K:=K) rfl) (pv 0) q06)) (λ_ _ _ _ _=>(q0s (i:=0) (show List.Nodup (["_law_tap","_law_window"]:List Str)from(by decide+kernel)) rfl (Or.inr rfl) (.inl (show decide (("_law_tap":Str)="_law_tap")=true from decide_eq_true rfl)))) (q1q (by decide)) (λ_ _ _ _ _=>q24) (λ_ _ _ _ _=>(q0x q2a (q1h (qc5 (K:=K) rfl rfl) (by rfl) T.z_sum (by rfl) (q00 (q2f (N0:=["_law_tap","_law_window"]) rfl rfl rfl (show q1w _ _ ["_law_k","_law_tap","_law_window"] 1 [0,1] _=true by kernel_rfl) (q2g (by rfl) (by exact T.z_range) (q00 q06 q05)) (λ_ _ _ _ _=>(q0s (i:=0) (show List.Nodup (["_law_k","_law_tap","_law_window"]:List Str)from(by decide+kernel)) rfl (Or.inl rfl))) (q1q (by decide)) (λ_ _ _ _ _=>q24) (λ_ _ _ _ _=>(q0x q95 (q0x qjv (q0x q95 (pv 1) (pv 2)) (pv 0)) q06))) q05)) q06))) (q0b (q0z (q3o (q00 (q0x q2a (pv 3) (q0x qf2 q06 (q0w (q0a (K:=K) rfl) (pv 0) q06))) (q00 (pv 4) q05))))))),?_⟩
   exact q0j (O':=[]) (Nms:=["_law_scheme_here","_law_room","_law_bit","_law_window","_law_signs"]) (f:=qn3) (by
     unfold qn3
     exact(q0i (O1:=[]) (q12 (q0d q2s (q0d q31 me_int (q03 (i:=1))) (q03 (i:=2)))) (q0i (O1:=[]) (q6t (q1x (bw:=none) (q2y (q0d q0y (q03 (i:=0)) me_int)) (q0u (i:=0)) q2w (q0d q2c (q1v qkk (q1c (q1x (bw:=none) (q2k (q02 me_int q08)) (q0u (i:=0)) q2w (q0d q96 (q0d qk6 (q0d q96 (q03 (i:=1)) (q03 (i:=2))) (q03 (i:=0))) me_int))).mb) me_int)) rfl (by decide)) (q1b rfl (q3q (q02 (q0d q2c (q03 (i:=3)) (q0d qf9 me_int (q0d q0y (q03 (i:=0)) me_int))) (q02 (q03 (i:=4)) q08))) rfl)))) h
def qiw:RhO:=
 (sSeq (sSet 3 (mOp2 dIx (mOp2 dIx (mVar 0) (mRet (.int 2))) (mOp2 dMod (mVar 1) (mOp1 dLen (mOp2 dIx (mVar 0) (mRet (.int 2)))))))
 (q7e (q21 2 [] none (mZip (q01 (mVar 2) (q01 (mVar 3) mNil))) (q25 2 (q0q (gSet 0) (q0q (gSet 1) q27))) (q11 (mOp2 dEq (mVar 1) (mRet (.int 1)))) (mVar 0))))
def f_y42:List D->Option D:=runP true 3 4 qiw
theorem qsv:q1j 3 f_y42:=q16
theorem qpe(T:Txt K mg a):FnOk P w K mg base CX0 1 a.f_y42 a.fd_y42 ["_law_scheme_here","_law_number","_law_signs"] (spP K true 3 f_y42):=by
 refine T.F_y42.ok sc_y42 (λ_ _ _ _ h=>h.1) (λcdv A outer s H vs Q E hr h=>?_)
 · refine⟨_,(q07 (q0t (i:=3) sc_y42.nd rfl (by walk_at "lr") (q0w (q0a (K:=K) rfl) (q0w (q0a (K:=K) rfl) (pv 0) q06) (q0x q2a (pv 1) (q1h (q1o (K:=K) rfl) (by rfl) T.z_len (by rfl) (q00 (q0w (q0a (K:=K) rfl) (pv 0) q06) q05))))) (q0b (q0z (q2f (sc:=q04 q9t) (N0:=["_law_scheme_here","_law_number","_law_signs","_law_row"]) rfl rfl rfl (show q1w _ _ ["_law_sign_here","_law_told"] 2 [] _=true by decide+kernel) (q5n (K:=K) rfl (by rfl) T.z_zip (q00 (pv 2) (q00 (pv 3) q05))) (λ_ _ _ _ _=>(q3x (K:=K) rfl rfl (q1p (q0s (i:=0) (show List.Nodup (["_law_sign_here","_law_told"]:List Str)from(by decide+kernel)) rfl (Or.inl rfl)) (q1p (q0s (i:=1) (show List.Nodup (["_law_sign_here","_law_told"]:List Str)from(by decide+kernel)) rfl (Or.inl rfl)) q3w)))) (q6c (by decide) (by decide)) (λ_ _ _ _ _=>(q84 (q18 (q2b (K:=K) rfl hr.units) (pv 1) q06 (q1k _)))) (λ_ _ _ _ _=>(pv 0)))))),?_⟩
   exact q0j (O':=[]) (Nms:=["_law_scheme_here","_law_number","_law_signs","_law_row"]) (f:=qiw) (by
     unfold qiw
     exact(q0i (O1:=[]) (q12 (q0d q0y (q0d q0y (q03 (i:=0)) me_int) (q0d q2c (q03 (i:=1)) (q1v q3d (q0d q0y (q03 (i:=0)) me_int).mb)))) (q6u rfl (q1x (bw:=none) (q7o (q02 (q03 (i:=2)) (q02 (q03 (i:=3)) q08))) (q59 (q1r (q0u (i:=0)) (q1r (q0u (i:=1)) q3y))) (q19 (q1l os_eq (q03 (i:=1)) me_int.mb)) (q03 (i:=0))) rfl))) h
def qdx:RhO:=
 (sSeq (sIf (q11 (mOp2 dEq (mOp2 dIx (mVar 0) (mRet (.int 3))) (mRet (.str "ended"))))
   (sRet (mOp2 dAdd (mVar 1) (mOp2 dIx (mVar 0) (mRet (.int 0)))))
   sNil)
 (sRet (mVar 1)))
def f_y43:List D->Option D:=runP false 2 2 qdx
theorem qq8:q1j 2 f_y43:=q16
theorem qjy(T:Txt K mg a):FnOk P w K mg base CX0 1 a.f_y43 a.fd_y43 ["_law_scheme_here","_law_size"] (spP K false 2 f_y43):=by
 refine T.F_y43.ok qo1 (λ_ _ _ _ h=>h.1) (λcdv A outer s H vs Q E hr h=>?_)
 · refine⟨_,(q07 (q48 (q18 (q2b (K:=K) rfl hr.units) (q0w (q0a (K:=K) rfl) (pv 0) q06) q2h (q1k _)) (q0b (q0z (q0x (q20 (K:=K) rfl) (pv 1) (q0w (q0a (K:=K) rfl) (pv 0) q06)))) q2d) (q0b (q0z (pv 1)))),?_⟩
   exact q0j (O':=[]) (Nms:=["_law_scheme_here","_law_size"]) (f:=qdx) (by
     unfold qdx
     exact(q0i (O1:=[]) (q4c (q19 (q1l os_eq (q0d q0y (q03 (i:=0)) me_int) me_str.mb)) (q1b rfl (q0d q2s (q03 (i:=1)) (q0d q0y (q03 (i:=0)) me_int)) rfl) (q33 rfl)) (q1b rfl (q03 (i:=1)) rfl))) h
def qn2:RhO:=
 (sSeq (sOwn 2 (mLst mNil))
 (sSeq (sFor (q37 (q01 (q0k f_y43 (q01 (mVar 0) (q01 (mVar 1) mNil))) mNil)) (gSet 3)
   (sExt 2 (q21 1 [3] none (mSeq (mOp2 dIx (mOp2 dIx (mVar 0) (mRet (.int 2))) (mOp2 dMod (mVar 3) (mOp1 dLen (mOp2 dIx (mVar 0) (mRet (.int 2))))))) (gSet 0) (q11 (mOp2 dEq (mVar 0) (mRet (.int 1)))) (mVar 1))))
 (q55 2)))
def f_y44:List D->Option D:=runP true 2 4 qn2
theorem qsu:q1j 2 f_y44:=q16
theorem qpd(T:Txt K mg a):FnOk P w K mg base CX0 2 a.f_y44 a.fd_y44 ["_law_scheme_here","_law_size"] (spP K true 2 f_y44):=by
 have G_y43:=qjy (P:=P) (w:=w) (base:=base) T
 refine T.F_y44.ok sc_y44 (λ_ _ _ _ h=>h.1) (λcdv A outer s H vs Q E hr h=>?_)
 · refine⟨_,(q07 (q0t (i:=2) sc_y44.nd rfl (by walk_at "lr") (q2i q05)) (q07 (q3a xf rfl (q2g (by rfl) T.z_range (q00 (q0f G_y43 hr.m (by rfl) T.mg_y43 T.kp_y43 T.B_y43 .nil q10 (q00 (pv 0) (q00 (pv 1) q05))) q05)) (q0s (i:=3) sc_y44.nd rfl (by walk_at "lr")) (q0b (q2e (q63 PySem.F.plainAttrs_list PySem.F.slot_list_extend PySem.F.type_list_extend q6r (pv 2) (q00 (q2f (sc:=q04 q9s) (N0:=["_law_scheme_here","_law_size","_law_found","_law_number"]) rfl rfl rfl (show q1w _ _ ["_law_told","_law_number"] 1 [3] _=true by decide+kernel) (q26 (K:=K) rfl (q0w (q0a (K:=K) rfl) (q0w (q0a (K:=K) rfl) (pv 0) q06) (q0x q2a (pv 3) (q1h (q1o (K:=K) rfl) (by rfl) T.z_len (by rfl) (q00 (q0w (q0a (K:=K) rfl) (pv 0) q06) q05))))) (λ_ _ _ _ _=>(q0s (i:=0) (show List.Nodup (["_law_told","_law_number"]:List Str)from(by decide+kernel)) rfl (Or.inl rfl))) (q1q (by decide)) (λ_ _ _ _ _=>(q84 (q18 (q2b (K:=K) rfl hr.units) (pv 0) q06 (q1k _)))) (λ_ _ _ _ _=>(pv 1))) q05))))) (q0b (q0z (pv 2))))),?_⟩
   exact q0j (O':=[]) (Nms:=["_law_scheme_here","_law_size","_law_found","_law_number"]) (f:=qn2) (by
     unfold qn2
     exact(q0i (O1:=[2]) (q4b (q2p q08) rfl) (q0i (O1:=[2]) (q3j (O':=[2]) (q2k (q02 (q0h qq8 (q02 (q03 (i:=0)) (q02 (q03 (i:=1)) q08))) q08)) rfl (q0u (i:=3)) (qfe (by decide) (q1x (bw:=none) (q2y (q0d q0y (q0d q0y (q03 (i:=0)) me_int) (q0d q2c (q03 (i:=3)) (q1v q3d (q0d q0y (q03 (i:=0)) me_int).mb)))) (q0u (i:=0)) (q19 (q1l os_eq (q03 (i:=0)) me_int.mb)) (q03 (i:=1))) rfl)) (q4w rfl (by first|decide|simp) rfl (by first|decide|simp))))) h
def qdw:RhO:=
 (sSeq (sSet 2 (mRet (.int 0)))
 (sSeq (sIf (q11 (mOp2 dEq (mOp2 dIx (mVar 0) (mRet (.int 3))) (mRet (.str "ring"))))
   (sFor (mSeq (mSl (mVar 1) (q66 (mOp2 dSub (mOp1 dLen (mVar 1)) (mOp2 dIx (mVar 0) (mRet (.int 0))))) (mRet none))) (gSet 3)
   (sSet 2 (mOp2 dAdd (mOp2 q32 (mRet (.int 2)) (mVar 2)) (mVar 3))))
   sNil)
 (sRet (mVar 2))))
def f_y45:List D->Option D:=runP false 2 4 qdw
theorem qst:q1j 2 f_y45:=q16
theorem qpc(T:Txt K mg a):FnOk P w K mg base CX0 1 a.f_y45 a.fd_y45 ["_law_scheme_here","_law_word"] (spP K false 2 f_y45):=by
 refine T.F_y45.ok sc_y45 (λ_ _ _ _ h=>h.1) (λcdv A outer s H vs Q E hr h=>?_)
 · refine⟨_,(q07 (q0t (i:=2) sc_y45.nd rfl (by walk_at "lr") q06) (q07 (q48 (q18 (q2b (K:=K) rfl hr.units) (q0w (q0a (K:=K) rfl) (pv 0) q06) q2h (q1k _)) (q0b (q3a xf rfl (q26 (K:=K) rfl (q4j (q5l (K:=K) rfl) (pv 1) (q4a (q0x q4r (q1h (q1o (K:=K) rfl) (by rfl) T.z_len (by rfl) (q00 (pv 1) q05)) (q0w (q0a (K:=K) rfl) (pv 0) q06))) q83)) (q0s (i:=3) sc_y45.nd rfl (by walk_at "lr")) (q0b (q0t (i:=2) sc_y45.nd rfl (by walk_at "lr") (q0x (q20 (K:=K) rfl) (q0x (q30 (K:=K) rfl) q06 (pv 2)) (pv 3)))))) q2d) (q0b (q0z (pv 2))))),?_⟩
   exact q0j (O':=[]) (Nms:=["_law_scheme_here","_law_word","_law_room","_law_bit"]) (f:=qdw) (by
     unfold qdw
     exact(q0i (O1:=[]) (q12 me_int) (q0i (O1:=[]) (q4c (q19 (q1l os_eq (q0d q0y (q03 (i:=0)) me_int) me_str.mb)) (q3j (O':=[]) (q2y (q4k (q03 (i:=1)) (q4d (q0d q4s (q1v q3d q3r) (q0d q0y (q03 (i:=0)) me_int))) q8a)) rfl (q0u (i:=3)) (q12 (q0d q2s (q0d q31 me_int (q03 (i:=2))) (q03 (i:=3))))) (q33 rfl)) (q1b rfl (q03 (i:=2)) rfl)))) h
def qn1:RhO:=
 (sSeq (sSet 2 (q0k f_y45 (q01 (mVar 0) (q01 (mVar 1) mNil))))
 (sSeq (sOwn 3 (mLst mNil))
 (sSeq (sFor (q37 (q01 (q0k f_y43 (q01 (mVar 0) (q01 (mOp1 dLen (mVar 1)) mNil))) mNil)) (gSet 4)
   (sSeq (sAsg (q0k f_y41 (q01 (mVar 0) (q01 (mVar 2) (q01 (mOp2 dIx (mOp2 dAdd (mVar 1) (mOf (mRep (mLst (q01 (mRet (.int 0)) mNil)) (mRet (.int 4))))) (mVar 4)) mNil)))) (q25 2 (q0q (gSet 2) (q0q (gSet 5) q27))))
 (sExt 3 (q1i f_y42 (q01 (mVar 0) (q01 (mVar 4) (q01 (mVar 5) mNil)))))))
 (q55 3))))
def f_y46:List D->Option D:=runP true 2 6 qn1
theorem qss:q1j 2 f_y46:=q16
theorem qpb(T:Txt K mg a):FnOk P w K mg base CX0 2 a.f_y46 a.fd_y46 ["_law_scheme_here","_law_word"] (spP K true 2 f_y46):=by
 have G_y45:=qpc (P:=P) (w:=w) (base:=base) T
 have G_y43:=qjy (P:=P) (w:=w) (base:=base) T
 have G_y41:=qpf (P:=P) (w:=w) (base:=base) T
 have G_y42:=qpe (P:=P) (w:=w) (base:=base) T
 refine T.F_y46.ok sc_y46 (λ_ _ _ _ h=>h.1) (λcdv A outer s H vs Q E hr h=>?_)
 · refine⟨_,(q07 (q0t (i:=2) sc_y46.nd rfl (by walk_at "lr") (q0f G_y45 hr.m (by rfl) T.mg_y45 T.kp_y45 T.B_y45 .nil q10 (q00 (pv 0) (q00 (pv 1) q05)))) (q07 (q0t (i:=3) sc_y46.nd rfl (by walk_at "lr") (q2i q05)) (q07 (q3a xf rfl (q2g (by rfl) T.z_range (q00 (q0f G_y43 hr.m (by rfl) T.mg_y43 T.kp_y43 T.B_y43 .nil q10 (q00 (pv 0) (q00 (q1h (q1o (K:=K) rfl) (by rfl) T.z_len (by rfl) (q00 (pv 1) q05)) q05))) q05)) (q0s (i:=4) sc_y46.nd rfl (by walk_at "lr")) (q07 (qjr (q0f G_y41 hr.m (by rfl) T.mg_y41 T.kp_y41 T.B_y41 .nil q10 (q00 (pv 0) (q00 (pv 2) (q00 (q0w (q0a (K:=K) rfl) (q0x (q20 (K:=K) rfl) (pv 1) (q0x qbk (q2i (q00 q06 q05)) q06)) (pv 4)) q05)))) (q3x (K:=K) rfl rfl (q1p (q0s (i:=2) sc_y46.nd rfl (by walk_at "lr")) (q1p (q0s (i:=5) sc_y46.nd rfl (by walk_at "lr")) q3w)))) (q0b (q2e (q63 PySem.F.plainAttrs_list PySem.F.slot_list_extend PySem.F.type_list_extend q6r (pv 3) (q00 (q0f G_y42 hr.m (by rfl) T.mg_y42 T.kp_y42 T.B_y42 .nil q10 (q00 (pv 0) (q00 (pv 4) (q00 (pv 5) q05)))) q05)))))) (q0b (q0z (pv 3)))))),?_⟩
   exact q0j (O':=[]) (Nms:=["_law_scheme_here","_law_word","_law_room","_law_found","_law_number","_law_signs"]) (f:=qn1) (by
     unfold qn1
     exact(q0i (O1:=[]) (q12 (q0h qst (q02 (q03 (i:=0)) (q02 (q03 (i:=1)) q08)))) (q0i (O1:=[3]) (q4b (q2p q08) rfl) (q0i (O1:=[3]) (q3j (O':=[3]) (q2k (q02 (q0h qq8 (q02 (q03 (i:=0)) (q02 (q1v q3d q3r) q08))) q08)) rfl (q0u (i:=4)) (q0i (O1:=[3]) (qqj (q0h qsw (q02 (q03 (i:=0)) (q02 (q03 (i:=2)) (q02 (q0d q0y (q0d q2s (q03 (i:=1)) (q1c (qbq (q2p (q02 me_int q08)) me_int))) (q03 (i:=4))) q08)))) rfl (q59 (q1r (q0u (i:=2)) (q1r (q0u (i:=5)) q3y)))) (qfe (by decide) (q1m qsv (q02 (q03 (i:=0)) (q02 (q03 (i:=4)) (q02 (q03 (i:=5)) q08)))) rfl))) (q4w rfl (by first|decide|simp) rfl (by first|decide|simp)))))) h
def qar:RhO:=
 (sSeq (sSet 1 (mOf (q1i f_y39 (q01 (mVar 0) (q01 (mRet (.int 5)) mNil)))))
 (sSeq (sSet 2 (mOp2 dMod (mOp2 dIx (mVar 1) (mRet (.int 0))) (mRet (.int 9))))
 (sSeq (sIf (q11 (mOp2 dLt (mVar 2) (mRet (.int 4))))
   (sRet (mTup (q01 (mRet (.str "clear")) (q01 (mOp2 dMod (mOp2 dIx (mVar 1) (mRet (.int 1))) (mRet (.int 2))) mNil))))
   sNil)
 (sSeq (sIf (q11 (mOp2 dEq (mVar 2) (mRet (.int 4))))
   (sRet (mTup (q01 (mRet (.str "gap")) mNil)))
   sNil)
 (sSeq (sIf (q11 (mOp2 dLt (mVar 2) (mRet (.int 8))))
   (sRet (mTup (q01 (mRet (.str "soft")) (q01 (mOp2 dSub (mOp2 dMod (mOp2 dIx (mVar 1) (mRet (.int 1))) (mRet (.int 5))) (mRet (.int 1))) (q01 (mOp2 dSub (mOp2 dMod (mOp2 dIx (mVar 1) (mRet (.int 2))) (mRet (.int 5))) (mRet (.int 1))) mNil)))))
   sNil)
 (sSeq (sSet 3 (mOp2 dSub (mOp2 dMod (mOp2 q32 (mOp2 q32 (mOp2 q32 (mOp2 dIx (mVar 1) (mRet (.int 1))) (mOp2 dIx (mVar 1) (mRet (.int 2)))) (mOp2 dIx (mVar 1) (mRet (.int 3)))) (mOp2 dIx (mVar 1) (mRet (.int 4)))) (mOp2 dSub (mOp2 q32 (mRet (.int 2)) (mOp2 dPow (mRet (.int 10)) (mRet (.int 60)))) (mRet (.int 3)))) (mOp2 dSub (mOp2 dPow (mRet (.int 10)) (mRet (.int 60))) (mRet (.int 2)))))
 (sRet (mTup (q01 (mRet (.str "soft")) (q01 (mVar 3) (q01 (mOp2 dSub (mOp2 dAdd (mVar 3) (mOp2 dMod (mOp2 dDiv (mOp2 dIx (mVar 1) (mRet (.int 0))) (mRet (.int 9))) (mRet (.int 3)))) (mRet (.int 1))) mNil)))))))))))
def f_y47:List D->Option D:=runP false 1 4 qar
theorem qq7:q1j 1 f_y47:=q16
theorem qpa(T:Txt K mg a):FnOk P w K mg base CX0 2 a.f_y47 a.fd_y47 ["_law_cell"] (spP K false 1 f_y47):=by
 have G_y39:=qbl (P:=P) (w:=w) (base:=base) T
 refine T.F_y47.ok sc_y47 (λ_ _ _ _ h=>h.1) (λcdv A outer s H vs Q E hr h=>?_)
 · refine⟨_,(q07 (q0t (i:=1) sc_y47.nd rfl (by walk_at "lr") (q0f G_y39 hr.m (by rfl) T.mg_y39 T.kp_y39 T.B_y39 .nil q10 (q00 (pv 0) (q00 q06 q05)))) (q07 (q0t (i:=2) sc_y47.nd rfl (by walk_at "lr") (q0x q2a (q0w (q0a (K:=K) rfl) (pv 1) q06) q06)) (q07 (q48 (q18 qf5 (pv 2) q06 (q1k _)) (q0b (q0z (q3o (q00 q2h (q00 (q0x q2a (q0w (q0a (K:=K) rfl) (pv 1) q06) q06) q05))))) q2d) (q07 (q48 (q18 (q2b (K:=K) rfl hr.units) (pv 2) q06 (q1k _)) (q0b (q0z (q3o (q00 q2h q05)))) q2d) (q07 (q48 (q18 qf5 (pv 2) q06 (q1k _)) (q0b (q0z (q3o (q00 q2h (q00 (q0x q4r (q0x q2a (q0w (q0a (K:=K) rfl) (pv 1) q06) q06) q06) (q00 (q0x q4r (q0x q2a (q0w (q0a (K:=K) rfl) (pv 1) q06) q06) q06) q05)))))) q2d) (q07 (q0t (i:=3) sc_y47.nd rfl (by walk_at "lr") (q0x q4r (q0x q2a (q0x (q30 (K:=K) rfl) (q0x (q30 (K:=K) rfl) (q0x (q30 (K:=K) rfl) (q0w (q0a (K:=K) rfl) (pv 1) q06) (q0w (q0a (K:=K) rfl) (pv 1) q06)) (q0w (q0a (K:=K) rfl) (pv 1) q06)) (q0w (q0a (K:=K) rfl) (pv 1) q06)) (q0x q4r (q0x (q30 (K:=K) rfl) q06 (q0x qjw q06 q06)) q06)) (q0x q4r (q0x qjw q06 q06) q06))) (q0b (q0z (q3o (q00 q2h (q00 (pv 3) (q00 (q0x q4r (q0x (q20 (K:=K) rfl) (pv 3) (q0x q2a (q0x qf6 (q0w (q0a (K:=K) rfl) (pv 1) q06) q06) q06)) q06) q05)))))))))))),?_⟩
   exact q0j (O':=[]) (Nms:=["_law_cell","_law_xs","_law_way","_law_great"]) (f:=qar) (by
     unfold qar
     exact(q0i (O1:=[]) (q12 (q1c (q1m qfc (q02 (q03 (i:=0)) (q02 me_int q08))))) (q0i (O1:=[]) (q12 (q0d q2c (q0d q0y (q03 (i:=1)) me_int) me_int)) (q0i (O1:=[]) (q4c (q19 (q1l qd9 (q03 (i:=2)) me_int.mb)) (q1b rfl (q3q (q02 me_str (q02 (q0d q2c (q0d q0y (q03 (i:=1)) me_int) me_int) q08))) rfl) (q33 rfl)) (q0i (O1:=[]) (q4c (q19 (q1l os_eq (q03 (i:=2)) me_int.mb)) (q1b rfl (q3q (q02 me_str q08)) rfl) (q33 rfl)) (q0i (O1:=[]) (q4c (q19 (q1l qd9 (q03 (i:=2)) me_int.mb)) (q1b rfl (q3q (q02 me_str (q02 (q0d q4s (q0d q2c (q0d q0y (q03 (i:=1)) me_int) me_int) me_int) (q02 (q0d q4s (q0d q2c (q0d q0y (q03 (i:=1)) me_int) me_int) me_int) q08)))) rfl) (q33 rfl)) (q0i (O1:=[]) (q12 (q0d q4s (q0d q2c (q0d q31 (q0d q31 (q0d q31 (q0d q0y (q03 (i:=1)) me_int) (q0d q0y (q03 (i:=1)) me_int)) (q0d q0y (q03 (i:=1)) me_int)) (q0d q0y (q03 (i:=1)) me_int)) (q0d q4s (q0d q31 me_int (q0d qk7 me_int me_int)) me_int)) (q0d q4s (q0d qk7 me_int me_int) me_int))) (q1b rfl (q3q (q02 me_str (q02 (q03 (i:=3)) (q02 (q0d q4s (q0d q2s (q03 (i:=3)) (q0d q2c (q0d qk8 (q0d q0y (q03 (i:=1)) me_int) me_int) me_int)) me_int) q08)))) rfl)))))))) h
def qiv:RhO:=
 (sSeq (sSet 3 (mOf (q21 1 [] none (mSeq (mSl (mVar 0) (mRet none) (q66 (mVar 1)))) (gSet 0) (mRet true) (q0k f_y47 (q01 (mVar 0) mNil)))))
 (q7e (qfl qg6 (mVar 3) (mOf (q21 1 [] none (mSeq (mOf (q1i f_y39 (q01 (mVar 2) (q01 (mOp2 dSub (mVar 1) (mOp1 dLen (mVar 3))) mNil))))) (gSet 0) (mRet true) (q0k f_y47 (q01 (mVar 0) mNil)))))))
def f_y48:List D->Option D:=runP true 3 4 qiv
theorem qsr:q1j 3 f_y48:=q16
theorem qp9(T:Txt K mg a):FnOk P w K mg base CX0 3 a.f_y48 a.fd_y48 ["_law_cells","_law_many","_law_x"] (spP K true 3 f_y48):=by
 have G_y47:=qpa (P:=P) (w:=w) (base:=base) T
 have G_y39:=qbl (P:=P) (w:=w) (base:=base) T
 refine T.F_y48.ok sc_y48 (λ_ _ _ _ h=>h.1) (λcdv A outer s H vs Q E hr h=>?_)
 · refine⟨_,(q07 (q6n (k:=3) (sc:=q04 q8w) (N0:=["_law_cells","_law_many","_law_x","_law_found"]) rfl rfl rfl (show q1w _ _ ["_law_cell"] 1 [] _=true by decide+kernel) sc_y48.nd rfl (Or.inl rfl) (q26 (K:=K) rfl (q4j (q5l (K:=K) rfl) (pv 0) q83 (q4a (pv 1)))) (λ_ _ _ _ _=>(q0s (i:=0) (show List.Nodup (["_law_cell"]:List Str)from(by decide+kernel)) rfl (Or.inl rfl))) (q1q (by decide)) (λ_ _ _ _ _=>q24) (λ_ _ _ _ _=>(q0f G_y47 hr.m (by rfl) T.mg_y47 T.kp_y47 T.B_y47 .nil q10 (q00 (pv 0) q05)))) (q0b (q0z (q0x (q20 (K:=K) rfl) (pv 3) (q2f (sc:=q04 q8w) (N0:=["_law_cells","_law_many","_law_x","_law_found"]) rfl rfl rfl (show q1w _ _ ["_law_y"] 1 [] _=true by decide+kernel) (q26 (K:=K) rfl (q0f G_y39 hr.m (by rfl) T.mg_y39 T.kp_y39 T.B_y39 .nil q10 (q00 (pv 2) (q00 (q0x q4r (pv 1) (q1h (q1o (K:=K) rfl) (by rfl) T.z_len (by rfl) (q00 (pv 3) q05))) q05)))) (λ_ _ _ _ _=>(q0s (i:=0) (show List.Nodup (["_law_y"]:List Str)from(by decide+kernel)) rfl (Or.inl rfl))) (q1q (by decide)) (λ_ _ _ _ _=>q24) (λ_ _ _ _ _=>(q0f G_y47 hr.m (by rfl) T.mg_y47 T.kp_y47 T.B_y47 .nil q10 (q00 (pv 0) q05)))))))),?_⟩
   exact q0j (O':=[]) (Nms:=["_law_cells","_law_many","_law_x","_law_found"]) (f:=qiv) (by
     unfold qiv
     exact(q0i (O1:=[]) (q6t (q1x (bw:=none) (q2y (q4k (q03 (i:=0)) q8a (q4d (q03 (i:=1))))) (q0u (i:=0)) q2w (q0h qq7 (q02 (q03 (i:=0)) q08))) rfl (by decide)) (q6u rfl (qqk qjx (q03 (i:=3)) (q1c (q1x (bw:=none) (q2y (q1c (q1m qfc (q02 (q03 (i:=2)) (q02 (q0d q4s (q03 (i:=1)) (q1v q3d q3r)) q08))))) (q0u (i:=0)) q2w (q0h qq7 (q02 (q03 (i:=0)) q08))))) rfl))) h
def qiu:RhO:=
 (sSeq (sOwn 2 (mLst mNil))
 (sSeq (sFor (mZip (q01 (mVar 0) (q01 (mVar 1) mNil))) (q25 2 (q0q (gSet 3) (q0q (gSet 4) q27)))
   (sSeq (sIf (mAnd (q11 (mOp2 dEq (mVar 4) (mRet (.int 1)))) (q11 (mOp2 dEq (mOp2 dIx (mVar 3) (mRet (.int 0))) (mRet (.str "clear")))))
   (sSet 3 (mTup (q01 (mRet (.str "clear")) (q01 (mOp2 dSub (mRet (.int 1)) (mOp2 dIx (mVar 3) (mRet (.int 1)))) mNil))))
   (sIf (mAnd (q11 (mOp2 dEq (mVar 4) (mRet (.int 1)))) (q11 (mOp2 dEq (mOp2 dIx (mVar 3) (mRet (.int 0))) (mRet (.str "soft")))))
   (sSet 3 (mTup (q01 (mRet (.str "soft")) (q01 (mOp2 dIx (mVar 3) (mRet (.int 2))) (q01 (mOp2 dIx (mVar 3) (mRet (.int 1))) mNil)))))
   sNil))
 (sMut q1n 2 (q01 (mVar 3) mNil))))
 (q55 2)))
def f_y49:List D->Option D:=runP true 2 5 qiu
theorem qsq:q1j 2 f_y49:=q16
theorem qp8(T:Txt K mg a):FnOk P w K mg base CX0 1 a.f_y49 a.fd_y49 ["_law_heard_here","_law_signs"] (spP K true 2 f_y49):=by
 refine T.F_y49.ok sc_y49 (λ_ _ _ _ h=>h.1) (λcdv A outer s H vs Q E hr h=>?_)
 · refine⟨_,(q07 (q0t (i:=2) sc_y49.nd rfl (by walk_at "lr") (q2i q05)) (q07 (q3a xf rfl (q5n (K:=K) rfl (by rfl) T.z_zip (q00 (pv 0) (q00 (pv 1) q05))) (q3x (K:=K) rfl rfl (q1p (q0s (i:=3) sc_y49.nd rfl (by walk_at "lr")) (q1p (q0s (i:=4) sc_y49.nd rfl (by walk_at "lr")) q3w))) (q07 (q48 (PW.pt (pw_and (q18 (q2b (K:=K) rfl hr.units) (pv 4) q06 (q1k _)) (pw_and1 (q18 (q2b (K:=K) rfl hr.units) (q0w (q0a (K:=K) rfl) (pv 3) q06) q2h (q1k _))))) (q0b (q0t (i:=3) sc_y49.nd rfl (by walk_at "lr") (q3o (q00 q2h (q00 (q0x q4r q06 (q0w (q0a (K:=K) rfl) (pv 3) q06)) q05))))) (q0b (q48 (PW.pt (pw_and (q18 (q2b (K:=K) rfl hr.units) (pv 4) q06 (q1k _)) (pw_and1 (q18 (q2b (K:=K) rfl hr.units) (q0w (q0a (K:=K) rfl) (pv 3) q06) q2h (q1k _))))) (q0b (q0t (i:=3) sc_y49.nd rfl (by walk_at "lr") (q3o (q00 q2h (q00 (q0w (q0a (K:=K) rfl) (pv 3) q06) (q00 (q0w (q0a (K:=K) rfl) (pv 3) q06) q05)))))) q2d))) (q0b (q2e (q63 PySem.F.plainAttrs_list PySem.F.slot_list_append PySem.F.type_list_append q2x (pv 2) (q00 (pv 3) q05)))))) (q0b (q0z (pv 2))))),?_⟩
   exact q0j (O':=[]) (Nms:=["_law_heard_here","_law_signs","_law_found","_law_told","_law_sign_here"]) (f:=qiu) (by
     unfold qiu
     exact(q0i (O1:=[2]) (q4b (q2p q08) rfl) (q0i (O1:=[2]) (q3j (O':=[2]) (q7o (q02 (q03 (i:=0)) (q02 (q03 (i:=1)) q08))) rfl (q59 (q1r (q0u (i:=3)) (q1r (q0u (i:=4)) q3y))) (q0i (O1:=[2]) (q4c (qfd (q19 (q1l os_eq (q03 (i:=4)) me_int.mb)) (q19 (q1l os_eq (q0d q0y (q03 (i:=3)) me_int) me_str.mb))) (q12 (q3q (q02 me_str (q02 (q0d q4s me_int (q0d q0y (q03 (i:=3)) me_int)) q08)))) (q4c (qfd (q19 (q1l os_eq (q03 (i:=4)) me_int.mb)) (q19 (q1l os_eq (q0d q0y (q03 (i:=3)) me_int) me_str.mb))) (q12 (q3q (q02 me_str (q02 (q0d q0y (q03 (i:=3)) me_int) (q02 (q0d q0y (q03 (i:=3)) me_int) q08))))) (q33 rfl))) (q6v q3c (by decide) (q02 (q03 (i:=3)) q08) rfl))) (q4w rfl (by first|decide|simp) rfl (by first|decide|simp))))) h
def qit:RhO:=
 (q7e (q21 2 [] none (mZip (q01 (mVar 0) (q01 (mVar 1) mNil))) (q25 2 (q0q (gSet 0) (q0q (gSet 1) q27))) (mRet true) (mOp2 dXor (mVar 0) (mVar 1))))
def f_y50:List D->Option D:=runP true 2 2 qit
theorem qq6:q1j 2 f_y50:=q16
theorem qp7(T:Txt K mg a):FnOk P w K mg base CX0 1 a.f_y50 a.fd_y50 ["_law_one","_law_other"] (spP K true 2 f_y50):=by
 refine T.F_y50.ok qo0 (λ_ _ _ _ h=>h.1) (λcdv A outer s H vs Q E hr h=>?_)
 · refine⟨_,(q0b (q0z (q2f (sc:=q04 q9r) (N0:=["_law_one","_law_other"]) rfl rfl rfl (show q1w _ _ ["_law_a","_law_b"] 2 [] _=true by decide+kernel) (q5n (K:=K) rfl (by rfl) T.z_zip (q00 (pv 0) (q00 (pv 1) q05))) (λ_ _ _ _ _=>(q3x (K:=K) rfl rfl (q1p (q0s (i:=0) (show List.Nodup (["_law_a","_law_b"]:List Str)from(by decide+kernel)) rfl (Or.inl rfl)) (q1p (q0s (i:=1) (show List.Nodup (["_law_a","_law_b"]:List Str)from(by decide+kernel)) rfl (Or.inl rfl)) q3w)))) (q6c (by decide) (by decide)) (λ_ _ _ _ _=>q24) (λ_ _ _ _ _=>(q0x qju (pv 0) (pv 1)))))),?_⟩
   exact q0j (O':=[]) (Nms:=["_law_one","_law_other"]) (f:=qit) (by
     unfold qit
     exact(q6u rfl (q1x (bw:=none) (q7o (q02 (q03 (i:=0)) (q02 (q03 (i:=1)) q08))) (q59 (q1r (q0u (i:=0)) (q1r (q0u (i:=1)) q3y))) q2w (q0d qk5 (q03 (i:=0)) (q03 (i:=1)))) rfl)) h
def qn5:RhO:=
 (sSeq (sSet 1 (mOf (q1i f_y39 (q01 (q0k f_y38 (q01 (mVar 0) (q01 (mRet (.int 0)) mNil))) (q01 (mRet (.int 3)) mNil)))))
 (sSeq (sSet 2 (q0k f_y40 (q01 (mOp2 dIx (mVar 1) (mRet (.int 0))) (q01 (mRet (.int 3)) mNil))))
 (sSeq (sSet 3 (mOp2 dMod (mOp2 dIx (mVar 1) (mRet (.int 1))) (mRet (.int 11))))
 (sSeq (sIf (q11 (mOp2 dEq (mOp2 dIx (mVar 2) (mRet (.int 3))) (mRet (.str "ring"))))
   (sSet 3 (mMM (λi j=>if j>i then j else i) (q01 (mVar 3) (q01 (mOp2 dIx (mVar 2) (mRet (.int 0))) mNil))))
   sNil)
 (sSeq (sSet 4 (mOf (q1i f_y48 (q01 (mSl (mVar 0) (q66 (mRet (.int 2))) (mRet none)) (q01 (mOp1 dLen (mOf (q1i f_y44 (q01 (mVar 2) (q01 (mVar 3) mNil))))) (q01 (mOp2 dIx (mVar 1) (mRet (.int 2))) mNil))))))
 (sSeq (sSet 5 (mOf (q21 1 [] none (mSeq (mOf (q1i f_y39 (q01 (q0k f_y38 (q01 (mVar 0) (q01 (mRet (.int 1)) mNil))) (q01 (mVar 3) mNil))))) (gSet 0) (mRet true) (mOp2 dMod (mVar 0) (mRet (.int 2))))))
 (sSeq (sSet 6 (mOf (q1i f_y49 (q01 (mVar 4) (q01 (mOf (q1i f_y46 (q01 (mVar 2) (q01 (mVar 5) mNil)))) mNil)))))
 (sSeq (sSet 7 (q0k f_y37 (q01 (mVar 2) (q01 (mVar 3) (q01 (mVar 4) mNil)))))
 (sSeq (sSet 8 (q0k f_y37 (q01 (mVar 2) (q01 (mVar 3) (q01 (mVar 6) mNil)))))
 (sSeq (sIf (mOr (q11 (mOp2 dNe (mOp2 dIx (mVar 7) (mRet (.int 0))) (mOp2 dIx (mVar 8) (mRet (.int 0))))) (q11 (mOp2 dNe (q0k f_y26 (q01 (mVar 2) (q01 (mOf (q1i f_y50 (q01 (mOp2 dIx (mVar 7) (mRet (.int 1))) (q01 (mVar 5) mNil)))) (q01 (mVar 6) mNil)))) (mOp2 dIx (mVar 7) (mRet (.int 0))))))
   (sRet (mRet (.bl false)))
   sNil)
 (sRet (mOp2 dEq (q0k f_y26 (q01 (mVar 2) (q01 (mOf (q1i f_y50 (q01 (mOp2 dIx (mVar 8) (mRet (.int 1))) (q01 (mVar 5) mNil)))) (q01 (mVar 4) mNil)))) (mOp2 dIx (mVar 8) (mRet (.int 0)))))))))))))))
def f_law:List D->Option D:=runP false 1 9 qn5
theorem qq1(T:Txt K mg a):FnOk P w K mg base CX0 8 a.f_law a.fd_law ["_law_script"] (spP K false 1 f_law):=by
 have G_y38:=qph (P:=P) (w:=w) (base:=base) T
 have G_y39:=qbl (P:=P) (w:=w) (base:=base) T
 have G_y40:=qpg (P:=P) (w:=w) (base:=base) T
 have G_y44:=qpd (P:=P) (w:=w) (base:=base) T
 have G_y48:=qp9 (P:=P) (w:=w) (base:=base) T
 have G_y46:=qpb (P:=P) (w:=w) (base:=base) T
 have G_y49:=qp8 (P:=P) (w:=w) (base:=base) T
 have G_y37:=qpi (P:=P) (w:=w) (base:=base) T
 have G_y50:=qp7 (P:=P) (w:=w) (base:=base) T
 have G_y26:=qps (P:=P) (w:=w) (base:=base) T
 refine T.F_law.ok sc_law (λ_ _ _ _ h=>h.1) (λcdv A outer s H vs Q E hr h=>?_)
 · refine⟨_,(q07 (q0t (i:=1) sc_law.nd rfl (by walk_at "lr") (q0f G_y39 hr.m (by rfl) T.mg_y39 T.kp_y39 T.B_y39 .nil q10 (q00 (q0f G_y38 hr.m (by rfl) T.mg_y38 T.kp_y38 T.B_y38 .nil q10 (q00 (pv 0) (q00 q06 q05))) (q00 q06 q05)))) (q07 (q0t (i:=2) sc_law.nd rfl (by walk_at "lr") (q0f G_y40 hr.m (by rfl) T.mg_y40 T.kp_y40 T.B_y40 .nil q10 (q00 (q0w (q0a (K:=K) rfl) (pv 1) q06) (q00 q06 q05)))) (q07 (q0t (i:=3) sc_law.nd rfl (by walk_at "lr") (q0x q2a (q0w (q0a (K:=K) rfl) (pv 1) q06) q06)) (q07 (q48 (q18 (q2b (K:=K) rfl hr.units) (q0w (q0a (K:=K) rfl) (pv 2) q06) q2h (q1k _)) (q0b (q0t (i:=3) sc_law.nd rfl (by walk_at "lr") (q1h (qgh rfl) (by rfl) T.z_max (by rfl) (q00 (pv 3) (q00 (q0w (q0a (K:=K) rfl) (pv 2) q06) q05))))) q2d) (q07 (q0t (i:=4) sc_law.nd rfl (by walk_at "lr") (q0f G_y48 hr.m (by rfl) T.mg_y48 T.kp_y48 T.B_y48 .nil q10 (q00 (q4j (q5l (K:=K) rfl) (pv 0) (q4a q06) q83) (q00 (q1h (q1o (K:=K) rfl) (by rfl) T.z_len (by rfl) (q00 (q0f G_y44 hr.m (by rfl) T.mg_y44 T.kp_y44 T.B_y44 .nil q10 (q00 (pv 2) (q00 (pv 3) q05))) q05)) (q00 (q0w (q0a (K:=K) rfl) (pv 1) q06) q05))))) (q07 (q6n (k:=5) (sc:=q04 qa3) (N0:=["_law_script","_law_hs","_law_scheme_here","_law_size","_law_heard_here","_law_word","_law_others","_law_one","_law_other"]) rfl rfl rfl (show q1w _ _ ["_law_x"] 1 [] _=true by decide+kernel) sc_law.nd rfl (Or.inl rfl) (q26 (K:=K) rfl (q0f G_y39 hr.m (by rfl) T.mg_y39 T.kp_y39 T.B_y39 .nil q10 (q00 (q0f G_y38 hr.m (by rfl) T.mg_y38 T.kp_y38 T.B_y38 .nil q10 (q00 (pv 0) (q00 q06 q05))) (q00 (pv 3) q05)))) (λ_ _ _ _ _=>(q0s (i:=0) (show List.Nodup (["_law_x"]:List Str)from(by decide+kernel)) rfl (Or.inl rfl))) (q1q (by decide)) (λ_ _ _ _ _=>q24) (λ_ _ _ _ _=>(q0x q2a (pv 0) q06))) (q07 (q0t (i:=6) sc_law.nd rfl (by walk_at "lr") (q0f G_y49 hr.m (by rfl) T.mg_y49 T.kp_y49 T.B_y49 .nil q10 (q00 (pv 4) (q00 (q0f G_y46 hr.m (by rfl) T.mg_y46 T.kp_y46 T.B_y46 .nil q10 (q00 (pv 2) (q00 (pv 5) q05))) q05)))) (q07 (q0t (i:=7) sc_law.nd rfl (by walk_at "lr") (q0f G_y37 hr.m (by rfl) T.mg_y37 T.kp_y37 T.B_y37 .nil q10 (q00 (pv 2) (q00 (pv 3) (q00 (pv 4) q05))))) (q07 (q0t (i:=8) sc_law.nd rfl (by walk_at "lr") (q0f G_y37 hr.m (by rfl) T.mg_y37 T.kp_y37 T.B_y37 .nil q10 (q00 (pv 2) (q00 (pv 3) (q00 (pv 6) q05))))) (q07 (q48 (PW.pt (pw_or (q18 (qf4 (K:=K) rfl hr.units) (q0w (q0a (K:=K) rfl) (pv 7) q06) (q0w (q0a (K:=K) rfl) (pv 8) q06) (q1k _)) (pw_or1 (q18 (qf4 (K:=K) rfl hr.units) (q0f G_y26 hr.m (by rfl) T.mg_y26 T.kp_y26 T.B_y26 .nil q10 (q00 (pv 2) (q00 (q0f G_y50 hr.m (by rfl) T.mg_y50 T.kp_y50 T.B_y50 .nil q10 (q00 (q0w (q0a (K:=K) rfl) (pv 7) q06) (q00 (pv 5) q05))) (q00 (pv 6) q05)))) (q0w (q0a (K:=K) rfl) (pv 7) q06) (q1k _))))) (q0b (q0z qsh)) q2d) (q0b (q0z (qeu (q2b (K:=K) rfl hr.units) (q0f G_y26 hr.m (by rfl) T.mg_y26 T.kp_y26 T.B_y26 .nil q10 (q00 (pv 2) (q00 (q0f G_y50 hr.m (by rfl) T.mg_y50 T.kp_y50 T.B_y50 .nil q10 (q00 (q0w (q0a (K:=K) rfl) (pv 8) q06) (q00 (pv 5) q05))) (q00 (pv 4) q05)))) (q0w (q0a (K:=K) rfl) (pv 8) q06) (q1k _)))))))))))))),?_⟩
   exact q0j (O':=[]) (Nms:=["_law_script","_law_hs","_law_scheme_here","_law_size","_law_heard_here","_law_word","_law_others","_law_one","_law_other"]) (f:=qn5) (by
     unfold qn5
     exact(q0i (O1:=[]) (q12 (q1c (q1m qfc (q02 (q0h qq9 (q02 (q03 (i:=0)) (q02 me_int q08))) (q02 me_int q08))))) (q0i (O1:=[]) (q12 (q0h qsx (q02 (q0d q0y (q03 (i:=1)) me_int) (q02 me_int q08)))) (q0i (O1:=[]) (q12 (q0d q2c (q0d q0y (q03 (i:=1)) me_int) me_int)) (q0i (O1:=[]) (q4c (q19 (q1l os_eq (q0d q0y (q03 (i:=2)) me_int) me_str.mb)) (q12 (qqp (q02 (q03 (i:=3)) (q02 (q0d q0y (q03 (i:=2)) me_int) q08)))) (q33 rfl)) (q0i (O1:=[]) (q12 (q1c (q1m qsr (q02 (q4k (q03 (i:=0)) (q4d me_int) q8a) (q02 (q1v q3d (q1c (q1m qsu (q02 (q03 (i:=2)) (q02 (q03 (i:=3)) q08)))).mb) (q02 (q0d q0y (q03 (i:=1)) me_int) q08)))))) (q0i (O1:=[]) (q6t (q1x (bw:=none) (q2y (q1c (q1m qfc (q02 (q0h qq9 (q02 (q03 (i:=0)) (q02 me_int q08))) (q02 (q03 (i:=3)) q08))))) (q0u (i:=0)) q2w (q0d q2c (q03 (i:=0)) me_int)) rfl (by decide)) (q0i (O1:=[]) (q12 (q1c (q1m qsq (q02 (q03 (i:=4)) (q02 (q1c (q1m qss (q02 (q03 (i:=2)) (q02 (q03 (i:=5)) q08)))) q08))))) (q0i (O1:=[]) (q12 (q0h qqa (q02 (q03 (i:=2)) (q02 (q03 (i:=3)) (q02 (q03 (i:=4)) q08))))) (q0i (O1:=[]) (q12 (q0h qqa (q02 (q03 (i:=2)) (q02 (q03 (i:=3)) (q02 (q03 (i:=6)) q08))))) (q0i (O1:=[]) (q4c (qtd (q19 (q1l qlc (q0d q0y (q03 (i:=7)) me_int) (q0d q0y (q03 (i:=8)) me_int).mb)) (q19 (q1l qlc (q0h qqc (q02 (q03 (i:=2)) (q02 (q1c (q1m qq6 (q02 (q0d q0y (q03 (i:=7)) me_int) (q02 (q03 (i:=5)) q08)))) (q02 (q03 (i:=6)) q08)))) (q0d q0y (q03 (i:=7)) me_int).mb))) (q1b rfl qtf rfl) (q33 rfl)) (q1b rfl (q1l os_eq (q0h qqc (q02 (q03 (i:=2)) (q02 (q1c (q1m qq6 (q02 (q0d q0y (q03 (i:=8)) me_int) (q02 (q03 (i:=5)) q08)))) (q02 (q03 (i:=4)) q08)))) (q0d q0y (q03 (i:=8)) me_int).mb) rfl)))))))))))) h
end
section
variable{r:Int}{taps:List Int}{rows:List (List Int)}{e:Str}
theorem p_y1(ok:q22 r taps rows e):f_y1 [schD r taps rows e]=some (.int (2^r.toNat)):=by
 have r0:=ok.r0
 have r4:=ok.r4
 have r6:r<=1000000:=by omega
 have hr:f_y0 [.int r]=some (.int (2^r.toNat)):=by
   unfold f_y0 b_y0
   clear ok
   walk_at "ev"
 unfold f_y1 b_y1 schD
 clear ok
 walk_at "ev"
theorem qew(n:D):∀(f j0:Nat) (l o:Int),0<=l->l.toNat<2^f->(o=0∨o=1)->f<j0->∃l':Int,q2v (q11 (mOp2 dGt (mVar 1) (mRet (.int 0))))
   (sSeq (sSet 2 (mOp2 dXor (mVar 2) (mOp2 dAnd (mVar 1) (mRet (.int 1)))))
 (sSet 1 (mOp2 dDiv (mVar 1) (mRet (.int 2))))) j0 [some n,some (.int l),some (.int o)]=some (.nx [some n,some (.int l'),some (.int ((o+(parF f l.toNat:Nat)) % 2))])
 |_,0,_,_,_,_,_,h=>absurd h (Nat.not_lt_zero _)
 | f,j0+1,l,o,l0,lf,ho,hf=>by
   have ht:(q11 (mOp2 dGt (mVar 1) (mRet (.int 0)))) [some n,some (.int l),some (.int o)]=some (decide (0<l),[some n,some (.int l),some (.int o)]):=by
     walk_at "ev"
   by_cases hl:0<l
   · cases f with
     |zero=>exact absurd lf (by omega)
     | succ f=>
       have hb:(sSeq (sSet 2 (mOp2 dXor (mVar 2) (mOp2 dAnd (mVar 1) (mRet (.int 1))))) (sSet 1 (mOp2 dDiv (mVar 1) (mRet (.int 2))))) [some n,some (.int l),some (.int o)]=some (.nx [some n,some (.int (l / 2)),some (.int (Builtin.bitXor o (Builtin.bitAnd l 1)))]):=by
         clear ht
         walk_at "ev"
       have ex:Builtin.bitXor o (Builtin.bitAnd l 1)=(o+l % 2) % 2:=by rw[qgr l0];exact qaz ho (by omega)
       have e2:(l / 2).toNat=l.toNat / 2:=by omega
       have lt2:(l / 2).toNat<2^f:=by rw[e2];rw[Nat.pow_succ]at lf;omega
       obtain⟨l',ih⟩:=qew n f j0 (l / 2) (Builtin.bitXor o (Builtin.bitAnd l 1)) (by omega) lt2 (by rw[ex];omega) (by omega)
       refine⟨l',?_⟩
       rw[decide_eq_true hl]at ht
       unfold q2v
       rw[ht]
       dsimp only
       rw[hb]
       dsimp only
       rw[ih,ex,e2]
       have u:parF (f+1) l.toNat=(l.toNat % 2+parF f (l.toNat / 2)) % 2:=rfl
       rw[u]
       have ev:((o+l % 2) % 2+(parF f (l.toNat / 2):Nat)) % 2=(o+(((l.toNat % 2+parF f (l.toNat / 2)) % 2:Nat):Int)) % 2:=by omega
       rw[ev]
   · rw[decide_eq_false hl]at ht
     refine⟨l,?_⟩
     unfold q2v
     rw[ht]
     dsimp only
     have e0:l=0:=by omega
     subst e0
     rw[show((0:Int)).toNat=0 from rfl,q6q]
     have ev:(o+((0:Nat):Int)) % 2=o:=by omega
     rw[ev]
theorem p_y2(n:Int)(h0:0<=n)(h:n<32):f_y2 [.int n]=some (.int (parF 5 n.toNat:Nat)):=by
 obtain⟨l',hw⟩:=qew (.int n) 5 1000 n 0 h0 (by omega) (.inl rfl) (by decide)
 have e1:((0:Int)+(parF 5 n.toNat:Nat)) % 2=(parF 5 n.toNat:Nat):=by
   have:=ql6 5 n.toNat
   omega
 rw[e1]at hw
 generalize parF 5 n.toNat=p at hw ⊢
 unfold f_y2 b_y2
 generalize (1000:Nat)=j0 at hw ⊢
 clear h0 h e1
 walk_at "ev"
theorem p_y3(ok:q22 r taps rows e)(z9 bit:Int)(a0:0<=z9)(a1:z9<2^r.toNat)(hb:bit=0∨bit=1):
   f_y3 [schD r taps rows e,.int z9,.int bit]=some (.tup [.int ((2*z9+bit) % 2^r.toNat),.tup ((taps.map (sgn (2*z9+bit))).map D.int)]):=by
 have p16:=q49 ok.r0 ok.r4
 have hr:=p_y1 ok
 have hp:=p_y2
 have m0:(0:Int)<2^r.toNat:=by omega
 have cm:=q43 (n:=1) (js:=[3]) (fg:=gSet 0) (fe:=q0k f_y2 (q01 (mOp2 dAnd (mVar 1) (mVar 0)) mNil)) (ρ:=[some (schD r taps rows e),some (.int z9),some (.int bit),some (.int (2*z9+bit)),none]) (λd=>match d with|.int t=>.int (sgn (2*z9+bit) t)|d=>d) (taps.map D.int) (λx hx=>by
       obtain⟨t,ht,rfl⟩:=List.mem_map.mp hx
       refine⟨[some (.int t),some (.int (2*z9+bit))],rfl,?_⟩
       have tb:=ok.tb t ht
       have w0:0<=2*z9+bit:=by omega
       have ea:=qax w0 tb.1
       have lt:(2*z9+bit).toNat &&& t.toNat<32:=Nat.lt_of_le_of_lt Nat.and_le_left (by omega)
       have hq:=p_y2 (((2*z9+bit).toNat &&& t.toNat:Nat):Int) (by omega) (by omega)
       rw[jx,<-ea]at hq
       show _=some (D.int (sgn (2*z9+bit) t))
       unfold sgn
       generalize 2*z9+bit=W at hq ⊢
       generalize parF 5 (W.toNat &&& t.toNat)=z at hq ⊢
       clear hx ht tb w0 ea lt hr hp hb a0 a1 m0 p16
       walk_at "ev")
 have e2:(taps.map D.int).map (λd=>match d with|.int t=>D.int (sgn (2*z9+bit) t)|d=>d)=(taps.map (sgn (2*z9+bit))).map D.int:=by
   rw[jk,jk]
   rfl
 rw[e2]at cm
 have ll:(taps.map D.int).length<=sizeLine:=by rw[j6];exact q17 (by have:=ok.t4;omega)
 unfold f_y3 b_y3
 unfold schD at cm hr ⊢
 generalize (taps.map (sgn (2*z9+bit))).map D.int=S at cm ⊢
 generalize taps.map D.int=TS at cm hr ll ⊢
 generalize (2:Int)^r.toNat=m at hr m0 a1 p16 ⊢
 have two:2<=sizeLine:=by decide
 clear ok hp hb a0 a1 p16 e2
 walk_at "ev"
theorem qbf(ok:q22 r taps rows e):f_y5 [schD r taps rows e]=some (.bl (isRing e)):=by
 have h1:=s_or
 have h2:=s_er
 have h3:=s_rr
 unfold f_y5 b_y5 schD isRing
 rcases ok.en with rfl|rfl|rfl
 · rw[decide_eq_false (by decide)]
   clear ok
   walk_at "ev"
 · rw[decide_eq_false (by decide)]
   clear ok
   walk_at "ev"
 · rw[decide_eq_true rfl]
   clear ok
   walk_at "ev"
theorem qf0(ok:q22 r taps rows e)(n:Int)(h:e="ring"->r<=n):f_y6 [schD r taps rows e,.int n]=some .non:=by
 have hr:=qbf ok
 unfold f_y6 b_y6
 cases hi:isRing e with
 | false=>
   rw[hi]at hr
   clear ok hi
   generalize schD r taps rows e=S at hr ⊢
   walk_at "ev"
 | true=>
   rw[hi]at hr
   have hn:¬n<r:=by have:=h (of_decide_eq_true hi);omega
   unfold schD at hr ⊢
   clear ok hi h
   walk_at "ev"
theorem qbj(ok:q22 r taps rows e):f_y7 [schD r taps rows e]=some (.int (q09 r e:Nat)):=by
 have h1:=s_oe
 have h2:=s_ee
 have h3:=s_re
 have r0:=ok.r0
 have er:((r.toNat:Nat):Int)=r:=by omega
 unfold f_y7 b_y7 schD q09
 rcases ok.en with rfl|rfl|rfl
 · rw[if_neg (by decide)]
   clear ok
   walk_at "ev"
 · rw[if_pos rfl,er]
   clear ok er
   walk_at "ev"
 · rw[if_neg (by decide)]
   clear ok
   walk_at "ev"
theorem q2u(ok:q22 r taps rows e):q09 r e<=4:=by
 have:=ok.r4
 unfold q09
 split<;>omega
theorem qjt(ok:q22 r taps rows e)(w:List Int)(hw:e="ring"->r.toNat<=w.length)(hl:w.length<=1000):f_y8 [schD r taps rows e,.lst (w.map D.int)]=some (.lst ((q2t r e w).map D.int)):=by
 have r0:=ok.r0
 have hc:=qf0 ok ((w.map D.int).length:Nat) (λq=>by have:=hw q;rw[j6];omega)
 have hz:=qbj ok
 have z4:=q2u ok
 have hr:repO [D.int 0] (.int (q09 r e:Nat))=some (List.replicate (q09 r e) (.int 0)):=by
   rw[q82 _ (by omega) (by omega),jx]
 have e1:(q2t r e w).map D.int=w.map D.int++List.replicate (q09 r e) (.int 0):=by
   rw[q38,ju,List.map_replicate]
 rw[e1]
 have ll:(w.map D.int).length+(List.replicate (q09 r e) (D.int 0)).length<=sizeLine:=by rw[j6,ji];exact q17 (by omega)
 have one:1<=sizeLine:=by decide
 unfold f_y8 b_y8
 generalize schD r taps rows e=S at hc hz ⊢
 generalize List.replicate (q09 r e) (D.int 0)=Z at hr ll ⊢
 generalize q09 r e=z at hz hr
 generalize w.map D.int=W at hc ll ⊢
 clear ok hw hl r0 z4 e1
 have hrep:(mRep (mLst (q01 (mRet (.int 0)) mNil)) (q0k f_y7 (q01 (mVar 0) mNil))) [some S,some (.lst W)]=some (Z,[some S,some (.lst W)]):=by
   refine qb4 (xs:=[.int 0]) (y:=.int (z:Nat)) (ρ1:=[some S,some (.lst W)]) ?_ ?_ hr
   · clear hc hz hr ll
     walk_at "ev"
   · clear hc hr ll one
     walk_at "ev"
 generalize (mRep (mLst (q01 (mRet (.int 0)) mNil)) (q0k f_y7 (q01 (mVar 0) mNil)))=FR at hrep ⊢
 clear hr hz one
 walk_at "ev"
theorem qla(ok:q22 r taps rows e)(w:List Int)(hw:e="ring"->r.toNat<=w.length)(hl:w.length<=1000):f_y9 [schD r taps rows e,.lst (w.map D.int)]=some (.int (frst r e w)):=by
 have hr:=qbf ok
 have r0:=ok.r0
 unfold f_y9 b_y9 frst
 cases hi:isRing e with
 | false=>
   rw[hi]at hr
   rw[if_neg (of_decide_eq_false hi)]
   generalize schD r taps rows e=S at hr ⊢
   generalize w.map D.int=W
   clear ok hi hw
   walk_at "ev"
 | true=>
   have he:e="ring":=of_decide_eq_true hi
   rw[hi]at hr
   rw[if_pos he]
   have hn:=hw he
   obtain⟨ρ',l1,v,hρ⟩:=q2n (fg:=gSet 3) (fb:=sSet 2 (mOp2 dAdd (mOp2 q32 (mRet (.int 2)) (mVar 2)) (mVar 3))) (λk ρ=>∃v,ρ=[some (schD r taps rows e),some (.lst (w.map D.int)),some (.int (writ ((w.drop (w.length-r.toNat)).take k))),v]) ((w.drop (w.length-r.toNat)).map D.int) 0 [some (schD r taps rows e),some (.lst (w.map D.int)),some (.int 0),none] ⟨none,rfl⟩ (λi x ρ hx ⟨v,hρ⟩=>by
       subst hρ
       rw[jb]at hx
       cases q:(w.drop (w.length-r.toNat))[i]? with
       |none=>rw[q]at hx;cases hx
       | some b=>
         rw[q]at hx
         cases hx
         generalize w.drop (w.length-r.toNat)=u at q ⊢
         rw[jr,take_snoc q,q44]
         refine⟨_,[some (schD r taps rows e),some (.lst (w.map D.int)),some (.int (2*writ (u.take i)+b)),some (.int b)],rfl,.inl ?_,some (.int b),by rw[Int.mul_comm]⟩
         generalize writ (u.take i)=z
         generalize schD r taps rows e=S
         generalize w.map D.int=W
         clear q hr ok hi hw he hn
         walk_at "ev")
   subst hρ
   rw[j6,jr,List.take_length]at l1
   have sl:dSl (.lst (w.map D.int)) (some ((w.length:Int)-r)) none=some (.lst ((w.drop (w.length-r.toNat)).map D.int)):=by
     rw[q5g (by omega),<-List.map_drop]
     have:((w.length:Int)-r).toNat=w.length-r.toNat:=by omega
     rw[this]
   have lm:((w.map D.int).length:Int)=(w.length:Int):=by rw[j6]
   generalize w.drop (w.length-r.toNat)=u at l1 sl ⊢
   rw[<-lm]at sl
   unfold schD at hr l1 ⊢
   generalize u.map D.int=U at l1 sl
   generalize w.map D.int=W at l1 sl
   clear ok hw hn r0 hl lm hi he
   walk_at "ev"
theorem qak(ok:q22 r taps rows e)(w:List Int)(hb:Bits w)(hw:e="ring"->r.toNat<=w.length):0<=frst r e w/\frst r e w<2^r.toNat:=by
 have r0:=ok.r0
 have m0:(0:Int)<2^r.toNat:=Int.pow_pos (by decide)
 unfold frst
 split
 · rename_i q
   have:=q45 (w.drop (w.length-r.toNat)) λb h=>hb b (List.mem_of_mem_drop h)
   have hl:(w.drop (w.length-r.toNat)).length=r.toNat:=by have:=hw q;rw[xl];omega
   rw[hl]at this
   exact this
 · exact⟨Int.le_refl _,m0⟩
theorem q5t{w:List Int}(hb:Bits w):Bits (q2t r e w):=by
 rw[q38]
 exact q4n hb (q41 _)
theorem qey(ok:q22 r taps rows e)(w:List Int)(hb:Bits w)(hw:e="ring"->r.toNat<=w.length)(hl:w.length<=60):
   f_y11 [schD r taps rows e,.lst (w.map D.int)]=some (.lst ((wayR (2^r.toNat) (frst r e w) (q2t r e w)).map D.int)):=by
 have h1:=qjt ok w hw (by omega)
 have h2:=qla ok w hw (by omega)
 have hlt:=qak ok w hb hw
 have hbl:(q2t r e w).length<=64:=qbu ok w hl
 have hbb:Bits (q2t r e w):=q5t hb
 have m0:(0:Int)<2^r.toNat:=Int.pow_pos (by decide)
 have hs:=p_y3 ok
 generalize frst r e w=a at h2 hlt ⊢
 generalize q2t r e w=u at h1 hbl hbb ⊢
 obtain⟨ρ',l1,v4,hρ⟩:=q2n (fg:=gSet 4) (fb:=sMut q1n 3 (q01 (mOp2 dIx (q0k f_y3 (q01 (mVar 0) (q01 (mIxO 3 (mOp1 dNeg (mRet (.int 1)))) (q01 (mVar 4) mNil)))) (mRet (.int 0))) mNil))
   (λk ρ=>∃v4,ρ=[some (schD r taps rows e),some (.lst (w.map D.int)),some (.lst (u.map D.int)),some (.lst ((wayR (2^r.toNat) a (u.take k)).map D.int)),v4]) (u.map D.int) 0
   [some (schD r taps rows e),some (.lst (w.map D.int)),some (.lst (u.map D.int)),some (.lst [.int a]),none] ⟨none,rfl⟩ (λi x ρ hx ⟨v4,hρ⟩=>by
     subst hρ
     rw[jb]at hx
     cases q:u[i]? with
     |none=>rw[q]at hx;cases hx
     | some b=>
       rw[q]at hx
       cases hx
       have hi:i<u.length:=(List.getElem?_eq_some_iff.mp q).1
       rw[jr,take_snoc q,qe0]
       have la:=qe1 (2^r.toNat) a (u.take i)
       have ln:((wayR (2^r.toNat) a (u.take i)).map D.int).length<sizeLine:=by rw[j6,qb0,jz];exact jm (by omega:_<2000) (q17 (by decide))
       rw[ju]
       have zl:=q3n m0 (u.take i) a hlt
       have st:=hs (endR (2^r.toNat) a (u.take i)) b zl.1 zl.2 (hbb b (x9 q))
       have e3:endR (2^r.toNat) a (u.take i)+endR (2^r.toNat) a (u.take i)+b=2*endR (2^r.toNat) a (u.take i)+b:=by omega
       rw[e3]
       generalize endR (2^r.toNat) a (u.take i)=z at la st ⊢
       generalize (wayR (2^r.toNat) a (u.take i)).map D.int=Y at la ln ⊢
       generalize (taps.map (sgn (2*z+b))).map D.int=S2 at st
       generalize (2*z+b) % 2^r.toNat=nz at st ⊢
       refine⟨_,[some (schD r taps rows e),some (.lst (w.map D.int)),some (.lst (u.map D.int)),some (.lst (Y++[.int nz])),some (.int b)],rfl,.inl ?_,some (.int b),rfl⟩
       generalize schD r taps rows e=S at st ⊢
       generalize u.map D.int=U
       generalize w.map D.int=W
       clear q hi h1 h2 hs e3 zl hbb hbl hb hw ok hlt m0
       walk_at "ev")
 subst hρ
 rw[j6,jr,List.take_length]at l1
 have one:1<=sizeLine:=by decide
 unfold f_y11 qjg
 generalize (wayR (2^r.toNat) a u).map D.int=Y at l1 ⊢
 generalize schD r taps rows e=S at h1 h2 l1 ⊢
 generalize u.map D.int=U at l1 h1 ⊢
 generalize w.map D.int=W at l1 h1 h2 ⊢
 clear hs hbb hbl hb hw ok hlt m0 hl
 walk_at "ev"
theorem qei(ok:q22 r taps rows e)(k:Nat):atI (rows.map rowD) ((k:Int) % ((rows.map rowD).length:Nat))=some (.tup ((rowAt rows k).map D.int)):=by
 have m1:=ok.m1
 have hk:k % rows.length<rows.length:=Nat.mod_lt _ (by omega)
 have e1:((k:Int) % ((rows.map rowD).length:Nat))=((k % rows.length:Nat):Int):=by rw[j6];exact(Int.natCast_emod k rows.length).symm
 rw[e1,q3t (by omega) (by rw[j6];omega),jx,jb]
 unfold rowAt
 rw[jc hk]
 rfl
theorem q86(ok:q22 r taps rows e)(k:Nat)(signs:List Int)(hl:signs.length<=1000):
   f_y4 [schD r taps rows e,.int k,.tup (signs.map D.int)]=some (.tup ((q3v (rowAt rows k) signs).map D.int)):=by
 have hr:=qei ok k
 have zd:0<(rows.map rowD).length:=by have:=ok.m1;rw[j6];omega
 have hz:zipD (signs.map D.int) ((rowAt rows k).map D.int)=(signs.zip (rowAt rows k)).map λq=>D.tup [.int q.1,.int q.2]:=q6g _ _
 have cm:∀ρ:Rho,q0v 2 [] none (q25 2 (q0q (gSet 0) (q0q (gSet 1) q27))) (q11 (mOp2 dEq (mVar 1) (mRet (.int 1)))) (mVar 0) ((signs.zip (rowAt rows k)).map λq=>D.tup [.int q.1,.int q.2]) ρ=some ((q3v (rowAt rows k) signs).map D.int,ρ):=λρ=>by
   have:=q4h (n:=2) (js:=[]) (fg:=q25 2 (q0q (gSet 0) (q0q (gSet 1) q27))) (ft:=q11 (mOp2 dEq (mVar 1) (mRet (.int 1)))) (fe:=mVar 0) (ρ:=ρ) (λd=>match d with|.tup [_,.int b]=>b==1|_=>false) (λd=>match d with|.tup [x,_]=>x|d=>d) ((signs.zip (rowAt rows k)).map λq=>D.tup [.int q.1,.int q.2]) (λx hx=>by
       obtain⟨q,_,rfl⟩:=List.mem_map.mp hx
       refine⟨[some (.int q.1),some (.int q.2)],rfl,?_,λ_=>rfl⟩
       clear hr hz hx
       walk_at "ev")
   rw[this,List.filter_map,jk]
   unfold q3v
   rw[jk]
   rfl
 have ll:((signs.zip (rowAt rows k)).map λq=>D.tup [.int q.1,.int q.2]).length<=sizeLine:=by
   rw[j6,xn]
   exact q17 (by have:=xi signs.length (rowAt rows k).length;omega)
 unfold f_y4 b_y4 schD
 generalize (signs.zip (rowAt rows k)).map (λq=>D.tup [.int q.1,.int q.2])=Z at hz cm ll
 generalize (q3v (rowAt rows k) signs).map D.int=Y at cm ⊢
 generalize (rowAt rows k).map D.int=R at hr hz
 generalize rows.map rowD=RS at hr zd ⊢
 generalize signs.map D.int=S at hz ⊢
 clear ok hl
 walk_at "ev"
theorem q8u(n:Nat)(a:Int)(u:List Int)(ok:q22 r taps rows e)(k:Nat):(q2m n taps rows a u k).length<=4:=by
 have:=ok.t4
 have h:=qer (rowAt rows k) (taps.map (sgn (2*endR (2^n) a (u.take k)+u.getD k 0)))
 rw[j6]at h
 unfold q2m
 omega
theorem ql9(ok:q22 r taps rows e)(w:List Int)(hb:Bits w)(hw:e="ring"->r.toNat<=w.length)(hl:w.length<=60):
   f_y12 [schD r taps rows e,.lst (w.map D.int)]=some (.lst ((q8t r.toNat taps rows (frst r e w) (q2t r e w)).map D.int)):=by
 have h1:=qjt ok w hw (by omega)
 have h2:=qey ok w hb hw hl
 have hlt:=qak ok w hb hw
 have hbl:(q2t r e w).length<=64:=qbu ok w hl
 have hbb:Bits (q2t r e w):=q5t hb
 have m0:(0:Int)<2^r.toNat:=Int.pow_pos (by decide)
 have hs:=p_y3 ok
 have ht:=q86 ok
 have hln:∀u k,(q2m r.toNat taps rows (frst r e w) u k).length<=4:=λu k=>q8u r.toNat (frst r e w) u ok k
 generalize frst r e w=a at h2 hlt hln ⊢
 generalize q2t r e w=u at h1 h2 hbl hbb ⊢
 obtain⟨ρ',l1,v4,v5,v6,hρ⟩:=q2n (fg:=q25 2 (q0q (gSet 4) (q0q (gSet 5) q27))) (fb:=sSeq (sSet 6 (mOp2 dIx (q0k f_y3 (q01 (mVar 0) (q01 (mOp2 dIx (mVar 2) (mVar 4)) (q01 (mVar 5) mNil)))) (mRet (.int 1))))
 (qd3 3 (q0k f_y4 (q01 (mVar 0) (q01 (mVar 4) (q01 (mVar 6) mNil))))))
   (λk ρ=>∃v4 v5 v6,ρ=[some (schD r taps rows e),some (.lst (w.map D.int)),some (.lst ((wayR (2^r.toNat) a u).map D.int)),some (.lst (((List.range k).flatMap (q2m r.toNat taps rows a u)).map D.int)),v4,v5,v6]) (q5e (u.map D.int)) 0
   [some (schD r taps rows e),some (.lst (w.map D.int)),some (.lst ((wayR (2^r.toNat) a u).map D.int)),some (.lst []),none,none,none] ⟨none,none,none,rfl⟩ (λi x ρ hx ⟨v4,v5,v6,hρ⟩=>by
     subst hρ
     rw[q76,jb]at hx
     cases q:u[i]? with
     |none=>rw[q]at hx;cases hx
     | some b=>
       rw[q]at hx
       cases hx
       have hi:i<u.length:=(List.getElem?_eq_some_iff.mp q).1
       rw[jr,q1g,ju]
       have wa:=qko (2^r.toNat) a u (k:=i) (by omega)
       have zl:=q3n m0 (u.take i) a hlt
       have st:=hs (endR (2^r.toNat) a (u.take i)) b zl.1 zl.2 (hbb b (x9 q))
       have gb:u.getD i 0=b:=by rw[jq,q];rfl
       have sa:=ht i (taps.map (sgn (2*endR (2^r.toNat) a (u.take i)+b))) (by rw[j6];have:=ok.t4;omega)
       have eK:q3v (rowAt rows i) (taps.map (sgn (2*endR (2^r.toNat) a (u.take i)+b)))=q2m r.toNat taps rows a u i:=by unfold q2m;rw[gb]
       rw[eK]at sa
       have ln:(((List.range i).flatMap (q2m r.toNat taps rows a u)).map D.int).length+((q2m r.toNat taps rows a u i).map D.int).length<=sizeLine:=by
         have q1:=q40 (q2m r.toNat taps rows a u) 4 (hln u) i
         have q2:=hln u i
         rw[j6,j6]
         exact q17 (by omega)
       generalize (q2m r.toNat taps rows a u i).map D.int=K1 at sa ln ⊢
       generalize ((List.range i).flatMap (q2m r.toNat taps rows a u)).map D.int=F at ln ⊢
       generalize (wayR (2^r.toNat) a u).map D.int=Y at wa ⊢
       generalize (taps.map (sgn (2*endR (2^r.toNat) a (u.take i)+b))).map D.int=S2 at st sa
       generalize (2*endR (2^r.toNat) a (u.take i)+b) % 2^r.toNat=nz at st
       generalize endR (2^r.toNat) a (u.take i)=z at wa st
       refine⟨[some (schD r taps rows e),some (.lst (w.map D.int)),some (.lst Y),some (.lst F),some (.int (i:Int)),some (.int b),v6],[some (schD r taps rows e),some (.lst (w.map D.int)),some (.lst Y),some (.lst (F++K1)),some (.int (i:Int)),some (.int b),some (.tup S2)],rfl,.inl ?_,_,_,_,rfl⟩
       generalize schD r taps rows e=S at st sa ⊢
       generalize w.map D.int=W
       clear q hi h1 h2 hs ht zl hbb hbl hb hw ok hlt m0 hln gb eK
       walk_at "ev")
 subst hρ
 have el:(q5e (u.map D.int)).length=u.length:=by unfold q5e;rw[j6,List.length_zipIdx,j6]
 rw[el,jr]at l1
 have one:0<=sizeLine:=by decide
 unfold f_y12 qjf q8t
 generalize ((List.range u.length).flatMap (q2m r.toNat taps rows a u)).map D.int=F at l1 ⊢
 generalize (wayR (2^r.toNat) a u).map D.int=Y at l1 h2
 generalize schD r taps rows e=S at h1 h2 l1 ⊢
 generalize u.map D.int=U at l1 h1
 generalize w.map D.int=W at l1 h1 h2 ⊢
 clear hs ht hbb hbl hb hw ok hlt m0 hl hln el
 walk_at "ev"
theorem qsk(ok:q22 r taps rows e)(w:List Int)(hb:Bits w)(hw:e="ring"->r.toNat<=w.length)(hl:w.length<=60):
   f_y12 [schD r taps rows e,.lst (w.map D.int)]=some (.lst ((q3g (isRing e) r.toNat taps rows w (w.length+q09 r e)).map D.int)):=by
 rw[ql9 ok w hb hw hl,q38,qal,q7z (by have:=ok.r4;omega) hb (q6m hw) λt h=>(ok.tb t h).1]
theorem qbe(t:Told):f_y23 [q15 t]=some (objD t):=by
 have h1:=t_cg
 have h2:=t_cs
 have h3:=t_gs
 have h4:=t_cc
 have h5:=t_gg
 unfold f_y23 qj9
 cases t with
 |clear b=>unfold q15 objD;walk_at "ev"
 |gap=>unfold q15 objD;walk_at "ev"
 |soft z o=>unfold q15 objD;walk_at "ev"
theorem p_cc(c b:Int):f_y17 [.obj "Clear" [("bit",.int c)],.int b]=some (.int (if b=c then 0 else 1)):=by
 have h1:fldO "Clear" "bit" (.obj "Clear" [("bit",.int c)])=some (.int c):=qam (by simp[List.lookup_cons])
 unfold f_y17 qjc
 generalize D.obj "Clear" [("bit",.int c)]=X at h1 ⊢
 by_cases h:b=c
 · rw[if_pos h]
   have h':(b==c)=true:=beq_iff_eq.mpr h
   clear h
   walk_at "ev"
 · rw[if_neg h]
   have h':(b==c)=false:=beq_eq_false_iff_ne.mpr h
   walk_at "ev"
theorem p_gc(X:D)(b:Int):f_y19 [X,.int b]=some (.int 0):=by
 unfold f_y19 qjb
 walk_at "ev"
theorem p_sc(z o b:Int):f_y22 [.obj "Soft" [("zero",.int z),("one",.int o)],.int b]=some (.int (if b=1 then o else z)):=by
 have nz:(("one":Str)=="zero")=false:=by decide+kernel
 have h1:fldO "Soft" "one" (.obj "Soft" [("zero",.int z),("one",.int o)])=some (.int o):=qam (by rw[List.lookup_cons,nz];simp[List.lookup_cons])
 have h2:fldO "Soft" "zero" (.obj "Soft" [("zero",.int z),("one",.int o)])=some (.int z):=qam (by simp[List.lookup_cons])
 unfold f_y22 qja
 generalize D.obj "Soft" [("zero",.int z),("one",.int o)]=X at h1 h2 ⊢
 by_cases h:b=1
 · rw[if_pos h]
   subst h
   walk_at "ev"
 · rw[if_neg h]
   have h':(b==1)=false:=beq_eq_false_iff_ne.mpr h
   walk_at "ev"
theorem qez(t:Told)(b:Int):(mOrE (q3m "Clear" "cost" f_y17 (mVar 0) (q01 (mVar 1) mNil)) (mOrE (q3m "Gap" "cost" f_y19 (mVar 0) (q01 (mVar 1) mNil)) (q3m "Soft" "cost" f_y22 (mVar 0) (q01 (mVar 1) mNil)))) [some (objD t),some (.int b)]=some (.int (q3u t b),[some (objD t),some (.int b)]):=by
 have n1:¬(("Gap":Str)="Clear"):=by decide+kernel
 have n2:¬(("Soft":Str)="Clear"):=by decide+kernel
 have n3:¬(("Soft":Str)="Gap"):=by decide+kernel
 have m1:(("cost":Str)=="bit")=false:=by decide+kernel
 have m2:(("cost":Str)=="zero")=false:=by decide+kernel
 have m3:(("cost":Str)=="one")=false:=by decide+kernel
 cases t with
 | clear c=>
   have h1:q7f "Clear" "cost" f_y17 (objD (.clear c)) [.int b]=some (.int (q3u (.clear c) b)):=(q8b (by rw[List.lookup_cons,m1];rfl)).trans (p_cc c b)
   generalize objD (.clear c)=X at h1 ⊢
   generalize q3u (.clear c) b=z at h1 ⊢
   clear n1 n2 n3 m1 m2 m3
   walk_at "ev"
 | gap=>
   have h1:q7f "Clear" "cost" f_y17 (objD .gap) [.int b]=none:=q6y n1
   have h2:q7f "Gap" "cost" f_y19 (objD .gap) [.int b]=some (.int (q3u .gap b)):=(q8b rfl).trans (p_gc _ b)
   generalize objD .gap=X at h1 h2 ⊢
   generalize q3u .gap b=z at h2 ⊢
   clear n1 n2 n3 m1 m2 m3
   walk_at "ev"
 | soft z o=>
   have h1:q7f "Clear" "cost" f_y17 (objD (.soft z o)) [.int b]=none:=q6y n2
   have h2:q7f "Gap" "cost" f_y19 (objD (.soft z o)) [.int b]=none:=q6y n3
   have h3:q7f "Soft" "cost" f_y22 (objD (.soft z o)) [.int b]=some (.int (q3u (.soft z o) b)):=(q8b (by rw[List.lookup_cons,m2,List.lookup_cons,m3];rfl)).trans (p_sc z o b)
   generalize objD (.soft z o)=X at h1 h2 h3 ⊢
   generalize q3u (.soft z o) b=y at h3 ⊢
   clear n1 n2 n3 m1 m2 m3
   walk_at "ev"
theorem ql8(ts:List Told)(bits:List Int)(hl:ts.length<=1000):f_y25 [.lst (ts.map objD),.lst (bits.map D.int)]=some (.int (q3e ts bits)):=by
 have hz:zipD (ts.map objD) (bits.map D.int)=(ts.zip bits).map λq=>D.tup [objD q.1,.int q.2]:=by
   rw[q69,q52,jk]
   rfl
 have cm:∀ρ:Rho,q0v 2 [] none (q25 2 (q0q (gSet 0) (q0q (gSet 1) q27))) (mRet true) (mOrE (q3m "Clear" "cost" f_y17 (mVar 0) (q01 (mVar 1) mNil)) (mOrE (q3m "Gap" "cost" f_y19 (mVar 0) (q01 (mVar 1) mNil)) (q3m "Soft" "cost" f_y22 (mVar 0) (q01 (mVar 1) mNil)))) ((ts.zip bits).map λq=>D.tup [objD q.1,.int q.2]) ρ=some (((ts.zip bits).map λq=>q3u q.1 q.2).map D.int,ρ):=λρ=>by
   have:∀zs:List (Told×Int),q0v 2 [] none (q25 2 (q0q (gSet 0) (q0q (gSet 1) q27))) (mRet true) (mOrE (q3m "Clear" "cost" f_y17 (mVar 0) (q01 (mVar 1) mNil)) (mOrE (q3m "Gap" "cost" f_y19 (mVar 0) (q01 (mVar 1) mNil)) (q3m "Soft" "cost" f_y22 (mVar 0) (q01 (mVar 1) mNil)))) (zs.map λq=>D.tup [objD q.1,.int q.2]) ρ=some ((zs.map λq=>q3u q.1 q.2).map D.int,ρ):=λzs=>by
     induction zs with
     |nil=>rfl
     | cons q zs ih=>
       have hg:(q25 2 (q0q (gSet 0) (q0q (gSet 1) q27))) (D.tup [objD q.1,.int q.2]) (q51 2 [] ρ)=some [some (objD q.1),some (.int q.2)]:=rfl
       rw[jw]
       unfold q0v
       rw[hg]
       dsimp only[mRet]
       rw[qez q.1 q.2]
       dsimp only[q4p]
       rw[ih]
       rfl
   exact this _
 have ll:((ts.zip bits).map λq=>D.tup [objD q.1,.int q.2]).length<=sizeLine:=by
   rw[j6,xn]
   exact q17 (by have:=xi ts.length bits.length;omega)
 have hi:=q3s ((ts.zip bits).map λq=>q3u q.1 q.2)
 unfold f_y25 qgm q3e
 generalize (ts.zip bits).map (λq=>D.tup [objD q.1,.int q.2])=Z at hz cm ll
 generalize (ts.zip bits).map (λq=>q3u q.1 q.2)=Y at cm hi ⊢
 generalize ts.map objD=TS at hz ⊢
 generalize bits.map D.int=B at hz ⊢
 generalize Y.map D.int=YD at cm hi
 clear hl
 walk_at "ev"
theorem qex(ok:q22 r taps rows e)(n:Nat)(h:e="ring"->r.toNat<=n):f_y13 [schD r taps rows e,.int n]=some (.int ((n+q09 r e:Nat):Int)):=by
 have r0:=ok.r0
 have hc:=qf0 ok n (λq=>by have:=h q;omega)
 have hz:=qbj ok
 have e1:((n+q09 r e:Nat):Int)=(n:Int)+(q09 r e:Nat):=by omega
 rw[e1]
 unfold f_y13 qje
 generalize schD r taps rows e=S at hc hz ⊢
 generalize (q09 r e:Nat)=z at hz ⊢
 clear ok h e1 r0
 walk_at "ev"
theorem qoq(S:D)(n' N nz:Int)(S2 F:List D)(v4:Option D)(z0:0<=sizeLine)(hst:f_y3 [S,.int 0,.int 0]=some (.tup [.int nz,.tup S2]))(hs:f_y13 [S,.int n']=some (.int N))(bg:big N=true)
   (l1:q2l (gSet 4) (sExt 3 (mRep (mLst (q01 (mVar 4) mNil)) (mOp1 dLen (q0k f_y4 (q01 (mVar 0) (q01 (mVar 4) (q01 (mVar 2) mNil))))))) (q1f 0 N.toNat) [some S,some (.int n'),some (.tup S2),some (.lst []),none]=some (.nx [some S,some (.int n'),some (.tup S2),some (.lst F),v4])):f_y14 [S,.int n']=some (.lst F):=by
 unfold f_y14 qjd
 walk_at "ev"
theorem qbg(ok:q22 r taps rows e)(n:Nat)(hn:n<=60)(h:e="ring"->r.toNat<=n):f_y14 [schD r taps rows e,.int n]=some (.lst ((q0g taps rows (n+q09 r e)).map D.int)):=by
 have z4:=q2u ok
 have hs:=qex ok n h
 have p16:=q49 ok.r0 ok.r4
 have hst:=p_y3 ok 0 0 (by omega) (by omega) (.inl rfl)
 have ht:=q86 ok
 have sl:∀k,(q3v (rowAt rows k) (taps.map (sgn (2*0+0)))).length=(selK taps rows k).length:=λk=>by rw[q6p,j6];rfl
 have s4:∀k,(selK taps rows k).length<=4:=λk=>by
   unfold selK
   refine jt (List.length_filter_le _ _) ?_
   rw[xn]
   have:=ok.t4
   have:=xi taps.length (rowAt rows k).length
   omega
 have st:=λk:Nat=>ht k (taps.map (sgn (2*0+0))) (by rw[j6];have:=ok.t4;omega)
 generalize hS2:(taps.map (sgn (2*0+0))).map D.int=S2 at hst st
 obtain⟨ρ',l1,v4,hρ⟩:=q2n (fg:=gSet 4) (fb:=sExt 3 (mRep (mLst (q01 (mVar 4) mNil)) (mOp1 dLen (q0k f_y4 (q01 (mVar 0) (q01 (mVar 4) (q01 (mVar 2) mNil)))))))
   (λk ρ=>∃v4,ρ=[some (schD r taps rows e),some (.int (n:Int)),some (.tup S2),some (.lst ((q0g taps rows k).map D.int)),v4]) (q1f 0 (n+q09 r e)) 0
   [some (schD r taps rows e),some (.int (n:Int)),some (.tup S2),some (.lst []),none] ⟨none,rfl⟩ (λi x ρ hx ⟨v4,hρ⟩=>by
     subst hρ
     obtain⟨hi,rfl⟩:=q29 hx
     rw[jr,Int.zero_add]
     have eP:q0g taps rows (i+1)=q0g taps rows i++List.replicate (selK taps rows i).length (i:Int):=q1g _ _
     rw[eP,ju,List.map_replicate]
     have hsa:=st i
     have hln:(((q3v (rowAt rows i) (taps.map (sgn (2*0+0)))).map D.int).length:Int)=((selK taps rows i).length:Nat):=by rw[j6,sl]
     have hrp:repO [D.int (i:Int)] (.int ((selK taps rows i).length:Nat))=some (List.replicate (selK taps rows i).length (.int (i:Int))):=by
       rw[q82 _ (by omega) (by have:=s4 i;omega),jx]
     have ln:((q0g taps rows i).map D.int).length+(List.replicate (selK taps rows i).length (D.int (i:Int))).length<=sizeLine:=by
       have q1:(q0g taps rows i).length<=i*4:=q40 _ 4 (λk=>by rw[ji];exact s4 k) i
       have q2:=s4 i
       rw[j6,ji]
       exact q17 (by omega)
     generalize (q3v (rowAt rows i) (taps.map (sgn (2*0+0)))).map D.int=PK at hsa hln
     rw[<-hln]at hrp
     generalize List.replicate (selK taps rows i).length (D.int (i:Int))=RP at hrp ln ⊢
     generalize (q0g taps rows i).map D.int=F at ln ⊢
     refine⟨_,[some (schD r taps rows e),some (.int (n:Int)),some (.tup S2),some (.lst (F++RP)),some (.int (i:Int))],rfl,.inl ?_,some (.int (i:Int)),rfl⟩
     have one:1<=sizeLine:=by decide
     generalize schD r taps rows e=S at hsa ⊢
     clear hln eP hst st sl s4 hs ok ht hi hx p16 hS2 h
     have hrep:(mRep (mLst (q01 (mVar 4) mNil)) (mOp1 dLen (q0k f_y4 (q01 (mVar 0) (q01 (mVar 4) (q01 (mVar 2) mNil)))))) [some S,some (.int (n:Int)),some (.tup S2),some (.lst F),some (.int (i:Int))]=some (RP,[some S,some (.int (n:Int)),some (.tup S2),some (.lst F),some (.int (i:Int))]):=by
       refine qb4 (xs:=[.int (i:Int)]) (y:=.int (PK.length:Nat)) (ρ1:=[some S,some (.int (n:Int)),some (.tup S2),some (.lst F),some (.int (i:Int))]) ?_ ?_ hrp
       · clear hrp hsa ln
         generalize (n:Int)=n'
         generalize (i:Int)=i'
         walk_at "ev"
       · clear hrp ln
         generalize (n:Int)=n'
         generalize (i:Int)=i' at hsa ⊢
         walk_at "ev"
     generalize (mRep (mLst (q01 (mVar 4) mNil)) (mOp1 dLen (q0k f_y4 (q01 (mVar 0) (q01 (mVar 4) (q01 (mVar 2) mNil))))))=FR at hrep ⊢
     clear hrp hsa
     generalize (n:Int)=n' at hrep ⊢
     generalize (i:Int)=i' at hrep ⊢
     walk_at "ev")
 subst hρ
 rw[q1u,jr]at l1
 have bg:big ((n+q09 r e:Nat):Int)=true:=by unfold big;simp;omega
 have z0:0<=sizeLine:=by decide
 have tn:((n+q09 r e:Nat):Int).toNat=n+q09 r e:=jx _
 rw[<-tn]at l1
 exact qoq _ _ _ _ _ _ _ z0 hst hs bg l1
theorem qbi(ok:q22 r taps rows e)(n:Nat)(hn:n<=60)(h:e="ring"->r.toNat<=n)(hs:List D)(hl:hs.length=(q0g taps rows (n+q09 r e)).length):f_y24 [schD r taps rows e,.int n,.lst hs]=some .non:=by
 have hp:=qbg ok n hn h
 have hl2:hs.length=((q0g taps rows (n+q09 r e)).map D.int).length:=by rw[j6,hl]
 unfold f_y24 qj8
 generalize (q0g taps rows (n+q09 r e)).map D.int=F at hp hl2
 generalize schD r taps rows e=S at hp ⊢
 clear ok h hl hn
 walk_at "ev"
theorem q7s(ρ:Rho):∀ts:List Told,q0v 1 [] none (gSet 0) (mRet true) (q0k f_y23 (q01 (mVar 0) mNil)) (ts.map q15) ρ=some (ts.map objD,ρ)
 |[]=>rfl
 | t::ts=>by
   have ih:=q7s ρ ts
   have hg:gSet 0 (q15 t) (q51 1 [] ρ)=some [some (q15 t)]:=rfl
   have he:q0k f_y23 (q01 (mVar 0) mNil) [some (q15 t)]=some (objD t,[some (q15 t)]):=by
     have:=qbe t
     generalize q15 t=X at this ⊢
     generalize objD t=Y at this ⊢
     clear ih hg
     walk_at "ev"
   rw[jw]
   unfold q0v
   rw[hg]
   dsimp only[mRet]
   rw[he]
   dsimp only[q4p]
   rw[ih]
   rfl
theorem qoz(ok:q22 r taps rows e)(w:List Int)(hb:Bits w)(hw:e="ring"->r.toNat<=w.length)(hl:w.length<=60)(ts:List Told)(ht:ts.length=(q0g taps rows (w.length+q09 r e)).length)(h1:ts.length<=1000):
   f_y26 [schD r taps rows e,.lst (w.map D.int),.lst (ts.map q15)]=some (.int (q3e ts (q3g (isRing e) r.toNat taps rows w (w.length+q09 r e)))):=by
 have hc:=qbi ok w.length hl hw (ts.map q15) (by rw[j6];exact ht)
 have hs:=qsk ok w hb hw hl
 have hp:=ql8 ts (q3g (isRing e) r.toNat taps rows w (w.length+q09 r e)) h1
 have cm:=q7s
 have cs:=λρ=>cm ρ ts
 have ll:(ts.map q15).length<=sizeLine:=by rw[j6];exact q17 (by omega)
 have lm:(w.length:Int)=((w.map D.int).length:Nat):=by rw[j6]
 rw[lm]at hc
 generalize q3e ts (q3g (isRing e) r.toNat taps rows w (w.length+q09 r e))=z at hp ⊢
 generalize (q3g (isRing e) r.toNat taps rows w (w.length+q09 r e)).map D.int=F at hs hp
 generalize ts.map q15=TS at hc cs ll ⊢
 generalize ts.map objD=OS at hp cs
 generalize w.map D.int=W at hc hs ⊢
 generalize schD r taps rows e=S at hc hs ⊢
 clear ok hb hw hl ht h1 cm lm
 unfold f_y26 qj7
 walk_at "ev"
end
section
variable{r:Int}{taps:List Int}{rows:List (List Int)}{e:Str}
theorem qb1(ns:List Int)(k:Nat):∃c:Int,f_y38 [.lst (ns.map D.int),.int k]=some (.int c):=by
 by_cases h:k<ns.length
 · refine⟨ns.getD k 0,?_⟩
   have ha:atI (ns.map D.int) (k:Int)=some (.int (ns.getD k 0)):=by
     rw[q3t (by omega) (by rw[j6];omega),jx,jb,jq,jc h]
     rfl
   have hk:(k:Int)<((ns.map D.int).length:Nat):=by rw[j6];omega
   generalize ns.getD k 0=c at ha ⊢
   generalize ns.map D.int=N at ha hk ⊢
   clear h
   unfold f_y38 qgk
   walk_at "ev"
 · refine⟨0,?_⟩
   have hk:¬(k:Int)<((ns.map D.int).length:Nat):=by rw[j6];omega
   generalize ns.map D.int=N at hk ⊢
   clear h
   unfold f_y38 qgk
   walk_at "ev"
theorem qlv(c n':Int)(X:List D)(y v4:Option D)(z0:0<=sizeLine)(bg:big n'=true)
   (l1:q2l (gSet 4) (sSeq (sSet 3 (mOp2 dMod (mOp2 dAdd (mOp2 dAdd (mOp2 q32 (mVar 3) (mOp2 dAdd (mVar 3) (mRet (.int 65537)))) (mOp2 q32 (mRet (.int 13)) (mVar 4))) (mRet (.int 5))) (mRet (.int 2305843009213693951))))
 (sMut q1n 2 (q01 (mVar 3) mNil))) (q1f 0 n'.toNat) [some (.int c),some (.int n'),some (.lst []),some (.int (c % 2305843009213693951*1000000007+104729)),none]=some (.nx [some (.int c),some (.int n'),some (.lst X),y,v4])):f_y39 [.int c,.int n']=some (.lst X):=by
 unfold f_y39 qiy
 walk_at "ev"
theorem q6j(c:Int)(n:Nat)(hn:n<=1000):∃xs:List Int,f_y39 [.int c,.int n]=some (.lst (xs.map D.int))/\xs.length=n/\∀x∈xs,0<=x/\x<2305843009213693951:=by
 have c0:0<=c % 2305843009213693951:=by omega
 have c1:c % 2305843009213693951<2305843009213693951:=by omega
 obtain⟨ρ',l1,xs,y,v4,hρ,hl,hx,_⟩:=q2n (fg:=gSet 4) (fb:=sSeq (sSet 3 (mOp2 dMod (mOp2 dAdd (mOp2 dAdd (mOp2 q32 (mVar 3) (mOp2 dAdd (mVar 3) (mRet (.int 65537)))) (mOp2 q32 (mRet (.int 13)) (mVar 4))) (mRet (.int 5))) (mRet (.int 2305843009213693951))))
 (sMut q1n 2 (q01 (mVar 3) mNil)))
   (λk ρ=>∃(xs:List Int) (y:Int) (v4:Option D),ρ=[some (.int c),some (.int (n:Int)),some (.lst (xs.map D.int)),some (.int y),v4]/\xs.length=k/\(∀x∈xs,0<=x/\x<2305843009213693951)/\0<=y/\y<2305843009213693951*1000000008)
   (q1f 0 n) 0 [some (.int c),some (.int (n:Int)),some (.lst []),some (.int (c % 2305843009213693951*1000000007+104729)),none] ⟨[],_,none,rfl,rfl,λ_ h=>(nomatch h),by omega,by omega⟩ (λi x ρ hx ⟨xs,y,v4,hρ,hl,hm,y0,y1⟩=>by
     subst hρ
     obtain⟨hi,rfl⟩:=q29 hx
     rw[Int.zero_add]
     have b1 : bigM y = true := decide_eq_true (by have:(2:Nat)^250>2305843009213693951*1000000008:=by decide+kernel
                                                   omega)
     have b2 : bigM (y + 65537) = true := decide_eq_true (by have:(2:Nat)^250>2305843009213693951*1000000008+65537:=by decide+kernel
                                                             omega)
     have ln:(xs.map D.int).length<sizeLine:=by rw[j6];exact jm (by omega:_<2000) (q17 (by decide))
     generalize hz:(y*(y+65537)+13*(i:Int)+5) % 2305843009213693951=z
     have z0:0<=z:=by omega
     have z1:z<2305843009213693951:=by omega
     refine⟨_,[some (.int c),some (.int (n:Int)),some (.lst (xs.map D.int++[.int z])),some (.int z),some (.int (i:Int))],rfl,.inl ?_,xs++[z],z,some (.int (i:Int)),by rw[ju];rfl,by rw[jd,List.length_singleton,hl],λu hu=>?_,z0,by omega⟩
     · generalize xs.map D.int=X at ln ⊢
       clear hm hl hx hi y0 y1 z0 z1
       walk_at "ev"
     · rcases List.mem_append.mp hu with hu|hu
       · exact hm u hu
       · rw[List.mem_singleton.mp hu];exact⟨z0,z1⟩)
 subst hρ
 rw[q1u,jr]at hl
 refine⟨xs,?_,hl,hx⟩
 have bg:big (n:Int)=true:=by unfold big;simp;omega
 exact qlv _ _ _ _ _ (by decide) bg (by rw[jx];exact l1)
theorem qc1(xs:List Int)(a b:Nat)(hb:b<=xs.length)(hab:a<=b):cutD (xs.map D.int) (some (a:Int)) (some (b:Int))=((xs.drop a).take (b-a)).map D.int:=by
 unfold cutD
 rw[q80 (by omega),q80 (by omega),j6,jx,jx,Nat.min_eq_left hb,Nat.min_eq_left (jt hab hb),List.map_take,List.map_drop]
theorem qsg{j:Int}(h0:0<=j)(h:j<5):∃t:Nat,atI [D.int 1,.int 0,.int 2,.int 1,.int 3] j=some (.int (t:Int))/\t<=3:=by
 rcases(by omega:j=0∨j=1∨j=2∨j=3∨j=4)with rfl|rfl|rfl|rfl|rfl
 · exact⟨1,rfl,by decide⟩
 · exact⟨0,rfl,by decide⟩
 · exact⟨2,rfl,by decide⟩
 · exact⟨1,rfl,by decide⟩
 · exact⟨3,rfl,by decide⟩
theorem qsf{j:Int}(h0:0<=j)(h:j<6):∃t:Nat,atI [D.int 1,.int 2,.int 4,.int 3,.int 5,.int 6] j=some (.int (t:Int))/\1<=t/\t<=6:=by
 rcases(by omega:j=0∨j=1∨j=2∨j=3∨j=4∨j=5)with rfl|rfl|rfl|rfl|rfl|rfl
 · exact⟨1,rfl,by decide,by decide⟩
 · exact⟨2,rfl,by decide,by decide⟩
 · exact⟨4,rfl,by decide,by decide⟩
 · exact⟨3,rfl,by decide,by decide⟩
 · exact⟨5,rfl,by decide,by decide⟩
 · exact⟨6,rfl,by decide,by decide⟩
theorem qse{j:Int}(h0:0<=j)(h:j<4):∃t:Int,atI [D.int 1,.int 1,.int 0,.int 1] j=some (.int t)/\(t=0∨t=1):=by
 rcases(by omega:j=0∨j=1∨j=2∨j=3)with rfl|rfl|rfl|rfl
 · exact⟨1,rfl,.inr rfl⟩
 · exact⟨1,rfl,.inr rfl⟩
 · exact⟨0,rfl,.inl rfl⟩
 · exact⟨1,rfl,.inr rfl⟩
theorem qsd{j:Int}(h0:0<=j)(h:j<4):∃e:Str,atI [D.str "open",.str "ended",.str "ring",.str "ended"] j=some (.str e)/\(e="open"∨e="ended"∨e="ring"):=by
 rcases(by omega:j=0∨j=1∨j=2∨j=3)with rfl|rfl|rfl|rfl
 · exact⟨_,rfl,.inl rfl⟩
 · exact⟨_,rfl,.inr (.inl rfl)⟩
 · exact⟨_,rfl,.inr (.inr rfl)⟩
 · exact⟨_,rfl,.inr (.inl rfl)⟩
theorem qgq{x:Int}(h:0<=x):0<=Builtin.bitAnd x 3/\Builtin.bitAnd x 3<4:=by
 rw[qax h (by decide)]
 have:x.toNat &&& (3:Int).toNat<=3:=Nat.and_le_right
 omega
theorem qip{n:Nat}{js:List Nat}{fg:RhG}{fe:RhD}{ρ:Rho}(G:D->Prop):∀(xs:List D),(∀x∈xs,∃ρ1 y,fg x (q51 n js ρ)=some ρ1/\(fe ρ1).map (·.1)=some y/\G y)->∃ys,q0v n js none fg (mRet true) fe xs ρ=some (ys,ρ)/\ys.length=xs.length/\∀y∈ys,G y
 |[],_=>⟨[],rfl,rfl,λ_ h=>nomatch h⟩
 | x::xs,h=>by
   obtain⟨ρ1,y,h1,h2,h3⟩:=h x jf
   obtain⟨ρ2,h2⟩:=q8e h2
   obtain⟨ys,g1,g2,g3⟩:=qip (fg:=fg) (fe:=fe) (ρ:=ρ) G xs λy hy=>h y (jg _ hy)
   refine⟨y::ys,?_,by rw[jn,jn,g2],λz hz=>?_⟩
   · simp only[q0v,h1,mRet,h2,q4p]
     rw[g1]
   · rcases List.mem_cons.mp hz with rfl|hz
     · exact h3
     · exact g3 z hz
theorem qjq{ρ ρ1:Rho}{fs:RhL}{n:Int}(h:fs ρ=some ([.int n],ρ1))(bg:big n=true):q37 fs ρ=some (q1f 0 n.toNat,ρ1):=by
 rw[qg1,h]
 show((if big n=true then some (q1f 0 n.toNat)else none).map λx=>(x,ρ1))=_
 rw[if_pos bg]
 rfl
theorem qhc(c top z:Int)(r e:D)(X TS RS RD R5:List D)(FI:RhL)(FE:RhD)(l5:R5.length<=sizeLine)(lq:RS.length<sizeLine)
   (hFI:FI [some (.int c),some (.int top),some (.lst X),some e,some r,some (.tup TS),some (.lst RS),some (.int z)]=some (R5,[some (.int c),some (.int top),some (.lst X),some e,some r,some (.tup TS),some (.lst RS),some (.int z)]))
   (g1:q0v 1 [7] none (gSet 0) (mRet true) FE R5 [some (.int c),some (.int top),some (.lst X),some e,some r,some (.tup TS),some (.lst RS),some (.int z)]=some (RD,[some (.int c),some (.int top),some (.lst X),some e,some r,some (.tup TS),some (.lst RS),some (.int z)])):
   (sMut q1n 6 (q01 (mOp1 q4u (mOf (q21 1 [7] none FI (gSet 0) (mRet true) FE))) mNil)) [some (.int c),some (.int top),some (.lst X),some e,some r,some (.tup TS),some (.lst RS),some (.int z)]=some (.nx [some (.int c),some (.int top),some (.lst X),some e,some r,some (.tup TS),some (.lst (RS++[.tup RD])),some (.int z)]):=by
 walk_at "ev"
theorem ql5(N:Nat):((N:Int) / 2^(0:Int).toNat % 2+((N:Int) / 2^(1:Int).toNat % 2+((N:Int) / 2^(2:Int).toNat % 2+((N:Int) / 2^(3:Int).toNat % 2+((N:Int) / 2^(4:Int).toNat % 2+0))))) % 2=(parF 5 N:Nat):=by
 have e0:(2:Int)^(0:Int).toNat=1:=rfl
 have e1:(2:Int)^(1:Int).toNat=2:=rfl
 have e2:(2:Int)^(2:Int).toNat=4:=rfl
 have e3:(2:Int)^(3:Int).toNat=8:=rfl
 have e4:(2:Int)^(4:Int).toNat=16:=rfl
 rw[e0,e1,e2,e3,e4]
 have f1:(N:Int) / 2=((N / 2:Nat):Int):=by omega
 have f2:(N:Int) / 4=((N / 2 / 2:Nat):Int):=by omega
 have f3:(N:Int) / 8=((N / 2 / 2 / 2:Nat):Int):=by omega
 have f4:(N:Int) / 16=((N / 2 / 2 / 2 / 2:Nat):Int):=by omega
 have f0:(N:Int) / 1=(N:Int):=by omega
 rw[f0,f1,f2,f3,f4]
 have u:parF 5 N=(N % 2+(N / 2 % 2+(N / 2 / 2 % 2+(N / 2 / 2 / 2 % 2+(N / 2 / 2 / 2 / 2 % 2+0) % 2) % 2) % 2) % 2) % 2:=rfl
 rw[u]
 generalize N / 2 / 2 / 2 / 2=a4
 generalize N / 2 / 2 / 2=a3
 generalize N / 2 / 2=a2
 generalize N / 2=a1
 omega
theorem qh4(ρ:Rho)(R5 YD:List D)(Y:List Int)(FI:RhL)(FE:RhD)(l5:R5.length<=sizeLine)(hFI:FI ρ=some (R5,ρ))(ci:q0v 1 [0,1] none (gSet 0) (mRet true) FE R5 ρ=some (YD,ρ))(hi:q3z YD=some Y):
   ((mOp2 dMod (mOp1 dSum (mOf (q21 1 [0,1] none FI (gSet 0) (mRet true) FE))) (mRet (.int 2))) ρ).map (·.1)=some (.int (Y.sum % 2)):=by
 walk_at "ev"
theorem qh3(r z9 bit m:Int)(e:D)(TS RS S:List D)(two:2<=sizeLine)(ll:TS.length<=sizeLine)(FE:RhD)(r0:0<=r)(r6:r<=1000000)(hm:2^r.toNat=m)(m0:0<m)
   (cm:q0v 1 [3] none (gSet 0) (mRet true) FE TS [some (.tup [.int r,.tup TS,.tup RS,e]),some (.int z9),some (.int bit),some (.int (2*z9+bit)),none]=some (S,[some (.tup [.int r,.tup TS,.tup RS,e]),some (.int z9),some (.int bit),some (.int (2*z9+bit)),none])):
   runP false 3 5 (sSeq (sSet 3 (mOp2 dAdd (mOp2 q32 (mRet (.int 2)) (mVar 1)) (mVar 2)))
 (sSeq (sSet 4 (mOf (q21 1 [3] none (mSeq (mOp2 dIx (mVar 0) (mRet (.int 1)))) (gSet 0) (mRet true) FE)))
 (sRet (mTup (q01 (mOp2 dMod (mVar 3) (mOp2 dShl (mRet (.int 1)) (mOp2 dIx (mVar 0) (mRet (.int 0))))) (q01 (mVar 4) mNil)))))) [.tup [.int r,.tup TS,.tup RS,e],.int z9,.int bit]=some (.tup [.int ((2*z9+bit) % m),.lst S]):=by
 subst hm
 walk_at "ev"
theorem v_y3(ok:q22 r taps rows e)(z9 bit:Int)(a0:0<=z9)(a1:z9<2^r.toNat)(hb:bit=0∨bit=1):
   f_y41 [schD r taps rows e,.int z9,.int bit]=some (.tup [.int ((2*z9+bit) % 2^r.toNat),.lst ((taps.map (sgn (2*z9+bit))).map D.int)]):=by
 have p16:=q49 ok.r0 ok.r4
 have r0:=ok.r0
 have r4:=ok.r4
 have r6:r<=1000000:=by omega
 have m0:(0:Int)<2^r.toNat:=by omega
 have cm:=q43 (n:=1) (js:=[3]) (fg:=gSet 0) (fe:=mOp2 dMod (mOp1 dSum (mOf (q21 1 [0,1] none (q37 (q01 (mRet (.int 5)) mNil)) (gSet 0) (mRet true) (mOp2 dAnd (mOp2 dShr (mOp2 dAnd (mVar 1) (mVar 2)) (mVar 0)) (mRet (.int 1)))))) (mRet (.int 2))) (ρ:=[some (schD r taps rows e),some (.int z9),some (.int bit),some (.int (2*z9+bit)),none]) (λd=>match d with|.int t=>.int (sgn (2*z9+bit) t)|d=>d) (taps.map D.int) (λx hx=>by
       obtain⟨t,ht,rfl⟩:=List.mem_map.mp hx
       refine⟨[some (.int t),some (.int (2*z9+bit))],rfl,?_⟩
       have tb:=ok.tb t ht
       have w0:0<=2*z9+bit:=by omega
       have ea:=qax tb.1 w0
       rw[Nat.and_comm]at ea
       generalize hN:(2*z9+bit).toNat &&& t.toNat=N at ea
       have ci:=q43 (n:=1) (js:=[0,1]) (fg:=gSet 0) (fe:=mOp2 dAnd (mOp2 dShr (mOp2 dAnd (mVar 1) (mVar 2)) (mVar 0)) (mRet (.int 1))) (ρ:=[some (.int t),some (.int (2*z9+bit))])
         (λd=>match d with|.int k=>.int ((N:Int) / 2^k.toNat % 2)|d=>d) (q1f 0 5) (λy hy=>by
           obtain⟨k,hk⟩:=List.mem_iff_getElem?.mp hy
           obtain⟨hk1,rfl⟩:=q29 hk
           rw[Int.zero_add]
           have hs:0<=(N:Int) / 2^(k:Int).toNat:=Int.ediv_nonneg (by omega) (Int.le_of_lt (Int.pow_pos (by decide)))
           have h1:=qgr hs
           refine⟨[some (.int (k:Int)),some (.int t),some (.int (2*z9+bit))],rfl,?_⟩
           have k0:0<=(k:Int):=by omega
           generalize 2*z9+bit=W at ea ⊢
           show _=some (D.int ((N:Int) / 2^(k:Int).toNat % 2))
           rw[<-h1,<-ea]
           rw[<-ea]at hs
           clear hN hy hk hk1 h1 tb hx ht hb a0 a1 m0 p16 ok w0 ea
           walk_at "ev")
       have er:(q1f 0 5).map (λd=>match d with|.int k=>D.int ((N:Int) / 2^k.toNat % 2)|d=>d)=[(N:Int) / 2^(0:Int).toNat % 2,(N:Int) / 2^(1:Int).toNat % 2,(N:Int) / 2^(2:Int).toNat % 2,(N:Int) / 2^(3:Int).toNat % 2,(N:Int) / 2^(4:Int).toNat % 2].map D.int:=rfl
       rw[er]at ci
       have hi:=q3s [(N:Int) / 2^(0:Int).toNat % 2,(N:Int) / 2^(1:Int).toNat % 2,(N:Int) / 2^(2:Int).toNat % 2,(N:Int) / 2^(3:Int).toNat % 2,(N:Int) / 2^(4:Int).toNat % 2]
       have hp:=ql5 N
       have es:[(N:Int) / 2^(0:Int).toNat % 2,(N:Int) / 2^(1:Int).toNat % 2,(N:Int) / 2^(2:Int).toNat % 2,(N:Int) / 2^(3:Int).toNat % 2,(N:Int) / 2^(4:Int).toNat % 2].sum=((N:Int) / 2^(0:Int).toNat % 2+((N:Int) / 2^(1:Int).toNat % 2+((N:Int) / 2^(2:Int).toNat % 2+((N:Int) / 2^(3:Int).toNat % 2+((N:Int) / 2^(4:Int).toNat % 2+0))))):=rfl
       rw[<-es]at hp
       show _=some (D.int (sgn (2*z9+bit) t))
       unfold sgn
       rw[hN,<-hp]
       exact qh4 _ _ _ _ _ _ (by decide) (qjq rfl (by decide)) ci hi)
 have e2:(taps.map D.int).map (λd=>match d with|.int t=>D.int (sgn (2*z9+bit) t)|d=>d)=(taps.map (sgn (2*z9+bit))).map D.int:=by
   rw[jk,jk]
   rfl
 rw[e2]at cm
 have ll:(taps.map D.int).length<=sizeLine:=by rw[j6];exact q17 (by have:=ok.t4;omega)
 exact qh3 r z9 bit _ _ _ _ _ (by decide) ll _ r0 r6 rfl m0 cm
theorem qgx(ok:q22 r taps rows e)(k:Nat)(signs:List Int)(hl:signs.length<=1000):
   f_y42 [schD r taps rows e,.int k,.lst (signs.map D.int)]=some (.lst ((q3v (rowAt rows k) signs).map D.int)):=by
 have hr:=qei ok k
 have zd:0<(rows.map rowD).length:=by have:=ok.m1;rw[j6];omega
 have hz:zipD (signs.map D.int) ((rowAt rows k).map D.int)=(signs.zip (rowAt rows k)).map λq=>D.tup [.int q.1,.int q.2]:=q6g _ _
 have cm:∀ρ:Rho,q0v 2 [] none (q25 2 (q0q (gSet 0) (q0q (gSet 1) q27))) (q11 (mOp2 dEq (mVar 1) (mRet (.int 1)))) (mVar 0) ((signs.zip (rowAt rows k)).map λq=>D.tup [.int q.1,.int q.2]) ρ=some ((q3v (rowAt rows k) signs).map D.int,ρ):=λρ=>by
   have:=q4h (n:=2) (js:=[]) (fg:=q25 2 (q0q (gSet 0) (q0q (gSet 1) q27))) (ft:=q11 (mOp2 dEq (mVar 1) (mRet (.int 1)))) (fe:=mVar 0) (ρ:=ρ) (λd=>match d with|.tup [_,.int b]=>b==1|_=>false) (λd=>match d with|.tup [x,_]=>x|d=>d) ((signs.zip (rowAt rows k)).map λq=>D.tup [.int q.1,.int q.2]) (λx hx=>by
       obtain⟨q,_,rfl⟩:=List.mem_map.mp hx
       refine⟨[some (.int q.1),some (.int q.2)],rfl,?_,λ_=>rfl⟩
       clear hr hz hx
       walk_at "ev")
   rw[this,List.filter_map,jk]
   unfold q3v
   rw[jk]
   rfl
 have ll:((signs.zip (rowAt rows k)).map λq=>D.tup [.int q.1,.int q.2]).length<=sizeLine:=by
   rw[j6,xn]
   exact q17 (by have:=xi signs.length (rowAt rows k).length;omega)
 unfold schD
 generalize (signs.zip (rowAt rows k)).map (λq=>D.tup [.int q.1,.int q.2])=Z at hz cm ll
 generalize (q3v (rowAt rows k) signs).map D.int=Y at cm ⊢
 generalize (rowAt rows k).map D.int=R at hr hz
 generalize rows.map rowD=RS at hr zd ⊢
 generalize signs.map D.int=S at hz ⊢
 clear ok hl
 unfold f_y42 qiw
 walk_at "ev"
theorem qe2(ok:q22 r taps rows e)(n:Nat):f_y43 [schD r taps rows e,.int n]=some (.int ((n+q09 r e:Nat):Int)):=by
 have h1:=s_oe
 have h2:=s_ee
 have h3:=s_re
 have r0:=ok.r0
 unfold schD
 rcases ok.en with rfl|rfl|rfl
 · rw[show q09 r "open"=0 from if_neg (by decide),Nat.add_zero]
   clear ok
   unfold f_y43 qdx
   walk_at "ev"
 · rw[show q09 r "ended"=r.toNat from if_pos rfl,show((n+r.toNat:Nat):Int)=(n:Int)+r from by omega]
   clear ok
   unfold f_y43 qdx
   walk_at "ev"
 · rw[show q09 r "ring"=0 from if_neg (by decide),Nat.add_zero]
   clear ok
   unfold f_y43 qdx
   walk_at "ev"
theorem qjp(ok:q22 r taps rows e)(k:Nat):(rowAt rows k).length=taps.length:=by
 have m1:=ok.m1
 have hk:k % rows.length<rows.length:=Nat.mod_lt _ (by omega)
 unfold rowAt
 rw[jc hk]
 exact(ok.rw _ (xj hk)).1
theorem q8v:∀(taps row:List Int),row.length=taps.length->(row.filter λb=>b==1).length=((taps.zip row).filter λq=>q.2==1).length
 |[],[],_=>rfl
 |[],_::_,h=>by cases h
 |_::_,[],h=>by cases h
 | t::ts,b::bs,h=>by
   have ih:=q8v ts bs (by simpa using h)
   rw[List.zip_cons_cons]
   by_cases hb:(b==1)=true
   · rw[List.filter_cons_of_pos (p:=λb=>b==1) hb,List.filter_cons_of_pos (p:=λq:Int×Int=>q.2==1) (show((t,b).2==1)=true from hb),jn,jn,ih]
   · rw[List.filter_cons_of_neg (p:=λb=>b==1) hb,List.filter_cons_of_neg (p:=λq:Int×Int=>q.2==1) (show¬((t,b).2==1)=true from hb),ih]
theorem qhd(S0 S1 S3:D)(RS R:List D)(k':Int)(v1 v2:Option D)(zd:0<RS.length)(hr:atI RS (k' % (RS.length:Nat))=some (.tup R)):
   (mSeq (mOp2 dIx (mOp2 dIx (mVar 0) (mRet (.int 2))) (mOp2 dMod (mVar 3) (mOp1 dLen (mOp2 dIx (mVar 0) (mRet (.int 2))))))) [some (.tup [S0,S1,.tup RS,S3]),v1,v2,some (.int k')]=some (R,[some (.tup [S0,S1,.tup RS,S3]),v1,v2,some (.int k')]):=by
 walk_at "ev"
theorem qa9(S:D)(n' k':Int)(F R RP:List D)(FI:RhL)(lr:R.length<=sizeLine)(ln:F.length+RP.length<=sizeLine)(hFI:FI [some S,some (.int n'),some (.lst F),some (.int k')]=some (R,[some S,some (.int n'),some (.lst F),some (.int k')]))
   (cm:q0v 1 [3] none (gSet 0) (q11 (mOp2 dEq (mVar 0) (mRet (.int 1)))) (mVar 1) R [some S,some (.int n'),some (.lst F),some (.int k')]=some (RP,[some S,some (.int n'),some (.lst F),some (.int k')])):
   (sExt 2 (q21 1 [3] none FI (gSet 0) (q11 (mOp2 dEq (mVar 0) (mRet (.int 1)))) (mVar 1))) [some S,some (.int n'),some (.lst F),some (.int k')]=some (.nx [some S,some (.int n'),some (.lst (F++RP)),some (.int k')]):=by
 walk_at "ev"
theorem qd7(S:D)(n' N:Int)(F:List D)(v3:Option D)(FB:RhO)(z0:0<=sizeLine)(hs:f_y43 [S,.int n']=some (.int N))(bg:big N=true)
   (l1:q2l (gSet 3) FB (q1f 0 N.toNat) [some S,some (.int n'),some (.lst []),none]=some (.nx [some S,some (.int n'),some (.lst F),v3])):
   runP true 2 4 (sSeq (sOwn 2 (mLst mNil)) (sSeq (sFor (q37 (q01 (q0k f_y43 (q01 (mVar 0) (q01 (mVar 1) mNil))) mNil)) (gSet 3) FB) (q55 2))) [S,.int n']=some (.lst F):=by
 walk_at "ev"
theorem qgy(ok:q22 r taps rows e)(n:Nat)(hn:n<=60):f_y44 [schD r taps rows e,.int n]=some (.lst ((q0g taps rows (n+q09 r e)).map D.int)):=by
 have z4:=q2u ok
 have hs:=qe2 ok n
 have hrow:=qei ok
 have zd:0<(rows.map rowD).length:=by have:=ok.m1;rw[j6];omega
 have s4:∀k,(selK taps rows k).length<=4:=λk=>by
   unfold selK
   refine jt (List.length_filter_le _ _) ?_
   rw[xn]
   have:=ok.t4
   have:=xi taps.length (rowAt rows k).length
   omega
 obtain⟨ρ',l1,v3,hρ⟩:=q2n (fg:=gSet 3) (fb:=sExt 2 (q21 1 [3] none (mSeq (mOp2 dIx (mOp2 dIx (mVar 0) (mRet (.int 2))) (mOp2 dMod (mVar 3) (mOp1 dLen (mOp2 dIx (mVar 0) (mRet (.int 2))))))) (gSet 0) (q11 (mOp2 dEq (mVar 0) (mRet (.int 1)))) (mVar 1)))
   (λk ρ=>∃v3,ρ=[some (schD r taps rows e),some (.int (n:Int)),some (.lst ((q0g taps rows k).map D.int)),v3]) (q1f 0 (n+q09 r e)) 0
   [some (schD r taps rows e),some (.int (n:Int)),some (.lst []),none] ⟨none,rfl⟩ (λi x ρ hx ⟨v3,hρ⟩=>by
     subst hρ
     obtain⟨hi,rfl⟩:=q29 hx
     rw[jr,Int.zero_add]
     have eP:q0g taps rows (i+1)=q0g taps rows i++List.replicate (selK taps rows i).length (i:Int):=q1g _ _
     rw[eP,ju,List.map_replicate]
     have cm:=q4h (n:=1) (js:=[3]) (fg:=gSet 0) (ft:=q11 (mOp2 dEq (mVar 0) (mRet (.int 1)))) (fe:=mVar 1) (ρ:=[some (schD r taps rows e),some (.int (n:Int)),some (.lst ((q0g taps rows i).map D.int)),some (.int (i:Int))])
       (λd=>match d with|.int b=>b==1|_=>false) (λ_=>.int (i:Int)) ((rowAt rows i).map D.int) (λx hx=>by
         obtain⟨b,_,rfl⟩:=List.mem_map.mp hx
         refine⟨[some (.int b),some (.int (i:Int))],rfl,?_,λ_=>rfl⟩
         clear hx
         walk_at "ev")
     have ec:(((rowAt rows i).map D.int).filter (λd=>match d with|.int b=>b==1|_=>false)).map (λ_=>D.int (i:Int))=List.replicate (selK taps rows i).length (.int (i:Int)):=by
       have e1:∀l:List D,l.map (λ_=>D.int (i:Int))=List.replicate l.length (.int (i:Int)):=λl=>by
         induction l with
         |nil=>rfl
         |cons a l ih=>rw[jw,ih];rfl
       rw[e1,List.filter_map,j6]
       congr 1
       exact q8v taps (rowAt rows i) (qjp ok i)
     rw[ec]at cm
     have ln:((q0g taps rows i).map D.int).length+(List.replicate (selK taps rows i).length (D.int (i:Int))).length<=sizeLine:=by
       have q1:(q0g taps rows i).length<=i*4:=q40 _ 4 (λk=>by rw[ji];exact s4 k) i
       have q2:=s4 i
       rw[j6,ji]
       exact q17 (by omega)
     have hr:=hrow i
     have lr:((rowAt rows i).map D.int).length<=sizeLine:=by rw[j6,qjp ok];exact q17 (by have:=ok.t4;omega)
     generalize List.replicate (selK taps rows i).length (D.int (i:Int))=RP at cm ln ⊢
     generalize (q0g taps rows i).map D.int=F at cm ln ⊢
     generalize (rowAt rows i).map D.int=R at hr cm lr
     refine⟨_,[some (schD r taps rows e),some (.int (n:Int)),some (.lst (F++RP)),some (.int (i:Int))],rfl,.inl ?_,some (.int (i:Int)),rfl⟩
     exact qa9 _ _ _ _ _ _ _ lr ln (qhd _ _ _ _ _ _ _ _ zd hr) cm)
 subst hρ
 rw[q1u,jr]at l1
 have bg:big ((n+q09 r e:Nat):Int)=true:=by unfold big;simp;omega
 have z0:0<=sizeLine:=by decide
 have tn:((n+q09 r e:Nat):Int).toNat=n+q09 r e:=jx _
 rw[<-tn]at l1
 exact qd7 _ _ _ _ _ _ z0 hs bg l1
theorem v_start(ok:q22 r taps rows e)(w:List Int)(hw:e="ring"->r.toNat<=w.length)(hl:w.length<=1000):f_y45 [schD r taps rows e,.lst (w.map D.int)]=some (.int (frst r e w)):=by
 have ne1:¬(("open":Str)="ring"):=by decide
 have ne2:¬(("ended":Str)="ring"):=by decide
 have h1:=s_or
 have h2:=s_er
 have h3:=s_rr
 rcases ok.en with rfl|rfl|rfl
 · unfold frst schD
   rw[if_neg ne1]
   generalize w.map D.int=W
   clear ok hw
   unfold f_y45 qdw
   walk_at "ev"
 · unfold frst schD
   rw[if_neg ne2]
   generalize w.map D.int=W
   clear ok hw
   unfold f_y45 qdw
   walk_at "ev"
 · unfold frst
   rw[if_pos rfl]
   have r0:=ok.r0
   have hn:=hw rfl
   obtain⟨ρ',l1,v,hρ⟩:=q2n (fg:=gSet 3) (fb:=sSet 2 (mOp2 dAdd (mOp2 q32 (mRet (.int 2)) (mVar 2)) (mVar 3))) (λk ρ=>∃v,ρ=[some (schD r taps rows "ring"),some (.lst (w.map D.int)),some (.int (writ ((w.drop (w.length-r.toNat)).take k))),v]) ((w.drop (w.length-r.toNat)).map D.int) 0 [some (schD r taps rows "ring"),some (.lst (w.map D.int)),some (.int 0),none] ⟨none,rfl⟩ (λi x ρ hx ⟨v,hρ⟩=>by
       subst hρ
       rw[jb]at hx
       cases q:(w.drop (w.length-r.toNat))[i]? with
       |none=>rw[q]at hx;cases hx
       | some b=>
         rw[q]at hx
         cases hx
         generalize w.drop (w.length-r.toNat)=u at q ⊢
         rw[jr,take_snoc q,q44]
         refine⟨_,[some (schD r taps rows "ring"),some (.lst (w.map D.int)),some (.int (2*writ (u.take i)+b)),some (.int b)],rfl,.inl ?_,some (.int b),by rw[Int.mul_comm]⟩
         generalize writ (u.take i)=z
         generalize schD r taps rows "ring"=S
         generalize w.map D.int=W
         clear q ok hw hn h1 h2 h3 ne1 ne2
         walk_at "ev")
   subst hρ
   rw[j6,jr,List.take_length]at l1
   have sl:dSl (.lst (w.map D.int)) (some ((w.length:Int)-r)) none=some (.lst ((w.drop (w.length-r.toNat)).map D.int)):=by
     rw[q5g (by omega),<-List.map_drop]
     have:((w.length:Int)-r).toNat=w.length-r.toNat:=by omega
     rw[this]
   have lm:((w.map D.int).length:Int)=(w.length:Int):=by rw[j6]
   generalize w.drop (w.length-r.toNat)=u at l1 sl ⊢
   rw[<-lm]at sl
   unfold schD at l1 ⊢
   generalize u.map D.int=U at l1 sl
   generalize w.map D.int=W at l1 sl
   clear ok hw hn r0 hl lm
   unfold f_y45 qdw
   walk_at "ev"
theorem qn0(ok:q22 r taps rows e)(w:List Int)(k:Nat)(hk:k<w.length+q09 r e):atI (w.map D.int++[D.int 0,.int 0,.int 0,.int 0]) (k:Int)=some (.int ((q2t r e w).getD k 0))/\(q2t r e w)[k]? =some ((q2t r e w).getD k 0):=by
 have z4:=q2u ok
 have hl:(q2t r e w).length=w.length+q09 r e:=by rw[q38,jd,ji]
 have g1:(q2t r e w)[k]? =some ((q2t r e w).getD k 0):=by
   rw[jq,jc (by omega)]
   rfl
 refine⟨?_,g1⟩
 have e1:w.map D.int++[D.int 0,.int 0,.int 0,.int 0]=(w++List.replicate 4 0).map D.int:=by rw[ju];rfl
 rw[e1,q3t (by omega) (by rw[j6,jd,ji];omega),jx,jb]
 have e2:(w++List.replicate 4 (0:Int))[k]? =(q2t r e w)[k]? :=by
   rw[q38]
   by_cases h:k<w.length
   · rw[xy h,xy h]
   · rw[xk (by omega),xk (by omega),xx,xx,if_pos (by omega),if_pos (by omega)]
 rw[e2,g1]
 rfl
theorem qed(S:D)(z nz b k':Int)(W Z4 F S2 K1:List D)(v5:Option D)(FR:RhL)
   (hFR:FR [some S,some (.lst W),some (.int z),some (.lst F),some (.int k'),v5]=some (Z4,[some S,some (.lst W),some (.int z),some (.lst F),some (.int k'),v5])) (lW:W.length+Z4.length<=sizeLine) (ga:atI (W++Z4) k'=some (.int b))
   (st:f_y41 [S,.int z,.int b]=some (.tup [.int nz,.lst S2])) (sa:f_y42 [S,.int k',.lst S2]=some (.lst K1)) (ln:F.length+K1.length<=sizeLine):
   (sSeq (sAsg (q0k f_y41 (q01 (mVar 0) (q01 (mVar 2) (q01 (mOp2 dIx (mOp2 dAdd (mVar 1) (mOf FR)) (mVar 4)) mNil)))) (q25 2 (q0q (gSet 2) (q0q (gSet 5) q27))))
 (sExt 3 (q1i f_y42 (q01 (mVar 0) (q01 (mVar 4) (q01 (mVar 5) mNil)))))) [some S,some (.lst W),some (.int z),some (.lst F),some (.int k'),v5]=some (.nx [some S,some (.lst W),some (.int nz),some (.lst (F++K1)),some (.int k'),some (.lst S2)]):=by
 walk_at "ev"
theorem qh8(S:D)(a n' N:Int)(W F:List D)(z v4 v5:Option D)(FB:RhO)(z0:0<=sizeLine)(hn:n'=((W.length:Nat):Int))(h0:f_y45 [S,.lst W]=some (.int a))(h1:f_y43 [S,.int n']=some (.int N))(bg:big N=true)
   (l1:q2l (gSet 4) FB (q1f 0 N.toNat) [some S,some (.lst W),some (.int a),some (.lst []),none,none]=some (.nx [some S,some (.lst W),z,some (.lst F),v4,v5])):
   runP true 2 6 (sSeq (sSet 2 (q0k f_y45 (q01 (mVar 0) (q01 (mVar 1) mNil)))) (sSeq (sOwn 3 (mLst mNil)) (sSeq (sFor (q37 (q01 (q0k f_y43 (q01 (mVar 0) (q01 (mOp1 dLen (mVar 1)) mNil))) mNil)) (gSet 4) FB) (q55 3)))) [S,.lst W]=some (.lst F):=by
 subst hn
 walk_at "ev"
theorem rep4(one:1<=sizeLine)(ρ:Rho):(mRep (mLst (q01 (mRet (.int 0)) mNil)) (mRet (.int 4))) ρ=some ([D.int 0,.int 0,.int 0,.int 0],ρ):=by
 refine qb4 (xs:=[.int 0]) (y:=.int 4) (ρ1:=ρ) ?_ rfl (q82 _ (by decide) (by decide))
 walk_at "ev"
theorem qs2(ok:q22 r taps rows e)(w:List Int)(hb:Bits w)(hw:e="ring"->r.toNat<=w.length)(hl:w.length<=60):
   f_y46 [schD r taps rows e,.lst (w.map D.int)]=some (.lst ((q3g (isRing e) r.toNat taps rows w (w.length+q09 r e)).map D.int)):=by
 have fin:f_y46 [schD r taps rows e,.lst (w.map D.int)]=some (.lst ((q8t r.toNat taps rows (frst r e w) (q2t r e w)).map D.int)):=by
   have z4:=q2u ok
   have h0:=v_start ok w hw (by omega)
   have h1:=qe2 ok w.length
   have hat:=qn0 ok w
   have hlt:=qak ok w hb hw
   have hul:(q2t r e w).length=w.length+q09 r e:=by rw[q38,jd,ji]
   have hbb:Bits (q2t r e w):=q5t hb
   have m0:(0:Int)<2^r.toNat:=Int.pow_pos (by decide)
   have hs:=v_y3 ok
   have ht:=qgx ok
   have hln:∀u k,(q2m r.toNat taps rows (frst r e w) u k).length<=4:=λu k=>q8u r.toNat (frst r e w) u ok k
   generalize frst r e w=a at h0 hlt hln ⊢
   generalize q2t r e w=u at hat hul hbb ⊢
   have lW:((w.map D.int).length:Nat)+[D.int 0,.int 0,.int 0,.int 0].length<=sizeLine:=by rw[j6];exact q17 (by show w.length+4<=_;omega)
   obtain⟨ρ',l1,v4,v5,v2,hρ⟩:=q2n (fg:=gSet 4) (fb:=sSeq (sAsg (q0k f_y41 (q01 (mVar 0) (q01 (mVar 2) (q01 (mOp2 dIx (mOp2 dAdd (mVar 1) (mOf (mRep (mLst (q01 (mRet (.int 0)) mNil)) (mRet (.int 4))))) (mVar 4)) mNil)))) (q25 2 (q0q (gSet 2) (q0q (gSet 5) q27))))
 (sExt 3 (q1i f_y42 (q01 (mVar 0) (q01 (mVar 4) (q01 (mVar 5) mNil)))))) (λk ρ=>∃v4 v5 v2,ρ=[some (schD r taps rows e),some (.lst (w.map D.int)),v2,some (.lst (((List.range k).flatMap (q2m r.toNat taps rows a u)).map D.int)),v4,v5]/\v2=some (.int (endR (2^r.toNat) a (u.take k)))) (q1f 0 (w.length+q09 r e)) 0
     [some (schD r taps rows e),some (.lst (w.map D.int)),some (.int a),some (.lst []),none,none] ⟨none,none,_,rfl,rfl⟩ (λi x ρ hx ⟨v4,v5,v2,hρ,hv2⟩=>by
       subst hρ hv2
       obtain⟨hi,rfl⟩:=q29 hx
       obtain⟨ga,gu⟩:=hat i hi
       rw[jr,Int.zero_add,q1g,ju,take_snoc gu,q77]
       have zl:=q3n m0 (u.take i) a hlt
       have hbi:=hbb _ (x9 gu)
       have st:=hs (endR (2^r.toNat) a (u.take i)) (u.getD i 0) zl.1 zl.2 hbi
       have sa:=ht i (taps.map (sgn (2*endR (2^r.toNat) a (u.take i)+u.getD i 0))) (by rw[j6];have:=ok.t4;omega)
       have eK:q3v (rowAt rows i) (taps.map (sgn (2*endR (2^r.toNat) a (u.take i)+u.getD i 0)))=q2m r.toNat taps rows a u i:=rfl
       rw[eK]at sa
       have e3:endR (2^r.toNat) a (u.take i)+endR (2^r.toNat) a (u.take i)+u.getD i 0=2*endR (2^r.toNat) a (u.take i)+u.getD i 0:=by omega
       rw[e3]
       have ln:(((List.range i).flatMap (q2m r.toNat taps rows a u)).map D.int).length+((q2m r.toNat taps rows a u i).map D.int).length<=sizeLine:=by
         have q1:=q40 (q2m r.toNat taps rows a u) 4 (hln u) i
         have q2:=hln u i
         rw[j6,j6]
         exact q17 (by omega)
       generalize (q2m r.toNat taps rows a u i).map D.int=K1 at sa ln ⊢
       generalize ((List.range i).flatMap (q2m r.toNat taps rows a u)).map D.int=F at ln ⊢
       generalize (taps.map (sgn (2*endR (2^r.toNat) a (u.take i)+u.getD i 0))).map D.int=S2 at st sa
       generalize (2*endR (2^r.toNat) a (u.take i)+u.getD i 0) % 2^r.toNat=nz at st ⊢
       generalize endR (2^r.toNat) a (u.take i)=z at st ⊢
       generalize u.getD i 0=b at ga st
       exact⟨[some (schD r taps rows e),some (.lst (w.map D.int)),some (.int z),some (.lst F),some (.int (i:Int)),v5],[some (schD r taps rows e),some (.lst (w.map D.int)),some (.int nz),some (.lst (F++K1)),some (.int (i:Int)),some (.lst S2)],rfl,.inl (qed _ _ _ _ _ _ _ _ _ _ _ _ (rep4 (by decide) _) lW ga st sa ln),_,_,_,rfl,rfl⟩)
   obtain⟨hρ,hv2⟩:=hρ
   subst hρ hv2
   rw[q1u,jr]at l1
   have z0:0<=sizeLine:=by decide
   have bg:big ((w.length+q09 r e:Nat):Int)=true:=by unfold big;simp;omega
   have tn:((w.length+q09 r e:Nat):Int).toNat=w.length+q09 r e:=jx _
   have lm:(w.length:Int)=((w.map D.int).length:Nat):=by rw[j6]
   unfold q8t
   rw[hul]
   rw[<-tn]at l1
   exact qh8 _ _ _ _ _ _ _ _ _ _ (by decide) lm h0 h1 bg l1
 rw[fin,q38,qal,q7z (by have:=ok.r4;omega) hb (q6m hw) λt h=>(ok.tb t h).1]
theorem qb2:∀{ys:List D},(∀y∈ys,∃t,y=q15 t)->∃ts:List Told,ys=ts.map q15
 |[],_=>⟨[],rfl⟩
 | y::ys,h=>by
   obtain⟨t,rfl⟩:=h y jf
   obtain⟨ts,rfl⟩:=qb2 λz hz=>h z (jg _ hz)
   exact⟨t::ts,rfl⟩
theorem q2o{f g:RhO}{ρ ρ1:Rho}(h:f ρ=some (.nx ρ1)):sSeq f g ρ=g ρ1:=by
 rw[qg0,h]
 rfl
theorem qeg{b:RhO}{n k:Nat}{ds:List D}{d:D}(hl:ds.length=n)(h:∃ρ,b (ds.map some++List.replicate (k-n) none)=some (.rt d ρ)):runP false n k b ds=some d:=by
 obtain⟨ρ,h⟩:=h
 unfold runP
 rw[if_pos hl,h]
end
section
variable{r:Int}{taps:List Int}{rows:List (List Int)}{e:Str}
theorem qhr(ts:List Told)(bits:List Int)(hl:ts.length<=1000):f_y25 [.lst (ts.map objD),.tup (bits.map D.int)]=some (.int (q3e ts bits)):=by
 have hz:zipD (ts.map objD) (bits.map D.int)=(ts.zip bits).map λq=>D.tup [objD q.1,.int q.2]:=by
   rw[q69,q52,jk]
   rfl
 have cm:∀ρ:Rho,q0v 2 [] none (q25 2 (q0q (gSet 0) (q0q (gSet 1) q27))) (mRet true) (mOrE (q3m "Clear" "cost" f_y17 (mVar 0) (q01 (mVar 1) mNil)) (mOrE (q3m "Gap" "cost" f_y19 (mVar 0) (q01 (mVar 1) mNil)) (q3m "Soft" "cost" f_y22 (mVar 0) (q01 (mVar 1) mNil)))) ((ts.zip bits).map λq=>D.tup [objD q.1,.int q.2]) ρ=some (((ts.zip bits).map λq=>q3u q.1 q.2).map D.int,ρ):=λρ=>by
   have:∀zs:List (Told×Int),q0v 2 [] none (q25 2 (q0q (gSet 0) (q0q (gSet 1) q27))) (mRet true) (mOrE (q3m "Clear" "cost" f_y17 (mVar 0) (q01 (mVar 1) mNil)) (mOrE (q3m "Gap" "cost" f_y19 (mVar 0) (q01 (mVar 1) mNil)) (q3m "Soft" "cost" f_y22 (mVar 0) (q01 (mVar 1) mNil)))) (zs.map λq=>D.tup [objD q.1,.int q.2]) ρ=some ((zs.map λq=>q3u q.1 q.2).map D.int,ρ):=λzs=>by
     induction zs with
     |nil=>rfl
     | cons q zs ih=>
       have hg:(q25 2 (q0q (gSet 0) (q0q (gSet 1) q27))) (D.tup [objD q.1,.int q.2]) (q51 2 [] ρ)=some [some (objD q.1),some (.int q.2)]:=rfl
       rw[jw]
       unfold q0v
       rw[hg]
       dsimp only[mRet]
       rw[qez q.1 q.2]
       dsimp only[q4p]
       rw[ih]
       rfl
   exact this _
 have ll:((ts.zip bits).map λq=>D.tup [objD q.1,.int q.2]).length<=sizeLine:=by
   rw[j6,xn]
   exact q17 (by have:=xi ts.length bits.length;omega)
 have hi:=q3s ((ts.zip bits).map λq=>q3u q.1 q.2)
 unfold f_y25 qgm q3e
 generalize (ts.zip bits).map (λq=>D.tup [objD q.1,.int q.2])=Z at hz cm ll
 generalize (ts.zip bits).map (λq=>q3u q.1 q.2)=Y at cm hi ⊢
 generalize ts.map objD=TS at hz ⊢
 generalize bits.map D.int=B at hz ⊢
 generalize Y.map D.int=YD at cm hi
 clear hl
 walk_at "ev"
theorem qkv(S T:D)(n' N:Int)(hs:f_y13 [S,.int n']=some (.int N))(bg:big N=true):qdk [some S,some (.int n'),some T,none,none,none]=some (q1f 0 N.toNat,[some S,some (.int n'),some T,none,none,none]):=by
 unfold qdk
 walk_at "ev"
theorem qog(S:D)(n':Int)(T P Z:List D)(hp:f_y14 [S,.int n']=some (.lst P))(hz:zipD P T=Z):(mZip (q01 (mOf (q1i f_y14 (q01 (mVar 0) (q01 (mVar 1) mNil)))) (q01 (mVar 2) mNil))) [some S,some (.int n'),some (.lst T),none,none,none]=some (Z,[some S,some (.int n'),some (.lst T),none,none,none]):=by
 walk_at "ev"
theorem qoh(S T u t o:D)(n':Int)(h:f_y23 [t]=some o):(q01 (q0k f_y23 (q01 (mVar 5) mNil)) mNil) [some S,some (.int n'),some T,none,some u,some t]=some ([o],[some S,some (.int n'),some T,none,some u,some t]):=by
 walk_at "ev"
theorem qsl(ok:q22 r taps rows e)(n:Nat)(hn:n<=60)(h:e="ring"->r.toNat<=n)(ts:List Told)(hl:ts.length=(q0g taps rows (n+q09 r e)).length):
   f_y27 [schD r taps rows e,.int n,.lst (ts.map q15)]=some (.lst ((List.range (n+q09 r e)).map λk=>D.lst ((chunk taps rows ts k).map objD))):=by
 have z4:=q2u ok
 have hs:=qex ok n h
 have hp:=qbg ok n hn h
 have s4:∀k,(selK taps rows k).length<=4:=λk=>by
   unfold selK
   refine jt (List.length_filter_le _ _) ?_
   rw[xn]
   have:=ok.t4
   have:=xi taps.length (rowAt rows k).length
   omega
 have q1:(q0g taps rows (n+q09 r e)).length<=(n+q09 r e)*4:=q40 _ 4 (λk=>by rw[ji];exact s4 k) _
 have bg:big ((n+q09 r e:Nat):Int)=true:=by unfold big;simp;omega
 have hi:=qkv (schD r taps rows e) (.lst (ts.map q15)) n _ hs bg
 rw[jx]at hi
 have hz:zipD ((q0g taps rows (n+q09 r e)).map D.int) (ts.map q15)=((q0g taps rows (n+q09 r e)).zip ts).map λq=>D.tup [.int q.1,q15 q.2]:=by
   rw[q69,q52,jk]
   rfl
 have hzz:=qog (schD r taps rows e) n (ts.map q15) _ _ hp hz
 obtain⟨u',v',hr⟩:=qb6 (i:=3) (a:=4) (b:=5) (fe:=mVar 4) (fs:=q01 (q0k f_y23 (q01 (mVar 5) mNil)) mNil) q15 objD (λu v=>[some (schD r taps rows e),some (.int n),some (.lst (ts.map q15)),none,u,v]) (λ_ _=>rfl) (λ_ _ _ _=>rfl) (λ_ _=>rfl) (λk t=>qoh _ _ _ _ _ _ (qbe t))
   ((q0g taps rows (n+q09 r e)).zip ts) (List.replicate (n+q09 r e) []) none none (λq hq=>by
     have hm:=(List.of_mem_zip hq).1
     unfold q0g at hm
     obtain⟨k,hk,hm⟩:=List.mem_flatMap.mp hm
     rw[List.eq_of_mem_replicate hm,ji]
     exact⟨by omega,by rw[jx];exact List.mem_range.mp hk⟩) (λg hg=>by
     rw[List.eq_of_mem_replicate hg,xn]
     have:=xi (q0g taps rows (n+q09 r e)).length ts.length
     exact jm (by simp;omega:_<1000) (by decide))
 rw[qeo (n+q09 r e) (by omega),List.map_replicate,jk]at hr
 show qds (q9f _)=_
 have hD:q9f [schD r taps rows e,.int n,.lst (ts.map q15)]=some ((List.range (n+q09 r e)).map ((λg=>g.map objD)∘chunk taps rows ts)):=by
   unfold q9f qa6
   refine(if_pos rfl).trans ?_
   show(match qdk [some (schD r taps rows e),some (.int n),some (.lst (ts.map q15)),none,none,none]with
     | some (xs,ρ1)=>if 3<ρ1.length/\xs.length<=sizeLine then(match qdy (ρ1.set 3 none) (List.replicate xs.length [])with
       |some p=>some p.2
       |none=>none)else none
     |none=>none)=_
   rw[hi]
   simp only
   rw[if_pos ⟨by simp,by rw[q1u];exact q17 (by omega)⟩,q1u]
   have hb:qdy [some (schD r taps rows e),some (.int n),some (.lst (ts.map q15)),none,none,none] (List.replicate (n+q09 r e) [])=some ([some (schD r taps rows e),some (.int n),some (.lst (ts.map q15)),none,u',v'],(List.range (n+q09 r e)).map ((λg=>g.map objD)∘chunk taps rows ts)):=by
     unfold qdy qbx
     rw[hzz]
     exact(if_pos rfl).trans hr
   have es:([some (schD r taps rows e),some (.int n),some (.lst (ts.map q15)),none,none,none]:Rho).set 3 none=[some (schD r taps rows e),some (.int n),some (.lst (ts.map q15)),none,none,none]:=rfl
   rw[es,hb]
 rw[hD]
 show some (D.lst _)=some (D.lst _)
 rw[jk]
 rfl
theorem qqi(S:D)(k' z9 bit nx c:Int)(G S2 P:List D)(two:2<=sizeLine)(h1:f_y3 [S,.int z9,.int bit]=some (.tup [.int nx,.tup S2]))(h2:f_y4 [S,.int k',.tup S2]=some (.tup P))(h3:f_y25 [.lst G,.tup P]=some (.int c)):f_y28 [S,.int k',.lst G,.int z9,.int bit]=some (.tup [.int nx,.int c]):=by
 unfold f_y28 qj6
 walk_at "ev"
theorem qsj(ok:q22 r taps rows e)(k:Nat)(ts:List Told)(hl:(chunk taps rows ts k).length<=1000)(z9 bit:Int)(a0:0<=z9)(a1:z9<2^r.toNat)(hb:bit=0∨bit=1):f_y28 [schD r taps rows e,.int k,.lst ((chunk taps rows ts k).map objD),.int z9,.int bit]=some (mvD (mvK r taps rows ts k z9 bit)):=
 qqi _ _ _ _ _ _ _ _ _ (by decide) (p_y3 ok z9 bit a0 a1 hb) (q86 ok k _ (by rw[j6];have:=ok.t4;omega)) (qhr _ _ hl)
theorem qqn(S:D)(k' z9:Int)(G BS YS:List D)(ll:BS.length<=sizeLine)(cm:q0v 1 [0,1,2,3] none (gSet 0) (mRet true) (q0k f_y28 (q01 (mVar 1) (q01 (mVar 2) (q01 (mVar 3) (q01 (mVar 4) (q01 (mVar 0) mNil)))))) BS [some S,some (.int k'),some (.lst G),some (.int z9),some (.tup BS)]=some (YS,[some S,some (.int k'),some (.lst G),some (.int z9),some (.tup BS)])):f_y29 [S,.int k',.lst G,.int z9,.tup BS]=some (.lst YS):=by
 unfold f_y29 qj5
 walk_at "ev"
theorem qqo(S:D)(k' z9 b:Int)(G:List D)(y:D)(h:f_y28 [S,.int k',.lst G,.int z9,.int b]=some y):((q0k f_y28 (q01 (mVar 1) (q01 (mVar 2) (q01 (mVar 3) (q01 (mVar 4) (q01 (mVar 0) mNil)))))) [some (.int b),some S,some (.int k'),some (.lst G),some (.int z9)]).map (·.1)=some y:=by
 walk_at "ev"
theorem p_mf(ok:q22 r taps rows e)(k:Nat)(ts:List Told)(hl:(chunk taps rows ts k).length<=1000)(z9:Int)(a0:0<=z9)(a1:z9<2^r.toNat)(n:Nat):f_y29 [schD r taps rows e,.int k,.lst ((chunk taps rows ts k).map objD),.int z9,.tup ((q42 n k).map D.int)]=some (chD ((q42 n k).map λb=>mvK r taps rows ts k z9 b)):=by
 have l2:(q42 n k).length<=2:=by unfold q42;split<;>simp
 have hb:∀b∈q42 n k,b=0∨b=1:=by
   unfold q42
   split<;>simp
 have cm:=q43 (n:=1) (js:=[0,1,2,3]) (fg:=gSet 0) (fe:=q0k f_y28 (q01 (mVar 1) (q01 (mVar 2) (q01 (mVar 3) (q01 (mVar 4) (q01 (mVar 0) mNil))))))
   (ρ:=[some (schD r taps rows e),some (.int k),some (.lst ((chunk taps rows ts k).map objD)),some (.int z9),some (.tup ((q42 n k).map D.int))]) (λd=>match d with|.int b=>mvD (mvK r taps rows ts k z9 b)|d=>d) ((q42 n k).map D.int) (λx hx=>by
     obtain⟨b,hm,rfl⟩:=List.mem_map.mp hx
     exact⟨_,rfl,qqo _ _ _ _ _ _ (qsj ok k ts hl z9 b a0 a1 (hb b hm))⟩)
 rw[jk]at cm
 have:=qqn _ _ _ _ _ _ (q17 (by rw[j6];omega)) cm
 rw[this]
 unfold chD
 rw[jk]
 rfl
theorem qhv(S T:D)(n' k':Int)(F:List D)(g:D)(v6:Option D)(two:2<=sizeLine)(n k:Nat)(hn:n'=(n:Nat))(hk:k'=(k:Nat)):(sSet 6 (mIf (q11 (mOp2 dLt (mVar 4) (mVar 1))) (mTup (q01 (mRet (.int 0)) (q01 (mRet (.int 1)) mNil))) (mTup (q01 (mRet (.int 0)) mNil)))) [some S,some (.int n'),some T,some (.lst F),some (.int k'),some g,v6]=some (.nx [some S,some (.int n'),some T,some (.lst F),some (.int k'),some g,some (.tup ((q42 n k).map D.int))]):=by
 have one:1<=sizeLine:=by decide
 unfold q42
 by_cases h:k<n
 · have h':k'<n':=by omega
   rw[if_pos h]
   show _=some (Out.nx [_,_,_,_,_,_,some (.tup [.int 0,.int 1])])
   clear hn hk h
   walk_at "ev"
 · have h':¬k'<n':=by omega
   rw[if_neg h]
   show _=some (Out.nx [_,_,_,_,_,_,some (.tup [.int 0])])
   clear hn hk h
   walk_at "ev"
theorem qlp(S T:D)(n' k' M:Int)(F YS:List D)(g bs:D)(FE:RhD)(hr:f_y1 [S]=some (.int M))(bg:big M=true)(l1:(q1f 0 M.toNat).length<=sizeLine)(l2:F.length<sizeLine)
   (cm:q0v 1 [0,4,5,6] none (gSet 0) (mRet true) FE (q1f 0 M.toNat) [some S,some (.int n'),some T,some (.lst F),some (.int k'),some g,some bs]=some (YS,[some S,some (.int n'),some T,some (.lst F),some (.int k'),some g,some bs])):
   (sMut q1n 3 (q01 (mOf (q21 1 [0,4,5,6] none (q37 (q01 (q0k f_y1 (q01 (mVar 0) mNil)) mNil)) (gSet 0) (mRet true) FE)) mNil)) [some S,some (.int n'),some T,some (.lst F),some (.int k'),some g,some bs]=some (.nx [some S,some (.int n'),some T,some (.lst (F++[.lst YS])),some (.int k'),some g,some bs]):=by
 walk_at "ev"
theorem qlo(S:D)(k' z9:Int)(g bs y:D)(h:f_y29 [S,.int k',g,.int z9,bs]=some y):((q0k f_y29 (q01 (mVar 1) (q01 (mVar 2) (q01 (mVar 3) (q01 (mVar 0) (q01 (mVar 4) mNil)))))) [some (.int z9),some S,some (.int k'),some g,some bs]).map (·.1)=some y:=by
 walk_at "ev"
theorem qln(S:D)(n':Int)(T G F:List D)(v4 v5 v6:Option D)(FB:RhO)(z0:0<=sizeLine)(hc:f_y24 [S,.int n',.lst T]=some .non)(hg:f_y27 [S,.int n',.lst T]=some (.lst G))
   (l1:q2l (q25 2 (q0q (gSet 4) (q0q (gSet 5) q27))) FB (q5e G) [some S,some (.int n'),some (.lst T),some (.lst []),none,none,none]=some (.nx [some S,some (.int n'),some (.lst T),some (.lst F),v4,v5,v6])):
   (runP false 3 7 (sSeq (q81 (q0k f_y24 (q01 (mVar 0) (q01 (mVar 1) (q01 (mVar 2) mNil)))))
 (sSeq (sOwn 3 (mLst mNil))
 (sSeq (sFor (qdi (q0k f_y27 (q01 (mVar 0) (q01 (mVar 1) (q01 (mVar 2) mNil))))) (q25 2 (q0q (gSet 4) (q0q (gSet 5) q27))) FB)
 (sRet (mVar 3)))))) [S,.int n',.lst T]=some (.lst F):=by
 walk_at "ev"
theorem qsi(ok:q22 r taps rows e)(n:Nat)(hn:n<=60)(h:e="ring"->r.toNat<=n)(ts:List Told)(hl:ts.length=(q0g taps rows (n+q09 r e)).length):
   f_y30 [schD r taps rows e,.int n,.lst (ts.map q15)]=some (stD (q1e r taps rows ts n 0 (n+q09 r e))):=by
 have z4:=q2u ok
 have p16:=q49 ok.r0 ok.r4
 have hc:=qbi ok n hn h (ts.map q15) (by rw[j6];exact hl)
 have hg:=qsl ok n hn h ts hl
 have hr:=p_y1 ok
 have pn:=q3b (r:=r)
 have s4:∀k,(selK taps rows k).length<=4:=λk=>by
   unfold selK
   refine jt (List.length_filter_le _ _) ?_
   rw[xn]
   have:=ok.t4
   have:=xi taps.length (rowAt rows k).length
   omega
 have c4:∀k,(chunk taps rows ts k).length<=1000:=λk=>by unfold chunk;rw[jz];have:=s4 k;omega
 have bg:big ((2:Int)^r.toNat)=true:=by unfold big;simp;omega
 have tn:((2:Int)^r.toNat).toNat=2^r.toNat:=by omega
 have lr:(q1f 0 ((2:Int)^r.toNat).toNat).length<=sizeLine:=by rw[q1u,tn];exact q17 (by omega)
 obtain⟨ρ',l1,v4,v5,v6,hρ⟩:=q2n (fg:=q25 2 (q0q (gSet 4) (q0q (gSet 5) q27))) (fb:=(sSeq (sSet 6 (mIf (q11 (mOp2 dLt (mVar 4) (mVar 1))) (mTup (q01 (mRet (.int 0)) (q01 (mRet (.int 1)) mNil))) (mTup (q01 (mRet (.int 0)) mNil))))
 (sMut q1n 3 (q01 (mOf (q21 1 [0,4,5,6] none (q37 (q01 (q0k f_y1 (q01 (mVar 0) mNil)) mNil)) (gSet 0) (mRet true) (q0k f_y29 (q01 (mVar 1) (q01 (mVar 2) (q01 (mVar 3) (q01 (mVar 0) (q01 (mVar 4) mNil)))))))) mNil))))
   (λk ρ=>∃v4 v5 v6,ρ=[some (schD r taps rows e),some (.int (n:Int)),some (.lst (ts.map q15)),some (.lst ((q1e r taps rows ts n 0 k).map sxD)),v4,v5,v6]) (q5e ((List.range (n+q09 r e)).map λk=>D.lst ((chunk taps rows ts k).map objD))) 0
   [some (schD r taps rows e),some (.int (n:Int)),some (.lst (ts.map q15)),some (.lst []),none,none,none] ⟨none,none,none,rfl⟩ (λi x ρ hx ⟨v4,v5,v6,hρ⟩=>by
     subst hρ
     rw[q76,jb]at hx
     have hi:i<n+q09 r e:=by
       rcases Nat.lt_or_ge i (n+q09 r e)with z|z
       · exact z
       · rw[xc (by simp;omega)]at hx;cases hx
     rw[xr hi]at hx
     have hx:x=D.tup [.int (i:Int),.lst ((chunk taps rows ts i).map objD)]:=(je hx).symm
     subst hx
     rw[jr]
     have cm:=q43 (n:=1) (js:=[0,4,5,6]) (fg:=gSet 0) (fe:=q0k f_y29 (q01 (mVar 1) (q01 (mVar 2) (q01 (mVar 3) (q01 (mVar 0) (q01 (mVar 4) mNil))))))
       (ρ:=[some (schD r taps rows e),some (.int (n:Int)),some (.lst (ts.map q15)),some (.lst ((q1e r taps rows ts n 0 i).map sxD)),some (.int (i:Int)),some (.lst ((chunk taps rows ts i).map objD)),some (.tup ((q42 n i).map D.int))])
       (λd=>match d with|.int z9=>chD ((q42 n i).map λb=>mvK r taps rows ts i z9 b)|d=>d) (q1f 0 ((2:Int)^r.toNat).toNat) (λx hx=>by
         obtain⟨k,hk⟩:=List.mem_iff_getElem?.mp hx
         obtain⟨hk1,rfl⟩:=q29 hk
         rw[Int.zero_add]
         exact⟨_,rfl,qlo _ _ _ _ _ _ (p_mf ok i ts (c4 i) (k:Int) (by omega) (by omega) n)⟩)
     have ey:(q1f 0 ((2:Int)^r.toNat).toNat).map (λd=>match d with|.int z9=>chD ((q42 n i).map λb=>mvK r taps rows ts i z9 b)|d=>d)=(stepK r taps rows ts n i).map chD:=by
       unfold q1f L2.stepK
       rw[tn,jk,jk]
       refine List.map_congr_left λk _=>?_
       simp
     rw[ey]at cm
     have es:q1e r taps rows ts n 0 (i+1)=q1e r taps rows ts n 0 i++[stepK r taps rows ts n i]:=by
       unfold q1e
       rw[List.range'_concat,ju]
       simp
     have lf:((q1e r taps rows ts n 0 i).map sxD).length<sizeLine:=by
       unfold q1e
       rw[j6,j6,List.length_range']
       exact jm (by omega:i<1000) (by decide)
     refine⟨_,[some (schD r taps rows e),some (.int (n:Int)),some (.lst (ts.map q15)),some (.lst ((q1e r taps rows ts n 0 (i+1)).map sxD)),some (.int (i:Int)),some (.lst ((chunk taps rows ts i).map objD)),some (.tup ((q42 n i).map D.int))],rfl,.inl ?_,_,_,_,rfl⟩
     refine(q2o (qhv _ _ _ _ _ _ _ (by decide) n i rfl rfl)).trans ?_
     rw[es,ju]
     exact qlp _ _ _ _ _ _ _ _ _ _ hr bg lr lf cm)
 subst hρ
 have le:(q5e ((List.range (n+q09 r e)).map λk=>D.lst ((chunk taps rows ts k).map objD))).length=n+q09 r e:=by unfold q5e;simp
 rw[le,jr]at l1
 unfold f_y30 qj4 stD
 exact qln _ _ _ _ _ _ _ _ _ (by decide) hc hg l1
end
theorem qmx(a c x:Int)(B:List D)(h:atI B a=some (.int x)):f_y32 [.tup [.int a,.int c],.lst B]=some (.int (c+x)):=by
 unfold f_y32 qgl
 walk_at "ev"
theorem qmy(a c:Int)(B:List D)(h:atI B a=some .non):f_y32 [.tup [.int a,.int c],.lst B]=some .non:=by
 unfold f_y32 qgl
 walk_at "ev"
theorem qau{t:Rw}{a:Int}(h0:0<=a)(h1:a.toNat<t.length):atI (t.map optI) a=some (optI (atR t a)):=by
 rw[q3t h0 (by rw[j6];omega),jb]
 unfold atR
 rw[jc h1]
 rfl
theorem qbh(q:Mv)(t:Rw)(h0:0<=q.1)(h1:q.1.toNat<t.length):f_y32 [mvD q,rwD t]=some (optI (q1t q t)):=by
 have h:=qau h0 h1
 unfold q1t
 cases e:atR t q.1 with
 | none=>
   rw[e]at h
   exact qmy _ _ _ h
 | some x=>
   rw[e]at h
   exact qmx _ _ _ _ h
theorem qqr(q zb y:D)(h:f_y32 [q,zb]=some y):((q0k f_y32 (q01 (mVar 0) (q01 (mVar 1) mNil))) [some q,some zb]).map (·.1)=some y:=by
 walk_at "ev"
theorem qqq(CH YS ZS:List D)(zb m:D)(l1:CH.length<=sizeLine)(l2:YS.length<=sizeLine)(cm:q0v 1 [1] none (gSet 0) (mRet true) (q0k f_y32 (q01 (mVar 0) (q01 (mVar 1) mNil))) CH [some (.lst CH),some zb,none]=some (YS,[some (.lst CH),some zb,none]))
   (cf:q0v 1 [] none (gSet 0) (q11 (mOp2 qdq (mVar 0) (mRet .non))) (mVar 0) YS [some (.lst CH),some zb,some (.lst YS)]=some (ZS,[some (.lst CH),some zb,some (.lst YS)])) (hm:qdr (.lst ZS)=some m):f_y33 [.lst CH,zb]=some m:=by
 unfold f_y33 qj2
 generalize hd:qdr=dm at hm ⊢
 walk_at "ev"
theorem q8f:∀ys:List (Option Int),((ys.map optI).filter λd=>match d with|.non=>false|_=>true)=(ys.filterMap id).map D.int
 |[]=>rfl
 | none::ys=>by
   rw[jw,List.filter_cons]
   exact q8f ys
 | some x::ys=>by
   rw[jw,List.filter_cons]
   show D.int x::_=D.int x::_
   rw[q8f ys]
theorem q94(ch:List Mv)(t:Rw)(hl:ch.length<=1000)(h:∀q∈ch,0<=q.1/\q.1.toNat<t.length):f_y33 [chD ch,rwD t]=some (optI (q23 ch t)):=by
 have cm:=q43 (n:=1) (js:=[1]) (fg:=gSet 0) (fe:=q0k f_y32 (q01 (mVar 0) (q01 (mVar 1) mNil))) (ρ:=[some (chD ch),some (rwD t),none])
   (λd=>match d with|.tup [.int a,.int c]=>optI (q1t (a,c) t)|d=>d) (ch.map mvD) (λx hx=>by
     obtain⟨q,hq,rfl⟩:=List.mem_map.mp hx
     exact⟨_,rfl,qqr _ _ _ (qbh q t (h q hq).1 (h q hq).2)⟩)
 have e1:(ch.map mvD).map (λd=>match d with|.tup [.int a,.int c]=>optI (q1t (a,c) t)|d=>d)=(ch.map λq=>q1t q t).map optI:=by
   rw[jk,jk]
   rfl
 rw[e1]at cm
 have cf:=q4h (n:=1) (js:=[]) (fg:=gSet 0) (ft:=q11 (mOp2 qdq (mVar 0) (mRet .non))) (fe:=mVar 0) (ρ:=[some (chD ch),some (rwD t),some (.lst ((ch.map λq=>q1t q t).map optI))])
   (λd=>match d with|.non=>false|_=>true) (λd=>d) ((ch.map λq=>q1t q t).map optI) (λx hx=>by
     obtain⟨o,_,rfl⟩:=List.mem_map.mp hx
     refine⟨[some (optI o)],rfl,?_,λ_=>rfl⟩
     cases o with
     |none=>rfl
     |some y=>rfl)
 have e2:∀zs:List D,zs.map (λd=>d)=zs:=λzs=>by simp
 rw[q8f,e2]at cf
 refine qqq _ _ _ _ _ (q17 (by rw[j6];omega)) (q17 (by rw[j6,j6];omega)) cm cf ?_
 show(q3z _).map (λns=>optI (minI ns))=_
 rw[q3s]
 rfl
theorem qke{ch:List Mv}{hh:Rw}{y:D}(h:f_y33 [chD ch,rwD hh]=some y):(match chD ch with|.lst xs=>(match f_y33 [.lst xs,rwD hh]with|some y=>y|none=>.non)|d=>d)=y:=by
 unfold chD at h ⊢
 dsimp only
 rw[h]
theorem qrx(ch zb y:D)(h:f_y33 [ch,zb]=some y):((q0k f_y33 (q01 (mVar 0) (q01 (mVar 1) mNil))) [some ch,some zb]).map (·.1)=some y:=by
 walk_at "ev"
theorem qna(ST EN x:D)(TB:List D)(v4:Option D)(b:D)(h:atI TB (-1)=some b):(sSet 4 (mIxO 2 (mOp1 dNeg (mRet (.int 1))))) [some ST,some EN,some (.lst TB),some x,v4]=some (.nx [some ST,some EN,some (.lst TB),some x,some b]):=by
 walk_at "ev"
theorem qry(ST EN b:D)(TB CH YS:List D)(FE:RhD)(l1:CH.length<=sizeLine)(l2:TB.length<sizeLine)(cm:q0v 1 [4] none (gSet 0) (mRet true) FE CH [some ST,some EN,some (.lst TB),some (.lst CH),some b]=some (YS,[some ST,some EN,some (.lst TB),some (.lst CH),some b])):
   (sMut q1n 2 (q01 (mOf (q21 1 [4] none (mSeq (mVar 3)) (gSet 0) (mRet true) FE)) mNil)) [some ST,some EN,some (.lst TB),some (.lst CH),some b]=some (.nx [some ST,some EN,some (.lst (TB++[.lst YS])),some (.lst CH),some b]):=by
 walk_at "ev"
theorem qrw(SS TB:List D)(EN:D)(v3 v4:Option D)(FB:RhO)(one:1<=sizeLine)(l1:q2l (gSet 3) FB SS.reverse [some (.lst SS),some EN,some (.lst [EN]),none,none]=some (.nx [some (.lst SS),some EN,some (.lst TB),v3,v4])):
   (runP false 2 5 (sSeq (sOwn 2 (mLst (q01 (mVar 1) mNil)))
 (sSeq (sFor (mRev (mVar 0)) (gSet 3) FB)
 (sRet (mOf (mRev (mVar 2))))))) [.lst SS,EN]=some (.lst TB.reverse):=by
 walk_at "ev"
theorem q8d{z6:List Sx}{za:Rw}{M:Nat}(he:za.length=M)(hs:∀st∈z6,st.length=M):((q0e z6 za).headD []).length=M:=by
 cases z6 with
 |nil=>exact he
 | cons st rest=>
   show(st.map _).length=M
   rw[j6]
   exact hs st jf
theorem qf1(z6:List Sx)(za:Rw)(M:Nat)(hM:M<=1000)(hN:z6.length<=1000)(he:za.length=M)(hs:∀st∈z6,st.length=M/\∀ch∈st,ch.length<=2/\∀q∈ch,0<=q.1/\q.1.toNat<M):
   f_y34 [stD z6,rwD za]=some (tbD (q0e z6 za)):=by
 obtain⟨ρ',l1,v3,v4,hρ⟩:=q2n (fg:=gSet 3) (fb:=(sSeq (sSet 4 (mIxO 2 (mOp1 dNeg (mRet (.int 1)))))
 (sMut q1n 2 (q01 (mOf (q21 1 [4] none (mSeq (mVar 3)) (gSet 0) (mRet true) (q0k f_y33 (q01 (mVar 0) (q01 (mVar 1) mNil))))) mNil))))
   (λk ρ=>∃v3 v4,ρ=[some (stD z6),some (rwD za),some (.lst ((q0e (z6.drop (z6.length-k)) za).reverse.map rwD)),v3,v4]) (z6.map sxD).reverse 0
   [some (stD z6),some (rwD za),some (.lst [rwD za]),none,none] ⟨none,none,by rw[Nat.sub_zero,List.drop_length];rfl⟩ (λi x ρ hx ⟨v3,v4,hρ⟩=>by
     subst hρ
     rw[jr]
     have hi:i<z6.length:=by
       have:=(List.getElem?_eq_some_iff.mp hx).1
       simpa using this
     have hlt:z6.length-1-i<z6.length:=by omega
     rw[List.getElem?_reverse (by rw[j6];exact hi),j6,jb,jc hlt]at hx
     have hx:x=sxD z6[z6.length-1-i]:=(je hx).symm
     subst hx
     have hst:=hs _ (xj hlt)
     have ed:z6.drop (z6.length-(i+1))=z6[z6.length-1-i]::z6.drop (z6.length-i):=by
       rw[show z6.length-(i+1)=z6.length-1-i from by omega,xv hlt]
       congr 2
       omega
     generalize z6[z6.length-1-i]=st at hst ed ⊢
     rw[ed]
     have hd:((q0e (z6.drop (z6.length-i)) za).headD []).length=M:=q8d he λz hz=>(hs z (List.mem_of_mem_drop hz)).1
     have hla:=q5v (z6.drop (z6.length-i)) za
     have hlast:atI ((q0e (z6.drop (z6.length-i)) za).reverse.map rwD) (-1)=some (rwD ((q0e (z6.drop (z6.length-i)) za).headD [])):=by
       generalize q0e (z6.drop (z6.length-i)) za=tt at hla ⊢
       cases tt with
       |nil=>simp at hla
       | cons a b=>
         rw[List.reverse_cons,ju]
         exact qgo _ _
     have eA:q0e (st::z6.drop (z6.length-i)) za=(st.map λch=>q23 ch ((q0e (z6.drop (z6.length-i)) za).headD []))::q0e (z6.drop (z6.length-i)) za:=rfl
     rw[eA]
     generalize (q0e (z6.drop (z6.length-i)) za).headD []=hh at hd hlast ⊢
     generalize q0e (z6.drop (z6.length-i)) za=tt at hla hlast ⊢
     have cm:=q43 (n:=1) (js:=[4]) (fg:=gSet 0) (fe:=q0k f_y33 (q01 (mVar 0) (q01 (mVar 1) mNil))) (ρ:=[some (stD z6),some (rwD za),some (.lst (tt.reverse.map rwD)),some (sxD st),some (rwD hh)])
       (λd=>match d with|.lst xs=>(match f_y33 [.lst xs,rwD hh]with|some y=>y|none=>.non)|d=>d) (st.map chD) (λx hx=>by
         obtain⟨ch,hc,rfl⟩:=List.mem_map.mp hx
         have hp:=q94 ch hh (by have:=(hst.2 ch hc).1;omega) (λq hq=>by rw[hd];exact(hst.2 ch hc).2 q hq)
         refine⟨_,rfl,?_⟩
         rw[qke hp]
         exact qrx _ _ _ hp)
     have ey:(st.map chD).map (λd=>match d with|.lst xs=>(match f_y33 [.lst xs,rwD hh]with|some y=>y|none=>.non)|d=>d)=(st.map λch=>q23 ch hh).map optI:=by
       rw[jk,jk]
       refine List.map_congr_left λch hc=>?_
       exact qke (q94 ch hh (by have:=(hst.2 ch hc).1;omega) (λq hq=>by rw[hd];exact(hst.2 ch hc).2 q hq))
     rw[ey]at cm
     have lt:(tt.reverse.map rwD).length<sizeLine:=by
       rw[j6,List.length_reverse,hla,xl]
       exact jm (by omega:_<2000) (by decide)
     refine⟨_,[some (stD z6),some (rwD za),some (.lst (((st.map λch=>q23 ch hh)::tt).reverse.map rwD)),some (sxD st),some (rwD hh)],rfl,.inl ?_,_,_,rfl⟩
     refine(q2o (qna _ _ _ _ _ _ hlast)).trans ?_
     rw[List.reverse_cons,ju]
     exact qry _ _ _ _ _ _ _ (q17 (by rw[j6];omega)) lt cm)
 subst hρ
 rw[List.length_reverse,j6,jr,Nat.sub_self,List.drop_zero]at l1
 unfold f_y34 qj1
 refine(qrw (z6.map sxD) _ _ _ _ _ (by decide) l1).trans ?_
 unfold tbD
 rw[<-List.map_reverse,List.reverse_reverse]
section
variable{r:Int}{taps:List Int}{rows:List (List Int)}{e:Str}
theorem o_oo:eqD (.str "open") (.str "open")=some true:=by rw[q28 (by decide+kernel) (by decide+kernel)];decide+kernel
theorem o_eo:eqD (.str "ended") (.str "open")=some false:=by rw[q28 (by decide+kernel) (by decide+kernel)];decide+kernel
theorem o_ro:eqD (.str "ring") (.str "open")=some false:=by rw[q28 (by decide+kernel) (by decide+kernel)];decide+kernel
theorem qmr(R TS RS:D)(s M:Int)(Y:List D)(h:eqD (.str e) (.str "open")=some true)(hr:f_y1 [.tup [R,TS,RS,.str e]]=some (.int M))(hy:repO [.int 0] (.int M)=some Y)(one:1<=sizeLine):f_y31 [.tup [R,TS,RS,.str e],.int s]=some (.lst Y):=by
 unfold f_y31 qj3
 have hrep:(mRep (mLst (q01 (mRet (.int 0)) mNil)) (q0k f_y1 (q01 (mVar 0) mNil))) [some (.tup [R,TS,RS,.str e]),some (.int s),none]=some (Y,[some (.tup [R,TS,RS,.str e]),some (.int s),none]):=by
   refine qb4 (xs:=[.int 0]) (y:=.int M) (ρ1:=[some (.tup [R,TS,RS,.str e]),some (.int s),none]) ?_ ?_ hy
   · clear hy h hr
     walk_at "ev"
   · clear hy h
     walk_at "ev"
 generalize (mRep (mLst (q01 (mRet (.int 0)) mNil)) (q0k f_y1 (q01 (mVar 0) mNil)))=FR at hrep ⊢
 clear hy hr
 walk_at "ev"
theorem qro(z9 en:Int):((mIf (q11 (mOp2 dEq (mVar 0) (mVar 1))) (mRet (.int 0)) (mRet .non)) [some (.int z9),some (.int en)]).map (·.1)=some (optI (if z9=en then some 0 else none)):=by
 by_cases h:z9=en
 · subst h
   rw[if_pos rfl]
   walk_at "ev"
 · have h':(z9==en)=false:=beq_eq_false_iff_ne.mpr h
   rw[if_neg h]
   walk_at "ev"
theorem ec_0(R TS RS:D)(s:Int)(FR:RhO)(h:eqD (.str e) (.str "open")=some false):(sIf (q11 (mOp2 dEq (mOp2 dIx (mVar 0) (mRet (.int 3))) (mRet (.str "open")))) FR sNil) [some (.tup [R,TS,RS,.str e]),some (.int s),none]=some (.nx [some (.tup [R,TS,RS,.str e]),some (.int s),none]):=by
 walk_at "ev"
theorem ec_1(S:D)(s en:Int)(b:Bool)(hb:f_y5 [S]=some (.bl b))(hen:en=(if b=true then s else 0)):(sSet 2 (mIf (q11 (q0k f_y5 (q01 (mVar 0) mNil))) (mVar 1) (mRet (.int 0)))) [some S,some (.int s),none]=some (.nx [some S,some (.int s),some (.int en)]):=by
 cases b with
 | true=>
   have hen:en=s:=hen
   rw[hen]
   clear hen
   walk_at "ev"
 | false=>
   have hen:en=0:=hen
   rw[hen]
   clear hen
   walk_at "ev"
theorem ec_2(S:D)(s M en:Int)(Y:List D)(FE:RhD)(hr:f_y1 [S]=some (.int M))(bg:big M=true)(l1:(q1f 0 M.toNat).length<=sizeLine)(cm:q0v 1 [2] none (gSet 0) (mRet true) FE (q1f 0 M.toNat) [some S,some (.int s),some (.int en)]=some (Y,[some S,some (.int s),some (.int en)])):
   (sRet (mOf (q21 1 [2] none (q37 (q01 (q0k f_y1 (q01 (mVar 0) mNil)) mNil)) (gSet 0) (mRet true) FE))) [some S,some (.int s),some (.int en)]=some (.rt (.lst Y) [some S,some (.int s),some (.int en)]):=by
 walk_at "ev"
theorem qim(R TS RS:D)(s M en:Int)(b:Bool)(Y:List D)(h:eqD (.str e) (.str "open")=some false)(hb:f_y5 [.tup [R,TS,RS,.str e]]=some (.bl b))(hen:en=(if b=true then s else 0))(hr:f_y1 [.tup [R,TS,RS,.str e]]=some (.int M))(bg:big M=true)(l1:(q1f 0 M.toNat).length<=sizeLine)
   (cm:q0v 1 [2] none (gSet 0) (mRet true) (mIf (q11 (mOp2 dEq (mVar 0) (mVar 1))) (mRet (.int 0)) (mRet .non)) (q1f 0 M.toNat) [some (.tup [R,TS,RS,.str e]),some (.int s),some (.int en)]=some (Y,[some (.tup [R,TS,RS,.str e]),some (.int s),some (.int en)])):
   f_y31 [.tup [R,TS,RS,.str e],.int s]=some (.lst Y):=by
 refine qeg rfl ⟨[some (.tup [R,TS,RS,.str e]),some (.int s),some (.int en)],?_⟩
 refine(q2o (ec_0 _ _ _ _ _ h)).trans ?_
 exact(q2o (ec_1 _ _ _ _ hb hen)).trans (ec_2 _ _ _ _ _ _ hr bg l1 cm)
theorem qp0(ok:q22 r taps rows e)(s:Int):f_y31 [schD r taps rows e,.int s]=some (rwD (q4o r e s)):=by
 have p16:=q49 ok.r0 ok.r4
 have pn:=q3b (r:=r)
 have hr:=p_y1 ok
 have hb:=qbf ok
 have tn:((2:Int)^r.toNat).toNat=2^r.toNat:=by omega
 unfold rwD q4o
 rw[jk]
 by_cases q:e="open"
 · subst q
   have hy:repO [D.int 0] (.int (2^r.toNat))=some (List.replicate (2^r.toNat) (.int 0)):=by rw[q82 _ (by omega) (by omega),tn]
   have h1:f_y31 [schD r taps rows "open",.int s]=some (.lst (List.replicate (2^r.toNat) (.int 0))):=qmr (e:="open") (.int r) (.tup (taps.map D.int)) (.tup (rows.map rowD)) s (2^r.toNat) _ o_oo hr hy (by decide)
   rw[h1]
   refine congrArg (λx=>some (D.lst x)) ?_
   apply List.ext_getElem?
   intro i
   by_cases h:i<2^r.toNat
   · rw[jb,xr h,xx,if_pos h]
     simp[optI]
   · rw[xc (by simp;omega),xc (by simp;omega)]
 · have ho:eqD (.str e) (.str "open")=some false:=by
     rcases ok.en with h|h|h
     · exact absurd h q
     · rw[h];exact o_eo
     · rw[h];exact o_ro
   have bg:big ((2:Int)^r.toNat)=true:=by unfold big;simp;omega
   have cm:=q43 (n:=1) (js:=[2]) (fg:=gSet 0) (fe:=(mIf (q11 (mOp2 dEq (mVar 0) (mVar 1))) (mRet (.int 0)) (mRet .non))) (ρ:=[some (schD r taps rows e),some (.int s),some (.int (if isRing e=true then s else 0))]) (λd=>match d with|.int z9=>optI (if z9=(if isRing e=true then s else 0)then some 0 else none)|d=>d) (q1f 0 ((2:Int)^r.toNat).toNat) (λx hx=>by
       obtain⟨k,hk⟩:=List.mem_iff_getElem?.mp hx
       obtain⟨hk1,rfl⟩:=q29 hk
       exact⟨_,rfl,qro _ _⟩)
   have h1:=qim (e:=e) (.int r) (.tup (taps.map D.int)) (.tup (rows.map rowD)) s (2^r.toNat) _ (isRing e) _ ho hb rfl hr bg (by rw[q1u,tn];exact q17 (by omega)) cm
   refine(show f_y31 [schD r taps rows e,.int s]=_ from h1).trans ?_
   refine congrArg (λx=>some (D.lst x)) ?_
   unfold q1f
   rw[tn,jk]
   refine List.map_congr_left λk _=>?_
   refine congrArg optI ?_
   have e1:(if isRing e=true then s else 0)=(if e="ring" then s else 0):=by
     unfold isRing
     by_cases z:e="ring"
     · simp[z]
     · simp[z]
   rw[e1,Int.zero_add]
   show(if((k:Nat):Int)=(if e="ring" then s else 0)then some 0 else none)=if e="open"∨((k:Nat):Int)=(if e="ring" then s else 0)then some 0 else none
   generalize (if e="ring" then s else 0)=E
   by_cases z:((k:Nat):Int)=E
   · rw[if_pos z,if_pos (Or.inr z)]
   · rw[if_neg z,if_neg (λh=>Or.elim h (λh=>q h) λh=>z h)]
theorem qm5(S:D)(M:Int)(Y:List D)(hb:f_y5 [S]=some (.bl true))(hr:f_y1 [S]=some (.int M))(hy:upsO (.int M)=some Y):f_y10 [S]=some (.lst Y):=by
 unfold f_y10 qgn
 generalize hu:upsO=uo at hy ⊢
 clear hu
 walk_at "ev"
theorem qie(S:D)(one:1<=sizeLine)(hb:f_y5 [S]=some (.bl false)):f_y10 [S]=some (.lst [.int 0]):=by
 unfold f_y10 qgn
 walk_at "ev"
theorem qhq(ok:q22 r taps rows e):f_y10 [schD r taps rows e]=some (.lst ((q1d r e).map D.int)):=by
 have p16:=q49 ok.r0 ok.r4
 have pn:=q3b (r:=r)
 have hr:=p_y1 ok
 have hb:=qbf ok
 have tn:((2:Int)^r.toNat).toNat=2^r.toNat:=by omega
 unfold q1d
 by_cases q:e="ring"
 · rw[if_pos q]
   have h1:isRing e=true:=by unfold isRing;simp[q]
   rw[h1]at hb
   refine qm5 _ _ _ hb hr ?_
   show(if(0:Int)<=2^r.toNat/\(2:Int)^r.toNat<=1000000 then some ((ups (2^r.toNat)).map D.int)else none)=_
   rw[if_pos ⟨by omega,by omega⟩]
   unfold ups
   rw[tn]
 · rw[if_neg q]
   have h1:isRing e=false:=by unfold isRing;simp[q]
   rw[h1]at hb
   exact qie _ (by decide) hb
theorem qkq(S ST EN TB:D)(s:Int)(gs gs':List (Key×D))(he:f_y31 [S,.int s]=some EN)(ha:f_y34 [ST,EN]=some TB)(hp:qd4 gs s TB=some gs'):(qa4 2 (q0k f_y34 (q01 (mVar 1) (q01 (q0k f_y31 (q01 (mVar 0) (q01 (mVar 3) mNil))) mNil))) (mVar 3)) [some S,some ST,some (.dct gs),some (.int s)]=some (.nx [some S,some ST,some (.dct gs'),some (.int s)]):=by
 refine qmf (ρ1:=[some S,some ST,some (.dct gs),some (.int s)]) (ρ2:=[some S,some ST,some (.dct gs),some (.int s)]) (d:=TB) ?_ ?_ rfl hp
 · clear hp
   walk_at "ev"
 · rfl
theorem qnj(S ST:D)(SS:List D)(gs:List (Key×D))(v3:Option D)(FB:RhO)(hs:f_y10 [S]=some (.lst SS))(l1:q2l (gSet 3) FB SS [some S,some ST,some (.dct []),none]=some (.nx [some S,some ST,some (.dct gs),v3])):
   (runP false 2 4 (sSeq (qa5 2)
 (sSeq (sFor (mSeq (mOf (q1i f_y10 (q01 (mVar 0) mNil)))) (gSet 3) FB)
 (sRet (mVar 2))))) [S,ST]=some (.dct gs):=by
 have h1:qa5 2 [some S,some ST,none,none]=some (.nx [some S,some ST,some (.dct []),none]):=qmh (by simp)
 walk_at "ev"
theorem q8p:(q1d r e).Nodup:=by
 unfold q1d
 by_cases q:e="ring"
 · rw[if_pos q]
   rw[List.Nodup,List.pairwise_map]
   exact List.nodup_range.imp λh z=>h (by omega)
 · rw[if_neg q]
   simp
theorem qhp(ok:q22 r taps rows e)(ts:List Told)(n:Nat)(hn:n<=60):f_y35 [schD r taps rows e,stD (q1e r taps rows ts n 0 (n+q09 r e))]=some (.dct ((q1d r e).map λs=>(Sum.inl s,tbD (q47 r taps rows e ts n s)))):=by
 have p16:=q49 ok.r0 ok.r4
 have pn:=q3b (r:=r)
 have z4:=q2u ok
 have hs:=qhq ok
 have ls:(q1d r e).length<=16:=by
   unfold q1d
   split
   · simp;omega
   · simp
 have hst:∀st∈q1e r taps rows ts n 0 (n+q09 r e),st.length=2^r.toNat/\∀ch∈st,ch.length<=2/\∀q∈ch,0<=q.1/\q.1.toNat<2^r.toNat:=λst h=>by
   have:∀(len k:Nat) (st:Sx),st∈q1e r taps rows ts n k len->st.length=2^r.toNat/\∀ch∈st,ch.length<=2/\∀q∈ch,0<=q.1/\q.1.toNat<2^r.toNat:=by
     intro len
     induction len with
     |zero=>intro k st h;cases h
     | succ len ih=>
       intro k st h
       have ok1:=q58 (r:=r) (taps:=taps) (rows:=rows) (ts:=ts) (n:=n) (len+1) k
       rw[q4v]at h ok1
       rcases List.mem_cons.mp h with h|h
       · subst h
         refine⟨ok1.1,λch hc=>⟨?_,(ok1.2.1 ch hc).2⟩⟩
         rw[(ok1.2.1 ch hc).1]
         split<;>omega
       · exact ih _ _ h
   exact this _ _ _ h
 have lst':(q1e r taps rows ts n 0 (n+q09 r e)).length<=1000:=by unfold q1e;rw[j6,List.length_range'];omega
 obtain⟨ρ',l1,v3,hρ⟩:=q2n (fg:=gSet 3) (fb:=(qa4 2 (q0k f_y34 (q01 (mVar 1) (q01 (q0k f_y31 (q01 (mVar 0) (q01 (mVar 3) mNil))) mNil))) (mVar 3)))
   (λk ρ=>∃v3,ρ=[some (schD r taps rows e),some (stD (q1e r taps rows ts n 0 (n+q09 r e))),some (.dct (((q1d r e).take k).map λs=>(Sum.inl s,tbD (q47 r taps rows e ts n s)))),v3]) ((q1d r e).map D.int) 0
   [some (schD r taps rows e),some (stD (q1e r taps rows ts n 0 (n+q09 r e))),some (.dct []),none] ⟨none,rfl⟩ (λi x ρ hx ⟨v3,hρ⟩=>by
     subst hρ
     rw[jr]
     rw[jb]at hx
     cases hs1:(q1d r e)[i]? with
     |none=>rw[hs1]at hx;cases hx
     | some s=>
       rw[hs1]at hx
       cases hx
       have hb:=qp0 ok s
       have ha:=qf1 (q1e r taps rows ts n 0 (n+q09 r e)) (q4o r e s) (2^r.toNat) (by omega) lst' (by unfold q4o;simp) hst
       refine⟨_,[some (schD r taps rows e),some (stD (q1e r taps rows ts n 0 (n+q09 r e))),some (.dct (((q1d r e).take (i+1)).map λs=>(Sum.inl s,tbD (q47 r taps rows e ts n s)))),some (.int s)],rfl,.inl (qkq _ _ _ _ _ _ _ hb ha ?_),_,rfl⟩
       unfold qd4
       rw[if_pos]
       · rw[take_snoc hs1,ju]
         rfl
       · refine⟨?_,?_⟩
         · rw[j6,jz]
           exact jm (by omega:_<1000) (by decide)
         · rw[List.all_eq_true]
           intro g hg
           obtain⟨t,ht,rfl⟩:=List.mem_map.mp hg
           have:t≠s:=λz=>by
             subst z
             obtain⟨j,hj⟩:=List.mem_iff_getElem?.mp ht
             have hj1:j<i:=by
               have:=(List.getElem?_eq_some_iff.mp hj).1
               rw[jz]at this
               omega
             rw[List.getElem?_take_of_lt hj1]at hj
             have hi:=(List.getElem?_eq_some_iff.mp hs1).1
             have hjl:=(List.getElem?_eq_some_iff.mp hj).1
             have e1:=(List.getElem?_eq_some_iff.mp hj).2
             have e2:=(List.getElem?_eq_some_iff.mp hs1).2
             exact List.pairwise_iff_getElem.mp q8p j i hjl hi hj1 (e1.trans e2.symm)
           simp[this])
 subst hρ
 rw[j6,jr,List.take_length]at l1
 unfold f_y35 qj0
 exact qnj _ _ _ _ _ _ hs l1
end
theorem nf_7(s0 n' k' z9:Int)(ST TB WD SR CH:List D)(v7 v8:Option D)(a1:atI ST k'=some (.lst SR))(a2:atI SR z9=some (.lst CH)):(sSet 7 (mOp2 dIx (mOp2 dIx (mVar 1) (mVar 6)) (mVar 5))) [some (.int s0),some (.lst ST),some (.lst TB),some (.int n'),some (.lst WD),some (.int z9),some (.int k'),v7,v8]=some (.nx [some (.int s0),some (.lst ST),some (.lst TB),some (.int n'),some (.lst WD),some (.int z9),some (.int k'),some (.lst CH),v8]):=by
 walk_at "ev"
theorem nf_8(s0 n' k' z9 bit:Int)(ST TB WD CH T0:List D)(q0 t1 x y:D)(b:Bool)(v8:Option D)(a3:atI CH 0=some q0)(a4:atI TB (k'+1)=some t1)(hc:f_y32 [q0,t1]=some x)(a5:atI TB k'=some (.lst T0))(a6:atI T0 z9=some y)(he:eqD x y=some b)(hb:bit=if b=true then 0 else 1):
   (sSet 8 (mIf (q11 (mOp2 dEq (q0k f_y32 (q01 (mOp2 dIx (mVar 7) (mRet (.int 0))) (q01 (mOp2 dIx (mVar 2) (mOp2 dAdd (mVar 6) (mRet (.int 1)))) mNil))) (mOp2 dIx (mOp2 dIx (mVar 2) (mVar 6)) (mVar 5)))) (mRet (.int 0)) (mRet (.int 1)))) [some (.int s0),some (.lst ST),some (.lst TB),some (.int n'),some (.lst WD),some (.int z9),some (.int k'),some (.lst CH),v8]=some (.nx [some (.int s0),some (.lst ST),some (.lst TB),some (.int n'),some (.lst WD),some (.int z9),some (.int k'),some (.lst CH),some (.int bit)]):=by
 cases b with
 | true=>
   have hb:bit=0:=hb
   rw[hb]
   clear hb
   walk_at "ev"
 | false=>
   have hb:bit=1:=hb
   rw[hb]
   clear hb
   walk_at "ev"
theorem nf_4(s0 n' k' z9 bit:Int)(ST TB WD CH:List D)(l:WD.length<sizeLine):(sMut q1n 4 (q01 (mVar 8) mNil)) [some (.int s0),some (.lst ST),some (.lst TB),some (.int n'),some (.lst WD),some (.int z9),some (.int k'),some (.lst CH),some (.int bit)]=some (.nx [some (.int s0),some (.lst ST),some (.lst TB),some (.int n'),some (.lst (WD++[.int bit])),some (.int z9),some (.int k'),some (.lst CH),some (.int bit)]):=by
 walk_at "ev"
theorem nf_5(s0 n' k' z9 bit nx:Int)(c:D)(ST TB WD CH:List D)(a7:atI CH bit=some (.tup [.int nx,c])):(sSet 5 (mOp2 dIx (mOp2 dIx (mVar 7) (mVar 8)) (mRet (.int 0)))) [some (.int s0),some (.lst ST),some (.lst TB),some (.int n'),some (.lst WD),some (.int z9),some (.int k'),some (.lst CH),some (.int bit)]=some (.nx [some (.int s0),some (.lst ST),some (.lst TB),some (.int n'),some (.lst WD),some (.int nx),some (.int k'),some (.lst CH),some (.int bit)]):=by
 walk_at "ev"
theorem qq4(s0 n':Int)(ST TB T0 W:List D)(y:D)(v5 v6 v7 v8:Option D)(FB:RhO)(two:2<=sizeLine)(z0:0<=sizeLine)(bg:big n'=true)(a1:atI TB 0=some (.lst T0))(a2:atI T0 s0=some y)(l1:q2l (gSet 6) FB (q1f 0 n'.toNat) [some (.int s0),some (.lst ST),some (.lst TB),some (.int n'),some (.lst []),some (.int s0),none,none,none]=some (.nx [some (.int s0),some (.lst ST),some (.lst TB),some (.int n'),some (.lst W),v5,v6,v7,v8])):
   (runP false 4 9 (sSeq (sOwn 4 (mLst mNil))
 (sSeq (sSet 5 (mVar 0))
 (sSeq (sFor (q37 (q01 (mVar 3) mNil)) (gSet 6) FB)
 (sRet (mTup (q01 (mOp2 dIx (mOp2 dIx (mVar 2) (mRet (.int 0))) (mVar 0)) (q01 (mVar 4) mNil)))))))) [.int s0,.lst ST,.lst TB,.int n']=some (.tup [y,.lst W]):=by
 walk_at "ev"
theorem qrl(a b:Option Int):eqD (optI a) (optI b)=some (decide (a=b)):=by
 cases a with
 | none=>
   cases b with
   |none=>exact eqD_none.trans (by simp)
   |some y=>exact(q5y y).trans (by simp)
 | some x=>
   cases b with
   |none=>exact(q5z x).trans (by simp)
   | some y=>
     refine(qg2 x y).trans ?_
     congr 1
     by_cases h:x=y
     · simp[h]
     · simp[h]
theorem qd8(z6:List Sx)(za:Rw)(M n:Nat)(s:Int)(hM:M<=1000)(hn:n<=1000)(hN:n<=z6.length)(ok:OkS M n z6)(he:za.length=M)(zd:∀st∈z6,st.length=M)(hs:0<=s/\s.toNat<M)(m:Int)(hm:atR ((q0e z6 za).headD []) s=some m):
   f_y36 [.int s,stD z6,tbD (q0e z6 za),.int n]=some (pairD (m,q34 n z6 (q0e z6 za) s)):=by
 have lt:=q5v z6 za
 obtain⟨ρ',l1,zq,z9,v6,v7,v8,hρ,lw,hr,ok2,hg⟩:=q2n (fg:=gSet 6) (fb:=(sSeq (sSet 7 (mOp2 dIx (mOp2 dIx (mVar 1) (mVar 6)) (mVar 5)))
 (sSeq (sSet 8 (mIf (q11 (mOp2 dEq (q0k f_y32 (q01 (mOp2 dIx (mVar 7) (mRet (.int 0))) (q01 (mOp2 dIx (mVar 2) (mOp2 dAdd (mVar 6) (mRet (.int 1)))) mNil))) (mOp2 dIx (mOp2 dIx (mVar 2) (mVar 6)) (mVar 5)))) (mRet (.int 0)) (mRet (.int 1))))
 (sSeq (sMut q1n 4 (q01 (mVar 8) mNil))
 (sSet 5 (mOp2 dIx (mOp2 dIx (mVar 7) (mVar 8)) (mRet (.int 0))))))))
   (λk ρ=>∃(zq:List Int) (z9:Int) (v6 v7 v8:Option D),ρ=[some (.int s),some (stD z6),some (tbD (q0e z6 za)),some (.int (n:Int)),some (.lst (zq.map D.int)),some (.int z9),v6,v7,v8]/\zq.length=k/\(0<=z9/\z9.toNat<M)/\OkS M (n-k) (z6.drop k)/\zq++q34 (n-k) (z6.drop k) ((q0e z6 za).drop k) z9=q34 n z6 (q0e z6 za) s)
   (q1f 0 n) 0 [some (.int s),some (stD z6),some (tbD (q0e z6 za)),some (.int (n:Int)),some (.lst []),some (.int s),none,none,none] ⟨[],s,none,none,none,rfl,rfl,hs,ok,rfl⟩ (λi x ρ hx ⟨zq,z9,v6,v7,v8,hρ,lw,hr,ok2,hg⟩=>by
     subst hρ
     rw[jr]at*
     obtain⟨hi,rfl⟩:=q29 hx
     rw[Int.zero_add]
     have hi1:i<z6.length:=by omega
     have e1:z6[i]? =some z6[i]:=jc hi1
     have ed:z6.drop i=z6[i]::z6.drop (i+1):=xv hi1
     have hti:i<(q0e z6 za).length:=by omega
     have hti2:i+1<(q0e z6 za).length:=by omega
     have et:(q0e z6 za).drop i=(q0e z6 za)[i]::(q0e z6 za).drop (i+1):=xv hti
     have et2:((q0e z6 za).drop (i+1)).headD []=(q0e z6 za)[i+1]:=by rw[xv hti2];rfl
     have en:n-i=(n-(i+1))+1:=by omega
     rw[ed]at ok2
     obtain⟨o1,o2,o3⟩:=ok2
     rw[Nat.sub_sub]at o3
     have hlt:z9.toNat<z6[i].length:=by rw[o1];exact hr.2
     have es:z6[i][z9.toNat]? =some z6[i][z9.toNat]:=jc hlt
     obtain⟨c1,c2⟩:=o2 _ (xj hlt)
     rw[if_neg (by omega)]at c1
     obtain⟨q0,q1,eq⟩:=qjj c1
     have ech:chAt z6[i] z9=[q0,q1]:=by rw[q5h es,eq]
     rw[en,ed,et,q4y,et2,ech]at hg
     -- rows' lengths
     have lrow:∀k (hk:k<(q0e z6 za).length),(q0e z6 za)[k].length=M:=λk hk=>by
       have:=q7d z6 za k (by omega)
       have h1:((q0e z6 za).drop k).headD []=(q0e z6 za)[k]:=by rw[xv hk];rfl
       rw[<-h1,this]
       exact q8d he λz hz=>zd z (List.mem_of_mem_drop hz)
     have hq0:=c2 q0 (by rw[eq];simp)
     have hq1:=c2 q1 (by rw[eq];simp)
     have a1:atI (z6.map sxD) (i:Int)=some (.lst (z6[i].map chD)):=by
       rw[q3t (by omega) (by rw[j6];omega),jx,jb,e1];rfl
     have a2:atI (z6[i].map chD) z9=some (.lst ([q0,q1].map mvD)):=by
       rw[q3t hr.1 (by rw[j6];omega),jb,es,eq];rfl
     have a3:atI ([q0,q1].map mvD) 0=some (mvD q0):=at0 _ _
     have a4:atI ((q0e z6 za).map rwD) ((i:Int)+1)=some (rwD (q0e z6 za)[i+1]):=by
       rw[q3t (by omega) (by rw[j6];omega),show((i:Int)+1).toNat=i+1 from by omega,jb,jc hti2];rfl
     have hc:=qbh q0 (q0e z6 za)[i+1] hq0.1 (by rw[lrow _ hti2];exact hq0.2)
     have a5:atI ((q0e z6 za).map rwD) (i:Int)=some (.lst ((q0e z6 za)[i].map optI)):=by
       rw[q3t (by omega) (by rw[j6];omega),jx,jb,jc hti];rfl
     have a6:atI ((q0e z6 za)[i].map optI) z9=some (optI (atR (q0e z6 za)[i] z9)):=qau hr.1 (by rw[lrow _ hti];exact hr.2)
     have he2:=qrl (q1t q0 (q0e z6 za)[i+1]) (atR (q0e z6 za)[i] z9)
     have hbit:q5u z6[i] (q0e z6 za)[i] (q0e z6 za)[i+1] z9=if decide (q1t q0 (q0e z6 za)[i+1]=atR (q0e z6 za)[i] z9)=true then 0 else 1:=by
       unfold q5u
       rw[ech]
       by_cases z:q1t q0 (q0e z6 za)[i+1]=atR (q0e z6 za)[i] z9
       · rw[if_pos (by exact z),decide_eq_true z];rfl
       · rw[if_neg (by exact z),decide_eq_false z];rfl
     have hb01:q5u z6[i] (q0e z6 za)[i] (q0e z6 za)[i+1] z9=0∨q5u z6[i] (q0e z6 za)[i] (q0e z6 za)[i+1] z9=1:=by
       rw[hbit];split
       · exact .inl rfl
       · exact .inr rfl
     generalize q5u z6[i] (q0e z6 za)[i] (q0e z6 za)[i+1] z9=bit at hg hbit hb01
     obtain⟨nx,hnx,c,a7,hrn⟩:∃nx:Int,([q0,q1].getD bit.toNat (0,0)).1=nx/\∃c:D,atI ([q0,q1].map mvD) bit=some (.tup [.int nx,c])/\(0<=nx/\nx.toNat<M):=by
       rcases hb01 with z|z
       · rw[z];exact⟨q0.1,rfl,.int q0.2,at0 _ _,hq0⟩
       · rw[z];exact⟨q1.1,rfl,.int q1.2,at1 _ _ _,hq1⟩
     rw[hnx]at hg
     refine⟨_,[some (.int s),some (stD z6),some (tbD (q0e z6 za)),some (.int (n:Int)),some (.lst ((zq++[bit]).map D.int)),some (.int nx),some (.int (i:Int)),some (.lst ([q0,q1].map mvD)),some (.int bit)],rfl,.inl ?_,zq++[bit],nx,_,_,_,rfl,by rw[jd,lw];rfl,hrn,o3,by rw[List.append_assoc];exact hg⟩
     refine(q2o (nf_7 _ _ _ _ _ _ _ _ _ _ _ a1 a2)).trans ?_
     refine(q2o (nf_8 _ _ _ _ bit _ _ _ _ _ _ _ _ _ _ _ a3 a4 hc a5 a6 he2 hbit)).trans ?_
     refine(q2o (nf_4 _ _ _ _ _ _ _ _ _ (by rw[j6,lw];exact jm (by omega:i<2000) (by decide)))).trans ?_
     rw[ju]
     exact nf_5 _ _ _ _ _ _ _ _ _ _ _ a7)
 subst hρ
 rw[q1u,jr]at lw hg
 rw[Nat.sub_self]at hg
 have hg:zq++[]=q34 n z6 (q0e z6 za) s:=hg
 rw[List.append_nil]at hg
 subst hg
 have bg:big (n:Int)=true:=by unfold big;simp;omega
 have h0:0<(q0e z6 za).length:=by omega
 have eh:(q0e z6 za).headD []=(q0e z6 za)[0]:=by
   generalize q0e z6 za=tt at h0 ⊢
   cases tt with
   |nil=>simp at h0
   |cons a b=>rfl
 have a1:atI ((q0e z6 za).map rwD) 0=some (.lst (((q0e z6 za)[0]).map optI)):=by
   rw[q3t (by omega) (by rw[j6];omega),show(0:Int).toNat=0 from rfl,jb,jc h0];rfl
 have hl0:((q0e z6 za).headD []).length=M:=q8d he zd
 have a2:atI (((q0e z6 za)[0]).map optI) s=some (.int m):=by
   have:=qau (t:=(q0e z6 za).headD []) hs.1 (by rw[hl0];exact hs.2)
   rw[hm,eh]at this
   exact this
 have tn:((n:Nat):Int).toNat=n:=jx n
 rw[<-tn]at l1
 unfold f_y36 qiz
 exact qq4 s n _ _ _ _ _ _ _ _ _ _ (by decide) (by decide) bg a1 a2 (by rw[tn]at l1 ⊢;exact l1)
section
variable{r:Int}{taps:List Int}{rows:List (List Int)}{e:Str}
theorem ql7(q:Int×List Int):qho (pairD q)=some q:=by
 show(q3z (q.2.map D.int)).map (λns=>(q.1,ns))=some q
 rw[q3s]
 rfl
theorem qbd:∀qs:List (Int×List Int),q5x (qs.map pairD)=some qs
 |[]=>rfl
 | q::qs=>by
   rw[jw]
   unfold q5x
   rw[ql7,qbd qs]
theorem qql{qs:List (Int×List Int)}{n:Nat}(h:qs≠[])(hl:∀q∈qs,q.2.length=n):qio (.lst (qs.map pairD))=some (pairD (q4e qs)):=by
 show(match q5x (qs.map pairD)with
   |some qs=>if qs≠[]/\(qs.all λq=>decide (q.2.length=(q4e qs).2.length))=true then some (pairD (q4e qs))else none
   |none=>none)=_
 rw[qbd]
 refine if_pos ⟨h,List.all_eq_true.mpr λq hq=>?_⟩
 rw[hl q hq,hl _ (q9c h).1]
 simp
theorem ne_3(S T ST:D)(n':Int)(hm:f_y30 [S,.int n',T]=some ST):(sSet 3 (q0k f_y30 (q01 (mVar 0) (q01 (mVar 1) (q01 (mVar 2) mNil))))) [some S,some (.int n'),some T,none,none]=some (.nx [some S,some (.int n'),some T,some ST,none]):=by
 walk_at "ev"
theorem ne_4(S T ST TB:D)(n':Int)(ht:f_y35 [S,ST]=some TB):(sSet 4 (q0k f_y35 (q01 (mVar 0) (q01 (mVar 3) mNil)))) [some S,some (.int n'),some T,some ST,none]=some (.nx [some S,some (.int n'),some T,some ST,some TB]):=by
 walk_at "ev"
theorem ne_r(S T ST y:D)(n':Int)(gs:List (Key×D))(KS YS:List D)(FE:RhD)(dm:D->Option D)(hk:q9d (.dct gs)=some KS)(l1:KS.length<=sizeLine)(cm:q0v 1 [3,1,4] none (gSet 0) (mRet true) FE KS [some S,some (.int n'),some T,some ST,some (.dct gs)]=some (YS,[some S,some (.int n'),some T,some ST,some (.dct gs)]))(hy:dm (.lst YS)=some y):
   (sRet (mOp1 dm (mOf (q21 1 [3,1,4] none (q71 (mVar 4)) (gSet 0) (mRet true) FE)))) [some S,some (.int n'),some T,some ST,some (.dct gs)]=some (.rt y [some S,some (.int n'),some T,some ST,some (.dct gs)]):=by
 have h1:q71 (mVar 4) [some S,some (.int n'),some T,some ST,some (.dct gs)]=some (KS,[some S,some (.int n'),some T,some ST,some (.dct gs)]):=by
   rw[qby]
   show((q9d (.dct gs)).map λx=>(x,_))=_
   rw[hk]
   rfl
 generalize q71 (mVar 4)=FK at h1 ⊢
 clear hk
 walk_at "ev"
theorem qq5(ST TB y:D)(s n':Int)(gs:List (Key×D))(hg:dIxK (.dct gs) (.int s)=some TB)(h:f_y36 [.int s,ST,TB,.int n']=some y):((q0k f_y36 (q01 (mVar 0) (q01 (mVar 1) (q01 (mOp2 dIxK (mVar 3) (mVar 0)) (q01 (mVar 2) mNil))))) [some (.int s),some ST,some (.int n'),some (.dct gs)]).map (·.1)=some y:=by
 generalize hd:dIxK=dx at hg ⊢
 clear hd
 walk_at "ev"
theorem qfz{ss:List Int}{f:Int->D}{s:Int}(h:s∈ss):qaj (ss.map λs=>(Sum.inl s,f s)) s=some (f s):=by
 induction ss with
 |nil=>cases h
 | cons a r ih=>
   unfold qaj
   rw[jw]
   by_cases z:a=s
   · subst z
     simp[List.find?_cons]
   · have h1:s∈r:=by
       rcases List.mem_cons.mp h with h|h
       · exact absurd h.symm z
       · exact h
     have:=ih h1
     unfold qaj at this
     rw[<-this]
     simp[List.find?_cons,z]
theorem qoy(ok:q22 r taps rows e)(n:Nat)(hn:n<=60)(h:e="ring"->r.toNat<=n)(ts:List Told)(hl:ts.length=(q0g taps rows (n+q09 r e)).length):
   f_y37 [schD r taps rows e,.int n,.lst (ts.map q15)]=some (pairD (q2j r taps rows e ts n)):=by
 have p16:=q49 ok.r0 ok.r4
 have pn:=q3b (r:=r)
 have z4:=q2u ok
 have hm:=qsi ok n hn h ts hl
 have ht:=qhp ok ts n hn
 have ls:(q1e r taps rows ts n 0 (n+q09 r e)).length=n+q09 r e:=by unfold q1e;rw[j6,List.length_range']
 have zd:∀st∈q1e r taps rows ts n 0 (n+q09 r e),st.length=2^r.toNat:=λst hst=>by
   unfold q1e at hst
   obtain⟨k,_,rfl⟩:=List.mem_map.mp hst
   unfold L2.stepK
   simp
 have cm:=q43 (n:=1) (js:=[3,1,4]) (fg:=gSet 0) (fe:=q0k f_y36 (q01 (mVar 0) (q01 (mVar 1) (q01 (mOp2 dIxK (mVar 3) (mVar 0)) (q01 (mVar 2) mNil)))))
   (ρ:=[some (schD r taps rows e),some (.int n),some (.lst (ts.map q15)),some (stD (q1e r taps rows ts n 0 (n+q09 r e))),some (.dct ((q1d r e).map λs=>(Sum.inl s,tbD (q47 r taps rows e ts n s))))])
   (λd=>match d with|.int s=>pairD (bestOf r taps rows e ts n s)|d=>d) ((q1d r e).map D.int) (λx hx=>by
     obtain⟨s,hs,rfl⟩:=List.mem_map.mp hx
     have h1:=q54 hs
     obtain⟨b1,_⟩:=q8l (ts:=ts) (taps:=taps) (rows:=rows) hs h ok.en hl
     have hp:=qd8 (q1e r taps rows ts n 0 (n+q09 r e)) (q4o r e s) (2^r.toNat) n s (by omega) (by omega) (by rw[ls];omega) (q58 (n:=n) (n+q09 r e) 0) (by unfold q4o;simp) zd ⟨h1.1,by omega⟩ _ b1
     exact⟨_,rfl,qq5 _ _ _ _ _ _ (qfz hs) hp⟩)
 rw[jk]at cm
 have lst':(q1d r e).length<=16:=by
   unfold q1d
   split
   · simp;omega
   · simp
 have hk:q9d (.dct ((q1d r e).map λs=>(Sum.inl s,tbD (q47 r taps rows e ts n s))))=some ((q1d r e).map D.int):=by
   show some _=some _
   rw[jk]
   rfl
 have hne:(q1d r e).map (bestOf r taps rows e ts n)≠[]:=by
   have hf:=q5r (r:=r) (e:=e) (w:=List.replicate n 0) (q41 _) (by rw[ji];exact h)
   intro z
   rw[List.map_eq_nil_iff.mp z]at hf
   cases hf
 have hy:=qql (n:=n) hne (λq hq=>by
   obtain⟨s,hs,rfl⟩:=List.mem_map.mp hq
   exact(q8l (ts:=ts) (taps:=taps) (rows:=rows) hs h ok.en hl).2.2.1)
 rw[jk]at hy
 refine qeg rfl ⟨[some (schD r taps rows e),some (.int n),some (.lst (ts.map q15)),some (stD (q1e r taps rows ts n 0 (n+q09 r e))),some (.dct ((q1d r e).map λs=>(Sum.inl s,tbD (q47 r taps rows e ts n s))))],?_⟩
 refine(q2o (ne_3 _ _ _ _ hm)).trans ?_
 refine(q2o (ne_4 _ _ _ _ _ ht)).trans ?_
 exact ne_r _ _ _ _ _ _ _ _ _ _ hk (q17 (by rw[j6];omega)) cm hy
end
theorem qof(c top rq:Int)(e:Str)(X:List D)(h:eqD (.str e) (.str "ring")=some false):(sIf (q11 (mOp2 dEq (mVar 3) (mRet (.str "ring"))))
   (sSet 4 (mOp2 dMod (mOp2 dIx (mVar 2) (mRet (.int 1))) (mMM (λi j=>if j<i then j else i) (q01 (mRet (.int 3)) (q01 (mOp2 dAdd (mVar 1) (mRet (.int 1))) mNil)))))
   sNil) [some (.int c),some (.int top),some (.lst X),some (.str e),some (.int rq),none,none,none]=some (.nx [some (.int c),some (.int top),some (.lst X),some (.str e),some (.int rq),none,none,none]):=by
 generalize (sSet 4 (mOp2 dMod (mOp2 dIx (mVar 2) (mRet (.int 1))) (mMM (λi j=>if j<i then j else i) (q01 (mRet (.int 3)) (q01 (mOp2 dAdd (mVar 1) (mRet (.int 1))) mNil)))))=FX
 walk_at "ev"
theorem qoe(c rq x1:Int)(e:Str)(X:List D)(h:eqD (.str e) (.str "ring")=some true)(a1:atI X 1=some (.int x1)):(sIf (q11 (mOp2 dEq (mVar 3) (mRet (.str "ring"))))
   (sSet 4 (mOp2 dMod (mOp2 dIx (mVar 2) (mRet (.int 1))) (mMM (λi j=>if j<i then j else i) (q01 (mRet (.int 3)) (q01 (mOp2 dAdd (mVar 1) (mRet (.int 1))) mNil)))))
   sNil) [some (.int c),some (.int 3),some (.lst X),some (.str e),some (.int rq),none,none,none]=some (.nx [some (.int c),some (.int 3),some (.lst X),some (.str e),some (.int (x1 % 3)),none,none,none]):=by
 walk_at "ev"
theorem qku(c top r x0 x1 x6 x13 tn mn:Int)(e:Str)(X YS ZS TS RS:List D)(v7:Option D)(two:2<=sizeLine)(four:4<=sizeLine)(five:5<=sizeLine)(six:6<=sizeLine)(z0:0<=sizeLine)(ll:YS.length<=sizeLine)(tp:0<top+1)(rq:Int)(hq:x1 % (top+1)=rq)
   (hif:(sIf (q11 (mOp2 dEq (mVar 3) (mRet (.str "ring"))))
   (sSet 4 (mOp2 dMod (mOp2 dIx (mVar 2) (mRet (.int 1))) (mMM (λi j=>if j<i then j else i) (q01 (mRet (.int 3)) (q01 (mOp2 dAdd (mVar 1) (mRet (.int 1))) mNil)))))
   sNil) [some (.int c),some (.int top),some (.lst X),some (.str e),some (.int rq),none,none,none]=some (.nx [some (.int c),some (.int top),some (.lst X),some (.str e),some (.int r),none,none,none]))
   (hm:f_y39 [.int c,.int 14]=some (.lst X)) (a0:atI X 0=some (.int x0)) (a1:atI X 1=some (.int x1)) (a6:atI X 6=some (.int x6)) (a13:atI X 13=some (.int x13))
   (ee:atI [D.str "open",.str "ended",.str "ring",.str "ended"] (x0 % 4)=some (.str e)) (et:atI [D.int 1,.int 0,.int 2,.int 1,.int 3] (x6 % 5)=some (.int tn)) (em:atI [D.int 1,.int 2,.int 4,.int 3,.int 5,.int 6] (x13 % 6)=some (.int mn))
   (sl1:dSl (.lst X) (some 2) (some (3+tn))=some (.lst YS)) (sl2:dSl (.lst X) (some 7) (some (7+mn))=some (.lst ZS))
   (c1:q0v 1 [4] none (gSet 0) (mRet true) (mOp2 dMod (mVar 0) (mOp2 dShl (mRet (.int 2)) (mVar 1))) YS [some (.int c),some (.int top),some (.lst X),some (.str e),some (.int r),none,none,none]=some (TS,[some (.int c),some (.int top),some (.lst X),some (.str e),some (.int r),none,none,none]))
   (f1:q2l (gSet 7) (sMut q1n 6 (q01 (mOp1 q4u (mOf (q21 1 [7] none (q37 (q01 (mOp1 dLen (mVar 5)) mNil)) (gSet 0) (mRet true) (mOp2 dIx (mOf (mLst (q01 (mRet (.int 1)) (q01 (mRet (.int 1)) (q01 (mRet (.int 0)) (q01 (mRet (.int 1)) mNil)))))) (mOp2 dAnd (mOp2 dShr (mVar 1) (mOp2 q32 (mRet (.int 2)) (mVar 0))) (mRet (.int 3))))))) mNil)) ZS [some (.int c),some (.int top),some (.lst X),some (.str e),some (.int r),some (.tup TS),some (.lst []),none]=some (.nx [some (.int c),some (.int top),some (.lst X),some (.str e),some (.int r),some (.tup TS),some (.lst RS),v7])):
   f_y40 [.int c,.int top]=some (.tup [.int r,.tup TS,.tup RS,.str e]):=by
 unfold f_y40 qix
 generalize (sIf (q11 (mOp2 dEq (mVar 3) (mRet (.str "ring"))))
   (sSet 4 (mOp2 dMod (mOp2 dIx (mVar 2) (mRet (.int 1))) (mMM (λi j=>if j<i then j else i) (q01 (mRet (.int 3)) (q01 (mOp2 dAdd (mVar 1) (mRet (.int 1))) mNil)))))
   sNil)=FI at hif ⊢
 walk_at "ev"
theorem q9p(c:Int):∃r taps rows e,f_y40 [.int c,.int 3]=some (schD r taps rows e)/\q22 r taps rows e:=by
 obtain⟨xs,hm0,hl,hx⟩:=q6j c 14 (by decide)
 have hm:f_y39 [.int c,.int 14]=some (.lst (xs.map D.int)):=hm0
 have at_:∀k:Nat,k<14->∃x:Int,atI (xs.map D.int) (k:Int)=some (.int x)/\0<=x:=λk hk=>by
   have h1:k<xs.length:=by omega
   refine⟨xs[k],?_,(hx _ (xj h1)).1⟩
   rw[q3t (by omega) (by rw[j6];omega),jx,jb,jc h1]
   rfl
 obtain⟨x0,b0,p0⟩:=at_ 0 (by decide)
 have a0:atI (xs.map D.int) 0=some (.int x0):=b0
 obtain⟨x1,b1,p1⟩:=at_ 1 (by decide)
 have a1:atI (xs.map D.int) 1=some (.int x1):=b1
 obtain⟨x6,b6,p6⟩:=at_ 6 (by decide)
 have a6:atI (xs.map D.int) 6=some (.int x6):=b6
 obtain⟨x13,b13,p13⟩:=at_ 13 (by decide)
 have a13:atI (xs.map D.int) 13=some (.int x13):=b13
 obtain⟨e,ee,he⟩:=qsd (j:=x0 % 4) (by omega) (by omega)
 obtain⟨tn,et,ht3⟩:=qsg (j:=x6 % 5) (by omega) (by omega)
 obtain⟨mn,em,hm1,hm6⟩:=qsf (j:=x13 % 6) (by omega) (by omega)
 have tp:(0:Int)<3+1:=by omega
 obtain⟨r,hif,r0,r4⟩:∃r:Int,(sIf (q11 (mOp2 dEq (mVar 3) (mRet (.str "ring"))))
   (sSet 4 (mOp2 dMod (mOp2 dIx (mVar 2) (mRet (.int 1))) (mMM (λi j=>if j<i then j else i) (q01 (mRet (.int 3)) (q01 (mOp2 dAdd (mVar 1) (mRet (.int 1))) mNil)))))
   sNil) [some (.int c),some (.int 3),some (.lst (xs.map D.int)),some (.str e),some (.int (x1 % (3+1))),none,none,none]=some (.nx [some (.int c),some (.int 3),some (.lst (xs.map D.int)),some (.str e),some (.int r),none,none,none])/\0<=r/\r<=4:=by
   by_cases q:e="ring"
   · exact⟨x1 % 3,qoe c _ x1 e _ (by rw[q];exact s_rr) a1,by omega,by omega⟩
   · refine⟨x1 % (3+1),qof c 3 _ e _ ?_,by omega,by omega⟩
     rcases he with h|h|h
     · rw[h];exact s_or
     · rw[h];exact s_er
     · exact absurd h q
 have r6:r<=1000000:=by omega
 have zm:(0:Int)<2*2^r.toNat:=Int.mul_pos (by decide) (Int.pow_pos (by decide))
 -- taps
 have sl1:dSl (.lst (xs.map D.int)) (some 2) (some (3+(tn:Int)))=some (.lst (((xs.drop 2).take (3+tn-2)).map D.int)):=by
   show some (D.lst (cutD (xs.map D.int) (some ((2:Nat):Int)) (some (3+(tn:Int)))))=_
   rw[show(3+(tn:Int))=((3+tn:Nat):Int)from by omega,qc1 xs 2 (3+tn) (by omega) (by omega)]
 generalize hy1:(xs.drop 2).take (3+tn-2)=ys at sl1
 have ly:ys.length=1+tn:=by rw[<-hy1,jz,xl];omega
 obtain⟨ts,c1,c2,c3⟩:=qip (n:=1) (js:=[4]) (fg:=gSet 0) (fe:=mOp2 dMod (mVar 0) (mOp2 dShl (mRet (.int 2)) (mVar 1))) (ρ:=[some (.int c),some (.int 3),some (.lst (xs.map D.int)),some (.str e),some (.int r),none,none,none])
   (λy=>∃t:Int,y=.int t/\0<=t/\t<2*2^r.toNat) (ys.map D.int) (λx hx'=>by
     obtain⟨y,_,rfl⟩:=List.mem_map.mp hx'
     refine⟨[some (.int y),some (.int r)],.int (y % (2*2^r.toNat)),rfl,?_,_,rfl,Int.emod_nonneg _ (by omega),Int.emod_lt_of_pos _ zm⟩
     generalize xs.map D.int=X
     clear hx' a0 a1 a6 a13 b0 b1 b6 b13 hm0 ee et em sl1 hm at_ hx hl hy1 ly hif
     walk_at "ev")
 obtain⟨taps,rfl,tb⟩:=qah c3
 rw[j6,j6,ly]at c2
 -- rows
 have sl2:dSl (.lst (xs.map D.int)) (some 7) (some (7+(mn:Int)))=some (.lst (((xs.drop 7).take (7+mn-7)).map D.int)):=by
   show some (D.lst (cutD (xs.map D.int) (some ((7:Nat):Int)) (some (7+(mn:Int)))))=_
   rw[show(7+(mn:Int))=((7+mn:Nat):Int)from by omega,qc1 xs 7 (7+mn) (by omega) (by omega)]
 generalize hy2:(xs.drop 7).take (7+mn-7)=zs at sl2
 have lz:zs.length=mn:=by rw[<-hy2,jz,xl];omega
 have zp:∀z∈zs,0<=z:=λz hz=>by rw[<-hy2]at hz;exact(hx z (List.mem_of_mem_drop (List.mem_of_mem_take hz))).1
 have bgt:big ((taps.map D.int).length:Nat)=true:=by unfold big;rw[j6];simp;omega
 have l5:(q1f 0 (taps.map D.int).length).length<=sizeLine:=by rw[q1u,j6];exact q17 (by omega)
 obtain⟨ρ',f1,rows,v7,rfl,lr,hrow⟩:=q2n (fg:=gSet 7) (fb:=sMut q1n 6 (q01 (mOp1 q4u (mOf (q21 1 [7] none (q37 (q01 (mOp1 dLen (mVar 5)) mNil)) (gSet 0) (mRet true) (mOp2 dIx (mOf (mLst (q01 (mRet (.int 1)) (q01 (mRet (.int 1)) (q01 (mRet (.int 0)) (q01 (mRet (.int 1)) mNil)))))) (mOp2 dAnd (mOp2 dShr (mVar 1) (mOp2 q32 (mRet (.int 2)) (mVar 0))) (mRet (.int 3))))))) mNil))
   (λi ρ=>∃(rows:List (List Int)) (v7:Option D),ρ=[some (.int c),some (.int 3),some (.lst (xs.map D.int)),some (.str e),some (.int r),some (.tup (taps.map D.int)),some (.lst (rows.map rowD)),v7]/\rows.length=i/\∀row∈rows,row.length=taps.length/\∀b∈row,b=0∨b=1)
   (zs.map D.int) 0 [some (.int c),some (.int 3),some (.lst (xs.map D.int)),some (.str e),some (.int r),some (.tup (taps.map D.int)),some (.lst []),none] ⟨[],none,rfl,rfl,λ_ h=>nomatch h⟩ (by
     rintro i x ρ hx' ⟨rows,v7,rfl,lr,hrow⟩
     obtain⟨z,hz,rfl⟩:=List.mem_map.mp (x9 hx')
     have hi:i<zs.length:=by have:=(List.getElem?_eq_some_iff.mp hx').1;rwa [j6]at this
     have z0:=zp z hz
     obtain⟨bs,g1,g2,g3⟩:=qip (n:=1) (js:=[7]) (fg:=gSet 0) (fe:=mOp2 dIx (mOf (mLst (q01 (mRet (.int 1)) (q01 (mRet (.int 1)) (q01 (mRet (.int 0)) (q01 (mRet (.int 1)) mNil)))))) (mOp2 dAnd (mOp2 dShr (mVar 1) (mOp2 q32 (mRet (.int 2)) (mVar 0))) (mRet (.int 3))))
       (ρ:=[some (.int c),some (.int 3),some (.lst (xs.map D.int)),some (.str e),some (.int r),some (.tup (taps.map D.int)),some (.lst (rows.map rowD)),some (.int z)])
       (λy=>∃t:Int,y=.int t/\(t=0∨t=1)) (q1f 0 (taps.map D.int).length) (λx hx2=>by
         obtain⟨k,hk⟩:=List.mem_iff_getElem?.mp hx2
         obtain⟨hk1,rfl⟩:=q29 hk
         rw[Int.zero_add]
         have hs:0<=z / 2^(2*(k:Int)).toNat:=Int.ediv_nonneg z0 (Int.le_of_lt (Int.pow_pos (by decide)))
         have h3:=qgq hs
         obtain⟨t,ht,hb⟩:=qse h3.1 h3.2
         refine⟨[some (.int (k:Int)),some (.int z)],.int t,rfl,?_,t,rfl,hb⟩
         have four:4<=sizeLine:=by decide
         have k0:0<=2*(k:Int):=by omega
         clear hk hk1 hx2 hb h3 hs a0 a1 a6 a13 b0 b1 b6 b13 hm0 ee et em sl1 sl2 hm at_ hx hl hy1 hy2 ly lz c1 hif
         walk_at "ev")
     obtain⟨row,rfl,hb⟩:=qah g3
     rw[j6,q1u,j6]at g2
     have l6:rows.length<sizeLine:=jm (by omega:rows.length<1000) (by decide)
     refine⟨_,[some (.int c),some (.int 3),some (.lst (xs.map D.int)),some (.str e),some (.int r),some (.tup (taps.map D.int)),some (.lst ((rows++[row]).map rowD)),some (.int z)],rfl,.inl ?_,rows++[row],_,rfl,by rw[jd,lr];simp,λq hq=>?_⟩
     · rw[ju]
       have lq:(rows.map rowD).length<sizeLine:=by rw[j6];exact l6
       show _=some (Out.nx [_,_,_,_,_,_,some (.lst (rows.map rowD++[.tup (row.map D.int)])),_])
       have hrng:(q37 (q01 (mOp1 dLen (mVar 5)) mNil)) [some (.int c),some (.int 3),some (.lst (xs.map D.int)),some (.str e),some (.int r),some (.tup (taps.map D.int)),some (.lst (rows.map rowD)),some (.int z)]=some (q1f 0 (taps.map D.int).length,[some (.int c),some (.int 3),some (.lst (xs.map D.int)),some (.str e),some (.int r),some (.tup (taps.map D.int)),some (.lst (rows.map rowD)),some (.int z)]):=by
         have q:=qjq (fs:=q01 (mOp1 dLen (mVar 5)) mNil) (ρ:=[some (.int c),some (.int 3),some (.lst (xs.map D.int)),some (.str e),some (.int r),some (.tup (taps.map D.int)),some (.lst (rows.map rowD)),some (.int z)]) (ρ1:=[some (.int c),some (.int 3),some (.lst (xs.map D.int)),some (.str e),some (.int r),some (.tup (taps.map D.int)),some (.lst (rows.map rowD)),some (.int z)]) (n:=((taps.map D.int).length:Nat)) rfl bgt
         rw[jx]at q
         exact q
       exact qhc _ _ _ _ _ _ _ _ _ _ _ _ l5 lq hrng g1
     · rcases List.mem_append.mp hq with hq|hq
       · exact hrow q hq
       · rw[List.mem_singleton.mp hq]
         exact⟨g2,hb⟩)
 rw[j6,jr,lz]at lr
 refine⟨r,taps,rows,e,?_,⟨r0,r4,by omega,by omega,tb,by omega,by omega,hrow,he⟩⟩
 exact qku c 3 r x0 x1 x6 x13 tn mn e _ _ _ _ _ v7 (by decide) (by decide) (by decide) (by decide) (by decide) (by rw[j6];exact q17 (by omega)) tp _ rfl hif hm a0 a1 a6 a13 ee et em sl1 sl2 c1 f1
theorem qny(c x0 x1:Int)(X:List D)(two:2<=sizeLine)(hm:f_y39 [.int c,.int 5]=some (.lst X))(a0:atI X 0=some (.int x0))(a1:atI X 1=some (.int x1))(c1:x0 % 9<4):f_y47 [.int c]=some (.tup [.str "clear",.int (x1 % 2)]):=by
 unfold f_y47 qar
 walk_at "ev"
theorem qnx(c x0:Int)(X:List D)(one:1<=sizeLine)(hm:f_y39 [.int c,.int 5]=some (.lst X))(a0:atI X 0=some (.int x0))(c1:¬x0 % 9<4)(c2':(x0 % 9==4)=true):f_y47 [.int c]=some (.tup [.str "gap"]):=by
 generalize hw:x0 % 9=wy at c1 c2'
 unfold f_y47 qar
 walk_at "ev"
theorem qnw(c x0 x1 x2:Int)(X:List D)(three:3<=sizeLine)(hm:f_y39 [.int c,.int 5]=some (.lst X))(a0:atI X 0=some (.int x0))(a1:atI X 1=some (.int x1))(a2:atI X 2=some (.int x2))(c1:¬x0 % 9<4)(c2:¬x0 % 9=4)(c3:x0 % 9<8):f_y47 [.int c]=some (.tup [.str "soft",.int (x1 % 5-1),.int (x2 % 5-1)]):=by
 have c2':(x0 % 9==4)=false:=beq_eq_false_iff_ne.mpr c2
 generalize hw:x0 % 9=wy at c1 c2 c2' c3
 unfold f_y47 qar
 walk_at "ev"
theorem qnv(c x0 x1 x2 x3 x4:Int)(X:List D)(three:3<=sizeLine)(hm:f_y39 [.int c,.int 5]=some (.lst X))(a0:atI X 0=some (.int x0))(a1:atI X 1=some (.int x1))(a2:atI X 2=some (.int x2))(a3:atI X 3=some (.int x3))(a4:atI X 4=some (.int x4))(c1:¬x0 % 9<4)(c2:¬x0 % 9=4)(c3:¬x0 % 9<8)
   (q1: -18446744073709551616<x1) (q1':x1<18446744073709551616) (q3: -18446744073709551616<x3) (q3':x3<18446744073709551616) (q4: -18446744073709551616<x4) (q4':x4<18446744073709551616):∃z o:Int,f_y47 [.int c]=some (.tup [.str "soft",.int z,.int o]):=by
 have c2':(x0 % 9==4)=false:=beq_eq_false_iff_ne.mpr c2
 refine⟨x1*x2*x3*x4 % (2*10^60-3)-(10^60-2),x1*x2*x3*x4 % (2*10^60-3)-(10^60-2)+x0 / 9 % 3-1,?_⟩
 generalize hw:x0 % 9=wy at c1 c2 c2' c3
 unfold f_y47 qar
 walk_at "ev"
theorem qnf(c:Int):∃t:Told,f_y47 [.int c]=some (q15 t):=by
 obtain⟨xs,hm,hl,hx⟩:=q6j c 5 (by decide)
 have at_:∀k:Nat,k<5->∃x:Int,atI (xs.map D.int) (k:Int)=some (.int x)/\0<=x/\x<2305843009213693951:=λk hk=>by
   have h1:k<xs.length:=by omega
   refine⟨xs[k],?_,hx _ (xj h1)⟩
   rw[q3t (by omega) (by rw[j6];omega),jx,jb,jc h1]
   rfl
 obtain⟨x0,a0,p0⟩:=at_ 0 (by decide)
 obtain⟨x1,a1,p1⟩:=at_ 1 (by decide)
 obtain⟨x2,a2,p2⟩:=at_ 2 (by decide)
 obtain⟨x3,a3,p3⟩:=at_ 3 (by decide)
 obtain⟨x4,a4,p4⟩:=at_ 4 (by decide)
 by_cases c1:x0 % 9<4
 · exact⟨.clear (x1 % 2),qny c x0 x1 _ (by decide) hm a0 a1 c1⟩
 · by_cases c2:x0 % 9=4
   · exact⟨.gap,qnx c x0 _ (by decide) hm a0 c1 (beq_iff_eq.mpr c2)⟩
   · by_cases c3:x0 % 9<8
     · exact⟨.soft (x1 % 5-1) (x2 % 5-1),qnw c x0 x1 x2 _ (by decide) hm a0 a1 a2 c1 c2 c3⟩
     · obtain⟨z,o,q⟩:=qnv c x0 x1 x2 x3 x4 _ (by decide) hm a0 a1 a2 a3 a4 c1 c2 c3 (by omega) (by omega) (by omega) (by omega) (by omega) (by omega)
       exact⟨.soft z o,q⟩
theorem q9h(ρ:Rho)(xs:List Int):∃ts:List Told,q0v 1 [] none (gSet 0) (mRet true) (q0k f_y47 (q01 (mVar 0) mNil)) (xs.map D.int) ρ=some (ts.map q15,ρ)/\ts.length=xs.length:=by
 obtain⟨ys,g1,g2,g3⟩:=qip (n:=1) (js:=[]) (fg:=gSet 0) (fe:=q0k f_y47 (q01 (mVar 0) mNil)) (ρ:=ρ) (λy=>∃t,y=q15 t) (xs.map D.int) (λx hx=>by
   obtain⟨c,_,rfl⟩:=List.mem_map.mp hx
   obtain⟨t,ht⟩:=qnf c
   refine⟨[some (.int c)],q15 t,rfl,?_,t,rfl⟩
   generalize q15 t=T at ht ⊢
   clear hx
   walk_at "ev")
 obtain⟨ts,rfl⟩:=qb2 g3
 rw[j6,j6]at g2
 exact⟨ts,g1,g2⟩
theorem qkp(cs:List Int)(zg:Nat)(x:Int)(hm:zg<=1000):∃ts:List Told,f_y48 [.lst (cs.map D.int),.int zg,.int x]=some (.lst (ts.map q15))/\ts.length=zg:=by
 have sl:dSl (.lst (cs.map D.int)) none (some (zg:Int))=some (.lst ((cs.take zg).map D.int)):=by
   rw[qg5 (by omega),jx,List.map_take]
 obtain⟨ts1,g1,l1⟩:=q9h [some (.lst (cs.map D.int)),some (.int (zg:Int)),some (.int x),none] (cs.take zg)
 have hle:ts1.length<=zg:=by rw[l1,jz];exact xi _ _
 obtain⟨xs,hx,lx,_⟩:=q6j x (zg-ts1.length) (by omega)
 obtain⟨ts2,g2,l2⟩:=q9h [some (.lst (cs.map D.int)),some (.int (zg:Int)),some (.int x),some (.lst (ts1.map q15))] xs
 refine⟨ts1++ts2,?_,by rw[jd,l2,lx];omega⟩
 have e1:((zg-ts1.length:Nat):Int)=(zg:Int)-((ts1.map q15).length:Nat):=by rw[j6];omega
 rw[e1]at hx
 have ll1:((cs.take zg).map D.int).length<=sizeLine:=by rw[j6,jz];exact q17 (by have:=xi zg cs.length;omega)
 have ll2:(xs.map D.int).length<=sizeLine:=by rw[j6];exact q17 (by omega)
 have ll3:(ts1.map q15).length+(ts2.map q15).length<=sizeLine:=by rw[j6,j6];exact q17 (by omega)
 rw[ju]
 generalize ts1.map q15=T1 at g1 g2 hx ll3 ⊢
 generalize ts2.map q15=T2 at g2 ll3 ⊢
 generalize xs.map D.int=X at hx g2 ll2
 generalize (cs.take zg).map D.int=C1 at sl g1 ll1
 generalize cs.map D.int=C at sl g1 g2 ⊢
 clear e1 hle l1 lx l2 hm
 unfold f_y48 qiv
 walk_at "ev"
def q60(q:Told×Int):Told:=if q.2=1 then(match q.1 with
 |.clear c=>.clear (1-c)
 |.gap=>.gap
 |.soft z o=>.soft o z)else q.1
theorem qd5(t:Told)(s b:Int)(hs:s=0∨s=1)(hb:b=0∨b=1):q3u (q60 (t,s)) b=q3u t (if b=s then 0 else 1):=by
 unfold q60
 rcases hs with rfl|rfl
 · rw[if_neg (show¬(0:Int)=1 by decide)]
   rcases hb with rfl|rfl
   · rfl
   · rfl
 · rw[if_pos (show(1:Int)=1 from rfl)]
   cases t with
   | clear c=>
     show(if b=1-c then(0:Int)else 1)=(if(if b=1 then(0:Int)else 1)=c then 0 else 1)
     rcases hb with rfl|rfl
     · by_cases z:c=1
       · subst z;rfl
       · rw[if_neg (by omega),if_neg (by show¬(1:Int)=c;omega)]
     · by_cases z:c=0
       · subst z;rfl
       · rw[if_neg (by omega),if_neg (by show¬(0:Int)=c;omega)]
   |gap=>rfl
   | soft z o=>
     rcases hb with rfl|rfl
     · rfl
     · rfl
theorem q7a:∀(ts:List Told) (sv bits:List Int),sv.length=ts.length->bits.length=ts.length->Bits sv->Bits bits->q3e ((ts.zip sv).map q60) bits=q3e ts (unl bits sv)
 |[],[],[],_,_,_,_=>rfl
 | x::ts,s::sv,b::bs,h1,h2,h3,h4=>by
   have ih:=q7a ts sv bs (by simpa using h1) (by simpa using h2) (λy hy=>h3 y (jg _ hy)) λy hy=>h4 y (jg _ hy)
   have e1:∀(y:Told) (ys:List Told) (c:Int) (cs:List Int),q3e (y::ys) (c::cs)=q3u y c+q3e ys cs:=λy ys c cs=>rfl
   have e2:unl (b::bs) (s::sv)=(if b=s then 0 else 1)::unl bs sv:=rfl
   rw[List.zip_cons_cons,jw,e1,e2,e1,ih,qd5 x s b (h3 s jf) (h4 b jf)]
 |[],_::_,_,h,_,_,_=>by simp at h
 |[],[],_::_,_,h,_,_=>by simp at h
 |_::_,[],_,h,_,_,_=>by simp at h
 |_::_,_::_,[],_,h,_,_=>by simp at h
theorem qe5:∀(w v:List Int),w.length=v.length->Bits w->Bits v->unl (unl w v) v=w
 |[],[],_,_,_=>rfl
 | a::w,b::v,h,h1,h2=>by
   have e2:∀(x y:Int) (xs ys:List Int),unl (x::xs) (y::ys)=(if x=y then 0 else 1)::unl xs ys:=λ_ _ _ _=>rfl
   rw[e2,e2,qe5 w v (by simpa using h) (λy hy=>h1 y (jg _ hy)) λy hy=>h2 y (jg _ hy)]
   congr 1
   rcases h1 a jf with rfl|rfl<;>rcases h2 b jf with rfl|rfl<;>rfl
 |[],_::_,h,_,_=>by simp at h
 |_::_,[],h,_,_=>by simp at h
section
variable{r:Int}{taps:List Int}{rows:List (List Int)}{e:Str}
theorem q8g(ok:q22 r taps rows e)(ts:List Told)(w:List Int)(hb:Bits w)(h:e="ring"->r.toNat<=w.length):q50 r taps rows e ts w=q3e ts (q3g (isRing e) r.toNat taps rows w (w.length+q09 r e)):=by
 unfold q50
 have r4:=ok.r4
 rw[qal,q38,q7z (by omega) hb (q6m h) (λt ht=>(ok.tb t ht).1)]
theorem q6l(w:List Int)(N:Nat)(ring:Bool)(m:Nat):(q3g ring m taps rows w N).length=(q0g taps rows N).length:=(qaa w N).symm
theorem q7i(ok:q22 r taps rows e)(n:Nat)(h:e="ring"->r.toNat<=n)(ts:List Told)(hl:ts.length=(q0g taps rows (n+q09 r e)).length)(v w:List Int)(hv:Bits v)(lv:v.length=n)(hw:Bits w)(lw:w.length=n):
   q50 r taps rows e ((ts.zip (q3g (isRing e) r.toNat taps rows v (n+q09 r e))).map q60) w=q50 r taps rows e ts (unl w v):=by
 rw[q8g ok _ w hw (by rw[lw];exact h),q8g ok _ (unl w v) (q35 _ _) (by rw[q46 (by rw[lw,lv]),lw];exact h),q46 (by rw[lw,lv]),lw,
   q7a _ _ _ (by rw[q6l,hl]) (by rw[q6l,hl]) q5m q5m,qee hw hv (by rw[lw,lv])]
theorem qad(ok:q22 r taps rows e)(n:Nat)(h:e="ring"->r.toNat<=n)(ts:List Told)(hl:ts.length=(q0g taps rows (n+q09 r e)).length)(v:List Int)(hv:Bits v)(lv:v.length=n)(ts':List Told)(ht':ts'=(ts.zip (q3g (isRing e) r.toNat taps rows v (n+q09 r e))).map q60):
   ts'.length=(q0g taps rows (n+q09 r e)).length/\(q2j r taps rows e ts n).1=(q2j r taps rows e ts' n).1/\q50 r taps rows e ts' (unl (q2j r taps rows e ts n).2 v)=(q2j r taps rows e ts n).1/\q50 r taps rows e ts (unl (q2j r taps rows e ts' n).2 v)=(q2j r taps rows e ts' n).1:=by
 have l2:ts'.length=(q0g taps rows (n+q09 r e)).length:=by rw[ht',j6,xn,q6l,hl,Nat.min_self]
 have n1:=q88 (taps:=taps) (rows:=rows) h ok.en hl
 have n2:=q88 (taps:=taps) (rows:=rows) h ok.en l2
 have c2:q50 r taps rows e ts (unl (q2j r taps rows e ts' n).2 v)=(q2j r taps rows e ts' n).1:=by
   rw[n2.val,<-q7i ok n h ts hl v _ hv lv n2.bits n2.len,ht']
 have c1:q50 r taps rows e ts' (unl (q2j r taps rows e ts n).2 v)=(q2j r taps rows e ts n).1:=by
   rw[ht',q7i ok n h ts hl v _ hv lv (q35 _ _) (by rw[q46 (by rw[n1.len,lv]),n1.len]),qe5 _ _ (by rw[n1.len,lv]) n1.bits hv,<-n1.val]
 refine⟨l2,?_,c1,c2⟩
 have g1:=n1.least (unl (q2j r taps rows e ts' n).2 v) (q35 _ _) (by rw[q46 (by rw[n2.len,lv]),n2.len])
 have g2:=n2.least (unl (q2j r taps rows e ts n).2 v) (q35 _ _) (by rw[q46 (by rw[n1.len,lv]),n1.len])
 rw[c2]at g1
 rw[c1]at g2
 have k:∀{a b:Int} {x y:List Int},qLt (a,x) (b,y)=false->b<=a:=λ{a b x y} q=>by
   unfold qLt q57 at q
   simp only at q
   by_cases z:a=b
   · omega
   · rw[if_neg z]at q
     simp at q
     omega
 have h1:(q2j r taps rows e ts n).1<=(q2j r taps rows e ts' n).1:=k (x:=unl (q2j r taps rows e ts' n).2 v) (y:=(q2j r taps rows e ts n).2) g1
 have h2:(q2j r taps rows e ts' n).1<=(q2j r taps rows e ts n).1:=k (x:=unl (q2j r taps rows e ts n).2 v) (y:=(q2j r taps rows e ts' n).2) g2
 omega
end
theorem t_sc:eqD (.str "clear") (.str "soft")=some false:=by rw[q28 (by decide+kernel) (by decide+kernel)];decide+kernel
theorem t_sg:eqD (.str "gap") (.str "soft")=some false:=by rw[q28 (by decide+kernel) (by decide+kernel)];decide+kernel
theorem t_ss:eqD (.str "soft") (.str "soft")=some true:=by rw[q28 (by decide+kernel) (by decide+kernel)];decide+kernel
theorem qs3(T SV F t:D)(s:Int)(hs:s=0∨s=1)(td:Told)(ht:t=q15 td):(sIf (mAnd (q11 (mOp2 dEq (mVar 4) (mRet (.int 1)))) (q11 (mOp2 dEq (mOp2 dIx (mVar 3) (mRet (.int 0))) (mRet (.str "clear")))))
   (sSet 3 (mTup (q01 (mRet (.str "clear")) (q01 (mOp2 dSub (mRet (.int 1)) (mOp2 dIx (mVar 3) (mRet (.int 1)))) mNil))))
   (sIf (mAnd (q11 (mOp2 dEq (mVar 4) (mRet (.int 1)))) (q11 (mOp2 dEq (mOp2 dIx (mVar 3) (mRet (.int 0))) (mRet (.str "soft")))))
   (sSet 3 (mTup (q01 (mRet (.str "soft")) (q01 (mOp2 dIx (mVar 3) (mRet (.int 2))) (q01 (mOp2 dIx (mVar 3) (mRet (.int 1))) mNil)))))
   sNil)) [some T,some SV,some F,some t,some (.int s)]=some (.nx [some T,some SV,some F,some (q15 (q60 (td,s))),some (.int s)]):=by
 have h1:=t_cg
 have h2:=t_cs
 have h3:=t_cc
 have h4:=t_sc
 have h5:=t_sg
 have h6:=t_ss
 have two:2<=sizeLine:=by decide
 have three:3<=sizeLine:=by decide
 subst ht
 rcases hs with rfl|rfl
 · have e1:q60 (td,0)=td:=rfl
   rw[e1]
   generalize q15 td=t
   clear h1 h2 h3 h4 h5 h6
   walk_at "ev"
 · cases td with
   | clear c=>
     show _=some (Out.nx [_,_,_,some (.tup [.str "clear",.int (1-c)]),_])
     unfold q15
     walk_at "ev"
   | gap=>
     show _=some (Out.nx [_,_,_,some (.tup [.str "gap"]),_])
     unfold q15
     walk_at "ev"
   | soft z o=>
     show _=some (Out.nx [_,_,_,some (.tup [.str "soft",.int o,.int z]),_])
     unfold q15
     walk_at "ev"
theorem qni(T SV t:D)(F:List D)(s:D)(l:F.length<sizeLine):(sMut q1n 2 (q01 (mVar 3) mNil)) [some T,some SV,some (.lst F),some t,some s]=some (.nx [some T,some SV,some (.lst (F++[t])),some t,some s]):=by
 walk_at "ev"
theorem qnh(T SV Z F:List D)(v3 v4:Option D)(FB:RhO)(z0:0<=sizeLine)(hz:zipD T SV=Z)(l1:q2l (q25 2 (q0q (gSet 3) (q0q (gSet 4) q27))) FB Z [some (.lst T),some (.lst SV),some (.lst []),none,none]=some (.nx [some (.lst T),some (.lst SV),some (.lst F),v3,v4])):
   (runP true 2 5 (sSeq (sOwn 2 (mLst mNil))
 (sSeq (sFor (mZip (q01 (mVar 0) (q01 (mVar 1) mNil))) (q25 2 (q0q (gSet 3) (q0q (gSet 4) q27))) FB)
 (q55 2)))) [.lst T,.lst SV]=some (.lst F):=by
 walk_at "ev"
theorem qgw(ts:List Told)(sv:List Int)(hb:Bits sv)(hl:ts.length<=1000):f_y49 [.lst (ts.map q15),.lst (sv.map D.int)]=some (.lst (((ts.zip sv).map q60).map q15)):=by
 have hz:zipD (ts.map q15) (sv.map D.int)=(ts.zip sv).map λq=>D.tup [q15 q.1,.int q.2]:=by
   rw[q69,q52,jk]
   rfl
 have lz:(ts.zip sv).length<=1000:=by rw[xn];have:=xi ts.length sv.length;omega
 obtain⟨ρ',l1,v3,v4,hρ⟩:=q2n (fg:=q25 2 (q0q (gSet 3) (q0q (gSet 4) q27))) (fb:=(sSeq (sIf (mAnd (q11 (mOp2 dEq (mVar 4) (mRet (.int 1)))) (q11 (mOp2 dEq (mOp2 dIx (mVar 3) (mRet (.int 0))) (mRet (.str "clear")))))
   (sSet 3 (mTup (q01 (mRet (.str "clear")) (q01 (mOp2 dSub (mRet (.int 1)) (mOp2 dIx (mVar 3) (mRet (.int 1)))) mNil))))
   (sIf (mAnd (q11 (mOp2 dEq (mVar 4) (mRet (.int 1)))) (q11 (mOp2 dEq (mOp2 dIx (mVar 3) (mRet (.int 0))) (mRet (.str "soft")))))
   (sSet 3 (mTup (q01 (mRet (.str "soft")) (q01 (mOp2 dIx (mVar 3) (mRet (.int 2))) (q01 (mOp2 dIx (mVar 3) (mRet (.int 1))) mNil)))))
   sNil))
 (sMut q1n 2 (q01 (mVar 3) mNil))))
   (λk ρ=>∃v3 v4,ρ=[some (.lst (ts.map q15)),some (.lst (sv.map D.int)),some (.lst ((((ts.zip sv).take k).map q60).map q15)),v3,v4]) ((ts.zip sv).map λq=>D.tup [q15 q.1,.int q.2]) 0
   [some (.lst (ts.map q15)),some (.lst (sv.map D.int)),some (.lst []),none,none] ⟨none,none,rfl⟩ (λi x ρ hx ⟨v3,v4,hρ⟩=>by
     subst hρ
     rw[jr]
     rw[jb]at hx
     cases hq:(ts.zip sv)[i]? with
     |none=>rw[hq]at hx;cases hx
     | some q=>
       rw[hq]at hx
       cases hx
       have hm:q.2∈sv:=(List.of_mem_zip (show(q.1,q.2)∈ts.zip sv from x9 hq)).2
       refine⟨_,[some (.lst (ts.map q15)),some (.lst (sv.map D.int)),some (.lst ((((ts.zip sv).take (i+1)).map q60).map q15)),some (q15 (q60 q)),some (.int q.2)],rfl,.inl ?_,_,_,rfl⟩
       refine(q2o (qs3 _ _ _ _ _ (hb _ hm) q.1 rfl)).trans ?_
       rw[take_snoc hq,ju,ju]
       exact qni _ _ _ _ _ (by rw[j6,j6,jz];exact jm (by omega:_<2000) (by decide)))
 subst hρ
 rw[j6,jr,List.take_length]at l1
 unfold f_y49 qiu
 exact qnh _ _ _ _ _ _ _ (by decide) hz l1
theorem qru(A V Z Y:List D)(FE:RhD)(hz:zipD A V=Z)(lz:Z.length<=sizeLine)(cm:q0v 2 [] none (q25 2 (q0q (gSet 0) (q0q (gSet 1) q27))) (mRet true) FE Z [some (.lst A),some (.lst V)]=some (Y,[some (.lst A),some (.lst V)])):
   (runP true 2 2 (q7e (q21 2 [] none (mZip (q01 (mVar 0) (q01 (mVar 1) mNil))) (q25 2 (q0q (gSet 0) (q0q (gSet 1) q27))) (mRet true) FE))) [.lst A,.lst V]=some (.lst Y):=by
 walk_at "ev"
theorem qrv(x y z:Int)(h:Builtin.bitXor x y=z):((mOp2 dXor (mVar 0) (mVar 1)) [some (.int x),some (.int y)]).map (·.1)=some (.int z):=by
 subst h
 unfold dXor
 walk_at "ev"
theorem qe3(u v:List Int)(hu:Bits u)(hv:Bits v)(hl:u.length=v.length)(h1:u.length<=1000):f_y50 [.lst (u.map D.int),.lst (v.map D.int)]=some (.lst ((unl u v).map D.int)):=by
 have hz:zipD (u.map D.int) (v.map D.int)=(u.zip v).map λq=>D.tup [.int q.1,.int q.2]:=q6g _ _
 have cm:=q43 (n:=2) (js:=[]) (fg:=q25 2 (q0q (gSet 0) (q0q (gSet 1) q27))) (fe:=mOp2 dXor (mVar 0) (mVar 1)) (ρ:=[some (.lst (u.map D.int)),some (.lst (v.map D.int))])
   (λd=>match d with|.tup [.int a,.int b]=>.int (if a=b then 0 else 1)|d=>d) ((u.zip v).map λq=>D.tup [.int q.1,.int q.2]) (λx hx=>by
     obtain⟨q,hq,rfl⟩:=List.mem_map.mp hx
     have hm:=List.of_mem_zip (show(q.1,q.2)∈u.zip v from hq)
     have ha:=hu _ hm.1
     have hb:=hv _ hm.2
     refine⟨_,rfl,qrv _ _ _ ?_⟩
     rw[qaz ha hb]
     rcases ha with z|z<;>rcases hb with y|y<;>rw[z,y]<;>rfl)
 rw[jk]at cm
 have e1:(u.zip v).map ((λd=>match d with|.tup [.int a,.int b]=>D.int (if a=b then 0 else 1)|d=>d)∘λq=>D.tup [.int q.1,.int q.2])=(unl u v).map D.int:=by
   unfold unl
   rw[<-List.map_uncurry_zip_eq_zipWith,jk]
   rfl
 rw[e1]at cm
 unfold f_y50 qit
 exact qru _ _ _ _ _ hz (q17 (by rw[j6,xn];have:=xi u.length v.length;omega)) cm
theorem l0(N HS:List D)(c0:Int)(hc0:f_y38 [.lst N,.int 0]=some (.int c0))(hhs:f_y39 [.int c0,.int 3]=some (.lst HS)):
   (sSet 1 (mOf (q1i f_y39 (q01 (q0k f_y38 (q01 (mVar 0) (q01 (mRet (.int 0)) mNil))) (q01 (mRet (.int 3)) mNil))))) [some (.lst N),none,none,none,none,none,none,none,none]=some (.nx [some (.lst N),some (.lst HS),none,none,none,none,none,none,none]):=by
 walk_at "ev"
theorem l1(N HS:List D)(x0:Int)(S:D)(a0:atI HS 0=some (.int x0))(hs:f_y40 [.int x0,.int 3]=some S):
   (sSet 2 (q0k f_y40 (q01 (mOp2 dIx (mVar 1) (mRet (.int 0))) (q01 (mRet (.int 3)) mNil)))) [some (.lst N),some (.lst HS),none,none,none,none,none,none,none]=some (.nx [some (.lst N),some (.lst HS),some S,none,none,none,none,none,none]):=by
 walk_at "ev"
theorem l2(N HS:List D)(x1:Int)(S:D)(a1:atI HS 1=some (.int x1)):
   (sSet 3 (mOp2 dMod (mOp2 dIx (mVar 1) (mRet (.int 1))) (mRet (.int 11)))) [some (.lst N),some (.lst HS),some S,none,none,none,none,none,none]=some (.nx [some (.lst N),some (.lst HS),some S,some (.int (x1 % 11)),none,none,none,none,none]):=by
 walk_at "ev"
theorem l3n(N HS:List D)(r n':Int)(e:Str)(TS RS:D)(h:eqD (.str e) (.str "ring")=some false):
   (sIf (q11 (mOp2 dEq (mOp2 dIx (mVar 2) (mRet (.int 3))) (mRet (.str "ring"))))
   (sSet 3 (mMM (λi j=>if j>i then j else i) (q01 (mVar 3) (q01 (mOp2 dIx (mVar 2) (mRet (.int 0))) mNil))))
   sNil) [some (.lst N),some (.lst HS),some (.tup [.int r,TS,RS,.str e]),some (.int n'),none,none,none,none,none]=some (.nx [some (.lst N),some (.lst HS),some (.tup [.int r,TS,RS,.str e]),some (.int n'),none,none,none,none,none]):=by
 generalize (sSet 3 (mMM (λi j=>if j>i then j else i) (q01 (mVar 3) (q01 (mOp2 dIx (mVar 2) (mRet (.int 0))) mNil))))=FX
 walk_at "ev"
theorem l3y(N HS:List D)(r n' m':Int)(e:Str)(TS RS:D)(h:eqD (.str e) (.str "ring")=some true)(hm:(if r>n' then r else n')=m'):
   (sIf (q11 (mOp2 dEq (mOp2 dIx (mVar 2) (mRet (.int 3))) (mRet (.str "ring"))))
   (sSet 3 (mMM (λi j=>if j>i then j else i) (q01 (mVar 3) (q01 (mOp2 dIx (mVar 2) (mRet (.int 0))) mNil))))
   sNil) [some (.lst N),some (.lst HS),some (.tup [.int r,TS,RS,.str e]),some (.int n'),none,none,none,none,none]=some (.nx [some (.lst N),some (.lst HS),some (.tup [.int r,TS,RS,.str e]),some (.int m'),none,none,none,none,none]):=by
 have hx:(mMM (λi j=>if j>i then j else i) (q01 (mVar 3) (q01 (mOp2 dIx (mVar 2) (mRet (.int 0))) mNil))) [some (.lst N),some (.lst HS),some (.tup [.int r,TS,RS,.str e]),some (.int n'),none,none,none,none,none]=some (.int m',[some (.lst N),some (.lst HS),some (.tup [.int r,TS,RS,.str e]),some (.int n'),none,none,none,none,none]):=by
   rw[<-hm]
   clear h hm
   walk_at "ev"
 generalize (mMM (λi j=>if j>i then j else i) (q01 (mVar 3) (q01 (mOp2 dIx (mVar 2) (mRet (.int 0))) mNil)))=FX at hx ⊢
 clear hm
 walk_at "ev"
theorem l4(N HS PL N1 T:List D)(S:D)(n' m' x2:Int)(hpl:f_y44 [S,.int n']=some (.lst PL))(hm:((PL.length:Nat):Int)=m')(sl:dSl (.lst N) (some 2) none=some (.lst N1))(a2:atI HS 2=some (.int x2))(ht:f_y48 [.lst N1,.int m',.int x2]=some (.lst T)):
   (sSet 4 (mOf (q1i f_y48 (q01 (mSl (mVar 0) (q66 (mRet (.int 2))) (mRet none)) (q01 (mOp1 dLen (mOf (q1i f_y44 (q01 (mVar 2) (q01 (mVar 3) mNil))))) (q01 (mOp2 dIx (mVar 1) (mRet (.int 2))) mNil)))))) [some (.lst N),some (.lst HS),some S,some (.int n'),none,none,none,none,none]=some (.nx [some (.lst N),some (.lst HS),some S,some (.int n'),some (.lst T),none,none,none,none]):=by
 rw[<-hm]at ht
 clear hm
 walk_at "ev"
theorem l5(N HS X W:List D)(S T:D)(n' c1:Int)(FE:RhD)(hc1:f_y38 [.lst N,.int 1]=some (.int c1))(hx:f_y39 [.int c1,.int n']=some (.lst X))(lx:X.length<=sizeLine)(cm:q0v 1 [] none (gSet 0) (mRet true) FE X [some (.lst N),some (.lst HS),some S,some (.int n'),some T,none,none,none,none]=some (W,[some (.lst N),some (.lst HS),some S,some (.int n'),some T,none,none,none,none])):
   (sSet 5 (mOf (q21 1 [] none (mSeq (mOf (q1i f_y39 (q01 (q0k f_y38 (q01 (mVar 0) (q01 (mRet (.int 1)) mNil))) (q01 (mVar 3) mNil))))) (gSet 0) (mRet true) FE))) [some (.lst N),some (.lst HS),some S,some (.int n'),some T,none,none,none,none]=some (.nx [some (.lst N),some (.lst HS),some S,some (.int n'),some T,some (.lst W),none,none,none]):=by
 walk_at "ev"
theorem l5e(x:Int):((mOp2 dMod (mVar 0) (mRet (.int 2))) [some (.int x)]).map (·.1)=some (.int (x % 2)):=by
 walk_at "ev"
theorem l6(N HS T W SE O:List D)(S n:D)(hs:f_y46 [S,.lst W]=some (.lst SE))(ht:f_y49 [.lst T,.lst SE]=some (.lst O)):
   (sSet 6 (mOf (q1i f_y49 (q01 (mVar 4) (q01 (mOf (q1i f_y46 (q01 (mVar 2) (q01 (mVar 5) mNil)))) mNil))))) [some (.lst N),some (.lst HS),some S,some n,some (.lst T),some (.lst W),none,none,none]=some (.nx [some (.lst N),some (.lst HS),some S,some n,some (.lst T),some (.lst W),some (.lst O),none,none]):=by
 walk_at "ev"
theorem l7(N HS:List D)(S n T W O x:D)(h:f_y37 [S,n,T]=some x):(sSet 7 (q0k f_y37 (q01 (mVar 2) (q01 (mVar 3) (q01 (mVar 4) mNil))))) [some (.lst N),some (.lst HS),some S,some n,some T,some W,some O,none,none]=some (.nx [some (.lst N),some (.lst HS),some S,some n,some T,some W,some O,some x,none]):=by
 walk_at "ev"
theorem l8(N HS:List D)(S n T W O x y:D)(h:f_y37 [S,n,O]=some y):(sSet 8 (q0k f_y37 (q01 (mVar 2) (q01 (mVar 3) (q01 (mVar 6) mNil))))) [some (.lst N),some (.lst HS),some S,some n,some T,some W,some O,some x,none]=some (.nx [some (.lst N),some (.lst HS),some S,some n,some T,some W,some O,some x,some y]):=by
 walk_at "ev"
theorem l9(N HS W A1 W1:List D)(S n T O w2:D)(c:Int)(ha:f_y50 [.lst W1,.lst W]=some (.lst A1))(hc:f_y26 [S,.lst A1,O]=some (.int c)):
   (sIf (mOr (q11 (mOp2 dNe (mOp2 dIx (mVar 7) (mRet (.int 0))) (mOp2 dIx (mVar 8) (mRet (.int 0))))) (q11 (mOp2 dNe (q0k f_y26 (q01 (mVar 2) (q01 (mOf (q1i f_y50 (q01 (mOp2 dIx (mVar 7) (mRet (.int 1))) (q01 (mVar 5) mNil)))) (q01 (mVar 6) mNil)))) (mOp2 dIx (mVar 7) (mRet (.int 0))))))
   (sRet (mRet (.bl false)))
   sNil) [some (.lst N),some (.lst HS),some S,some n,some T,some (.lst W),some O,some (.tup [.int c,.lst W1]),some (.tup [.int c,w2])]=some (.nx [some (.lst N),some (.lst HS),some S,some n,some T,some (.lst W),some O,some (.tup [.int c,.lst W1]),some (.tup [.int c,w2])]):=by
 walk_at "ev"
theorem l10(N HS W A2 W2:List D)(S n T O x:D)(c:Int)(ha:f_y50 [.lst W2,.lst W]=some (.lst A2))(hc:f_y26 [S,.lst A2,T]=some (.int c)):
   (sRet (mOp2 dEq (q0k f_y26 (q01 (mVar 2) (q01 (mOf (q1i f_y50 (q01 (mOp2 dIx (mVar 8) (mRet (.int 1))) (q01 (mVar 5) mNil)))) (q01 (mVar 4) mNil)))) (mOp2 dIx (mVar 8) (mRet (.int 0))))) [some (.lst N),some (.lst HS),some S,some n,some T,some (.lst W),some O,some x,some (.tup [.int c,.lst W2])]=some (.rt (.bl true) [some (.lst N),some (.lst HS),some S,some n,some T,some (.lst W),some O,some x,some (.tup [.int c,.lst W2])]):=by
 walk_at "ev"
theorem law_true(ns:List Int)(h:ns.length<=63):f_law [.lst (ns.map D.int)]=some (.bl true):=by
 obtain⟨c0,hc0⟩:=qb1 ns 0
 obtain⟨c1,hc1⟩:=qb1 ns 1
 obtain⟨hs,hhs,lhs,bhs⟩:=q6j c0 3 (by decide)
 have at_:∀k:Nat,k<3->∃x:Int,atI (hs.map D.int) (k:Int)=some (.int x)/\0<=x:=λk hk=>by
   have h1:k<hs.length:=by omega
   refine⟨hs[k],?_,(bhs _ (xj h1)).1⟩
   rw[q3t (by omega) (by rw[j6];omega),jx,jb,jc h1]
   rfl
 obtain⟨x0,a0,p0⟩:=at_ 0 (by decide)
 obtain⟨x1,a1,p1⟩:=at_ 1 (by decide)
 obtain⟨x2,a2,p2⟩:=at_ 2 (by decide)
 obtain⟨r,taps,rows,e,hsch,ok⟩:=q9p x0
 have r0:=ok.r0
 have r4:=ok.r4
 have z4:=q2u ok
 obtain⟨n,hn,hw,hl3⟩:∃n:Nat,n<=60/\(e="ring"->r.toNat<=n)/\(sIf (q11 (mOp2 dEq (mOp2 dIx (mVar 2) (mRet (.int 3))) (mRet (.str "ring"))))
   (sSet 3 (mMM (λi j=>if j>i then j else i) (q01 (mVar 3) (q01 (mOp2 dIx (mVar 2) (mRet (.int 0))) mNil))))
   sNil) [some (.lst (ns.map D.int)),some (.lst (hs.map D.int)),some (schD r taps rows e),some (.int (x1 % 11)),none,none,none,none,none]=some (.nx [some (.lst (ns.map D.int)),some (.lst (hs.map D.int)),some (schD r taps rows e),some (.int (n:Int)),none,none,none,none,none]):=by
   by_cases q:e="ring"
   · refine⟨(if r>x1 % 11 then r else x1 % 11).toNat,by split<;>omega,λ_=>by split<;>omega,?_⟩
     exact l3y _ _ r _ _ e _ _ (by rw[q];exact s_rr) (by split<;>omega)
   · refine⟨(x1 % 11).toNat,by omega,λz=>absurd z q,?_⟩
     rw[Int.toNat_of_nonneg (by omega)]
     refine l3n _ _ r _ e _ _ ?_
     rcases ok.en with g|g|g
     · rw[g];exact s_or
     · rw[g];exact s_er
     · exact absurd g q
 have hpl:=qgy ok n hn
 have hm4:(q0g taps rows (n+q09 r e)).length<=256:=by
   have s4:∀k,(selK taps rows k).length<=4:=λk=>by
     unfold selK
     refine jt (List.length_filter_le _ _) ?_
     rw[xn]
     have:=ok.t4
     have:=xi taps.length (rowAt rows k).length
     omega
   have q1:(q0g taps rows (n+q09 r e)).length<=(n+q09 r e)*4:=q40 _ 4 (λk=>by rw[ji];exact s4 k) _
   omega
 have sl1:dSl (.lst (ns.map D.int)) (some 2) none=some (.lst ((ns.drop 2).map D.int)):=by
   rw[q5g (by decide),List.map_drop]
   rfl
 obtain⟨ts,hts,lts⟩:=qkp (ns.drop 2) (q0g taps rows (n+q09 r e)).length x2 (by omega)
 have hplm:(((q0g taps rows (n+q09 r e)).map D.int).length:Int)=((q0g taps rows (n+q09 r e)).length:Nat):=by rw[j6]
 obtain⟨xw,hxw,lxw,_⟩:=q6j c1 n (by omega)
 have cm5:=λρ:Rho=>q43 (n:=1) (js:=[]) (fg:=gSet 0) (fe:=mOp2 dMod (mVar 0) (mRet (.int 2))) (ρ:=ρ)
   (λd=>match d with|.int x=>.int (x % 2)|d=>d) (xw.map D.int) (λx hx=>by
     obtain⟨y,_,rfl⟩:=List.mem_map.mp hx
     exact⟨_,rfl,l5e y⟩)
 have e5:(xw.map D.int).map (λd=>match d with|.int x=>D.int (x % 2)|d=>d)=(xw.map λx=>x % 2).map D.int:=by
   rw[jk,jk]
   rfl
 rw[e5]at cm5
 generalize hw0:(xw.map λx=>x % 2)=w at cm5
 have hwb:Bits w:=λb hb=>by
   rw[<-hw0]at hb
   obtain⟨x,_,rfl⟩:=List.mem_map.mp hb
   omega
 have hwl:w.length=n:=by rw[<-hw0,j6,lxw]
 have hse:=qs2 ok w hwb (by rw[hwl];exact hw) (by omega)
 rw[hwl]at hse
 have htu:=qgw ts (q3g (isRing e) r.toNat taps rows w (n+q09 r e)) q5m (by omega)
 obtain⟨lt',q1,q2,q3⟩:=qad ok n hw ts lts w hwb hwl _ rfl
 generalize hts':(ts.zip (q3g (isRing e) r.toNat taps rows w (n+q09 r e))).map q60=ts' at htu lt' q1 q2 q3
 have h7:=qoy ok n hn hw ts lts
 have h8:=qoy ok n hn hw ts' lt'
 have n1:=q88 (taps:=taps) (rows:=rows) hw ok.en lts
 have n2:=q88 (taps:=taps) (rows:=rows) hw ok.en lt'
 have b1:=qe3 (q2j r taps rows e ts n).2 w n1.bits hwb (by rw[n1.len,hwl]) (by rw[n1.len];omega)
 have b2:=qe3 (q2j r taps rows e ts' n).2 w n2.bits hwb (by rw[n2.len,hwl]) (by rw[n2.len];omega)
 have lu1:(unl (q2j r taps rows e ts n).2 w).length=n:=by rw[q46 (by rw[n1.len,hwl]),n1.len]
 have lu2:(unl (q2j r taps rows e ts' n).2 w).length=n:=by rw[q46 (by rw[n2.len,hwl]),n2.len]
 have k1:=qoz ok (unl (q2j r taps rows e ts n).2 w) (q35 _ _) (by rw[lu1];exact hw) (by omega) ts' (by rw[lu1];exact lt') (by omega)
 have k2:=qoz ok (unl (q2j r taps rows e ts' n).2 w) (q35 _ _) (by rw[lu2];exact hw) (by omega) ts (by rw[lu2];exact lts) (by omega)
 rw[<-q8g ok ts' _ (q35 _ _) (by rw[lu1];exact hw),q2]at k1
 rw[<-q8g ok ts _ (q35 _ _) (by rw[lu2];exact hw),q3]at k2
 have e7:pairD (q2j r taps rows e ts n)=.tup [.int (q2j r taps rows e ts' n).1,.lst ((q2j r taps rows e ts n).2.map D.int)]:=by unfold pairD;rw[q1]
 rw[e7]at h7
 rw[q1]at k1
 exact qeg rfl ⟨_,(q2o (l0 _ _ c0 hc0 hhs)).trans<|
   (q2o (l1 _ _ x0 _ a0 hsch)).trans<|
   (q2o (l2 _ _ x1 _ a1)).trans<|
   (q2o hl3).trans<|
   (q2o (l4 _ _ _ _ _ _ _ _ x2 hpl hplm sl1 a2 hts)).trans<|
   (q2o (l5 _ _ _ _ _ _ _ c1 _ hc1 hxw (q17 (by rw[j6];omega)) (cm5 _))).trans<|
   (q2o (l6 _ _ _ _ _ _ _ _ hse htu)).trans<|
   (q2o (l7 _ _ _ _ _ _ _ _ h7)).trans<|
   (q2o (l8 _ _ _ _ _ _ _ _ _ h8)).trans<|
   (q2o (l9 _ _ _ _ _ _ _ _ _ _ _ b1 k1)).trans<|
   l10 _ _ _ _ _ _ _ _ _ _ _ b2 k2⟩
theorem qqs{P:Program}{w:World}{K mg a base}(T:Txt K mg a):FnOk P w K mg base CX0 8 a.f_law a.fd_law ["_law_script"] (qks K 63):=qqt (qq1 T) law_true
local macro_rules|`(tactic|walk_at "k")=>`(tactic|as_aux_lemma=>kernel_rfl)
noncomputable def ad:Ad:=⟨197,223,256,58,(PySem.W.fnOf "rooms_at" "rooms_at" (q0o s_y0) (q0l s_y0) (q04 s_y0) .none (.none) (.none) (.str "trellisway.schemes" 239) none (.ref 57) (.none)),65,(PySem.W.fnOf "rooms" "rooms" (q0o s_y1) (q0l s_y1) (q04 s_y1) .none (.none) (.none) (.str "trellisway.schemes" 239) none (.ref 64) (.none)),72,(PySem.W.fnOf "parity" "parity" (q0o s_y2) (q0l s_y2) (q04 s_y2) .none (.none) (.none) (.str "trellisway.schemes" 239) none (.ref 71) (.none)),77,(PySem.W.fnOf "step" "step" (q0o s_y3) (q0l s_y3) (q04 s_y3) .none (.none) (.none) (.str "trellisway.schemes" 239) none (.ref 76) (.none)),82,(PySem.W.fnOf "sent_at" "sent_at" (q0o s_y4) (q0l s_y4) (q04 s_y4) .none (.none) (.none) (.str "trellisway.schemes" 239) none (.ref 81) (.none)),89,(PySem.W.fnOf "is_ring" "is_ring" (q0o s_y5) (q0l s_y5) (q04 s_y5) .none (.none) (.none) (.str "trellisway.sending" 276) none (.ref 88) (.none)),96,(PySem.W.fnOf "check_size" "check_size" (q0o s_y6) (q0l s_y6) (q04 s_y6) .none (.none) (.none) (.str "trellisway.sending" 276) none (.ref 95) (.none)),103,(PySem.W.fnOf "bits_behind" "bits_behind" (q0o s_y7) (q0l s_y7) (q04 s_y7) .none (.none) (.none) (.str "trellisway.sending" 276) none (.ref 102) (.none)),110,(PySem.W.fnOf "bits_of" "bits_of" (q0o s_y8) (q0l s_y8) (q04 s_y8) .none (.none) (.none) (.str "trellisway.sending" 276) none (.ref 109) (.none)),117,(PySem.W.fnOf "first_room" "first_room" (q0o s_y9) (q0l s_y9) (q04 s_y9) .none (.none) (.none) (.str "trellisway.sending" 276) none (.ref 116) (.none)),124,(PySem.W.fnOf "first_rooms" "first_rooms" (q0o qd2) (q0l qd2) (q04 qd2) .none (.none) (.none) (.str "trellisway.sending" 276) none (.ref 123) (.none)),131,(PySem.W.fnOf "rooms_of" "rooms_of" (q0o qd1) (q0l qd1) (q04 qd1) .none (.none) (.none) (.str "trellisway.sending" 276) none (.ref 130) (.none)),138,(PySem.W.fnOf "sent" "sent" (q0o qd0) (q0l qd0) (q04 qd0) .none (.none) (.none) (.str "trellisway.sending" 276) none (.ref 137) (.none)),145,(PySem.W.fnOf "steps_of" "steps_of" (q0o qcz) (q0l qcz) (q04 qcz) .none (.none) (.none) (.str "trellisway.sending" 276) none (.ref 144) (.none)),152,(PySem.W.fnOf "places_of" "places_of" (q0o qcy) (q0l qcy) (q04 qcy) .none (.none) (.none) (.str "trellisway.sending" 276) none (.ref 151) (.none)),180,(PySem.W.fnOf "__init__" "Clear.__init__" (q0o qcx) (q0l qcx) (q04 qcx) .none (.none) (.none) (.str "trellisway.signs" 368) none (.ref 179) (.none)),194,(PySem.W.fnOf "cost" "Clear.cost" (q0o qcw) (q0l qcw) (q04 qcw) .none (.none) (.none) (.str "trellisway.signs" 368) none (.ref 193) (.none)),220,(PySem.W.fnOf "cost" "Gap.cost" (q0o qcv) (q0l qcv) (q04 qcv) .none (.none) (.none) (.str "trellisway.signs" 368) none (.ref 219) (.none)),239,(PySem.W.fnOf "__init__" "Soft.__init__" (q0o qcu) (q0l qcu) (q04 qcu) .none (.none) (.none) (.str "trellisway.signs" 368) none (.ref 238) (.none)),253,(PySem.W.fnOf "cost" "Soft.cost" (q0o qct) (q0l qct) (q04 qct) .none (.none) (.none) (.str "trellisway.signs" 368) none (.ref 252) (.none)),265,(PySem.W.fnOf "sign_of" "sign_of" (q0o qcs) (q0l qcs) (q04 qcs) .none (.none) (.none) (.str "trellisway.signs" 368) none (.ref 264) (.none)),272,(PySem.W.fnOf "check_heard" "check_heard" (q0o qcr) (q0l qcr) (q04 qcr) .none (.none) (.none) (.str "trellisway.costs" 510) none (.ref 271) (.none)),277,(PySem.W.fnOf "signs_cost" "signs_cost" (q0o qa2) (q0l qa2) (q04 qa2) .none (.none) (.none) (.str "trellisway.costs" 510) none (.ref 276) (.none)),282,(PySem.W.fnOf "cost" "cost" (q0o qa1) (q0l qa1) (q04 qa1) .none (.none) (.none) (.str "trellisway.costs" 510) none (.ref 281) (.none)),287,(PySem.W.fnOf "signs_by_step" "signs_by_step" (q0o qa0) (q0l qa0) (q04 qa0) .none (.none) (.none) (.str "trellisway.costs" 510) none (.ref 286) (.none)),294,(PySem.W.fnOf "move" "move" (q0o qcq) (q0l qcq) (q04 qcq) .none (.none) (.none) (.str "trellisway.costs" 510) none (.ref 293) (.none)),299,(PySem.W.fnOf "moves_from" "moves_from" (q0o q9z) (q0l q9z) (q04 q9z) .none (.none) (.none) (.str "trellisway.costs" 510) none (.ref 298) (.none)),304,(PySem.W.fnOf "moves" "moves" (q0o q9y) (q0l q9y) (q04 q9y) .none (.none) (.none) (.str "trellisway.costs" 510) none (.ref 303) (.none)),309,(PySem.W.fnOf "end_costs" "end_costs" (q0o q9x) (q0l q9x) (q04 q9x) .none (.none) (.none) (.str "trellisway.costs" 510) none (.ref 308) (.none)),316,(PySem.W.fnOf "cost_by" "cost_by" (q0o qcp) (q0l qcp) (q04 qcp) .none (.none) (.none) (.str "trellisway.costs" 510) none (.ref 315) (.none)),321,(PySem.W.fnOf "least_by" "least_by" (q0o q8y) (q0l q8y) (q04 q8y) .none (.none) (.none) (.str "trellisway.costs" 510) none (.ref 320) (.none)),326,(PySem.W.fnOf "ahead_by" "ahead_by" (q0o q9w) (q0l q9w) (q04 q9w) .none (.none) (.none) (.str "trellisway.costs" 510) none (.ref 325) (.none)),333,(PySem.W.fnOf "ahead_by_start" "ahead_by_start" (q0o qco) (q0l qco) (q04 qco) .none (.none) (.none) (.str "trellisway.costs" 510) none (.ref 332) (.none)),340,(PySem.W.fnOf "nearest_from" "nearest_from" (q0o qcn) (q0l qcn) (q04 qcn) .none (.none) (.none) (.str "trellisway.nearest" 601) none (.ref 339) (.none)),345,(PySem.W.fnOf "nearest" "nearest" (q0o q9v) (q0l q9v) (q04 q9v) .none (.none) (.none) (.str "trellisway.nearest" 601) none (.ref 344) (.none)),352,(PySem.W.fnOf "_law_cell_at" "_law_cell_at" (q0o qcm) (q0l qcm) (q04 qcm) .none (.none) (.none) (.str "law_trellisway_k16_whole_turned_by_a_word" 624) none (.ref 351) (.none)),359,(PySem.W.fnOf "_law_mixed" "_law_mixed" (q0o qcl) (q0l qcl) (q04 qcl) .none (.none) (.none) (.str "law_trellisway_k16_whole_turned_by_a_word" 624) none (.ref 358) (.none)),364,(PySem.W.fnOf "_law_scheme" "_law_scheme" (q0o q8x) (q0l q8x) (q04 q8x) .none (.none) (.none) (.str "law_trellisway_k16_whole_turned_by_a_word" 624) none (.ref 363) (.none)),369,(PySem.W.fnOf "_law_step" "_law_step" (q0o q9u) (q0l q9u) (q04 q9u) .none (.none) (.none) (.str "law_trellisway_k16_whole_turned_by_a_word" 624) none (.ref 368) (.none)),374,(PySem.W.fnOf "_law_sent_at" "_law_sent_at" (q0o q9t) (q0l q9t) (q04 q9t) .none (.none) (.none) (.str "law_trellisway_k16_whole_turned_by_a_word" 624) none (.ref 373) (.none)),381,(PySem.W.fnOf "_law_steps" "_law_steps" (q0o qck) (q0l qck) (q04 qck) .none (.none) (.none) (.str "law_trellisway_k16_whole_turned_by_a_word" 624) none (.ref 380) (.none)),386,(PySem.W.fnOf "_law_places" "_law_places" (q0o q9s) (q0l q9s) (q04 q9s) .none (.none) (.none) (.str "law_trellisway_k16_whole_turned_by_a_word" 624) none (.ref 385) (.none)),393,(PySem.W.fnOf "_law_start" "_law_start" (q0o qcj) (q0l qcj) (q04 qcj) .none (.none) (.none) (.str "law_trellisway_k16_whole_turned_by_a_word" 624) none (.ref 392) (.none)),400,(PySem.W.fnOf "_law_sent" "_law_sent" (q0o qci) (q0l qci) (q04 qci) .none (.none) (.none) (.str "law_trellisway_k16_whole_turned_by_a_word" 624) none (.ref 399) (.none)),407,(PySem.W.fnOf "_law_sign" "_law_sign" (q0o qch) (q0l qch) (q04 qch) .none (.none) (.none) (.str "law_trellisway_k16_whole_turned_by_a_word" 624) none (.ref 406) (.none)),412,(PySem.W.fnOf "_law_heard" "_law_heard" (q0o q8w) (q0l q8w) (q04 q8w) .none (.none) (.none) (.str "law_trellisway_k16_whole_turned_by_a_word" 624) none (.ref 411) (.none)),419,(PySem.W.fnOf "_law_turned" "_law_turned" (q0o qcg) (q0l qcg) (q04 qcg) .none (.none) (.none) (.str "law_trellisway_k16_whole_turned_by_a_word" 624) none (.ref 418) (.none)),424,(PySem.W.fnOf "_law_added" "_law_added" (q0o q9r) (q0l q9r) (q04 q9r) .none (.none) (.none) (.str "law_trellisway_k16_whole_turned_by_a_word" 624) none (.ref 423) (.none)),429,(PySem.W.fnOf "law" "law" (q0o qa3) (q0l qa3) (q04 qa3) .none (.none) (.none) (.str "law_trellisway_k16_whole_turned_by_a_word" 624) none (.ref 428) (.none))⟩
theorem txt{P:Params}{h:Heap}{mg:Str->Option Value}{fa:Addr}(X:(H16.KH P).In h)(G:h.Ns mainGlobals mg)(hfa:mg "law"=some (.ref fa)):∃a:Ad,Txt (H16.KH P) mg a/\a.f_law=fa/\∀(s:Shared) (v:Value),BindsTo s a.fd_law ⟨[v],[]⟩ [("_law_script",v)]:=by
 have e0:429=fa:=Value.ref.inj (je ((PySem.W.mg_of X G (show PySem.W.nsIn (H16.KH P) mainGlobals "law"=some (some (.ref 429))from by walk_at "k")).symm.trans hfa))
 subst e0
 have F_y0:Fun (H16.KH P) "rooms_at" "rooms_at" s_y0 ad.f_y0 ad.fd_y0:=q13 (oc:=.type "function") (od:=none) (osl:=#[]) (by walk_at "k") (by walk_at "k") (by walk_at "k")
 have F_y1:Fun (H16.KH P) "rooms" "rooms" s_y1 ad.f_y1 ad.fd_y1:=q13 (oc:=.type "function") (od:=none) (osl:=#[]) (by walk_at "k") (by walk_at "k") (by walk_at "k")
 have F_y2:Fun (H16.KH P) "parity" "parity" s_y2 ad.f_y2 ad.fd_y2:=q13 (oc:=.type "function") (od:=none) (osl:=#[]) (by walk_at "k") (by walk_at "k") (by walk_at "k")
 have F_y3:Fun (H16.KH P) "step" "step" s_y3 ad.f_y3 ad.fd_y3:=q13 (oc:=.type "function") (od:=none) (osl:=#[]) (by walk_at "k") (by walk_at "k") (by walk_at "k")
 have F_y4:Fun (H16.KH P) "sent_at" "sent_at" s_y4 ad.f_y4 ad.fd_y4:=q13 (oc:=.type "function") (od:=none) (osl:=#[]) (by walk_at "k") (by walk_at "k") (by walk_at "k")
 have F_y5:Fun (H16.KH P) "is_ring" "is_ring" s_y5 ad.f_y5 ad.fd_y5:=q13 (oc:=.type "function") (od:=none) (osl:=#[]) (by walk_at "k") (by walk_at "k") (by walk_at "k")
 have F_y6:Fun (H16.KH P) "check_size" "check_size" s_y6 ad.f_y6 ad.fd_y6:=q13 (oc:=.type "function") (od:=none) (osl:=#[]) (by walk_at "k") (by walk_at "k") (by walk_at "k")
 have F_y7:Fun (H16.KH P) "bits_behind" "bits_behind" s_y7 ad.f_y7 ad.fd_y7:=q13 (oc:=.type "function") (od:=none) (osl:=#[]) (by walk_at "k") (by walk_at "k") (by walk_at "k")
 have F_y8:Fun (H16.KH P) "bits_of" "bits_of" s_y8 ad.f_y8 ad.fd_y8:=q13 (oc:=.type "function") (od:=none) (osl:=#[]) (by walk_at "k") (by walk_at "k") (by walk_at "k")
 have F_y9:Fun (H16.KH P) "first_room" "first_room" s_y9 ad.f_y9 ad.fd_y9:=q13 (oc:=.type "function") (od:=none) (osl:=#[]) (by walk_at "k") (by walk_at "k") (by walk_at "k")
 have F_y10:Fun (H16.KH P) "first_rooms" "first_rooms" qd2 ad.f_y10 ad.fd_y10:=q13 (oc:=.type "function") (od:=none) (osl:=#[]) (by walk_at "k") (by walk_at "k") (by walk_at "k")
 have F_y11:Fun (H16.KH P) "rooms_of" "rooms_of" qd1 ad.f_y11 ad.fd_y11:=q13 (oc:=.type "function") (od:=none) (osl:=#[]) (by walk_at "k") (by walk_at "k") (by walk_at "k")
 have F_y12:Fun (H16.KH P) "sent" "sent" qd0 ad.f_y12 ad.fd_y12:=q13 (oc:=.type "function") (od:=none) (osl:=#[]) (by walk_at "k") (by walk_at "k") (by walk_at "k")
 have F_y13:Fun (H16.KH P) "steps_of" "steps_of" qcz ad.f_y13 ad.fd_y13:=q13 (oc:=.type "function") (od:=none) (osl:=#[]) (by walk_at "k") (by walk_at "k") (by walk_at "k")
 have F_y14:Fun (H16.KH P) "places_of" "places_of" qcy ad.f_y14 ad.fd_y14:=q13 (oc:=.type "function") (od:=none) (osl:=#[]) (by walk_at "k") (by walk_at "k") (by walk_at "k")
 have F_y15:Fun (H16.KH P) "__init__" "Clear.__init__" qcx ad.f_y15 ad.fd_y15:=q13 (oc:=.type "function") (od:=none) (osl:=#[]) (by walk_at "k") (by walk_at "k") (by walk_at "k")
 have F_y17:Fun (H16.KH P) "cost" "Clear.cost" qcw ad.f_y17 ad.fd_y17:=q13 (oc:=.type "function") (od:=none) (osl:=#[]) (by walk_at "k") (by walk_at "k") (by walk_at "k")
 have F_y19:Fun (H16.KH P) "cost" "Gap.cost" qcv ad.f_y19 ad.fd_y19:=q13 (oc:=.type "function") (od:=none) (osl:=#[]) (by walk_at "k") (by walk_at "k") (by walk_at "k")
 have F_y20:Fun (H16.KH P) "__init__" "Soft.__init__" qcu ad.f_y20 ad.fd_y20:=q13 (oc:=.type "function") (od:=none) (osl:=#[]) (by walk_at "k") (by walk_at "k") (by walk_at "k")
 have F_y22:Fun (H16.KH P) "cost" "Soft.cost" qct ad.f_y22 ad.fd_y22:=q13 (oc:=.type "function") (od:=none) (osl:=#[]) (by walk_at "k") (by walk_at "k") (by walk_at "k")
 have F_y23:Fun (H16.KH P) "sign_of" "sign_of" qcs ad.f_y23 ad.fd_y23:=q13 (oc:=.type "function") (od:=none) (osl:=#[]) (by walk_at "k") (by walk_at "k") (by walk_at "k")
 have F_y24:Fun (H16.KH P) "check_heard" "check_heard" qcr ad.f_y24 ad.fd_y24:=q13 (oc:=.type "function") (od:=none) (osl:=#[]) (by walk_at "k") (by walk_at "k") (by walk_at "k")
 have F_y25:Fun (H16.KH P) "signs_cost" "signs_cost" qa2 ad.f_y25 ad.fd_y25:=q13 (oc:=.type "function") (od:=none) (osl:=#[]) (by walk_at "k") (by walk_at "k") (by walk_at "k")
 have F_y26:Fun (H16.KH P) "cost" "cost" qa1 ad.f_y26 ad.fd_y26:=q13 (oc:=.type "function") (od:=none) (osl:=#[]) (by walk_at "k") (by walk_at "k") (by walk_at "k")
 have F_y27:Fun (H16.KH P) "signs_by_step" "signs_by_step" qa0 ad.f_y27 ad.fd_y27:=q13 (oc:=.type "function") (od:=none) (osl:=#[]) (by walk_at "k") (by walk_at "k") (by walk_at "k")
 have F_y28:Fun (H16.KH P) "move" "move" qcq ad.f_y28 ad.fd_y28:=q13 (oc:=.type "function") (od:=none) (osl:=#[]) (by walk_at "k") (by walk_at "k") (by walk_at "k")
 have F_y29:Fun (H16.KH P) "moves_from" "moves_from" q9z ad.f_y29 ad.fd_y29:=q13 (oc:=.type "function") (od:=none) (osl:=#[]) (by walk_at "k") (by walk_at "k") (by walk_at "k")
 have F_y30:Fun (H16.KH P) "moves" "moves" q9y ad.f_y30 ad.fd_y30:=q13 (oc:=.type "function") (od:=none) (osl:=#[]) (by walk_at "k") (by walk_at "k") (by walk_at "k")
 have F_y31:Fun (H16.KH P) "end_costs" "end_costs" q9x ad.f_y31 ad.fd_y31:=q13 (oc:=.type "function") (od:=none) (osl:=#[]) (by walk_at "k") (by walk_at "k") (by walk_at "k")
 have F_y32:Fun (H16.KH P) "cost_by" "cost_by" qcp ad.f_y32 ad.fd_y32:=q13 (oc:=.type "function") (od:=none) (osl:=#[]) (by walk_at "k") (by walk_at "k") (by walk_at "k")
 have F_y33:Fun (H16.KH P) "least_by" "least_by" q8y ad.f_y33 ad.fd_y33:=q13 (oc:=.type "function") (od:=none) (osl:=#[]) (by walk_at "k") (by walk_at "k") (by walk_at "k")
 have F_y34:Fun (H16.KH P) "ahead_by" "ahead_by" q9w ad.f_y34 ad.fd_y34:=q13 (oc:=.type "function") (od:=none) (osl:=#[]) (by walk_at "k") (by walk_at "k") (by walk_at "k")
 have F_y35:Fun (H16.KH P) "ahead_by_start" "ahead_by_start" qco ad.f_y35 ad.fd_y35:=q13 (oc:=.type "function") (od:=none) (osl:=#[]) (by walk_at "k") (by walk_at "k") (by walk_at "k")
 have F_y36:Fun (H16.KH P) "nearest_from" "nearest_from" qcn ad.f_y36 ad.fd_y36:=q13 (oc:=.type "function") (od:=none) (osl:=#[]) (by walk_at "k") (by walk_at "k") (by walk_at "k")
 have F_y37:Fun (H16.KH P) "nearest" "nearest" q9v ad.f_y37 ad.fd_y37:=q13 (oc:=.type "function") (od:=none) (osl:=#[]) (by walk_at "k") (by walk_at "k") (by walk_at "k")
 have F_y38:Fun (H16.KH P) "_law_cell_at" "_law_cell_at" qcm ad.f_y38 ad.fd_y38:=q13 (oc:=.type "function") (od:=none) (osl:=#[]) (by walk_at "k") (by walk_at "k") (by walk_at "k")
 have F_y39:Fun (H16.KH P) "_law_mixed" "_law_mixed" qcl ad.f_y39 ad.fd_y39:=q13 (oc:=.type "function") (od:=none) (osl:=#[]) (by walk_at "k") (by walk_at "k") (by walk_at "k")
 have F_y40:Fun (H16.KH P) "_law_scheme" "_law_scheme" q8x ad.f_y40 ad.fd_y40:=q13 (oc:=.type "function") (od:=none) (osl:=#[]) (by walk_at "k") (by walk_at "k") (by walk_at "k")
 have F_y41:Fun (H16.KH P) "_law_step" "_law_step" q9u ad.f_y41 ad.fd_y41:=q13 (oc:=.type "function") (od:=none) (osl:=#[]) (by walk_at "k") (by walk_at "k") (by walk_at "k")
 have F_y42:Fun (H16.KH P) "_law_sent_at" "_law_sent_at" q9t ad.f_y42 ad.fd_y42:=q13 (oc:=.type "function") (od:=none) (osl:=#[]) (by walk_at "k") (by walk_at "k") (by walk_at "k")
 have F_y43:Fun (H16.KH P) "_law_steps" "_law_steps" qck ad.f_y43 ad.fd_y43:=q13 (oc:=.type "function") (od:=none) (osl:=#[]) (by walk_at "k") (by walk_at "k") (by walk_at "k")
 have F_y44:Fun (H16.KH P) "_law_places" "_law_places" q9s ad.f_y44 ad.fd_y44:=q13 (oc:=.type "function") (od:=none) (osl:=#[]) (by walk_at "k") (by walk_at "k") (by walk_at "k")
 have F_y45:Fun (H16.KH P) "_law_start" "_law_start" qcj ad.f_y45 ad.fd_y45:=q13 (oc:=.type "function") (od:=none) (osl:=#[]) (by walk_at "k") (by walk_at "k") (by walk_at "k")
 have F_y46:Fun (H16.KH P) "_law_sent" "_law_sent" qci ad.f_y46 ad.fd_y46:=q13 (oc:=.type "function") (od:=none) (osl:=#[]) (by walk_at "k") (by walk_at "k") (by walk_at "k")
 have F_y47:Fun (H16.KH P) "_law_sign" "_law_sign" qch ad.f_y47 ad.fd_y47:=q13 (oc:=.type "function") (od:=none) (osl:=#[]) (by walk_at "k") (by walk_at "k") (by walk_at "k")
 have F_y48:Fun (H16.KH P) "_law_heard" "_law_heard" q8w ad.f_y48 ad.fd_y48:=q13 (oc:=.type "function") (od:=none) (osl:=#[]) (by walk_at "k") (by walk_at "k") (by walk_at "k")
 have F_y49:Fun (H16.KH P) "_law_turned" "_law_turned" qcg ad.f_y49 ad.fd_y49:=q13 (oc:=.type "function") (od:=none) (osl:=#[]) (by walk_at "k") (by walk_at "k") (by walk_at "k")
 have F_y50:Fun (H16.KH P) "_law_added" "_law_added" q9r ad.f_y50 ad.fd_y50:=q13 (oc:=.type "function") (od:=none) (osl:=#[]) (by walk_at "k") (by walk_at "k") (by walk_at "k")
 have F_law:Fun (H16.KH P) "law" "law" qa3 ad.f_law ad.fd_law:=q13 (oc:=.type "function") (od:=none) (osl:=#[]) (by walk_at "k") (by walk_at "k") (by walk_at "k")
 exact⟨ad,⟨PySem.W.mg_of X G (by walk_at "k"),(by walk_at "k"),⟨(by walk_at "k"),(by walk_at "k"),(by walk_at "k"),(by walk_at "k")⟩,(show PySem.W.findIn (H16.KH P) (.ref 197) "bit"=some none from by walk_at "k"),PySem.W.mg_of X G (by walk_at "k"),(by walk_at "k"),⟨(by walk_at "k"),(by walk_at "k"),(by walk_at "k"),(by walk_at "k")⟩,PySem.W.mg_of X G (by walk_at "k"),(by walk_at "k"),⟨(by walk_at "k"),(by walk_at "k"),(by walk_at "k"),(by walk_at "k")⟩,(show PySem.W.findIn (H16.KH P) (.ref 256) "zero"=some none from by walk_at "k"),(show PySem.W.findIn (H16.KH P) (.ref 256) "one"=some none from by walk_at "k"),F_y0,F_y0.binds (ps:=["reach"]) λ_ _ _ _ _ _ us hl=>match us,hl with|[_],_=>rfl,PySem.W.mg_of X G (by walk_at "k"),(by walk_at "k"),F_y1,F_y1.binds (ps:=["scheme"]) λ_ _ _ _ _ _ us hl=>match us,hl with|[_],_=>rfl,PySem.W.mg_of X G (by walk_at "k"),(by walk_at "k"),F_y2,F_y2.binds (ps:=["number"]) λ_ _ _ _ _ _ us hl=>match us,hl with|[_],_=>rfl,PySem.W.mg_of X G (by walk_at "k"),(by walk_at "k"),F_y3,F_y3.binds (ps:=["scheme","room","bit"]) λ_ _ _ _ _ _ us hl=>match us,hl with|[_,_,_],_=>rfl,PySem.W.mg_of X G (by walk_at "k"),(by walk_at "k"),F_y4,F_y4.binds (ps:=["scheme","number","signs"]) λ_ _ _ _ _ _ us hl=>match us,hl with|[_,_,_],_=>rfl,PySem.W.mg_of X G (by walk_at "k"),(by walk_at "k"),F_y5,F_y5.binds (ps:=["scheme"]) λ_ _ _ _ _ _ us hl=>match us,hl with|[_],_=>rfl,PySem.W.mg_of X G (by walk_at "k"),(by walk_at "k"),F_y6,F_y6.binds (ps:=["scheme","size"]) λ_ _ _ _ _ _ us hl=>match us,hl with|[_,_],_=>rfl,PySem.W.mg_of X G (by walk_at "k"),(by walk_at "k"),F_y7,F_y7.binds (ps:=["scheme"]) λ_ _ _ _ _ _ us hl=>match us,hl with|[_],_=>rfl,PySem.W.mg_of X G (by walk_at "k"),(by walk_at "k"),F_y8,F_y8.binds (ps:=["scheme","word"]) λ_ _ _ _ _ _ us hl=>match us,hl with|[_,_],_=>rfl,PySem.W.mg_of X G (by walk_at "k"),(by walk_at "k"),F_y9,F_y9.binds (ps:=["scheme","word"]) λ_ _ _ _ _ _ us hl=>match us,hl with|[_,_],_=>rfl,PySem.W.mg_of X G (by walk_at "k"),(by walk_at "k"),F_y10,F_y10.binds (ps:=["scheme"]) λ_ _ _ _ _ _ us hl=>match us,hl with|[_],_=>rfl,PySem.W.mg_of X G (by walk_at "k"),(by walk_at "k"),F_y11,F_y11.binds (ps:=["scheme","word"]) λ_ _ _ _ _ _ us hl=>match us,hl with|[_,_],_=>rfl,PySem.W.mg_of X G (by walk_at "k"),(by walk_at "k"),F_y12,F_y12.binds (ps:=["scheme","word"]) λ_ _ _ _ _ _ us hl=>match us,hl with|[_,_],_=>rfl,PySem.W.mg_of X G (by walk_at "k"),(by walk_at "k"),F_y13,F_y13.binds (ps:=["scheme","size"]) λ_ _ _ _ _ _ us hl=>match us,hl with|[_,_],_=>rfl,PySem.W.mg_of X G (by walk_at "k"),(by walk_at "k"),F_y14,F_y14.binds (ps:=["scheme","size"]) λ_ _ _ _ _ _ us hl=>match us,hl with|[_,_],_=>rfl,PySem.W.mg_of X G (by walk_at "k"),(by walk_at "k"),F_y15,F_y15.binds (ps:=["self","bit"]) λ_ _ _ _ _ _ us hl=>match us,hl with|[_,_],_=>rfl,F_y17,F_y17.binds (ps:=["self","bit"]) λ_ _ _ _ _ _ us hl=>match us,hl with|[_,_],_=>rfl,⟨(by walk_at "k"),(by walk_at "k"),(by walk_at "k")⟩,F_y19,F_y19.binds (ps:=["self","bit"]) λ_ _ _ _ _ _ us hl=>match us,hl with|[_,_],_=>rfl,⟨(by walk_at "k"),(by walk_at "k"),(by walk_at "k")⟩,F_y20,F_y20.binds (ps:=["self","zero","one"]) λ_ _ _ _ _ _ us hl=>match us,hl with|[_,_,_],_=>rfl,F_y22,F_y22.binds (ps:=["self","bit"]) λ_ _ _ _ _ _ us hl=>match us,hl with|[_,_],_=>rfl,⟨(by walk_at "k"),(by walk_at "k"),(by walk_at "k")⟩,F_y23,F_y23.binds (ps:=["told"]) λ_ _ _ _ _ _ us hl=>match us,hl with|[_],_=>rfl,PySem.W.mg_of X G (by walk_at "k"),(by walk_at "k"),F_y24,F_y24.binds (ps:=["scheme","size","heard"]) λ_ _ _ _ _ _ us hl=>match us,hl with|[_,_,_],_=>rfl,PySem.W.mg_of X G (by walk_at "k"),(by walk_at "k"),F_y25,F_y25.binds (ps:=["signs","bits"]) λ_ _ _ _ _ _ us hl=>match us,hl with|[_,_],_=>rfl,PySem.W.mg_of X G (by walk_at "k"),(by walk_at "k"),F_y26,F_y26.binds (ps:=["scheme","word","heard"]) λ_ _ _ _ _ _ us hl=>match us,hl with|[_,_,_],_=>rfl,PySem.W.mg_of X G (by walk_at "k"),(by walk_at "k"),F_y27,F_y27.binds (ps:=["scheme","size","heard"]) λ_ _ _ _ _ _ us hl=>match us,hl with|[_,_,_],_=>rfl,PySem.W.mg_of X G (by walk_at "k"),(by walk_at "k"),F_y28,F_y28.binds (ps:=["scheme","number","signs","room","bit"]) λ_ _ _ _ _ _ us hl=>match us,hl with|[_,_,_,_,_],_=>rfl,PySem.W.mg_of X G (by walk_at "k"),(by walk_at "k"),F_y29,F_y29.binds (ps:=["scheme","number","signs","room","bits"]) λ_ _ _ _ _ _ us hl=>match us,hl with|[_,_,_,_,_],_=>rfl,PySem.W.mg_of X G (by walk_at "k"),(by walk_at "k"),F_y30,F_y30.binds (ps:=["scheme","size","heard"]) λ_ _ _ _ _ _ us hl=>match us,hl with|[_,_,_],_=>rfl,PySem.W.mg_of X G (by walk_at "k"),(by walk_at "k"),F_y31,F_y31.binds (ps:=["scheme","start"]) λ_ _ _ _ _ _ us hl=>match us,hl with|[_,_],_=>rfl,PySem.W.mg_of X G (by walk_at "k"),(by walk_at "k"),F_y32,F_y32.binds (ps:=["taken","behind"]) λ_ _ _ _ _ _ us hl=>match us,hl with|[_,_],_=>rfl,PySem.W.mg_of X G (by walk_at "k"),(by walk_at "k"),F_y33,F_y33.binds (ps:=["choices","behind"]) λ_ _ _ _ _ _ us hl=>match us,hl with|[_,_],_=>rfl,PySem.W.mg_of X G (by walk_at "k"),(by walk_at "k"),F_y34,F_y34.binds (ps:=["steps","ends"]) λ_ _ _ _ _ _ us hl=>match us,hl with|[_,_],_=>rfl,PySem.W.mg_of X G (by walk_at "k"),(by walk_at "k"),F_y35,F_y35.binds (ps:=["scheme","steps"]) λ_ _ _ _ _ _ us hl=>match us,hl with|[_,_],_=>rfl,PySem.W.mg_of X G (by walk_at "k"),(by walk_at "k"),F_y36,F_y36.binds (ps:=["start","steps","table","size"]) λ_ _ _ _ _ _ us hl=>match us,hl with|[_,_,_,_],_=>rfl,PySem.W.mg_of X G (by walk_at "k"),(by walk_at "k"),F_y37,F_y37.binds (ps:=["scheme","size","heard"]) λ_ _ _ _ _ _ us hl=>match us,hl with|[_,_,_],_=>rfl,PySem.W.mg_of X G (by walk_at "k"),(by walk_at "k"),F_y38,F_y38.binds (ps:=["_law_script","_law_k"]) λ_ _ _ _ _ _ us hl=>match us,hl with|[_,_],_=>rfl,PySem.W.mg_of X G (by walk_at "k"),(by walk_at "k"),F_y39,F_y39.binds (ps:=["_law_cell","_law_many"]) λ_ _ _ _ _ _ us hl=>match us,hl with|[_,_],_=>rfl,PySem.W.mg_of X G (by walk_at "k"),(by walk_at "k"),F_y40,F_y40.binds (ps:=["_law_x","_law_top"]) λ_ _ _ _ _ _ us hl=>match us,hl with|[_,_],_=>rfl,PySem.W.mg_of X G (by walk_at "k"),(by walk_at "k"),F_y41,F_y41.binds (ps:=["_law_scheme_here","_law_room","_law_bit"]) λ_ _ _ _ _ _ us hl=>match us,hl with|[_,_,_],_=>rfl,PySem.W.mg_of X G (by walk_at "k"),(by walk_at "k"),F_y42,F_y42.binds (ps:=["_law_scheme_here","_law_number","_law_signs"]) λ_ _ _ _ _ _ us hl=>match us,hl with|[_,_,_],_=>rfl,PySem.W.mg_of X G (by walk_at "k"),(by walk_at "k"),F_y43,F_y43.binds (ps:=["_law_scheme_here","_law_size"]) λ_ _ _ _ _ _ us hl=>match us,hl with|[_,_],_=>rfl,PySem.W.mg_of X G (by walk_at "k"),(by walk_at "k"),F_y44,F_y44.binds (ps:=["_law_scheme_here","_law_size"]) λ_ _ _ _ _ _ us hl=>match us,hl with|[_,_],_=>rfl,PySem.W.mg_of X G (by walk_at "k"),(by walk_at "k"),F_y45,F_y45.binds (ps:=["_law_scheme_here","_law_word"]) λ_ _ _ _ _ _ us hl=>match us,hl with|[_,_],_=>rfl,PySem.W.mg_of X G (by walk_at "k"),(by walk_at "k"),F_y46,F_y46.binds (ps:=["_law_scheme_here","_law_word"]) λ_ _ _ _ _ _ us hl=>match us,hl with|[_,_],_=>rfl,PySem.W.mg_of X G (by walk_at "k"),(by walk_at "k"),F_y47,F_y47.binds (ps:=["_law_cell"]) λ_ _ _ _ _ _ us hl=>match us,hl with|[_],_=>rfl,PySem.W.mg_of X G (by walk_at "k"),(by walk_at "k"),F_y48,F_y48.binds (ps:=["_law_cells","_law_many","_law_x"]) λ_ _ _ _ _ _ us hl=>match us,hl with|[_,_,_],_=>rfl,PySem.W.mg_of X G (by walk_at "k"),(by walk_at "k"),F_y49,F_y49.binds (ps:=["_law_heard_here","_law_signs"]) λ_ _ _ _ _ _ us hl=>match us,hl with|[_,_],_=>rfl,PySem.W.mg_of X G (by walk_at "k"),(by walk_at "k"),F_y50,F_y50.binds (ps:=["_law_one","_law_other"]) λ_ _ _ _ _ _ us hl=>match us,hl with|[_,_],_=>rfl,PySem.W.mg_of X G (by walk_at "k"),(by walk_at "k"),F_law,F_law.binds (ps:=["_law_script"]) λ_ _ _ _ _ _ us hl=>match us,hl with|[_],_=>rfl,PySem.W.mg_of X G (by walk_at "k"),(by walk_at "k"),⟨(by walk_at "k"),(by walk_at "k"),(by walk_at "k"),(by walk_at "k")⟩,⟨(by walk_at "k"),(by walk_at "k"),(by walk_at "k")⟩,⟨(by walk_at "k"),(by walk_at "k"),(by walk_at "k"),(by walk_at "k")⟩,PySem.W.mg_none_of X G (by walk_at "k"),PySem.W.mg_none_of X G (by walk_at "k"),PySem.W.mg_none_of X G (by walk_at "k"),PySem.W.mg_none_of X G (by walk_at "k"),PySem.W.mg_none_of X G (by walk_at "k"),PySem.W.mg_none_of X G (by walk_at "k"),PySem.W.mg_none_of X G (by walk_at "k"),PySem.W.mg_none_of X G (by walk_at "k"),PySem.W.mg_none_of X G (by walk_at "k"),PySem.W.mg_none_of X G (by walk_at "k")⟩,rfl,λs v=>.of_eq rfl⟩
theorem walk{l:PySem.W.OpenLaw}{q:Program}{loose:List Str}{XP:(Str->Option Value)->Heap->Prop}{YP:World->Heap->Prop}{d:DefRec}{K:Params->PySem.W.Frag}(hn:l.most=some 63)(hdf:d.params.defaults=[])(hd:d.name="law")
   (hY:∀(w:World) (h:Heap),YP w h->(K w.params).In h)
   (F:∀(w:World) (mg:Str->Option Value) (fa:Addr) (h:Heap),(K w.params).In h->h.Ns mainGlobals mg->mg "law"=some (.ref fa)->∃a:Ad,Txt (K w.params) mg a/\a.f_law=fa/\∀(s:Shared) (v:Value),BindsTo s a.fd_law ⟨[v],[]⟩ [("_law_script",v)]):
   PySem.W.WalkO q loose XP YP l.row.toRowW d [] (λf vs=>PySem.call f vs):=
 L2.walk_of (n:=63) (k:=8) (x:="_law_script") (CX:=λ_=>CX0) (sp:=λw=>qks (K w.params) 63) hn (by decide) hdf ⟨rfl,by decide,by decide⟩ hY
   (λw mg fa h KX G hm=>by
     rw[hd]at hm
     obtain⟨a,T,e,b⟩:=F w mg fa h KX G hm
     subst e
     exact⟨a.fd_law,b,λbase _ _=>qqs T⟩)
   (λ_ _ a ns hl _ hS=>⟨a,ns,rfl,hS,hl,λ_=>rfl⟩) λ_ _ _ _ _ z=>z
end K16
open PySem PySem.W PyProof.Rows
set_option maxRecDepth 100000 in
set_option maxHeartbeats 0 in
theorem PySem.Challenge.cw_trellisway_k16_whole_turned_by_a_word_holds : PySem.Challenge.rw_trellisway_k16_whole_turned_by_a_word.Holds := by
 w_on;o_law
 refine holds_open (r:=PySem.Challenge.rw_trellisway_k16_whole_turned_by_a_word.row) (q:=H16.V) (loose:=[]) (Xt:=(λs=>xlAt H16.V [] s&&recOk (RowW.records (OpenRow.toRowW PySem.Challenge.rw_trellisway_k16_whole_turned_by_a_word.row)) s)) (XP:=XL H16.V []) (Yf:=Hook.obs (kHook H16.KH H16.KA H16.ka_eq)) (Ya:=Hook.val (kHook H16.KH H16.KA H16.ka_eq)) (YP:=Hook.says (kHook H16.KH H16.KA H16.ka_eq)) (N:=6214) H16.leftR (Hook.of (kHook H16.KH H16.KA H16.ka_eq)) (Hook.keeps (kHook H16.KH H16.KA H16.ka_eq)) (λs e=>xl_of s (Bool.and_eq_true_iff.mp e).1) XL.keeps (by rfl) (by rfl) (by rfl) (λs e=>recFacts_of (Bool.and_eq_true_iff.mp e).2) (by rfl) (by first|assumption|decide+kernel) (by decide+kernel) ⟨rfl,rfl,rfl,rfl,rfl,by decide+kernel⟩ ?hw ?hc
 case hw=>w_witness2
 case hc=>exact K16.walk (l:=PySem.Challenge.rw_trellisway_k16_whole_turned_by_a_word) rfl rfl rfl (λw h Y=>PySem.W.kIn_of Y) λw mg fa h KX G hmg=>K16.txt KX G hmg
