import PyProof.Rows.All
import Wide.All
import OpenK.AllK
import Wide.FinOn
import Lean
import KE.KTryMore
import KE.KSortTup
import KE.KRevIter
import KE.KMinKey
import KE.KLam
import KE.KIntText
import PyProof.EqAt
import PyProof.EqKinds
import PyProof.TupleCall
import PySem.Challenge.RW_trellisway_k21_few_in_order
set_option Elab.async false
set_option linter.all false
set_option hygiene false
set_option compiler.extract_closed false
set_option bootstrap.genMatcherCode false
set_option maxRecDepth 100000
set_option maxHeartbeats 4000000
noncomputable section
open Array (ext' getD getElem?_eq_getElem getElem?_eq_none length_toList toList toList_append)
open Bool (and_eq_true false_eq_true not_eq_true' or_eq_true)
open PySem.Heap (ExtBut SameBut get?_push_ne)
open Int (add_mul emod_eq_of_lt emod_nonneg le_refl pow_pos toNat_natCast toNat_of_nonneg zero_add zero_mul)
open List (Nodup all_eq_true append_inj append_nil cons_append drop_drop drop_length drop_zero eq_of_mem_replicate ext_getElem ext_getElem? filter_cons_of_neg filter_cons_of_pos filter_map find?_cons flatten_cons foldl foldl_append foldl_cons forIn_cons forIn_nil getElem?_drop length length_filter_le length_range length_reverse length_singleton lookup_cons map_congr_left map_cons map_replicate map_take mem_append_left mem_cons mem_iff_getElem mem_of_mem_drop nil_append nodup_nil not_mem_nil of_mem_zip pairwise_map prefix_append range' replicate replicate_succ reverse_cons size_toArray sum_append take_add take_append_drop take_length take_of_length_le toArray zipIdx_cons)
open Nat (eq_or_lt_of_le le_of_lt le_succ lt_succ_of_lt lt_succ_self lt_trans mod_lt mul_le_mul ne_of_gt sub_zero zero_le zero_lt_one)
open Option (getD_none map_map map_some)
abbrev am:=PySem.W.Frag
abbrev zlw:PySem.Str:="law_trellisway_k21_few_in_order"
namespace H21
open PySem PySem.W
abbrev zr:=Challenge.rw_trellisway_k21_few_in_order
abbrev zp:=Challenge.pw_trellisway_k21_few_in_order
noncomputable def qF(tb:String->Option Builtin)(p:Program)(w:World)(n₀:Nat)(ann:Option Value):Nat->SharedT->Thread->Option SharedT
 |0,_,_=>none
 | n+1,s,t=>match through t with
  |true=>some s
  | false=>match stepOk n₀ ann t with
   |false=>none
   | true=>match stepT (denote tb) p w s t with
    |some (s',t')=>qF tb p w n₀ ann n s' t'
    |none=>none
theorem HK{tb:String->Option Builtin}{p:Program}{w:World}{n₀:Nat}{ann:Option Value}:∀{n:Nat} {s s':SharedT} {t:Thread},qF tb p w n₀ ann n s t=some s'->topRun tb p w n₀ ann n s.abs t=some s'.abs
 |0,_,_,_,h=>by cases h
 | n+1,s,s',t,h=>by
  unfold qF at h;unfold topRun;split at h
  .rename_i q;rw[q];cases h;rfl
  .rename_i q;rw[q];split at h
   .cases h
   .rename_i q2;rw[q2];split at h
    .rename_i s1 t1 q3;rw[stepT_spec q3];exact HK h
    .cases h
noncomputable def Et:List Obj->Nat->BT->BT
 |[],_,t=>t
 |o::r,n,t=>Et r (n+1) (t.ins n o)
noncomputable def wo(P:Params)(os:OsState):SharedT:=⟨Et (boot_heap P).objs.toList 0 .nil,(boot_heap P).objs.size,(boot_heap P).life,Array.mk [],boot_drawn,boot_toks,os⟩
theorem qj4(P:Params)(os:OsState):(wo P os).abs=⟨boot_heap P,Array.mk [],boot_drawn,boot_toks,os⟩:=by kernel_rfl
theorem qi4{p q:Program}{loose:List Str}{Xt:Shared->Bool}{α:Type}{Yf:Shared->α}{Ya:World->α}{N m₀:Nat}{ann:Option Value}(e:opening p=plainProg p.main.scope.names)(hN:Nat.ble 600 N=true)(f:∀s,fenceModules? p s=some s)
 (size:∀P:Params,((boot_heap P).isNs mainGlobals,(boot_heap P).objs.size,(boot_heap P).nsMap mainGlobals "__annotations__")=(true,m₀,ann))
 (run:∀(w:World) (os:OsState),(qF treeTable p w m₀ ann N (wo w.params os) (topStub p)).map (λs=>(staticsOk (importedModules p.main.body) (boot_heap w.params) s.abs.heap&&namesBound p s.abs.heap&&gensDone s.abs&&laidKept (boot_heap w.params) s.abs.heap,
   openSeen q loose (importedModules p.main.body) Xt true s.abs,Yf s.abs))=some (true,openGood q loose,Ya w)):LeftO p q loose Xt Yf Ya N:=λw=>by
 let⟨⟨h,gs,d,k,os⟩,e,e'⟩:=Option.map_eq_some_iff.mp (boot_open e hN f w);obtain⟨rfl,rfl,rfl,rfl⟩:h=boot_heap w.params/\gs=Array.mk []/\d=boot_drawn/\k=boot_toks:=by simpa using e'
 obtain⟨z1,z2,z3⟩:_/\_/\_:=by simpa only[Prod.mk.injEq]using size w.params
 let⟨s,r,l⟩:=Option.map_eq_some_iff.mp (run w os);obtain⟨l1,l2,l3⟩:_/\_/\_:=by simpa only[Prod.mk.injEq]using l
 have r:=HK r;rw[qj4]at r;have t:topFrom treeTable p w N ⟨boot_heap w.params,Array.mk [],boot_drawn,boot_toks,os⟩=some s.abs:=by unfold topFrom;rw[z1,z2,z3,r];show(match staticsOk (importedModules p.main.body) (boot_heap w.params) s.abs.heap&&namesBound p s.abs.heap&&gensDone s.abs&&laidKept (boot_heap w.params) s.abs.heap with|true=>_|false=>_)=_;rw[l1]
 unfold openEnds;rw[e];show(topFrom treeTable p w N _).map _=_;rw[t];exact congrArg some (Prod.ext l2 l3)
noncomputable def tp(i:Nat):Stmt:=zp.main.body.getD i (.Pass ⟨0,0,0,0⟩)
noncomputable def ic(s:Stmt)(j:Nat):Stmt:=match s with
 |.ClassDef _ _ _ b _ _ _ _ _ _ _=>b.getD j (.Pass ⟨0,0,0,0⟩)
 |_=>.Pass ⟨0,0,0,0⟩
noncomputable def dA(s:Stmt):Arguments:=match s with
 |.FunctionDef _ a _ _ _ _ _ _ _ _=>a
 |_=>{posonlyargs:=[],args:=[],vararg:=none,kwonlyargs:=[],kw_defaults:=[],kwarg:=none,defaults:=[]}
noncomputable def dB(s:Stmt):List Stmt:=match s with
 |.FunctionDef _ _ b _ _ _ _ _ _ _=>b
 |_=>[]
noncomputable def dS(s:Stmt):Scope:=match s with
 |.FunctionDef _ _ _ _ _ _ sc _ _ _=>sc
 |_=>{kind:=.function,names:=[],isGenerator:=false,isCoroutine:=false}
def V:Program:={zp with main:={zp.main with body:=[tp 1,tp 2,tp 3,tp 5,tp 6,tp 7,tp 8,tp 9,tp 11,tp 12,tp 13,tp 14,tp 15,tp 16,tp 18,tp 19,tp 20,tp 21,tp 22,tp 24,tp 25,tp 26,tp 27,tp 28,tp 29,tp 30,tp 31,tp 32,tp 33,tp 34,tp 36,tp 37,tp 38,tp 39,tp 40,tp 43,tp 44,tp 45,tp 46,tp 47,tp 48,tp 49,tp 50,tp 51,tp 52,tp 53,tp 54,tp 55,tp 56,tp 57,tp 58,tp 59]}}
abbrev zm0:Value:=.str zlw 602
abbrev zm1:Value:=.str "trellisway.schemes" 239
abbrev zm2:Value:=.str "trellisway.sending" 276
abbrev zm3:Value:=.str "trellisway.signs" 326
abbrev zm4:Value:=.str "trellisway.costs" 468
abbrev zm5:Value:=.str "trellisway.few" 553
noncomputable def eS(P:Params)(x:Str)(t:Nat)(v:Value):DictEntry:=⟨PyData.keyHash P x,.str x t,v⟩
def fO(x:Str)(s:Stmt)(pm:Value)(cd:Nat):Obj:=⟨.type "function",none,.func (W.fnOf x x (dA s) (dB s) (dS s) .none .none .none pm none (.ref cd) .none),#[]⟩
def eR(P:Params)(x:Str)(t:Nat)(n:Addr):DictEntry:=eS P x t (.ref n)
noncomputable def cN(x:Str)(t:Nat)(y:Str)(u a2 a3 a4 a7 a8 a10 a11 a15 a16 a17 a18:Nat):Obj:=⟨.type "code",none,.fields #[.str x t,.str y u,.str "/claim/cut.py" a2,.int a3 0,.int a4 0,.int 0 0,.int 0 0,.int a7 0,.ref a8,.bool true,.int a10 0,.ref a11,.none,.none,.none,.ref a15,.int a16 0,.int a17 0,.str "/claim/cut.py" a18],#[]⟩
noncomputable def cO(x:Str)(t:Nat)(y:Str)(u a2 a3 a4 a7 a8 a10 a11 a13 a14 a15 a16 a17 a18:Nat):Obj:=⟨.type "code",none,.fields #[.str x t,.str y u,.str "/claim/cut.py" a2,.int a3 0,.int a4 0,.int 0 0,.int 0 0,.int a7 0,.ref a8,.bool true,.int a10 0,.ref a11,.none,.ref a13,.ref a14,.ref a15,.int a16 0,.int a17 0,.str "/claim/cut.py" a18],#[]⟩
def KH(P:Params):W.Frag:=[(3,⟨.type "dict",none,.dict #[eS P "__name__" 165 zm0,eS P "__doc__" 166 (.none),eS P "__package__" 167 (.none),eS P "__loader__" 168 (.builtin "__main__.__loader__#opaque"),eS P "__spec__" 169 (.none),eR P "__annotations__" 170 6,eR P "__builtins__" 171 4,eS P "__file__" 173 (.str "/claim/cut.py" 172),eS P "__cached__" 174 (.none),eR P "WayError" 206 24,eR P "NoWord" 222 37,eR P "NoSigns" 238 49,eR P "rooms_at" 247 58,eR P "rooms" 254 65,eR P "parity" 263 72,eR P "step" 269 77,eR P "sent_at" 275 82,eR P "is_ring" 284 89,eR P "check_size" 292 96,eR P "bits_behind" 299 103,eR P "first_rooms" 306 110,eR P "steps_of" 314 117,eR P "places_of" 325 124,eR P "Sign" 347 134,eR P "Clear" 387 169,eR P "Gap" 418 195,eR P "Soft" 460 228,eR P "sign_of" 467 237,eR P "check_heard" 479 244,eR P "signs_cost" 485 249,eR P "signs_by_step" 491 254,eR P "move" 503 261,eR P "moves_from" 509 266,eR P "moves" 515 271,eR P "end_costs" 521 276,eR P "cost_by" 530 283,eR P "least_by" 536 288,eR P "ahead_by" 542 293,eR P "ahead_by_start" 552 300,eR P "cost_of_track" 564 307,eR P "beginning" 570 312,eR P "track_on" 580 319,eR P "beginning_on" 586 324,eR P "first_ones" 594 331,eR P "few" 601 337,eR P "_law_cell_at" 611 344,eR P "_law_state" 619 351,eR P "_law_next" 627 358,eR P "_law_scheme" 633 363,eR P "_law_odd" 641 370,eR P "_law_step" 647 375,eR P "_law_start" 657 382,eR P "_law_sent" 670 389,eR P "_law_sign" 681 396,eR P "_law_heard" 693 403,eR P "_law_price" 701 410,eR P "_law_total" 707 415,eR P "_law_whole" 714 422,eR P "_law_is_word" 720 427,eR P "_law_words" 726 432,eR P "_law_rows" 737 439,eR P "law" 743 444] 62,#[]⟩),
 (4,⟨.type "module",(some 0),.plain,#[]⟩),
 (23,⟨.type "dict",none,.dict #[eS P "__module__" 196 (.str "trellisway.errors" 187),eS P "__firstlineno__" 200 (.int 2 199),eR P "__static_attributes__" 201 22,eR P "__weakref__" 203 25,eS P "__doc__" 204 (.none)] 3,#[]⟩),
 (24,⟨.type "type",none,.cls ⟨"WayError",[.type "ValueError"],[.ref 24,.type "ValueError",.type "Exception",.type "BaseException",.type "object"],23,"WayError",true,[],[.ref 37,.ref 49],false,none,false⟩,#[some (.ref 15),none,some (.str "WayError" 189),some (.str "WayError" 197),some (.builtin "ValueError.__new__"),some (.bool true)]⟩),
 (36,⟨.type "dict",none,.dict #[eS P "__module__" 214 (.str "trellisway.errors" 187),eS P "__firstlineno__" 218 (.int 4 217),eR P "__static_attributes__" 219 35,eS P "__doc__" 220 (.none)] 2,#[]⟩),
 (37,⟨.type "type",none,.cls ⟨"NoWord",[.ref 24],[.ref 37,.ref 24,.type "ValueError",.type "Exception",.type "BaseException",.type "object"],36,"NoWord",true,[],[],false,none,false⟩,#[some (.ref 28),none,some (.str "NoWord" 207),some (.str "NoWord" 215),some (.builtin "ValueError.__new__"),some (.bool true)]⟩),
 (48,⟨.type "dict",none,.dict #[eS P "__module__" 230 (.str "trellisway.errors" 187),eS P "__firstlineno__" 234 (.int 6 233),eR P "__static_attributes__" 235 47,eS P "__doc__" 236 (.none)] 2,#[]⟩),
 (49,⟨.type "type",none,.cls ⟨"NoSigns",[.ref 24],[.ref 49,.ref 24,.type "ValueError",.type "Exception",.type "BaseException",.type "object"],48,"NoSigns",true,[],[],false,none,false⟩,#[some (.ref 40),none,some (.str "NoSigns" 223),some (.str "NoSigns" 231),some (.builtin "ValueError.__new__"),some (.bool true)]⟩),
 (57,cO "rooms_at" 241 "rooms_at" 242 243 9 1 3 52 181 53 54 55 56 245 9 246),
 (58,fO "rooms_at" (tp 5) zm1 57),
 (64,cO "rooms" 248 "rooms" 249 250 11 1 3 59 181 60 61 62 63 252 11 253),
 (65,fO "rooms" (tp 6) zm1 64),
 (71,cO "parity" 255 "parity" 256 257 13 1 3 66 181 67 68 69 70 261 13 262),
 (72,fO "parity" (tp 7) zm1 71),
 (76,cN "step" 264 "step" 265 266 20 3 3 73 181 74 75 267 20 268),
 (77,fO "step" (tp 8) zm1 76),
 (81,cN "sent_at" 270 "sent_at" 271 272 24 3 3 78 181 79 80 273 24 274),
 (82,fO "sent_at" (tp 9) zm1 81),
 (88,cO "is_ring" 278 "is_ring" 279 280 29 1 3 83 181 84 85 86 87 282 29 283),
 (89,fO "is_ring" (tp 11) zm2 88),
 (95,cO "check_size" 285 "check_size" 286 287 31 2 3 90 181 91 92 93 94 290 31 291),
 (96,fO "check_size" (tp 12) zm2 95),
 (102,cO "bits_behind" 293 "bits_behind" 294 295 34 1 3 97 181 98 99 100 101 297 34 298),
 (103,fO "bits_behind" (tp 13) zm2 102),
 (109,cO "first_rooms" 300 "first_rooms" 301 302 36 1 3 104 181 105 106 107 108 304 36 305),
 (110,fO "first_rooms" (tp 14) zm2 109),
 (116,cO "steps_of" 307 "steps_of" 308 309 38 2 3 111 181 112 113 114 115 312 38 313),
 (117,fO "steps_of" (tp 15) zm2 116),
 (123,cO "places_of" 315 "places_of" 316 317 41 2 3 118 181 119 120 121 122 323 41 324),
 (124,fO "places_of" (tp 16) zm2 123),
 (133,⟨.type "dict",none,.dict #[eS P "__module__" 335 zm3,eS P "__firstlineno__" 339 (.int 48 338),eR P "__static_attributes__" 340 132,eR P "__dict__" 342 135,eR P "__weakref__" 344 136,eS P "__doc__" 345 (.none)] 4,#[]⟩),
 (134,⟨.type "type",none,.cls ⟨"Sign",[.type "object"],[.ref 134,.type "object"],133,"Sign",true,[],[.ref 169,.ref 195,.ref 228],false,none,false⟩,#[none,none,some (.str "Sign" 328),some (.str "Sign" 336),some (.builtin "object.__new__"),some (.bool true)]⟩),
 (151,cO "__init__" 360 "Clear.__init__" 361 362 52 2 3 146 181 147 148 149 150 365 52 366),
 (152,⟨.type "function",none,.func (W.fnOf "__init__" "Clear.__init__" (dA (ic (tp 19) 0)) (dB (ic (tp 19) 0)) (dS (ic (tp 19) 0)) (.none) (.none) (.none) zm3 none (.ref 151) (.none)),#[]⟩),
 (158,cO "told" 368 "Clear.told" 369 370 55 1 3 153 181 154 155 156 157 372 55 373),
 (159,⟨.type "function",none,.func (W.fnOf "told" "Clear.told" (dA (ic (tp 19) 1)) (dB (ic (tp 19) 1)) (dS (ic (tp 19) 1)) (.none) (.none) (.none) zm3 none (.ref 158) (.none)),#[]⟩),
 (165,cO "cost" 375 "Clear.cost" 376 377 58 2 3 160 181 161 162 163 164 380 58 381),
 (166,⟨.type "function",none,.func (W.fnOf "cost" "Clear.cost" (dA (ic (tp 19) 2)) (dB (ic (tp 19) 2)) (dS (ic (tp 19) 2)) (.none) (.none) (.none) zm3 none (.ref 165) (.none)),#[]⟩),
 (168,⟨.type "dict",none,.dict #[eS P "__module__" 355 zm3,eS P "__firstlineno__" 359 (.int 50 358),eR P "__init__" 367 152,eR P "told" 374 159,eR P "cost" 382 166,eR P "__static_attributes__" 384 167,eS P "__doc__" 385 (.none)] 2,#[]⟩),
 (169,⟨.type "type",none,.cls ⟨"Clear",[.ref 134],[.ref 169,.ref 134,.type "object"],168,"Clear",true,[],[],false,none,false⟩,#[some (.ref 139),none,some (.str "Clear" 348),some (.str "Clear" 356),some (.builtin "object.__new__"),some (.bool true)]⟩),
 (184,cO "told" 400 "Gap.told" 401 402 62 1 3 179 181 180 181 182 183 404 62 405),
 (185,⟨.type "function",none,.func (W.fnOf "told" "Gap.told" (dA (ic (tp 20) 0)) (dB (ic (tp 20) 0)) (dS (ic (tp 20) 0)) (.none) (.none) (.none) zm3 none (.ref 184) (.none)),#[]⟩),
 (191,cO "cost" 407 "Gap.cost" 408 409 65 2 3 186 181 187 188 189 190 412 65 413),
 (192,⟨.type "function",none,.func (W.fnOf "cost" "Gap.cost" (dA (ic (tp 20) 1)) (dB (ic (tp 20) 1)) (dS (ic (tp 20) 1)) (.none) (.none) (.none) zm3 none (.ref 191) (.none)),#[]⟩),
 (194,⟨.type "dict",none,.dict #[eS P "__module__" 395 zm3,eS P "__firstlineno__" 399 (.int 60 398),eR P "told" 406 185,eR P "cost" 414 192,eR P "__static_attributes__" 415 193,eS P "__doc__" 416 (.none)] 2,#[]⟩),
 (195,⟨.type "type",none,.cls ⟨"Gap",[.ref 134],[.ref 195,.ref 134,.type "object"],194,"Gap",true,[],[],false,none,false⟩,#[some (.ref 172),none,some (.str "Gap" 388),some (.str "Gap" 396),some (.builtin "object.__new__"),some (.bool true)]⟩),
 (210,cO "__init__" 431 "Soft.__init__" 432 433 69 3 3 205 181 206 207 208 209 437 69 438),
 (211,⟨.type "function",none,.func (W.fnOf "__init__" "Soft.__init__" (dA (ic (tp 21) 0)) (dB (ic (tp 21) 0)) (dS (ic (tp 21) 0)) (.none) (.none) (.none) zm3 none (.ref 210) (.none)),#[]⟩),
 (217,cO "told" 440 "Soft.told" 441 442 73 1 3 212 181 213 214 215 216 444 73 445),
 (218,⟨.type "function",none,.func (W.fnOf "told" "Soft.told" (dA (ic (tp 21) 1)) (dB (ic (tp 21) 1)) (dS (ic (tp 21) 1)) (.none) (.none) (.none) zm3 none (.ref 217) (.none)),#[]⟩),
 (224,cO "cost" 447 "Soft.cost" 448 449 76 2 3 219 181 220 221 222 223 452 76 453),
 (225,⟨.type "function",none,.func (W.fnOf "cost" "Soft.cost" (dA (ic (tp 21) 2)) (dB (ic (tp 21) 2)) (dS (ic (tp 21) 2)) (.none) (.none) (.none) zm3 none (.ref 224) (.none)),#[]⟩),
 (227,⟨.type "dict",none,.dict #[eS P "__module__" 426 zm3,eS P "__firstlineno__" 430 (.int 67 429),eR P "__init__" 439 211,eR P "told" 446 218,eR P "cost" 454 225,eR P "__static_attributes__" 457 226,eS P "__doc__" 458 (.none)] 2,#[]⟩),
 (228,⟨.type "type",none,.cls ⟨"Soft",[.ref 134],[.ref 228,.ref 134,.type "object"],227,"Soft",true,[],[],false,none,false⟩,#[some (.ref 198),none,some (.str "Soft" 419),some (.str "Soft" 427),some (.builtin "object.__new__"),some (.bool true)]⟩),
 (236,cO "sign_of" 461 "sign_of" 462 463 78 1 3 231 181 232 233 234 235 465 78 466),
 (237,fO "sign_of" (tp 22) zm3 236),
 (243,cO "check_heard" 470 "check_heard" 471 472 85 3 3 238 181 239 240 241 242 477 85 478),
 (244,fO "check_heard" (tp 24) zm4 243),
 (248,cN "signs_cost" 480 "signs_cost" 481 482 89 2 3 245 181 246 247 483 89 484),
 (249,fO "signs_cost" (tp 25) zm4 248),
 (253,cN "signs_by_step" 486 "signs_by_step" 487 488 91 3 3 250 181 251 252 489 91 490),
 (254,fO "signs_by_step" (tp 26) zm4 253),
 (260,cO "move" 492 "move" 493 494 96 5 3 255 181 256 257 258 259 501 96 502),
 (261,fO "move" (tp 27) zm4 260),
 (265,cN "moves_from" 504 "moves_from" 505 506 99 5 3 262 181 263 264 507 99 508),
 (266,fO "moves_from" (tp 28) zm4 265),
 (270,cN "moves" 510 "moves" 511 512 101 3 3 267 181 268 269 513 101 514),
 (271,fO "moves" (tp 29) zm4 270),
 (275,cN "end_costs" 516 "end_costs" 517 518 108 2 3 272 181 273 274 519 108 520),
 (276,fO "end_costs" (tp 30) zm4 275),
 (282,cO "cost_by" 522 "cost_by" 523 524 113 2 3 277 181 278 279 280 281 528 113 529),
 (283,fO "cost_by" (tp 31) zm4 282),
 (287,cN "least_by" 531 "least_by" 532 533 116 2 3 284 181 285 286 534 116 535),
 (288,fO "least_by" (tp 32) zm4 287),
 (292,cN "ahead_by" 537 "ahead_by" 538 539 119 2 3 289 181 290 291 540 119 541),
 (293,fO "ahead_by" (tp 33) zm4 292),
 (299,cO "ahead_by_start" 543 "ahead_by_start" 544 545 125 2 3 294 181 295 296 297 298 550 125 551),
 (300,fO "ahead_by_start" (tp 34) zm4 299),
 (306,cO "cost_of_track" 555 "cost_of_track" 556 557 131 3 3 301 181 302 303 304 305 562 131 563),
 (307,fO "cost_of_track" (tp 36) zm5 306),
 (311,cN "beginning" 565 "beginning" 566 567 134 3 3 308 181 309 310 568 134 569),
 (312,fO "beginning" (tp 37) zm5 311),
 (318,cO "track_on" 571 "track_on" 572 573 138 3 3 313 181 314 315 316 317 578 138 579),
 (319,fO "track_on" (tp 38) zm5 318),
 (323,cN "beginning_on" 581 "beginning_on" 582 583 141 4 3 320 181 321 322 584 141 585),
 (324,fO "beginning_on" (tp 39) zm5 323),
 (330,cO "first_ones" 587 "first_ones" 588 589 144 2 3 325 181 326 327 328 329 592 144 593),
 (331,fO "first_ones" (tp 40) zm5 330),
 (332,⟨.type "tuple",none,.seq #[.int 2 595] 0,#[]⟩),
 (336,cN "few" 596 "few" 597 598 146 4 3 333 181 334 335 599 146 600),
 (337,⟨.type "function",none,.func (W.fnOf "few" "few" (dA (tp 41)) (dB (tp 41)) (dS (tp 41)) (.ref 332) (.none) (.none) zm5 none (.ref 336) (.none)),#[]⟩),
 (343,cO "_law_cell_at" 604 "_law_cell_at" 605 606 158 2 3 338 181 339 340 341 342 609 158 610),
 (344,fO "_law_cell_at" (tp 43) zm0 343),
 (350,cO "_law_state" 612 "_law_state" 613 614 162 2 3 345 181 346 347 348 349 617 162 618),
 (351,fO "_law_state" (tp 44) zm0 350),
 (357,cO "_law_next" 620 "_law_next" 621 622 164 2 3 352 181 353 354 355 356 625 164 626),
 (358,fO "_law_next" (tp 45) zm0 357),
 (362,cN "_law_scheme" 628 "_law_scheme" 629 630 167 3 3 359 181 360 361 631 167 632),
 (363,fO "_law_scheme" (tp 46) zm0 362),
 (369,cO "_law_odd" 634 "_law_odd" 635 636 174 1 3 364 181 365 366 367 368 639 174 640),
 (370,fO "_law_odd" (tp 47) zm0 369),
 (374,cN "_law_step" 642 "_law_step" 643 644 180 4 3 371 181 372 373 645 180 646),
 (375,fO "_law_step" (tp 48) zm0 374),
 (381,cO "_law_start" 648 "_law_start" 649 650 185 2 3 376 181 377 378 379 380 655 185 656),
 (382,fO "_law_start" (tp 49) zm0 381),
 (388,cO "_law_sent" 658 "_law_sent" 659 660 191 2 3 383 181 384 385 386 387 668 191 669),
 (389,fO "_law_sent" (tp 50) zm0 388),
 (395,cO "_law_sign" 671 "_law_sign" 672 673 201 3 3 390 181 391 392 393 394 679 201 680),
 (396,fO "_law_sign" (tp 51) zm0 395),
 (402,cO "_law_heard" 682 "_law_heard" 683 684 213 3 3 397 181 398 399 400 401 691 213 692),
 (403,fO "_law_heard" (tp 52) zm0 402),
 (409,cO "_law_price" 694 "_law_price" 695 696 218 2 3 404 181 405 406 407 408 699 218 700),
 (410,fO "_law_price" (tp 53) zm0 409),
 (414,cN "_law_total" 702 "_law_total" 703 704 224 3 3 411 181 412 413 705 224 706),
 (415,fO "_law_total" (tp 54) zm0 414),
 (421,cO "_law_whole" 708 "_law_whole" 709 710 226 1 3 416 181 417 418 419 420 712 226 713),
 (422,fO "_law_whole" (tp 55) zm0 421),
 (426,cN "_law_is_word" 715 "_law_is_word" 716 717 228 2 3 423 181 424 425 718 228 719),
 (427,fO "_law_is_word" (tp 56) zm0 426),
 (431,cN "_law_words" 721 "_law_words" 722 723 232 1 3 428 181 429 430 724 232 725),
 (432,fO "_law_words" (tp 57) zm0 431),
 (438,cO "_law_rows" 727 "_law_rows" 728 729 237 4 3 433 181 434 435 436 437 735 237 736),
 (439,fO "_law_rows" (tp 58) zm0 438),
 (443,cN "law" 738 "law" 739 740 246 1 3 440 181 441 442 741 246 742),
 (444,fO "law" (tp 59) zm0 443)]
def KHP(P:Params):W.Frag:=KH P++[(326,⟨.none,none,.fields #[],#[]⟩)]
noncomputable def KA:List Addr:=[3,4,23,24,36,37,48,49,57,58,64,65,71,72,76,77,81,82,88,89,95,96,102,103,109,110,116,117,123,124,133,134,151,152,158,159,165,166,168,169,184,185,191,192,194,195,210,211,217,218,224,225,227,228,236,237,243,244,248,249,253,254,260,261,265,266,270,271,275,276,282,283,287,288,292,293,299,300,306,307,311,312,318,319,323,324,330,331,332,336,337,343,344,350,351,357,358,362,363,369,370,374,375,381,382,388,389,395,396,402,403,409,410,414,415,421,422,426,427,431,432,438,439,443,444,326]
theorem ka_eq:∀P,KA=(KHP P).map (·.1):=λ_=>rfl
theorem run(w:World)(os:OsState):(qF treeTable zp w 11 (some (.ref 6)) 6316 (wo w.params os) (topStub zp)).map (λs=>(staticsOk (importedModules zp.main.body) (boot_heap w.params) s.abs.heap&&namesBound zp s.abs.heap&&gensDone s.abs&&laidKept (boot_heap w.params) s.abs.heap,
 openSeen V ["few"] (importedModules zp.main.body) (λs=>xlAt V [] s&&recOk (RowW.records (OpenRow.toRowW zr.row)) s) true s.abs,Hook.obs (kHook KHP KA ka_eq) s.abs))=some (true,openGood V ["few"],Hook.val (kHook KHP KA ka_eq) w):=by kernel_rfl
theorem left:LeftO zp V ["few"] (λs=>xlAt V [] s&&recOk (RowW.records (OpenRow.toRowW zr.row)) s) (Hook.obs (kHook KHP KA ka_eq)) (Hook.val (kHook KHP KA ka_eq)) 6316:=qi4 (by kernel_rfl) (by kernel_rfl) (λs=>by kernel_rfl) (λP=>by kernel_rfl) run
theorem qon:(OpenRow.toRowW zr.row).prog=zp:=by kernel_rfl
theorem leftR:LeftO (OpenRow.toRowW zr.row).prog V ["few"] (λs=>xlAt V [] s&&recOk (RowW.records (OpenRow.toRowW zr.row)) s) (Hook.obs (kHook KHP KA ka_eq)) (Hook.val (kHook KHP KA ka_eq)) 6316:=by rw[qon];exact left
end H21
abbrev j9:=@PySem.wpAny_bind
abbrev ja:=@List.length_map
abbrev jb:=@PySem.wpAny_pure
abbrev jc:=@PyProof.Rows.wpS_bind
abbrev jd:=@PySem.Heap.lt_size
abbrev je:=@PySem.Heap.get?_push_of_some
abbrev jf:=@PyProof.Rows.wpS_pure
abbrev jg:=@Nat.le_refl
abbrev jh:=@List.getElem?_eq_getElem
abbrev ji:=@List.mem_cons_of_mem
abbrev jj:=@List.mem_cons_self
abbrev jl:=@List.getD_eq_getElem?_getD
abbrev jm:=@Option.some.inj
abbrev jo:=@List.getElem?_map
abbrev jq:=@Nat.ne_of_lt
abbrev jr:=@List.map_map
abbrev jt:=@List.length_append
abbrev ju:=@PySem.Heap.get?_push_size
abbrev jv:=@List.getElem?_set_ne
abbrev jw:=@Nat.lt_of_lt_of_le
abbrev jx:=@List.size_toArray
abbrev jy:=@List.length_cons
abbrev jz:=@Nat.le_trans
abbrev x5:=@List.map_cons
abbrev x6:=@List.length_replicate
abbrev x8:=@Nat.zero_add
abbrev x9:=@List.mem_append_right
abbrev xf:=@PyProof.Rows.wpS_mono
abbrev xg:=@PySem.wpAny_mono
abbrev xh:=@Int.toNat_natCast
abbrev xj:=@List.getElem?_eq_none
abbrev xk:=@List.map_append
abbrev xl:=@List.getElem?_set_self
abbrev xm:=@PySem.wpAny_holding
abbrev xn:=@List.length_set
abbrev xo:=@Nat.lt_irrefl
abbrev xq:=@List.length_take
abbrev xr:=@PyProof.Rows.wpS_forRange
abbrev xu:=@PySem.PassesOwn.never
abbrev xw:=@PySem.wpAny_field
abbrev xx:=@List.length_drop
abbrev xy:=@PySem.Heap.size_push
abbrev k6:=@PySem.wpAny_Call_Name_kw
abbrev k7:=@PySem.wpAny_seqItems
abbrev k8:=@PySem.wpAny_rule
abbrev k9:=@List.getElem?_range
abbrev ka:=@List.getElem_mem
abbrev kb:=@List.getElem?_append_right
abbrev kc:=@List.mem_of_getElem?
abbrev ke:=@PySem.Heap.get?_update_other
abbrev kf:=@PySem.sizeLine_eq
abbrev kg:=@PySem.wpAny_call_entry
abbrev kh:=@PySem.wpAny_newObj_type
abbrev ki:=@PyProof.Rows.wpS_modify
abbrev kj:=@PyProof.Rows.listUpdate_at
abbrev km:=@PySem.Heap.SameBut.update
abbrev kr:=@PySem.wpAny_letGo
abbrev ku:=@PySem.wpAny_truthy_bool
abbrev va:=@List.getElem?_replicate
abbrev vc:=@List.getElem?_append_left
abbrev vd:=@PySem.wpAny_callSpecial?_slot
abbrev ve:=@PySem.wpAny_attempt
abbrev vf:=@List.drop_eq_getElem_cons
abbrev vg:=@List.length_zip
abbrev vh:=@PySem.wpAny_passesOwn
abbrev vk:=@PySem.Heap.get?_update_self
abbrev vm:=@PySem.plainId_quiet
abbrev vo:=@PySem.F.plain_min_loop
abbrev vp:=@Nat.min_le_left
abbrev vq:=@PySem.wpAny_setField_rec
abbrev vt:=@PyProof.Rows.get?_update_seq
abbrev vv:=@PySem.Heap.size_update
abbrev vw:=@PySem.Heap.get?_none_of_le
abbrev vx:=@PySem.Calls.spliced_cons
abbrev vz:=@PySem.Around.under_plainId
abbrev sE:=@PySem.F.slot_tuple_iterator_next
abbrev sC:=@PySem.F.slot_dict_keyiterator_next
abbrev sB:=@PySem.wpAny_typeNameOfWhole_keyiter
abbrev Z0:=PySem.Value->PySem.Shared->Prop
abbrev Z3:=List (PySem.Addr×PySem.Obj)
abbrev Z9:=List (List Int)
abbrev Za:=PySem.Str->Option PySem.Value
abbrev Zb:=PySem.Result->PySem.Shared->Prop
abbrev Zc:=Option PySem.Addr
abbrev Zd:=Array PySem.Value
abbrev Ze:=List PySem.Value
abbrev Zf:=List Int
abbrev Zg:=List Nat
abbrev Zh:=List PySem.Stmt
abbrev Zi:=List PySem.Expr
abbrev Zj:=List PySem.Str
namespace L2
open PySem PySem.Spec PyProof.Rows
abbrev bn:=Sum Int Str
noncomputable def tz:bn->Value->Bool
 |.inl k,v=>Value.isInt k v
 |.inr x,v=>Value.isStrOf x v
noncomputable def Bw(w:World):bn->Int
 |.inl k=>hashInt k
 |.inr x=>hashStr w x
def jZ:∀{k:bn} {v:Value},tz k v=true->(∃i t,k=Sum.inl i/\v=Value.int i t)∨(∃x t,k=Sum.inr x/\v=Value.str x t)
 | .inl i,v,h=>by let⟨t,e⟩:=Value.isInt_shape h;exact .inl ⟨i,t,rfl,e⟩
 | .inr x,v,h=>by let⟨t,e⟩:=Value.isStrOf_shape h;exact .inr ⟨x,t,rfl,e⟩
def qi9(i:Int)(t:Tok):tz (.inl i) (.int i t)=true:=by simp[tz,Value.isInt]
def qvt(a b:Int):decide ((Sum.inl a:bn)=Sum.inl b)=(a==b):=by
 by_cases e:a=b
 .subst e;simp
 .have h:¬(Sum.inl a:bn)=Sum.inl b:=λq=>e (Sum.inl.inj q);rw[decide_eq_false h];exact(beq_eq_false_iff_ne.mpr e).symm
def qvq(a b:Str):decide ((Sum.inr a:bn)=Sum.inr b)=decide (a=b):=by
 by_cases e:a=b
 .subst e;simp
 .have h:¬(Sum.inr a:bn)=Sum.inr b:=λq=>e (Sum.inr.inj q);rw[decide_eq_false h,decide_eq_false e]
def qvs(a:Int)(b:Str):decide ((Sum.inl a:bn)=Sum.inr b)=false:=decide_eq_false (λq=>nomatch q)
def qvr(a:Str)(b:Int):decide ((Sum.inr a:bn)=Sum.inl b)=false:=decide_eq_false (λq=>nomatch q)
def qz(prog:Program)(w:World):PySem.KeyKind prog w bn where
 is:=tz
 hash:=Bw w
 inj:=λv a b ha hb=>by
  rcases jZ ha with⟨i,t,rfl,rfl⟩|⟨x,t,rfl,rfl⟩
  .rcases jZ hb with⟨j,u,rfl,e⟩|⟨y,u,rfl,e⟩
   .injection e with e1 _;rw[e1]
   .exact nomatch e
  .rcases jZ hb with⟨j,u,rfl,e⟩|⟨y,u,rfl,e⟩
   .exact nomatch e
   .injection e with e1 _;rw[e1]
 byValue:=λk v h=>by rcases jZ h with⟨i,t,rfl,rfl⟩|⟨x,t,rfl,rfl⟩<;>rfl
 pyHash:=λhv h=>by
  rcases jZ hv with⟨i,t,rfl,rfl⟩|⟨x,t,rfl,rfl⟩
  .exact wpAny_pyHash_int h
  .exact wpAny_pyHash_str h
 eqBool:=λhu hv h=>by
  rcases jZ hu with⟨i,t,rfl,rfl⟩|⟨x,t,rfl,rfl⟩
  .rcases jZ hv with⟨j,u,rfl,rfl⟩|⟨y,u,rfl,rfl⟩
   .rw[qvt]at h;exact wpAny_eqBool_int h
   .rw[qvs]at h;exact SeqAt.EqAt.int_str i t y u _ _ _ _ h
  .rcases jZ hv with⟨j,u,rfl,rfl⟩|⟨y,u,rfl,rfl⟩
   .rw[qvr]at h;exact SeqAt.EqAt.str_int x t j u _ _ _ _ h
   .rw[qvq]at h;exact wpAny_eqBool_str h
 «strs»:=λk x t v h=>by
  rcases jZ h with⟨i,u,rfl,e⟩|⟨y,u,rfl,e⟩
  .exact nomatch e
  .injection e with e1 _;subst e1;cases v<;>rfl
def HU{prog:Program}{w:World}(i:Int)(t:Tok):(qz prog w).is (.inl i) (.int i t)=true:=qi9 i t
inductive V where
 |non|bl (b:Bool)|int (i:Int)|str (x:Str)|byt (b:Array UInt8)|flt (b:UInt64)|ref (a:Addr)|ty (n:String)
 deriving DecidableEq
def RelV:V->Value->Prop
 |.non,u=>u=Value.none
 |.bl b,u=>u=Value.bool b
 |.int i,u=>∃t,u=Value.int i t
 |.str x,u=>∃t,u=Value.str x t
 |.byt b,u=>∃t,u=Value.bytes b t
 |.flt b,u=>∃t,u=Value.float b t
 |.ref a,u=>u=Value.ref a
 |.ty n,u=>u=Value.type n
abbrev Vals:List V->List Value->Prop:=Paired RelV
def Vals.length{xs:List V}{us:Ze}(r:Vals xs us):xs.length=us.length:=Paired.length r
theorem Vals.get:∀{xs:List V} {us:Ze} {i:Nat} {x:V},Vals xs us->xs[i]? =some x->∃u,us[i]? =some u/\RelV x u
 |_,_,_,_,.nil,e=>by simp at e
 |_,_,0,_,.cons r _,e=>by simp at e;subst e;exact⟨_,rfl,r⟩
 | _,_,i+1,x,.cons _ t,e=>by obtain⟨u,h1,h2⟩:=Vals.get t (by simpa using e);exact⟨u,by simpa using h1,h2⟩
theorem Vals.set{x:V}{u:Value}(r:RelV x u):∀{xs:List V} {us:Ze} (i:Nat),Vals xs us->Vals (xs.set i x) (us.set i u)
 |_,_,_,.nil=>.nil
 |_,_,0,.cons _ t=>.cons r t
 |_,_,i+1,.cons q t=>.cons q (Vals.set r i t)
theorem Vals.append:∀{xs ys:List V} {us ws:Ze},Vals xs us->Vals ys ws->Vals (xs++ys) (us++ws)
 |_,_,_,_,.nil,s=>s
 |_,_,_,_,.cons r t,s=>.cons r (Vals.append t s)
theorem Vals.take:∀{xs:List V} {us:Ze} (n:Nat),Vals xs us->Vals (xs.take n) (us.take n)
 |_,_,0,_=>.nil
 |_,_,_+1,.nil=>.nil
 |_,_,n+1,.cons r t=>.cons r (Vals.take n t)
theorem Vals.drop:∀{xs:List V} {us:Ze} (n:Nat),Vals xs us->Vals (xs.drop n) (us.drop n)
 |_,_,0,r=>r
 |_,_,_+1,.nil=>.nil
 |_,_,n+1,.cons _ t=>Vals.drop n t
def RelO:Option V->Option Value->Prop
 |some v,some u=>RelV v u
 |none,none=>True
 |_,_=>False
def KV{κ:Type}:List (κ×V)->List (κ×Value)->Prop:=Paired λ(p:κ×V) (q:κ×Value)=>p.1=q.1/\RelV p.2 q.2
noncomputable def kV:bn->V
 |.inl i=>.int i
 |.inr x=>.str x
inductive HO where
 |lst (xs:List V)
 |tup (xs:List V)
 |dK (kvs:List (bn×V))|dT (kvs:List (List bn×V))
 |set (S:Int->Bool) (n:Nat)
 |ins (C dx:Addr) (fs:List (Str×V))
 |own (x:Addr)
 |xd (fs:List (Str×V))
 |met (f x:Addr)
 |rng (lo hi:Int)
 |frz (o:Obj) (u:HO)
 |tbl (ps:Zd)
 |lam (pos:Pos) (q:Str)
 |ext (φ:Heap->Prop)
abbrev Hp:=Addr->Option HO
noncomputable def aM(H:Hp)(a:Addr)(o:HO):Hp:=λb=>if b=a then some o else H b
def cA{H:Hp}{a:Addr}{o:HO}:aM H a o a=some o:=by unfold aM;rw[if_pos rfl]
def aX{H:Hp}{a b:Addr}{o:HO}(h:b≠a):aM H a o b=H b:=by unfold aM;rw[if_neg h]
def Gf{H:Hp}{a:Addr}{o u:HO}:aM (aM H a o) a u=aM H a u:=by funext b;unfold aM;split<;>rfl
def gr{H:Hp}{a b:Addr}{o:HO}(h:H a=some o)(h':H b=none):a≠b:=by intro e;subst e;rw[h]at h';cases h'
def TupN(h:Heap)(a:Addr)(items:Zd):Prop:=∃o,h.get? a=some o/\(o.cls=.type "tuple"/\∃n,o.data=.seq items n)/\o.dict=none
def TupN.tup{h:Heap}{a:Addr}{items:Zd}(x:TupN h a items):IsTup h a items:=let ⟨o,e,c,_⟩:=x;⟨o,e,c⟩
def TupN.lt{h:Heap}{a:Addr}{items:Zd}(x:TupN h a items):a<h.objs.size:=let ⟨_,e,_⟩:=x;jd e
def TupN.new(h:Heap)(items:Zd):TupN (h.push {cls:=.type "tuple",data:=.seq items}) h.objs.size items:=⟨_,ju _ rfl,⟨rfl,_,rfl⟩,rfl⟩
def DictN{P:Program}{w:World}{κ:Type}[DecidableEq κ](knd:KeyKind P w κ)(h:Heap)(a:Addr)(kvs:List (κ×Value))(n:Nat):Prop:=∃o es,h.get? a=some o/\o.ExactDict/\o.data=.dict es n/\KeysOf knd es/\Pairs knd es.toList kvs/\(kvs.map (·.1)).Nodup
def DictN.of{P:Program}{w:World}{κ:Type}[DecidableEq κ]{knd:KeyKind P w κ}{h:Heap}{a:Addr}{kvs:List (κ×Value)}{n:Nat}(x:DictN knd h a kvs n):h.DictOf knd a kvs:=let ⟨o,es,r⟩:=x;⟨o,es,n,r⟩
section
variable(P:Program)(w:World)
def ObjOk(H:Hp)(h:Heap)(a:Addr):HO->Prop
 |.lst xs=>xs.length<=sizeLine/\∃(its:Ze) (n:Nat),Vals xs its/\h.get? a=some {cls:=.type "list",data:=.seq its.toArray n}
 |.tup xs=>xs.length<=sizeLine/\∃its:List Value,Vals xs its/\TupN h a its.toArray
 |.dK kvs=>kvs.length<=sizeLine/\(a==sysModules)=false/\∃vs,KV kvs vs/\DictN (qz P w) h a vs kvs.length
 |.dT kvs=>kvs.length<=sizeLine/\(a==sysModules)=false/\∃xs:List (List bn×Addr×Value),
  Paired (λ(p:List bn×V) (q:List bn×Addr×Value)=>p.1=q.1/\H q.2.1=some (.tup (p.1.map kV))/\RelV p.2 q.2.2) kvs xs/\
  ∃o es ep,h.get? a=some o/\o.ExactDict/\o.data=.dict es ep/\es.toList=xs.map (entryOfKey (tupleKind (qz P w)))/\(xs.map (·.1)).Nodup/\ep=kvs.length
 |.set S n=>h.SetOf (intKind P w) a S n
 |.ins C dx fs=>H dx=some (.own a)/\fs.length<=1000/\dx≠a/\h.get? a=some (W.instObj C dx)/\
  ∃mA,h.Ns1 dx mA/\(∀f,RelO (fs.lookup f) (mA f))/\PySem.Within mA (fs.map (·.1))
 |.own _=>∃o,h.get? a=some o
 |.xd fs=>∃mA,h.Ns1 a mA/\∀f,RelO (fs.lookup f) (mA f)
 |.rng lo hi=>∃t u v,h.get? a=some {cls:=.type "range",data:=.fields #[.int lo t,.int hi u,.int 1 v]}
 |.frz o u=>h.get? a=some o/\ObjOk H h a u
 |.tbl ps=>h.get? a=some {cls:=.none,data:=.fields ps}
 |.lam pos q=>∃ps:Array Value,h.get? a=some {cls:=.none,data:=.fields ps}/\TriplesOk ps.toList/\(codeAmong pos ps.toList=none∨∃c',codeAmong pos ps.toList=some (.ref c')/\H c'=some (.own a)/\h.CodeRec (.ref c') q)
 |.met f x=>h.get? a=some (W.methodObj (.ref f) (.ref x))
 |.ext φ=>φ h/\(∃o,h.get? a=some o)/\∀h1 h2:Heap,φ h1->(∀o,h1.get? a=some o->h2.get? a=some o)->φ h2
def HOk(H:Hp)(h:Heap):Prop:=∀a o,H a=some o->ObjOk P w H h a o
end
section
variable{P:Program}{w:World}{H H':Hp}{h h':Heap}{a:Addr}{o:HO}
def ObjOk.lt(x:ObjOk P w H h a o):a<h.objs.size:=by
 cases o with
 |lst xs=>obtain⟨_,_,_,_,e⟩:=x;exact jd e
 |tup xs=>obtain⟨_,_,_,p⟩:=x;exact p.lt
 |dK kvs=>obtain⟨_,_,_,_,o,_,e,_⟩:=x;exact jd e
 |dT kvs=>obtain⟨_,_,_,_,o,_,_,e,_⟩:=x;exact jd e
 |set S n=>obtain⟨o,_,_,_,e,_⟩:=x;exact jd e
 |ins C dx fs=>obtain⟨_,_,_,e,_⟩:=x;exact jd e
 |own y=>obtain⟨_,e⟩:=x;exact jd e
 |xd fs=>obtain⟨_,⟨_,_,_,e,_⟩,_⟩:=x;exact jd e
 |rng lo hi=>obtain⟨_,_,_,e⟩:=x;exact jd e
 |frz ob u=>obtain⟨e,_⟩:=x;exact jd e
 |tbl ps=>exact jd (x)
 |lam pos q=>obtain⟨_,e,_⟩:=x;exact jd e
 |met f y=>exact jd (x)
 |ext φ=>obtain⟨_,⟨_,e⟩,_⟩:=x;exact jd e
theorem Paired.mapP{α β:Type}{F G:α->β->Prop}:∀{l₁:List α} {l₂:List β},Paired F l₁ l₂->(∀a b,F a b->G a b)->Paired G l₁ l₂
 |_,_,.nil,_=>.nil
 |_,_,.cons r t,f=>.cons (f _ _ r) (Paired.mapP t f)
def ObjOk.stay(x:ObjOk P w H h a o)(k:∀b u,(b=a∨H b=some (.own a))->h.get? b=some u->h'.get? b=some u)
 (ho:∀b,H b=some (.own a)->H' b=some (.own a)) (ht:∀b xs,H b=some (.tup xs)->H' b=some (.tup xs)):ObjOk P w H' h' a o:=by
 induction o with
 |lst xs=>obtain⟨z,its,n,r,e⟩:=x;exact⟨z,its,n,r,k _ _ (.inl rfl) e⟩
 |tup xs=>obtain⟨z,its,r,ob,e,c⟩:=x;exact⟨z,its,r,ob,k _ _ (.inl rfl) e,c⟩
 |dK kvs=>obtain⟨z,y,vs,r,ob,es,e,c⟩:=x;exact⟨z,y,vs,r,ob,es,k _ _ (.inl rfl) e,c⟩
 | dT kvs=>
  obtain⟨z,y,xs,r,ob,es,ep,e,c⟩:=x;exact⟨z,y,xs,Paired.mapP r λp q z=>⟨z.1,ht _ _ z.2.1,z.2.2⟩,ob,es,ep,k _ _ (.inl rfl) e,c⟩
 |set S n=>obtain⟨ob,es,ep,t,e,c⟩:=x;exact⟨ob,es,ep,t,k _ _ (.inl rfl) e,c⟩
 | ins C dx fs=>
  obtain⟨d,z,ne,e,mA,⟨od,es,ep,e2,c⟩,r⟩:=x;exact⟨ho _ d,z,ne,k _ _ (.inl rfl) e,mA,⟨od,es,ep,k _ _ (.inr d) e2,c⟩,r⟩
 |own y=>obtain⟨ob,e⟩:=x;exact⟨ob,k _ _ (.inl rfl) e⟩
 |xd fs=>obtain⟨mA,⟨od,es,ep,e,c⟩,r⟩:=x;exact⟨mA,⟨od,es,ep,k _ _ (.inl rfl) e,c⟩,r⟩
 |rng lo hi=>obtain⟨t,u,v,e⟩:=x;exact⟨t,u,v,k _ _ (.inl rfl) e⟩
 |frz ob u ih=>obtain⟨e,q⟩:=x;exact⟨k _ _ (.inl rfl) e,ih q⟩
 | tbl ps=>
  have e:h.get? a=some {cls:=.none,data:=.fields ps}:=x;exact k a _ (.inl rfl) e
 | lam pos q=>
  obtain⟨ps,e,t,r⟩:=x;refine⟨ps,k _ _ (.inl rfl) e,t,?_⟩;rcases r with r|⟨c',r1,r2,c,oc,vs,tq,hc,hoc,hd,hq⟩
  .exact .inl r
  .cases hc;exact .inr ⟨c',r1,ho _ r2,c',oc,vs,tq,rfl,k _ _ (.inr r2) hoc,hd,hq⟩
 | met f y=>
  have e:=x;exact k a _ (.inl rfl) e
 |ext φ=>obtain⟨p,⟨o,e⟩,st⟩:=x;exact⟨st _ _ p λo q=>k _ _ (.inl rfl) q,⟨o,k _ _ (.inl rfl) e⟩,st⟩
def HOk.lt(x:HOk P w H h)(e:H a=some o):a<h.objs.size:=(x a o e).lt
def HOk.fresh(x:HOk P w H h)(e:h.objs.size<=a):H a=none:=by
 cases q:H a with
 |none=>rfl
 |some u=>exact absurd (jw (x.lt q) e) (xo _)
def HOk.kept(x:HOk P w H h)(k:∀b u,h.get? b=some u->h'.get? b=some u):HOk P w H h':=λa o e=>
 (x a o e).stay (λb u _ q=>k b u q) (λ_ q=>q) λ_ _ q=>q
def HOk.laid(x:HOk P w H h)(k:∀b u,h.get? b=some u->h'.get? b=some u)(hp:h.objs.size<=a)(new:ObjOk P w (aM H a o) h' a o):HOk P w (aM H a o) h':=λb u e=>by
 have hn:=x.fresh hp;by_cases hb:b=a
 .subst hb;rw[cA]at e;cases e;exact new
 .rw[aX hb]at e;exact(x b u e).stay (λc v _ q=>k c v q) (λc q=>by rw[aX (gr q hn)];exact q) λc xs q=>by rw[aX (gr q hn)];exact q
end
def Rd(H:Hp)(a:Addr)(u:HO):Prop:=H a=some u∨∃o,H a=some (.frz o u)
def Rd.ok{P:Program}{w:World}{H:Hp}{h:Heap}{a:Addr}{u:HO}(r:Rd H a u)(x:HOk P w H h):ObjOk P w H h a u:=by
 rcases r with r|⟨o,r⟩
 .exact x a u r
 .let⟨_,q⟩:=x a _ r;exact q
def uY:Option HO->Prop
 |some (.lst _)=>True
 |some (.dK _)=>True
 |some (.dT _)=>True
 |some (.set _ _)=>True
 |some (.ins _ _ _)=>True
 |some (.ext _)=>True
 |some (.lam _ _)=>True
 |_=>False
section
variable{P:Program}{w:World}{H:Hp}{h h':Heap}{x e:Addr}{o':HO}
def HOk.write(ok:HOk P w H h)(mu:uY (H x))(he:e=x∨H e=some (.own x))(k:∀b u,b≠e->h.get? b=some u->h'.get? b=some u)(heo:∃u,h'.get? e=some u)
 (new:ObjOk P w (aM H x o') h' x o'):HOk P w (aM H x o') h':=λb u q=>by
 have nown:∀c y,H c=some (.own y)->c≠x:=λc y r z=>by subst z;rw[r]at mu;exact mu
 have ntup:∀c xs,H c=some (.tup xs)->c≠x:=λc xs r z=>by subst z;rw[r]at mu;exact mu
 by_cases hb:b=x
 .subst hb;rw[cA]at q;cases q;exact new
 .rw[aX hb]at q;by_cases hbe:b=e
  .have q':H b=some (.own x):=by
    rcases he with z|z
    .exact absurd (hbe.trans z) hb
    .rw[hbe];exact z
   rw[q]at q';cases q';obtain⟨v,hv⟩:=heo;exact⟨v,by rw[hbe];exact hv⟩
  .refine(ok b u q).stay (λc v hc r=>k c v ?_ r) (λc r=>by rw[aX (nown c b r)];exact r) λc xs r=>by rw[aX (ntup c xs r)];exact r
   rcases hc with rfl|hc
   .exact hbe
   .rintro rfl;rcases he with z|z
    .exact nown c b hc z
    .rw[hc]at z;cases z;exact hb rfl
end
structure Un(fs ex:List Addr)(H H':Hp)(h h':Heap):Prop where
 keep:∀b o,h.get? b=some o->H b=none->b∉fs->b∉ex->h'.get? b=some o
 slot:∀b o,h.get? b=some o->H b=none->b∈fs->b∉ex->∃sl,h'.get? b=some {o with slots:=sl}
 free:∀b o,h.get? b=some o->H b=none->b∉ex->H' b=none
 there:∀b o,h.get? b=some o->b∉ex->∃o',h'.get? b=some o'
 tups:∀b xs,H b=some (.tup xs)->H' b=some (.tup xs)
 frzs:∀b o u,H b=some (.frz o u)->H' b=some (.frz o u)
 tbls:∀b ps,H b=some (.tbl ps)->∃more,H' b=some (.tbl (ps++more))
section
variable{fs fs' ex ex':List Addr}{H H1 H2:Hp}{h h1 h2 h':Heap}{a x e:Addr}{o:HO}
def Un.any(u:Un fs ex H H1 h h1){b:Addr}{ob:Obj}(q:h.get? b=some ob)(n:H b=none)(hx:b∉ex):∃sl,h1.get? b=some {ob with slots:=sl}:=by
 by_cases hb:b∈fs
 .exact u.slot b ob q n hb hx
 .exact⟨ob.slots,u.keep b ob q n hb hx⟩
def Un.trans(a:Un fs ex H H1 h h1)(b:Un fs ex H1 H2 h1 h2):Un fs ex H H2 h h2 where
 keep:=λc ob q n hc hx=>b.keep c ob (a.keep c ob q n hc hx) (a.free c ob q n hx) hc hx
 slot:=λc ob q n hc hx=>by let⟨sl,e1⟩:=a.slot c ob q n hc hx;let⟨sl',e2⟩:=b.slot c _ e1 (a.free c ob q n hx) hc hx;exact⟨sl',e2⟩
 free:=λc ob q n hx=>by let⟨o',e1⟩:=a.there c ob q hx;exact b.free c o' e1 (a.free c ob q n hx) hx
 there:=λc ob q hx=>by let⟨o',e1⟩:=a.there c ob q hx;exact b.there c o' e1 hx
 tups:=λc xs q=>b.tups c xs (a.tups c xs q)
 frzs:=λc ob xs q=>b.frzs c ob xs (a.frzs c ob xs q)
 tbls:=λc ps q=>by let⟨m1,e1⟩:=a.tbls c ps q;let⟨m2,e2⟩:=b.tbls c _ e1;exact⟨m1++m2,by rw[e2,Array.append_assoc]⟩
def Un.kept(k:∀b u,h.get? b=some u->h'.get? b=some u):Un fs ex H H h h':=
 ⟨λb ob q _ _ _=>k b ob q,λb ob q _ _ _=>⟨ob.slots,k b ob q⟩,λ_ _ _ n _=>n,λb ob q _=>⟨ob,k b ob q⟩,λ_ _ q=>q,λ_ _ _ q=>q,λ_ ps q=>⟨#[],by rw[q];simp⟩⟩
def Un.refl:Un fs ex H H h h:=Un.kept λ_ _ q=>q
def Un.laid(k:∀b u,h.get? b=some u->h'.get? b=some u)(hp:h.objs.size<=a)(hn:H a=none):Un fs ex H (aM H a o) h h' where
 keep:=λb u q _ _ _=>k b u q
 slot:=λb u q _ _ _=>⟨u.slots,k b u q⟩
 free:=λb u q n _=>by rw[aX (jq (jw (jd q) hp))];exact n
 there:=λb u q _=>⟨u,k b u q⟩
 tups:=λb xs q=>by rw[aX (gr q hn)];exact q
 frzs:=λb u xs q=>by rw[aX (gr q hn)];exact q
 tbls:=λb ps q=>⟨#[],by rw[aX (gr q hn),q];simp⟩
def Un.write(mu:uY (H x))(he:e=x∨H e=some (.own x))(k:∀b u,b≠e->h.get? b=some u->h'.get? b=some u)(heo:∃u,h'.get? e=some u):Un fs ex H (aM H x o) h h':=by
 have hx:∀b,H b=none->b≠x:=λb n z=>by subst z;rw[n]at mu;exact mu
 have hb:∀b,H b=none->b≠e:=λb n z=>by
  subst z;rcases he with r|r
  .exact hx b n r
  .rw[n]at r;cases r
 have hm:∀b u,H b=some u->¬uY (some u)->b≠x:=λb u q nm z=>by subst z;rw[q]at mu;exact nm mu
 refine⟨λb u q n _ _=>k b u (hb b n) q,λb u q n _ _=>⟨u.slots,k b u (hb b n) q⟩,λb u q n _=>by rw[aX (hx b n)];exact n,λb u q _=>?_,
  λb xs q=>by rw[aX (hm b _ q λz=>z)];exact q,λb u xs q=>by rw[aX (hm b _ q λz=>z)];exact q,λb ps q=>⟨#[],by rw[aX (hm b _ q λz=>z),q];simp⟩⟩
 by_cases hbe:b=e
 .subst hbe;exact heo
 .exact⟨u,k b u hbe q⟩
def Un.mono(u:Un fs ex H H1 h h1)(hs:∀b∈fs,b∈fs')(hx:∀b∈ex,b∈ex'):Un fs' ex' H H1 h h1:=
 ⟨λb ob q n hb he=>u.keep b ob q n (λz=>hb (hs b z)) λz=>he (hx b z),λ_ _ q n _ he=>u.any q n λz=>he (hx _ z),λb ob q n he=>u.free b ob q n λz=>he (hx b z),λb ob q he=>u.there b ob q λz=>he (hx b z),u.tups,u.frzs,u.tbls⟩
end
noncomputable def sX(h:Heap)(H:Hp):List Addr:=(List.range h.objs.size).filter λa=>(H a).isSome
def fY(h:Heap)(H:Hp):Heap:=W.hideAll h (sX h H)
def qif{h:Heap}{H:Hp}:(fY h H).objs.size=h.objs.size:=W.hideAll_size _ _
def ql7{h:Heap}{H:Hp}{b:Addr}{o:Obj}(e:h.get? b=some o)(n:H b=none):(fY h H).get? b=some o:=
 W.hideAll_get _ e λhm=>by have q:=(List.mem_filter.mp hm).2;rw[n]at q;simp at q
def qp8{h:Heap}{H:Hp}{b:Addr}{o:Obj}(e:(fY h H).get? b=some o):h.get? b=some o/\H b=none:=by
 have e':=W.of_hideAll (sX h H) e;refine⟨e',?_⟩;cases q:H b with
 |none=>rfl
 | some x=>
  have hm:b∈sX h H:=List.mem_filter.mpr ⟨List.mem_range.mpr (jd e'),by simp[q]⟩;have z:(fY h H).get? b=none:=W.hideAll_none (sX h H) hm;rw[z]at e;cases e
noncomputable def qri(g h:Heap)(L:Addr):List (Addr×Obj):=(List.range h.objs.size).filterMap λa=>if a=L∨(g.get? a).isSome=true then none else(h.get? a).map λo=>(a,o)
def rest(g h:Heap)(L d:Addr):List (Addr×Obj):=(qri g h L).filter λp=>decide (p.1≠d)
structure Mod(K:am)(mg:Za)(base:Heap):Prop where
 kin:K.In base
 glob:base.Ns mainGlobals mg
 blt:∃mb,base.Ns builtinsNs mb/\∀x:Str,x≠"__name__"->mb x=bootBuiltins x
 nolimit:base.NoLimit
structure Cx where
 prog:Program
 w:World
 K:W.Frag
 mg:Str->Option Value
 base:Heap
 A:Around
 N:List Str
 s₀:Shared
 H₀:Hp
 env:Env
 outer:List Env
 stack:List Env
 ex:List Addr
 fn:Str->Bool
 calm:Bool
 pn:List (Addr×Obj)
 xe:Value->Shared->Prop
noncomputable def gW(l:List Env):List Addr:=l.filterMap (·.frame)
abbrev Cx.fs(X:Cx):List Addr:=gW X.outer
def lK(sc:Scope)(x:Str):Prop:=sc.names.lookup x=some .local∨sc.names.lookup x=some .cell∨sc.names.lookup x=some .free
def kC(sc:Scope)(x:Str):Prop:=sc.names.lookup x=some .local∨sc.names.lookup x=some .cell
def B2(env:Env)(h:Heap)(m:Za)(x:Str)(u:Value):Prop:=
 (env.kindOf x=some .local/\m x=some u)∨((env.kindOf x=some .cell∨env.kindOf x=some .free)/\∃c,env.cells.lookup x=some c/\h.IsCell c (some u))
structure Cx.Ok(X:Cx):Prop where
 mod:Mod X.K X.mg X.base
 kind:X.env.scope.kind=.function
 glob:X.env.globals=mainGlobals
 blt:X.env.builtins=builtinsNs
 above:X.s₀.heap.objs.size<=X.env.locals
 inj:∀x y c,X.env.cells.lookup x=some c->X.env.cells.lookup y=some c->x=y
 has:∀x,(X.env.kindOf x=some .cell∨X.env.kindOf x=some .free)->∃c,X.env.cells.lookup x=some c
 cab:∀x c,X.fn x=true->X.env.cells.lookup x=some c->X.s₀.heap.objs.size<=c
 hd:X.calm=true->X.A.handled=none
 frames:X.A.frames=some X.stack
 stk:X.stack=X.outer∨(X.stack=X.env::X.outer/\X.env.frame=some X.env.locals)
 exf:∀b∈X.ex,b≠X.env.locals/\∀x c,X.env.cells.lookup x=some c->c≠b
 bs:∀b o,X.base.get? b=some o->X.s₀.heap.get? b=some o/\X.H₀ b=none
 bsz:X.base.objs.size<=X.s₀.heap.objs.size
 noex:∀b o,X.base.get? b=some o->b∉X.ex
 exfs:∀b∈X.ex,b∉X.fs
 funs:X.s₀.heap.FunFrames X.base X.outer
 frf:∀b∈X.fs,X.H₀ b=none
structure Inv(X:Cx)(z5:Z3)(J:List (Option V))(H:Hp)(s:Shared):Prop where
 ok:X.Ok
 os:s.os=X.s₀.os
 bare:AllBare s.gens
 base:Un X.fs X.ex X.H₀ H X.s₀.heap s.heap
 loc:∃m,s.heap.Ns X.env.locals m/\∀(i:Nat) (x:Str) (v:V),X.N[i]? =some x->J[i]? =some (some v)->lK X.env.scope x->∃u,RelV v u/\B2 X.env s.heap m x u
 cell:∀x c,X.env.cells.lookup x=some c->∃v,s.heap.IsCell c v
 free:H X.env.locals=none
 freeC:∀x c,X.env.cells.lookup x=some c->H c=none
 pin:∀p∈X.pn++z5,s.heap.get? p.1=some p.2/\H p.1=none/\p.1≠X.env.locals/\p.1∉X.fs/\∀v,p.2.data≠.cell v
 hok:HOk X.prog X.w H s.heap
 len:J.length=X.N.length
section
variable{X:Cx}{z5:Z3}{J:List (Option V)}{H H':Hp}{s:Shared}{h':Heap}
def Cx.Ok.nofr(ok:X.Ok){b:Addr}{o:Obj}(e:X.base.get? b=some o):b∉X.fs:=λhb=>by have:=(ok.funs.mem hb).1;rw[e]at this;cases this
def Inv.bs(I:Inv X z5 J H s):∀b o,X.base.get? b=some o->s.heap.get? b=some o/\H b=none:=λb o e=>
 ⟨I.base.keep b o (I.ok.bs b o e).1 (I.ok.bs b o e).2 (I.ok.nofr e) (I.ok.noex b o e),I.base.free b o (I.ok.bs b o e).1 (I.ok.bs b o e).2 (I.ok.noex b o e)⟩
def Inv.bk(I:Inv X z5 J H s):∀b o,X.base.get? b=some o->s.heap.get? b=some o:=λb o e=>(I.bs b o e).1
def Inv.mod(I:Inv X z5 J H s):Mod X.K X.mg X.base:=I.ok.mod
def Inv.kIn(I:Inv X z5 J H s):X.K.In s.heap:=I.ok.mod.kin.keeps I.bk
def Inv.fr(I:Inv X z5 J H s):∃m,Fr X.base X.env.locals s.heap m:=
 let ⟨m,hn,_⟩:=I.loc
 ⟨m,hn,I.bk,jz I.ok.bsz I.ok.above⟩
def Inv.lt(I:Inv X z5 J H s):X.env.locals<s.heap.objs.size:=let ⟨_,hn,_⟩:=I.loc;hn.lt
def Inv.sz(I:Inv X z5 J H s):X.s₀.heap.objs.size<=s.heap.objs.size:=jz I.ok.above (le_of_lt I.lt)
def Inv.nofs(I:Inv X z5 J H s){a:Addr}(h:s.heap.objs.size<=a):a∉X.fs:=λhb=>by let⟨_,o,ho,_⟩:=I.ok.funs.mem hb;exact absurd (jw (jd ho) (jz I.sz h)) (xo _)
def Inv.cne(I:Inv X z5 J H s):∀x c,X.env.cells.lookup x=some c->c≠X.env.locals:=λx c e z=>by let⟨v,o,ho,hd⟩:=I.cell x c e;obtain⟨m,⟨o',es,ep,ho',hd',_⟩,_⟩:=I.loc;rw[z,ho']at ho;cases ho;rw[hd']at hd;cases hd
def Inv.funs(I:Inv X z5 J H s):s.heap.FunFrames X.base X.outer:=by
 have all:∀(l:List Env),(∀b∈gW l,b∈X.fs)->X.s₀.heap.FunFrames X.base l->s.heap.FunFrames X.base l:=by
  intro l;induction l with
  |nil=>intro _ _;trivial
  | cons env r ih=>
   intro hs hl;obtain⟨hk,⟨L,o,hf,hn,ho,hd⟩,hr⟩:=hl;have hL:=hs L (by unfold gW;rw[List.filterMap_cons,hf];exact jj);let⟨sl,e⟩:=I.base.slot L o ho (I.ok.frf L hL) hL λz=>I.ok.exfs L z hL;exact⟨hk,⟨L,_,hf,hn,e,hd⟩,ih (λb hb=>hs b (by unfold gW;rw[List.filterMap_cons,hf];exact ji _ hb)) hr⟩
 exact all X.outer (λ_ hb=>hb) I.ok.funs
def Inv.stack(I:Inv X z5 J H s):s.heap.FunFrames X.base X.stack:=by
 rcases I.ok.stk with e|⟨e,hf⟩
 .rw[e];exact I.funs
 .rw[e];obtain⟨m,hn,_⟩:=I.loc;refine .cons (by rw[I.ok.kind];decide) hf hn ?_ I.funs;exact vw (jz I.ok.bsz I.ok.above)
def Inv.stkSub(I:Inv X z5 J H s):∀b∈gW X.stack,b∈X.env.locals::X.fs:=λb hb=>by
 rcases I.ok.stk with e|⟨e,hf⟩
 .rw[e]at hb;exact ji _ hb
 .rw[e]at hb;unfold gW at hb;rw[List.filterMap_cons,hf]at hb;exact hb
def Inv.stkFree(I:Inv X z5 J H s):∀b∈gW X.stack,H b=none:=λb hb=>by
 rcases List.mem_cons.mp (I.stkSub b hb)with e|hb
 .rw[e];exact I.free
 .let⟨_,o,ho,_⟩:=I.ok.funs.mem hb;exact I.base.free b o ho (I.ok.frf b hb) λz=>I.ok.exfs b z hb
def Inv.step{g':Array GenState}{t':Nat}{d':Drawn}{ch:List Addr}(I:Inv X z5 J H s)
 (hch:∀b∈ch,(b∈X.ex∨X.s₀.heap.objs.size<=b)/\b≠X.env.locals/\(∀x c,X.env.cells.lookup x=some c->c≠b)/\∀p∈X.pn++z5,p.1≠b)
 (keep:∀b o,b≠X.env.locals->b∉X.fs->b∉ch->s.heap.get? b=some o->H b=none->h'.get? b=some o)
 (slot:∀b o,b≠X.env.locals->b∈X.fs->b∉ch->s.heap.get? b=some o->H b=none->∃sl,h'.get? b=some {o with slots:=sl}) (free:∀b o,b∉ch->s.heap.get? b=some o->H b=none->H' b=none)
 (there:∀b o,b∉ch->s.heap.get? b=some o->∃o',h'.get? b=some o')
 (tups:∀b xs,H b=some (.tup xs)->H' b=some (.tup xs)) (frzs:∀b o u,H b=some (.frz o u)->H' b=some (.frz o u)) (tbls:∀b ps,H b=some (.tbl ps)->∃more,H' b=some (.tbl (ps++more)))
 (ns:∀m,s.heap.Ns X.env.locals m->h'.Ns X.env.locals m) (hok:HOk X.prog X.w H' h') (hg:AllBare g'):
 Inv X z5 J H' {s with heap:=h',gens:=g',drawn:=d',toks:=t'}:=by
 have neL:∀b o,X.s₀.heap.get? b=some o->b≠X.env.locals:=λb o e=>jq (jw (jd e) I.ok.above);have neC:∀b o,X.s₀.heap.get? b=some o->b∉X.ex->b∉ch:=λb o e hx hb=>by
  rcases(hch b hb).1 with z|z
  .exact hx z
  .exact absurd (jw (jd e) z) (xo _)
 have cellK:∀x c,X.env.cells.lookup x=some c->∀v,s.heap.IsCell c v->h'.IsCell c v:=λx c e v ⟨o,ho,hd⟩=>by
  have nch:=λz=>(hch c z).2.2.1 x c e rfl;by_cases hc:c∈X.fs
  .let⟨sl,q⟩:=slot c o (I.cne x c e) hc nch ho (I.freeC x c e);exact⟨_,q,hd⟩
  .exact⟨o,keep c o (I.cne x c e) hc nch ho (I.freeC x c e),hd⟩
 refine⟨I.ok,I.os,hg,⟨λb o e n hb hx=>?_,λb o e n hb hx=>?_,λb o e n hx=>?_,λb o e hx=>?_,λb xs e=>tups b xs (I.base.tups b xs e),λb o xs e=>frzs b o xs (I.base.frzs b o xs e),λb ps e=>?_⟩,?_,λx c e=>?_,?_,λx c e=>?_,λp hp=>?_,hok,I.len⟩
 .exact keep b o (neL b o e) hb (neC b o e hx) (I.base.keep b o e n hb hx) (I.base.free b o e n hx)
 .let⟨sl,e1⟩:=I.base.slot b o e n hb hx;let⟨sl',e2⟩:=slot b _ (neL b o e) hb (neC b o e hx) e1 (I.base.free b o e n hx);exact⟨sl',e2⟩
 .let⟨o',e1⟩:=I.base.there b o e hx;exact free b o' (neC b o e hx) e1 (I.base.free b o e n hx)
 .let⟨o',e1⟩:=I.base.there b o e hx;exact there b o' (neC b o e hx) e1
 .let⟨m1,e1⟩:=I.base.tbls b ps e;let⟨m2,e2⟩:=tbls b _ e1;exact⟨m1++m2,by rw[e2,Array.append_assoc]⟩
 .obtain⟨m,hn,hl⟩:=I.loc;refine⟨m,ns m hn,λi x v e1 e2 e3=>?_⟩;let⟨u,r,l⟩:=hl i x v e1 e2 e3;refine⟨u,r,?_⟩;rcases l with l|⟨k,c,e,z⟩
  .exact .inl l
  .exact .inr ⟨k,c,e,cellK x c e _ z⟩
 .let⟨v,z⟩:=I.cell x c e;exact⟨v,cellK x c e v z⟩
 .obtain⟨m,⟨o,_,_,ho,_⟩,_⟩:=I.loc;exact free _ o (λz=>(hch _ z).2.1 rfl) ho I.free
 .let⟨v,o,ho,hd⟩:=I.cell x c e;exact free c o (λz=>(hch c z).2.2.1 x c e rfl) ho (I.freeC x c e)
 .let⟨e,n,ne,nf,d⟩:=I.pin p hp;have nch:p.1∉ch:=λz=>(hch p.1 z).2.2.2 p hp rfl;exact⟨keep p.1 p.2 ne nf nch e n,free p.1 p.2 nch e n,ne,nf,d⟩
def Inv.un{t':Nat}(I:Inv X z5 J H s)(u:Un X.fs [] H H' s.heap h')(hok:HOk X.prog X.w H' h'):Inv X z5 J H' {s with heap:=h',toks:=t'}:=by
 let⟨m,⟨o,es,ep,ho,r⟩,_⟩:=id I.loc;let⟨sl,hL⟩:=u.any ho I.free (by simp);exact I.step (ch:=[]) (λ_ z=>nomatch z) (λb o _ hb _ e n=>u.keep b o e n hb (by simp)) (λb o _ hb _ e n=>u.slot b o e n hb (by simp)) (λb o _ e n=>u.free b o e n (by simp)) (λb o _ e=>u.there b o e (by simp)) u.tups u.frzs u.tbls (λm' hm=>by obtain⟨o',es',ep',ho',r'⟩:=hm;rw[ho]at ho';cases ho';exact⟨_,es',ep',hL,r'⟩) hok I.bare
def Inv.call{g':Array GenState}{t':Nat}{d':Drawn}{ch:List Addr}(I:Inv X z5 J H s)(u:Un (gW X.stack) ch H H' s.heap h')(hok:HOk X.prog X.w H' h')(hg:AllBare g')
 (hch:∀b∈ch,(b∈X.ex∨X.s₀.heap.objs.size<=b)/\b≠X.env.locals/\(∀x c,X.env.cells.lookup x=some c->c≠b)/\∀p∈X.pn++z5,p.1≠b):
 Inv X z5 J H' {s with heap:=h',gens:=g',drawn:=d',toks:=t'}:=by
 let⟨m,⟨o,es,ep,ho,r⟩,_⟩:=id I.loc;let⟨sl,hL⟩:=u.any ho I.free λz=>(hch _ z).2.1 rfl;exact I.step hch (λb o hL hb hc e n=>u.keep b o e n (λz=>(List.mem_cons.mp (I.stkSub b z)).elim hL hb) hc) (λb o _ _ hc e n=>u.any e n hc) (λb o hc e n=>u.free b o e n hc) (λb o hc e=>u.there b o e hc) u.tups u.frzs u.tbls (λm' hm=>by obtain⟨o',es',ep',ho',r'⟩:=hm;rw[ho]at ho';cases ho';exact⟨_,es',ep',hL,r'⟩) hok hg
def Inv.turned{t':Nat}{it:Addr}(I:Inv X z5 J H s)(k:∀b o,b≠it->s.heap.get? b=some o->h'.get? b=some o)(hn:H it=none)(hL:it≠X.env.locals)
 (h1:it∈X.ex∨X.s₀.heap.objs.size<=it) (h2:∀x c,X.env.cells.lookup x=some c->c≠it) (h3:∀p∈X.pn++z5,p.1≠it):Inv X z5 J H {s with heap:=h',toks:=t'}:=by
 have nit:∀b u,H b=some u->b≠it:=λb u e z=>by rw[z,hn]at e;cases e
 refine I.step (ch:=[it]) (λb hb=>?_) (λb o _ _ hc e _=>k b o (λz=>hc (by simp[z])) e) (λb o _ _ hc e _=>⟨o.slots,k b o (λz=>hc (by simp[z])) e⟩) (λ_ _ _ _ n=>n)
  (λb o hc e=>⟨o,k b o (λz=>hc (by simp[z])) e⟩) (λ_ _ e=>e) (λ_ _ _ e=>e) (λb ps e=>⟨#[],by rw[e];simp⟩) (λm hm=>?_) (λb u e=>?_) I.bare
 .have e:b=it:=by simpa using hb
  subst e;exact⟨h1,hL,h2,h3⟩
 .obtain⟨o,es,ep,ho,r⟩:=hm;exact⟨o,es,ep,k _ o (Ne.symm hL) ho,r⟩
 .refine(I.hok b u e).stay (λc v hc q=>k c v ?_ q) (λ_ q=>q) λ_ _ q=>q;rcases hc with z|z
  .rw[z];exact nit b u e
  .exact nit c _ z
def Inv.tok(I:Inv X z5 J H s)(t:Nat):Inv X z5 J H {s with toks:=t}:=I.un Un.refl I.hok
def Inv.kept{t':Nat}(I:Inv X z5 J H s)(k:∀b u,s.heap.get? b=some u->h'.get? b=some u):Inv X z5 J H {s with heap:=h',toks:=t'}:=I.un (Un.kept k) (I.hok.kept k)
def Inv.laid{a:Addr}{o:HO}{t':Nat}(I:Inv X z5 J H s)(k:∀b u,s.heap.get? b=some u->h'.get? b=some u)(hp:s.heap.objs.size<=a)(new:ObjOk X.prog X.w (aM H a o) h' a o):
 Inv X z5 J (aM H a o) {s with heap:=h',toks:=t'}:=I.un (Un.laid k hp (I.hok.fresh hp)) (I.hok.laid k hp new)
def Inv.write{x e:Addr}{o:HO}{t':Nat}(I:Inv X z5 J H s)(mu:uY (H x))(he:e=x∨H e=some (.own x))(k:∀b u,b≠e->s.heap.get? b=some u->h'.get? b=some u)(heo:∃u,h'.get? e=some u)
 (new:ObjOk X.prog X.w (aM H x o) h' x o):Inv X z5 J (aM H x o) {s with heap:=h',toks:=t'}:=I.un (Un.write mu he k heo) (I.hok.write mu he k heo new)
def Inv.weak{J':List (Option V)}(I:Inv X z5 J H s)(hl:J'.length=J.length)(w:∀(i:Nat) v,J'[i]? =some (some v)->J[i]? =some (some v)):Inv X z5 J' H s:=
 ⟨I.ok,I.os,I.bare,I.base,let ⟨m,hn,hl'⟩:=I.loc;⟨m,hn,λi x v e1 e2 e3=>hl' i x v e1 (w i v e2) e3⟩,I.cell,I.free,I.freeC,I.pin,I.hok,hl.trans I.len⟩
def Inv.pins_of{pins':Z3}(I:Inv X z5 J H s)(h:∀p∈pins',s.heap.get? p.1=some p.2/\H p.1=none/\p.1≠X.env.locals/\p.1∉X.fs/\∀v,p.2.data≠.cell v):Inv X pins' J H s:=
 ⟨I.ok,I.os,I.bare,I.base,I.loc,I.cell,I.free,I.freeC,λp hp=>(List.mem_append.mp hp).elim (λz=>I.pin p (mem_append_left _ z)) (h p),I.hok,I.len⟩
def GH{N:Zj}(hN:N.Nodup){i j:Nat}{x:Str}(a:N[i]? =some x)(b:N[j]? =some x):i=j:=by let⟨h1,e1⟩:=List.getElem?_eq_some_iff.mp a;let⟨h2,e2⟩:=List.getElem?_eq_some_iff.mp b;exact(List.getElem_inj hN).mp (e1.trans e2.symm)
def qfc{ρ:Model}{A:Around}{E:Z0}{i:Nat}{x:Str}{v:V}{u:Value}{Q:Unit->Shared->Prop}(I:Inv X z5 J H s)(hN:X.N.Nodup)(hi:X.N[i]? =some x)(hx:kC X.env.scope x)(r:RelV v u)
 (h:∀s',Inv X z5 (J.set i (some v)) H s'->(∃a,SameBut a s.heap s'.heap/\(a=X.env.locals∨X.env.cells.lookup x=some a))->Q () s') (hf:X.fn x=true∨X.env.scope.names.lookup x=some .local:=by first|exact .inl rfl|exact .inr rfl|assumption):wpAny ρ A (storeName X.env x u) Q E s:=by
 let⟨m,hn,hl⟩:=id I.loc;have hcls:(X.env.scope.kind==.class||(X.env.scope.kind==.module&&X.env.locals !=X.env.globals))=false:=by rw[I.ok.kind];rfl
 have hiσ:i<J.length:=by rw[I.len];exact(List.getElem?_eq_some_iff.mp hi).1
 have cne:=I.cne;have tracked:∀{a:Addr} {h':Heap},(∃o,s.heap.get? a=some o/\H a=none)->SameBut a s.heap h'->HOk X.prog X.w H h':=λ{a h'} ha hs b ob e=>by
  obtain⟨_,_,hfree⟩:=ha;refine(I.hok b ob e).stay (λc w' hc q=>(hs.2 c ?_).trans q) (λ_ q=>q) λ_ _ q=>q;rintro rfl;rcases hc with rfl|hc
  .rw[hfree]at e;cases e
  .rw[hfree]at hc;cases hc
 rcases hx with hk|hk
 .refine wpAny_storeName_local hk hn (λh' hn' hs=>?_) hcls;let⟨oL,_,_,hoL,_⟩:=id hn;refine h _ ⟨I.ok,I.os,I.bare,⟨λb o e n hb hx=>?_,λb o e n hb hx=>?_,I.base.free,λb o e hx=>?_,I.base.tups,I.base.frzs,I.base.tbls⟩,⟨_,hn',λj y v' e1 e2 e3=>?_⟩,λy c e=>?_,I.free,I.freeC,λp hp=>?_,tracked ⟨oL,hoL,I.free⟩ hs,by simpa using I.len⟩ ⟨_,hs,.inl rfl⟩
  .exact(hs.2 b (jq (jw (jd e) I.ok.above))).trans (I.base.keep b o e n hb hx)
  .let⟨sl,e1⟩:=I.base.slot b o e n hb hx;exact⟨sl,(hs.2 b (jq (jw (jd e) I.ok.above))).trans e1⟩
  .let⟨o',e1⟩:=I.base.there b o e hx;exact⟨o',(hs.2 b (jq (jw (jd e) I.ok.above))).trans e1⟩
  .by_cases hj:j=i
   .subst hj;rw[hi]at e1;cases e1;rw[xl hiσ]at e2;cases e2;exact⟨u,r,.inl ⟨hk,by simp⟩⟩
   .rw[jv (Ne.symm hj)]at e2;let⟨u',r',q⟩:=hl j y v' e1 e2 e3;refine⟨u',r',?_⟩;rcases q with⟨k,e⟩|⟨k,c,e,z⟩
    .refine .inl ⟨k,?_⟩;have:y≠x:=λe=>hj (GH hN e1 (e▸hi));simp[this,e]
    .exact .inr ⟨k,c,e,z.sameBut hs (cne y c e)⟩
  .let⟨w',z⟩:=I.cell y c e;exact⟨w',z.sameBut hs (cne y c e)⟩
  .let⟨e,n,ne,nf,d⟩:=I.pin p hp;exact⟨(hs.2 p.1 ne).trans e,n,ne,nf,d⟩
 .have hfn:X.fn x=true:=by
   rcases hf with z|z
   .exact z
   .rw[z]at hk;cases hk
  let⟨c,hc⟩:=I.ok.has x (.inl hk);let⟨w',z⟩:=I.cell x c hc;refine wpAny_storeName_cell I.ok.kind hk hc z (λh' hc' hs=>?_);let⟨oc,hoc,hocd⟩:=id z;refine h {s with heap:=h'} ⟨I.ok,I.os,I.bare,⟨λb o e n hb hx=>?_,λb o e n hb hx=>?_,I.base.free,λb o e hx=>?_,I.base.tups,I.base.frzs,I.base.tbls⟩,⟨m,hn.sameBut hs (Ne.symm (cne x c hc)),λj y v' e1 e2 e3=>?_⟩,λy c' e=>?_,I.free,I.freeC,λp hp=>?_,tracked ⟨oc,hoc,I.freeC x c hc⟩ hs,by simpa using I.len⟩ ⟨c,hs,.inr hc⟩
  .exact(hs.2 b (jq (jw (jd e) (I.ok.cab x c hfn hc)))).trans (I.base.keep b o e n hb hx)
  .let⟨sl,e1⟩:=I.base.slot b o e n hb hx;exact⟨sl,(hs.2 b (jq (jw (jd e) (I.ok.cab x c hfn hc)))).trans e1⟩
  .let⟨o',e1⟩:=I.base.there b o e hx;exact⟨o',(hs.2 b (jq (jw (jd e) (I.ok.cab x c hfn hc)))).trans e1⟩
  .by_cases hj:j=i
   .subst hj;rw[hi]at e1;cases e1;rw[xl hiσ]at e2;cases e2;exact⟨u,r,.inr ⟨.inl hk,c,hc,hc'⟩⟩
   .rw[jv (Ne.symm hj)]at e2;let⟨u',r',q⟩:=hl j y v' e1 e2 e3;refine⟨u',r',?_⟩;rcases q with q|⟨k,c',e,z'⟩
    .exact .inl q
    .refine .inr ⟨k,c',e,z'.sameBut hs ?_⟩;rintro rfl;exact hj (GH hN e1 (I.ok.inj _ _ _ e hc▸hi))
  .by_cases hcc:c'=c
   .subst hcc;exact⟨_,hc'⟩
   .let⟨w2,z2⟩:=I.cell y c' e;exact⟨w2,z2.sameBut hs hcc⟩
  .let⟨e,n,ne,nf,d⟩:=I.pin p hp;refine⟨(hs.2 p.1 ?_).trans e,n,ne,nf,d⟩;intro q;rw[q,hoc]at e;exact d w' (by rw[<-(jm e)];exact hocd)
def zH{ρ:Model}{A:Around}{E:Z0}{i:Nat}{x:Str}{v:V}{u:Value}{Q:Unit->Shared->Prop}(I:Inv X z5 J H s)(hN:X.N.Nodup)(hi:X.N[i]? =some x)(hx:kC X.env.scope x)(r:RelV v u)
 (h:∀s',Inv X z5 (J.set i (some v)) H s'->Q () s') (hf:X.fn x=true∨X.env.scope.names.lookup x=some .local:=by first|exact .inl rfl|exact .inr rfl|assumption):wpAny ρ A (storeName X.env x u) Q E s:=
 qfc I hN hi hx r (λs' I' _=>h s' I') hf
def Inv.call'{s':Shared}{ch:List Addr}(I:Inv X z5 J H s)(ho:s'.os=s.os)(u:Un (gW X.stack) ch H H' s.heap s'.heap)(hok:HOk X.prog X.w H' s'.heap)(hg:AllBare s'.gens)
 (hch:∀b∈ch,(b∈X.ex∨X.s₀.heap.objs.size<=b)/\b≠X.env.locals/\(∀x c,X.env.cells.lookup x=some c->c≠b)/\∀p∈X.pn++z5,p.1≠b):Inv X z5 J H' s':=by
 obtain⟨h',g',d',t',o'⟩:=s';subst ho;exact I.call u hok hg hch
end
abbrev XK:=Value->Option Addr->Hp->Prop
abbrev St:=List (Option V)
abbrev VK:=V->Hp->Prop
abbrev TE:=St->Hp->VK->Prop
abbrev TT:=St->Hp->(Bool->Hp->Prop)->Prop
abbrev TA:=St->Hp->(List V->Hp->Prop)->Prop
structure Ends where
 nx:St->Hp->Prop
 rt:VK
 bk:St->Hp->Prop:=λ_ _=>False
 ct:St->Hp->Prop:=λ_ _=>False
abbrev TS:=Ends->St->Hp->Prop
def EP(X:Cx)(z5:Z3)(J:St)(Q:VK)(u:Value)(s':Shared):Prop:=∃v H',Inv X z5 J H' s'/\RelV v u/\Q v H'
def TP(X:Cx)(z5:Z3)(J:St)(Q:Bool->Hp->Prop)(b:Bool)(s':Shared):Prop:=∃H',Inv X z5 J H' s'/\Q b H'
def AP(X:Cx)(z5:Z3)(J:St)(Q:List V->Hp->Prop)(us:Ze)(s':Shared):Prop:=∃vs H',Inv X z5 J H' s'/\Vals vs us/\Q vs H'
def SP(X:Cx)(z5:Z3)(D:Ends)(f:Flow)(s':Shared):Prop:=
 match f with
 |.next=>∃J' H',Inv X z5 J' H' s'/\D.nx J' H'
 |.brk=>∃J' H',Inv X z5 J' H' s'/\D.bk J' H'
 |.cont=>∃J' H',Inv X z5 J' H' s'/\D.ct J' H'
 |.ret u=>∃v J' H',Inv X z5 J' H' s'/\RelV v u/\D.rt v H'
def PE(X:Cx)(e:Expr)(t:TE):Prop:=
 ∀(z5:Z3) (s:Shared) (J:St) (H:Hp) (Q:VK),Inv X z5 J H s->t J H Q->wpAny (model X.prog X.w) X.A (eval e X.env) (EP X z5 J Q) X.xe s
def PT(X:Cx)(e:Expr)(t:TT):Prop:=
 ∀(z5:Z3) (s:Shared) (J:St) (H:Hp) (Q:Bool->Hp->Prop),Inv X z5 J H s->t J H Q->wpAny (model X.prog X.w) X.A (isTrue e X.env (eval e X.env)) (TP X z5 J Q) X.xe s
def PW(X:Cx)(e:Expr)(t:TT):Prop:=
 ∀(zk:Sem Value) (z5:Z3) (s:Shared) (J:St) (H:Hp) (Q:Bool->Hp->Prop),Inv X z5 J H s->t J H Q->wpAny (model X.prog X.w) X.A (isTrue e X.env zk) (TP X z5 J Q) X.xe s
def PW.pt{X:Cx}{e:Expr}{t:TT}(h:PW X e t):PT X e t:=h _
def PA(X:Cx)(es:Zi)(t:TA):Prop:=
 ∀(pos:Pos) (z5:Z3) (s:Shared) (J:St) (H:Hp) (Q:List V->Hp->Prop),Inv X z5 J H s->t J H Q->wpAny (model X.prog X.w) X.A (spliced (backTo pos (starEach es X.env))) (AP X z5 J Q) X.xe s
def PS(X:Cx)(st:Stmt)(t:TS):Prop:=
 ∀(z5:Z3) (s:Shared) (J:St) (H:Hp) (D:Ends),Inv X z5 J H s->t D J H->wpAny (model X.prog X.w) X.A (exec st X.env) (SP X z5 D) X.xe s
def PSs(X:Cx)(st:Zh)(t:TS):Prop:=
 ∀(z5:Z3) (s:Shared) (J:St) (H:Hp) (D:Ends),Inv X z5 J H s->t D J H->wpAny (model X.prog X.w) X.A (execs st X.env) (SP X z5 D) X.xe s
def bf{α:Type}{t:Sem α}{Q Q':α->Shared->Prop}{ρ:Model}{A:Around}{E:Z0}{s:Shared}(h:wpAny ρ A t Q E s)(hQ:∀a s,Q a s->Q' a s):wpAny ρ A t Q' E s:=xg h hQ λ_ _ x=>x
section
variable{X:Cx}
def dJ(i:Nat):TE:=λJ H Q=>∃v,J[i]? =some (some v)/\Q v H
def tC(v:V):TE:=λ_ H Q=>Q v H
def qtc{i:Nat}{x:Str}{pos:Pos}(hN:X.N[i]? =some x)(hv:lK X.env.scope x)(hd:(x==("__debug__":Str))=false:=by decide)(hcd:(x==("__classdict__":Str))=false:=by decide):PE X (.Name x pos) (dJ i):=by
 intro z5 s J H Q I h;obtain⟨v,e,h⟩:=h;obtain⟨m,hn,hl⟩:=I.loc;let⟨u,r,l⟩:=hl i x v hN e hv;have fin:EP X z5 J Q u s:=⟨v,H,I,r,h⟩;rcases l with⟨hk,hm⟩|⟨hk,c,hc,zq⟩
 .exact wpAny_Name (wpAny_loadName_local I.ok.kind hk hn hm fin) hd
 .rcases hk with hk|hk
  .exact wpAny_Name (wpAny_loadName_cell I.ok.kind hk hc zq fin) hd
  .exact wpAny_Name (wpAny_loadName_free I.ok.kind hk hc zq fin hcd) hd
def aA{i j pos}:PE X (.Constant (.int i) j pos) (tC (.int i)):=λ_ _ _ H _ I h=>wpAny_Constant_int ⟨.int i,H,I.tok _,⟨_,rfl⟩,h⟩
def mT{b j pos}:PE X (.Constant (.bool b) j pos) (tC (.bl b)):=λ_ _ _ H _ I h=>Constant_bool ⟨.bl b,H,I,rfl,h⟩
def mF{j pos}:PE X (.Constant .none j pos) (tC .non):=λ_ _ _ H _ I h=>Constant_none ⟨.non,H,I,rfl,h⟩
def gk{x j pos}:PE X (.Constant (.str x) j pos) (tC (.str x)):=λ_ _ _ H _ I h=>Calls.Constant_str ⟨.str x,H,I.tok _,⟨_,rfl⟩,h⟩
def Gl(X:Cx)(x:Str):Prop:=X.env.kindOf x=some .globalImplicit
def yJ{E:Z0}{z5:Z3}{s:Shared}{J:St}{H:Hp}{x:Str}{u:Value}{pos:Pos}{Q:Z0}(I:Inv X z5 J H s)(hg:Gl X x)(hm:X.mg x=some u)(h:Q u s)
 (hd:(x==("__debug__":Str))=false:=by decide):wpAny (model X.prog X.w) X.A (eval (.Name x pos) X.env) Q E s:=
 Calls.Name_function_global I.ok.kind hg (Calls.loadGlobal_global (by rw[I.ok.glob];exact I.mod.glob.keeps I.bk) hm h) hd
def iD{E:Z0}{z5:Z3}{s:Shared}{J:St}{H:Hp}{x:Str}{u:Value}{pos:Pos}{Q:Z0}(I:Inv X z5 J H s)(hg:Gl X x)(hm:X.mg x=none)(hv:bootBuiltins x=some u)(h:Q u s)
 (hn:x≠"__name__":=by decide) (hd:(x==("__debug__":Str))=false:=by decide):wpAny (model X.prog X.w) X.A (eval (.Name x pos) X.env) Q E s:=by
 obtain⟨mb,h1,h2⟩:=I.mod.blt;exact Calls.Name_function_global I.ok.kind hg (Calls.loadGlobal_builtin (by rw[I.ok.glob];exact I.mod.glob.keeps I.bk) hm (by rw[I.ok.blt];exact h1.keeps I.bk) ((h2 x hn).trans hv) h) hd
def qC{x:Str}{v:V}{u:Value}{pos:Pos}(hg:Gl X x)(hm:X.mg x=none)(hv:bootBuiltins x=some u)(r:RelV v u)(hn:x≠"__name__":=by decide)(hd:(x==("__debug__":Str))=false:=by decide):PE X (.Name x pos) (tC v):=
 λ_ _ _ H _ I h=>iD I hg hm hv ⟨v,H,I,r,h⟩ hn hd
variable{a b:Expr}{ta tb:TE}{pos:Pos}
def tB(t:TE):TT:=λJ H Q=>t J H λx H1=>∃c,x=.bl c/\Q c H1
def kR{e:Expr}{t:TE}(h:PE X e t)(he:∀zk,isTrue e X.env zk=(do let v <-zk;standAt e.pos;holding [v] (truthy v)):=by intro _;rfl):PT X e (tB t):=by intro z5 s J H Q I hw;refine isTrue_plain (bf (h z5 s J H _ I hw) λv s1 ⟨x,H1,I1,r1,q1⟩=>?_) (he _);obtain⟨d,rfl,q⟩:=q1;cases r1;exact ku ⟨H1,I1,q⟩
variable{tA tB':TT}{rest:Zi}
def rm(t u:TT):TT:=λJ H Q=>t J H λc H1=>if c=true then u J H1 Q else Q false H1
def C7(t u:TT):TT:=λJ H Q=>t J H λc H1=>if c=true then Q true H1 else u J H1 Q
def rj(t:TT):TT:=λJ H Q=>t J H λc H1=>Q (!c) H1
def md(ha:PT X a tA):PW X (.BoolOp .And [a] pos) tA:=by
 intro wh z5 s J H Q I h;refine isTrue_and (bf (ha z5 s J H Q I h) λc s1 e=>?_);cases c with
 |true=>exact isTrue_and_nil e
 |false=>exact e
def f8(ha:PT X a tA):PW X (.BoolOp .Or [a] pos) tA:=by
 intro wh z5 s J H Q I h;refine isTrue_or (bf (ha z5 s J H Q I h) λc s1 e=>?_);cases c with
 |false=>exact isTrue_or_nil e
 |true=>exact e
def oM(ha:PT X a tA)(hb:PW X (.BoolOp .And (b::rest) pos) tB'):PW X (.BoolOp .And (a::b::rest) pos) (rm tA tB'):=by
 intro wh z5 s J H Q I h;refine isTrue_and (bf (ha z5 s J H _ I h) λc s1 ⟨H1,I1,q1⟩=>?_);cases c with
 |true=>exact hb wh z5 s1 J H1 Q I1 q1
 |false=>exact⟨H1,I1,q1⟩
def fQ(ha:PT X a tA)(hb:PW X (.BoolOp .Or (b::rest) pos) tB'):PW X (.BoolOp .Or (a::b::rest) pos) (C7 tA tB'):=by
 intro wh z5 s J H Q I h;refine isTrue_or (bf (ha z5 s J H _ I h) λc s1 ⟨H1,I1,q1⟩=>?_);cases c with
 |true=>exact⟨H1,I1,q1⟩
 |false=>exact hb wh z5 s1 J H1 Q I1 q1
def pb(ha:PT X a tA):PT X (.UnaryOp .Not a pos) (rj tA):=by intro z5 s J H Q I h;exact isTrue_not (ha z5 s J H (λc H1=>Q (!c) H1) I h)
def DT(ta tb:TE):TE:=λJ H Q=>ta J H λx H1=>∃c,x=.bl c/\if c=true then tb J H1 Q else Q (.bl false) H1
def D3(ta:TE):TE:=λJ H Q=>ta J H λx H1=>∃c,x=.bl c/\Q (.bl (!c)) H1
def ET{op}{t:TE}(h:PE X a t):PE X (.BoolOp op [a] pos) t:=λz5 s J H Q I hw=>BoolOp_one (h z5 s J H Q I hw)
def ES(ha:PE X a ta)(hb:PE X (.BoolOp .And (b::rest) pos) tb):PE X (.BoolOp .And (a::b::rest) pos) (DT ta tb):=by
 intro z5 s J H Q I h;refine BoolOp_and (bf (ha z5 s J H _ I h) λv s1 ⟨x,H1,I1,r1,q1⟩=>?_);obtain⟨c,rfl,q1⟩:=q1;cases r1;apply ku;cases c with
 |true=>exact hb z5 s1 J H1 Q I1 q1
 |false=>exact⟨.bl false,H1,I1,rfl,q1⟩
def qtd(ha:PE X a ta):PE X (.UnaryOp .Not a pos) (D3 ta):=by intro z5 s J H Q I h;refine UnaryOp_ (bf (ha z5 s J H _ I h) λv s1 ⟨x,H1,I1,r1,q1⟩=>?_);obtain⟨c,rfl,q1⟩:=q1;cases r1;exact not_of (ku ⟨.bl (!c),H1,I1,rfl,q1⟩)
def wl(t:TT)(ta tb:TE):TE:=λJ H Q=>t J H λc H1=>if c=true then ta J H1 Q else tb J H1 Q
def kZ{c:Expr}(hc:PT X c tA)(ha:PE X a ta)(hb:PE X b tb):PE X (.IfExp c a b pos) (wl tA ta tb):=by
 intro z5 s J H Q I h;refine wpAny_IfExp (bf (hc z5 s J H _ I h) λd s1 ⟨H1,I1,q1⟩=>?_);cases d with
 |true=>exact ha z5 s1 J H1 Q I1 q1
 |false=>exact hb z5 s1 J H1 Q I1 q1
end
def SqL(K:am)(H:Hp)(a:Addr)(xs:List V):Prop:=
 Rd H a (.lst xs)∨
  ∃(o:Obj) (its:Zd) (n:Nat),K.lookup a=some o/\o.cls=.type "list"/\o.dict=none/\o.data=.seq its n/\its.size<=sizeLine/\Vals xs its.toList
def SqT(K:am)(H:Hp)(a:Addr)(xs:List V):Prop:=
 Rd H a (.tup xs)∨
  ∃(o:Obj) (its:Zd) (n:Nat),K.lookup a=some o/\o.cls=.type "tuple"/\o.dict=none/\o.data=.seq its n/\its.size<=sizeLine/\Vals xs its.toList
noncomputable def B1:Value->Option V
 |.none=>some .non
 |.bool b=>some (.bl b)
 |.int i _=>some (.int i)
 |.str x _=>some (.str x)
 |.bytes b _=>some (.byt b)
 |.float b _=>some (.flt b)
 |.ref a=>some (.ref a)
 |.type n=>some (.ty n)
 |_=>none
def RelV.abs{x:V}{u:Value}(r:RelV x u):B1 u=some x:=by
 cases x with
 |non=>cases r;rfl
 |bl _=>cases r;rfl
 |int _=>obtain⟨t,rfl⟩:=r;rfl
 |str _=>obtain⟨t,rfl⟩:=r;rfl
 |byt _=>obtain⟨t,rfl⟩:=r;rfl
 |flt _=>obtain⟨t,rfl⟩:=r;rfl
 |ref _=>cases r;rfl
 |ty _=>cases r;rfl
def RelV.inj{x y:V}{u:Value}(r:RelV x u)(q:RelV y u):x=y:=jm (r.abs.symm.trans q.abs)
theorem Vals.inj:∀{xs ys:List V} {us:Ze},Vals xs us->Vals ys us->xs=ys
 |_,_,_,.nil,.nil=>rfl
 |_,_,_,.cons r t,.cons r' t'=>by rw[r.inj r',Vals.inj t t']
section
variable{X:Cx}{z5:Z3}{J:St}{H:Hp}{s:Shared}{a:Addr}{xs ys:List V}
def SqL.of{K:am}(h:H a=some (.lst xs)):SqL K H a xs:=.inl (.inl h)
def SqT.of{K:am}(h:H a=some (.tup xs)):SqT K H a xs:=.inl (.inl h)
def Inv.list(I:Inv X z5 J H s)(h:SqL X.K H a xs):∃its:List Value,Vals xs its/\PlainL s.heap a its.toArray/\xs.length<=sizeLine:=by
 rcases h with h|⟨o,its,n,hk,hc,hd,hs,hz,r⟩
 .let⟨z,its,n,r,e⟩:=h.ok I.hok;exact⟨its,r,⟨_,n,e,rfl,rfl,rfl⟩,z⟩
 .refine⟨its.toList,r,⟨o,n,I.kIn a o hk,hc,hd,by simpa using hs⟩,?_⟩;have e:=r.length;simp only[length_toList]at e;lia
def Inv.tupN(I:Inv X z5 J H s)(h:SqT X.K H a xs):∃its:List Value,Vals xs its/\TupN s.heap a its.toArray/\xs.length<=sizeLine:=by
 rcases h with h|⟨o,its,n,hk,hc,hd,hs,hz,r⟩
 .let⟨z,its,r,p⟩:=h.ok I.hok;exact⟨its,r,p,z⟩
 .refine⟨its.toList,r,⟨o,I.kIn a o hk,⟨hc,n,by simpa using hs⟩,hd⟩,?_⟩;have e:=r.length;simp only[length_toList]at e;lia
def Inv.tuple(I:Inv X z5 J H s)(h:SqT X.K H a xs):∃its:List Value,Vals xs its/\IsTup s.heap a its.toArray/\xs.length<=sizeLine:=let ⟨its,r,p,z⟩:=I.tupN h;⟨its,r,p.tup,z⟩
def Inv.list_inj(I:Inv X z5 J H s)(h:SqL X.K H a xs)(h':SqL X.K H a ys):xs=ys:=by
 let⟨its,r,⟨o,n,e,_,_,d⟩,_⟩:=I.list h;let⟨its',r',⟨o',n',e',_,_,d'⟩,_⟩:=I.list h';rw[e]at e';cases e';rw[d]at d';injection d' with d1 _;have:its=its':=by simpa using congrArg toList d1
 subst this;exact r.inj r'
def Inv.tuple_inj(I:Inv X z5 J H s)(h:SqT X.K H a xs)(h':SqT X.K H a ys):xs=ys:=by
 let⟨its,r,⟨o,e,_,n,d⟩,_⟩:=I.tuple h;let⟨its',r',⟨o',e',_,n',d'⟩,_⟩:=I.tuple h';rw[e]at e';cases e';rw[d]at d';injection d' with d1 _;have:its=its':=by simpa using congrArg toList d1
 subst this;exact r.inj r'
end
abbrev Cx.wish(X:Cx)(E:Z0):Cx:={X with xe:=E}
abbrev Cx.nox(X:Cx):Cx:=X.wish λ_ _=>False
def Cx.Ok.wish{X:Cx}(ok:X.Ok)(E:Z0):(X.wish E).Ok:=
 ⟨ok.mod,ok.kind,ok.glob,ok.blt,ok.above,ok.inj,ok.has,ok.cab,ok.hd,ok.frames,ok.stk,ok.exf,ok.bs,ok.bsz,ok.noex,ok.exfs,ok.funs,ok.frf⟩
def Cx.Ok.unwish{X:Cx}{E:Z0}(ok:(X.wish E).Ok):X.Ok:=
 ⟨ok.mod,ok.kind,ok.glob,ok.blt,ok.above,ok.inj,ok.has,ok.cab,ok.hd,ok.frames,ok.stk,ok.exf,ok.bs,ok.bsz,ok.noex,ok.exfs,ok.funs,ok.frf⟩
section
variable{X:Cx}{z5:Z3}{J:St}{H:Hp}{s:Shared}{E:Z0}
def Inv.wish(I:Inv X z5 J H s)(E:Z0):Inv (X.wish E) z5 J H s:=⟨I.ok.wish E,I.os,I.bare,I.base,I.loc,I.cell,I.free,I.freeC,I.pin,I.hok,I.len⟩
def Inv.unwish(I:Inv (X.wish E) z5 J H s):Inv X z5 J H s:=⟨I.ok.unwish,I.os,I.bare,I.base,I.loc,I.cell,I.free,I.freeC,I.pin,I.hok,I.len⟩
def SP.unwish{D:Ends}{f:Flow}{s':Shared}(h:SP (X.wish E) z5 D f s'):SP X z5 D f s':=by
 cases f with
 |next=>obtain⟨J',H',I,q⟩:=h;exact⟨J',H',I.unwish,q⟩
 |brk=>obtain⟨J',H',I,q⟩:=h;exact⟨J',H',I.unwish,q⟩
 |cont=>obtain⟨J',H',I,q⟩:=h;exact⟨J',H',I.unwish,q⟩
 |ret u=>obtain⟨v,J',H',I,r,q⟩:=h;exact⟨v,J',H',I.unwish,r,q⟩
def PSs.nox{st:Zh}{t:TS}(h:PSs X.nox st t):PSs X st t:=λz5 s J H D I hw=>
 xg (h z5 s J H D (I.wish _) hw) (λ_ _ q=>q.unwish) λ_ _ z=>False.elim z
end
section
variable{X:Cx}{st:Stmt}{rest:Zh}{t u:TS}{e:Expr}{te:TE}{pos:Pos}
def D2:TS:=λD J H=>D.nx J H
def lL(t u:TS):TS:=λD J H=>t {D with nx:=u D} J H
def fI:PSs X [] D2:=λ_ _ J H _ I h=>wpAny_execs_nil ⟨J,H,I,h⟩
def aR(h1:PS X st t)(h2:PSs X rest u):PSs X (st::rest) (lL t u):=by
 intro z5 s J H D I h;refine wpAny_execs_cons (bf (h1 z5 s J H {D with nx:=u D} I h) λf s1 q=>?_);cases f with
 | next=>
  obtain⟨J',H',I',q⟩:=q;exact h2 z5 s1 J' H' D I' q
 |ret v=>exact q
 |brk=>exact q
 |cont=>exact q
def aY(h1:PS X st t):PSs X [st] t:=by
 intro z5 s J H D I h;refine wpAny_execs_cons (bf (h1 z5 s J H D I h) λf s1 q=>?_);cases f with
 |next=>exact wpAny_execs_nil q
 |ret v=>exact q
 |brk=>exact q
 |cont=>exact q
def Inv.quiet{z5:Z3}{J:St}{H:Hp}{s:Shared}(I:Inv X z5 J H s):interactive X.env=false:=by simp[interactive,I.ok.kind]
def qf(te:TE):TS:=λD J H=>te J H λ_ H1=>D.nx J H1
def jV(he:PE X e te)(hs:swapsWith e none pos.line X.env=pure false:=by rfl):PS X (.Expr e pos) (qf te):=by intro z5 s J H D I h;exact wpAny_Expr_any (bf (he z5 s J H _ I h) λv s1 ⟨x,H1,I1,r1,q1⟩=>⟨J,H1,I1,q1⟩) I.quiet hs
def iM(te:TE):TS:=λD J H=>te J H D.rt
def bN(he:PE X e te):PS X (.Return (some e) pos) (iM te):=by intro z5 s J H D I h;exact wpAny_Return_some (bf (he z5 s J H _ I h) λv s1 ⟨x,H1,I1,r1,q1⟩=>⟨x,J,H1,I1,r1,q1⟩)
def rk(c:TT)(t u:TS):TS:=λD J H=>c J H λb H1=>if b=true then t D J H1 else u D J H1
def fF{c:Expr}{a b:Zh}{tc:TT}(hc:PT X c tc)(ha:PSs X a t)(hb:PSs X b u):PS X (.If c a b pos) (rk tc t u):=by
 intro z5 s J H D I h;refine wpAny_If (bf (hc z5 s J H _ I h) λd s1 ⟨H1,I1,q1⟩=>?_);cases d with
 |true=>exact ha z5 s1 J H1 D I1 q1
 |false=>exact hb z5 s1 J H1 D I1 q1
def Fb:TS:=λ_ _ _=>False
def GO:PS X st Fb:=λ_ _ _ _ _ _ h=>h.elim
end
abbrev TG:=V->St->Hp->(St->Hp->Prop)->Prop
abbrev kB:=List V->St->Hp->(St->Hp->Prop)->Prop
def PG(X:Cx)(zj:Expr)(t:TG):Prop:=
 ∀(z5:Z3) (s:Shared) (J:St) (H:Hp) (v:V) (u:Value) (Q:St->Hp->Prop),Inv X z5 J H s->RelV v u->t v J H Q->
   wpAny (model X.prog X.w) X.A (assign zj X.env u) (λ_ s'=>∃J' H',Inv X z5 J' H' s'/\Q J' H') X.xe s
def qW(X:Cx)(ts:Zi)(t:kB):Prop:=
 ∀(z5:Z3) (s:Shared) (J:St) (H:Hp) (vs:List V) (us:Ze) (Q:St->Hp->Prop),Inv X z5 J H s->Vals vs us->t vs J H Q->
   wpAny (model X.prog X.w) X.A (assignInOrder ((assignEach ts X.env).map (·.2)) us) (λ_ s'=>∃J' H',Inv X z5 J' H' s'/\Q J' H') X.xe s
abbrev oH:=V->V->V->Hp->(Hp->Prop)->Prop
def oI(X:Cx)(t:oH):Prop:=
 ∀(z5:Z3) (s:Shared) (J:St) (H:Hp) (o i v:V) (ov iv u:Value) (Q:Hp->Prop),Inv X z5 J H s->RelV o ov->RelV i iv->RelV v u->t o i v H Q->
   wpAny (model X.prog X.w) X.A (setItem ov iv u) (λ_ s'=>∃H',Inv X z5 J H' s'/\Q H') X.xe s
section
variable{X:Cx}{pos:Pos}
def gE(i:Nat):TG:=λv J H Q=>Q (J.set i (some v)) H
def i5{i:Nat}{x:Str}(hN:X.N.Nodup)(hi:X.N[i]? =some x)(hx:kC X.env.scope x)(hf:X.fn x=true∨X.env.scope.names.lookup x=some .local:=by first|exact .inl rfl|exact .inr rfl|assumption):PG X (.Name x pos) (gE i):=by intro z5 s J H v u Q I r h;exact wpAny_assign_Name (zH I hN hi hx r (λs' I'=>⟨_,H,I',h⟩) hf)
def fS(i:Nat){x:Str}(hN:X.N.Nodup)(hi:X.N[i]? =some x:=by rfl)(hx:kC X.env.scope x:=by first|exact .inl rfl|exact .inr rfl)(hf:X.fn x=true∨X.env.scope.names.lookup x=some .local:=by first|exact .inl rfl|exact .inr rfl|assumption):PG X (.Name x pos) (gE i):=i5 hN hi hx hf
def oh:kB:=λvs J H Q=>vs=[]/\Q J H
def tx(t:TG)(u:kB):kB:=λvs J H Q=>∃v r,vs=v::r/\t v J H λJ' H'=>u r J' H' Q
def nr:qW X [] oh:=by intro z5 s J H vs us Q I r h;obtain⟨e,h⟩:=h;subst e;cases r;exact assignInOrder_nil ⟨J,H,I,h⟩
def ik{e:Expr}{es:Zi}{t:TG}{u:kB}(h1:PG X e t)(h2:qW X es u)
 (hs:(assignEach (e::es) X.env).map (·.2)=assign e X.env::(assignEach es X.env).map (·.2):=by rfl):qW X (e::es) (tx t u):=by
 intro z5 s J H vs us Q I r h;obtain⟨v,vr,e1,h⟩:=h;subst e1;cases r with
 | cons r rr=>
  rw[hs];refine assignInOrder_cons (bf (h1 z5 s J H _ _ _ I r h) λ_ s1 ⟨J1,H1,I1,q1⟩=>?_);exact h2 z5 s1 J1 H1 _ _ Q I1 rr q1
def lX(K:am)(n:Nat)(t:kB):TG:=λv J H Q=>∃a xs,v=.ref a/\SqT K H a xs/\xs.length=n/\t xs J H Q
def qtb{es:Zi}{k:Nat}{t:kB}{n:Nat}(hc:X.calm=true)(h:qW X es t)
 (hn:(assignEach es X.env).length=n:=by rfl) (hst:(assignEach es X.env).findIdx? (·.1)=none:=by rfl):PG X (.Tuple es k pos) (lX X.K n t):=by
 intro z5 s J H v u Q I r hw;obtain⟨a,xs,e1,hq,hl,hw⟩:=hw;subst e1;cases r;let⟨its,rv,ht,hz⟩:=I.tuple hq;refine assign_Tuple_tuple (I.ok.hd hc) ht (by simp[hn,<-hl,rv.length]) hst λh' hx=>?_;have I1:Inv X z5 J H {s with heap:=h'}:=I.kept λb o e=>hx b o (jq (jd e)) e;exact h z5 _ J H xs _ Q I1 (by simpa using rv) hw
def og(to ti:TE)(t:oH):TG:=λv J H Q=>to J H λo H1=>ti J H1 λi H2=>t o i v H2 λH3=>Q J H3
def EU{o i:Expr}{to ti:TE}{t:oH}(ho:PE X o to)(hi:PE X i ti)(hs:oI X t)
 (ha:∀v,assign (.Subscript o i pos) X.env v=(do
   let ov <-holding [v] (eval o X.env)
   let iv <-holding [v,ov] (eval i X.env)
   standAt pos
   holding [v,ov,iv] (setItem ov iv v)
   release [v,ov,iv] []):=by intro _;rfl):PG X (.Subscript o i pos) (og to ti t):=by
 intro z5 s J H v u Q I r h;rw[ha];refine j9 (xm (bf (ho z5 s J H _ I h) λov s1 ⟨x,H1,I1,r1,q1⟩=>?_));refine j9 (xm (bf (hi z5 s1 J H1 _ I1 q1) λiv s2 ⟨y,H2,I2,r2,q2⟩=>?_));refine j9 (wpAny_standAt (j9 (xm (bf (hs z5 s2 J H2 x y v ov iv u _ I2 r1 r2 r q2) λ_ s3 ⟨H3,I3,q3⟩=>?_))));exact wpAny_release ⟨J,H3,I3,q3⟩
def fz(te:TE)(g:TG):TS:=λD J H=>te J H λx H1=>g x J H1 D.nx
def xP{tg e:Expr}{te:TE}{g:TG}(he:PE X e te)(hg:PG X tg g)(hs:swapsWithSole [tg] e pos.line X.env=pure false:=by rfl)(hw:swappedStores [tg] e X.env=pure none:=by rfl)
 (h1:(assignEach [tg] X.env).map (·.2)=[assign tg X.env]:=by rfl):PS X (.Assign [tg] e pos) (fz te g):=by
 intro z5 s J H D I h;refine wpAny_Assign_stores (bf (he z5 s J H _ I h) λv s1 ⟨x,H1,I1,r1,q1⟩=>?_) hs hw;rw[h1];exact bf (hg z5 s1 J H1 x v _ I1 r1 q1) λ_ s2 q=>q
def q0w{i:Nat}{x:Str}{e:Expr}{te:TE}{j6:Pos}(hN:X.N.Nodup)(hi:X.N[i]? =some x)(hx:kC X.env.scope x)(he:PE X e te)(hs:swapsWith e (some (.Name x j6)) pos.line X.env=pure false:=by rfl)(hf:X.fn x=true∨X.env.scope.names.lookup x=some .local:=by first|exact .inl rfl|exact .inr rfl|assumption):
 PS X (.Assign [.Name x j6] e pos) (fz te (gE i)):=by
 intro z5 s J H D I h;refine wpAny_Assign_Name (bf (he z5 s J H _ I h) λv s1 ⟨y,H1,I1,r1,q1⟩=>?_) hs;exact zH I1 hN hi hx r1 (λs2 I2=>⟨_,H1,I2,q1⟩) hf
def bY(i:Nat){x:Str}{e:Expr}{te:TE}{j6:Pos}(hN:X.N.Nodup)(he:PE X e te)(hi:X.N[i]? =some x:=by rfl)(hx:kC X.env.scope x:=by first|exact .inl rfl|exact .inr rfl)(hs:swapsWith e (some (.Name x j6)) pos.line X.env=pure false:=by rfl)(hf:X.fn x=true∨X.env.scope.names.lookup x=some .local:=by first|exact .inl rfl|exact .inr rfl|assumption): PS X (.Assign [.Name x j6] e pos) (fz te (gE i)):=q0w hN hi hx he hs hf
def Fe(c:TT)(tb:TS):TS:=λD J H=>∃W:Nat->St->Hp->Prop,(∃m,W m J H)/\∀m J H,W m J H->
 c J H λb H1=>if b=true then∃N:St->Hp->Prop,(∀J' H',N J' H'->∃m',m'<m/\W m' J' H')/\tb {D with nx:=N,ct:=N,bk:=D.nx} J H1 else D.nx J H1
def GP{c:Expr}{body:Zh}{tc:TT}{tb:TS}(hp:PassesOwn (model X.prog X.w) X.A X.env X.xe)(hc:PT X c tc)(hb:PSs X body tb):PS X (.While c body [] pos) (Fe tc tb):=by
 intro z5 s J H D I h;obtain⟨W,⟨m0,w0⟩,turn⟩:=h;refine wpAny_While (codeAny_whileLoop (λn s'=>∃J' H',Inv X z5 J' H' s'/\W n J' H') ?_ m0 ⟨J,H,I,w0⟩);rintro n s1 ⟨J1,H1,I1,w1⟩;refine vh hp (bf (hc z5 s1 J1 H1 _ I1 (turn n J1 H1 w1)) λb s2 ⟨H2,I2,q2⟩=>?_);cases b with
 | true=>
  obtain⟨N,hN,q2⟩:=q2;rw[if_pos rfl];refine vh hp (bf (hb z5 s2 J1 H2 _ I2 q2) λf s3 q3=>?_);cases f with
  | next=>
   obtain⟨J3,H3,I3,n3⟩:=q3;let⟨m',hm,w3⟩:=hN J3 H3 n3;exact⟨m',hm,J3,H3,I3,w3⟩
  | cont=>
   obtain⟨J3,H3,I3,n3⟩:=q3;let⟨m',hm,w3⟩:=hN J3 H3 n3;exact⟨m',hm,J3,H3,I3,w3⟩
  |brk=>exact q3
  |ret v=>exact q3
 | false=>
  rw[if_neg Bool.false_ne_true];exact wpAny_execs_nil ⟨J1,H2,I2,q2⟩
end
structure It where
 go:Nat->Hp->Prop
 yld:Nat->Hp->V->Hp->Prop
 stop:Nat->Hp->Prop
def gB(X:Cx)(z5:Z3)(H:Hp)(b:Addr):Prop:=
 H b=none/\b≠X.env.locals/\b∉X.fs/\(b∈X.ex∨X.s₀.heap.objs.size<=b)/\(∀x c,X.env.cells.lookup x=some c->c≠b)/\∀p∈X.pn++z5,p.1≠b
def Inv.fpOk{X:Cx}{z5:Z3}{J:St}{H H':Hp}{s:Shared}{b:Addr}(I:Inv X z5 J H s)(hb:s.heap.objs.size<=b)(hn:H' b=none):gB X z5 H' b:=by
 refine⟨hn,ne_of_gt (jw I.lt hb),I.nofs hb,.inr (jz I.sz hb),λx c e z=>?_,λp hp z=>?_⟩
 .let⟨v,q⟩:=I.cell x c e;exact absurd (jw q.lt (by rw[z];exact hb)) (xo _)
 .exact absurd (jw (jd (I.pin p hp).1) (by rw[z];exact hb)) (xo _)
structure Turn(P:Program)(w:World)(K:am)(tg:Expr)(σ:It)(fp:List Addr)(it:Addr)(tn:Nat->Heap->Prop):Prop where
 mem:it∈fp
 obj:∀i h,tn i h->∀b∈fp,∃o,h.get? b=some o/\∀v,o.data≠.cell v
 keep:∀i h h',tn i h->(∀b∈fp,∀o,h.get? b=some o->h'.get? b=some o)->tn i h'
 item:∀(X:Cx),X.prog=P->X.w=w->X.K=K->X.calm=true->∀(i:Nat) (z5:Z3) (s:Shared) (J:St) (H:Hp) (E:Z0),Inv X z5 J H s->(∀b∈fp,gB X z5 H b)->tn i s.heap->σ.go i H->
  wpAny (model P w) X.A (pyNext (.ref it)) (λr s1=>∃u,r=some u/\
   wpAny (model P w) X.A (letOwnedTupleGo tg (.ref it) u) (λ_ s2=>∃x H',Inv X z5 J H' s2/\RelV x u/\σ.yld i H x H'/\tn (i+1) s2.heap/\∀b∈fp,H' b=none) E s1) E s
 done:∀(X:Cx),X.prog=P->X.w=w->X.K=K->X.calm=true->∀(i:Nat) (z5:Z3) (s:Shared) (J:St) (H:Hp) (E:Z0),Inv X z5 J H s->(∀b∈fp,gB X z5 H b)->tn i s.heap->σ.stop i H->
  wpAny (model P w) X.A (pyNext (.ref it)) (λr s1=>r=none/\Inv X z5 J H s1) E s
 self:∀(A:Around) (i:Nat) (s:Shared) (Q:Z0) (E:Z0),tn i s.heap->Q (.ref it) s->wpAny (model P w) A (pyIter (.ref it)) Q E s
abbrev TI:=St->Hp->(It->Hp->Prop)->Prop
def Iv(X:Cx)(z5:Z3)(J:St)(tg:Expr)(R:It->Hp->Prop)(itv:Value)(s2:Shared):Prop:=
 ∃(it:Addr) (fp:List Addr) (tn:Nat->Heap->Prop) (σ:It) (H':Hp),itv=.ref it/\Inv X z5 J H' s2/\Turn X.prog X.w X.K tg σ fp it tn/\tn 0 s2.heap/\(∀b∈fp,gB X z5 H' b)/\R σ H'
def PI(X:Cx)(tg ze:Expr)(wi:TI):Prop:=
 ∀(z5:Z3) (s:Shared) (J:St) (H:Hp) (R:It->Hp->Prop),Inv X z5 J H s->wi J H R->
   wpAny (model X.prog X.w) X.A (eval ze X.env) (λv s1=>wpAny (model X.prog X.w) X.A (pyIter v) (Iv X z5 J tg R) X.xe s1) X.xe s
def pV{ρ:Model}{A:Around}{E:Z0}{s:Shared}{tg:Expr}{it:Addr}{u:Value}{o:Obj}{n:String}{vs:Zd}{Q:Unit->Shared->Prop}(ho:s.heap.get? it=some o)(hc:o.cls=.type n)(hd:o.data=.fields vs)
 (hn:["enumerate","zip","dict_itemiterator","dict_reverseitemiterator","odict_iterator","itertools.zip_longest","itertools.pairwise"].contains n=false) (hQ:Q () s):wpAny ρ A (letOwnedTupleGo tg (.ref it) u) Q E s:=by
 cases tg<;>first
  |exact jb hQ
  |(cases u<;>first
     |exact jb hQ
     | (refine j9 (wpAny_load ho ?_)
        rw[hc,hd];show wpAny ρ A (if(["enumerate","zip","dict_itemiterator","dict_reverseitemiterator","odict_iterator","itertools.zip_longest","itertools.pairwise"].contains n&&vs[0]? ==some (rawInt _))=true then _ else _) Q E s;rw[if_neg (by intro h;rw[hn,Bool.false_and]at h;cases h)];exact jb hQ))
noncomputable def AC(K:am)(a:Addr):It:=
 ⟨λi H=>∃xs x,SqL K H a xs/\xs[i]? =some x,λi H x H'=>H'=H/\∀xs,SqL K H a xs->xs[i]? =some x,λi H=>∃xs,SqL K H a xs/\xs.length<=i⟩
noncomputable def AB(K:am)(a:Addr):It:=
 ⟨λi H=>∃xs x,SqT K H a xs/\xs[i]? =some x,λi H x H'=>H'=H/\∀xs,SqT K H a xs->xs[i]? =some x,λi H=>∃xs,SqT K H a xs/\xs.length<=i⟩
noncomputable def u6(lo:Int)(n:Nat):It:=⟨λi _=>i<n,λi H x H'=>H'=H/\x=.int (lo+i),λi _=>n<=i⟩
def qf2{P:Program}{w:World}{K:am}{tg:Expr}(a it:Addr):Turn P w K tg (AC K a) [it] it (λi h=>h.IsListIter it a i) where
 mem:=by simp
 obj:=λi h st b hb=>by
  have e:b=it:=by simpa using hb
  subst e;obtain⟨o,e,c,d⟩:=st;exact⟨o,e,λv z=>by rw[d]at z;cases z⟩
 keep:=λi h h' st k=>st.at λo e=>k it (by simp) o e
 item:=by intro X hP hw hK hc i z5 s J H E I hf st hg;subst hP hw hK;obtain⟨xs,x,hq,hx⟩:=hg;let⟨its,rv,p,hz⟩:=I.list hq;let⟨u,hu,ru⟩:=rv.get hx;let⟨f0,f1,f2,f3,f4,f5⟩:=hf it (by simp);refine wpAny_pyNext_list_item st p.isList (by simpa using hu) λh' st' sb=>?_;have I1:Inv X z5 J H {s with heap:=h'}:=I.turned (λb o hb e=>(sb.2 b hb).trans e) f0 f1 f3 f4 f5;let⟨o,e,c,d⟩:=id st';exact⟨u,rfl,pV e c d (by decide) ⟨x,H,I1,ru,⟨rfl,λys hy=>by rw[I.list_inj hy hq];exact hx⟩,st',λb hb=>(hf b hb).1⟩⟩
 done:=by intro X hP hw hK hc i z5 s J H E I hf st hg;subst hP hw hK;obtain⟨xs,hq,hx⟩:=hg;let⟨its,rv,p,hz⟩:=I.list hq;let⟨f0,f1,f2,f3,f4,f5⟩:=hf it (by simp);have hl:=rv.length;exact wpAny_pyNext_list_end (I.ok.hd hc) st p.isList (by simp;lia) λh' eb=>⟨rfl,I.turned (λb o hb e=>eb b o hb e) f0 f1 f3 f4 f5⟩
 self:=λ_ _ _ _ _ st h=>wpAny_pyIter_listiter st h
def qdo{P:Program}{w:World}{K:am}{tg:Expr}(a it:Addr):Turn P w K tg (AB K a) [it] it (λi h=>h.IsTupleIter it a i) where
 mem:=by simp
 obj:=λi h st b hb=>by
  have e:b=it:=by simpa using hb
  subst e;obtain⟨o,e,c,d⟩:=st;exact⟨o,e,λv z=>by rw[d]at z;cases z⟩
 keep:=λi h h' st k=>st.at λo e=>k it (by simp) o e
 item:=by intro X hP hw hK hc i z5 s J H E I hf st hg;subst hP hw hK;obtain⟨xs,x,hq,hx⟩:=hg;let⟨its,rv,p,hz⟩:=I.tuple hq;let⟨u,hu,ru⟩:=rv.get hx;let⟨f0,f1,f2,f3,f4,f5⟩:=hf it (by simp);refine wpAny_pyNext_tuple_item st (p) (by simpa using hu) λh' st' sb=>?_;have I1:Inv X z5 J H {s with heap:=h'}:=I.turned (λb o hb e=>(sb.2 b hb).trans e) f0 f1 f3 f4 f5;let⟨o,e,c,d⟩:=id st';exact⟨u,rfl,pV e c d (by decide) ⟨x,H,I1,ru,⟨rfl,λys hy=>by rw[I.tuple_inj hy hq];exact hx⟩,st',λb hb=>(hf b hb).1⟩⟩
 done:=by intro X hP hw hK hc i z5 s J H E I hf st hg;subst hP hw hK;obtain⟨xs,hq,hx⟩:=hg;let⟨its,rv,p,hz⟩:=I.tuple hq;let⟨f0,f1,f2,f3,f4,f5⟩:=hf it (by simp);have hl:=rv.length;exact wpAny_pyNext_tuple_end (I.ok.hd hc) st (p) (by simp;lia) λh' eb=>⟨rfl,I.turned (λb o hb e=>eb b o hb e) f0 f1 f3 f4 f5⟩
 self:=λ_ _ _ _ _ st h=>wpAny_pyIter_tupleiter st h
def qdp{P:Program}{w:World}{K:am}{tg:Expr}{it:Addr}(lo:Int)(n:Nat):Turn P w K tg (u6 lo n) [it] it (λi h=>IsRangeIter h it (lo+(i:Nat)*1) ((n:Int)-(i:Nat)) 1) where
 mem:=by simp
 obj:=λi h st b hb=>by
  have e:b=it:=by simpa using hb
  subst e;exact⟨_,st,λv z=>by have z':=z;cases z'⟩
 keep:=λi h h' st k=>k it (by simp) _ st
 item:=by intro X hP hw hK hc i z5 s J H E I hf st hg;subst hP hw hK;let⟨f0,f1,f2,f3,f4,f5⟩:=hf it (by simp);have W:=Walks.range (prog:=X.prog) (w:=X.w) (I.ok.hd hc) it lo 1 n;refine W.item i s _ _ hg st λv h' tk hv st' kk=>?_;obtain⟨t,rfl⟩:=hv;have I1:Inv X z5 J H {s with heap:=h',toks:=tk}:=I.turned (λb o hb e=>kk b o (by simpa using hb) e) f0 f1 f3 f4 f5;refine⟨_,rfl,pV st' rfl rfl (by decide) ⟨.int (lo+i),H,I1,⟨t,?_⟩,⟨rfl,rfl⟩,st',λb hb=>(hf b hb).1⟩⟩;rw[Int.mul_one]
 done:=by intro X hP hw hK hc i z5 s J H E I hf st hg;subst hP hw hK;let⟨f0,f1,f2,f3,f4,f5⟩:=hf it (by simp);exact wpAny_pyNext_range_end (I.ok.hd hc) st (by have:n<=i:=hg;lia) λh' eb=>⟨rfl,I.turned (λb o hb e=>eb b o hb e) f0 f1 f3 f4 f5⟩
 self:=λ_ _ _ _ _ st h=>wpAny_pyIter_rangeiter st h
section
variable{X:Cx}{tg:Expr}
def wt(K:am)(tl:TE):TI:=λJ H R=>tl J H λx H1=>∃a,x=.ref a/\(∃xs,SqL K H1 a xs)/\R (AC K a) H1
def oa(K:am)(tl:TE):TI:=λJ H R=>tl J H λx H1=>∃a,x=.ref a/\(∃xs,SqT K H1 a xs)/\R (AB K a) H1
def qor{l:Expr}{tl:TE}(hl:PE X l tl):PI X tg l (wt X.K tl):=by
 intro z5 s J H R I h;refine bf (hl z5 s J H _ I h) λv s1 ⟨x,H1,I1,r1,q1⟩=>?_;obtain⟨a,e,⟨xs,hq⟩,q⟩:=q1;subst e;cases r1;let⟨its,rv,p,hz⟩:=I1.list hq;apply wpAny_pyIter_list p.isList;refine⟨s1.heap.objs.size,[s1.heap.objs.size],_,_,H1,rfl,I1.kept λb o e=>je _ e,qf2 a _,⟨_,ju _ rfl,rfl,rfl⟩,λb hb=>?_,q⟩;have e:b=s1.heap.objs.size:=by simpa using hb
 subst e;exact I1.fpOk (jg _) (I1.hok.fresh (jg _))
def qt9{l:Expr}{tl:TE}(hl:PE X l tl):PI X tg l (oa X.K tl):=by
 intro z5 s J H R I h;refine bf (hl z5 s J H _ I h) λv s1 ⟨x,H1,I1,r1,q1⟩=>?_;obtain⟨a,e,⟨xs,hq⟩,q⟩:=q1;subst e;cases r1;let⟨its,rv,p,hz⟩:=I1.tuple hq;apply wpAny_pyIter_tuple (p);refine⟨s1.heap.objs.size,[s1.heap.objs.size],_,_,H1,rfl,I1.kept λb o e=>je _ e,qdo a _,⟨_,ju _ rfl,rfl,rfl⟩,λb hb=>?_,q⟩;have e:b=s1.heap.objs.size:=by simpa using hb
 subst e;exact I1.fpOk (jg _) (I1.hok.fresh (jg _))
def qk5{z5:Z3}{J:St}{H:Hp}{s:Shared}{R:It->Hp->Prop}{E:Z0}{lo hi:Int}{t u v:Tok}{tk:Nat}(I:Inv X z5 J H s)(h1: -(2^62)<=lo)(h2:lo<2^62)(h3: -(2^62)<=hi)(h4:hi<2^62)
 (q:R (u6 lo (hi-lo).toNat) H):wpAny (model X.prog X.w) X.A (pyIter (.ref s.heap.objs.size)) (Iv X z5 J tg R) E {s with heap:=s.heap.push {cls:=.type "range",data:=.fields #[.int lo t,.int hi u,.int 1 v]},toks:=tk}:=by
 apply wpAny_pyIter_range (IsRange.new ..) (small_one h1 h2 h3 h4);have I1:Inv X z5 J H {s with heap:=s.heap.push {cls:=.type "range",data:=.fields #[.int lo t,.int hi u,.int 1 v]},toks:=tk}:=I.kept λb o e=>je _ e;refine⟨(s.heap.push {cls:=.type "range",data:=.fields #[.int lo t,.int hi u,.int 1 v]}).objs.size,[(s.heap.push {cls:=.type "range",data:=.fields #[.int lo t,.int hi u,.int 1 v]}).objs.size],_,_,H,rfl,
  I1.kept λb o e=>je _ e,qdp lo (hi-lo).toNat,?_,λb hb=>?_,q⟩
 .have e1:lo+((0:Nat):Int)*1=lo:=by simp
  have e2:(((hi-lo).toNat:Nat):Int)-((0:Nat):Int)=Builtin.Range.rangeSize lo hi 1:=by rw[rangeSize_one];split<;>lia
  rw[e1,e2];exact ju _ rfl
 .have e:b=(s.heap.push {cls:=.type "range",data:=.fields #[.int lo t,.int hi u,.int 1 v]}).objs.size:=by simpa using hb
  subst e;exact I1.fpOk (jg _) (I1.hok.fresh (jg _))
def Dk(ta:TA):TI:=λJ H R=>ta J H λvs H1=>∃j:Int,vs=[.int j]/\ -(2^62)<=j/\j<2^62/\R (u6 0 j.toNat) H1
def jY{a:Expr}{ta:TA}{p pos:Pos}(hg:Gl X "range")(hm:X.mg "range"=none)(ha:PA X [a] ta)(hs:starEach [a] X.env=[(false,eval a X.env)]:=by rfl):PI X tg (.Call (.Name "range" p) [a] [] pos) (Dk ta):=by
 intro z5 s J H R I h;refine Call_ (iD I hg hm boot_range (PyProof.Rows.callWith_type1 (bf (ha pos z5 s J H _ I h) λus s1 ⟨vs,H1,I1,r1,q1⟩=>?_) hs rfl));obtain⟨j,e,q1,q2,q⟩:=q1;subst e;cases r1 with
 | cons r rr=>
  cases rr;obtain⟨t,rfl⟩:=r;exact call_range_1 (qk5 I1 (by lia) (by lia) q1 q2 (by simpa using q))
def nH(wi:TI)(g:TG)(tb:TS):TS:=λD J H=>wi J H λσ H1=>∃W:Nat->Nat->St->Hp->Prop,(∃m,W 0 m J H1)/\∀i m J H,W i m J H->
 (σ.stop i H/\D.nx J H)∨(σ.go i H/\∃N:St->Hp->Prop,(∀J' H',N J' H'->∃m',m'<m/\W (i+1) m' J' H')/\∀x H',σ.yld i H x H'->g x J H' λJ2 H2=>tb {D with nx:=N,ct:=N,bk:=D.nx} J2 H2)
noncomputable def qw(fp:List Addr)(h:Heap):List (Addr×Obj):=fp.filterMap λb=>(h.get? b).map λo=>(b,o)
def uL{fp:List Addr}{h:Heap}{b:Addr}{o:Obj}(hb:b∈fp)(e:h.get? b=some o):(b,o)∈qw fp h:=List.mem_filterMap.mpr ⟨b,hb,by rw[e];rfl⟩
def qhl{fp:List Addr}{h:Heap}{p:Addr×Obj}(hp:p∈qw fp h):p.1∈fp/\h.get? p.1=some p.2:=by
 let⟨b,hb,e⟩:=List.mem_filterMap.mp hp;cases q:h.get? b with
 |none=>rw[q]at e;cases e
 | some o=>
  rw[q]at e;have e':=jm e;subst e';exact⟨hb,q⟩
def Inv.pinned{z5:Z3}{J:St}{H:Hp}{s:Shared}{fp:List Addr}(I:Inv X z5 J H s)(hf:∀b∈fp,gB X z5 H b)(ho:∀b∈fp,∃o,s.heap.get? b=some o/\∀v,o.data≠.cell v):Inv X (z5++qw fp s.heap) J H s:=
 I.pins_of λp hp=>(List.mem_append.mp hp).elim (λz=>I.pin p (x9 _ z)) λz=>by let⟨hb,e⟩:=qhl z;let⟨f0,f1,f2,_⟩:=hf p.1 hb;let⟨o,e',d⟩:=ho p.1 hb;rw[e]at e';cases e';exact⟨e,f0,f1,f2,d⟩
def Inv.unpinned{z5 pl:Z3}{J:St}{H:Hp}{s:Shared}(I:Inv X (z5++pl) J H s):Inv X z5 J H s:=I.pins_of λp hp=>I.pin p (x9 _ (mem_append_left _ hp))
def hZ{ze:Expr}{body:Zh}{wi:TI}{g:TG}{tb:TS}{pos:Pos}(hp:PassesOwn (model X.prog X.w) X.A X.env X.xe)(hc:X.calm=true)(hi:PI X tg ze wi)(hg:PG X tg g)(hb:PSs X body tb)
 (hs:∀x,foldedSetIterable ze X.env x=pure x:=by intro _;rfl):PS X (.For tg ze body [] pos) (nH wi g tb):=by
 intro z5 s J H D I h;refine wpAny_For (bf (hi z5 s J H _ I h) λv s1 h1=>bf h1 λitv s2 h2=>?_) hs;obtain⟨it,fp,tn,σ,H2,e,I2,T,st2,f2,W,⟨m0,w0⟩,turn⟩:=h2;subst e
 -- what stays true of the iterator's objects through the loop
 have stat:∀{H':Hp},(∀b∈fp,H' b=none)->∀b∈fp,gB X z5 H' b:=λhn b hb=>⟨hn b hb,(f2 b hb).2⟩;refine codeAny_forLoop_any (λn s'=>∃i J' H',Inv X z5 J' H' s'/\tn i s'.heap/\(∀b∈fp,H' b=none)/\W i n J' H') ?_ m0 ⟨0,J,H2,I2,st2,λb hb=>(f2 b hb).1,w0⟩;rintro n s3 ⟨i,J3,H3,I3,st3,fr3,w3⟩;rcases turn i n J3 H3 w3 with⟨stop,qn⟩|⟨go,N,hN,step⟩
 .refine vh hp (bf (T.done X rfl rfl rfl hc i z5 s3 J3 H3 X.xe I3 (stat fr3) st3 stop) λr s4 ⟨hr,I4⟩=>?_);subst hr;exact wpAny_execs_nil ⟨J3,H3,I4,qn⟩
 .refine vh hp (bf (T.item X rfl rfl rfl hc i z5 s3 J3 H3 X.xe I3 (stat fr3) st3 go) λr s4 ⟨u,hr,h4⟩=>?_);subst hr;refine vh hp (bf h4 λ_ s5 ⟨x,H5,I5,r5,y5,st5,fr5⟩=>?_);refine vh hp (bf (hg _ s5 J3 H5 x u _ (I5.pinned (stat fr5) (T.obj _ _ st5)) r5 (step x H5 y5)) λ_ s6 ⟨J6,H6,I6,q6⟩=>?_);refine vh hp (bf (hb _ s6 J6 H6 _ I6 q6) λf s7 q7=>?_);have again:∀{J7:St} {H7:Hp},Inv X (z5++qw fp s5.heap) J7 H7 s7->N J7 H7->∃m,m<n/\∃i J' H',Inv X z5 J' H' s7/\tn i s7.heap/\(∀b∈fp,H' b=none)/\W i m J' H':=λ{J7 H7} I7 n7=>by
   let⟨m',hm,w7⟩:=hN J7 H7 n7;refine⟨m',hm,i+1,J7,H7,I7.unpinned,T.keep _ _ _ st5 λb hb o e=>(I7.pin (b,o) (x9 _ (x9 _ (uL hb e)))).1,λb hb=>?_,w7⟩;let⟨o,e,d⟩:=T.obj _ _ st5 b hb;exact(I7.pin (b,o) (x9 _ (x9 _ (uL hb e)))).2.1
  cases f with
  |next=>obtain⟨J7,H7,I7,n7⟩:=q7;exact again I7 n7
  |cont=>obtain⟨J7,H7,I7,n7⟩:=q7;exact again I7 n7
  |brk=>obtain⟨J7,H7,I7,q7⟩:=q7;exact⟨J7,H7,I7.unpinned,q7⟩
  |ret v=>obtain⟨x7,J7,H7,I7,r7,q7⟩:=q7;exact⟨x7,J7,H7,I7.unpinned,r7,q7⟩
end
abbrev R2:=V->V->Hp->VK->Prop
def OpR(X:Cx)(f:Value->Value->Sem Value)(r:R2):Prop:=
 ∀(z5:Z3) (s:Shared) (J:St) (H:Hp) (x y:V) (v u:Value) (Q:VK),Inv X z5 J H s->RelV x v->RelV y u->r x y H Q->
   wpAny (model X.prog X.w) X.A (f v u) (EP X z5 J Q) X.xe s
def Az(X:Cx)(f:Value->Sem Value)(r:V->Hp->VK->Prop):Prop:=
 ∀(z5:Z3) (s:Shared) (J:St) (H:Hp) (x:V) (v:Value) (Q:VK),Inv X z5 J H s->RelV x v->r x H Q->
   wpAny (model X.prog X.w) X.A (f v) (EP X z5 J Q) X.xe s
def gf(X:Cx)(f:Value)(r:List V->Hp->VK->Prop):Prop:=
 ∀(z5:Z3) (s:Shared) (J:St) (H:Hp) (xs:List V) (us:Ze) (Q:VK),Inv X z5 J H s->Vals xs us->r xs H Q->
   wpAny (model X.prog X.w) X.A (call f us) (EP X z5 J Q) X.xe s
def jO(r:R2)(ta tb:TE):TE:=λJ H Q=>ta J H λx H1=>tb J H1 λy H2=>r x y H2 Q
def C6(r:V->Hp->VK->Prop)(ta:TE):TE:=λJ H Q=>ta J H λx H1=>r x H1 Q
def rI(C:Int->Int->Prop)(g:Int->Int->V):R2:=λx y H Q=>∃i j,x=.int i/\y=.int j/\C i j/\Q (g i j) H
def gM(g:Int->Int->V):R2:=λx y H Q=>∃i j,x=.int i/\y=.int j/\Q (g i j) H
def rU(g:Int->V):V->Hp->VK->Prop:=λx H Q=>∃i,x=.int i/\Q (g i) H
section
variable{X:Cx}{a b c:Expr}{ta tb tc:TE}{pos:Pos}
def om(ha:PE X a ta)(hb:PE X b tb){z5:Z3}{s:Shared}{J:St}{H:Hp}{R:V->V->Hp->Prop}(I:Inv X z5 J H s)
 (h:ta J H λx H1=>tb J H1 λy H2=>R x y H2) {Q:Z0} {f:Value->Value->Sem Value}
 (hf:∀v u s2 x y H2,Inv X z5 J H2 s2->RelV x v->RelV y u->R x y H2->wpAny (model X.prog X.w) X.A (f v u) Q X.xe s2):
 wpAny (model X.prog X.w) X.A (eval a X.env) (λv s₁=>wpAny (model X.prog X.w) X.A (eval b X.env) (λu s₂=>wpAny (model X.prog X.w) X.A (f v u) Q X.xe s₂) X.xe s₁) X.xe s:=by
 refine bf (ha z5 s J H _ I h) λv s1 ⟨x,H1,I1,r1,q1⟩=>?_;refine bf (hb z5 s1 J H1 _ I1 q1) λu s2 ⟨y,H2,I2,r2,q2⟩=>?_;exact hf v u s2 x y H2 I2 r1 r2 q2
def bd{op:Operator}{r:R2}(ho:OpR X (binaryOp op) r)(ha:PE X a ta)(hb:PE X b tb):PE X (.BinOp a op b pos) (jO r ta tb):=by intro z5 s J H Q I h;exact wpAny_BinOp (om ha hb I h λv u s2 x y H2 I2 rx ry q=>ho z5 s2 J H2 x y v u Q I2 rx ry q)
def qxt{op:UnaryOp}{r:V->Hp->VK->Prop}(ho:Az X (unaryOp op) r)(ha:PE X a ta):PE X (.UnaryOp op a pos) (C6 r ta):=by intro z5 s J H Q I h;exact UnaryOp_ (bf (ha z5 s J H _ I h) λv s1 ⟨x,H1,I1,r1,q1⟩=>ho z5 s1 J H1 x v Q I1 r1 q1)
def qS{f:Value->Value->Sem Value}{C:Int->Int->Prop}{g:Int->Int->Int}
 (rule:∀(i j:Int) (t u:Tok) (s:Shared) (Q:Z0) (E:Z0),C i j->Q (.int (g i j) s.toks) {s with toks:=s.toks+1}->wpAny (model X.prog X.w) X.A (f (.int i t) (.int j u)) Q E s):
 OpR X f (rI C λi j=>.int (g i j)):=by
 intro z5 s J H x y v u Q I rx ry h;obtain⟨i,j,rfl,rfl,hc,q⟩:=h;obtain⟨t,rfl⟩:=rx;obtain⟨t',rfl⟩:=ry;exact rule i j t t' s _ _ hc ⟨.int (g i j),H,I.tok _,⟨_,rfl⟩,q⟩
def lR{f:Value->Value->Sem Value}{g:Int->Int->Int}
 (rule:∀(i j:Int) (t u:Tok) (s:Shared) (Q:Z0) (E:Z0),Q (.int (g i j) s.toks) {s with toks:=s.toks+1}->wpAny (model X.prog X.w) X.A (f (.int i t) (.int j u)) Q E s):
 OpR X f (gM λi j=>.int (g i j)):=by
 intro z5 s J H x y v u Q I rx ry h;obtain⟨i,j,rfl,rfl,q⟩:=h;obtain⟨t,rfl⟩:=rx;obtain⟨t',rfl⟩:=ry;exact rule i j t t' s _ _ ⟨.int (g i j),H,I.tok _,⟨_,rfl⟩,q⟩
def nX{f:Value->Value->Sem Value}{g:Int->Int->Bool}
 (rule:∀(i j:Int) (t u:Tok) (s:Shared) (Q:Z0) (E:Z0),Q (.bool (g i j)) s->wpAny (model X.prog X.w) X.A (f (.int i t) (.int j u)) Q E s):
 OpR X f (gM λi j=>.bl (g i j)):=by
 intro z5 s J H x y v u Q I rx ry h;obtain⟨i,j,rfl,rfl,q⟩:=h;obtain⟨t,rfl⟩:=rx;obtain⟨t',rfl⟩:=ry;exact rule i j t t' s _ _ ⟨.bl (g i j),H,I,rfl,q⟩
def sr(i j:Int):Prop:=0<j/\j<1073741824
def l9(i j:Int):Prop:=0<=j/\j<=1000000/\i.natAbs<2^64
def CMul(i j:Int):Prop:=(-(2^64)<i/\i<2^64)∨(-(2^64)<j/\j<2^64)
def CMul.ok{i j:Int}(h:CMul i j):IntMulOk i j:=by
 rcases h with⟨h1,h2⟩|⟨h1,h2⟩
 .exact .of_left (intBits_le_64 h1 h2)
 .exact .of_right (intBits_le_64 h1 h2)
def op_add:OpR X (binaryOp .Add) (gM λi j=>.int (i+j)):=lR λ_ _ _ _ _ _ _ q=>add_int q
def t7:OpR X (binaryOp .Sub) (gM λi j=>.int (i-j)):=lR λ_ _ _ _ _ _ _ q=>sub_int q
def nj:OpR X (binaryOp .FloorDiv) (rI sr λi j=>.int (i / j)):=qS λi j _ _ _ _ _ hc q=>by have h1:=hc.1;have h2:=hc.2;exact floordiv_int (by lia) (by rw[Int.fdiv_eq_ediv_of_nonneg i (by lia)];exact q) (.inl (PyProof.noPylong_small (by lia)))
def fu:OpR X (binaryOp .Mod) (rI (λ_ j=>0<j) λi j=>.int (i % j)):=qS λi j _ _ _ _ _ hc q=>by have h1:=hc;exact mod_int' (by lia) (by rw[Int.fmod_eq_emod_of_nonneg i (by lia)];exact q)
def t5:OpR X (binaryOp .Pow) (rI l9 λi j=>.int (i^j.toNat)):=qS λ_ _ _ _ _ _ _ hc q=>pow_int_small hc.1 hc.2.1 hc.2.2 q
def t6:OpR X (binaryOp .LShift) (rI l9 λi j=>.int (i*2^j.toNat)):=qS λ_ _ _ _ _ _ _ hc q=>lshift_int_small hc.1 hc.2.1 hc.2.2 q
def xK:OpR X (binaryOp .BitAnd) (gM λi j=>.int (Builtin.bitAnd i j)):=lR λ_ _ _ _ _ _ _ q=>and_int q
def qtj:OpR X (binaryOp .BitXor) (gM λi j=>.int (Builtin.bitXor i j)):=lR λ_ _ _ _ _ _ _ q=>xor_int q
def unI{f:Value->Sem Value}{g:Int->Int}
 (rule:∀(i:Int) (t:Tok) (s:Shared) (Q:Z0) (E:Z0),Q (.int (g i) s.toks) {s with toks:=s.toks+1}->wpAny (model X.prog X.w) X.A (f (.int i t)) Q E s):
 Az X f (rU λi=>.int (g i)):=by
 intro z5 s J H x v Q I rx h;obtain⟨i,rfl,q⟩:=h;obtain⟨t,rfl⟩:=rx;exact rule i t s _ _ ⟨.int (g i),H,I.tok _,⟨_,rfl⟩,q⟩
def qrr:Az X (unaryOp .USub) (rU λi=>.int (-i)):=unI λ_ _ _ _ _ q=>neg_int q
def En{z5:Z3}{J:St}{H:Hp}{s:Shared}{Q:VK}{k k':Bool}(I:Inv X z5 J H s)(q:Q (.bl k) H)(e:k=k'):EP X z5 J Q (.bool k') s:=by subst e;exact⟨.bl k,H,I,rfl,q⟩
def tG:OpR X (compareOp .Lt) (gM λi j=>.bl (decide (i<j))):=nX λ_ _ _ _ _ _ _ q=>lt_int q
def DE:OpR X (compareOp .LtE) (gM λi j=>.bl (decide (i<=j))):=nX λ_ _ _ _ _ _ _ q=>le_int q
def wz:OpR X (compareOp .Gt) (gM λi j=>.bl (decide (j<i))):=nX λ_ _ _ _ _ _ _ q=>gt_int q
def EQ:OpR X (compareOp .Is) (λx y H Q=>y=.non/\Q (.bl (decide (x=.non))) H):=by
 intro z5 s J H x y v u Q I rx ry h;obtain⟨rfl,q⟩:=h;cases ry;refine is_none_gen (En I q ?_);cases x<;>first
  |(cases rx;rfl)
  |(obtain⟨t,rfl⟩:=rx;rfl)
def FN:OpR X (compareOp .IsNot) (λx y H Q=>y=.non/\Q (.bl (!decide (x=.non))) H):=by
 intro z5 s J H x y v u Q I rx ry h;obtain⟨rfl,q⟩:=h;cases ry;refine isnot_none_gen (En I q ?_);cases x<;>first
  |(cases rx;rfl)
  |(obtain⟨t,rfl⟩:=rx;rfl)
def OpR.or{f:Value->Value->Sem Value}{r r':R2}(h:OpR X f r)(h':OpR X f r'):OpR X f (λx y H Q=>r x y H Q∨r' x y H Q):=by
 intro z5 s J H x y v u Q I rx ry q;rcases q with q|q
 .exact h z5 s J H x y v u Q I rx ry q
 .exact h' z5 s J H x y v u Q I rx ry q
def dc{b:Expr}{op:CmpOp}(h:op≠.In:=by decide)(h2:op≠.NotIn:=by decide):behindInMarks op b=false:=by
 have e1:(op==CmpOp.In)=false:=by cases op<;>first|rfl|exact absurd rfl h
 have e2:(op==CmpOp.NotIn)=false:=by cases op<;>first|rfl|exact absurd rfl h2
 cases b<;>simp[behindInMarks,e1,e2]
def yO{op:CmpOp}{r:R2}(ho:OpR X (compareOp op) r)(ha:PE X a ta)(hb:PE X b tb)(hm:behindInMarks op b=false):PE X (.Compare a [op] [b] pos) (jO r ta tb):=by intro z5 s J H Q I h;exact wpAny_Compare1 (om ha hb I h λv u s2 x y H2 I2 rx ry q=>ho z5 s2 J H2 x y v u Q I2 rx ry q) hm
def D4(t:TE):TT:=λJ H Q=>t J H λx H'=>∃k,x=.bl k/\Q k H'
def dz{op:CmpOp}{r:R2}(ho:OpR X (compareOp op) r)(ha:PE X a ta)(hb:PE X b tb)(hm:behindInMarks op b=false):PT X (.Compare a [op] [b] pos) (D4 (jO r ta tb)):=by
 intro z5 s J H Q I h;refine wpAny_isTrue_Compare1 (bf (ha z5 s J H _ I h) λv s1 ⟨x,H1,I1,r1,q1⟩=>bf (hb z5 s1 J H1 _ I1 q1) λu s2 ⟨y,H2,I2,r2,q2⟩=>
  bf (ho z5 s2 J H2 x y v u _ I2 r1 r2 q2) λc s3 ⟨z,H3,I3,r3,k,e,q3⟩=>?_) hm
 subst e;cases r3;exact ku ⟨H3,I3,q3⟩
def E8(r r':R2)(ta tb tc:TE):TE:=λJ H Q=>ta J H λx H1=>tb J H1 λy H2=>r x y H2 λz H3=>∃k,z=.bl k/\
 (if k=true then tc J H3 λw' H4=>r' y w' H4 Q else Q (.bl false) H3)
def qkb{op op':CmpOp}{r r':R2}(ho:OpR X (compareOp op) r)(ho':OpR X (compareOp op') r')(ha:PE X a ta)(hb:PE X b tb)(hc:PE X c tc)
 (hm:lastMarks [op,op'] [b,c]=false:=by with_unfolding_all rfl):PE X (.Compare a [op,op'] [b,c] pos) (E8 r r' ta tb tc):=by
 intro z5 s J H Q I h;refine Compare_chain (bf (ha z5 s J H _ I h) λv s1 ⟨x,H1,I1,r1,q1⟩=>chain_link (bf (hb z5 s1 J H1 _ I1 q1) λu s2 ⟨y,H2,I2,r2,q2⟩=>
  bf (ho z5 s2 J H2 x y v u _ I2 r1 r2 q2) λd s3 ⟨z,H3,I3,r3,k,e,q3⟩=>?_)) hm
 subst e;cases r3;apply ku;cases k with
 |false=>exact ite_ff ⟨.bl false,H3,I3,rfl,q3⟩
 |true=>exact ite_tt (chain_last (bf (hc z5 s3 J H3 _ I3 q3) λw' s4 ⟨z',H4,I4,r4,q4⟩=>ho' z5 s4 J H4 y z' u w' Q I4 r2 r4 q4))
def qo:(sizeLine:Nat)<2^63:=by rw[kf];decide
def qe5:OpR X (binaryOp .Add) (λx y H Q=>∃i j,x=.str i/\y=.str j/\i.length+j.length<=sizeLine/\Q (.str (i++j)) H):=by intro z5 s J H x y v u Q I rx ry h;obtain⟨i,j,rfl,rfl,hz,q⟩:=h;obtain⟨t,rfl⟩:=rx;obtain⟨t',rfl⟩:=ry;exact add_str (λt' tk=>⟨.str (i++j),H,I.tok _,⟨_,rfl⟩,q⟩) hz
def cj{x:V}{us:Ze}(r:Vals [x] us):∃u,us=[u]/\RelV x u:=by
 cases r with
 |cons r1 r2=>cases r2;exact⟨_,rfl,r1⟩
def fP{x y:V}{us:Ze}(r:Vals [x,y] us):∃u w',us=[u,w']/\RelV x u/\RelV y w':=by
 cases r with
 | cons r1 r2=>
  cases r2 with
  |cons r3 r4=>cases r4;exact⟨_,_,rfl,r1,r3⟩
def G9(hc:X.calm=true):gf X (.builtin "max") (λxs H Q=>∃i j,xs=[.int i,.int j]/\Q (.int (if j>i then j else i)) H):=by
 intro z5 s J H xs us Q I r h;obtain⟨i,j,rfl,q⟩:=h;obtain⟨u,w',rfl,⟨t,rfl⟩,⟨t',rfl⟩⟩:=fP r;refine max_two_ints (I.ok.hd hc) λh' tk k=>⟨_,H,I.kept k,?_,q⟩;by_cases hj:j>i
 .rw[if_pos hj,if_pos hj];exact⟨_,rfl⟩
 .rw[if_neg hj,if_neg hj];exact⟨_,rfl⟩
def Ha(hc:X.calm=true):gf X (.builtin "min") (λxs H Q=>∃i j,xs=[.int i,.int j]/\Q (.int (if j<i then j else i)) H):=by
 intro z5 s J H xs us Q I r h;obtain⟨i,j,rfl,q⟩:=h;obtain⟨u,w',rfl,⟨t,rfl⟩,⟨t',rfl⟩⟩:=fP r;refine min_two_ints (I.ok.hd hc) λh' tk k=>⟨_,H,I.kept k,?_,q⟩;by_cases hj:j<i
 .rw[if_pos hj,if_pos hj];exact⟨_,rfl⟩
 .rw[if_neg hj,if_neg hj];exact⟨_,rfl⟩
def G8:gf X (.type "int") (λxs H Q=>(∃i,xs=[.int i]/\Q (.int i) H)∨∃k,xs=[.bl k]/\Q (.int (if k then 1 else 0)) H):=by
 intro z5 s J H xs us Q I r h;rcases h with⟨i,rfl,q⟩|⟨k,rfl,q⟩
 .obtain⟨u,rfl,t,rfl⟩:=cj r;exact call_int_int ⟨.int i,H,I,⟨_,rfl⟩,q⟩
 .obtain⟨u,rfl,r1⟩:=cj r;cases r1;exact call_int_bool ⟨.int (if k then 1 else 0),H,I.tok _,⟨_,rfl⟩,q⟩
end
structure ObjM(h:Heap)(x dx C:Addr)(mA:Za):Prop where
 obj:h.get? x=some (W.instObj C dx)
 ns:h.Ns1 dx mA
 ne:dx≠x
def qi3{h:Heap}{dx:Addr}{mA:Za}(n:h.Ns1 dx mA):∃od,h.get? dx=some od/\∀name,W.lookIn name od=some (mA name):=by
 obtain⟨o,es,ep,ho,hd,hk,_,hm⟩:=n;refine⟨o,ho,λname=>?_⟩;have e:=hm name;unfold nsFind findBy at e;rw[<-Array.find?_toList]at e;unfold W.lookIn;rw[hd];dsimp only;split
 .rename_i y q;rw[q]at e;exact congrArg some e
 .rename_i q;rw[q]at e;have a:es.toList.any (·.refKey)=false:=by
   rw[List.any_eq_false];intro y hy;let⟨z,t,hkey⟩:=hk y (Array.mem_toList_iff.mp hy);simp[DictEntry.refKey,hkey]
  have a':¬es.toList.any (·.refKey)=true:=by rw[a];exact Bool.false_ne_true
  rw[if_neg a'];exact congrArg some e
def ObjM.look{h:Heap}{x dx C:Addr}{mA:Za}(I:ObjM h x dx C mA):∃od,W.InstAt h x (W.instObj C dx) C (some od)/\∀name,W.lookIn name od=some (mA name):=
 let ⟨od,ho,hl⟩:=qi3 I.ns
 ⟨od,⟨I.obj,rfl,rfl,ho⟩,hl⟩
section
variable{prog:Program}{w:World}{A:Around}{E:Z0}{s:Shared}{K:am}{x dx C f:Addr}{mA:Za}{name:Str}{v:Value}
def mf{expr:Bool}{Q:Z0}(X:K.In s.heap)(I:ObjM s.heap x dx C mA)(hg:W.plainGet K C name=true)(hh:W.hasDictIn K C=true)
 (ha:W.findIn K (.ref C) name=some none) (hv:mA name=some v) (hv':W.handedIn v=true) (h:Q v {s with toks:=s.toks+1}):
 wpAny (model prog w) A (getAttr (.ref x) name expr) Q E s:=by
 obtain⟨od,σ,hl⟩:=I.look;exact W.get_value X σ (W.plainGet_of hg).1 (W.findObj_own hh ha rfl (by rw[hl,hv])) hv' h
def ql8{pl:Sem Bool}{Q:Value×List Value->Shared->Prop}(X:K.In s.heap)(I:ObjM s.heap x dx C mA)(hg:W.plainGet K C name=true)
 (hf:W.findIn K (.ref C) name=some (some (.ref f))) (ht:W.isFn K (.ref f)=true) (hv:mA name=none) (h:Q (.ref f,[.ref x]) s):
 wpAny (model prog w) A (getMethod (.ref x) name pl) Q E s:=by
 obtain⟨od,σ,hl⟩:=I.look;exact W.method_fn X σ (W.plainGet_of hg).1 (W.plainGet_of hg).2 hf (beq_iff_eq.mp ht) (by show(W.lookIn name od).map (·.isSome)=some false;rw[hl,hv];rfl) h
def qoh{ns:Zj}{Q:Unit->Shared->Prop}(X:K.In s.heap)(I:ObjM s.heap x dx C mA)
 (hs:W.findIn K (.ref C) "__setattr__"=some (some (.builtin "object.__setattr__"))) (hp:W.plainOver K C=true) (ht:W.takerIn K C name=some none) (hh:W.hasDictIn K C=true)
 (hw:PySem.Within mA ns) (hsz:ns.length<=sizeLine)
 (h:∀h',ObjM h' x dx C (λy=>if y=name then some v else mA y)->SameBut dx s.heap h'->Q () {s with heap:=h',toks:=s.toks+2}):
 wpAny (model prog w) A (setAttr (.ref x) name v) Q E s:=by
 obtain⟨od,σ,hl⟩:=I.look;refine W.set_plain X σ hs (W.osa_open X σ hp ht λb=>?_);let⟨cd,hc,hd'⟩:=W.any_some hh;refine j9 (jb (j9 (j9 (wpAny_loadPart I.obj (j9 (W.Looks.here (W.looks_clsIn X hc) ?_))))));rw[hd'];refine jb (j9 (jb (j9 ?_)));refine wpAny_nsSet1 I.ns λh' hn2 hs2=>?_;let⟨oD,esD,epD,hoD,hdD,hcD⟩:=hn2.count (PySem.Within.cons name v hw);refine j9 (wpAny_lookBehind hoD (by rw[hdD];exact pastItsLine_dict (jz hcD (by rw[jy];lia))) ?_);exact jb (h _ ⟨(hs2.2 _ (Ne.symm I.ne)).trans I.obj,hn2,I.ne⟩ hs2)
def qkv{R:Zb}{vs:Ze}{kw:List (Str×Value)}(X:K.In s.heap)(hm:W.makesIn K C=true)
 (hi:W.findIn K (.ref C) "__init__"=some (some (.ref f))) (hf:W.typeIn K (.ref f)=some (.type "function"))
 (h:codeAny (model prog w) (A.under (.builtin "type.__call__" ⟨.ref C::vs,kw⟩)) (.call (.ref f) ⟨.ref (s.heap.objs.size+1)::vs,kw⟩) (W.InitBack (s.heap.objs.size+1) R)
   {s with heap:=(s.heap.push W.emptyDict).push (W.instObj C s.heap.objs.size)}):
 codeAny (model prog w) A (.call (.ref C) ⟨vs,kw⟩) R s:=by
 obtain⟨hh,g,d,t,os⟩:=s;exact W.make_core (W.makes_of X hm) (W.looks_findIn X hi) (λself=>W.bind_fn X self hf) (.inl rfl) h
def qhy{R:Zb}(X:K.In s.heap)(hm:W.makesIn K C=true)
 (hi:W.findIn K (.ref C) "__init__"=some (some (.builtin "object.__init__")))
 (hb:∀self,W.Looks (model prog w) s.heap (bindSpecial (.builtin "object.__init__") self) (.builtin "object.__init__",[self]))
 (h:codeAny (model prog w) (A.under (.builtin "type.__call__" ⟨[.ref C],[]⟩)) (.call (.builtin "object.__init__") ⟨[.ref (s.heap.objs.size+1)],[]⟩) (W.InitBack (s.heap.objs.size+1) R)
   {s with heap:=(s.heap.push W.emptyDict).push (W.instObj C s.heap.objs.size)}):
 codeAny (model prog w) A (.call (.ref C) ⟨[],[]⟩) R s:=by
 obtain⟨hh,g,d,t,os⟩:=s;exact W.make_core (W.makes_of X hm) (W.looks_findIn X hi) hb (.inr ⟨rfl,rfl⟩) h
end
noncomputable def c6(f:Str)(v:V):List (Str×V)->List (Str×V)
 |[]=>[(f,v)]
 |(g,x)::r=>if g=f then(g,v)::r else(g,x)::c6 f v r
theorem HS(f g:Str)(v:V):∀fs:List (Str×V),(c6 f v fs).lookup g=if g=f then some v else fs.lookup g
 | []=>by
  show List.lookup g [(f,v)]=_;by_cases h:g=f
  .have hb:=beq_iff_eq.mpr h;simp only[List.lookup,hb,if_pos h]
  .have hb:=beq_eq_false_iff_ne.mpr h;simp only[List.lookup,hb,if_neg h]
 | (k,x)::r=>by
  have ih:=HS f g v r;rw[show c6 f v ((k,x)::r)=(if k=f then(k,v)::r else(k,x)::c6 f v r)from rfl];by_cases hk:k=f
  .rw[if_pos hk];by_cases h:g=k
   .have hb:=beq_iff_eq.mpr h;simp only[List.lookup,hb,if_pos (h.trans hk)]
   .have hb:=beq_eq_false_iff_ne.mpr h;simp only[List.lookup,hb,if_neg (λe:g=f=>h (e.trans hk.symm))]
  .rw[if_neg hk];by_cases h:g=k
   .have hb:=beq_iff_eq.mpr h;simp only[List.lookup,hb,if_neg (λe:g=f=>hk (h.symm.trans e))]
   .have hb:=beq_eq_false_iff_ne.mpr h;simp only[List.lookup,hb];exact ih
theorem zR(f:Str)(v:V):∀fs:List (Str×V),f∈(c6 f v fs).map (·.1)/\∀g,g∈fs.map (·.1)->g∈(c6 f v fs).map (·.1)
 |[]=>⟨by simp[c6],λg h=>by simp at h⟩
 | (k,x)::r=>by
  let⟨i1,i2⟩:=zR f v r;rw[show c6 f v ((k,x)::r)=(if k=f then(k,v)::r else(k,x)::c6 f v r)from rfl];by_cases hk:k=f
  .rw[if_pos hk];subst hk;exact⟨by simp,λg h=>by simpa using h⟩
  .rw[if_neg hk];refine⟨?_,λg h=>?_⟩
   .rw[x5];exact ji _ i1
   .rw[x5]at h ⊢;rcases List.mem_cons.mp h with e|e
    .exact List.mem_cons.mpr (.inl e)
    .exact ji _ (i2 g e)
theorem HR(f:Str)(v:V):∀fs:List (Str×V),(c6 f v fs).length<=fs.length+1
 |[]=>by simp[c6]
 | (k,x)::r=>by
  have ih:=HR f v r;rw[show c6 f v ((k,x)::r)=(if k=f then(k,v)::r else(k,x)::c6 f v r)from rfl];by_cases hk:k=f
  .rw[if_pos hk,jy,jy];lia
  .rw[if_neg hk,jy,jy];lia
def RelO.some_of{v:V}{o:Option Value}(r:RelO (some v) o):∃u,o=some u/\RelV v u:=by
 cases o with
 |none=>exact(r).elim
 |some u=>exact⟨u,rfl,r⟩
def RelO.none_of{o:Option Value}(r:RelO none o):o=none:=by
 cases o with
 |none=>rfl
 |some u=>exact(r).elim
def qig{v:V}{u:Value}(r:RelV v u):W.handedIn u=true:=by
 cases v with
 |non=>cases(r);rfl
 |bl b=>cases(r);rfl
 |int i=>let⟨t,e⟩:=(r);cases e;rfl
 |str x=>let⟨t,e⟩:=(r);cases e;rfl
 |byt b=>let⟨t,e⟩:=(r);cases e;rfl
 |flt b=>let⟨t,e⟩:=(r);cases e;rfl
 |ref a=>cases(r);rfl
 |ty n=>cases(show u=Value.type n from r);rfl
section
variable{P:Program}{w:World}{H H':Hp}{h h':Heap}{a C dx:Addr}{fs fs':List (Str×V)}
def uf(hok:HOk P w H h)(e:H a=some (.ins C dx fs)):∃mA,ObjM h a dx C mA/\(∀f,RelO (fs.lookup f) (mA f))/\PySem.Within mA (fs.map (·.1))/\fs.length<=1000/\H dx=some (.own a):=by let⟨d,z,ne,ob,mA,n,r,q⟩:=(hok a _ e);exact⟨mA,⟨ob,n,ne⟩,r,q,z,d⟩
end
structure Cls(K:am)(C:Addr):Prop where
 pg:W.plainGet K C Str.empty=true
 hd:W.hasDictIn K C=true
 po:W.plainOver K C=true
 sa:W.findIn K (.ref C) "__setattr__"=some (some (.builtin "object.__setattr__"))
def Cls.get{K:am}{C:Addr}(c:Cls K C)(f:Str):W.plainGet K C f=true:=c.pg
def NoAttr(K:am)(C:Addr)(f:Str):Prop:=W.findIn K (.ref C) f=some none
def NoAttr.taker{K:am}{C:Addr}{f:Str}(n:NoAttr K C f):W.takerIn K C f=some none:=by unfold W.takerIn;rw[show W.findIn K (.ref C) f=some none from n];rfl
structure Con(K:am)(C:Addr)(f:Str)(v:V)(u:Value):Prop where
 at_:W.findIn K (.ref C) f=some (some u)
 rel:RelV v u
 get:W.specialIn K u "__get__"=some none
 cp:W.copiedNames.contains f=false
structure Meth(K:am)(C:Addr)(m:Str)(f:Addr):Prop where
 at_:W.findIn K (.ref C) m=some (some (.ref f))
 fn:W.isFn K (.ref f)=true
 kp:W.keepIn K (.ref f)=true
section
variable{X:Cx}{z5:Z3}{J:St}{H:Hp}{s:Shared}{a C dx:Addr}{fs:List (Str×V)}{f:Str}{v:V}{A:Around}{E:Z0}
def qeh{b:Bool}{Q:Z0}(I:Inv X z5 J H s)(e:H a=some (.ins C dx fs))(c:Cls X.K C)(n:NoAttr X.K C f)(l:fs.lookup f=some v)
 (h:∀u s',Inv X z5 J H s'->RelV v u->Q u s'):wpAny (model X.prog X.w) A (getAttr (.ref a) f b) Q E s:=by
 obtain⟨mA,O,r,_,_,_⟩:=uf I.hok e;obtain⟨u,hu,ru⟩:=RelO.some_of (by rw[<-l];exact r f);exact mf I.kIn O (c.get f) c.hd n hu (qig ru) (h u _ (I.tok _) ru)
def qeg{m:Str}{g:Addr}{pl:Sem Bool}{Q:Value×List Value->Shared->Prop}(I:Inv X z5 J H s)(e:H a=some (.ins C dx fs))(c:Cls X.K C)(k:Meth X.K C m g)(l:fs.lookup m=none)
 (h:Q (.ref g,[.ref a]) s):wpAny (model X.prog X.w) A (getMethod (.ref a) m pl) Q E s:=by
 let⟨mA,O,r,_,_,_⟩:=uf I.hok e;have hn:=RelO.none_of (by rw[<-l];exact r m);exact ql8 I.kIn O (c.get m) k.at_ k.fn hn h
def qdt{y:V}{u:Value}{Q:Unit->Shared->Prop}(I:Inv X z5 J H s)(e:H a=some (.ins C dx fs))(c:Cls X.K C)(n:NoAttr X.K C f)(hl:fs.length<1000)(ry:RelV y u)
 (h:∀s',Inv X z5 J (aM H a (.ins C dx (c6 f y fs))) s'->Q () s'):wpAny (model X.prog X.w) A (setAttr (.ref a) f u) Q E s:=by
 let⟨mA,O,r,wi,_,ho⟩:=uf I.hok e;have hz:(fs.map (·.1)).length<=sizeLine:=by rw[ja,kf];lia
 refine qoh I.kIn O c.sa c.po n.taker c.hd wi hz λh' O' sb=>h _ ?_;have hd:∃o,h'.get? dx=some o:=let ⟨o,_,_,e',_⟩:=O'.ns;⟨o,e'⟩
 refine I.write (by rw[e];exact True.intro) (.inr ho) (λb q hb z=>(sb.2 b hb).trans z) hd ?_;refine⟨by rw[aX O.ne];exact ho,?_,O.ne,O'.obj,_,O'.ns,λg=>?_,λg hg=>?_⟩
 .have:=HR f y fs;lia
 .show RelO ((c6 f y fs).lookup g) (if g=f then some u else mA g);rw[HS];by_cases q:g=f
  .rw[if_pos q,if_pos q];exact ry
  .rw[if_neg q,if_neg q];exact r g
 .by_cases q:g=f
  .rw[q];exact(zR f y fs).1
  .refine(zR f y fs).2 g (wi g λz=>hg ?_);show(if g=f then some u else mA g)=none;rw[if_neg q];exact z
def Inv.made(I:Inv X z5 J H s):Inv X z5 J (aM (aM H s.heap.objs.size (.own (s.heap.objs.size+1))) (s.heap.objs.size+1) (.ins C s.heap.objs.size []))
 {s with heap:=(s.heap.push W.emptyDict).push (W.instObj C s.heap.objs.size)}:=by
 have e1:(s.heap.push W.emptyDict).get? s.heap.objs.size=some W.emptyDict:=ju s.heap rfl;have e2:((s.heap.push W.emptyDict).push (W.instObj C s.heap.objs.size)).get? (s.heap.objs.size+1)=some (W.instObj C s.heap.objs.size):=by
  have:=ju (s.heap.push W.emptyDict) (o:=W.instObj C s.heap.objs.size) rfl
  rwa [xy]at this
 have e3:(s.heap.push W.emptyDict).Ns s.heap.objs.size (λ_=>none):=⟨W.emptyDict,#[],_,e1,rfl,(λe he=>absurd he (by simp)),λ_=>rfl⟩;have I1:=I.laid (o:=.own (s.heap.objs.size+1)) (h':=s.heap.push W.emptyDict) (t':=s.toks) (λb u q=>je _ q) (jg _) ⟨_,e1⟩;refine I1.laid (a:=s.heap.objs.size+1) (o:=.ins C s.heap.objs.size []) (t':=s.toks) (λb u q=>je _ q) (Nat.le_of_eq (xy _ _)) ?_;have ne:s.heap.objs.size≠s.heap.objs.size+1:=jq (lt_succ_self _);refine⟨by rw[aX ne,cA],zero_le _,ne,e2,λ_=>none,(Heap.Ns1.of_empty e3).at λo q=>je _ q,λ_=>True.intro,λy hy=>absurd rfl hy⟩
def qrd{prog:Program}{w:World}{env:Env}{e:Expr}{f:Str}{pos:Pos}{s:Shared}{Q:Z0}(hb:attributeBase e f env (eval e env)=eval e env)
 (h:wpAny (model prog w) A (eval e env) (λo s₁=>wpAny (model prog w) A (getAttr o f true) Q E s₁) E s):wpAny (model prog w) A (eval (.Attribute e f pos) env) Q E s:=
 Attribute_any_ h (by rw[arm_eval_Attribute,hb])
end
def nI(K:am)(ta:TE)(f:Str):TE:=λJ H Q=>ta J H λx H1=>∃a C dx fs v,x=.ref a/\H1 a=some (.ins C dx fs)/\Cls K C/\NoAttr K C f/\fs.lookup f=some v/\Q v H1
def Bb(K:am)(ta tv:TE)(f:Str):TS:=λD J H=>tv J H λy H1=>ta J H1 λx H2=>∃a C dx fs,x=.ref a/\H2 a=some (.ins C dx fs)/\Cls K C/\NoAttr K C f/\fs.length<1000/\
 D.nx J (aM H2 a (.ins C dx (c6 f y fs)))
section
variable{X:Cx}{o e value:Expr}{f:Str}{pos j6 tpos:Pos}{ta tv:TE}
def qte(he:PE X e ta)(hb:attributeBase e f X.env (eval e X.env)=eval e X.env):PE X (.Attribute e f pos) (nI X.K ta f):=by intro z5 s J H Q I h;refine qrd hb (bf (he z5 s J H _ I h) λu s1 ⟨x,H1,I1,rx,a,C,dx,fs,v,ex,ea,c,n,l,q⟩=>?_);subst ex;obtain rfl:u=Value.ref a:=rx;exact qeh I1 ea c n l λu' s2 I2 ru=>⟨v,H1,I2,ru,q⟩
def xQ(ha:PE X o ta)(hv:PE X value tv)(hs:swapsWith value (some (.Attribute o f j6)) pos.line X.env=pure false):PS X (.Assign [.Attribute o f j6] value pos) (Bb X.K ta tv f):=by intro z5 s J H D I h;refine plainObj_wpAny_Assign_Attribute (bf (hv z5 s J H _ I h) λu s1 ⟨y,H1,I1,ry,q⟩=>bf (ha z5 s1 J H1 _ I1 q) λov s2 ⟨x,H2,I2,rx,a,C,dx,fs,ex,ea,c,n,l,q2⟩=>?_) hs;subst ex;obtain rfl:ov=Value.ref a:=rx;exact qdt I2 ea c n l ry λs3 I3=>⟨J,_,I3,q2⟩
end
section
variable{X:Cx}{z5:Z3}{J:St}{H:Hp}{s:Shared}{A:Around}{E:Z0}{Q:Z0}{c:Value}{b:Bool}
inductive TyOf(K:am)(H:Hp):V->Value->Prop where
 |non:TyOf K H .non (.type "NoneType")
 |bl (x:Bool):TyOf K H (.bl x) (.type "bool")
 |int (i:Int):TyOf K H (.int i) (.type "int")
 |str (x:Str):TyOf K H (.str x) (.type "str")
 |flt (x:UInt64):TyOf K H (.flt x) (.type "float")
 |lst {a:Addr} {xs:List V} (e:H a=some (.lst xs)):TyOf K H (.ref a) (.type "list")
 |frz {a:Addr} {o:Obj} {xs:List V} (e:H a=some (.frz o (.lst xs))):TyOf K H (.ref a) (.type "list")
 |tup {a:Addr} {xs:List V} (e:H a=some (.tup xs)):TyOf K H (.ref a) (.type "tuple")
 |dK {a:Addr} {kvs:List (bn×V)} (e:H a=some (.dK kvs)):TyOf K H (.ref a) (.type "dict")
 |dT {a:Addr} {kvs:List (List bn×V)} (e:H a=some (.dT kvs)):TyOf K H (.ref a) (.type "dict")
 |ins {a C dx:Addr} {fs:List (Str×V)} (e:H a=some (.ins C dx fs)) (cl:Cls K C) (ha:W.findIn K (.ref C) "__class__"=some (some (.builtin "object.__class__")))
  (hn:W.specialIn K (.builtin "object.__class__") "__get__"=some (some (.builtin "getset_descriptor.__get__"))) (htk:W.takesIn K (.builtin "object.__class__")=some true)
  (hm:W.mroIn K C (.type "object")=some true):TyOf K H (.ref a) (.ref C)
def qib{x:V}{u t:Value}(I:Inv X z5 J H s)(rx:RelV x u)(ty:TyOf X.K H x t)(e:W.kitOne X.K t c=some b)(h:∀tk,Q (.bool b) {s with toks:=tk}):
 wpAny (model X.prog X.w) A (call (.builtin "isinstance") [u,c]) Q E s:=by
 cases ty with
 |non=>cases(rx);exact W.kia_one W.kitx_none I.kIn True.intro e (λz=>nomatch z) h
 |bl y=>cases(rx);exact W.kia_one W.kitx_bool I.kIn True.intro e (λz=>nomatch z) h
 |int i=>let⟨t,q⟩:=(rx);cases q;exact W.kia_one W.kitx_int I.kIn True.intro e (λz=>nomatch z) h
 |str y=>let⟨t,q⟩:=(rx);cases q;exact W.kia_one W.kitx_str I.kIn True.intro e (λz=>nomatch z) h
 |flt y=>let⟨t,q⟩:=(rx);cases q;exact W.kia_one W.kitx_float I.kIn True.intro e (λz=>nomatch z) h
 | @lst a xs ea=>
  cases(rx);let⟨_,_,n,_,h1⟩:=(I.hok a _ ea);exact W.kia_one W.kitx_list I.kIn ⟨_,h1,rfl⟩ e (λz=>nomatch z) h
 | @frz a ob xs ea=>
  cases(show u=Value.ref a from rx);let⟨_,_,_,n,_,h1⟩:=(show ObjOk X.prog X.w H s.heap a (.frz ob (.lst xs))from I.hok a _ ea);exact W.kia_one W.kitx_list I.kIn ⟨_,h1,rfl⟩ e (λz=>nomatch z) h
 | @tup a xs ea=>
  cases(show u=Value.ref a from rx);let⟨_,_,_,p⟩:=(show ObjOk X.prog X.w H s.heap a (.tup xs)from I.hok a _ ea);obtain⟨o,h1,⟨h2,_⟩,_⟩:=p;exact W.kia_one W.kitx_tuple I.kIn ⟨o,h1,h2⟩ e (λz=>nomatch z) h
 | @dK a kvs ea=>
  cases(show u=Value.ref a from rx);let⟨_,_,vs,_,p⟩:=(show ObjOk X.prog X.w H s.heap a (.dK kvs)from I.hok a _ ea);obtain⟨o,es,h1,h2,_⟩:=p;exact W.kia_one W.kitx_dict I.kIn ⟨o,h1,h2.1⟩ e (λz=>nomatch z) h
 | @dT a kvs ea=>
  cases(show u=Value.ref a from rx);let⟨_,_,xs,_,o,es,ep,h1,h2,_⟩:=(show ObjOk X.prog X.w H s.heap a (.dT kvs)from I.hok a _ ea);exact W.kia_one W.kitx_dict I.kIn ⟨o,h1,h2.1⟩ e (λz=>nomatch z) h
 | @ins a C dx fs ea cl ha hn htk hm=>
  cases(show u=Value.ref a from rx);let⟨mA,O,_⟩:=uf I.hok ea;obtain⟨od,σ,_⟩:=O.look;exact W.kia_one (W.kitx_own (cl.get _) cl.hd ha hn htk hm) I.kIn σ e (λz=>nomatch z) h
end
structure Room(k:Nat)(A:Around):Prop where
 hd:A.handled=none
 dp:A.depth+3*k+5<recursionLimit
 un:A.units+16*k+200<cLine
def Room.mono{j k:Nat}{A:Around}(r:Room k A)(h:j<=k):Room j A:=⟨r.hd,by have:=r.dp;lia,by have:=r.un;lia⟩
def Room.m{j k:Nat}{A:Around}(r:Room k A)(h:j<=k:=by decide):Room j A:=r.mono h
def Room.deeper{k:Nat}{A:Around}(r:Room (k+1) A)(env:Env):Room k (A.deeper env):=
 ⟨r.hd,by have:=r.dp;show A.depth+1+3*k+5<_;lia,by have:=r.un;show A.units+3+16*k+200<_;lia⟩
def Room.in1{k:Nat}{A:Around}(r:Room (k+1) A):Room k A.in1:=
 ⟨r.hd,by have:=r.dp;lia,by have:=r.un;lia⟩
def qeb{A:Around}{C:Addr}{us:Ze}{kw:List (Str×Value)}:(A.under (.builtin "type.__call__" ⟨.ref C::us,kw⟩)).depth=A.depth+1:=by first|rfl|simp[Around.under,Code.weight,Code.isCreation,Code.isGuard,Code.isCaller,Code.frames,Code.isFrame,guardIds]
def qea{A:Around}{C:Addr}{us:Ze}{kw:List (Str×Value)}:(A.under (.builtin "type.__call__" ⟨.ref C::us,kw⟩)).units=A.units+1:=by first|rfl|simp[Around.under,Code.cUnits,Code.frames,Code.isFrame]
def Room.make{k:Nat}{A:Around}(r:Room (k+1) A)(C:Addr)(us:Ze)(kw:List (Str×Value)):Room k (A.under (.builtin "type.__call__" ⟨.ref C::us,kw⟩)):=
 ⟨r.hd,by have:=r.dp;rw[qeb];lia,by have:=r.un;rw[qea];lia⟩
def Room.depth{k:Nat}{A:Around}(r:Room k A):A.depth<recursionLimit:=by have:=r.dp;lia
def Room.units{k:Nat}{A:Around}(r:Room k A):A.units+64<cLine:=by have:=r.un;lia
def fy:TA:=λ_ H Q=>Q [] H
def i8(ta:TE)(tr:TA):TA:=λJ H Q=>ta J H λx H1=>tr J H1 λxs H2=>Q (x::xs) H2
section
variable{X:Cx}{e:Expr}{es:Zi}{te:TE}{t:TA}{pos:Pos}
def av:PA X [] fy:=λ_ _ _ _ H Q I h=>Calls.spliced_nil ⟨[],H,I,.nil,h⟩
def ak(ha:PE X e te)(hr:PA X es t)(hs:starEach (e::es) X.env=(false,eval e X.env)::starEach es X.env:=by rfl):PA X (e::es) (i8 te t):=by intro pos z5 s J H Q I h;rw[hs];refine vx (bf (ha z5 s J H _ I h) λu s1 ⟨x,H1,I1,r1,q1⟩=>?_);exact bf (hr pos z5 s1 J H1 _ I1 q1) λus s2 ⟨xs,H2,I2,r2,q2⟩=>⟨x::xs,H2,I2,.cons r1 r2,q2⟩
def rh(t:TA):TE:=λJ H Q=>t J H λxs H1=>xs.length<=sizeLine/\∀p,H1 p=none->Q (.ref p) (aM H1 p (.tup xs))
def nG(t:TA):TE:=λJ H Q=>t J H λxs H1=>xs.length<=sizeLine/\∀p,H1 p=none->Q (.ref p) (aM H1 p (.lst xs))
def gK{x1}(h:PA X es t):PE X (.Tuple es x1 pos) (rh t):=by intro z5 s J H Q I hq;refine wpAny_Tuple_spliced (bf (h pos z5 s J H _ I hq) λus s1 ⟨xs,H1,I1,r,z,q⟩=>⟨by rw[<-r.length];exact z,?_⟩);refine⟨.ref s1.heap.objs.size,aM H1 s1.heap.objs.size (.tup xs),I1.laid (λb u e=>je _ e) (jg _) ?_,rfl,q _ (I1.hok.fresh (jg _))⟩;exact⟨z,us,r,⟨_,ju _ rfl,⟨rfl,_,rfl⟩,rfl⟩⟩
def eV(h:PA X es t):PE X (.List es pos) (nG t):=by intro z5 s J H Q I hq;refine wpAny_List_spliced (bf (h pos z5 s J H _ I hq) λus s1 ⟨xs,H1,I1,r,z,q⟩=>⟨by rw[<-r.length];exact z,?_⟩);refine⟨.ref s1.heap.objs.size,aM H1 s1.heap.objs.size (.lst xs),I1.laid (λb u e=>je _ e) (jg _) ?_,rfl,q _ (I1.hok.fresh (jg _))⟩;exact⟨z,us,0,r,ju _ rfl⟩
end
abbrev Sp:=List V->Hp->VK->XK->Prop
abbrev iq:=List Env->Hp->Shared->XK->Value->Shared->Prop
structure Env0(P:Program)(w:World)(K:am)(mg:Za)(base:Heap)(A:Around)(outer:List Env)(s:Shared)(H:Hp):Prop where
 frames:A.frames=some outer
 mod:Mod K mg base
 bs:∀b o,base.get? b=some o->s.heap.get? b=some o/\H b=none
 bsz:base.objs.size<=s.heap.objs.size
 funs:s.heap.FunFrames base outer
 frf:∀b∈gW outer,H b=none
 hok:HOk P w H s.heap
 bare:AllBare s.gens
def CE(outer:List Env)(P:Program)(w:World)(H:Hp)(s:Shared)(Q:VK)(u:Value)(s':Shared):Prop:=
 ∃v H',s'.os=s.os/\AllBare s'.gens/\Un (gW outer) [] H H' s.heap s'.heap/\HOk P w H' s'.heap/\RelV v u/\Q v H'
def CR(CX:iq)(outer:List Env)(P:Program)(w:World)(H:Hp)(s:Shared)(Q:VK)(E:XK)(r:Result)(s':Shared):Prop:=
 match r with
 |.ok (.ret u)=>CE outer P w H s Q u s'
 |.ok _=>False
 |.error e=>CX outer H s E e s'
structure FnOk(P:Program)(w:World)(K:am)(mg:Za)(base:Heap)(CX:iq)(k:Nat)(f:Addr)(fd:FuncData)(ps:Zj)(sp:Sp):Prop where
 len:∀vs H Q E,sp vs H Q E->vs.length=ps.length
 run:∀(A:Around) (outer:List Env) (s:Shared) (H:Hp) (args:Args) (us:Ze) (vs:List V) (Q:VK) (E:XK),Room k A->Env0 P w K mg base A outer s H->BindsTo s fd args (ps.zip us)->Vals vs us->sp vs H Q E->
  codeAny (model P w) A (.call (.ref f) args) (CR CX outer P w H s Q E) s
def FnOk.mono{P:Program}{w:World}{K:am}{mg:Za}{base:Heap}{CX:iq}{j k:Nat}{f:Addr}{fd:FuncData}{ps:Zj}{sp:Sp}(F:FnOk P w K mg base CX j f fd ps sp)(h:j<=k):
 FnOk P w K mg base CX k f fd ps sp:=⟨F.len,λA outer s H args us vs Q E hr=>F.run A outer s H args us vs Q E (hr.mono h)⟩
def FnOk.imp{P:Program}{w:World}{K:am}{mg:Za}{base:Heap}{CX:iq}{k:Nat}{f:Addr}{fd:FuncData}{ps:Zj}{sp sp':Sp}(F:FnOk P w K mg base CX k f fd ps sp)
 (h:∀vs H Q E,sp' vs H Q E->sp vs H Q E):FnOk P w K mg base CX k f fd ps sp':=
 ⟨λvs H Q E q=>F.len vs H Q E (h _ _ _ _ q),λA outer s H args us vs Q E hr he hb hv hs=>F.run A outer s H args us vs Q E hr he hb hv (h _ _ _ _ hs)⟩
def Env0.make{P:Program}{w:World}{K:am}{mg:Za}{base:Heap}{A:Around}{outer:List Env}{s:Shared}{H:Hp}(e:Env0 P w K mg base A outer s H)(C:Addr)(us:Ze)(kw:List (Str×Value)):
 Env0 P w K mg base (A.under (.builtin "type.__call__" ⟨.ref C::us,kw⟩)) outer s H:=⟨by first|exact e.frames|(simpa[Around.under,Code.envs,Code.isFrame,pushEnvs]using e.frames),e.mod,e.bs,e.bsz,e.funs,e.frf,e.hok,e.bare⟩
def Env0.in1{P:Program}{w:World}{K:am}{mg:Za}{base:Heap}{A:Around}{outer:List Env}{s:Shared}{H:Hp}(e:Env0 P w K mg base A outer s H):
 Env0 P w K mg base A.in1 outer s H:=⟨e.frames,e.mod,e.bs,e.bsz,e.funs,e.frf,e.hok,e.bare⟩
section
variable{X:Cx}{z5:Z3}{J:St}{H:Hp}{s s':Shared}
def Inv.env0(I:Inv X z5 J H s):Env0 X.prog X.w X.K X.mg X.base X.A X.stack s H:=
 ⟨I.ok.frames,I.ok.mod,I.bs,jz I.ok.bsz I.sz,I.stack,I.stkFree,I.hok,I.bare⟩
def Inv.after{Q:VK}{u:Value}(I:Inv X z5 J H s)(h:CE X.stack X.prog X.w H s Q u s'):EP X z5 J Q u s':=by obtain⟨v,H',os,bare,un,hok,r,q⟩:=h;obtain⟨hh,g,d,t,os'⟩:=s';obtain rfl:os'=s.os:=os;exact⟨v,H',I.call un hok bare (λb z=>absurd z (by simp)),r,q⟩
end
def oR(sp:Sp)(dvs:List V)(E:XK)(t:TA):TE:=λJ H Q=>t J H λvs H1=>sp (vs++dvs) H1 Q E
def DY(C:Addr)(m:Str)(sp:Sp)(dvs:List V)(E:XK)(ta:TE)(t:TA):TE:=λJ H Q=>ta J H λx H1=>∃a dx fs,x=.ref a/\H1 a=some (.ins C dx fs)/\fs.lookup m=none/\
 t J H1 λvs H2=>sp (x::(vs++dvs)) H2 Q E
def DX(C:Addr)(sp:Sp)(dvs:List V)(E:XK)(t:TA):TE:=λJ H Q=>t J H λvs H1=>∀x dx,H1 x=none->H1 dx=none->dx≠x->
 sp (.ref x::(vs++dvs)) (aM (aM H1 dx (.own x)) x (.ins C dx [])) (λv H2=>v=.non/\Q (.ref x) H2) E
def Binds(K:am)(fd:FuncData)(ps:Zj)(ds:Ze):Prop:=
 ∀(s:Shared) (us:Ze),K.In s.heap->(us++ds).length=ps.length->BindsTo s fd ⟨us,[]⟩ (ps.zip (us++ds))
def Binds.all{K:am}{fd:FuncData}{ps:Zj}(h:∀us:List Value,us.length=ps.length->bindArgs fd ⟨us,[]⟩=pure (ps.zip us)):Binds K fd ps []:=λs us _ hl=>by rw[append_nil]at hl ⊢;exact .of_eq (h us hl)
def o6(CX:iq)(X:Cx)(E:XK):Prop:=∀(z5:Z3) (J:St) (H:Hp) (s:Shared) (e:Value) (s':Shared),Inv X z5 J H s->CX X.stack H s E e s'->X.xe e s'
section
variable{X:Cx}{CX:iq}{k:Nat}{f C:Addr}{fd:FuncData}{ps:Zj}{sp:Sp}{dvs:List V}{ds:Ze}{E:XK}{x m:Str}{p pos zy:Pos}{e o:Expr}{es:Zi}{ta:TE}{t:TA}
def E2{z5:Z3}{J:St}{H:Hp}{s:Shared}{Q:VK}{us:Ze}{vs:List V}(F:FnOk X.prog X.w X.K X.mg X.base CX k f fd ps sp)(hr:Room k X.A)(hb:Binds X.K fd ps ds)(hd:Vals dvs ds)(hx:o6 CX X E)
 (I:Inv X z5 J H s) (r:Vals vs us) (h:sp (vs++dvs) H Q E):wpAny (model X.prog X.w) X.A (call (.ref f) us) (EP X z5 J Q) X.xe s:=by
 have r2:=r.append hd;have hl:(us++ds).length=ps.length:=by rw[<-r2.length];exact F.len _ _ _ _ h
 refine wpAny_call (codeAny_mono (F.run X.A X.stack s H ⟨us,[]⟩ (us++ds) (vs++dvs) Q E hr I.env0 (hb s us I.kIn hl) r2 h) λr s' hq=>?_);cases r with
 |error e=>exact hx z5 J H s e s' I hq
 | ok fl=>
  cases fl with
  |ret u=>exact I.after hq
  |next=>exact False.elim hq
  |brk=>exact False.elim hq
  |cont=>exact False.elim hq
def Ib(F:FnOk X.prog X.w X.K X.mg X.base CX k f fd ps sp)(hr:Room k X.A)(hg:Gl X x)(hm:X.mg x=some (.ref f))(hk:W.keepIn X.K (.ref f)=true)(hb:Binds X.K fd ps ds)(hd:Vals dvs ds)(hx:o6 CX X E)
 (ha:PA X (e::es) t) (hdb:(x==("__debug__":Str))=false:=by decide) (he:starEach (e::es) X.env=(false,eval e X.env)::starEach es X.env:=by rfl) (hpl:(backTo pos (starEach es X.env)).any (·.1)=false:=by rfl):
 PE X (.Call (.Name x p) (e::es) [] pos) (oR sp dvs E t):=by
 intro z5 s J H Q I h;refine k6 (yJ I hg hm ?_ hdb);refine W.callWith_K I.ok.mod.kin hk (bf (ha pos z5 s J H _ I h) λus s1 ⟨vs,H1,I1,r,q⟩=>⟨I1.kIn,?_⟩) he hpl;exact E2 F hr hb hd hx I1 r q
def yQ{pl:Sem Bool}(he:PE X o ta)(c:Cls X.K C)(hm:Meth X.K C m f)(F:FnOk X.prog X.w X.K X.mg X.base CX k f fd ps sp)(hr:Room k X.A)(hb:Binds X.K fd ps ds)(hd:Vals dvs ds)(hx:o6 CX X E)(ha:PA X (e::es) t)
 (hst:starEach (e::es) X.env=(false,eval e X.env)::starEach es X.env:=by rfl) (hpl:(backTo pos (starEach es X.env)).any (·.1)=false:=by rfl)
 (ht:eval (.Call (.Attribute o m zy) (e::es) [] pos) X.env=(do
   let ov <-eval o X.env
   standAt zy.atName
   let (f,first) <-holding [ov] (getMethod ov m pl)
   callWith pos f first (backTo pos (starEach (e::es) X.env)) (backToKw pos (keywordEach [] X.env))):=by rfl):
 PE X (.Call (.Attribute o m zy) (e::es) [] pos) (DY C m sp dvs E ta t):=by
 intro z5 s J H Q I h;refine W.methodCall_KW (bf (he z5 s J H _ I h) λu s1 ⟨x,H1,I1,rx,a,dx,fs,ex,ea,l,q⟩=>?_) ht;subst ex;obtain rfl:u=Value.ref a:=rx;apply qeg I1 ea c hm l;refine W.callWith_K I.ok.mod.kin hm.kp (bf (ha pos z5 s1 J H1 _ I1 q) λus s2 ⟨vs,H2,I2,r,q2⟩=>⟨I2.kIn,?_⟩) hst hpl;exact E2 (vs:=.ref a::vs) F hr hb hd hx I2 (.cons rfl r) q2
structure Mk(K:am)(C f:Addr):Prop where
 makes:W.makesIn K C=true
 init:W.findIn K (.ref C) "__init__"=some (some (.ref f))
 fn:W.isFn K (.ref f)=true
 kp:W.keepIn K (.ref C)=true
def qk4{z5:Z3}{J:St}{H:Hp}{s:Shared}{Q:VK}{us:Ze}{vs:List V}(ρ:Mk X.K C f)(F:FnOk X.prog X.w X.K X.mg X.base CX k f fd ps sp)(hr:Room (k+1) X.A)(hb:Binds X.K fd ps ds)(hd:Vals dvs ds)
 (hx:o6 CX X E) (I:Inv X z5 J H s) (r:Vals vs us)
 (h:∀x dx,H x=none->H dx=none->dx≠x->sp (.ref x::(vs++dvs)) (aM (aM H dx (.own x)) x (.ins C dx [])) (λv H2=>v=.non/\Q (.ref x) H2) E):
 wpAny (model X.prog X.w) X.A (call (.ref C) us) (EP X z5 J Q) X.xe s:=by
 have hq:=h (s.heap.objs.size+1) s.heap.objs.size (I.hok.fresh (le_succ _)) (I.hok.fresh (jg _)) (jq (lt_succ_self _));have I2:=Inv.made (C:=C) I;have r2:Vals (V.ref (s.heap.objs.size+1)::(vs++dvs)) (Value.ref (s.heap.objs.size+1)::(us++ds)):=.cons rfl (r.append hd);have hl:(Value.ref (s.heap.objs.size+1)::us++ds).length=ps.length:=by have e:=r2.length;rw[F.len _ _ _ _ hq]at e;exact e.symm
 refine wpAny_call (qkv I.kIn ρ.makes ρ.init (beq_iff_eq.mp ρ.fn) (codeAny_mono (F.run _ X.stack _ _ ⟨Value.ref (s.heap.objs.size+1)::us,[]⟩ (Value.ref (s.heap.objs.size+1)::(us++ds)) _ _ E (hr.make C us [])
  (I2.env0.make C us []) (hb _ (Value.ref (s.heap.objs.size+1)::us) I2.kIn hl) r2 hq) λr s' hq'=>?_))
 cases r with
 |error e=>exact hx z5 J _ _ e s' I2 hq'
 | ok fl=>
  cases fl with
  | ret u=>
   let⟨v,H',I3,rv,ev,q3⟩:=I2.after hq';subst ev;exact⟨rv,⟨V.ref (s.heap.objs.size+1),H',I3,rfl,q3⟩⟩
  |next=>exact False.elim hq'
  |brk=>exact False.elim hq'
  |cont=>exact False.elim hq'
def FW(ρ:Mk X.K C f)(F:FnOk X.prog X.w X.K X.mg X.base CX k f fd ps sp)(hr:Room (k+1) X.A)(hg:Gl X x)(hm:X.mg x=some (.ref C))(hb:Binds X.K fd ps ds)(hd:Vals dvs ds)(hx:o6 CX X E)
 (ha:PA X (e::es) t) (hdb:(x==("__debug__":Str))=false:=by decide) (he:starEach (e::es) X.env=(false,eval e X.env)::starEach es X.env:=by rfl) (hpl:(backTo pos (starEach es X.env)).any (·.1)=false:=by rfl):
 PE X (.Call (.Name x p) (e::es) [] pos) (DX C sp dvs E t):=by
 intro z5 s J H Q I h;refine k6 (yJ I hg hm ?_ hdb);refine W.callWith_K I.ok.mod.kin ρ.kp (bf (ha pos z5 s J H _ I h) λus s1 ⟨vs,H1,I1,r,q⟩=>⟨I1.kIn,?_⟩) he hpl;exact qk4 ρ F hr hb hd hx I1 r q
end
section
variable{X:Cx}{CX:iq}{k:Nat}{f C:Addr}{fd:FuncData}{ps ks:Zj}{sp:Sp}{E:XK}{x m:Str}{p pos zy kpos:Pos}{e o:Expr}{es:Zi}{kws:List Keyword}{te ta:TE}{t tk:TA}{nm:Option Str}
structure qyw(K:am)(fd:FuncData)(ps ks:Zj)(g:List Value->List Value->List Value)(gV:List V->List V->List V):Prop where
 to:∀(s:Shared) (us ws:Ze),K.In s.heap->(g us ws).length=ps.length->BindsTo s fd ⟨us,ks.zip ws⟩ (ps.zip (g us ws))
 rel:∀{vs:List V} {us:Ze} {zs:List V} {ws:Ze},Vals vs us->Vals zs ws->Vals (gV vs zs) (g us ws)
variable{g:List Value->List Value->List Value}{gV:List V->List V->List V}
end
structure q0j(N P:Zj)(sc:Scope):Prop where
 kind:sc.kind=.function
 co:sc.isCoroutine=false
 gen:sc.isGenerator=false
 nd:N.Nodup
 pre:N.take P.length=P
 par:∀x∈P,sc.names.lookup x=some .local∨sc.names.lookup x=some .cell
 nofree:∀y∈sc.names,y.2≠.free
theorem G7{kindOf:Str->Option NameKind}{x:Str}:∀{zx:List (Str×Value)} {m:Za},(∀v,(x,v)∉zx)->bindL kindOf zx m x=m x
 |[],_,_=>rfl
 | (n,v)::r,m,h=>by
  unfold bindL;rw[G7 λw hw=>h w (ji _ hw)];split
  .have:x≠n:=by rintro rfl;exact h v jj
   simp[this]
  .rfl
theorem G5{kindOf:Str->Option NameKind}{x:Str}:∀{zx:List (Str×Value)} {m:Za},(∀v,(x,v)∉zx)->bindC kindOf zx m x=m x
 |[],_,_=>rfl
 | (n,v)::r,m,h=>by
  unfold bindC;rw[G5 λw hw=>h w (ji _ hw)];split
  .rfl
  .have:x≠n:=by rintro rfl;exact h v jj
   simp[this]
theorem G6{kindOf:Str->Option NameKind}{x:Str}{v:Value}:∀{P:Zj} {vs:Ze} {i:Nat} {m:Za},P.Nodup->P[i]? =some x->vs[i]? =some v->kindOf x=some .local->
 bindL kindOf (P.zip vs) m x=some v
 |[],_,_,_,_,h,_,_=>by simp at h
 |_::_,[],_,_,_,_,h,_=>by simp at h
 | p::P,w::vs,0,m,nd,h1,h2,hk=>by simp at h1 h2;subst h1;subst h2;show bindL kindOf ((p,w)::P.zip vs) m p=_;unfold bindL;rw[G7 λv hv=>(List.nodup_cons.mp nd).1 (of_mem_zip hv).1,if_pos hk];simp
 | p::P,w::vs,i+1,m,nd,h1,h2,hk=>by show bindL kindOf ((p,w)::P.zip vs) m x=_;exact G6 (i:=i) (List.nodup_cons.mp nd).2 (by simpa using h1) (by simpa using h2) hk
theorem G4{kindOf:Str->Option NameKind}{x:Str}{v:Value}:∀{P:Zj} {vs:Ze} {i:Nat} {m:Za},P.Nodup->P[i]? =some x->vs[i]? =some v->kindOf x≠some .local->
 bindC kindOf (P.zip vs) m x=some v
 |[],_,_,_,_,h,_,_=>by simp at h
 |_::_,[],_,_,_,_,h,_=>by simp at h
 | p::P,w::vs,0,m,nd,h1,h2,hk=>by simp at h1 h2;subst h1;subst h2;show bindC kindOf ((p,w)::P.zip vs) m p=_;unfold bindC;rw[G5 λv hv=>(List.nodup_cons.mp nd).1 (of_mem_zip hv).1,if_neg hk];simp
 | p::P,w::vs,i+1,m,nd,h1,h2,hk=>by show bindC kindOf ((p,w)::P.zip vs) m x=_;exact G4 (i:=i) (List.nodup_cons.mp nd).2 (by simpa using h1) (by simpa using h2) hk
noncomputable def bc(N:Zj)(vs:List V):St:=vs.map some++replicate (N.length-vs.length) none
noncomputable def e9(CX:iq)(P:Program)(w:World)(K:am)(mg:Za)(base:Heap)(N:Zj)(qual:Str)(scope:Scope)(f:Addr)(cd:Value)(A:Around)(outer:List Env)(s:Shared)(H:Hp)(E:XK):Cx where
 prog:=P
 w:=w
 K:=K
 mg:=mg
 base:=base
 A:=A.deeper (envOfC qual scope s.heap.objs.size f cd)
 N:=N
 s₀:=s
 H₀:=H
 env:=envOfC qual scope s.heap.objs.size f cd
 outer:=outer
 stack:=envOfC qual scope s.heap.objs.size f cd::outer
 ex:=[]
 calm:=true
 fn:=λ_=>true
 pn:=[]
 xe:=λe s'=>wpAny (model P w) (A.deeper (envOfC qual scope s.heap.objs.size f cd)) (leaving (envOfC qual scope s.heap.objs.size f cd) e) (λ_ s''=>CX outer H s E e s'') (λe' s''=>CX outer H s E e' s'') s'
def Gn{sc:Scope}{n:Nat}{x:Str}(h:sc.names.lookup x=some .cell):∃c,(cellsFrom n sc.names []).lookup x=some c:=by exact Option.isSome_iff_exists.mp (W.cellsFrom_some sc.names n [] (.inl h))
def qid{CX:iq}{P:Program}{w:World}{K:am}{mg:Za}{base:Heap}{N ps:Zj}{qual:Str}{scope:Scope}{f:Addr}{cd:Value}{A:Around}{outer:List Env}{s s1:Shared}{H:Hp}{E:XK}{us:Ze}{vs:List V}
 (S:q0j N ps scope) (hd:A.handled=none) (e0:Env0 P w K mg base A outer s H) (hl:vs.length=ps.length) (r:Vals vs us)
 (x:InCallC s s.heap.objs.size (bindL (envOfC qual scope s.heap.objs.size f cd).kindOf (ps.zip us) λ_=>none) (cellsFrom (s.heap.objs.size+1) scope.names []) (bindC (envOfC qual scope s.heap.objs.size f cd).kindOf (ps.zip us) λ_=>none) s1):
 Inv (e9 CX P w K mg base N qual scope f cd A outer s H E) [] (bc N vs) H s1:=by
 have hpl:ps.length<=N.length:=by have:=congrArg List.length S.pre;rw[xq]at this;lia
 obtain⟨h1,tk,rfl,hk⟩:=x.done;have noA:∀b:Addr,b∉(e9 CX P w K mg base N qual scope f cd A outer s H E).ex:=λb z=>absurd (show b∈([]:List Addr)from z) (by simp);refine⟨⟨e0.mod,S.kind,rfl,rfl,jg _,λy z c h1 h2=>?_,λy hy=>?_,λy c _ h=>?_,λ_=>hd,Around.frames_deeper e0.frames,.inr ⟨rfl,rfl⟩,λb z=>absurd z (noA b),e0.bs,e0.bsz,λb _ _=>noA b,λb z=>absurd z (noA b),e0.funs,e0.frf⟩,
  rfl,e0.bare,Un.kept hk,⟨_,x.toInCall.ns,λi y v h1 h2 h3=>?_⟩,λy c h=>⟨_,x.cell y c h⟩,e0.hok.fresh (jg _),λy c h=>?_,λp hp=>absurd (show p∈([]:Z3)from hp) (by simp),e0.hok.kept hk,?_⟩
 .exact name_of_addr x.apart (PySem.mem_of_lookup h1) (PySem.mem_of_lookup h2)
 .have hy:=hy;rcases hy with hy|hy
  .exact Gn hy
  .exact absurd rfl (S.nofree _ (PySem.mem_of_lookup hy))
 .exact Nat.le_of_lt (x.above y c (PySem.mem_of_lookup h))
 .have hi:i<vs.length:=by
   unfold bc at h2;by_cases hi:i<vs.length
   .exact hi
   .rw[kb (by simpa using hi)]at h2;rw[va]at h2;split at h2<;>cases h2
  have ha:vs[i]? =some v:=by
   unfold bc at h2;rw[vc (by simpa using hi),jo]at h2;cases e:vs[i]? with
   |none=>rw[e]at h2;cases h2
   |some a=>rw[e]at h2;cases h2;rfl
  obtain⟨u,hu,rv⟩:=r.get ha;have hp:ps[i]? =some y:=by rw[<-S.pre,List.getElem?_take_of_lt (by lia)];exact h1
  have ndP:ps.Nodup:=by rw[<-S.pre];exact S.nd.sublist (List.take_sublist _ _)
  refine⟨u,rv,?_⟩;rcases S.par y (kc hp)with k|k
  .exact .inl ⟨k,G6 ndP hp hu k⟩
  .obtain⟨c,e⟩:=Gn k;refine .inr ⟨.inl k,c,e,?_⟩;have q:=x.cell y c e;rw[G4 ndP hp hu (by show scope.names.lookup y≠_;rw[k];decide)]at q;exact q
 .exact e0.hok.fresh (Nat.le_of_lt (x.above y c (PySem.mem_of_lookup h)))
 .unfold bc;show _=N.length;rw[jt,ja,x6];lia
def wq{CX:iq}{P:Program}{w:World}{K:am}{mg:Za}{base:Heap}{k:Nat}{f:Addr}{name qual:Str}{params:Arguments}{body:Zh}{scope:Scope}{dV kV doc pm cdv ct oc:Value}{an od:Zc}
 {osl:Array (Option Value)} {N ps:Zj} {sp:Sp} (lk:K.lookup f=some ⟨oc,od,.func (W.fnOf name qual params body scope dV kV doc pm an cdv ct),osl⟩) (hcd:W.codeIn K cdv qual=true) (S:q0j N ps scope)
 (len:∀vs H Q E,sp vs H Q E->vs.length=ps.length)
 (zg:∀(A:Around) (outer:List Env) (s:Shared) (H:Hp) (vs:List V) (Q:VK) (E:XK),Room k (A.deeper (envOfC qual scope s.heap.objs.size f cdv))->sp vs H Q E->
   ∃t,PSs (e9 CX P w K mg base N qual scope f cdv A outer s H E) body t/\t {nx:=λ_ H'=>Q .non H',rt:=Q} (bc N vs) H):
 FnOk P w K mg base CX (k+1) f (W.fnOf name qual params body scope dV kV doc pm an cdv ct) ps sp:=by
 refine⟨len,λA outer s H args us vs Q E hr e0 hb r hsp=>?_⟩;have hl:=len _ _ _ _ hsp;have KX:=e0.mod.kin.keeps λb o e=>(e0.bs b o e).1;have lim:=e0.mod.nolimit.keeps λb o e=>(e0.bs b o e).1;have zi:∀y∈ps.zip us,scope.names.lookup y.1=some .local∨(scope.names.lookup y.1=some .cell/\((cellsFrom (s.heap.objs.size+1) scope.names []).lookup y.1).isSome=true):=λ⟨n,v⟩ hy=>by
  rcases S.par n (of_mem_zip hy).1 with q|q
  .exact .inl q
  .exact .inr ⟨q,W.cellsFrom_some _ _ _ (.inl q)⟩
 refine codeAny_call_function hr.depth (KX _ _ lk) rfl S.co S.gen rfl (W.codeRec_of KX hcd) (hb _ _ _ _ ?_);refine wpAny_newFunctionEnv_cells S.kind zi λenv he s1 x=>?_;subst he;refine⟨lim.keeps x.toInCall.keep,codeAny_func ?_⟩;let⟨t,ht,hq⟩:=zg A outer s H vs Q E (hr.deeper _) hsp;have I:Inv (e9 CX P w K mg base N qual scope f cdv A outer s H E) [] (bc N vs) H s1:=qid S hr.hd e0 hl r x;refine xg (ht [] s1 (bc N vs) H _ I hq) (λfl s' hs=>?_) λe s' hs=>hs;have fin:∀{J':St} {H':Hp} {v:V} {u:Value},Inv (e9 CX P w K mg base N qual scope f cdv A outer s H E) [] J' H' s'->RelV v u->Q v H'->CE outer P w H s Q u s':=
  λ{J' H' v u} σ rv q=>⟨v,H',σ.os,σ.bare,σ.base,σ.hok,rv,q⟩
 cases fl with
 | ret u=>
  obtain⟨v,J',H',σ,rv,q⟩:=hs;exact fin σ rv q
 | next=>
  obtain⟨J',H',σ,q⟩:=hs;exact fin (v:=V.non) σ rfl q
 | brk=>
  obtain⟨_,_,_,q⟩:=hs;exact False.elim q
 | cont=>
  obtain⟨_,_,_,q⟩:=hs;exact False.elim q
section
variable{X:Cx}{x:Str}{p pos:Pos}{e:Expr}{es:Zi}{t:TA}{id T:String}{r:List V->Hp->VK->Prop}
def kF(r:List V->Hp->VK->Prop)(t:TA):TE:=λJ H Q=>t J H λvs H1=>r vs H1 Q
def dN(hc:gf X (.builtin id) r)(hg:Gl X x)(hm:X.mg x=none)(hv:bootBuiltins x=some (.builtin id))(ha:PA X (e::es) t)(hn:x≠"__name__":=by decide)(hdb:(x==("__debug__":Str))=false:=by decide)
 (he:starEach (e::es) X.env=(false,eval e X.env)::starEach es X.env:=by rfl) (hpl:(backTo pos (starEach es X.env)).any (·.1)=false:=by rfl):PE X (.Call (.Name x p) (e::es) [] pos) (kF r t):=by
 intro z5 s J H Q I h;refine k6 (iD I hg hm hv ?_ hn hdb);exact PyProof.Rows.callWith_builtin1 (bf (ha pos z5 s J H _ I h) λus s1 ⟨vs,H1,I1,r1,q1⟩=>hc z5 s1 J H1 vs us Q I1 r1 q1) he hpl
def lD(hc:gf X (.type T) r)(hg:Gl X x)(hm:X.mg x=none)(hv:bootBuiltins x=some (.type T))(ha:PA X (e::es) t)(hn:x≠"__name__":=by decide)(hdb:(x==("__debug__":Str))=false:=by decide)
 (he:starEach (e::es) X.env=(false,eval e X.env)::starEach es X.env:=by rfl) (hpl:(backTo pos (starEach es X.env)).any (·.1)=false:=by rfl):PE X (.Call (.Name x p) (e::es) [] pos) (kF r t):=by
 intro z5 s J H Q I h;refine k6 (iD I hg hm hv ?_ hn hdb);exact PyProof.Rows.callWith_type1 (bf (ha pos z5 s J H _ I h) λus s1 ⟨vs,H1,I1,r1,q1⟩=>hc z5 s1 J H1 vs us Q I1 r1 q1) he hpl
end
end L2
namespace HT
open PySem PyProof.Rows
noncomputable def lexLt:List Int->List Int->Bool
 |[],[]=>false
 |[],_::_=>true
 |_::_,[]=>false
 |x::xs,y::ys=>if x=y then lexLt xs ys else decide (x<y)
def lexLt_cons(x y:Int)(xs ys:Zf):lexLt (x::xs) (y::ys)=if x=y then lexLt xs ys else decide (x<y):=rfl
def eqAt_int(A:Around)(s:Shared)(a:Int)(t:Tok)(c:Int)(u:Tok):∃e,SeqAt.EqAt A s (.int a t) (.int c u) e/\(e=true↔a=c):=
 ⟨(a==c),SeqAt.EqAt.int_int a t c u,by simp⟩
def rcLt_int(A:Around)(s:Shared)(a:Int)(t:Tok)(c:Int)(u:Tok)(prog:Program)(w:World)(E:Z0)(Q:Z0)(h:Q (.bool (decide (a<c))) s):
 wpAny (model prog w) A (richCompare .Lt (.int a t) (.int c u)) Q E s:=
 (PyProof.Rows.lt_int h:wpAny (model prog w) A (compareOp .Lt (.int a t) (.int c u)) Q E s)
section
open PySem.SeqAt
open PySem.AutoSeq1 (wpAny_loadPart')
open PySem.MeetsSeq PySem.MeetsSeq2 PySem.MeetsSeq3
end
section
variable{prog:Program}{w:World}{A:Around}{E:Z0}{s:Shared}
noncomputable def sIx(n d:Nat):Option Int->Nat
 |none=>d
 |some v=>if v<0 then(v+(n:Int)).toNat else min v.toNat n
def sIx_none(n d:Nat):sIx n d none=d:=rfl
def qss{n d:Nat}(hd:d<=n)(o:Option Int):sIx n d o<=n:=by
 cases o with
 |none=>exact hd
 | some v=>
  show(if v<0 then(v+(n:Int)).toNat else min v.toNat n)<=n;by_cases hv:v<0
  .rw[if_pos hv];lia
  .rw[if_neg hv];exact Nat.min_le_right _ _
def Fq(v:Int)(n d:Nat):(if v<0 then max (v+(n:Int)) 0 else min v (n:Int))=((sIx n d (some v):Nat):Int):=by
 show(if v<0 then max (v+(n:Int)) 0 else min v (n:Int))=(((if v<0 then(v+(n:Int)).toNat else min v.toNat n):Nat):Int);by_cases hv:v<0
 .simp only[if_pos hv];lia
 .simp only[if_neg hv];lia
def qew(lo hi:Option Int)(n:Nat):Builtin.Slice.sliceAdjust lo hi 1 (n:Int)=(((sIx n 0 lo:Nat):Int),((sIx n n hi:Nat):Int)):=by
 have h1:¬((1:Int)<0):=by lia
 unfold Builtin.Slice.sliceAdjust;simp only[h1,if_false];refine Prod.ext ?_ ?_
 .cases lo with
  |none=>rfl
  |some v=>exact Fq v n 0
 .cases hi with
  |none=>rfl
  |some v=>exact Fq v n n
def qe1(i j:Nat):Builtin.Slice.slicePlaces (i:Int) (j:Int) 1=j-i:=by
 unfold Builtin.Slice.slicePlaces;have h1:(1:Int)>0:=by lia
 simp only[h1,if_true,Int.ediv_one];split<;>lia
def HJ{v:Value}{o:Option Int}{Q:Option Int->Shared->Prop}(p:IsPart v o)(h:Q o s):wpAny (model prog w) A (Builtin.Slice.slicePartIndex v) Q E s:=by
 cases p with
 |none=>exact slicePart_none h
 |int i t=>exact slicePart_int h
def q6c{sl:Addr}{vl vu:Value}{lo hi:Option Int}{n:Nat}{Q:Int×Int×Nat->Shared->Prop}(hs:s.heap.IsSliceOf sl vl vu .none)(pl:IsPart vl lo)(pu:IsPart vu hi)
 (h:Q (((sIx n 0 lo:Nat):Int),1,sIx n n hi-sIx n 0 lo) s):wpAny (model prog w) A (Builtin.Slice.sliceApplied (.ref sl) (pure (n:Int))) Q E s:=by
 let⟨os,hos,hcs,hds⟩:=id hs;refine j9 (j9 (xw hos hds rfl (j9 (xw hos hds rfl (j9 (xw hos hds rfl (jb ?_)))))));refine j9 (slicePart_none ?_);rw[if_neg (by decide)];refine j9 (HJ pl (j9 (HJ pu (j9 (jb ?_)))));show wpAny _ _ (match Builtin.Slice.sliceAdjust lo hi 1 (n:Int)with|(lo,hi)=>pure (lo,(1:Int),Builtin.Slice.slicePlaces lo hi 1)) _ _ s;rw[qew lo hi n];show wpAny _ _ (pure (((sIx n 0 lo:Nat):Int),(1:Int),Builtin.Slice.slicePlaces ((sIx n 0 lo:Nat):Int) ((sIx n n hi:Nat):Int) 1)) _ _ s;rw[qe1];exact jb h
def qk7(xs:Zd)(i k:Nat):((List.range k).filterMap λ(m:Nat)=>xs[((i:Int)+(m:Int)*1).toNat]?).toArray=((xs.toList.drop i).take k).toArray:=by
 have e:(λ(m:Nat)=>xs[((i:Int)+(m:Int)*1).toNat]?)=λm=>xs[i+m]? :=by
  funext m;have:((i:Int)+(m:Int)*1).toNat=i+m:=by lia
  rw[this]
 rw[e];have:=pick_run xs i k;rw[List.filterMap_map]at this;have e2:((λx=>xs[x]?)∘λx=>i+x)=λm=>xs[i+m]? :=rfl;rw[e2]at this;rw[this]
def getItem_tuple_cut{t sl:Addr}{items:Zd}{vl vu:Value}{lo hi:Option Int}{Q:Z0}(ht:IsTup s.heap t items)(hs:s.heap.IsSliceOf sl vl vu .none)(pl:IsPart vl lo)(pu:IsPart vu hi)
 (hw:¬(sIx items.size 0 lo=0/\sIx items.size items.size hi=items.size))
 (h:Q (.ref s.heap.objs.size) {s with heap:=s.heap.push {cls:=.type "tuple",data:=.seq ((items.toList.drop (sIx items.size 0 lo)).take (sIx items.size items.size hi-sIx items.size 0 lo)).toArray}})
 (hsz:items.size<=sizeLine):wpAny (model prog w) A (getItem (.ref t) (.ref sl)) Q E s:=by
 have htake:sizeOk (.seq ((items.toList.drop (sIx items.size 0 lo)).take (sIx items.size items.size hi-sIx items.size 0 lo)).toArray):=by show((items.toList.drop (sIx items.size 0 lo)).take (sIx items.size items.size hi-sIx items.size 0 lo)).toArray.size<=sizeLine;rw[jx,xq,xx,length_toList];lia
 have hj:sIx items.size items.size hi<=items.size:=qss (jg _) hi;let⟨os,hos,hcs,hds⟩:=id hs;have hTs:s.TypeIs (.ref sl) "slice":=⟨os,hos,hcs⟩;unfold getItem
 try with_reducible refine xm ?_
 first|refine j9 (jb ?_)|skip
 refine j9 (wpAny_sequenceKey ht.typeIs (by decide) ?_);refine j9 (vd ht.typeIs PyProof.Rows.slot_tuple_getitem
  (kg PyProof.Rows.slot_tuple_getitem ht.typeIs entry_tuple_getitem ?_ (args_tuple_getitem _ _)))
 show wpAny _ _ (Builtin.Tuple.tupleItemsOf (.ref t) >>= _) _ _ s;refine j9 (tupleItemsOf_ ht ?_);refine j9 (wpAny_typeOf hTs ?_);rw[if_pos (by decide)];refine j9 (q6c hs pl pu ?_);have hno:¬((((sIx items.size 0 lo:Nat):Int)==0&&(1:Int)==1&&(sIx items.size items.size hi-sIx items.size 0 lo)==items.size)=true):=by intro q;rw[and_eq_true,and_eq_true]at q;have q1:=eq_of_beq q.1.1;have q2:=eq_of_beq q.2;exact hw ⟨by lia,by lia⟩
 show wpAny _ _ (if(((sIx items.size 0 lo:Nat):Int)==0&&(1:Int)==1&&(sIx items.size items.size hi-sIx items.size 0 lo)==items.size)=true then _ else _) _ _ s;rw[if_neg hno,qk7]
 first
  |exact j9 (kh (jb ⟨_,rfl,jb h⟩) htake)
  |exact j9 (kh (j9 (jb (jb ⟨_,rfl,jb h⟩))) htake)
  |exact j9 (j9 (kh (jb (jb ⟨_,rfl,jb h⟩)) htake))
  |exact j9 (j9 (kh (jb ⟨_,rfl,jb h⟩) htake))
end
end HT
namespace L2
open PySem PySem.Spec PyProof.Rows
abbrev TO:=St->Hp->(Option Int->Hp->Prop)->Prop
def PO(X:Cx)(e:Option Expr)(t:TO):Prop:=
 ∀(z5:Z3) (s:Shared) (J:St) (H:Hp) (Q:Option Int->Hp->Prop),Inv X z5 J H s->t J H Q->
   wpAny (model X.prog X.w) X.A (evalPart e X.env) (λu s'=>∃o H',Inv X z5 J H' s'/\IsPart u o/\Q o H') X.xe s
def yX:TO:=λ_ H Q=>Q none H
def wF(t:TE):TO:=λJ H Q=>t J H λx H1=>∃i,x=.int i/\Q (some i) H1
def dL{ns:Zf}:∀{us:Ze},Vals (ns.map V.int) us->IntsAre us ns:=by
 induction ns with
 |nil=>intro us r;rw[List.map_nil]at r;cases r;exact .nil
 | cons n ns ih=>
  intro us r;rw[x5]at r;cases r with
  | cons r1 r2=>
   obtain⟨t,e⟩:=r1;subst e;exact .cons n t (ih r2)
section
variable{X:Cx}{e:Expr}{te:TE}{lo hi:Option Expr}{tl th:TO}{pos p2:Pos}
def yR:PO X none yX:=by intro z5 s J H Q I h;rw[evalPart_none];exact jb ⟨none,H,I,.none,h⟩
def yS(h:PE X e te):PO X (some e) (wF te):=by intro z5 s J H Q I hw;rw[evalPart_some];refine bf (h z5 s J H _ I hw) λu s1 ⟨x,H1,I1,r1,q1⟩=>?_;obtain⟨i,rfl,q⟩:=q1;obtain⟨t,rfl⟩:=r1;exact⟨some i,H1,I1,.int i t,q⟩
def SlR(X:Cx)(r:V->Option Int->Option Int->Hp->VK->Prop):Prop:=
 ∀(z5:Z3) (s:Shared) (J:St) (H:Hp) (x:V) (v vl vu:Value) (lo hi:Option Int) (sl:Addr) (Q:VK),Inv X z5 J H s->RelV x v->s.heap.IsSliceOf sl vl vu .none->IsPart vl lo->IsPart vu hi->r x lo hi H Q->
   ∃T id,typeLookup (.type T) "__getitem__"=pure (some (.builtin id))/\s.TypeIs v T/\wpAny (model X.prog X.w) X.A (getItem v (.ref sl)) (EP X z5 J Q) X.xe s
def SlR.or{r r':V->Option Int->Option Int->Hp->VK->Prop}(h:SlR X r)(h':SlR X r'):SlR X (λx lo hi H Q=>r x lo hi H Q∨r' x lo hi H Q):=by
 intro z5 s J H x v vl vu lo hi sl Q I rx hs pl pu q;rcases q with q|q
 .exact h z5 s J H x v vl vu lo hi sl Q I rx hs pl pu q
 .exact h' z5 s J H x v vl vu lo hi sl Q I rx hs pl pu q
def wk(r:V->Option Int->Option Int->Hp->VK->Prop)(te:TE)(tl th:TO):TE:=λJ H Q=>te J H λx H1=>tl J H1 λl H2=>th J H2 λu H3=>r x l u H3 Q
def zF{r:V->Option Int->Option Int->Hp->VK->Prop}(hr:SlR X r)(he:PE X e te)(hl:PO X lo tl)(hu:PO X hi th):PE X (.Subscript e (.Slice lo hi none p2) pos) (wk r te tl th):=by intro z5 s J H Q I h;refine Subscript_ (bf (he z5 s J H _ I h) λv s1 ⟨x,H1,I1,r1,q1⟩=>?_);refine wpAny_Slice (bf (hl z5 s1 J H1 _ I1 q1) λvl s2 ⟨l,H2,I2,pl,q2⟩=>bf (hu z5 s2 J H2 _ I2 q2) λvu s3 ⟨u,H3,I3,pu,q3⟩=>?_);rw[evalPart_none];apply jb;have I4:Inv X z5 J H3 {s3 with heap:=s3.heap.push {cls:=.type "slice",data:=.fields #[vl,vu,.none]}}:=I3.kept λb ob q=>je _ q;let⟨T,id,hT,ht,hg⟩:=hr z5 {s3 with heap:=s3.heap.push {cls:=.type "slice",data:=.fields #[vl,vu,.none]}} J H3 x v vl vu l u s3.heap.objs.size Q I4 r1 (Heap.IsSliceOf.new ..) pl pu q3;exact tail_any ht hT hg (by with_unfolding_all rfl)
def ff(xs:List V)(lo hi:Option Int):List V:=(xs.drop (HT.sIx xs.length 0 lo)).take (HT.sIx xs.length xs.length hi-HT.sIx xs.length 0 lo)
def HP(xs:List V)(lo hi:Option Int):(ff xs lo hi).length<=xs.length:=by unfold ff;rw[xq,xx];lia
def rH(K:am):V->Option Int->Option Int->Hp->VK->Prop:=λx lo hi H Q=>∃a xs,x=.ref a/\SqT K H a xs/\
 ¬(HT.sIx xs.length 0 lo=0/\HT.sIx xs.length xs.length hi=xs.length)/\∀p,H p=none->Q (.ref p) (aM H p (.tup (ff xs lo hi)))
def qs8:SlR X (rH X.K):=by
 intro z5 s J H x v vl vu lo hi sl Q I rx hs pl pu h;obtain⟨a,xs,rfl,hx,hw,q⟩:=h;cases rx;let⟨its,r,ht,hz⟩:=I.tuple hx;have zd:its.toArray.size=xs.length:=by rw[jx];exact r.length.symm
 refine⟨"tuple",_,PyProof.Rows.slot_tuple_getitem.lookup,ht.typeIs,?_⟩;refine HT.getItem_tuple_cut ht hs pl pu (by rw[zd];exact hw) ?_ (by rw[zd];exact hz);rw[zd];refine⟨.ref s.heap.objs.size,_,I.laid (λb ob q=>je _ q) (jg _) ?_,rfl,q _ (I.hok.fresh (jg _))⟩;exact⟨jz (HP xs lo hi) hz,_,(r.drop (HT.sIx xs.length 0 lo)).take (HT.sIx xs.length xs.length hi-HT.sIx xs.length 0 lo),TupN.new _ _⟩
def Vals.nil_iff{xs:List V}{us:Ze}(r:Vals xs us):us=[]↔xs=[]:=by
 cases r with
 |nil=>simp
 |cons _ _=>simp
end
noncomputable def fM(n:Nat)(i:Int):Option Nat:=if 0<=i then(if i<n then some i.toNat else none)else if -(n:Int)<=i then some (i+n).toNat else none
def cc{α:Type}(xs:List α)(i:Int):Option α:=(fM xs.length i).bind λj=>xs[j]?
def Fw{n:Nat}{i:Int}{j:Nat}(h:fM n i=some j):seqIndex? i n=some j/\j<n/\ -(n:Int)<=i/\i<n:=by
 unfold fM at h;by_cases h0:0<=i
 .rw[if_pos h0]at h;by_cases h1:i<n
  .rw[if_pos h1]at h;exact⟨by rw[seqIndex_of h0 h1,(jm h)],by lia,by lia,h1⟩
  .rw[if_neg h1]at h;cases h
 .rw[if_neg h0]at h;by_cases h1: -(n:Int)<=i
  .rw[if_pos h1]at h;exact⟨by rw[seqIndex_neg (by lia) h1,(jm h)],by lia,h1,by lia⟩
  .rw[if_neg h1]at h;cases h
def yB{α:Type}{xs:List α}{i:Int}{v:α}(h:cc xs i=some v):∃j,seqIndex? i xs.length=some j/\xs[j]? =some v/\j<xs.length/\ -(xs.length:Int)<=i/\i<xs.length:=by
 unfold cc at h;cases e:fM xs.length i with
 |none=>rw[e]at h;cases h
 | some j=>
  rw[e]at h;let⟨h1,h2,h3,h4⟩:=Fw e;exact⟨j,h1,h,h2,h3,h4⟩
def yC{α:Type}{xs:List α}{j:Nat}{v:α}(h:xs[j]? =some v):cc xs (j:Int)=some v:=by
 have hj:=(List.getElem?_eq_some_iff.mp h).1;have e:fM xs.length (j:Int)=some j:=by unfold fM;rw[if_pos (by lia),if_pos (by lia)];simp
 unfold cc;rw[e];exact h
def qrk(b:Expr):Prop:=∀o i,subscripted b false o i=operate [o,i] (getItem o i)
def IxR(X:Cx)(r:R2):Prop:=
 ∀(value zh:Expr) (z5:Z3) (s:Shared) (J:St) (H:Hp) (x y:V) (v u:Value) (Q:VK),Inv X z5 J H s->RelV x v->RelV y u->r x y H Q->
   subscripted zh false v u=operate [v,u] (getItem v u)->wpAny (model X.prog X.w) X.A (subscriptTail value zh v u) (EP X z5 J Q) X.xe s
def MtR(X:Cx)(id:String)(r:V->List V->Hp->VK->Prop):Prop:=
 ∀(z5:Z3) (s:Shared) (J:St) (H:Hp) (x:V) (xs:List V) (v:Value) (us:Ze) (Q:VK),Inv X z5 J H s->RelV x v->Vals xs us->r x xs H Q->
   wpAny (model X.prog X.w) X.A (call (.builtin id) (v::us)) (EP X z5 J Q) X.xe s
section
variable{X:Cx}{a b:Expr}{ta tb:TE}{pos:Pos}
def IxR.or{r r':R2}(h:IxR X r)(h':IxR X r'):IxR X (λx y H Q=>r x y H Q∨r' x y H Q):=by
 intro value zh z5 s J H x y v u Q I rx ry q hs;rcases q with q|q
 .exact h value zh z5 s J H x y v u Q I rx ry q hs
 .exact h' value zh z5 s J H x y v u Q I rx ry q hs
def bE{r:R2}(hr:IxR X r)(ha:PE X a ta)(hb:PE X b tb)(hs:qrk b:=by exact λ_ _=>rfl):PE X (.Subscript a b pos) (jO r ta tb):=by intro z5 s J H Q I h;exact Subscript_ (om ha hb I h λv u s2 x y H2 I2 rx ry q=>hr a b z5 s2 J H2 x y v u Q I2 rx ry q (hs _ _))
def rO(K:am):R2:=λx y H Q=>∃p xs i v,x=.ref p/\y=.int i/\SqL K H p xs/\cc xs i=some v/\Q v H
def rM(K:am):R2:=λx y H Q=>∃p xs i v,x=.ref p/\y=.int i/\SqT K H p xs/\cc xs i=some v/\Q v H
def rN:R2:=λx y H Q=>∃z i c,x=.str z/\y=.int i/\z.length<=sizeLine/\cc z.cps.toList i=some c/\Q (.str ⟨#[c]⟩) H
def ix_list:IxR X (rO X.K):=by
 intro value zh z5 s J H x y v u Q I rx ry h hs;obtain⟨p,xs,i,z,rfl,rfl,hq,he,q⟩:=h;cases rx;obtain⟨t,rfl⟩:=ry;let⟨its,r,pl,hz⟩:=I.list hq;let⟨j,h1,h2,h3,h4,h5⟩:=yB he;let⟨w,ew,rw'⟩:=r.get h2;have hl:=r.length;have hn:=qo;have fin:EP X z5 J Q w s:=⟨z,H,I,rw',q⟩;by_cases h0:0<=i
 .have hj:i.toNat=j:=by
   rw[seqIndex_of h0 h5]at h1;exact jm h1
  exact item_listR pl.isList h0 (by lia) (by rw[hj];simpa using ew) fin hs
 .have hj:(i+(its.toArray.size:Int)).toNat=j:=by
   rw[seqIndex_neg (by lia) h4]at h1;rw[jx,<-hl];exact jm h1
  exact subscriptTail_builtinR pl.isList.typeIs slot_list_getitem.lookup
   (wpAny_getItem_list_neg pl.isList (by lia) (by rw[jx]<;>lia) (by lia) (by rw[hj];simpa using ew) ⟨rfl,fin⟩) hs
def ix_tup:IxR X (rM X.K):=by
 intro value zh z5 s J H x y v u Q I rx ry h hs;obtain⟨p,xs,i,z,rfl,rfl,hq,he,q⟩:=h;cases rx;obtain⟨t,rfl⟩:=ry;let⟨its,r,pl,hz⟩:=I.tuple hq;let⟨j,h1,h2,h3,h4,h5⟩:=yB he;let⟨w,ew,rw'⟩:=r.get h2;have hn:=qo;have fin:EP X z5 J Q w s:=⟨z,H,I,rw',q⟩;exact subscriptTail_builtinR pl.typeIs slot_tuple_getitem.lookup
  (getItem_tuple pl (by lia) (by lia) (by rw[jx,<-r.length];exact h1) (by simpa using ew) ⟨rfl,fin⟩) hs
def qvu:IxR X rN:=by
 intro value zh z5 s J H x y v u Q I rx ry h hs;obtain⟨z,i,c,rfl,rfl,hz,he,q⟩:=h;obtain⟨t,rfl⟩:=rx;obtain⟨t',rfl⟩:=ry;let⟨j,h1,h2,h3,h4,h5⟩:=yB he;have hl:z.cps.toList.length=z.length:=by simp[Str.length]
 rw[hl]at h1 h4 h5;have hn:=qo;exact tail_any (typeIs_str s z t) slot_str_getitem.lookup (getItem_str (by have e1:decide (i< -(2^63:Int))=false:=decide_eq_false (by lia);have e2:decide (i≥2^63)=false:=decide_eq_false (by lia);rw[e1,e2,Bool.or_false]) (by rw[h1];simpa using h2) ⟨.str ⟨#[c]⟩,H,I.tok _,⟨_,rfl⟩,q⟩) hs
def pR(K:am):R2:=λx y H Q=>rO K x y H Q∨rM K x y H Q∨rN x y H Q
def qvv:IxR X (pR X.K):=ix_list.or (ix_tup.or qvu)
def qe9(its:Ze)(n j:Nat)(u:Value):Obj.mapSeq (·.setIfInBounds j u) {cls:=.type "list",data:=.seq its.toArray n}={cls:=.type "list",data:=.seq (its.set j u).toArray n}:=by simp[Obj.mapSeq]
def Inv.lst{z5:Z3}{J:St}{H:Hp}{s:Shared}{p:Addr}{xs:List V}(I:Inv X z5 J H s)(h:H p=some (.lst xs)):
 ∃(its:Ze) (n:Nat),Vals xs its/\s.heap.get? p=some {cls:=.type "list",data:=.seq its.toArray n}/\xs.length<=sizeLine:=by
 let⟨z,its,n,r,e⟩:=I.hok p _ h;exact⟨its,n,r,e,z⟩
def Inv.lstUpd{z5:Z3}{J:St}{H:Hp}{s:Shared}{p:Addr}{xs ys:List V}{its its':Ze}{n n':Nat}{f:Obj->Obj}(I:Inv X z5 J H s)(h:H p=some (.lst xs))
 (ho:s.heap.get? p=some {cls:=.type "list",data:=.seq its.toArray n}) (hf:f {cls:=.type "list",data:=.seq its.toArray n}={cls:=.type "list",data:=.seq its'.toArray n'}) (r:Vals ys its') (hz:ys.length<=sizeLine) (t:Nat):
 Inv X z5 J (aM H p (.lst ys)) {s with heap:=s.heap.update p f,toks:=t}:=by
 have e:(s.heap.update p f).get? p=some {cls:=.type "list",data:=.seq its'.toArray n'}:=by rw[vk f ho (by rw[hf]<;>rfl),hf]
 refine I.write (by rw[h];trivial) (.inl rfl) (λb u hb q=>(ke _ _ (Ne.symm hb)).trans q) ⟨_,e⟩ ?_;exact⟨hz,its',n',r,e⟩
def DO:V->V->V->Hp->(Hp->Prop)->Prop:=λo i v H Q=>∃p xs k j,o=.ref p/\i=.int k/\H p=some (.lst xs)/\fM xs.length k=some j/\Q (aM H p (.lst (xs.set j v)))
def jJ:oI X DO:=by
 intro z5 s J H o i v ov iv u Q I ro ri rv h;obtain⟨p,xs,k,j,rfl,rfl,hp,hj,q⟩:=h;cases ro;obtain⟨t,rfl⟩:=ri;let⟨its,n,r,ho,hz⟩:=I.lst hp;let⟨h1,h2,h3,h4⟩:=Fw hj;have hl:=r.length;have hn:=qo;have I':Inv X z5 J (aM H p (.lst (xs.set j v))) {s with heap:=s.heap.update p (Obj.mapSeq (·.setIfInBounds j u))}:=
  I.lstUpd hp ho (qe9 its n j u) (r.set rv j) (by rw[xn];exact hz) s.toks
 by_cases h0:0<=k
 .have hk:k.toNat=j:=by
   rw[seqIndex_of h0 h4]at h1;exact jm h1
  exact W.ki_setAt ho h0 (by lia) (by rw[jx,<-hl];exact h4) (by rw[hk];exact⟨_,I',q⟩)
 .have hk:(k+(its.toArray.size:Int)).toNat=j:=by
   rw[seqIndex_neg (by lia) h3]at h1;rw[jx,<-hl];exact jm h1
  exact W.ki_setBack ho (by lia) (by rw[jx,<-hl];exact h3) (by lia) (by rw[hk];exact⟨_,I',q⟩)
def qa1(lo hi:Option Int)(n:Nat):(sliceBounds lo hi none n).1=((HT.sIx n 0 lo:Nat):Int)/\(sliceBounds lo hi none n).2.1=((HT.sIx n n hi:Nat):Int)/\(sliceBounds lo hi none n).2.2=1:=by
 refine⟨?_,?_,rfl⟩
 .cases lo with
  |none=>simp[sliceBounds,HT.sIx]
  | some i=>
   simp only[sliceBounds,HT.sIx,getD_none,show(1:Int)>0 by decide,if_true];by_cases h:i<0
   .simp only[h,if_true]<;>lia
   .simp only[h,if_false]<;>lia
 .cases hi with
  |none=>simp[sliceBounds,HT.sIx]
  | some i=>
   simp only[sliceBounds,HT.sIx,getD_none,show(1:Int)>0 by decide,if_true];by_cases h:i<0
   .simp only[h,if_true]<;>lia
   .simp only[h,if_false]<;>lia
def q8u(its:Ze)(lo hi:Option Int):slicePick its.toArray lo hi none=((its.drop (HT.sIx its.length 0 lo)).take (HT.sIx its.length its.length hi-HT.sIx its.length 0 lo)).toArray:=by let⟨h1,h2,h3⟩:=qa1 lo hi its.toArray.size;unfold slicePick;rw[h1,h2,h3];simp only[sliceRange_one,pick_run,size_toArray]<;>rfl
def rJ(K:am):V->Option Int->Option Int->Hp->VK->Prop:=λx lo hi H Q=>∃a xs,x=.ref a/\SqL K H a xs/\∀p,H p=none->Q (.ref p) (aM H p (.lst (ff xs lo hi)))
def sl_list:SlR X (rJ X.K):=by intro z5 s J H x v vl vu lo hi sl Q I rx hs pl pu h;obtain⟨a,xs,rfl,hx,q⟩:=h;cases rx;let⟨its,r,ht,hz⟩:=I.list hx;have zd:=r.length;refine⟨"list",_,slot_list_getitem.lookup,ht.isList.typeIs,?_⟩;refine wpAny_getItem_list_slice ht.isList hs pl pu .none (by simp) ?_ (by rw[size_toArray]<;>lia);rw[q8u,<-zd];refine⟨.ref s.heap.objs.size,_,I.laid (λb ob q=>je _ q) (jg _) ?_,rfl,q _ (I.hok.fresh (jg _))⟩;exact⟨jz (HP xs lo hi) hz,_,0,(r.drop (HT.sIx xs.length 0 lo)).take (HT.sIx xs.length xs.length hi-HT.sIx xs.length 0 lo),ju _ rfl⟩
def qau:gf X (.builtin "len") (λxs H Q=>∃p ys,xs=[.ref p]/\(SqL X.K H p ys∨SqT X.K H p ys)/\Q (.int ys.length) H):=by
 intro z5 s J H xs us Q I r h;obtain⟨p,ys,rfl,hq,q⟩:=h;obtain⟨u,rfl,rx⟩:=cj r;cases rx;have hn:=qo;rcases hq with hq|hq
 .let⟨its,r',pl,hz⟩:=I.list hq;have zd:=r'.length;exact Calls.call_len_list pl.isList (by simp only[size_toArray]<;>lia) ⟨.int ys.length,H,I.tok _,⟨s.toks+1,by rw[jx,zd]⟩,q⟩
 .let⟨its,r',pl,hz⟩:=I.tuple hq;have zd:=r'.length;exact len_tuple pl (by simp only[size_toArray]<;>lia) ⟨.int ys.length,H,I.tok _,⟨s.toks+1,by rw[jx,zd]⟩,q⟩
def qat:gf X (.type "list") (λxs H Q=>∃p ys,xs=[.ref p]/\(SqL X.K H p ys∨SqT X.K H p ys)/\∀l,H l=none->Q (.ref l) (aM H l (.lst ys))):=by
 intro z5 s J H xs us Q I r h;obtain⟨p,ys,rfl,hq,q⟩:=h;obtain⟨u,rfl,rx⟩:=cj r;cases rx;have fin:∀(its:Ze),Vals ys its->ys.length<=sizeLine->∀(h':Heap) (c':Nat),(∀b o',s.heap.get? b=some o'->h'.get? b=some o')->
  h'.get? s.heap.objs.size=some {cls:=.type "list",dict:=none,data:=.seq its.toArray c',slots:=#[]}->EP X z5 J Q (.ref s.heap.objs.size) {s with heap:=h'}:=λits r' hz h' c' kp e=>
  ⟨.ref s.heap.objs.size,_,I.laid kp (jg _) (show ObjOk X.prog X.w _ h' _ (.lst ys)from⟨hz,its,c',r',e⟩),rfl,q _ (I.hok.fresh (jg _))⟩
 rcases hq with hq|hq
 .let⟨its,r',pl,hz⟩:=I.list hq;have zd:=r'.length;obtain⟨o,ho,hc,n,hd⟩:=pl.isList;exact call_list_seq p (.inl rfl) ho hc hd (λh' c' kp e=>fin its r' hz h' c' kp e) (by simp only[size_toArray]<;>lia)
 .let⟨its,r',pl,hz⟩:=I.tuple hq;have zd:=r'.length;obtain⟨o,ho,hc,n,hd⟩:=pl;exact call_list_seq p (.inr rfl) ho hc hd (λh' c' kp e=>fin its r' hz h' c' kp e) (by simp only[size_toArray]<;>lia)
def q9l:gf X (.type "tuple") (λxs H Q=>∃p ys,xs=[.ref p]/\((SqL X.K H p ys/\∀l,H l=none->Q (.ref l) (aM H l (.tup ys)))∨(SqT X.K H p ys/\Q (.ref p) H))):=by
 intro z5 s J H xs us Q I r h;obtain⟨p,ys,rfl,h⟩:=h;obtain⟨u,rfl,rx⟩:=cj r;cases rx;rcases h with⟨hq,q⟩|⟨hq,q⟩
 .let⟨its,r',pl,hz⟩:=I.list hq;have zd:=r'.length;refine call_tuple_list pl.isList (λh' kp=>?_) (by simp only[size_toArray]<;>lia);have I1:Inv X z5 J H {s with heap:=h'}:=I.kept kp;have I2:Inv X z5 J (aM H h'.objs.size (.tup ys)) {s with heap:=h'.push {cls:=.type "tuple",data:=.seq its.toArray}}:=
   I1.laid (λb o e=>je _ e) (jg _) (show ObjOk X.prog X.w _ _ _ (.tup ys)from⟨hz,its,r',TupN.new _ _⟩)
  exact⟨.ref h'.objs.size,_,I2,rfl,q _ (I1.hok.fresh (jg _))⟩
 .let⟨its,r',pl,hz⟩:=I.tuple hq;exact call_tuple_same pl ⟨.ref p,H,I,rfl,q⟩
def C5(K:am)(T:String)(x:V)(H:Hp):Prop:=match x with
 |.str _=>T="str"
 |.int _=>T="int"
 |.ref p=>(T="list"/\∃xs,SqL K H p xs)∨(T="tuple"/\∃o,K.lookup p=some o/\o.cls=.type "tuple"/\o.dict=none)∨
  (T="dict"/\((∃kvs,H p=some (.dK kvs))∨∃kvs,H p=some (.dT kvs)))∨(T="set"/\∃S n,H p=some (.set S n))
 |_=>False
def qrs{z5:Z3}{J:St}{H:Hp}{s:Shared}{T:String}{x:V}{v:Value}(I:Inv X z5 J H s)(r:RelV x v)(ty:C5 X.K T x H):
 s.TypeIs v T/\∀a,v=.ref a->∃ob,s.heap.get? a=some ob/\ob.dict=none:=by
 cases x with
 | str z=>
  obtain⟨t,rfl⟩:=r;cases(ty);exact⟨typeIs_str s z t,λ_ e=>nomatch e⟩
 | int i=>
  obtain⟨t,rfl⟩:=r;cases(ty);exact⟨typeIs_int s i t,λ_ e=>nomatch e⟩
 | ref p=>
  cases r;rcases ty with⟨rfl,xs,hq⟩|⟨rfl,o,hk,hc,hd⟩|⟨rfl,hk⟩|⟨rfl,S,n,hk⟩
  .let⟨its,_,pl,_⟩:=I.list hq;refine⟨pl.isList.typeIs,λa e=>?_⟩;cases e;obtain⟨o,n,e,c,hd,_⟩:=pl;exact⟨o,e,hd⟩
  .refine⟨⟨o,I.kIn p o hk,hc⟩,λa e=>?_⟩;cases e;exact⟨o,I.kIn _ o hk,hd⟩
  .have z:∃o,s.heap.get? p=some o/\o.ExactDict:=by
    rcases hk with⟨kvs,hk⟩|⟨kvs,hk⟩
    .let⟨_,_,_,_,o,_,e,ex,_⟩:=I.hok p _ hk;exact⟨o,e,ex⟩
    .let⟨_,_,_,_,o,_,_,e,ex,_⟩:=I.hok p _ hk;exact⟨o,e,ex⟩
   obtain⟨o,e,ex⟩:=z;refine⟨⟨o,e,ex.1⟩,λa e2=>?_⟩;cases e2;exact⟨o,e,ex.2.1⟩
  .let⟨o,_,_,_,e,ex,_⟩:=I.hok p _ hk;refine⟨⟨o,e,ex.1⟩,λa e2=>?_⟩;cases e2;exact⟨o,e,ex.2.1⟩
 |_=>exact False.elim ty
def sZ(K:am)(T:String)(r:V->List V->Hp->VK->Prop)(to:TE)(t:TA):TE:=λJ H Q=>to J H λx H1=>C5 K T x H1/\t J H1 λxs H2=>r x xs H2 Q
variable{o e:Expr}{es:Zi}{to:TE}{t:TA}{name:Str}{zy zp:Pos}{T id:String}{r:V->List V->Hp->VK->Prop}
def mo(pa:PlainAttrs T)(slot:Slot T name id)(hty:typeOf (.builtin id)=pure (.type "method_descriptor"))(hm:MtR X id r)(ho:PE X o to)(ha:PA X (e::es) t)
 (hbase:attributeBase o name X.env (eval o X.env)=eval o X.env:=by rfl)
 (hfew:((backTo zp (starEach (e::es) X.env)).all (λx=>!x.1)&&(backToKw zp (keywordEach [] X.env)).all (λx=>x.1.isSome)
   &&decide ((e::es).length+([]:List Keyword).length+(if([]:List Keyword).isEmpty then 0 else 1)<30))=true:=by rfl)
 (hline:(zy.endLine==zp.line)=true:=by rfl) (hs:starEach (e::es) X.env=(false,eval e X.env)::starEach es X.env:=by rfl) (hplain:(backTo zp (starEach es X.env)).any (·.1)=false:=by rfl):
 PE X (.Call (.Attribute o name zy) (e::es) [] zp) (sZ X.K T r to t):=by
 intro z5 s J H Q I h;refine wpAny_Call_method_late hbase hfew hline rfl (bf (ho z5 s J H _ I h) λv s1 ⟨x,H1,I1,r1,ty,q1⟩=>?_);let⟨h1,h2⟩:=qrs I1 r1 ty;refine⟨T,id,pa,slot,hty,h1,h2,?_⟩;have hA:=ha zp z5 s1 J H1 _ I1 q1;rw[hs]at hA ⊢;refine Calls.callWith_builtin (by show(false||(backTo zp (starEach es X.env)).any (·.1))=false;rw[hplain]<;>rfl) (Calls.evalArgs_plain ?_);exact bf hA λus s2 ⟨vs,H2,I2,r2,q2⟩=>hm z5 s2 J H2 x vs v us Q I2 r1 r2 q2
end
def Iy(X:Cx)(id:String)(r:V->List V->Hp->VK->Prop):Prop:=
 ∀(z5:Z3) (s:Shared) (J:St) (H:Hp) (x:V) (xs:List V) (v:Value) (us:Ze) (Q:VK),Inv X z5 J H s->RelV x v->Vals xs us->r x xs H Q->
   wpAny (model X.prog X.w) X.A (call (.builtin id) (v::us)) (EP X z5 J Q) X.xe s
def Vals.one:∀{x:V} {us:Ze},Vals [x] us->∃u,us=[u]/\RelV x u
 |_,_,.cons r .nil=>⟨_,rfl,r⟩
def Vals.reverse{xs:List V}{us:Ze}(h:Vals xs us):Vals xs.reverse us.reverse:=by
 induction h with
 |nil=>exact .nil
 |cons r t ih=>rw[reverse_cons,reverse_cons];exact Vals.append ih (.cons r .nil)
theorem Vals.rep{xs:List V}{us:Ze}(h:Vals xs us):∀k:Nat,Vals (replicate k xs).flatten (replicate k us).flatten
 |0=>.nil
 | k+1=>by rw[replicate_succ,replicate_succ,flatten_cons,flatten_cons];exact Vals.append h (Vals.rep h k)
theorem d8(its:Ze):∀(k:Nat) (acc:Ze),
 foldl (λx1 x2=>x1++x2) acc.toArray (replicate k its.toArray)=(acc++(replicate k its).flatten).toArray
 |0,acc=>by simp
 | k+1,acc=>by
  have e:acc.toArray++its.toArray=(acc++its).toArray:=by simp
  have e2:(acc++its)++(replicate k its).flatten=acc++(replicate (k+1) its).flatten:=by rw[replicate_succ,flatten_cons,List.append_assoc]
  rw[<-e2,<-d8 its k (acc++its),<-e,replicate_succ,foldl_cons]
section
variable{X:Cx}{z5:Z3}{J:St}{H:Hp}{s:Shared}{l b:Addr}{xs ys zs:List V}
def Inv.lset{its its':Ze}{n:Nat}{f:Array Value->Array Value}{t':Nat}(I:Inv X z5 J H s)(hH:H l=some (.lst xs))
 (e:s.heap.get? l=some {cls:=.type "list",data:=.seq its.toArray n}) (hf:f its.toArray=its'.toArray) (hv:Vals ys its') (hz:ys.length<=sizeLine):
 Inv X z5 J (aM H l (.lst ys)) {s with heap:=s.heap.update l (Obj.mapSeq f),toks:=t'}:=by
 have q:=PySem.IsL.update e f;rw[hf]at q;refine I.write (by rw[hH];exact trivial) (.inl rfl) (λb' u hb hu=>(ke s.heap (Obj.mapSeq f) (Ne.symm hb)).trans hu) ⟨_,q⟩ ?_;exact⟨hz,its',_,hv,q⟩
def Inv.lnew{its:Ze}{t':Nat}(I:Inv X z5 J H s)(hv:Vals ys its)(hz:ys.length<=sizeLine):
 Inv X z5 J (aM H s.heap.objs.size (.lst ys)) {s with heap:=s.heap.push {cls:=.type "list",data:=.seq its.toArray},toks:=t'}:=
 I.laid (λ_ _ q=>je _ q) (jg _) ⟨hz,its,0,hv,ju _ rfl⟩
def Inv.fresh(I:Inv X z5 J H s):H s.heap.objs.size=none:=I.hok.fresh (jg _)
def Inv.lstM(I:Inv X z5 J H s)(hH:H l=some (.lst xs)):xs.length<=sizeLine/\∃(its:Ze) (n:Nat),Vals xs its/\xs.length=its.length/\s.heap.get? l=some {cls:=.type "list",data:=.seq its.toArray n}:=by let⟨z,its,n,r,e⟩:=I.hok l _ hH;exact⟨z,its,n,r,r.length,e⟩
def GI{n:Nat}(h:n<=sizeLine):Builtin.List.listTooLong n=false:=by unfold Builtin.List.listTooLong;exact decide_eq_false (by lia)
end
section
variable{X:Cx}
def yT:V->List V->Hp->VK->Prop:=λx vs H Q=>∃l xs y,x=.ref l/\vs=[y]/\H l=some (.lst xs)/\xs.length<sizeLine/\Q .non (aM H l (.lst (xs++[y])))
def ny:Iy X "list.append" yT:=by intro z5 s J H x vs v us Q I rx rv h;obtain⟨l,xs,y,rfl,rfl,hH,hz,q⟩:=h;cases rx;obtain⟨u,rfl,ru⟩:=rv.one;let⟨z,its,n,r,hl,e⟩:=I.lstM hH;refine call_meets F.slot_list_append ⟨_,e,rfl⟩ F.entry_list_append (F.args_list_append_2 _ _) (PySem.list_append l its.toArray n u (by rw[jx];lia)) ⟨e,?_⟩;refine⟨.non,_,I.lset hH e (by simp) (r.append (.cons ru .nil)) ?_,rfl,q⟩;rw[jt,length_singleton];lia
def F5:V->List V->Hp->VK->Prop:=λx vs H Q=>∃l b xs zs,x=.ref l/\vs=[.ref b]/\H l=some (.lst xs)/\H b=some (.lst zs)/\xs.length+zs.length<=sizeLine/\Q .non (aM H l (.lst (xs++zs)))
def qho:Iy X "list.extend" F5:=by
 intro z5 s J H x vs v us Q I rx rv h;obtain⟨l,b,xs,zs,rfl,rfl,hH,hB,hz,q⟩:=h;cases rx;obtain⟨u,rfl,ru⟩:=rv.one;cases ru;let⟨z,its,n,r,hl,e⟩:=I.lstM hH;let⟨z2,its2,n2,r2,hl2,e2⟩:=I.lstM hB;have hsz:its.toArray.size+its2.toArray.size<=sizeLine:=by rw[jx,jx];lia
 have hlong:¬(!its.toArray.isEmpty&&Builtin.List.listTooLong (its.toArray.size+its2.toArray.size))=true:=by rw[GI hsz,Bool.and_false];exact Bool.false_ne_true
 refine call_meets F.slot_list_extend ⟨_,e,rfl⟩ F.entry_list_extend (F.args_list_extend_2 _ _)
  (AutoSeq1.list_extend_list_list_0 l its.toArray n b its2.toArray n2 hlong (by rw[jx];lia) (by lia)) ⟨e,e2,?_⟩
 refine⟨.non,_,I.lset hH e (by simp) (r.append r2) ?_,rfl,q⟩;rw[jt];lia
def rK:R2:=λx y H Q=>∃l k xs,x=.ref l/\y=.int k/\H l=some (.lst xs)/\ -(2^63)<=k/\k<2^63/\xs.length*k.toNat<=sizeLine/\
 ∀p,H p=none->Q (.ref p) (aM H p (.lst (replicate k.toNat xs).flatten))
def iy{α:Type}(xs:List α)(k:Nat):(replicate k xs).flatten.length=k*xs.length:=by
 induction k with
 |zero=>simp
 |succ k ih=>rw[replicate_succ,flatten_cons,jt,ih,Nat.succ_mul,Nat.add_comm]
def xM:OpR X (binaryOp .Mult) rK:=by
 intro z5 s J H x y v u Q I rx ry h;obtain⟨l,k,xs,rfl,rfl,hH,h1,h2,hz,q⟩:=h;cases rx;obtain⟨t,rfl⟩:=ry;let⟨z,its,n,r,hl,e⟩:=I.lstM hH;have zd:its.toArray.size*k.toNat<=sizeLine:=by rw[jx,<-hl];exact hz
 have hcap:¬its.toArray.size*k.toNat>(2^63-1) / 8:=by
  have:(sizeLine:Nat)<=(2^63-1) / 8:=by decide
  lia
 have hfit:¬(!Builtin.List.listFitsIndex k)=true:=by rw[fitsIndex_both h1 h2];exact Bool.false_ne_true
 have hlong:¬Builtin.List.listTooLong (its.toArray.size*k.toNat)=true:=by rw[GI zd];exact Bool.false_ne_true
 have hnew:foldl (λx1 x2=>x1++x2) #[] (replicate (if its.toArray.isEmpty=true then 0 else k.toNat) its.toArray)=(replicate k.toNat its).flatten.toArray:=by
  have f0:=λm=>by have:=d8 its m [];rw[nil_append]at this;exact this
  rw[f0];cases its with
  |nil=>simp
  |cons a r'=>rw[if_neg (by simp)]
 refine wpAny_binaryOp_repeat_ref (by decide) ⟨_,e,rfl⟩ (λs'=>typeIs_int s' k t) noFill_list_mul F.fills_int_mul F.slot_int_rmul repeat_list F.slot_int_index.lookup
  (call_meets F.slot_int_rmul (typeIs_int s k t) F.entry_int_rmul (F.args_int_rmul_2 _ _) (int___rmul___int_list k t l its.toArray n)
    ⟨e,rfl,⟨_,e,rfl⟩,call_meets F.slot_list_mul ⟨_,e,rfl⟩ F.entry_list_mul (F.args_list_mul_2 _ _) (AutoListH.list___mul___list_int_3 l its.toArray n k t hfit hcap hlong) ⟨e,?_⟩⟩)
 rw[hnew];exact⟨.ref _,_,I.lnew (r.rep k.toNat) (by rw[iy,Nat.mul_comm];exact hz),rfl,q _ I.fresh⟩
end
section
variable{prog:Program}{w:World}{A:Around}{E:Z0}{s:Shared}
end
section
variable{X:Cx}
end
end L2
namespace Att
open PySem PySem.W PySem.Calls PyProof.Rows
def q7g{P:Params}{h:Heap}:∀(ns:Zf) (vs:Ze),WellAll P h vs (ns.map WData.int)->IntsAre vs ns:=by
 intro ns;induction ns with
 | nil=>
  intro vs w;rw[List.map_nil]at w;cases w;exact .nil
 | cons n ns ih=>
  intro vs w;rw[x5]at w;cases w with
  | cons a b=>
   cases a;exact .cons _ _ (ih _ b)
def qfk{l:OpenLaw}{n:Nat}(hn:l.most=some n){P:Params}{h:Heap}{args:List WData}{vals:Ze}
 (hpre:l.row.toRowW.claim.pre args=true) (hwl:WellAll P h vals args):
 ∃a vs ns,vals=[Value.ref a]/\args=[WData.list (ns.map WData.int)]/\h.get? a=some {cls:=.type "list",data:=.seq vs.toArray}/\IntsAre vs ns/\ns.length<=n:=by
 have hc:l.pre.holds [] {args:=args}=true:=(pre_splitW hpre).2;obtain⟨d,r,rfl,h1,h2⟩:=hasAllW_cons ((pre_splitW hpre).1);obtain rfl:=hasAllW_nil h2;obtain⟨xs,rfl,h3⟩:=hasW_list h1;obtain⟨ns,rfl⟩:=items_int h3;have zd:ns.length<=n:=by
  have h4:(WTm.not (.lt (.lit (.int (n:Int))) (.len (.arg 0)))).holds [] {args:=[.list (ns.map .int)]}=true:=by have h4:=(holds_andW hc).1;rw[hn]at h4;exact h4
  have h5:=condW_of h4 (w_not (w_lt w_lit (w_len_list (w_arg rfl))));rw[ja]at h5;refine Nat.le_of_not_lt λq=>?_;have q':(n:Int)<((ns.length:Nat):Int):=by lia
  first
   |(rw[decide_eq_true q']at h5;exact absurd h5 (by decide))
   |(simp at h5;lia)
 cases hwl with
 | cons w1 w2=>
  cases w2;cases w1 with
  |list ho hall=>exact⟨_,_,ns,rfl,rfl,ho,q7g ns _ hall,zd⟩
def qh1(l:OpenLaw)(args:List WData):l.row.toRowW.claim.post args (.bool true) args=true:=
 postW_of
  (show WShape.has [] (.bool true) .bool=true by first|rfl|decide|simp[WShape.has,WShape.arms,WShape.armsAll])
  (w_eq_bool (w_res rfl) w_lit) rfl
def attach_call{l:OpenLaw}{n:Nat}{q:Program}{loose:Zj}{XP:(Str->Option Value)->Heap->Prop}{YP:World->Heap->Prop}{d:DefRec}
 (hn:l.most=some n) (hdf:d.params.defaults=[])
 (call:∀(w:World) (s₀ s₁:Shared) (mg mb:Za) (fa:Addr) (o:Obj) (pm cd doc:Value) (a:Addr) (vs:Ze) (ns:Zf),
   Ground q loose [] XP w s₀ mg mb s₁.heap->YP w s₁.heap->
   s₁.heap.get? fa=some o->o.data=.func (docDef d.name d.params d.body d.scope pm cd doc)->s₁.heap.CodeRec cd d.name->mg d.name=some (.ref fa)->
   s₁.heap.get? a=some {cls:=.type "list",data:=.seq vs.toArray}->IntsAre vs ns->ns.length<=n->s₁.gens=#[]->
   codeAny (model l.prog w) callerA (.call (.ref fa) ⟨[.ref a],[]⟩) (λr s'=>r=.ok (.ret (.bool true))/\OldK s₁.heap s'.heap/\s'.os=s₁.os/\AllBare s'.gens) s₁):
 WalkO q loose XP YP l.row.toRowW d [] (λf vs=>PySem.call f vs):=by
 intro w s₀ s₁ mg mb G Y fa o pm cd doc dV kV ho hd hcd hD hmg hg args vals as hpre hlay hrd hwl hlo;obtain rfl:dV=.none:=Dflts.none hD hdf;obtain rfl:kV=.none:=Dflts.noKw hD;obtain⟨a,vs,ns,rfl,rfl,hobj,j7,zd⟩:=qfk hn hpre hwl;refine enter_call (codeAny_mono (call w s₀ s₁ mg mb fa o pm cd doc a vs ns G Y ho (fd_plain hd) hcd hmg hobj j7 zd hg) λr s' hq=>?_);obtain⟨rfl,h2,h3,h4⟩:=hq;exact⟨.inl ⟨.bool true,.bool true,[],rfl,λ_=>rfl,.bool true,qh1 l _,λ_=>⟨List.Pairwise.nil,λ_ hm=>(nomatch hm)⟩⟩,h2,h3,h4⟩
section
variable{prog:Program}{w:World}{A:Around}{E:Z0}{s:Shared}{K:Frag}
end
end Att
namespace L2
open PySem PySem.Spec PyProof.Rows
theorem Hs:∀{vs:Ze} {ns:Zf},IntsAre vs ns->Vals (ns.map V.int) vs
 |_,_,.nil=>.nil
 |_,_,.cons n t h=>.cons ⟨t,rfl⟩ (Hs h)
noncomputable def dP(s:Stmt)(j:Nat):Stmt:=match s with
 |.ClassDef _ _ _ body _ _ _ _ _ _ _=>body.getD j (.Pass ⟨0,0,0,0⟩)
 |_=>.Pass ⟨0,0,0,0⟩
noncomputable def iH(s:Stmt):Arguments:=match s with
 |.FunctionDef _ a _ _ _ _ _ _ _ _=>a
 |_=>{posonlyargs:=[],args:=[],vararg:=none,kwonlyargs:=[],kw_defaults:=[],kwarg:=none,defaults:=[]}
noncomputable def fU(s:Stmt):List Stmt:=match s with
 |.FunctionDef _ _ b _ _ _ _ _ _ _=>b
 |_=>[]
noncomputable def aS(s:Stmt):Scope:=match s with
 |.FunctionDef _ _ _ _ _ _ sc _ _ _=>sc
 |_=>{kind:=.function,names:=[],isGenerator:=false,isCoroutine:=false}
abbrev bu:iq:=λ_ _ _ _ _ _=>False
abbrev E0:XK:=λ_ _ _=>False
def nA{X:Cx}:o6 bu X E0:=λ_ _ _ _ _ _ _ h=>h.elim
structure Fun(K:am)(x qual:Str)(st:Stmt)(f:Addr)(fd:FuncData):Prop where
 ex:∃(oc:Value) (od:Zc) (kV doc pm:Value) (an:Zc) (cdv ct:Value) (osl:Array (Option Value)),
  fd=W.fnOf x qual (iH st) (fU st) (aS st) .none kV doc pm an cdv ct/\K.lookup f=some ⟨oc,od,.func fd,osl⟩/\W.codeIn K cdv qual=true
 kp:W.keepIn K (.ref f)=true
section
variable{P:Program}{w:World}{K:am}{mg:Za}{base:Heap}
def Fun.ok{x qual:Str}{st:Stmt}{f:Addr}{fd:FuncData}{N ps:Zj}{k:Nat}{sp:Sp}(F:Fun K x qual st f fd)(S:q0j N ps (aS st))(len:∀vs H Q E,sp vs H Q E->vs.length=ps.length)
 (zg:∀(cdv:Value) (A:Around) (outer:List Env) (s:Shared) (H:Hp) (vs:List V) (Q:VK) (E:XK),Room k (A.deeper (envOfC qual (aS st) s.heap.objs.size f cdv))->sp vs H Q E->
   ∃t,PSs (e9 bu P w K mg base N qual (aS st) f cdv A outer s H E).nox (fU st) t/\t {nx:=λ_ H'=>Q .non H',rt:=Q} (bc N vs) H):FnOk P w K mg base bu (k+1) f fd ps sp:=by
 obtain⟨oc,od,kV,doc,pm,an,cdv,ct,osl,rfl,lk,hcd⟩:=F.ex;refine wq lk hcd S len λA outer s H vs Q E hr hsp=>?_;let⟨t,h,q⟩:=zg cdv A outer s H vs Q E hr hsp;exact⟨t,h.nox,q⟩
def qwd{x qual:Str}{st:Stmt}{f:Addr}{oc:Value}{od an:Zc}{osl:Array (Option Value)}{kV doc pm cdv ct:Value}(l:K.lookup f=some ⟨oc,od,.func (W.fnOf x qual (iH st) (fU st) (aS st) .none kV doc pm an cdv ct),osl⟩)
 (c:W.codeIn K cdv qual=true) (k:W.keepIn K (.ref f)=true):Fun K x qual st f (W.fnOf x qual (iH st) (fU st) (aS st) .none kV doc pm an cdv ct):=⟨⟨oc,od,kV,doc,pm,an,cdv,ct,osl,rfl,l,c⟩,k⟩
end
section
variable{X:Cx}
def pv(i:Nat){x:Str}{pos:Pos}(hN:X.N[i]? =some x:=by rfl)(hv:lK X.env.scope x:=by first|exact Or.inl rfl|exact Or.inr (Or.inl rfl)|exact Or.inr (Or.inr rfl))(hd:(x==("__debug__":Str))=false:=by decide)
 (hcd:(x==("__classdict__":Str))=false:=by decide):PE X (.Name x pos) (dJ i):=qtc hN hv hd hcd
end
def fX{A B:Prop}(h:B):if false=true then A else B:=by rw[if_neg Bool.false_ne_true];exact h
def fW{A B:Prop}(h:A):if true=true then A else B:=by rw[if_pos rfl];exact h
def Same(H H':Hp):Prop:=∀b o,H b=some o->H' b=some o
def Same.refl(H:Hp):Same H H:=λ_ _ h=>h
def Same.trans{H H1 H2:Hp}(a:Same H H1)(b:Same H1 H2):Same H H2:=λc o h=>b c o (a c o h)
def Same.free{H H':Hp}(e:Same H H'){l:Addr}(h:H' l=Option.none):H l=Option.none:=by
 cases q:H l with
 |none=>rfl
 | some o=>
  rw[e l o q]at h;cases h
section
variable{X:Cx}{z5:Z3}{J:St}{H:Hp}{s:Shared}
def Inv.track{d:Addr}{o:HO}(I:Inv X z5 J H s)(hn:H d=none)(hy:X.s₀.heap.objs.size<=d)(hL:d≠X.env.locals)(hc:∀x c,X.env.cells.lookup x=some c->c≠d)
 (hp:∀p∈X.pn++z5,p.1≠d) (new:ObjOk X.prog X.w (aM H d o) s.heap d o):Inv X z5 J (aM H d o) s:=by
 have old:∀b ob,X.s₀.heap.get? b=some ob->b≠d:=λb ob e=>jq (jw (jd e) hy);have was:∀b u,H b=some u->b≠d:=λb u e=>gr e hn;refine⟨I.ok,I.os,I.bare,⟨I.base.keep,I.base.slot,λb ob e n hx=>?_,I.base.there,λb xs e=>?_,λb ob u e=>?_,λb ps e=>?_⟩,I.loc,I.cell,?_,λx c e=>?_,λp z=>?_,λb u e=>?_,I.len⟩
 .rw[aX (old b ob e)];exact I.base.free b ob e n hx
 .have q:=I.base.tups b xs e;rw[aX (was b _ q)];exact q
 .have q:=I.base.frzs b ob u e;rw[aX (was b _ q)];exact q
 .let⟨m,q⟩:=I.base.tbls b ps e;exact⟨m,by rw[aX (was b _ q)];exact q⟩
 .rw[aX (Ne.symm hL)];exact I.free
 .rw[aX (hc x c e)];exact I.freeC x c e
 .let⟨e,n,r⟩:=I.pin p z;exact⟨e,by rw[aX (hp p z)];exact n,r⟩
 .by_cases hb:b=d
  .subst hb;rw[cA]at e;cases e;exact new
  .rw[aX hb]at e;refine(I.hok b u e).stay (λc v _ q=>q) (λc q=>?_) λc xs q=>?_
   .rw[aX (was c _ q)];exact q
   .rw[aX (was c _ q)];exact q
end
theorem Ag{env:Env}:∀(names:List (Str×NameKind)) (acc:List (Str×Addr)),(∀y∈names,y.2=.free->∃c,env.cells.lookup y.1=some c)->
 ∃cl,(forIn names acc λ(p:Str×NameKind) (cs:List (Str×Addr))=>(if(p.2==NameKind.free)=true then do let c <-cellOf env p.1;pure (ForInStep.yield ((p.1,c)::cs))else pure (ForInStep.yield cs):Sem (ForInStep (List (Str×Addr)))))=pure cl/\
  (∀x c,cl.lookup x=some c->acc.lookup x=some c∨env.cells.lookup x=some c)/\(∀x c,acc.lookup x=some c->∃c',cl.lookup x=some c')/\∀y∈names,y.2=.free->∃c,cl.lookup y.1=some c
 |[],acc,_=>⟨acc,rfl,λ_ _ h=>.inl h,λ_ c h=>⟨c,h⟩,λ_ h=>nomatch h⟩
 | (n,k)::r,acc,hh=>by
  by_cases hk:k=.free
  .subst hk;let⟨c,hc⟩:=hh (n,.free) jj rfl;let⟨cl,e,h1,h2,h3⟩:=Ag r ((n,c)::acc) λy hy=>hh y (ji _ hy);have ec:cellOf env n=pure c:=by
    unfold cellOf;rw[hc]
   have here:=h2 n c (by simp[lookup_cons]);refine⟨cl,?_,λx d q=>?_,λx d q=>?_,λy hy hf=>?_⟩
   .rw[forIn_cons];simp only[beq_self_eq_true,if_true,ec,pure_bind];exact e
   .rcases h1 x d q with z|z
    .rw[lookup_cons]at z;by_cases hx:x=n
     .subst hx;simp only[beq_self_eq_true]at z;cases z;exact .inr hc
     .rw[beq_eq_false_iff_ne.mpr hx]at z;exact .inl z
    .exact .inr z
   .by_cases hx:x=n
    .subst hx;exact here
    .exact h2 x d (by rw[lookup_cons,beq_eq_false_iff_ne.mpr hx];exact q)
   .rcases List.mem_cons.mp hy with rfl|hy
    .exact here
    .exact h3 y hy hf
  .let⟨cl,e,h1,h2,h3⟩:=Ag r acc λy hy=>hh y (ji _ hy);refine⟨cl,?_,h1,h2,λy hy hf=>?_⟩
   .rw[forIn_cons];have hb:(k==NameKind.free)=false:=by simpa using hk
    simp only[hb,false_eq_true,if_false,pure_bind];exact e
   .rcases List.mem_cons.mp hy with rfl|hy
    .exact absurd hf hk
    .exact h3 y hy hf
def HX{env:Env}{scope:Scope}(hh:∀y∈scope.names,y.2=.free->∃c,env.cells.lookup y.1=some c):
 ∃cl,closureFor scope env=pure cl/\(∀x c,cl.lookup x=some c->env.cells.lookup x=some c)/\∀y∈scope.names,y.2=.free->∃c,cl.lookup y.1=some c:=by
 let⟨cl,e,h1,_,h3⟩:=Ag scope.names [] hh;refine⟨cl,?_,λx c q=>(h1 x c q).elim (λz=>by simp at z) id,h3⟩;unfold closureFor;simp only[bind_pure];exact e
noncomputable def dI(X:Cx)(N:Zj)(scope:Scope)(s:Shared)(H:Hp)(C:Addr)(cl:List (Str×Addr))(fp:List Addr):Cx where
 prog:=X.prog
 w:=X.w
 K:=X.K
 mg:=X.mg
 base:=X.base
 A:=X.A
 N:=N
 s₀:=s
 H₀:=H
 env:=compEnvC scope cl C X.env
 outer:=X.stack
 stack:=X.stack
 ex:=fp
 fn:=λ_=>false
 calm:=X.calm
 pn:=[]
 xe:=λ_ _=>False
noncomputable def db(n:Nat)(js:Zg)(J:St):St:=replicate n none++js.map λj=>(J[j]?).join
def qX(n:Nat)(g:TG):Prop:=∀v J H Q,g v J H Q->g v J H λJ2 H2=>Q J2 H2/\J2.length=J.length/\∀i,n<=i->J2[i]? =J[i]?
def qM{n i:Nat}(h:i<n):qX n (gE i):=λv J H Q q=>⟨q,by simp,λj hj=>by rw[List.getElem?_set_ne (by lia)]⟩
def zC{K:am}{n i j:Nat}(hi:i<n)(hj:j<n):qX n (lX K 2 (tx (gE i) (tx (gE j) oh))):=λv J H Q q=>by obtain⟨a,xs,e,h,hl,x,r,e1,y,r2,e2,e3,q⟩:=q;exact⟨a,xs,e,h,hl,x,r,e1,y,r2,e2,e3,q,by simp,λk hk=>by rw[List.getElem?_set_ne (by lia),List.getElem?_set_ne (by lia)]⟩
def qV(X:Cx)(ifs:Zi)(t:TT):Prop:=
 ∀(z5:Z3) (s:Shared) (J:St) (H:Hp) (Q:Bool->Hp->Prop),Inv X z5 J H s->t J H Q->
   wpAny (model X.prog X.w) X.A (forIn ifs true λc r=>if r=true then do let ok <-isTrue c X.env (eval c X.env);pure (ForInStep.yield ok)else pure (ForInStep.yield r)) (TP X z5 J Q) X.xe s
def iL:TT:=λ_ H Q=>Q true H
def um{X:Cx}:qV X [] iL:=λ_ _ _ H _ I h=>wpAny_tests_nil ⟨H,I,h⟩
def uq{X:Cx}{c:Expr}{t:TT}(hc:PT X c t):qV X [c] t:=λz5 s J H Q I h=>wpAny_tests_one (hc z5 s J H Q I h)
def uR(g:TG)(tt:TT)(te:TE)(J0:St)(Fin:List V->Hp->Prop)(σ:It)(H1:Hp):Prop:=
 ∃W:Nat->Nat->List V->Hp->Prop,(∃m,W 0 m [] H1)/\∀i m ys H2,W i m ys H2->
  (σ.stop i H2/\ys.length<=sizeLine/\Fin ys H2)∨
  (σ.go i H2/\ys.length<sizeLine/\∃N:List V->Hp->Prop,(∀ys' H',N ys' H'->∃m',m'<m/\W (i+1) m' ys' H')/\∀x H3,σ.yld i H2 x H3->g x J0 H3 λσ4 H4=>tt σ4 H4 λb H5=>
    if b=true then te σ4 H5 λy H6=>N (ys++[y]) H6 else N ys H5)
def qe(n:Nat)(js:Zg)(wi:TI)(g:TG)(tt:TT)(te:TE):TE:=λJ H Q=>
 wi J H (uR g tt te (db n js J) λys H2=>∀D,H2 D=none->Q (.ref D) (aM H2 D (.lst ys)))
def tJ(k n:Nat)(js:Zg)(wi:TI)(g:TG)(tt:TT)(te:TE):TS:=λE J H=>
 wi J H (uR g tt te (db n js J) λys H2=>∀D,H2 D=none->E.nx (J.set k (some (.ref D))) (aM H2 D (.lst ys)))
def qit{prog:Program}{w:World}{A:Around}{R:Zb}{s:Shared}{elt zj ze:Expr}{ifs:Zi}{scope:Scope}{pos:Pos}{it acc:Value}{env:Env}(I:Nat->Shared->Prop)
 (turn:∀n s,I n s->wpAny (model prog w) A (pyNext it) (λr s₁=>(r=none/\R (.ok .next) s₁)∨∃v,r=some v/\wpAny (model prog w) A (letOwnedTupleGo zj it v) (λ_ s₀=>
   wpAny (model prog w) A (assign zj env v) (λ_ s₂=>
    wpAny (model prog w) A (forIn ifs true λc r=>if r=true then do let ok <-isTrue c env (eval c env);pure (ForInStep.yield ok)else pure (ForInStep.yield r)) (λok s₃=>
     if ok=true then wpAny (model prog w) A (eval elt env) (λx s₄=>wpAny (model prog w) A (call (.builtin "list.append") [acc,x]) (λ_ s₅=>∃m,m<n/\I m s₅) (λ_ _=>False) s₄) (λ_ _=>False) s₃
     else∃m,m<n/\I m s₃) (λ_ _=>False) s₂) (λ_ _=>False) s₀) (λ_ _=>False) s₁) (λ_ _=>False) s)
 (n:Nat) (h:I n s):codeAny (model prog w) A (.compLoop (.ListComp elt [⟨zj,ze,ifs,0⟩] scope pos) 0 it acc env) R s:=by
 have no:∀{E:Z0} (x:Value) (z:Shared),False->E x z:=λ_ _ f=>f.elim;refine codeAny_loop rfl I (λn s hI=>?_) n h;show wpAny _ A ((compTurn (.ListComp elt [⟨zj,ze,ifs,0⟩] scope pos) 0 it acc env).onRaise (λx=>do noteFrame x env;theTreesLotGoes x)) _ _ s;refine wpAny_noted ?_;rw[compTurn_list];refine j9 (wpAny_standAt (j9 (xg (turn n s hI) (λr s₁ h₁=>?_) no)));rcases h₁ with⟨e,h₁⟩|⟨v,e,h₁⟩
 .subst e;exact jb h₁
 .subst e;refine j9 (xg h₁ (λ_ s₀ h₀=>j9 (xg h₀ (λ_ s₂ h₂=>j9 (xg h₂ (λok s₃ h₃=>?_) no)) no)) no);cases ok with
  |false=>exact jb ⟨rfl,h₃⟩
  | true=>
   exact j9 (j9 (xg h₃ (λx s₄ h₄=>j9 (xg h₄ (λ_ s₅ h₅=>jb (jb ⟨rfl,h₅⟩)) no)) no))
noncomputable def gJ(sc:Scope)(N0 N:Zj)(n:Nat)(js:Zg)(scope:Scope):Bool:=
 decide (scope.kind=.function)&&scope.names.all (λy=>decide (y.2≠.cell))&&scope.names.all (λy=>decide (y.2≠.free)||decide (sc.names.lookup y.1=some .cell)||decide (sc.names.lookup y.1=some .free))&&
 scope.names.all (λy=>decide (y.2≠.local)||decide (scope.names.lookup y.1=some .local))&&decide (js.map (λj=>N0[j]?)=(N.drop n).map some)&&
 (N.drop n).all (λx=>decide (sc.names.lookup x=some .cell)||decide (sc.names.lookup x=some .free))&&(N.drop n).all (λx=>decide (scope.names.lookup x=some .free))&&decide (n+js.length=N.length)
theorem HZ{env:Env}:∀{names:List (Str×NameKind)} {x:Str},(names.map λ(n,k)=>if(k==NameKind.free&&env.scope.kind==.function&&env.kindOf n==some .cell)then(n,NameKind.cell)else(n,k)).lookup x=some .cell∨
 (names.map λ(n,k)=>if(k==NameKind.free&&env.scope.kind==.function&&env.kindOf n==some .cell)then(n,NameKind.cell)else(n,k)).lookup x=some .free->(∀y∈names,y.2≠.cell)->∃y∈names,y.1=x/\y.2=.free
 |[],_,h,_=>by rcases h with h|h<;>simp at h
 | (n,k)::r,x,h,hc=>by
  by_cases hx:x=n
  .subst hx;refine⟨(x,k),jj,rfl,?_⟩;have hk:=hc (x,k) jj;by_cases hf:k=.free
   .exact hf
   .exfalso;have hb:(k==NameKind.free)=false:=by simpa using hf
    simp only[map_cons,hb,Bool.false_and,false_eq_true,if_false,lookup_cons,beq_self_eq_true]at h;rcases h with h|h
    .exact hk (jm h)
    .exact hf (jm h)
  .have hb:=beq_eq_false_iff_ne.mpr hx;have step:∀(q:Str×NameKind) (l:List (Str×NameKind)),q.1=n->List.lookup x (q::l)=List.lookup x l:=λq l e=>by
    obtain⟨a,b⟩:=q;have e':=e;subst e';rw[lookup_cons,hb]
   have nm:(if(k==NameKind.free&&env.scope.kind==.function&&env.kindOf n==some .cell)then(n,NameKind.cell)else(n,k)).1=n:=by split<;>rfl
   rw[x5,step _ _ nm]at h;let⟨y,hy,r1,r2⟩:=(@HZ env r x) h λy hy=>hc y (ji _ hy);exact⟨y,ji _ hy,r1,r2⟩
theorem mem_of_lookup{x:Str}{k:NameKind}:∀{l:List (Str×NameKind)},l.lookup x=some k->(x,k)∈l
 |[],h=>by simp at h
 | (a,b)::r,h=>by
  rw[lookup_cons]at h;by_cases hx:x=a
  .subst hx;simp only[beq_self_eq_true]at h;cases h;exact jj
  .rw[beq_eq_false_iff_ne.mpr hx]at h;exact ji _ (mem_of_lookup h)
theorem Ia{env:Env}{x:Str}:∀(l:List (Str×NameKind)),l.lookup x=some .free->(l.map λ(n,k)=>if(k==NameKind.free&&env.scope.kind==.function&&env.kindOf n==some .cell)then(n,NameKind.cell)else(n,k)).lookup x≠some .local
 |[],q=>by simp at q
 | (a,b)::r,q=>λz=>by
  rw[lookup_cons]at q;by_cases hx:x=a
  .subst hx;simp only[beq_self_eq_true]at q;cases q;rw[x5]at z;dsimp only at z;split at z
   .simp[lookup_cons]at z
   .simp[lookup_cons]at z
  .rw[beq_eq_false_iff_ne.mpr hx]at q;apply Ia (env:=env) r q;by_cases hc:(b==NameKind.free&&env.scope.kind==.function&&env.kindOf a==some .cell)=true
   .simp only[map_cons,if_pos hc,lookup_cons,beq_eq_false_iff_ne.mpr hx]at z;exact z
   .simp only[map_cons,if_neg hc,lookup_cons,beq_eq_false_iff_ne.mpr hx]at z;exact z
def Gk(n:Nat)(js:Zg)(J:St):(db n js J).length=n+js.length:=by simp[db]
def Gm{n:Nat}{js:Zg}{J:St}{i:Nat}(h:i<n):(db n js J)[i]? =some none:=by unfold db;rw[vc (by simpa using h),va,if_pos h]
def qlq{n:Nat}{js:Zg}{J:St}{i:Nat}{v:V}(h:n<=i)(e:(db n js J)[i]? =some (some v)):∃j,js[i-n]? =some j/\J[j]? =some (some v):=by
 unfold db at e;rw[kb (by simpa using h),x6,jo]at e;cases q:js[i-n]? with
 |none=>rw[q]at e;cases e
 | some j=>
  rw[q]at e;refine⟨j,rfl,?_⟩;have e':(J[j]?).join=some v:=jm e;cases z:J[j]? with
  |none=>rw[z]at e';cases e'
  |some o=>rw[z]at e';exact congrArg some e'
section
variable{X:Cx}{tg elt ze:Expr}{ifs:Zi}{scope:Scope}{pos:Pos}{N N0:Zj}{n:Nat}{js:Zg}{sc:Scope}{g:TG}{tt:TT}{te:TE}
def Hz{z5:Z3}{J:St}{H:Hp}{s:Shared}{it:Addr}{fp:List Addr}{tn:Nat->Heap->Prop}{σ:It}{cl:List (Str×Addr)}{Fin:List V->Hp->Prop}{RR:Value->Addr->Result->Shared->Prop}{E:Z0}
 (hc:X.calm=true) (hsc:X.env.scope=sc) (hN0:X.N=N0) (ok:gJ sc N0 N n js scope=true)
 (hg:∀s H C cl fp,PG (dI X N scope s H C cl fp) tg g) (hgo:qX n g) (ht:∀s H C cl fp,qV (dI X N scope s H C cl fp) ifs tt) (he:∀s H C cl fp,PE (dI X N scope s H C cl fp) elt te)
 (I:Inv X z5 J H s) (T:Turn X.prog X.w X.K tg σ fp it tn) (st:tn 0 s.heap) (fo:∀b∈fp,gB X z5 H b)
 (hcl:∀x c,cl.lookup x=some c->X.env.cells.lookup x=some c) (hcl2:∀y∈scope.names,y.2=.free->∃c,cl.lookup y.1=some c)
 (G:uR g tt te (db n js J) Fin σ H)
 (k:∀(D C:Addr) (oC:Obj) (m:Za) (ys:List V) (H':Hp) (s':Shared),Inv X (z5++[(C,oC)]) J (aM H' D (.lst ys)) s'->H' D=none->s'.heap.Ns C m->X.s₀.heap.objs.size<=C->C≠X.env.locals->(∀x c,X.env.cells.lookup x=some c->c≠C)->
   (∀p∈X.pn++z5,p.1≠C)->aM H' D (.lst ys) C=none->Fin ys H'->RR (.ref D) C (.ok .next) s'):
 wpAny (model X.prog X.w) X.A (newList []) (λacc s₃=>wpAny (model X.prog X.w) X.A (newFunctionEnv scope X.env.globals cl [] X.env.qual none .none (some X.env)) (λcenv s₄=>
  codeAny (model X.prog X.w) X.A (.compStart (.ListComp elt [⟨tg,ze,ifs,0⟩] scope pos) 0 (.ref it) acc {cenv with scope:=relabel scope X.env}) (RR acc cenv.locals) s₄) E s₃) E s:=by
 simp only[gJ,and_eq_true,decide_eq_true_eq,all_eq_true,or_eq_true]at ok;obtain⟨⟨⟨⟨⟨⟨⟨kind,cell⟩,free⟩,nms⟩,cap⟩,lc⟩,lf⟩,len⟩:=ok;subst hN0 hsc;refine kh (wpAny_newFunctionEnv cell (by intro y hy;simp at hy) (λh1 ns1 sb1=>?_) kind);dsimp only at ns1 sb1 ⊢;generalize eG:s.heap.push {cls:=.type "list",dict:=none,data:=.seq ([]:Ze).toArray}=G2 at ns1 sb1 ⊢;have eC:G2.objs.size=s.heap.objs.size+1:=by rw[<-eG,xy]
 generalize eCC:G2.objs.size=C at ns1 sb1 eC ⊢;generalize eD:s.heap.objs.size=D at eC ⊢;have ltD:∀b o,s.heap.get? b=some o->b<D:=λb o e=>eD▸jd e;have DC:D≠C:=by rw[eC];exact jq (lt_succ_self _)
 have bC:∀b:Nat,b<D->b≠C:=λb hb z=>by rw[z,eC]at hb;exact absurd hb (Nat.not_lt.mpr (le_succ _))
 have old:∀b o,s.heap.get? b=some o->h1.get? b=some o:=λb o e=>by have hb:=ltD b o e;refine sb1.extBut b o (bC b hb) (je _ ?_);rw[<-eG];exact je _ e
 have accD:h1.get? D=some {cls:=.type "list",data:=.seq ([]:Ze).toArray 0}:=by refine sb1.extBut _ _ DC (je _ ?_);rw[<-eG,<-eD];exact ju _ rfl
 have freeD:H D=none:=I.hok.fresh (by rw[eD];exact jg _);have freeC:H C=none:=I.hok.fresh (by rw[eD,eC];exact le_succ _);have fpD:∀b∈fp,b<D:=λb hb=>let ⟨o,e,_⟩:=T.obj 0 _ st b hb;ltD b o e
 have cellD:∀x c,X.env.cells.lookup x=some c->c<D:=λx c e=>let ⟨v,o,ho,_⟩:=I.cell x c e;ltD c o ho
 have pinD:∀p∈X.pn++z5,p.1<D:=λp hp=>ltD _ _ (I.pin p hp).1;have stkD:∀b∈gW X.stack,b<D:=λb hb=>by
  rcases List.mem_cons.mp (I.stkSub b hb)with e|z
  .subst e;rw[<-eD];exact I.lt
  .let⟨_,o,ho,_⟩:=I.ok.funs.mem z;rw[<-eD];exact jw (jd ho) I.sz
 have fpS:∀b∈fp,b∉gW X.stack:=λb hb z=>by
  let⟨_,f1,f2,_⟩:=fo b hb;rcases List.mem_cons.mp (I.stkSub b z)with e|q
  .exact f1 e
  .exact f2 q
 have kindB:(compEnvC scope cl C X.env).scope.kind=.function:=kind;have okB:(dI X N scope s H C cl fp).Ok:={
  mod:=I.ok.mod
  kind:=kind
  glob:=I.ok.glob
  blt:=I.ok.blt
  above:=by show s.heap.objs.size<=C;rw[eD,eC];exact le_succ _
  inj:=λx y c e1 e2=>I.ok.inj x y c (hcl x c e1) (hcl y c e2)
  has:=λx hx=>by let⟨y,hy,e,f⟩:=HZ hx cell;subst e;exact hcl2 y hy f
  cab:=λx c z=>by cases z
  hd:=I.ok.hd
  frames:=I.ok.frames
  stk:=.inl rfl
  exf:=λb hb=>⟨bC b (fpD b hb),λx c e=>(fo b hb).2.2.2.2.1 x c (hcl x c e)⟩
  bs:=λb o e=>I.bs b o e
  bsz:=jz I.ok.bsz I.sz
  noex:=λb o e hb=>by
   rcases(fo b hb).2.2.2.1 with z|z
   .exact I.ok.noex b o e z
   .exact absurd (jw (jd e) (jz I.ok.bsz z)) (xo _)
  exfs:=fpS
  funs:=I.stack
  frf:=I.stkFree}
 have upH:∀b o,s.heap.get? b=some o->h1.get? b=some o:=old;have IB:Inv (dI X N scope s H C cl fp) [(D,{cls:=.type "list",data:=.seq ([]:Ze).toArray 0})] (db n js J) H {s with heap:=h1,toks:=s.toks+([]:List (Str×Value)).length}:=by
  refine⟨okB,rfl,I.bare,Un.kept old,⟨_,ns1,λi x v e1 e2 e3=>?_⟩,λx c e=>?_,freeC,λx c e=>I.freeC x c (hcl x c e),λp hp=>?_,I.hok.kept old,?_⟩
  .have hi:n<=i:=by
    by_cases hlt:i<n
    .rw[Gm hlt]at e2;cases e2
    .lia
   let⟨j,ej,ev⟩:=qlq hi e2;have hxN:(N.drop n)[i-n]? =some x:=by rw[getElem?_drop,show n+(i-n)=i by lia];exact e1
   have hxm:x∈N.drop n:=kc hxN;have eN:X.N[j]? =some x:=by
    have q:(js.map λj=>X.N[j]?)[i-n]? =some (X.N[j]?):=by rw[jo,ej];rfl
    rw[cap,jo,hxN]at q;exact(jm q).symm
   obtain⟨m0,_,hl⟩:=I.loc;have kx:=lc x hxm;have vis:lK X.env.scope x:=by
    rcases kx with z|z
    .exact .inr (.inl z)
    .exact .inr (.inr z)
   let⟨u,r,lk⟩:=hl j x v eN ev vis;refine⟨u,r,?_⟩;rcases lk with⟨q,_⟩|⟨_,c,ec,o,ho,hd⟩
   .exfalso;have q':X.env.scope.names.lookup x=some .local:=q;rcases kx with z|z
    .rw[z]at q';cases q'
    .rw[z]at q';cases q'
   .have fx:scope.names.lookup x=some .free:=lf x hxm;obtain⟨c',ec'⟩:∃c',cl.lookup x=some c':=by
     have hm:(x,NameKind.free)∈scope.names:=mem_of_lookup fx;exact hcl2 _ hm rfl
    have ecc:c'=c:=by have z:=hcl x c' ec';rw[ec]at z;exact(jm z).symm
    subst ecc;refine .inr ⟨?_,c',ec',o,old _ _ ho,hd⟩;rcases e3 with z|z|z
    .exfalso;have z':(relabel scope X.env).names.lookup x=some .local:=z;exact Ia _ fx z'
    .exact .inl z
    .exact .inr z
  .let⟨v,o,ho,hd⟩:=I.cell x c (hcl x c e);exact⟨v,o,old _ _ ho,hd⟩
  .have e:p=(D,{cls:=.type "list",data:=.seq ([]:Ze).toArray 0}):=by simpa[dI]using hp
   subst e;exact⟨accD,freeD,DC,λz=>absurd (stkD D z) (xo _),λv=>by intro z;cases z⟩
  .show(db n js J).length=N.length;rw[Gk];exact len
 -- what stays true of the iterator's records
 have stat:∀{H':Hp} {oD:Obj},(∀b∈fp,H' b=none)->∀b∈fp,gB (dI X N scope s H C cl fp) [(D,oD)] H' b:=λ{H' oD} hn b hb=>
  ⟨hn b hb,bC b (fpD b hb),fpS b hb,.inl hb,λx c e=>(fo b hb).2.2.2.2.1 x c (hcl x c e),λp hp=>by
    have e:p=(D,oD):=by simpa[dI]using hp
    subst e;exact ne_of_gt (fpD b hb)⟩
 obtain⟨W,⟨m0,w0⟩,turn⟩:=G;have loop:codeAny (model X.prog X.w) X.A (.compLoop (.ListComp elt [⟨tg,ze,ifs,0⟩] scope pos) 0 (.ref it) (.ref D) (compEnvC scope cl C X.env)) (RR (.ref D) C) {s with heap:=h1,toks:=s.toks+([]:List (Str×Value)).length}:=by
  refine qit (λm s'=>∃(i:Nat) (ys:List V) (its:Ze) (kk:Nat) (J':St) (H':Hp),Inv (dI X N scope s H C cl fp) [(D,{cls:=.type "list",data:=.seq its.toArray kk})] J' H' s'/\Vals ys its/\(J'.length=(db n js J).length/\∀i,n<=i->J'[i]? =(db n js J)[i]?)/\
   tn i s'.heap/\(∀b∈fp,H' b=none)/\W i m ys H') ?_ m0 ⟨0,[],[],0,_,H,IB,.nil,⟨rfl,λ_ _=>rfl⟩,T.keep _ _ _ st λb hb o e=>old b o e,λb hb=>(fo b hb).1,w0⟩
  rintro m s3 ⟨i,ys,its,kk,J3,H3,I3,r3,⟨l3,a3⟩,st3,fr3,w3⟩;have I3':Inv (dI X N scope s H C cl fp) [(D,{cls:=.type "list",data:=.seq its.toArray kk})] (db n js J) H3 s3:=I3.weak l3.symm λj v e=>by
   by_cases hj:j<n
   .rw[Gm hj]at e;cases e
   .rw[a3 j (by lia)];exact e
  rcases turn i m ys H3 w3 with⟨stop,hz,fin⟩|⟨go,hz,Nn,hNn,step⟩
  .refine xg (T.done (dI X N scope s H C cl fp) rfl rfl rfl hc i _ s3 _ H3 (λ_ _=>False) I3' (stat fr3) st3 stop) (λr s4 h4=>?_) λ_ _ z=>z;obtain⟨hr,I4⟩:=h4;refine .inl ⟨hr,?_⟩;have pD:=I4.pin (D,{cls:=.type "list",data:=.seq its.toArray kk}) (by simp[dI]);obtain⟨mC,nsC,_⟩:=I4.loc;let⟨oC,es,ep,hoC,dC,rC⟩:=id nsC;have J4:Inv X z5 J H3 s4:=I.call' I4.os I4.base I4.hok I4.bare λb hb=>by
    let⟨_,f1,f2,f3,f4,f5⟩:=fo b hb;exact⟨f3,f1,f4,f5⟩
   have fC:H3 C=none:=I4.free;have ltL:X.env.locals<D:=eD▸I.lt;have cL:C≠X.env.locals:=(bC _ ltL).symm;have cC:∀x c,X.env.cells.lookup x=some c->c≠C:=λx c e=>bC c (cellD x c e);have cP:∀p∈X.pn++z5,p.1≠C:=λp hp=>bC p.1 (pinD p hp);have cS:X.s₀.heap.objs.size<=C:=jz I.sz (by rw[eD,eC];exact le_succ _);have dS:X.s₀.heap.objs.size<=D:=by have:=I.sz;rw[eD]at this;exact this
   have cF:C∉X.fs:=λz=>by let⟨_,o,ho,_⟩:=I.ok.funs.mem z;exact xo _ (jw (jd ho) cS)
   have J5:Inv X (z5++[(C,oC)]) J H3 s4:=J4.pins_of λp hp=>(List.mem_append.mp hp).elim (λz=>J4.pin p (x9 _ z)) λz=>by
    have e:p=(C,oC):=by simpa using z
    subst e;exact⟨hoC,fC,cL,cF,λv z=>by have z':oC.data=.cell v:=z;rw[dC]at z';cases z'⟩
   refine k D C oC mC ys H3 s4 (J5.track pD.2.1 dS (ne_of_gt ltL) (λx c e=>jq (cellD x c e)) (λp hp=>?_) ?_) pD.2.1 nsC cS cL cC cP ?_ fin
   .rcases List.mem_append.mp hp with z|z
    .exact jq (pinD p (mem_append_left _ z))
    .rcases List.mem_append.mp z with z|z
     .exact jq (pinD p (x9 _ z))
     .have e:p=(C,oC):=by simpa using z
      subst e;exact Ne.symm DC
   .exact⟨hz,its,kk,r3,pD.1⟩
   .rw[aX (Ne.symm DC)];exact fC
  .refine xg (T.item (dI X N scope s H C cl fp) rfl rfl rfl hc i _ s3 _ H3 (λ_ _=>False) I3' (stat fr3) st3 go) (λr s4 h4=>?_) λ_ _ z=>z;obtain⟨u,hr,h4⟩:=h4;refine .inr ⟨u,hr,?_⟩;refine bf h4 λ_ s5 h5=>?_;obtain⟨x,H5,I5,r5,y5,st5,fr5⟩:=h5;have I5':=I5.pinned (stat fr5) (T.obj _ _ st5);refine bf (hg s H C cl fp _ s5 _ H5 x u _ I5' r5 (hgo _ _ _ _ (step x H5 y5))) λ_ s6 h6=>?_;obtain⟨J6,H6,I6,q6,l6,a6⟩:=h6;refine bf (ht s H C cl fp _ s6 J6 H6 _ I6 q6) λok s7 h7=>?_;obtain⟨H7,I7,q7⟩:=h7;have stays:∀{H8:Hp} {s8:Shared},Inv (dI X N scope s H C cl fp) ([(D,{cls:=.type "list",data:=.seq its.toArray kk})]++qw fp s5.heap) J6 H8 s8->(∀b∈fp,∀o,s5.heap.get? b=some o->s8.heap.get? b=some o)/\∀b∈fp,H8 b=none:=λ{H8 s8} I8=>
    ⟨λb hb o e=>(I8.pin (b,o) (x9 _ (x9 _ (uL hb e)))).1,λb hb=>by let⟨o,e,d⟩:=T.obj _ _ st5 b hb;exact(I8.pin (b,o) (x9 _ (x9 _ (uL hb e)))).2.1⟩
   cases ok with
   | false=>
    let⟨m',hm,w7⟩:=hNn ys H7 (show Nn ys H7 from q7);let⟨z1,z2⟩:=stays I7;exact⟨m',hm,i+1,ys,its,kk,J6,H7,I7.unpinned,r3,⟨l6,a6⟩,T.keep _ _ _ st5 z1,z2,w7⟩
   | true=>
    show wpAny _ _ (eval elt _) _ _ s7;refine bf (he s H C cl fp _ s7 J6 H7 _ I7 q7) λy s8 h8=>?_;obtain⟨vy,H8,I8,ry,n8⟩:=h8;let⟨m',hm,w8⟩:=hNn _ _ n8;let⟨z1,z2⟩:=stays I8;have pD:=I8.pin (D,{cls:=.type "list",data:=.seq its.toArray kk}) (by simp[dI]);have lenits:its.length<sizeLine:=by rw[<-r3.length];exact hz
    refine append_at pD.1 (λh9 hs9 hD9=>?_) (by simpa using le_of_lt lenits);have keep9:∀b o,b≠D->s8.heap.get? b=some o->h9.get? b=some o:=λb o hb e=>hs9.extBut b o hb e;have I9:Inv (dI X N scope s H C cl fp) [] J6 H8 {s8 with heap:=h9}:=(I8.pins_of (pins':=[]) λp hp=>nomatch hp).turned keep9 pD.2.1 DC (.inr (by show s.heap.objs.size<=D;rw[eD];exact jg _))
     (λx c e=>jq (cellD x c (hcl x c e))) λp hp=>by simp[dI]at hp
    refine⟨m',hm,i+1,ys++[vy],its++[y],kk+1,J6,H8,I9.pins_of λp hp=>?_,r3.append (.cons ry .nil),⟨l6,a6⟩,T.keep _ _ _ st5 λb hb o e=>keep9 b o (jq (fpD b hb)) (z1 b hb o e),z2,w8⟩;have e:p=(D,{cls:=.type "list",data:=.seq (its++[y]).toArray (kk+1)}):=by simpa using hp
    subst e;refine⟨?_,pD.2.1,DC,λz=>absurd (stkD D z) (xo _),λv z=>by cases z⟩;show h9.get? D=_;rw[hD9,List.push_toArray]
 exact codeAny_compStart_list loop (T.self _ 0 _ _ _ (T.keep _ _ _ st λb hb o e=>old b o e) loop)
end
section
variable{X:Cx}{tg elt ze:Expr}{ifs:Zi}{scope:Scope}{pos:Pos}{N N0:Zj}{n:Nat}{js:Zg}{sc:Scope}{wi:TI}{g:TG}{tt:TT}{te:TE}
def Go{z5:Z3}{J:St}{H:Hp}{s:Shared}(I:Inv X z5 J H s)(hsc:X.env.scope=sc)(ok:gJ sc N0 N n js scope=true):∀y∈scope.names,y.2=.free->∃c,X.env.cells.lookup y.1=some c:=by
 simp only[gJ,and_eq_true,decide_eq_true_eq,all_eq_true,or_eq_true]at ok;obtain⟨⟨⟨⟨⟨⟨⟨kind,cell⟩,free⟩,nms⟩,cap⟩,lc⟩,lf⟩,len⟩:=ok;subst hsc;intro y hy hf;rcases free y hy with(z|z)|z
 .exact absurd hf z
 .exact I.ok.has y.1 (.inl z)
 .exact I.ok.has y.1 (.inr z)
def HA(ok:gJ sc N0 N n js scope=true):scope.kind=.function/\∀x∈scope.names,x.2=.local->scope.names.lookup x.1=some .local:=by
 simp only[gJ,and_eq_true,decide_eq_true_eq,all_eq_true,or_eq_true]at ok;obtain⟨⟨⟨⟨⟨⟨⟨kind,cell⟩,free⟩,nms⟩,cap⟩,lc⟩,lf⟩,len⟩:=ok;refine⟨kind,λx hx hl=>?_⟩;rcases nms x hx with z|z
 .exact absurd hl z
 .exact z
def Inv.butC{z5:Z3}{J:St}{H:Hp}{s:Shared}{C:Addr}{oC:Obj}{h':Heap}(I:Inv X (z5++[(C,oC)]) J H s)(hs:SameBut C s.heap h')(h1:X.s₀.heap.objs.size<=C)(h2:C≠X.env.locals)
 (h3:∀x c,X.env.cells.lookup x=some c->c≠C) (h4:∀p∈X.pn++z5,p.1≠C) (h5:H C=none):Inv X z5 J H {s with heap:=h'}:=
 I.unpinned.turned (λb o hb e=>hs.extBut b o hb e) h5 h2 (.inr h1) h3 h4
def px(hc:X.calm=true)(hsc:X.env.scope=sc)(hN0:X.N=N0)(ok:gJ sc N0 N n js scope=true)(hi:PI X tg ze wi)
 (hg:∀s H C cl fp,PG (dI X N scope s H C cl fp) tg g) (hgo:qX n g) (ht:∀s H C cl fp,qV (dI X N scope s H C cl fp) ifs tt) (he:∀s H C cl fp,PE (dI X N scope s H C cl fp) elt te)
 (hs:∀x,foldedSetIterable ze X.env x=pure x:=by intro _;rfl):PE X (.ListComp elt [⟨tg,ze,ifs,0⟩] scope pos) (qe n js wi g tt te):=by
 intro z5 s J H Q I h;let⟨cl,hclos,c1,c2⟩:=HX (Go I hsc ok);let⟨kd,nm⟩:=HA ok;rw[eval_ListComp];apply wpAny_comprehension_free rfl hs hclos kd nm;refine bf (hi z5 s J H _ I h) λv s1 h1=>bf h1 λitv s2 h2=>?_;obtain⟨it,fp,tn,σ,H2,e,I2,T,st2,f2,G⟩:=h2;subst e;apply Hz hc hsc hN0 ok hg hgo ht he I2 T st2 f2 c1 c2 G;intro D C oC m ys H' s' I' hD ns k1 k2 k3 k4 k5 fin;exact⟨m,ns,λh' hs'=>⟨.ref D,_,I'.butC hs' k1 k2 k3 k4 k5,rfl,fin D hD⟩⟩
def FZ{k:Nat}{y:Str}{py j5:Pos}(hc:X.calm=true)(hsc:X.env.scope=sc)(hN0:X.N=N0)(ok:gJ sc N0 N n js scope=true)(hN:X.N.Nodup)(hk:X.N[k]? =some y)(hy:kC X.env.scope y)
 (hi:PI X tg ze wi) (hg:∀s H C cl fp,PG (dI X N scope s H C cl fp) tg g) (hgo:qX n g) (ht:∀s H C cl fp,qV (dI X N scope s H C cl fp) ifs tt) (he:∀s H C cl fp,PE (dI X N scope s H C cl fp) elt te)
 (hsw:swapsWith (.ListComp elt [⟨tg,ze,ifs,0⟩] scope pos) (some (.Name y py)) j5.line X.env=pure true:=by rfl) (hs:∀x,foldedSetIterable ze X.env x=pure x:=by intro _;rfl)
 (hf:X.fn y=true∨X.env.scope.names.lookup y=some .local:=by first|exact .inl rfl|exact .inr rfl):PS X (.Assign [.Name y py] (.ListComp elt [⟨tg,ze,ifs,0⟩] scope pos) j5) (tJ k n js wi g tt te):=by
 intro z5 s J H D0 I h;let⟨cl,hclos,c1,c2⟩:=HX (Go I hsc ok);let⟨kd,nm⟩:=HA ok;rw[exec_Assign_Name_used _ _ _ _ hsw];refine j9 (wpAny_standAt (j9 ?_));refine j9 (xg (wpAny_comprehension_free rfl hs hclos kd nm ?_) (λ_ s' q=>jb (jb q)) λ_ _ z=>z);refine bf (hi z5 s J H _ I h) λv s1 h1=>bf h1 λitv s2 h2=>?_;obtain⟨it,fp,tn,σ,H2,e,I2,T,st2,f2,G⟩:=h2;subst e;refine Hz (RR:=λacc C=>compPost (model X.prog X.w) X.A X.xe (some (assign (.Name y py) X.env)) (λ_ s'=>SP X z5 D0 .next s') acc C) hc hsc hN0 ok hg hgo ht he I2 T st2 f2 c1 c2 G ?_;intro D C oC m ys H' s' I' hD ns k1 k2 k3 k4 k5 fin;refine wpAny_assign_Name (zH I' hN hk hy (v:=.ref D) rfl (λs'' I''=>?_) hf);have pc:=I''.pin (C,oC) (x9 _ (x9 _ jj));obtain⟨o,es,ep,ho,r⟩:=ns;have pc':=I'.pin (C,oC) (x9 _ (x9 _ jj));have eo:o=oC:=by have z:=pc'.1;rw[ho]at z;exact jm z
 subst eo;exact⟨m,⟨o,es,ep,pc.1,r⟩,λh' hs'=>⟨_,_,I''.butC hs' k1 k2 k3 k4 k5,fin D hD⟩⟩
end
def Same.new{H:Hp}{l:Addr}{o:HO}(h:H l=none):Same H (aM H l o):=λb u e=>by rw[aX (gr e h)];exact e
def Same.tup{K:am}{H H':Hp}{a:Addr}{xs:List V}(e:Same H H')(h:SqT K H a xs):SqT K H' a xs:=by
 rcases h with(h|⟨o,h⟩)|h
 .exact .inl (.inl (e _ _ h))
 .exact .inl (.inr ⟨o,e _ _ h⟩)
 .exact .inr h
section
variable{X:Cx}{K:am}
def bF(h:X.K=K):IxR X (pR K):=h▸qvv
def im(h:X.K=K):gf X (.builtin "len") (λxs H Q=>∃p ys,xs=[.ref p]/\(SqL K H p ys∨SqT K H p ys)/\Q (.int ys.length) H):=by subst h;exact qau
def Hy(h:X.K=K):gf X (.type "list") (λxs H Q=>∃p ys,xs=[.ref p]/\(SqL K H p ys∨SqT K H p ys)/\∀l,H l=none->Q (.ref l) (aM H l (.lst ys))):=by subst h;exact qat
def qR(h:X.K=K):gf X (.type "tuple") (λxs H Q=>∃p ys,xs=[.ref p]/\((SqL K H p ys/\∀l,H l=none->Q (.ref l) (aM H l (.tup ys)))∨(SqT K H p ys/\Q (.ref p) H))):=by subst h;exact q9l
def qk8{tg l:Expr}{tl:TE}(h:X.K=K)(hl:PE X l tl):PI X tg l (wt K tl):=h▸qor hl
def qoq{tg l:Expr}{tl:TE}(h:X.K=K)(hl:PE X l tl):PI X tg l (oa K tl):=h▸qt9 hl
def nq{es:Zi}{k:Nat}{t:kB}{n:Nat}{pos:Pos}(hK:X.K=K)(hc:X.calm=true)(h:qW X es t)(hn:(assignEach es X.env).length=n:=by rfl)(hst:(assignEach es X.env).findIdx? (·.1)=none:=by rfl):PG X (.Tuple es k pos) (lX K n t):=hK▸qtb hc h hn hst
def yP{e:Expr}{f:Str}{pos:Pos}{ta:TE}(hK:X.K=K)(he:PE X e ta)(hb:attributeBase e f X.env (eval e X.env)=eval e X.env):PE X (.Attribute e f pos) (nI K ta f):=hK▸qte he hb
end
def PE.or{X:Cx}{e:Expr}{t u:TE}(h:PE X e t)(k:PE X e u):PE X e λJ H Q=>t J H Q∨u J H Q:=λz5 s J H Q I q=>by
 rcases q with q|q
 .exact h z5 s J H Q I q
 .exact k z5 s J H Q I q
noncomputable def sj:V->Option Value
 |.ref a=>some (.ref a)
 |.ty n=>some (.type n)
 |_=>none
def Bg(K:am):List V->Hp->VK->Prop:=λxs H Q=>∃x y t c b,xs=[x,y]/\sj y=some c/\TyOf K H x t/\W.kitOne K t c=some b/\Q (.bl b) H
section
variable{X:Cx}
def qlt{K:am}(hK:X.K=K):gf X (.builtin "isinstance") (Bg K):=by
 subst hK;intro z5 s J H xs us Q I r h;obtain⟨x,y,t,c,b,rfl,hc,ty,e,q⟩:=h;obtain⟨u,w,rfl,ru,rw'⟩:=fP r;have ew:w=c:=by
  cases y with
  | ref a=>
   rw[rw'];exact jm hc
  | ty n=>
   rw[rw'];exact jm hc
  |_=>cases hc
 subst ew;exact qib I ru ty e λtk=>⟨.bl b,H,I.tok tk,rfl,q⟩
def q6h{K:am}{v:Value}:W.kitOne K v v=some true:=by unfold W.kitOne;rw[if_pos (beq_self_eq_true v)]
def q22{K:am}{T U:String}{b:Bool}(hm:W.kitMeta U=true)(h3:W.subIn K (.type T) (.type U)=some b)(hn:Value.type T≠.type U):W.kitOne K (.type T) (.type U)=some b:=by unfold W.kitOne;rw[if_neg (λz=>hn (eq_of_beq z))];unfold W.kitCls;dsimp only;rw[if_pos hm];exact h3
theorem HL:∀{bs:List Bool} {us:Ze},Vals (bs.map V.bl) us->us=bs.map Value.bool
 |[],us,r=>by cases r;rfl
 | b::bs,us,r=>by
  cases r with
  | cons h t=>
   rw[h,HL t];rfl
def iV{α:Type}(l:List α)(f:α->Bool)(tr:Nat->Bool)(h:∀i x,l[i]? =some x->tr i=f x):(List.range l.length).all tr=l.all f:=by
 induction l generalizing tr with
 |nil=>rfl
 | cons a l ih=>
  rw[jy,List.range_succ_eq_map,List.all_cons,List.all_map,List.all_cons,h 0 a rfl];congr 1;exact ih (λi=>tr (i+1)) λi x e=>h (i+1) x (by simpa using e)
def qlu{K:am}(hK:X.K=K)(hc:X.calm=true):gf X (.builtin "all") (λxs H Q=>∃(p:Addr) (bs:List Bool),xs=[.ref p]/\SqL K H p (bs.map V.bl)/\Q (.bl (bs.all id)) H):=by
 subst hK;intro z5 s J H xs us Q I r h;obtain⟨p,bs,rfl,hq,q⟩:=h;obtain⟨u,rfl,ru⟩:=cj r;cases ru;let⟨its,rv,pl,hz⟩:=I.list hq;have hh:X.A.in1.handled=none:=I.ok.hd hc;have eits:=HL rv;have hl:=pl.isList;have hlt:p<s.heap.objs.size:=by obtain⟨_,e,_⟩:=hl;exact jd e
 refine call_all_walk (wpAny_pyIter_list hl ?_);refine⟨_,_,_,_,_,_,λi=>bs.getD i false,rfl,Walks.list hh s.heap.objs.size p (jq hlt) its.toArray,⟨⟨_,ju _ rfl,rfl,rfl⟩,hl.push _⟩,λi v s' Q' E' hP hQ=>?_,λh' tk hk=>?_⟩
 .have e:(bs.map Value.bool)[i]? =some v:=by rw[<-eits];simpa using hP
  rw[jo]at e;cases z:bs[i]? with
  |none=>rw[z]at e;cases e
  | some b=>
   rw[z]at e;have e':=(jm e).symm;subst e';apply ku;have:bs.getD i false=b:=by rw[jl,z];rfl
   dsimp only at hQ;rw[this]at hQ;exact hQ
 .have len:its.toArray.size=bs.length:=by rw[eits];simp
  refine⟨.bl (bs.all id),H,I.kept λb o e=>hk b o (λz=>?_) (je _ e),?_,q⟩
  .have:=jd e;rw[List.mem_singleton.mp z]at this;exact xo _ this
  .show Value.bool _=Value.bool _;rw[len,iV bs id];intro i x e;rw[jl,e];rfl
mutual
inductive DV(K:am)(H:Hp):V->PyData->Prop
 |non:DV K H .non .none
 |bl (b:Bool):DV K H (.bl b) (.bool b)
 |int (i:Int):DV K H (.int i) (.int i)
 |str (x:Str):DV K H (.str x) (.str x)
 |lst {a:Addr} {xs:List V} {ds:List PyData}:SqL K H a xs->DVs K H xs ds->DV K H (.ref a) (.list ds)
 |tup {a:Addr} {xs:List V} {ds:List PyData}:SqT K H a xs->DVs K H xs ds->DV K H (.ref a) (.tuple ds)
inductive DVs(K:am)(H:Hp):List V->List PyData->Prop
 |nil:DVs K H [] []
 |cons {x:V} {xs:List V} {d:PyData} {ds:List PyData}:DV K H x d->DVs K H xs ds->DVs K H (x::xs) (d::ds)
end
mutual
theorem qI{z5:Z3}{J:St}{H:Hp}{s:Shared}(I:Inv X z5 J H s):∀{x:V} {d:PyData} {u:Value},DV X.K H x d->RelV x u->∃as,Reads s.heap u d as
 |_,_,u,.non,r=>by cases(r);exact⟨_,.none⟩
 |_,_,u,.bl b,r=>by cases(show u=Value.bool b from r);exact⟨_,.bool b⟩
 |_,_,u,.int i,r=>by let⟨t,e⟩:=(show∃t,u=Value.int i t from r);cases e;exact⟨_,.int i t⟩
 |_,_,u,.str x,r=>by let⟨t,e⟩:=(show∃t,u=Value.str x t from r);cases e;exact⟨_,.str x t⟩
 | _,_,u,.lst (a:=a) hq hs,r=>by cases(show u=Value.ref a from r);let⟨its,rv,pl,_⟩:=I.list hq;obtain⟨o,e,c,n,dd⟩:=pl.isList;let⟨as,q⟩:=Am I hs rv;exact⟨_,reads_list_at e c dd (by simpa using q)⟩
 | _,_,u,.tup (a:=a) hq hs,r=>by cases(show u=Value.ref a from r);let⟨its,rv,pl,_⟩:=I.tuple hq;obtain⟨o,e,c,n,dd⟩:=pl;let⟨as,q⟩:=Am I hs rv;exact⟨_,reads_tuple_at e c dd (by simpa using q)⟩
theorem Am{z5:Z3}{J:St}{H:Hp}{s:Shared}(I:Inv X z5 J H s):∀{xs:List V} {ds:List PyData} {us:Ze},DVs X.K H xs ds->Vals xs us->∃as,ReadsAll s.heap us ds as
 |_,_,_,.nil,.nil=>⟨_,.nil⟩
 | _,_,_,.cons h t,.cons r rs=>by let⟨as,q⟩:=qI I h r;let⟨bs,p⟩:=Am I t rs;exact⟨_,.cons q p⟩
end
def rS(K:am):R2:=λx y H Q=>∃d e,DV K H x d/\DV K H y e/\SeqAt.shaped d=true/\SeqAt.shaped e=true/\Q (.bl (PyData.eqv d e)) H
def rL(K:am):R2:=λx y H Q=>∃d e,DV K H x d/\DV K H y e/\SeqAt.shaped d=true/\SeqAt.shaped e=true/\Q (.bl (!PyData.eqv d e)) H
def gh{K:am}(hK:X.K=K)(hu:X.A.units+64<cLine):OpR X (compareOp .Eq) (rS K):=by subst hK;intro z5 s J H x y v u Q I rx ry h;obtain⟨d,e,hd,he,sd,se,q⟩:=h;let⟨as,ra⟩:=qI I hd rx;let⟨bs,rb⟩:=qI I he ry;exact eq_dataH ra rb sd se hu ⟨.bl _,H,I,rfl,q⟩
def m8{K:am}(hK:X.K=K)(hu:X.A.units+64<cLine):OpR X (compareOp .NotEq) (rL K):=by subst hK;intro z5 s J H x y v u Q I rx ry h;obtain⟨d,e,hd,he,sd,se,q⟩:=h;let⟨as,ra⟩:=qI I hd rx;let⟨bs,rb⟩:=qI I he ry;exact ne_dataH ra rb sd se hu ⟨.bl _,H,I,rfl,q⟩
structure MkN(K:am)(C:Addr):Prop where
 makes:PySem.W.makesIn K C=true
 init:PySem.W.findIn K (.ref C) "__init__"=some (some (.builtin "object.__init__"))
 kp:PySem.W.keepIn K (.ref C)=true
def Fa(C:Addr):TE:=λ_ H Q=>∀x dx,H x=none->H dx=none->dx≠x->Q (.ref x) (aM (aM H dx (.own x)) x (.ins C dx []))
def qgp{C:Addr}{z5:Z3}{J:St}{H:Hp}{s:Shared}{Q:VK}(ρ:MkN X.K C)(I:Inv X z5 J H s)
 (h:∀x dx,H x=none->H dx=none->dx≠x->Q (.ref x) (aM (aM H dx (.own x)) x (.ins C dx []))):wpAny (model X.prog X.w) X.A (call (.ref C) []) (EP X z5 J Q) X.xe s:=by
 have hq:=h (s.heap.objs.size+1) s.heap.objs.size (I.hok.fresh (le_succ _)) (I.hok.fresh (jg _)) (jq (lt_succ_self _));have I2:=Inv.made (C:=C) I;refine wpAny_call (qhy I.kIn ρ.makes ρ.init (λself=>PySem.W.Looks.of_pure (PySem.W.oi_bind self)) ?_);have Y:=PySem.W.makes_of (M:=model X.prog X.w) I.kIn ρ.makes;have g1:((s.heap.push PySem.W.emptyDict).push (PySem.W.instObj C s.heap.objs.size)).get? (s.heap.objs.size+1)=some (PySem.W.instObj C s.heap.objs.size):=by
  have z:=ju (o:=PySem.W.instObj C s.heap.objs.size) (s.heap.push PySem.W.emptyDict) rfl
  rwa [xy]at z
 have t1:PySem.W.Looks (model X.prog X.w) ((s.heap.push PySem.W.emptyDict).push (PySem.W.instObj C s.heap.objs.size)) (typeOf (.ref (s.heap.objs.size+1))) (.ref C):=(PySem.W.Looks.ld g1).andThen .now;have t2:PySem.W.Looks (model X.prog X.w) ((s.heap.push PySem.W.emptyDict).push (PySem.W.instObj C s.heap.objs.size)) (isInstance (.ref (s.heap.objs.size+1)) (.type "object")) true:=
  t1.andThen (Y.top.keeps λb o e=>je _ (je _ e))
 refine codeAny_call_builtin PySem.W.oi_plain PySem.W.entry_oi (PySem.W.check_slot PySem.W.oi_kind PySem.W.oi_split t2 (PySem.W.oi_args _) ?_);rw[PySem.W.oi_run];exact jb ⟨rfl,⟨.ref (s.heap.objs.size+1),_,I2,rfl,hq⟩⟩
def qka{C:Addr}{x:Str}{p pos:Pos}(ρ:MkN X.K C)(hg:Gl X x)(hm:X.mg x=some (.ref C))(hdb:(x==("__debug__":Str))=false:=by decide):PE X (.Call (.Name x p) [] [] pos) (Fa C):=by intro z5 s J H Q I h;refine k6 (yJ I hg hm ?_ hdb);exact PySem.W.callWith_K0 I.kIn ρ.kp (qgp ρ I h)
end
def seqIs(b:Bool)(h:Heap)(l:Addr)(xs:Zd):Prop:=match b with
 |true=>h.IsList l xs
 |false=>h.IsTuple l xs
def iterIs(b:Bool)(h:Heap)(i l:Addr)(k:Nat):Prop:=match b with
 |true=>h.IsListIter i l k
 |false=>h.IsTupleIter i l k
noncomputable def ng(b:Bool)(l:Addr):Obj:={cls:=.type (if b then "list_iterator" else "tuple_iterator"),data:=.fields #[.ref l,.int 0 0]}
def seqIs.at_{b:Bool}{h h':Heap}{l:Addr}{xs:Zd}(q:seqIs b h l xs)(e:∀o,h.get? l=some o->h'.get? l=some o):seqIs b h' l xs:=by
 cases b
 .let⟨o,z,r⟩:=(q);exact(show h'.IsTuple l xs from⟨o,e o z,r⟩)
 .let⟨o,z,r⟩:=(q);exact(show h'.IsList l xs from⟨o,e o z,r⟩)
def iterIs.at_{b:Bool}{h h':Heap}{i l:Addr}{k:Nat}(q:iterIs b h i l k)(e:∀o,h.get? i=some o->h'.get? i=some o):iterIs b h' i l k:=by
 cases b
 .let⟨o,z,r⟩:=(q);exact(show h'.IsTupleIter i l k from⟨o,e o z,r⟩)
 .let⟨o,z,r⟩:=(q);exact(show h'.IsListIter i l k from⟨o,e o z,r⟩)
def iterIs.obj{b:Bool}{h:Heap}{i l:Addr}{k:Nat}(q:iterIs b h i l k):∃o,h.get? i=some o/\∀v,o.data≠.cell v:=by
 cases b
 .let⟨o,z,_,d⟩:=(q);exact⟨o,z,λv e=>by rw[d]at e;cases e⟩
 .let⟨o,z,_,d⟩:=(q);exact⟨o,z,λv e=>by rw[d]at e;cases e⟩
def iterIs.mk_{b:Bool}{h:Heap}{i l:Addr}(q:h.get? i=some (ng b l)):iterIs b h i l 0:=by
 cases b
 .exact(show h.IsTupleIter i l 0 from⟨_,q,rfl,rfl⟩)
 .exact(show h.IsListIter i l 0 from⟨_,q,rfl,rfl⟩)
section
variable{prog:Program}{w:World}{A:Around}{E:Z0}{s:Shared}
def HH{b:Bool}{l:Addr}{xs:Zd}{Q:Z0}(q:seqIs b s.heap l xs)(h:Q (.ref s.heap.objs.size) {s with heap:=s.heap.push (ng b l)}):wpAny (model prog w) A (pyIter (.ref l)) Q E s:=by
 cases b
 .exact wpAny_pyIter_tuple (q) h
 .exact wpAny_pyIter_list (q) h
def qad{i l:Addr}{k:Nat}{xs:Zd}{x:Value}{Q:Z0}(st:s.heap.IsTupleIter i l k)(tp:s.heap.IsTuple l xs)(e:xs[k]? =some x)
 (h:∀h',h'.IsTupleIter i l (k+1)->SameBut i s.heap h'->Q x {s with heap:=h'}):wpAny (model prog w) A (Builtin.SmallTypes.nextOf (.ref i)) Q E s:=by
 let⟨oi,gi,ci,di⟩:=id st;obtain⟨ot,gt,_,nt,dt⟩:=tp;unfold Builtin.SmallTypes.nextOf;refine j9 (vd st.typeIs sE (kg sE st.typeIs F.entry_tuple_iterator_next ?_ (F.args_tuple_iterator_next_1 _)));show wpAny _ _ (field (.ref i) 0 >>= _) _ _ s;refine j9 (xw gi di rfl ?_);show wpAny _ _ (if(Value.ref l==Value.none)=true then _ else _) _ _ s;rw[if_neg (by exact Bool.false_ne_true:¬((Value.ref l==Value.none)=true))];refine j9 (xw gi di rfl ?_);refine j9 (k7 gt dt ?_);simp only[toNat_natCast,e];refine j9 (wpAny_setField gi di (by simp) (jb ⟨x,rfl,jb (h _ ?_ (km ..))⟩));refine⟨_,vk _ gi (Obj.isFreed_of_fields (Obj.data_mapFields di _)),(Obj.cls_mapFields ..).trans ci,?_⟩;rw[Obj.data_mapFields di];simp[rawInt]
def q6f{i l:Addr}{k:Nat}{xs:Zd}{Q:Z0}(hh:A.handled=none)(st:s.heap.IsTupleIter i l k)(tp:s.heap.IsTuple l xs)(e:xs[k]? =none)
 (h:∀h' x,ExtBut i s.heap h'->(∃o,h'.get? x=some o/\o.cls=.type "StopIteration")->E (.ref x) {s with heap:=h'}):wpAny (model prog w) A (Builtin.SmallTypes.nextOf (.ref i)) Q E s:=by
 let⟨oi,gi,ci,di⟩:=id st;obtain⟨ot,gt,_,nt,dt⟩:=tp;unfold Builtin.SmallTypes.nextOf;refine j9 (vd st.typeIs sE (kg sE st.typeIs F.entry_tuple_iterator_next ?_ (F.args_tuple_iterator_next_1 _)));show wpAny _ _ (field (.ref i) 0 >>= _) _ _ s;refine j9 (xw gi di rfl ?_);show wpAny _ _ (if(Value.ref l==Value.none)=true then _ else _) _ _ s;rw[if_neg (by exact Bool.false_ne_true:¬((Value.ref l==Value.none)=true))];refine j9 (xw gi di rfl ?_);refine j9 (k7 gt dt ?_);simp only[toNat_natCast,e];refine j9 (k8 (j9 (wpAny_setField gi di (by simp) ?_)));show wpAny _ _ (newExc (.type "StopIteration") [] >>= _) _ _ _;refine j9 ?_;simp only[newExc,newTuple];refine j9 (kh ?_ (by size_fits));refine j9 (wpAny_of_eq (by first|rfl|(simp only[firstArgMember]<;>rfl)) ?_);refine kh ?_ (by size_fits);simp only[raiseNew];refine j9 (wpAny_handled ?_)
 first|rw[(hh:A.in1.handled=none)]|rw[hh]
 refine j9 (jb (wpAny_throw ?_));exact h _ _ (((km ..).extBut.push _).push _) ⟨_,ju _ rfl,rfl⟩
def Ai{b:Bool}{i l:Addr}{k:Nat}{xs:Zd}{x:Value}{Q:Z0}(st:iterIs b s.heap i l k)(tp:seqIs b s.heap l xs)(e:xs[k]? =some x)
 (h:∀h',iterIs b h' i l (k+1)->SameBut i s.heap h'->Q x {s with heap:=h'}):wpAny (model prog w) A (Builtin.SmallTypes.nextOf (.ref i)) Q E s:=by
 cases b
 .exact qad st tp e h
 .exact wpAny_nextOf_list_item st tp e h
def H9{b:Bool}{i l:Addr}{k:Nat}{xs:Zd}{Q:Z0}(hh:A.handled=none)(st:iterIs b s.heap i l k)(tp:seqIs b s.heap l xs)(e:xs[k]? =none)
 (h:∀h' x,ExtBut i s.heap h'->(∃o,h'.get? x=some o/\o.cls=.type "StopIteration")->E (.ref x) {s with heap:=h'}):wpAny (model prog w) A (Builtin.SmallTypes.nextOf (.ref i)) Q E s:=by
 cases b
 .exact q6f hh st tp e h
 .exact wpAny_nextOf_list_end hh st tp e h
def qji{z TI TO i1 i2 l1 l2:Addr}{b1 b2:Bool}{k1 k2:Nat}{xs ys:Zd}{x y a b:Value}{Q:Option Value->Shared->Prop}(D:ZipApart z TI TO i1 i2 l1 l2)
 (hz:IsZip s.heap z TI TO .none) (hTI:IsPair s.heap TI (.ref i1) (.ref i2)) (hTO:IsPair s.heap TO a b) (h1:iterIs b1 s.heap i1 l1 k1) (h2:iterIs b2 s.heap i2 l2 k2) (q1:seqIs b1 s.heap l1 xs) (q2:seqIs b2 s.heap l2 ys) (hx:xs[k1]? =some x) (hy:ys[k2]? =some y)
 (hQ:∀h',IsZip h' z TI TO (rawInt s.heap.objs.size)->IsPair h' TO x y->iterIs b1 h' i1 l1 (k1+1)->iterIs b2 h' i2 l2 (k2+1)->IsPair h' s.heap.objs.size x y->
   (∀c o,c≠z->c≠TO->c≠i1->c≠i2->s.heap.get? c=some o->h'.get? c=some o)->Q (some (.ref s.heap.objs.size)) {s with heap:=h'}):wpAny (model prog w) A (pyNext (.ref z)) Q E s:=by
 have ty:s.TypeIs (.ref z) "zip":=⟨_,hz,rfl⟩;unfold pyNext;refine j9 (ve (vd ty F.slot_zip_next (kg F.slot_zip_next ty F.entry_zip_next ?_ (F.args_zip_next_1 _))));show wpAny _ _ (field (.ref z) 2 >>= _) _ _ _;refine j9 (xw hz rfl rfl ?_);show wpAny _ _ (field (.ref z) 3 >>= _) _ _ _;refine j9 (xw hz rfl rfl (j9 (k7 hTI rfl ?_)));show wpAny _ _ (Builtin.SmallTypes.ownedTupleIsFree (.ref z) >>= _) _ _ _;refine j9 ?_;unfold Builtin.SmallTypes.ownedTupleIsFree;refine j9 (xw hz rfl rfl (jb ?_));simp only[if_true];refine j9 (k8 (j9 (xw hz rfl rfl (j9 (vq hz (by simp) λg1 z1 s1=>?_)))));have Z1:=z1;refine j9 ?_;simp only[zipIdx_cons,List.zipIdx_nil,forIn_cons,forIn_nil];refine j9 (j9 (wpAny_onRaise ?_));show wpAny _ _ (Builtin.SmallTypes.nextOf (.ref i1) >>= _) _ _ _;refine j9 (Ai (h1.at_ λo e=>s1.extBut _ o D.i1z e) (q1.at_ λo e=>s1.extBut _ o D.l1z e) hx λg2 n2 s2=>jb ?_);have P2:=s2.extBut _ _ D.TOi1 (s1.extBut _ _ D.TOz hTO);refine j9 (k7 P2 rfl (j9 (wpAny_updateSeq_pair P2 λg3 p3 s3=>j9 (kr (jb ?_)))));have P3:=p3;refine j9 (j9 (wpAny_onRaise ?_));show wpAny _ _ (Builtin.SmallTypes.nextOf (.ref i2) >>= _) _ _ _;refine j9 (Ai (h2.at_ λo e=>s3.extBut _ o D.TOi2.symm (s2.extBut _ o D.i12.symm (s1.extBut _ o D.i2z e))) (q2.at_ λo e=>s3.extBut _ o D.l2TO (s2.extBut _ o D.l2i1 (s1.extBut _ o D.l2z e))) hy λg4 n4 s4=>jb ?_);have P4:IsPair g4 TO x b:=s4.extBut _ _ D.TOi2 P3;refine j9 (k7 P4 rfl (j9 (wpAny_updateSeq_pair P4 λg5 p5 s5=>j9 (kr (jb (jb ?_))))));have P5:IsPair g5 TO x y:=p5;refine j9 (k7 P5 rfl (j9 (wpAny_newTuple ?_)));have sz:g5.objs.size=s.heap.objs.size:=by rw[s5.1,s4.1,s3.1,s2.1,s1.1]
 have Z5:IsZip g5 z TI TO .ellipsis:=s5.extBut _ _ D.TOz.symm (s4.extBut _ _ D.i2z.symm (s3.extBut _ _ D.TOz.symm (s2.extBut _ _ D.i1z.symm Z1)));have K5:∀c o,c≠z->c≠TO->c≠i1->c≠i2->s.heap.get? c=some o->g5.get? c=some o:=λc o c1 c2 c3 c4 e=>s5.extBut _ _ c2 (s4.extBut _ _ c4 (s3.extBut _ _ c2 (s2.extBut _ _ c3 (s1.extBut _ _ c1 e))));have N1:iterIs b1 g5 i1 l1 (k1+1):=n2.at_ λo e=>s5.extBut _ o D.TOi1.symm (s4.extBut _ o D.i12 (s3.extBut _ o D.TOi1.symm e));have N2:iterIs b2 g5 i2 l2 (k2+1):=n4.at_ λo e=>s5.extBut _ o D.TOi2.symm e;have zlt:z<g5.objs.size:=jd Z5;show wpAny _ _ (Builtin.SmallTypes.ownedTupleHandOut (.ref z) (.ref g5.objs.size) >>= _) _ _ _;refine j9 ?_;unfold Builtin.SmallTypes.ownedTupleHandOut;have Z6:IsZip (g5.push {cls:=.type "tuple",data:=.seq #[x,y]}) z TI TO .ellipsis:=je _ Z5;refine j9 (vq Z6 (by simp) λg7 z7 s7=>?_);have Z7:IsZip g7 z TI TO (rawInt g5.objs.size):=z7;refine vq Z7 (by simp) λg8 z8 s8=>?_;have Z8:IsZip g8 z TI TO (rawInt g5.objs.size):=z8;have up:∀c o,c≠z->g5.get? c=some o->g8.get? c=some o:=λc o c1 e=>s8.extBut _ _ c1 (s7.extBut _ _ c1 (je _ e));have T8:IsPair g8 g5.objs.size x y:=s8.extBut _ _ (ne_of_gt zlt) (s7.extBut _ _ (ne_of_gt zlt) (ju _ rfl));rw[sz]at Z8 T8;refine jb ⟨_,rfl,jb ?_⟩;show Q (some (.ref g5.objs.size)) _;rw[sz];exact hQ g8 Z8 (up _ _ D.TOz P5) (N1.at_ λo e=>up _ o D.i1z e) (N2.at_ λo e=>up _ o D.i2z e) T8 λc o c1 c2 c3 c4 e=>up c o c1 (K5 c o c1 c2 c3 c4 e)
def qo6{z TI TO i1 i2 l1 l2:Addr}{b1 b2:Bool}{k1 k2:Nat}{xs ys:Zd}{a b:Value}{Q:Option Value->Shared->Prop}(hh:A.handled=none)(D:ZipApart z TI TO i1 i2 l1 l2)
 (hz:IsZip s.heap z TI TO .none) (hTI:IsPair s.heap TI (.ref i1) (.ref i2)) (hTO:IsPair s.heap TO a b) (h1:iterIs b1 s.heap i1 l1 k1) (h2:iterIs b2 s.heap i2 l2 k2) (q1:seqIs b1 s.heap l1 xs) (q2:seqIs b2 s.heap l2 ys) (hend:xs[k1]? =none∨ys[k2]? =none)
 (hQ:∀h',(∀c o,c≠z->c≠TO->c≠i1->c≠i2->s.heap.get? c=some o->h'.get? c=some o)->Q none {s with heap:=h'}):wpAny (model prog w) A (pyNext (.ref z)) Q E s:=by
 have ty:s.TypeIs (.ref z) "zip":=⟨_,hz,rfl⟩;have fin:∀(h':Heap) (e:Addr),(∀c o,c≠z->c≠TO->c≠i1->c≠i2->s.heap.get? c=some o->h'.get? c=some o)->(∃o,h'.get? e=some o/\o.cls=.type "StopIteration")->
  wpAny (model prog w) A (isInstance (.ref e) (.type "StopIteration") >>= λr=>if r=true then pure none else throw (.ref e)) Q E {s with heap:=h'}:=λh' e hk ⟨o,ho,hc⟩=>
  j9 (wpAny_isInstance ⟨o,ho,hc⟩ isSubtype_stop (jb (hQ _ hk)))
 unfold pyNext;refine j9 (ve (vd ty F.slot_zip_next (kg F.slot_zip_next ty F.entry_zip_next ?_ (F.args_zip_next_1 _))));show wpAny _ _ (field (.ref z) 2 >>= _) _ _ _;refine j9 (xw hz rfl rfl ?_);show wpAny _ _ (field (.ref z) 3 >>= _) _ _ _;refine j9 (xw hz rfl rfl (j9 (k7 hTI rfl ?_)));show wpAny _ _ (Builtin.SmallTypes.ownedTupleIsFree (.ref z) >>= _) _ _ _;refine j9 ?_;unfold Builtin.SmallTypes.ownedTupleIsFree;refine j9 (xw hz rfl rfl (jb ?_));simp only[if_true];refine j9 (k8 (j9 (xw hz rfl rfl (j9 (vq hz (by simp) λg1 z1 s1=>?_)))));have Z1:=z1;refine j9 ?_;simp only[zipIdx_cons,List.zipIdx_nil,forIn_cons,forIn_nil];refine j9 (j9 (wpAny_onRaise ?_));show wpAny _ _ (Builtin.SmallTypes.nextOf (.ref i1) >>= _) _ _ _;have I1:=h1.at_ λo e=>s1.extBut _ o D.i1z e;have L1:=q1.at_ λo e=>s1.extBut _ o D.l1z e;cases ex:xs[k1]? with
 | none=>
  refine j9 (H9 hh I1 L1 ex λg2 e s2 he=>?_);obtain⟨oe,he,ce⟩:=he;have Z2:IsZip g2 z TI TO .ellipsis:=s2 _ _ D.i1z.symm Z1;have nez:e≠z:=λq=>by subst q;rw[Z2]at he;cases he;simp at ce
  exact vq Z2 (by simp) λg3 _ s3=>fin g3 e (λc o c1 _ c3 _ q=>s3.extBut _ _ c1 (s2 _ _ c3 (s1.extBut _ _ c1 q))) ⟨oe,s3.extBut _ _ nez he,ce⟩
 | some x=>
  have ey:ys[k2]? =none:=by
   rcases hend with q|q
   .rw[ex]at q;cases q
   .exact q
  refine j9 (Ai I1 L1 ex λg2 n2 s2=>jb ?_);have P2:IsPair g2 TO a b:=s2.extBut _ _ D.TOi1 (s1.extBut _ _ D.TOz hTO);refine j9 (k7 P2 rfl (j9 (wpAny_updateSeq_pair P2 λg3 p3 s3=>j9 (kr (jb ?_)))));refine j9 (j9 (wpAny_onRaise ?_));show wpAny _ _ (Builtin.SmallTypes.nextOf (.ref i2) >>= _) _ _ _;refine j9 (H9 hh (h2.at_ λo e=>s3.extBut _ o D.TOi2.symm (s2.extBut _ o D.i12.symm (s1.extBut _ o D.i2z e))) (q2.at_ λo e=>s3.extBut _ o D.l2TO (s2.extBut _ o D.l2i1 (s1.extBut _ o D.l2z e))) ey λg4 e s4 he=>?_);obtain⟨oe,he,ce⟩:=he;have Z4:IsZip g4 z TI TO .ellipsis:=s4 _ _ D.i2z.symm (s3.extBut _ _ D.TOz.symm (s2.extBut _ _ D.i1z.symm Z1));have nez:e≠z:=λq=>by subst q;rw[Z4]at he;cases he;simp at ce
  exact vq Z4 (by simp) λg5 _ s5=>fin g5 e (λc o c1 c2 c3 c4 q=>s5.extBut _ _ c1 (s4 _ _ c4 (s3.extBut _ _ c2 (s2.extBut _ _ c3 (s1.extBut _ _ c1 q))))) ⟨oe,s5.extBut _ _ nez he,ce⟩
abbrev sA(b1:Bool)(h:Heap)(l1:Addr):Heap:=h.push (ng b1 l1)
abbrev sy(b1 b2:Bool)(h:Heap)(l1 l2:Addr):Heap:=(sA b1 h l1).push (ng b2 l2)
abbrev sv(b1 b2:Bool)(h:Heap)(l1 l2:Addr):Heap:=(sy b1 b2 h l1 l2).push {cls:=.type "tuple",data:=.seq #[.ref h.objs.size,.ref (sA b1 h l1).objs.size]}
abbrev su(b1 b2:Bool)(h:Heap)(l1 l2:Addr):Heap:=(sv b1 b2 h l1 l2).push {cls:=.type "tuple",data:=.seq #[.none,.none]}
abbrev oN(b1 b2:Bool)(h:Heap)(l1 l2:Addr):Heap:=(su b1 b2 h l1 l2).push {cls:=.type "zip",data:=.fields #[.none,.bool false,.bool false,.ref (sy b1 b2 h l1 l2).objs.size,.ref (sv b1 b2 h l1 l2).objs.size]}
def qo5(b1 b2:Bool)(l1 l2:Addr)(xs ys:Zd):Meets (Builtin.«zip.__new__» ⟨[.type "zip",.ref l1,.ref l2],[]⟩) (λ_ R s=>seqIs b1 s.heap l1 xs/\seqIs b2 s.heap l2 ys/\
 R (.ok (.ret (.ref (su b1 b2 s.heap l1 l2).objs.size))) {s with heap:=oN b1 b2 s.heap l1 l2}):=by
 refine .of_wp λprog w A R s q=>?_;obtain⟨hp,g,d,tk,os⟩:=s;obtain⟨q1,q2,q⟩:=q;have sub:=sub_zip;have L2':seqIs b2 (Shared.heap ⟨hp.push (ng b1 l1),g,d,tk,os⟩) l2 ys:=q2.at_ λo z=>je _ z
 wp_walk using HH q1,HH L2'
 exact⟨_,rfl,q⟩
def qls{b1 b2:Bool}{l1 l2:Addr}{xs ys:Zd}{Q:Z0}(q1:seqIs b1 s.heap l1 xs)(q2:seqIs b2 s.heap l2 ys)
 (h:∀h',IsZip h' (s.heap.objs.size+4) (s.heap.objs.size+2) (s.heap.objs.size+3) .none->IsPair h' (s.heap.objs.size+2) (.ref s.heap.objs.size) (.ref (s.heap.objs.size+1))->IsPair h' (s.heap.objs.size+3) .none .none->
   iterIs b1 h' s.heap.objs.size l1 0->iterIs b2 h' (s.heap.objs.size+1) l2 0->(∀c o,s.heap.get? c=some o->h'.get? c=some o)->Q (.ref (s.heap.objs.size+4)) {s with heap:=h'}):
 wpAny (model prog w) A (call (.type "zip") [.ref l1,.ref l2]) Q E s:=by
 refine callType_new F.called_zip (by decide) (F.typeCall_zip_2 _ _) (F.newCall_zip_2 _ _) (λobj=>F.args_object_init_3 obj _ _) F.entry_zip_new (qo5 b1 b2 l1 l2 xs ys) ⟨q1,q2,?_⟩;have y1:(sA b1 s.heap l1).objs.size=s.heap.objs.size+1:=xy ..;have y2:(sy b1 b2 s.heap l1 l2).objs.size=s.heap.objs.size+2:=by rw[xy,y1]
 have y3:(sv b1 b2 s.heap l1 l2).objs.size=s.heap.objs.size+3:=by rw[xy,y2]
 have y4:(su b1 b2 s.heap l1 l2).objs.size=s.heap.objs.size+4:=by rw[xy,y3]
 have k5:(oN b1 b2 s.heap l1 l2).get? (su b1 b2 s.heap l1 l2).objs.size=some _:=ju _ rfl;have k4:(oN b1 b2 s.heap l1 l2).get? (sv b1 b2 s.heap l1 l2).objs.size=some _:=je _ (ju _ rfl);have k3:(oN b1 b2 s.heap l1 l2).get? (sy b1 b2 s.heap l1 l2).objs.size=some _:=je _ (je _ (ju _ rfl));have k2:(oN b1 b2 s.heap l1 l2).get? (sA b1 s.heap l1).objs.size=some (ng b2 l2):=je _ (je _ (je _ (ju _ (by cases b2<;>rfl))));have k1:(oN b1 b2 s.heap l1 l2).get? s.heap.objs.size=some (ng b1 l1):=je _ (je _ (je _ (je _ (ju _ (by cases b1<;>rfl)))));rw[y2,y3,y4]at k5;rw[y1,y2]at k3;rw[y3]at k4;rw[y1]at k2;rw[y4];exact⟨⟨_,k5,rfl⟩,h _ k5 k3 k4 (iterIs.mk_ k1) (iterIs.mk_ k2) λc o x=>je _ (je _ (je _ (je _ (je _ x))))⟩
end
def SqB(K:am)(b:Bool)(H:Hp)(p:Addr)(xs:List V):Prop:=match b with
 |true=>SqL K H p xs
 |false=>SqT K H p xs
section
variable{X:Cx}{z5:Z3}{J:St}{H:Hp}{s:Shared}{b b1 b2:Bool}{p p1 p2:Addr}{xs ys:List V}
def Inv.seqB(I:Inv X z5 J H s)(h:SqB X.K b H p xs):∃its:List Value,Vals xs its/\seqIs b s.heap p its.toArray/\xs.length<=sizeLine:=by
 cases b
 .let⟨its,r,q,hz⟩:=I.tuple (h);exact⟨its,r,(q),hz⟩
 .let⟨its,r,q,hz⟩:=I.list (h);exact⟨its,r,(q.isList),hz⟩
def Inv.seqB_inj(I:Inv X z5 J H s)(h:SqB X.K b H p xs)(h':SqB X.K b H p ys):xs=ys:=by
 cases b
 .exact I.tuple_inj h h'
 .exact I.list_inj h h'
end
def AA(K:am)(b1 b2:Bool)(p1 p2:Addr):It:=
 ⟨λi H=>∃xs ys x y,SqB K b1 H p1 xs/\SqB K b2 H p2 ys/\xs[i]? =some x/\ys[i]? =some y,
  λi H v H'=>∃T x y,v=.ref T/\H T=none/\H'=aM H T (.tup [x,y])/\(∀xs,SqB K b1 H p1 xs->xs[i]? =some x)/\∀ys,SqB K b2 H p2 ys->ys[i]? =some y,
  λi H=>∃xs ys,SqB K b1 H p1 xs/\SqB K b2 H p2 ys/\(xs.length<=i∨ys.length<=i)⟩
def qxe(b1 b2:Bool)(p1 p2 z TI TO i1 i2:Addr)(i:Nat)(h:Heap):Prop:=IsZip h z TI TO .none/\IsPair h TI (.ref i1) (.ref i2)/\(∃a b,IsPair h TO a b)/\iterIs b1 h i1 p1 i/\iterIs b2 h i2 p2 i
def qjo{P:Program}{w:World}{K:am}{zo:Zi}{x1:Nat}{pos:Pos}(b1 b2:Bool){p1 p2 z TI TO i1 i2:Addr}(D:ZipApart z TI TO i1 i2 p1 p2):
 Turn P w K (.Tuple zo x1 pos) (AA K b1 b2 p1 p2) [z,TI,TO,i1,i2] z (qxe b1 b2 p1 p2 z TI TO i1 i2) where
 mem:=by simp
 obj:=λi h st c hc=>by
  obtain⟨hz,hI,⟨a,b,hO⟩,j1,j2⟩:=st;simp only[mem_cons,not_mem_nil,or_false]at hc;rcases hc with rfl|rfl|rfl|rfl|rfl
  .exact⟨_,hz,λv e=>by cases e⟩
  .exact⟨_,hI,λv e=>by cases e⟩
  .exact⟨_,hO,λv e=>by cases e⟩
  .exact j1.obj
  .exact j2.obj
 keep:=λi h h' st k=>by obtain⟨hz,hI,⟨a,b,hO⟩,j1,j2⟩:=st;exact⟨k z (by simp) _ hz,k TI (by simp) _ hI,⟨a,b,k TO (by simp) _ hO⟩,j1.at_ λo e=>k i1 (by simp) o e,j2.at_ λo e=>k i2 (by simp) o e⟩
 item:=by
  intro X hP hw hK hc i z5 s J H E I hf st hg;subst hP hw hK;obtain⟨xs,ys,x,y,q1,q2,ex,ey⟩:=hg;let⟨it1,r1,t1,_⟩:=I.seqB q1;let⟨it2,r2,t2,_⟩:=I.seqB q2;let⟨u,eu,ru⟩:=r1.get ex;let⟨v,ev,rv⟩:=r2.get ey;obtain⟨hz,hI,⟨a,b,hO⟩,j1,j2⟩:=st;refine qji D hz hI hO j1 j2 t1 t2 (by simpa using eu) (by simpa using ev) λh' z' o' n1 n2 tp kk=>?_;refine⟨_,rfl,?_⟩;refine wpAny_letOwnedTupleGo_zip z' λh'' z'' s''=>?_;have fresh:=I.hok.fresh (jg _);have zne:s.heap.objs.size≠z:=λe=>by have:=jd hz;rw[<-e]at this;exact xo _ this
  have keep:∀c o,c∉[z,TI,TO,i1,i2]->s.heap.get? c=some o->h''.get? c=some o:=λc o hc e=>by simp only[mem_cons,not_mem_nil,or_false,not_or]at hc;exact s''.extBut c o hc.1 (kk c o hc.1 hc.2.2.1 hc.2.2.2.1 hc.2.2.2.2 e)
  have tp':h''.get? s.heap.objs.size=some {cls:=.type "tuple",data:=.seq #[u,v]}:=s''.extBut _ _ zne tp;have I':Inv X z5 J (aM H s.heap.objs.size (.tup [x,y])) {s with heap:=h'',toks:=s.toks}:=by
   refine I.step (λc hc=>?_) (λc o _ _ hc e _=>keep c o hc e) (λc o _ _ hc e _=>⟨o.slots,keep c o hc e⟩) (λc o _ e n=>?_) (λc o hc e=>⟨o,keep c o hc e⟩)
    (λc zs e=>?_) (λc o w' e=>?_) (λc ps e=>⟨#[],?_⟩) (λm hm=>?_) (λc o e=>?_) I.bare
   .let⟨_,f1,f2,f3,f4,f5⟩:=hf c hc;exact⟨f3,f1,f4,f5⟩
   .rw[aX (jq (jd e))];exact n
   .rw[aX (gr e fresh)];exact e
   .rw[aX (gr e fresh)];exact e
   .rw[aX (gr e fresh),e];simp
   .obtain⟨o,es,ep,ho,r⟩:=hm;exact⟨o,es,ep,keep _ o (λq=>(hf _ q).2.1 rfl) ho,r⟩
   .by_cases hb:c=s.heap.objs.size
    .subst hb;rw[cA]at e;cases e;exact⟨by show 2<=sizeLine;decide,[u,v],.cons ru (.cons rv .nil),⟨_,tp',⟨rfl,_,rfl⟩,rfl⟩⟩
    .rw[aX hb]at e;refine(I.hok c o e).stay (λd w' hd q=>keep d w' (λm=>?_) q) (λd q=>?_) λd zs q=>?_
     .have n:=(hf d m).1;rcases hd with rfl|hd
      .rw[n]at e;cases e
      .rw[n]at hd;cases hd
     .rw[aX (gr q fresh)];exact q
     .rw[aX (gr q fresh)];exact q
  refine⟨.ref s.heap.objs.size,_,I',rfl,⟨_,x,y,rfl,fresh,rfl,λzs q=>by rw[I.seqB_inj q q1];exact ex,λzs q=>by rw[I.seqB_inj q q2];exact ey⟩,?_,λc hc=>?_⟩
  .refine⟨z'',s''.extBut _ _ D.TIz (kk _ _ D.TIz D.TITO D.TIi1 D.TIi2 hI),⟨u,v,s''.extBut _ _ D.TOz o'⟩,n1.at_ λo e=>s''.extBut _ o D.i1z e,n2.at_ λo e=>s''.extBut _ o D.i2z e⟩
  .have lt:c<s.heap.objs.size:=by
    simp only[mem_cons,not_mem_nil,or_false]at hc;rcases hc with rfl|rfl|rfl|rfl|rfl
    .exact jd hz
    .exact jd hI
    .exact jd hO
    .obtain⟨o,e,_⟩:=j1.obj;exact jd e
    .obtain⟨o,e,_⟩:=j2.obj;exact jd e
   rw[aX (jq lt)];exact(hf c hc).1
 done:=by
  intro X hP hw hK hc i z5 s J H E I hf st hg;subst hP hw hK;obtain⟨xs,ys,q1,q2,hl⟩:=hg;let⟨it1,r1,t1,_⟩:=I.seqB q1;let⟨it2,r2,t2,_⟩:=I.seqB q2;obtain⟨hz,hI,⟨a,b,hO⟩,j1,j2⟩:=st;have l1:=r1.length;have l2:=r2.length;refine qo6 (I.ok.hd hc) D hz hI hO j1 j2 t1 t2 (by rcases hl with h|h;exact .inl (by simp;lia);exact .inr (by simp;lia)) λh' kk=>⟨rfl,?_⟩;have keep:∀c o,c∉[z,TI,TO,i1,i2]->s.heap.get? c=some o->h'.get? c=some o:=λc o hc e=>by simp only[mem_cons,not_mem_nil,or_false,not_or]at hc;exact kk c o hc.1 hc.2.2.1 hc.2.2.2.1 hc.2.2.2.2 e
  show Inv X z5 J H {s with heap:=h',toks:=s.toks};refine I.step (λc hc=>?_) (λc o _ _ hc e _=>keep c o hc e) (λc o _ _ hc e _=>⟨o.slots,keep c o hc e⟩) (λc o _ e n=>n) (λc o hc e=>⟨o,keep c o hc e⟩)
   (λc zs e=>e) (λc o w' e=>e) (λc ps e=>⟨#[],by rw[e];simp⟩) (λm hm=>?_) (λc o e=>?_) I.bare
  .let⟨_,f1,f2,f3,f4,f5⟩:=hf c hc;exact⟨f3,f1,f4,f5⟩
  .obtain⟨o,es,ep,ho,r⟩:=hm;exact⟨o,es,ep,keep _ o (λq=>(hf _ q).2.1 rfl) ho,r⟩
  .refine(I.hok c o e).stay (λd w' hd q=>keep d w' (λm=>?_) q) (λd q=>q) λd zs q=>q;have n:=(hf d m).1;rcases hd with rfl|hd
   .rw[n]at e;cases e
   .rw[n]at hd;cases hd
 self:=λ_ _ _ _ _ st h=>wpAny_pyIter_zip st.1 h
section
variable{X:Cx}{a b:Expr}{ta:TA}{p pos:Pos}{zo:Zi}{x1:Nat}{tp:Pos}
def iS(K:am)(b1 b2:Bool)(ta:TA):TI:=λJ H R=>ta J H λvs H1=>∃p1 p2,vs=[.ref p1,.ref p2]/\(∃xs,SqB K b1 H1 p1 xs)/\(∃ys,SqB K b2 H1 p2 ys)/\R (AA K b1 b2 p1 p2) H1
def t8{K:am}(b1 b2:Bool)(hK:X.K=K)(hg:Gl X "zip")(hm:X.mg "zip"=none)(ha:PA X [a,b] ta)(he:starEach [a,b] X.env=(false,eval a X.env)::starEach [b] X.env:=by rfl)(hpl:(backTo pos (starEach [b] X.env)).any (·.1)=false:=by rfl):
 PI X (.Tuple zo x1 tp) (.Call (.Name "zip" p) [a,b] [] pos) (iS K b1 b2 ta):=by
 subst hK;intro z5 s J H R I h;refine k6 (iD I hg hm (by rfl) ?_);refine PyProof.Rows.callWith_type1 (bf (ha pos z5 s J H _ I h) λus s1 h1=>?_) he hpl;obtain⟨vs,H1,I1,r1,p1,p2,rfl,⟨xs,q1⟩,⟨ys,q2⟩,k⟩:=h1;obtain⟨u,w',rfl,ru,rw'⟩:=fP r1;cases(ru);cases(show w'=Value.ref p2 from rw');let⟨it1,r1,t1,_⟩:=I1.seqB q1;let⟨it2,r2,t2,_⟩:=I1.seqB q2;have lt:∀{c:Addr} {b:Bool} {zs:Zd},seqIs b s1.heap c zs->c<s1.heap.objs.size:=λ{c b zs} q=>by
  cases b
  .let⟨o,e,_⟩:=(show s1.heap.IsTuple c zs from q);exact jd e
  .let⟨o,e,_⟩:=(show s1.heap.IsList c zs from q);exact jd e
 refine qls t1 t2 λh' hz hI hO j1 j2 kk=>wpAny_pyIter_zip hz ?_;have D:=zipApart_new (lt t1) (lt t2);have I2:Inv X z5 J H1 {s1 with heap:=h',toks:=s1.toks}:=I1.kept kk;refine⟨_,_,_,_,H1,rfl,I2,qjo b1 b2 D,⟨hz,hI,⟨_,_,hO⟩,j1,j2⟩,λc hc=>?_,k⟩;have le:s1.heap.objs.size<=c:=by simp only[mem_cons,not_mem_nil,or_false]at hc;rcases hc with rfl|rfl|rfl|rfl|rfl<;>first|exact jg _|exact Nat.le_add_right _ _
 exact I1.fpOk le (I1.hok.fresh le)
end
section
variable{X:Cx}
theorem HW:∀(ns:Zf) (k:Nat),k<=ns.length->preSum (λi=>ns.getD i 0) k=(ns.take k).sum
 |ns,0,_=>by simp[preSum]
 | ns,k+1,h=>by
  have hk:=h;rw[preSum,HW ns k (le_of_lt hk),List.take_add_one,jh hk,sum_append];have e:ns.getD k 0=ns[k]:=by rw[jl,jh hk];rfl
  rw[e];simp
theorem mO:∀{ns:Zf} {us:Ze} {i:Nat} {v:Value},Vals (ns.map V.int) us->us[i]? =some v->∃t,v=.int (ns.getD i 0) t
 |[],us,i,v,r,e=>by cases r;simp at e
 | n::ns,us,0,v,r,e=>by
  cases r with
  | cons h t=>
   obtain⟨tk,q⟩:=h;simp at e;exact⟨tk,by rw[<-e,q];rfl⟩
 | n::ns,us,i+1,v,r,e=>by
  cases r with
  | cons h t=>
   obtain⟨tk,q⟩:=mO t (by simpa using e);exact⟨tk,by rw[q];rfl⟩
def Gj{K:am}(hK:X.K=K)(hc:X.calm=true):gf X (.builtin "sum") (λxs H Q=>∃(p:Addr) (ns:Zf),xs=[.ref p]/\SqL K H p (ns.map V.int)/\Q (.int ns.sum) H):=by
 subst hK;intro z5 s J H xs us Q I r h;obtain⟨p,ns,rfl,hq,q⟩:=h;obtain⟨u,rfl,ru⟩:=cj r;cases ru;let⟨its,rv,pl,hz⟩:=I.list hq;have hh:X.A.in1.handled=none:=I.ok.hd hc;have hl:=pl.isList;have hlt:p<s.heap.objs.size:=by obtain⟨_,e,_⟩:=hl;exact jd e
 refine call_sum_walkG (wpAny_pyIter_list hl ?_);refine⟨_,_,_,_,_,_,λi=>ns.getD i 0,rfl,Walks.list hh s.heap.objs.size p (jq hlt) its.toArray,⟨⟨_,ju _ rfl,rfl,rfl⟩,hl.push _⟩,λb hb=>?_,λi v hP=>mO rv (by simpa using hP),λh' tk t' hk=>?_⟩
 .show b<(s.heap.push _).objs.size;rw[xy];rcases List.mem_cons.mp hb with rfl|hb
  .exact lt_succ_self _
  .rw[List.mem_singleton.mp hb];exact lt_succ_of_lt hlt
 .have len:its.toArray.size=ns.length:=by have:=rv.length;simp at this;simp;lia
  refine⟨.int ns.sum,H,I.kept λb o e=>hk b o (λz=>?_) (je _ e),⟨t',?_⟩,q⟩
  .have:=jd e;rw[List.mem_singleton.mp z]at this;exact xo _ this
  .rw[len,HW ns _ (jg _),take_length]
end
def Exc(B:Heap)(e:Addr)(cls fl:Value)(h:Heap):Prop:=
 ∃oe vs T oT ts,h.get? e=some oe/\oe.cls=cls/\oe.dict=none/\oe.data=.fields vs/\vs[1]? =some (.ref T)/\B.get? T=none/\T≠e/\h.get? T=some oT/\oT.data=.fields ts/\ts[3]? =some fl
structure FlyD(B:Heap)(l:List Env)(e:Addr)(cls fl:Value)(h:Heap):Prop where
 st:B.StaysIn h
 new:B.get? e=none
 fr:h.FunFrames B l
 ex:Exc B e cls fl h
section
variable{ρ:Model}{A:Around}{E:Z0}{s:Shared}{B:Heap}{env:Env}{outer l:List Env}{L e:Addr}{cls fl:Value}{Q:Unit->Shared->Prop}
def qyo{h:Heap}(hl:h.FunFrames B l){b:Addr}{o:Obj}{vs:Zd}(ho:h.get? b=some o)(hd:o.data=.fields vs):b∉l.filterMap (·.frame):=λhb=>by let⟨_,o1,e1,d1⟩:=hl.mem hb;rw[ho]at e1;cases e1;exact d1 vs hd
end
structure Flies(P:Program)(w:World)(l:List Env)(H:Hp)(s:Shared)(cls:Value)(e:Addr)(H':Hp)(s':Shared):Prop where
 os:s'.os=s.os
 bare:AllBare s'.gens
 un:Un (gW l) [] H H' s.heap s'.heap
 hok:HOk P w H' s'.heap
 fly:∃B,FlyD B l e cls .none s'.heap/\∀b o,s'.heap.get? b=some o->b∉gW l->(H' b≠none∨∃o',s.heap.get? b=some o')->B.get? b=some o
def ObjOk.there{P:Program}{w:World}{H:Hp}{h:Heap}{a:Addr}{o:HO}(x:ObjOk P w H h a o):∃u,h.get? a=some u:=by
 cases o with
 |lst xs=>obtain⟨_,_,_,_,e⟩:=x;exact⟨_,e⟩
 |tup xs=>obtain⟨_,_,_,ob,e,_⟩:=x;exact⟨_,e⟩
 |dK kvs=>obtain⟨_,_,_,_,o,_,e,_⟩:=x;exact⟨_,e⟩
 |dT kvs=>obtain⟨_,_,_,_,o,_,_,e,_⟩:=x;exact⟨_,e⟩
 |set S n=>obtain⟨o,_,_,_,e,_⟩:=x;exact⟨_,e⟩
 |ins C dx fs=>obtain⟨_,_,_,e,_⟩:=x;exact⟨_,e⟩
 |own y=>exact x
 |xd fs=>obtain⟨_,⟨_,_,_,e,_⟩,_⟩:=x;exact⟨_,e⟩
 |rng lo hi=>obtain⟨_,_,_,e⟩:=x;exact⟨_,e⟩
 |frz ob u=>obtain⟨e,_⟩:=x;exact⟨_,e⟩
 |tbl ps=>exact⟨_,(x)⟩
 |lam pos q=>obtain⟨_,e,_⟩:=x;exact⟨_,e⟩
 |met f y=>exact⟨_,(x)⟩
 |ext φ=>obtain⟨_,⟨_,e⟩,_⟩:=x;exact⟨_,e⟩
section
variable{X:Cx}{z5:Z3}{J:St}{H H':Hp}{s:Shared}
end
section
variable{P:Program}{w:World}{K:am}{mg:Za}{base:Heap}{N:Zj}{qual:Str}{scope:Scope}{f:Addr}{cd:Value}{A:Around}{outer:List Env}{s₀:Shared}{H₀:Hp}{E:XK}
end
section
variable{X:Cx}{x:Str}{C:Addr}{bmB:Ze}{B newId initId:String}{np zp pos:Pos}{e:Expr}{es:Zi}{t:TA}{E:XK}
end
noncomputable def sh(e:Addr)(cls:Value):HO:=.ext λh=>∃oe vs,h.get? e=some oe/\oe.cls=cls/\oe.dict=none/\oe.data=.fields vs
section
variable{X:Cx}{z5:Z3}{J:St}{H H':Hp}{s s1:Shared}{e:Addr}{cls fl:Value}
def Flies.fresh{l:List Env}{P:Program}{w:World}(F:Flies P w l H s cls e H' s1):s.heap.get? e=none/\H' e=none:=by
 obtain⟨B,fl,cond⟩:=F.fly;obtain⟨oe,vs,T,oT,ts,he,hc,hdn,hd,_⟩:=fl.ex;have no:¬(H' e≠none∨∃o',s.heap.get? e=some o'):=λz=>by have q:=cond e oe he (qyo fl.fr he hd) z;rw[fl.new]at q;cases q
 constructor
 .cases q:s.heap.get? e with
  |none=>rfl
  |some o=>exact absurd (.inr ⟨o,q⟩) no
 .cases q:H' e with
  |none=>rfl
  |some o=>exact absurd (.inl (by rw[q];exact λz=>nomatch z)) no
end
section
variable{X:Cx}{z5:Z3}{J:St}{H H':Hp}{s s1:Shared}{e:Addr}{cls c:Value}{i:Nat}{x n:Str}{np pos hpos:Pos}{b₀:Stmt}{suite:Zh}{ts:TS}{D:Ends}
end
section
variable{X:Cx}{z5:Z3}{J:St}{CX:iq}{k:Nat}{f:Addr}{fd:FuncData}{ps:Zj}{sp:Sp}{dvs:List V}{ds:Ze}{E:XK}{x:Str}{p pos zp:Pos}{e c:Expr}{es:Zi}{t:TA}{te:TE}{tc:TT}{st:Stmt}{a b:Zh}{ta tb u:TS}
end
section
variable{X:Cx}{c:Value}{i:Nat}{x n:Str}{np pos hpos:Pos}{body:Zh}{b₀:Stmt}{suite:Zh}{ts:TS}{tb:XK->TS}
end
section
variable{P:Program}{w:World}{K:am}{mg:Za}{base:Heap}
end
section
variable{prog:Program}{w:World}{A:Around}{E:Z0}{s:Shared}{K:am}{e C:Addr}{oe:Obj}
end
structure ExcK(K:am)(C:Addr):Prop where
 cls:PySem.W.isClsIn K C=true
 ty:PySem.W.typeIn K (.ref C)=some (.type "type")
 sf:PySem.W.subIn K (.ref C) (.ref C)=some true
 ga:PySem.W.findIn K (.ref C) "__getattribute__"=some (some (.builtin "BaseException.__getattribute__"))
 gt:PySem.W.findIn K (.ref C) "__getattr__"=some none
 bs:PySem.W.subIn K (.ref C) (.type "BaseException")=some true
 ha:PySem.W.findIn K (.ref C) "__class__"=some (some (.builtin "object.__class__"))
 hn:PySem.W.specialIn K (.builtin "object.__class__") "__get__"=some (some (.builtin "getset_descriptor.__get__"))
 tk:PySem.W.takesIn K (.builtin "object.__class__")=some true
 hm:PySem.W.mroIn K C (.type "object")=some true
section
variable{X:Cx}{z5:Z3}{J:St}{H:Hp}{s:Shared}{A:Around}{E:Z0}{Q:Z0}{c:Value}{b:Bool}{a C:Addr}
end
inductive D where
 |non
 |bl (b:Bool)
 |int (i:Int)
 |str (x:Str)
 |lst (xs:List D)
 |tup (xs:List D)
 |obj (x:Str) (fs:List (Str×D))
 |dct (kvs:List (bn×D))
 |dit (kvs:List (List bn×D))
 |exc (x:Str)
 |fn (x:Str)
 |tab (P:Addr) (pos:Pos) (q:Str)
mutual
inductive Rp(K:am)(R:Hp):V->D->Prop
 |non:Rp K R .non .non
 |bl (b:Bool):Rp K R (.bl b) (.bl b)
 |int (i:Int):Rp K R (.int i) (.int i)
 |str (x:Str):Rp K R (.str x) (.str x)
 |lst {a:Addr} {xs:List V} {ds:List D}:SqL K R a xs->Rps K R xs ds->Rp K R (.ref a) (.lst ds)
 |tup {a:Addr} {xs:List V} {ds:List D}:R a=some (.tup xs)->Rps K R xs ds->Rp K R (.ref a) (.tup ds)
 |obj {a C dx:Addr} {x:Str} {fs:List (Str×V)} {gs:List (Str×D)}:PySem.W.nsIn K mainGlobals x=some (some (.ref C))->R a=some (.ins C dx fs)->Rfs K R fs gs->Rp K R (.ref a) (.obj x gs)
 |dct {a:Addr} {kvs:List (bn×V)} {gs:List (bn×D)}:R a=some (.dK kvs)->Rkk K R kvs gs->Rp K R (.ref a) (.dct gs)
 |dit {a:Addr} {kvs:List (List bn×V)} {gs:List (List bn×D)}:R a=some (.dT kvs)->Rkt K R kvs gs->Rp K R (.ref a) (.dit gs)
 |exc {a C:Addr} {x:Str}:PySem.W.nsIn K mainGlobals x=some (some (.ref C))->ExcK K C->R a=some (sh a (.ref C))->Rp K R (.ref a) (.exc x)
 |fn {l:Addr} {x:Str}:PySem.W.nsIn K mainGlobals x=some (some (.ref l))->Rp K R (.ref l) (.fn x)
 |tab {P:Addr} {pos:Pos} {q:Str}:R P=some (.lam pos q)->Rp K R (.ref P) (.tab P pos q)
inductive Rps(K:am)(R:Hp):List V->List D->Prop
 |nil:Rps K R [] []
 |cons {x:V} {xs:List V} {d:D} {ds:List D}:Rp K R x d->Rps K R xs ds->Rps K R (x::xs) (d::ds)
inductive Rfs(K:am)(R:Hp):List (Str×V)->List (Str×D)->Prop
 |nil:Rfs K R [] []
 |cons {f:Str} {x:V} {xs:List (Str×V)} {d:D} {ds:List (Str×D)}:Rp K R x d->Rfs K R xs ds->Rfs K R ((f,x)::xs) ((f,d)::ds)
inductive Rkk(K:am)(R:Hp):List (bn×V)->List (bn×D)->Prop
 |nil:Rkk K R [] []
 |cons {f:bn} {x:V} {xs:List (bn×V)} {d:D} {ds:List (bn×D)}:Rp K R x d->Rkk K R xs ds->Rkk K R ((f,x)::xs) ((f,d)::ds)
inductive Rkt(K:am)(R:Hp):List (List bn×V)->List (List bn×D)->Prop
 |nil:Rkt K R [] []
 |cons {f:List bn} {x:V} {xs:List (List bn×V)} {d:D} {ds:List (List bn×D)}:Rp K R x d->Rkt K R xs ds->Rkt K R ((f,x)::xs) ((f,d)::ds)
end
section
variable{K:am}{R:Hp}
def Rp.isI{x:V}{i:Int}(h:Rp K R x (.int i)):x=.int i:=by cases h;rfl
def Rp.isS{x:V}{i:Str}(h:Rp K R x (.str i)):x=.str i:=by cases h;rfl
def Rp.isB{x:V}{i:Bool}(h:Rp K R x (.bl i)):x=.bl i:=by cases h;rfl
def Rp.isN{x:V}(h:Rp K R x .non):x=.non:=by cases h;rfl
noncomputable def qyu:D->Option V
 |.int i=>some (.int i)
 |.str i=>some (.str i)
 |.bl i=>some (.bl i)
 |.non=>some .non
 |_=>none
def Rp.isA{x v:V}:{d:D}->Rp K R x d->qyu d=some v->x=v
 |.int _,h,e=>h.isI.trans (jm e)
 |.str _,h,e=>h.isS.trans (jm e)
 |.bl _,h,e=>h.isB.trans (jm e)
 |.non,h,e=>h.isN.trans (jm e)
def Rp.isL{x:V}{ds:List D}(h:Rp K R x (.lst ds)):∃a xs,x=.ref a/\SqL K R a xs/\Rps K R xs ds:=by
 cases h with
 |@lst a xs ds h r=>exact⟨a,xs,rfl,h,r⟩
def Rp.isT{x:V}{ds:List D}(h:Rp K R x (.tup ds)):∃a xs,x=.ref a/\R a=some (.tup xs)/\Rps K R xs ds:=by
 cases h with
 |@tup a xs ds h r=>exact⟨a,xs,rfl,h,r⟩
def Rps.isC{xs:List V}{d:D}{ds:List D}(h:Rps K R xs (d::ds)):∃x ys,xs=x::ys/\Rp K R x d/\Rps K R ys ds:=by
 cases h with
 |@cons x ys d ds h r=>exact⟨x,ys,rfl,h,r⟩
end
abbrev az:=List (Option D)
abbrev aV:=az->Option (List D×az)
abbrev aF:=az->Option (D×az)
abbrev eI:=az->Option (Bool×az)
abbrev eM:=D->az->Option az
def Same.sqL{K:am}{H H':Hp}{a:Addr}{xs:List V}(e:Same H H')(h:SqL K H a xs):SqL K H' a xs:=by
 rcases h with(h|⟨o,h⟩)|h
 .exact .inl (.inl (e _ _ h))
 .exact .inl (.inr ⟨o,e _ _ h⟩)
 .exact .inr h
section
variable{K:am}{R R':Hp}
def Rp.mono(s:Same R R'){v:V}{d:D}(h:Rp K R v d):Rp K R' v d:=
 Rp.rec
  .non .bl .int .str (λh _ r=>.lst (s.sqL h) r) (λh _ r=>.tup (s _ _ h) r) (λn h _ r=>.obj n (s _ _ h) r) (λh _ r=>.dct (s _ _ h) r) (λh _ r=>.dit (s _ _ h) r) (λn k h=>.exc n k (s _ _ h)) (λn=>.fn n) (λh=>.tab (s _ _ h))
  .nil (λ_ _ h r=>.cons h r) .nil (λ_ _ h r=>.cons h r) .nil (λ_ _ h r=>.cons h r) .nil (λ_ _ h r=>.cons h r) h
def Rps.mono(s:Same R R'){xs:List V}{ds:List D}(h:Rps K R xs ds):Rps K R' xs ds:=
 Rps.rec
  .non .bl .int .str (λh _ r=>.lst (s.sqL h) r) (λh _ r=>.tup (s _ _ h) r) (λn h _ r=>.obj n (s _ _ h) r) (λh _ r=>.dct (s _ _ h) r) (λh _ r=>.dit (s _ _ h) r) (λn k h=>.exc n k (s _ _ h)) (λn=>.fn n) (λh=>.tab (s _ _ h))
  .nil (λ_ _ h r=>.cons h r) .nil (λ_ _ h r=>.cons h r) .nil (λ_ _ h r=>.cons h r) .nil (λ_ _ h r=>.cons h r) h
def Rfs.mono(s:Same R R'){xs:List (Str×V)}{ds:List (Str×D)}(h:Rfs K R xs ds):Rfs K R' xs ds:=
 Rfs.rec
  .non .bl .int .str (λh _ r=>.lst (s.sqL h) r) (λh _ r=>.tup (s _ _ h) r) (λn h _ r=>.obj n (s _ _ h) r) (λh _ r=>.dct (s _ _ h) r) (λh _ r=>.dit (s _ _ h) r) (λn k h=>.exc n k (s _ _ h)) (λn=>.fn n) (λh=>.tab (s _ _ h))
  .nil (λ_ _ h r=>.cons h r) .nil (λ_ _ h r=>.cons h r) .nil (λ_ _ h r=>.cons h r) .nil (λ_ _ h r=>.cons h r) h
def Rkk.mono(s:Same R R'){xs:List (bn×V)}{ds:List (bn×D)}(h:Rkk K R xs ds):Rkk K R' xs ds:=
 Rkk.rec
  .non .bl .int .str (λh _ r=>.lst (s.sqL h) r) (λh _ r=>.tup (s _ _ h) r) (λn h _ r=>.obj n (s _ _ h) r) (λh _ r=>.dct (s _ _ h) r) (λh _ r=>.dit (s _ _ h) r) (λn k h=>.exc n k (s _ _ h)) (λn=>.fn n) (λh=>.tab (s _ _ h))
  .nil (λ_ _ h r=>.cons h r) .nil (λ_ _ h r=>.cons h r) .nil (λ_ _ h r=>.cons h r) .nil (λ_ _ h r=>.cons h r) h
def Rkt.mono(s:Same R R'){xs:List (List bn×V)}{ds:List (List bn×D)}(h:Rkt K R xs ds):Rkt K R' xs ds:=
 Rkt.rec
  .non .bl .int .str (λh _ r=>.lst (s.sqL h) r) (λh _ r=>.tup (s _ _ h) r) (λn h _ r=>.obj n (s _ _ h) r) (λh _ r=>.dct (s _ _ h) r) (λh _ r=>.dit (s _ _ h) r) (λn k h=>.exc n k (s _ _ h)) (λn=>.fn n) (λh=>.tab (s _ _ h))
  .nil (λ_ _ h r=>.cons h r) .nil (λ_ _ h r=>.cons h r) .nil (λ_ _ h r=>.cons h r) .nil (λ_ _ h r=>.cons h r) h
theorem Rps.ind{P:∀(xs:List V) (ds:List D),Rps K R xs ds->Prop}(n:P [] [] .nil)(c:∀{x d xs ds} (h:Rp K R x d) (r:Rps K R xs ds),P xs ds r->P (x::xs) (d::ds) (.cons h r)):∀{xs:List V} {ds:List D} (h:Rps K R xs ds),P xs ds h
 |_,_,.nil=>n
 |_,_,.cons h r=>c h r (Rps.ind n c r)
def Rps.length{xs:List V}{ds:List D}(h:Rps K R xs ds):xs.length=ds.length:=by
 induction h using Rps.ind with
 |n=>rfl
 |c _ _ ih=>rw[jy,jy,ih]
theorem Rps.get:∀{xs:List V} {ds:List D} {i:Nat} {d:D},Rps K R xs ds->ds[i]? =some d->∃v,xs[i]? =some v/\Rp K R v d
 |_,_,_,_,.nil,e=>by simp at e
 |_,_,0,_,.cons h _,e=>by simp at e;subst e;exact⟨_,rfl,h⟩
 | _,_,i+1,d,.cons _ r,e=>by obtain⟨v,h1,h2⟩:=Rps.get r (by simpa using e);exact⟨v,by simpa using h1,h2⟩
theorem Rps.get':∀{xs:List V} {ds:List D} {i:Nat} {v:V},Rps K R xs ds->xs[i]? =some v->∃d,ds[i]? =some d/\Rp K R v d
 |_,_,_,_,.nil,e=>by simp at e
 |_,_,0,_,.cons h _,e=>by simp at e;subst e;exact⟨_,rfl,h⟩
 | _,_,i+1,v,.cons _ r,e=>by obtain⟨d,h1,h2⟩:=Rps.get' r (by simpa using e);exact⟨d,by simpa using h1,h2⟩
def Rps.append{xs ys:List V}{ds es:List D}(h:Rps K R xs ds)(s:Rps K R ys es):Rps K R (xs++ys) (ds++es):=by
 induction h using Rps.ind with
 |n=>exact s
 |c r _ ih=>exact .cons r ih
theorem Rps.take:∀{xs:List V} {ds:List D} (n:Nat),Rps K R xs ds->Rps K R (xs.take n) (ds.take n)
 |_,_,0,_=>.nil
 |_,_,_+1,.nil=>.nil
 |_,_,n+1,.cons r t=>.cons r (Rps.take n t)
theorem Rps.drop:∀{xs:List V} {ds:List D} (n:Nat),Rps K R xs ds->Rps K R (xs.drop n) (ds.drop n)
 |_,_,0,r=>r
 |_,_,_+1,.nil=>.nil
 |_,_,n+1,.cons _ t=>Rps.drop n t
theorem Rps.set{x:V}{d:D}(r:Rp K R x d):∀{xs:List V} {ds:List D} (i:Nat),Rps K R xs ds->Rps K R (xs.set i x) (ds.set i d)
 |_,_,_,.nil=>.nil
 |_,_,0,.cons _ t=>.cons r t
 |_,_,i+1,.cons q t=>.cons q (Rps.set r i t)
def Rps.one{x:V}{d:D}(r:Rp K R x d):Rps K R [x] [d]:=.cons r .nil
theorem Rps.ints:∀ns:List Int,Rps K R (ns.map V.int) (ns.map D.int)
 |[]=>.nil
 |n::ns=>.cons (.int n) (Rps.ints ns)
def Rps.snoc{xs:List V}{ds:List D}{x:V}{d:D}(h:Rps K R xs ds)(r:Rp K R x d):Rps K R (xs++[x]) (ds++[d]):=h.append (.one r)
end
inductive Sc:V->D->Prop
 |non:Sc .non .non
 |bl (b:Bool):Sc (.bl b) (.bl b)
 |int (i:Int):Sc (.int i) (.int i)
 |str (x:Str):Sc (.str x) (.str x)
def Sc.rp{K:am}{R:Hp}{v:V}{d:D}(h:Sc v d):Rp K R v d:=by
 cases h with
 |non=>exact .non
 |bl b=>exact .bl b
 |int i=>exact .int i
 |str x=>exact .str x
def Frh(H:Hp)(a:Addr):Prop:=H a=none∨∃xs,H a=some (.tup xs)
def Liv(H H':Hp)(a:Addr):Prop:=H' a≠none/\∀xs,H' a=some (.tup xs)->H a=some (.tup xs)
def Liv.refl{H:Hp}{a:Addr}(h:H a≠none):Liv H H a:=⟨h,λ_ e=>e⟩
def Liv.trans{H H1 H2:Hp}{a:Addr}(x:Liv H H1 a)(y:Liv H1 H2 a):Liv H H2 a:=⟨y.1,λxs e=>x.2 xs (y.2 xs e)⟩
def Frh.back{H H1:Hp}{a:Addr}(h:H a≠none->Liv H H1 a)(z:Frh H1 a):Frh H a:=by
 cases q:H a with
 |none=>exact .inl q
 | some o=>
  have v:=h (by rw[q];exact λz=>nomatch z);rcases z with z|⟨xs,z⟩
  .exact absurd z v.1
  .exact .inr ⟨xs,v.2 xs z⟩
structure Ext(H R H' R':Hp):Prop where
 h:Same H H'
 r:Same R R'
 s:∀a o,R' a=some o->H' a=some o
 n:∀a,R' a≠none->R a≠none∨Frh H a
def Ext.refl{H R:Hp}(s:∀a o,R a=some o->H a=some o):Ext H R H R:=⟨Same.refl _,Same.refl _,s,λ_ h=>.inl h⟩
def Same.some{H H':Hp}(s:Same H H'){a:Addr}(h:H a≠none):H' a≠none:=by
 cases q:H a with
 |none=>exact absurd q h
 |some o=>rw[s a o q];exact λz=>nomatch z
def Same.liv{H H':Hp}(s:Same H H'){a:Addr}(h:H a≠none):Liv H H' a:=⟨s.some h,λxs e=>by
 cases q:H a with
 |none=>exact absurd q h
 |some o=>rw[s a o q]at e;exact e⟩
def Ext.trans{H R H1 R1 H2 R2:Hp}(x:Ext H R H1 R1)(y:Ext H1 R1 H2 R2):Ext H R H2 R2:=by
 refine⟨x.h.trans y.h,x.r.trans y.r,y.s,λa h=>?_⟩;rcases y.n a h with z|z
 .exact x.n a z
 .exact .inr (z.back x.h.liv)
def Ext.new{H R:Hp}{a:Addr}{o:HO}(s:∀a o,R a=some o->H a=some o)(h:H a=none):Ext H R (aM H a o) (aM R a o):=by
 have hr:R a=none:=by
  cases q:R a with
  |none=>rfl
  |some u=>rw[s a u q]at h;cases h
 refine⟨Same.new h,Same.new hr,λb u e=>?_,λb e=>?_⟩
 .by_cases hb:b=a
  .subst hb;rw[cA]at e ⊢;exact e
  .rw[aX hb]at e ⊢;exact s b u e
 .by_cases hb:b=a
  .subst hb;exact .inr (.inl h)
  .rw[aX hb]at e;exact .inl e
def Ext.hid{H R:Hp}{a:Addr}{o:HO}(s:∀a o,R a=some o->H a=some o)(h:H a=none):Ext H R (aM H a o) R:=
 ⟨Same.new h,Same.refl _,λb u e=>Same.new h _ _ (s b u e),λ_ e=>.inl e⟩
structure Anc where
 H0:Hp
 R0:Hp
 L:Addr->Prop
 P:List Nat
inductive Ob(K:am)(R:Hp):HO->D->Prop
 |lst {vs:List V} {ds:List D}:Rps K R vs ds->Ob K R (.lst vs) (.lst ds)
 |dct {kvs:List (bn×V)} {gs:List (bn×D)}:Rkk K R kvs gs->Ob K R (.dK kvs) (.dct gs)
 |dit {kvs:List (List bn×V)} {gs:List (List bn×D)}:Rkt K R kvs gs->Ob K R (.dT kvs) (.dit gs)
def Ob.isL{K:am}{R:Hp}{o:HO}{ds:List D}(h:Ob K R o (.lst ds)):∃vs,o=.lst vs/\Rps K R vs ds:=by
 cases h with
 |lst r=>exact⟨_,rfl,r⟩
def Ob.mono{K:am}{R R':Hp}{o:HO}{d:D}(s:Same R R')(h:Ob K R o d):Ob K R' o d:=by
 cases h with
 |lst r=>exact .lst (r.mono s)
 |dct r=>exact .dct (r.mono s)
 |dit r=>exact .dit (r.mono s)
def Ob.noF{K:am}{H R:Hp}{o:HO}{d:D}{l:Addr}(h:Ob K R o d)(e:H l=some o)(z:Frh H l):False:=by
 rcases z with z|⟨xs,z⟩
 .rw[e]at z;cases z
 .rw[e]at z;cases z;cases h
def Ob.rp{K:am}{R:Hp}{o:HO}{d:D}{l:Addr}(h:Ob K R o d)(e:R l=some o):Rp K R (.ref l) d:=by
 cases h with
 |lst r=>exact .lst (SqL.of e) r
 |dct r=>exact .dct e r
 |dit r=>exact .dit e r
structure StR(K:am)(Z:Anc)(O:Zg)(J:St)(H R:Hp)(M:az):Prop where
 sub:∀a o,R a=some o->H a=some o
 len:J.length=M.length
 env:∀i d,i∉O->M[i]? =some (some d)->∃v,J[i]? =some (some v)/\Rp K R v d
 own:∀i,i∈O->∃l vs ds,M[i]? =some (some ds)/\J[i]? =some (some (.ref l))/\H l=some vs/\R l=none/\Ob K R vs ds
 dis:∀i j,i∈O->j∈O->i≠j->∀l,J[i]? =some (some (.ref l))->J[j]? ≠some (some (.ref l))
 ah:∀a o,Z.H0 a=some o->¬Z.L a->H a=some o
 ar:Same Z.R0 R
 an:∀a,R a≠none->Z.R0 a≠none∨Frh Z.H0 a
 ad:∀a,Z.H0 a≠none->Liv Z.H0 H a
 ao:∀i,i∈O->i∉Z.P->∀l,J[i]? =some (some (.ref l))->Z.H0 l=none
 ap:∀i,i∈O->i∈Z.P->∀l,J[i]? =some (some (.ref l))->Z.L l
structure Stp(O:Zg)(J:St)(H R H' R':Hp):Prop where
 r:Same R R'
 h:∀a o,H a=some o->(∀i,i∈O->J[i]? ≠some (some (.ref a)))->H' a=some o
 n:∀a,R' a≠none->R a≠none∨Frh H a
 d:∀a,H a≠none->Liv H H' a
def Stp.refl(O:Zg)(J:St)(H R:Hp):Stp O J H R H R:=⟨Same.refl _,λ_ _ e _=>e,λ_ h=>.inl h,λ_ h=>.refl h⟩
def Stp.trans{O:Zg}{J:St}{H R H1 R1 H2 R2:Hp}(x:Stp O J H R H1 R1)(y:Stp O J H1 R1 H2 R2):Stp O J H R H2 R2:=by
 refine⟨x.r.trans y.r,λa o e n=>y.h a o (x.h a o e n) n,λa h=>?_,λa h=>(x.d a h).trans (y.d a (x.d a h).1)⟩;rcases y.n a h with z|z
 .exact x.n a z
 .exact .inr (z.back (x.d a))
def Ext.stp{O:Zg}{J:St}{H R H' R':Hp}(x:Ext H R H' R'):Stp O J H R H' R':=⟨x.r,λa o e _=>x.h a o e,x.n,λ_ h=>x.h.liv h⟩
section
variable{K:am}{Z:Anc}{O O':Zg}{J J':St}{H R H' R':Hp}{M M':az}
def StR.ext(S:StR K Z O J H R M)(x:Ext H R H' R'):StR K Z O J H' R' M:=by
 refine⟨x.s,S.len,λi d hi e=>?_,λi hi=>?_,S.dis,λa o e n=>x.h a o (S.ah a o e n),S.ar.trans x.r,λa h=>?_,λa h=>(S.ad a h).trans (x.h.liv (S.ad a h).1),S.ao,S.ap⟩
 .let⟨v,h1,h2⟩:=S.env i d hi e;exact⟨v,h1,h2.mono x.r⟩
 .let⟨l,vs,ds,h1,h2,h3,h4,h5⟩:=S.own i hi;refine⟨l,vs,ds,h1,h2,x.h _ _ h3,?_,h5.mono x.r⟩;cases q:R' l with
  |none=>rfl
  | some o=>
   rcases x.n l (by rw[q];exact λz=>nomatch z)with z|z
   .exact absurd h4 z
   .exact(h5.noF h3 z).elim
 .rcases x.n a h with z|z
  .exact S.an a z
  .exact .inr (z.back (S.ad a))
noncomputable def dk(O O':Zg)(J:St)(H R:Hp):Hp:=λa=>open Classical in if∃i,i∈O/\i∉O'/\J[i]? =some (some (.ref a))then H a else R a
def StR.freeze(S:StR K Z O J H R M)(hs:∀i,i∈O'->i∈O)(hp:∀i,i∈Z.P->i∈O->i∈O'):StR K Z O' J H (dk O O' J H R) M/\Same R (dk O O' J H R):=by
 have same:Same R (dk O O' J H R):=λa o e=>by
  unfold dk;split
  .exact S.sub a o e
  .exact e
 refine⟨⟨λa o e=>?_,S.len,λi d hi e=>?_,λi hi=>?_,λi j hi hj=>S.dis i j (hs i hi) (hs j hj),S.ah,S.ar.trans same,λa h=>?_,S.ad,λi hi=>S.ao i (hs i hi),λi hi=>S.ap i (hs i hi)⟩,same⟩
 .unfold dk at e;split at e
  .exact e
  .exact S.sub a o e
 .by_cases hO:i∈O
  .let⟨l,vs,ds,h1,h2,h3,h4,h5⟩:=S.own i hO;rw[e]at h1;have ed:=jm (jm h1);subst ed;refine⟨.ref l,h2,(h5.mono same).rp ?_⟩;unfold dk;rw[if_pos ⟨i,hO,hi,h2⟩];exact h3
  .let⟨v,h1,h2⟩:=S.env i d hO e;exact⟨v,h1,h2.mono same⟩
 .let⟨l,vs,ds,h1,h2,h3,h4,h5⟩:=S.own i (hs i hi);refine⟨l,vs,ds,h1,h2,h3,?_,h5.mono same⟩;unfold dk;rw[if_neg ?_]
  .exact h4
  .rintro⟨j,hj,hj',e⟩;exact S.dis j i hj (hs i hi) (λz=>hj' (z▸hi)) l e h2
 .unfold dk at h;split at h
  .rename_i z;obtain⟨j,hj,hj',e⟩:=z;exact .inr (.inl (S.ao j hj (λz=>hj' (hp j z hj)) a e))
  .exact S.an a h
def StR.set(S:StR K Z O J H R M){i:Nat}{v:V}{d:D}(hi:i∉O)(r:Rp K R v d):StR K Z O (J.set i (some v)) H R (M.set i (some d)):=by
 have ne:∀j,j∈O->i≠j:=λj hj z=>hi (z▸hj);refine⟨S.sub,by rw[xn,xn];exact S.len,λj e hj q=>?_,λj hj=>?_,λj k hj hk n l e=>?_,S.ah,S.ar,S.an,S.ad,λj hj hp l e=>?_,λj hj hp l e=>?_⟩
 .by_cases hij:i=j
  .subst hij;have hl:i<M.length:=by
    have:=(List.getElem?_eq_some_iff.mp q).1
    rwa [xn]at this
   rw[xl hl]at q;have e':=jm (jm q);subst e';exact⟨v,by rw[xl (by rw[S.len];exact hl)],r⟩
  .rw[jv hij]at q;let⟨w,h1,h2⟩:=S.env j e hj q;exact⟨w,by rw[jv hij];exact h1,h2⟩
 .let⟨l,vs,ds,h1,h2,h3,h4,h5⟩:=S.own j hj;exact⟨l,vs,ds,by rw[jv (ne j hj)];exact h1,by rw[jv (ne j hj)];exact h2,h3,h4,h5⟩
 .rw[jv (ne j hj)]at e;rw[jv (ne k hk)];exact S.dis j k hj hk n l e
 .rw[jv (ne j hj)]at e;exact S.ao j hj hp l e
 .rw[jv (ne j hj)]at e;exact S.ap j hj hp l e
def StR.write(S:StR K Z O J H R M){i:Nat}{l:Addr}{vs:HO}{ds:D}(hi:i∈O)(hl:J[i]? =some (some (.ref l)))(r:Ob K R vs ds):StR K Z O J (aM H l vs) R (M.set i (some ds)):=by
 let⟨l0,vs0,ds0,h1,h2,h3,h4,h5⟩:=S.own i hi;rw[hl]at h2;cases h2;have other:∀j,j∈O->i≠j->∀k,J[j]? =some (some (.ref k))->k≠l:=λj hj n k e z=>by subst z;exact S.dis i j hi hj n k hl e
 refine⟨λa o e=>?_,by rw[xn];exact S.len,λj d hj q=>?_,λj hj=>?_,S.dis,λa o e n=>?_,S.ar,S.an,λa h=>?_,S.ao,S.ap⟩
 .have ne:a≠l:=λz=>by subst z;rw[h4]at e;cases e
  rw[aX ne];exact S.sub a o e
 .have n:i≠j:=λz=>hj (z▸hi);rw[jv n]at q;exact S.env j d hj q
 .by_cases n:i=j
  .subst n;have zd:=(List.getElem?_eq_some_iff.mp h1).1;exact⟨l,vs,ds,by rw[xl zd],hl,cA,h4,r⟩
  .let⟨k,vs',ds',g1,g2,g3,g4,g5⟩:=S.own j hj;exact⟨k,vs',ds',by rw[jv n];exact g1,g2,by rw[aX (other j hj n k g2)];exact g3,g4,g5⟩
 .have ne:a≠l:=λz=>by
   subst z;by_cases hp:i∈Z.P
   .exact n (S.ap i hi hp a hl)
   .rw[S.ao i hi hp a hl]at e;cases e
  rw[aX ne];exact S.ah a o e n
 .by_cases ha:a=l
  .subst ha;exact⟨by rw[cA];exact(λz=>(nomatch z)),λxs e=>by rw[cA]at e;cases e;cases r⟩
  .exact⟨by rw[aX ha];exact(S.ad a h).1,λxs e=>by rw[aX ha]at e;exact(S.ad a h).2 xs e⟩
def StR.take(S:StR K Z O J H R M){i:Nat}{l:Addr}{vs:HO}{ds:D}(hi:i∉O)(hin:i∈O')(hO:∀j,j∈O'->j=i∨j∈O)(hp:i∉Z.P)(zd:i<M.length)(h0:Z.H0 l=none)(hH:H l=some vs)(hR:R l=none)(hn:∀j,j∈O->J[j]? ≠some (some (.ref l)))(hs:∀j,j∈O->j∈O')(r:Ob K R vs ds):
 StR K Z O' (J.set i (some (.ref l))) H R (M.set i (some ds)):=by
 have ne:∀j,j∈O->i≠j:=λj hj z=>hi (z▸hj);have hl:i<J.length:=by rw[S.len];exact zd
 refine⟨S.sub,by rw[xn,xn];exact S.len,λj e hj q=>?_,λj hj=>?_,λj k hj hk n m e=>?_,S.ah,S.ar,S.an,S.ad,λj hj hp l e=>?_,λj hj hp' l e=>?_⟩
 .by_cases hij:i=j
  .subst hij;rw[xl zd]at q;have e':=jm (jm q);subst e';exact absurd hin hj
  .rw[jv hij]at q;let⟨w,h1,h2⟩:=S.env j e (λz=>hj (hs j z)) q;exact⟨w,by rw[jv hij];exact h1,h2⟩
 .rcases hO j hj with rfl|hj'
  .exact⟨l,vs,ds,by rw[xl zd],by rw[xl hl],hH,hR,r⟩
  .let⟨k,vs',ds',g1,g2,g3,g4,g5⟩:=S.own j hj';exact⟨k,vs',ds',by rw[jv (ne j hj')];exact g1,by rw[jv (ne j hj')];exact g2,g3,g4,g5⟩
 .rcases hO j hj with rfl|hj'
  .rw[xl hl]at e;cases e;rcases hO k hk with rfl|hk'
   .exact absurd rfl n
   .rw[jv (ne k hk')];exact hn k hk'
  .rw[jv (ne j hj')]at e;rcases hO k hk with rfl|hk'
   .rw[xl hl];intro z;cases z;exact hn j hj' e
   .rw[jv (ne k hk')];exact S.dis j k hj' hk' n m e
 .rcases hO j hj with rfl|hj'
  .rw[xl hl]at e;cases e;exact h0
  .rw[jv (ne j hj')]at e;exact S.ao j hj' hp l e
 .rcases hO j hj with rfl|hj'
  .exact absurd hp' hp
  .rw[jv (ne j hj')]at e;exact S.ap j hj' hp' l e
end
noncomputable def bZ{α β:Type}(a:az->Option (α×az))(k:α->az->Option (β×az)):az->Option (β×az):=λM=>match a M with
 |none=>none
 |some (x,M1)=>k x M1
noncomputable def ae{α:Type}(x:α):az->Option (α×az):=λM=>some (x,M)
noncomputable def dy{α:Type}(o:Option α):az->Option (α×az):=λM=>match o with
 |none=>none
 |some x=>some (x,M)
def bP{α β:Type}{a:az->Option (α×az)}{k:α->az->Option (β×az)}{M:az}{r:β×az}(h:bZ a k M=some r):∃x M1,a M=some (x,M1)/\k x M1=some r:=by
 unfold bZ at h;cases e:a M with
 |none=>rw[e]at h;cases h
 |some p=>rw[e]at h;exact⟨p.1,p.2,rfl,h⟩
def c7{α:Type}{o:Option α}{M:az}{x:α}{M':az}(h:dy o M=some (x,M')):o=some x/\M'=M:=by
 cases o with
 |none=>cases h
 |some y=>cases h;exact⟨rfl,rfl⟩
noncomputable def aa(i:Nat):aF:=λM=>match M[i]? with
 |some (some d)=>some (d,M)
 |_=>none
def zS{i:Nat}{M M':az}{d:D}(h:aa i M=some (d,M')):M[i]? =some (some d)/\M'=M:=by
 unfold aa at h;cases e:M[i]? with
 |none=>rw[e]at h;cases h
 | some o=>
  rw[e]at h;cases o with
  |none=>cases h
  |some y=>cases h;exact⟨rfl,rfl⟩
section
variable(K:am)(O:Zg)
def ME(t:TE)(f:aF):Prop:=∀(Z:Anc) (J:St) (H R:Hp) (M:az) (d:D) (M':az) (Q:VK),StR K Z O J H R M->f M=some (d,M')->(∀v H' R',StR K Z O J H' R' M'->Stp O J H R H' R'->Rp K R' v d->Q v H')->t J H Q
def MB(t:TE)(f:aF):Prop:=∀(Z:Anc) (J:St) (H R:Hp) (M:az) (d:D) (M':az) (Q:VK),StR K Z O J H R M->f M=some (d,M')->(∀v H' R',StR K Z O J H' R' M'->Stp O J H R H' R'->Rp K H' v d->Q v H')->t J H Q
def MT(t:TT)(f:eI):Prop:=∀(Z:Anc) (J:St) (H R:Hp) (M:az) (b:Bool) (M':az) (Q:Bool->Hp->Prop),StR K Z O J H R M->f M=some (b,M')->(∀H' R',StR K Z O J H' R' M'->Stp O J H R H' R'->Q b H')->t J H Q
def MA(t:TA)(f:aV):Prop:=∀(Z:Anc) (J:St) (H R:Hp) (M:az) (ds:List D) (M':az) (Q:List V->Hp->Prop),StR K Z O J H R M->f M=some (ds,M')->(∀vs H' R',StR K Z O J H' R' M'->Stp O J H R H' R'->Rps K R' vs ds->Q vs H')->t J H Q
def MN(t:TE)(f:aV):Prop:=∀(Z:Anc) (J:St) (H R:Hp) (M:az) (ds:List D) (M':az) (Q:VK),StR K Z O J H R M->f M=some (ds,M')->(∀l vs H' R',StR K Z O J H' R' M'->Stp O J H R H' R'->H l=none->H' l=some (.lst vs)->R' l=none->Rps K R' vs ds->Q (.ref l) H')->t J H Q
end
section
variable{K:am}{Z:Anc}{O:Zg}{t ta tb tc:TE}{tA tB':TT}{tr:TA}
def StR.same{J:St}{H R:Hp}{M:az}(S:StR K Z O J H R M):Same R H:=S.sub
def ME.mb{f:aF}(h:ME K O t f):MB K O t f:=λZ J H R M d M' Q S e k=>h Z J H R M d M' Q S e λv H' R' S' st r=>k v H' R' S' st (r.mono S'.same)
def StR.notnew{J:St}{H R:Hp}{M:az}(S:StR K Z O J H R M){l:Addr}(h:H l=none):∀j,j∈O->J[j]? ≠some (some (.ref l)):=λj hj e=>by
 let⟨k,vs,ds,_,h2,h3,_⟩:=S.own j hj;rw[e]at h2
 (first|obtain rfl:=h2.isA rfl|cases h2)
 rw[h]at h3
 (first|obtain rfl:=h3.isA rfl|cases h3)
def StR.know{J:St}{H R:Hp}{M:az}{l:Addr}{vs:HO}(S:StR K Z O J H R M)(h0:Z.H0 l=none)(hH:H l=some vs)(hR:R l=none)(hn:∀j,j∈O->J[j]? ≠some (some (.ref l))):StR K Z O J H (aM R l vs) M:=by
 have same:Same R (aM R l vs):=Same.new hR;refine⟨λa o e=>?_,S.len,λi d hi e=>?_,λi hi=>?_,S.dis,S.ah,S.ar.trans same,λa h=>?_,S.ad,S.ao,S.ap⟩
 .by_cases ha:a=l
  .subst ha;rw[cA]at e;rw[hH,e]
  .rw[aX ha]at e;exact S.sub a o e
 .let⟨v,h1,h2⟩:=S.env i d hi e;exact⟨v,h1,h2.mono same⟩
 .let⟨k,ws,ds,h1,h2,h3,h4,h5⟩:=S.own i hi;refine⟨k,ws,ds,h1,h2,h3,?_,h5.mono same⟩;rw[aX (λz=>hn i hi (by rw[<-z];exact h2))];exact h4
 .by_cases ha:a=l
  .subst ha;exact .inr (.inl h0)
  .rw[aX ha]at h;exact S.an a h
def StR.new0{J:St}{H R:Hp}{M:az}{l:Addr}(S:StR K Z O J H R M)(h:H l=none):Z.H0 l=none:=by
 cases q:Z.H0 l with
 |none=>rfl
 |some o=>exact absurd h (S.ad l (by rw[q];exact λz=>nomatch z)).1
def Stp.know{J:St}{H R H' R':Hp}{l:Addr}{o:HO}(x:Stp O J H R H' R')(h:H l=none)(hr:R' l=none):Stp O J H R H' (aM R' l o):=by
 refine⟨x.r.trans (Same.new hr),x.h,λb e=>?_,x.d⟩;by_cases hb:b=l
 .subst hb;exact .inr (.inl h)
 .rw[aX hb]at e;exact x.n b e
def MN.me{f:aV}(h:MN K O t f):ME K O t (bZ f λds=>ae (.lst ds)):=λZ J H R M d M' Q S e k=>by let⟨ds,M1,e1,e2⟩:=bP e;cases e2;refine h Z J H R M ds _ Q S e1 λl vs H' R' S' st h0 hH hR r=>?_;refine k _ H' (aM R' l (.lst vs)) (S'.know (S.new0 h0) hH hR ?_) (st.know h0 hR) (.lst (SqL.of cA) (r.mono (Same.new hR)));exact S.notnew h0
def aK{i:Nat}(hi:i∉O:=by decide):ME K O (dJ i) (aa i):=λZ J H R M d M' Q S e k=>by obtain⟨e1,rfl⟩:=zS e;let⟨v,h1,h2⟩:=S.env i d hi e1;exact⟨v,h1,k v H R S (Stp.refl _ _ _ _) h2⟩
def iY{i:Nat}:MB K O (dJ i) (aa i):=λZ J H R M d M' Q S e k=>by
 obtain⟨e1,rfl⟩:=zS e;by_cases hi:i∈O
 .let⟨l,vs,ds,h1,h2,h3,h4,h5⟩:=S.own i hi;rw[e1]at h1
  (first|obtain rfl:=h1.isA rfl|cases h1)
  exact⟨.ref l,h2,k _ H R S (Stp.refl _ _ _ _) ((h5.mono S.same).rp h3)⟩
 .let⟨v,h1,h2⟩:=S.env i d hi e1;exact⟨v,h1,k v H R S (Stp.refl _ _ _ _) (h2.mono S.same)⟩
def lS{v:V}{d:D}(h:Sc v d):ME K O (tC v) (ae d):=λZ J H R M e M' Q S q k=>by
 (first|obtain rfl:=q.isA rfl|cases q)
 exact k v H R S (Stp.refl _ _ _ _) h.rp
def me_int{i:Int}:ME K O (tC (.int i)) (ae (.int i)):=lS (.int i)
def tZ{x:Str}:ME K O (tC (.str x)) (ae (.str x)):=lS (.str x)
def Do{b:Bool}:ME K O (tC (.bl b)) (ae (.bl b)):=lS (.bl b)
def me_non:ME K O (tC .non) (ae .non):=lS .non
def af(g:D->D->Option D)(fa fb:aF):aF:=bZ fa λx=>bZ fb λy=>dy (g x y)
def OpS(K:am)(r:R2)(g:D->D->Option D):Prop:=∀(H:Hp) (x y:V) (d e u:D) (Q:VK),Rp K H x d->Rp K H y e->g d e=some u->(∀v,Sc v u->Q v H)->r x y H Q
def gY(K:am)(r:R2)(g:D->D->Option D):Prop:=∀(H R:Hp) (x y:V) (d e u:D) (Q:VK),(∀a o,R a=some o->H a=some o)->Rp K R x d->Rp K R y e->g d e=some u->(∀v H' R',Ext H R H' R'->Rp K R' v u->Q v H')->r x y H Q
def OpS.g{r:R2}{g:D->D->Option D}(h:OpS K r g):gY K r g:=λH R x y d e u Q s rx ry q k=>
 h H x y d e u Q (rx.mono s) (ry.mono s) q λv z=>k v H R (Ext.refl s) z.rp
def eK{r:R2}{g:D->D->Option D}{fa fb:aF}(h:gY K r g)(ha:ME K O ta fa)(hb:ME K O tb fb):ME K O (jO r ta tb) (af g fa fb):=λZ J H R M d M' Q S e k=>by let⟨x,M1,e1,e⟩:=bP e;let⟨y,M2,e2,e⟩:=bP e;obtain⟨e3,rfl⟩:=c7 e;refine ha Z J H R M x M1 _ S e1 λv H1 R1 S1 st1 r1=>hb Z J H1 R1 M1 y _ _ S1 e2 λw H2 R2 S2 st2 r2=>?_;exact h H2 R2 v w x y d Q S2.sub (r1.mono st2.r) r2 e3 λz H3 R3 x3 r3=>k z H3 R3 (S2.ext x3) ((st1.trans st2).trans x3.stp) r3
def mz{r:R2}{g:D->D->Option D}{fa fb:aF}(h:OpS K r g)(ha:ME K O ta fa)(hb:MB K O tb fb):ME K O (jO r ta tb) (af g fa fb):=λZ J H R M d M' Q S e k=>by let⟨x,M1,e1,e⟩:=bP e;let⟨y,M2,e2,e⟩:=bP e;obtain⟨e3,rfl⟩:=c7 e;refine ha Z J H R M x M1 _ S e1 λv H1 R1 S1 st1 r1=>hb Z J H1 R1 M1 y _ _ S1 e2 λw H2 R2 S2 st2 r2=>?_;exact h H2 v w x y d Q ((r1.mono st2.r).mono S2.same) r2 e3 λz q=>k z H2 R2 S2 (st1.trans st2) q.rp
def iQ(i:Nat)(fb:aF):aF:=bZ fb λy=>bZ (aa i) λx=>dy (match x,y with
 |.lst xs,.int j=>cc xs j
 |_,_=>none)
def yD{R:Hp}{xs:List V}{ds:List D}{i:Int}{d:D}(r:Rps K R xs ds)(h:cc ds i=some d):∃v,cc xs i=some v/\Rp K R v d:=by
 unfold cc at h ⊢;rw[r.length];cases e:fM ds.length i with
 |none=>rw[e]at h;cases h
 | some j=>
  rw[e]at h;exact r.get h
def xH{i:Nat}{fb:aF}(hi:i∈O)(hb:ME K O tb fb):ME K O (jO (pR K) (dJ i) tb) (iQ i fb):=λZ J H R M d M' Q S e k=>by
 let⟨y,M1,e1,e⟩:=bP e;let⟨x,M2,e2,e⟩:=bP e;obtain⟨e3,rfl⟩:=c7 e;obtain⟨e4,rfl⟩:=zS e2;let⟨l,vs,ds,h1,h2,h3,_⟩:=S.own i hi;refine⟨.ref l,h2,hb Z J H R M y _ _ S e1 λw H1 R1 S1 st1 r1=>?_⟩;let⟨l',vs',ds',g1,g2,g3,g4,g5⟩:=S1.own i hi;rw[h2]at g2;cases g2;rw[e4]at g1;cases g1;split at e3
 .obtain rfl:=r1.isA rfl;obtain⟨us,rfl,q5⟩:=g5.isL;let⟨v,q1,q2⟩:=yD q5 e3;exact .inl ⟨l,_,_,v,rfl,rfl,SqL.of g3,q1,k v H1 R1 S1 st1 q2⟩
 .cases e3
def bA:D->D->Option D
 |.lst xs,.int i=>cc xs i
 |.tup xs,.int i=>cc xs i
 |.str z,.int i=>if z.length<=sizeLine then(cc z.cps.toList i).map λc=>.str ⟨#[c]⟩else none
 |_,_=>none
def i7:gY K (pR K) bA:=λH R x y d e u Q s rx ry q k=>by
 unfold bA at q;split at q
 .rename_i xs i
  (first|obtain rfl:=ry.isA rfl|cases ry)
  obtain⟨_,_,rfl,h,r⟩:=rx.isL;let⟨v,q1,q2⟩:=yD r q;exact .inl ⟨_,_,i,v,rfl,rfl,Same.sqL s h,q1,k v H R (Ext.refl s) q2⟩
 .rename_i xs i
  (first|obtain rfl:=ry.isA rfl|cases ry)
  obtain⟨_,_,rfl,h,r⟩:=rx.isT;let⟨v,q1,q2⟩:=yD r q;exact .inr (.inl ⟨_,_,i,v,rfl,rfl,SqT.of (s _ _ h),q1,k v H R (Ext.refl s) q2⟩)
 .rename_i z i
  (first|obtain rfl:=ry.isA rfl|cases ry)
  (first|obtain rfl:=rx.isA rfl|cases rx)
  split at q
  .rename_i hz;cases e':cc z.cps.toList i with
   |none=>rw[e']at q;cases q
   | some c=>
    rw[e']at q
    (first|obtain rfl:=q.isA rfl|cases q)
    exact .inr (.inr ⟨z,i,c,rfl,rfl,hz,e',k _ H R (Ext.refl s) (.str _)⟩)
  ·(first|obtain rfl:=q.isA rfl|cases q)
 ·(first|obtain rfl:=q.isA rfl|cases q)
noncomputable def lJ(C:Int->Int->Bool)(g:Int->Int->Int):D->D->Option D
 |.int i,.int j=>if C i j=true then some (.int (g i j))else none
 |_,_=>none
def lQ{C:Int->Int->Bool}{P:Int->Int->Prop}{g:Int->Int->Int}(hc:∀i j,C i j=true->P i j):gY K (rI P λi j=>.int (g i j)) (lJ C g):=λH R x y d e u Q s rx ry q k=>by
 unfold lJ at q;split at q
 .rename_i i j;split at q
  .rename_i h
   (first|obtain rfl:=q.isA rfl|cases q)
   (first|obtain rfl:=rx.isA rfl|cases rx)
   (first|obtain rfl:=ry.isA rfl|cases ry)
   exact⟨i,j,rfl,rfl,hc i j h,k _ H R (Ext.refl s) (.int _)⟩
  ·(first|obtain rfl:=q.isA rfl|cases q)
 ·(first|obtain rfl:=q.isA rfl|cases q)
noncomputable def pI(g:Int->Int->Int):D->D->Option D
 |.int i,.int j=>some (.int (g i j))
 |_,_=>none
def wA{g:Int->Int->Int}:gY K (gM λi j=>.int (g i j)) (pI g):=λH R x y d e u Q s rx ry q k=>by
 unfold pI at q;split at q
 .rename_i i j
  (first|obtain rfl:=q.isA rfl|cases q)
  (first|obtain rfl:=rx.isA rfl|cases rx)
  (first|obtain rfl:=ry.isA rfl|cases ry)
  exact⟨i,j,rfl,rfl,k _ H R (Ext.refl s) (.int _)⟩
 ·(first|obtain rfl:=q.isA rfl|cases q)
noncomputable def pJ(g:Int->Int->Bool):D->D->Option D
 |.int i,.int j=>some (.bl (g i j))
 |_,_=>none
end
section
variable{K:am}{Z:Anc}{O:Zg}{t ta tb tc:TE}{tA tB':TT}{tr:TA}{fa fb fc:aF}{ga gb:eI}{fs:aV}
def bq(f:aF):eI:=bZ f λd=>dy (match d with
 |.bl b=>some b
 |_=>none)
def ni(h:ME K O t fa):MT K O (D4 t) (bq fa):=λZ J H R M b M' Q S e k=>by
 let⟨d,M1,e1,e⟩:=bP e;obtain⟨e2,rfl⟩:=c7 e;refine h Z J H R M d _ _ S e1 λv H' R' S' st r=>?_
 (first|split at e2)
 .obtain rfl:=r.isA rfl;cases e2;exact⟨_,rfl,k H' R' S' st⟩
 .cases e2
def o8(h:ME K O t fa):MT K O (tB t) (bq fa):=λZ J H R M b M' Q S e k=>by
 let⟨d,M1,e1,e⟩:=bP e;obtain⟨e2,rfl⟩:=c7 e;refine h Z J H R M d _ _ S e1 λv H' R' S' st r=>?_
 (first|split at e2)
 .obtain rfl:=r.isA rfl;cases e2;exact⟨_,rfl,k H' R' S' st⟩
 .cases e2
def e8(f:eI):eI:=bZ f λb=>ae (!b)
def qt(h:MT K O tA ga):MT K O (rj tA) (e8 ga):=λZ J H R M b M' Q S e k=>by let⟨c,M1,e1,e⟩:=bP e;cases e;exact h Z J H R M c _ _ S e1 λH' R' S' st=>k H' R' S' st
def lV(f g:eI):eI:=bZ f λb=>if b=true then g else ae false
def fq(f g:eI):eI:=bZ f λb=>if b=true then ae true else g
def quy(h:MT K O tA ga)(h2:MT K O tB' gb):MT K O (rm tA tB') (lV ga gb):=λZ J H R M b M' Q S e k=>by
 let⟨c,M1,e1,e⟩:=bP e;refine h Z J H R M c _ _ S e1 λH' R' S' st=>?_;cases c with
 |true=>exact fW (h2 Z J H' R' M1 b M' Q S' e λH2 R2 S2 st2=>k H2 R2 S2 (st.trans st2))
 |false=>cases e;exact fX (k H' R' S' st)
def tF(h:MT K O tA ga)(h2:MT K O tB' gb):MT K O (C7 tA tB') (fq ga gb):=λZ J H R M b M' Q S e k=>by
 let⟨c,M1,e1,e⟩:=bP e;refine h Z J H R M c _ _ S e1 λH' R' S' st=>?_;cases c with
 |true=>cases e;exact fW (k H' R' S' st)
 |false=>exact fX (h2 Z J H' R' M1 b M' Q S' e λH2 R2 S2 st2=>k H2 R2 S2 (st.trans st2))
def qk(f g:aF):aF:=bZ (bq f) λb=>if b=true then g else ae (.bl false)
def tD(f:aF):aF:=bZ (bq f) λb=>ae (.bl (!b))
def ED(h:ME K O ta fa)(h2:ME K O tb fb):ME K O (DT ta tb) (qk fa fb):=λZ J H R M d M' Q S e k=>by
 let⟨c,M1,e1,e⟩:=bP e;let⟨x,M2,e1,e2⟩:=bP e1;obtain⟨e2,rfl⟩:=c7 e2;refine h Z J H R M x _ _ S e1 λv H' R' S' st r=>?_
 (first|split at e2)
 .obtain rfl:=r.isA rfl;cases e2;refine⟨_,rfl,?_⟩;cases c with
  |true=>exact fW (h2 Z J H' R' _ d M' Q S' e λv H2 R2 S2 st2 r2=>k v H2 R2 S2 (st.trans st2) r2)
  |false=>cases e;exact fX (k _ H' R' S' st (.bl false))
 .cases e2
def qv9(h:ME K O ta fa):ME K O (D3 ta) (tD fa):=λZ J H R M d M' Q S e k=>by
 let⟨c,M1,e1,e⟩:=bP e;let⟨x,M2,e1,e2⟩:=bP e1;obtain⟨e2,rfl⟩:=c7 e2;refine h Z J H R M x _ _ S e1 λv H' R' S' st r=>?_
 (first|split at e2)
 .obtain rfl:=r.isA rfl;cases e2;cases e;exact⟨_,rfl,k _ H' R' S' st (.bl _)⟩
 .cases e2
def jD(f:eI)(g h:aF):aF:=bZ f λb=>if b=true then g else h
def wu(h:MT K O tA ga)(h1:ME K O ta fa)(h2:ME K O tb fb):ME K O (wl tA ta tb) (jD ga fa fb):=λZ J H R M d M' Q S e k=>by
 let⟨c,M1,e1,e⟩:=bP e;refine h Z J H R M c _ _ S e1 λH' R' S' st=>?_;cases c with
 |true=>exact fW (h1 Z J H' R' M1 d M' Q S' e λv H2 R2 S2 st2 r2=>k v H2 R2 S2 (st.trans st2) r2)
 |false=>exact fX (h2 Z J H' R' M1 d M' Q S' e λv H2 R2 S2 st2 r2=>k v H2 R2 S2 (st.trans st2) r2)
def ag:aV:=ae []
def aj(f:aF)(g:aV):aV:=bZ f λx=>bZ g λxs=>ae (x::xs)
def bh:MA K O fy ag:=λZ J H R M ds M' Q S e k=>by cases e;exact k [] H R S (Stp.refl _ _ _ _) .nil
def aD(h:ME K O t fa)(h2:MA K O tr fs):MA K O (i8 t tr) (aj fa fs):=λZ J H R M ds M' Q S e k=>by let⟨x,M1,e1,e⟩:=bP e;let⟨xs,M2,e2,e⟩:=bP e;cases e;refine h Z J H R M x _ _ S e1 λv H1 R1 S1 st1 r1=>h2 Z J H1 R1 M1 xs _ _ S1 e2 λvs H2 R2 S2 st2 r2=>?_;exact k (v::vs) H2 R2 S2 (st1.trans st2) (.cons (r1.mono st2.r) r2)
def bW(f:aV):aF:=bZ f λxs=>dy (if xs.length<=sizeLine then some (.tup xs)else none)
def m7(h:MA K O tr fs):ME K O (rh tr) (bW fs):=λZ J H R M d M' Q S e k=>by
 let⟨xs,M1,e1,e⟩:=bP e;obtain⟨e2,rfl⟩:=c7 e;refine h Z J H R M xs _ _ S e1 λvs H1 R1 S1 st1 r1=>?_;split at e2
 .rename_i hz;cases e2;refine⟨by rw[r1.length];exact hz,λp np=>?_⟩;have x:=Ext.new (o:=.tup vs) S1.sub np;exact k _ _ _ (S1.ext x) (st1.trans x.stp) (.tup cA (r1.mono x.r))
 .cases e2
def aT(f:aV):aV:=bZ f λxs=>dy (if xs.length<=sizeLine then some xs else none)
def StR.out{J:St}{H R:Hp}{M:az}{l:Addr}(S:StR K Z O J H R M)(h:H l=none):R l=none:=by
 cases q:R l with
 |none=>rfl
 |some o=>rw[S.sub l o q]at h;cases h
def Stp.new{J:St}{H R H' R':Hp}{l:Addr}(x:Stp O J H R H' R')(h:H' l=none):H l=none:=by
 cases q:H l with
 |none=>rfl
 |some o=>exact absurd h (x.d l (by rw[q];exact λz=>nomatch z)).1
def iZ(h:MA K O tr fs):MN K O (nG tr) (aT fs):=λZ J H R M ds M' Q S e k=>by
 let⟨xs,M1,e1,e⟩:=bP e;obtain⟨e2,rfl⟩:=c7 e;refine h Z J H R M xs _ _ S e1 λvs H1 R1 S1 st1 r1=>?_;split at e2
 .rename_i hz;cases e2;refine⟨by rw[r1.length];exact hz,λp np=>?_⟩;have x:=Ext.hid (o:=.lst vs) S1.sub np;exact k p vs _ _ (S1.ext x) (st1.trans x.stp) (st1.new np) cA (S1.out np) r1
 .cases e2
def oS(K:am)(r:List V->Hp->VK->Prop)(g:D->Option D):Prop:=∀(H:Hp) (x:V) (d u:D) (Q:VK),Rp K H x d->g d=some u->(∀v,Sc v u->Q v H)->r [x] H Q
def aO(g:D->Option D)(f:aF):aF:=bZ f λx=>dy (g x)
def i0{r:List V->Hp->VK->Prop}{g:D->Option D}(h:oS K r g)(ha:MB K O t fa):ME K O (kF r (i8 t fy)) (aO g fa):=λZ J H R M d M' Q S e k=>by let⟨x,M1,e1,e⟩:=bP e;obtain⟨e2,rfl⟩:=c7 e;refine ha Z J H R M x _ _ S e1 λv H1 R1 S1 st1 r1=>?_;exact h H1 v x d Q r1 e2 λw z=>k w H1 R1 S1 st1 z.rp
noncomputable def cr:D->Option D
 |.lst xs=>some (.int xs.length)
 |.tup xs=>some (.int xs.length)
 |_=>none
def mY:oS K (λxs H Q=>∃p ys,xs=[.ref p]/\(SqL K H p ys∨SqT K H p ys)/\Q (.int ys.length) H) cr:=λH x d u Q r e k=>by
 (first|split at e|(unfold cr at e;split at e))
 .obtain⟨_,_,rfl,h,q⟩:=r.isL;cases e;refine⟨_,_,rfl,.inl h,?_⟩;rw[q.length];exact k _ (.int _)
 .obtain⟨_,_,rfl,h,q⟩:=r.isT;cases e;refine⟨_,_,rfl,.inr (SqT.of h),?_⟩;rw[q.length];exact k _ (.int _)
 .cases e
noncomputable def hJ:D->Option D
 |.int i=>some (.int i)
 |.bl b=>some (.int (if b then 1 else 0))
 |_=>none
def Ei:oS K (λxs H Q=>(∃i,xs=[.int i]/\Q (.int i) H)∨∃k,xs=[.bl k]/\Q (.int (if k then 1 else 0)) H) hJ:=λH x d u Q r e k=>by
 (first|split at e|(unfold hJ at e;split at e))
 .rename_i i;obtain rfl:=r.isA rfl;cases e;exact .inl ⟨i,rfl,k _ (.int _)⟩
 .rename_i b;obtain rfl:=r.isA rfl;cases e;exact .inr ⟨b,rfl,k _ (.int _)⟩
 .cases e
noncomputable def eB:List D->Option (List Int)
 |[]=>some []
 |.int i::r=>(eB r).map (i:: ·)
 |_=>none
noncomputable def i9:List D->Option (List Bool)
 |[]=>some []
 |.bl i::r=>(i9 r).map (i:: ·)
 |_=>none
def pE{R:Hp}:∀{xs:List V} {ds:List D} {ns:Zf},Rps K R xs ds->eB ds=some ns->xs=ns.map V.int
 :=by
 intro xs ds ns r;induction r using Rps.ind generalizing ns with
 |n=>intro e;cases e;rfl
 | c h _ ih=>
  intro e;cases h with
  | int i=>
   unfold eB at e;cases q:eB _ with
   |none=>rw[q]at e;cases e
   |some ms=>rw[q]at e;cases e;rw[ih q];rfl
  |_=>cases e
def qer{R:Hp}:∀{xs:List V} {ds:List D} {ns:List Bool},Rps K R xs ds->i9 ds=some ns->xs=ns.map V.bl
 :=by
 intro xs ds ns r;induction r using Rps.ind generalizing ns with
 |n=>intro e;cases e;rfl
 | c h _ ih=>
  intro e;cases h with
  | bl i=>
   unfold i9 at e;cases q:i9 _ with
   |none=>rw[q]at e;cases e
   |some ms=>rw[q]at e;cases e;rw[ih q];rfl
  |_=>cases e
theorem jX:∀ns:List Int,eB (ns.map D.int)=some ns
 |[]=>rfl
 |n::ns=>by rw[x5,eB,jX ns];rfl
theorem Hx:∀ns:List Bool,i9 (ns.map D.bl)=some ns
 |[]=>rfl
 |n::ns=>by rw[x5,i9,Hx ns];rfl
def jF:D->Option D
 |.lst xs=>(eB xs).map λns=>.int ns.sum
 |_=>none
def xC:oS K (λxs H Q=>∃(p:Addr) (ns:Zf),xs=[.ref p]/\SqL K H p (ns.map V.int)/\Q (.int ns.sum) H) jF:=λH x d u Q r e k=>by
 cases r with
 | lst h q=>
  rename_i ds;have e':(eB ds).map (λns=>D.int ns.sum)=some u:=e;cases z:eB ds with
  |none=>rw[z]at e';cases e'
  | some ns=>
   rw[z]at e';cases e';have ex:=pE q z;subst ex;exact⟨_,ns,rfl,h,k _ (.int _)⟩
 |_=>cases e
def lZ:D->Option D
 |.lst xs=>(i9 xs).map λbs=>.bl (bs.all id)
 |_=>none
def Eg:oS K (λxs H Q=>∃(p:Addr) (bs:List Bool),xs=[.ref p]/\SqL K H p (bs.map V.bl)/\Q (.bl (bs.all id)) H) lZ:=λH x d u Q r e k=>by
 cases r with
 | lst h q=>
  rename_i ds;have e':(i9 ds).map (λbs=>D.bl (bs.all id))=some u:=e;cases z:i9 ds with
  |none=>rw[z]at e';cases e'
  | some ns=>
   rw[z]at e';cases e';have ex:=qer q z;subst ex;exact⟨_,ns,rfl,h,k _ (.bl _)⟩
 |_=>cases e
end
def ItOk(K:am)(σ:It)(R:Hp)(ds:List D):Prop:=∀(H' R':Hp),Same R R'->(∀a o,R' a=some o->H' a=some o)->∀i:Nat,(i=ds.length->σ.stop i H')/\∀d,ds[i]? =some d->σ.go i H'/\∀x H'',σ.yld i H' x H''->∃R'',Ext H' R' H'' R''/\Rp K R'' x d
def ItOk.mono{K:am}{σ:It}{R R1:Hp}{ds:List D}(h:ItOk K σ R ds)(s:Same R R1):ItOk K σ R1 ds:=λH' R' s' b=>h H' R' (s.trans s') b
def MI(K:am)(O:Zg)(wi:TI)(f:aV):Prop:=∀(Z:Anc) (J:St) (H R:Hp) (M:az) (ds:List D) (M':az) (Q:It->Hp->Prop),StR K Z O J H R M->f M=some (ds,M')->(∀σ H' R',StR K Z O J H' R' M'->Stp O J H R H' R'->ItOk K σ R' ds->Q σ H')->wi J H Q
def rZ(K:am)(tl:TE):TI:=λJ H R=>wt K tl J H R∨oa K tl J H R
def fw{X:Cx}{K:am}{tg l:Expr}{tl:TE}(h:X.K=K)(hl:PE X l tl):PI X tg l (rZ K tl):=λz5 s J H R I q=>by
 rcases q with q|q
 .exact qk8 h hl z5 s J H R I q
 .exact qoq h hl z5 s J H R I q
def br(f:aF):aV:=bZ f λd=>dy (match d with
 |.lst xs=>some xs
 |.tup xs=>some xs
 |_=>none)
section
variable{K:am}{O:Zg}{t:TE}{tr:TA}{fa:aF}{fs:aV}
def qpy{R:Hp}{a:Addr}{xs:List V}{ds:List D}(h:SqL K R a xs)(r:Rps K R xs ds):ItOk K (AC K a) R ds:=λH' R' s b i=>by have q:=Same.sqL b (Same.sqL s h);refine⟨λe=>⟨xs,q,by rw[r.length];lia⟩,λd e=>?_⟩;let⟨v,h1,h2⟩:=r.get e;refine⟨⟨xs,v,q,h1⟩,λx H'' y=>?_⟩;obtain⟨rfl,y⟩:=y;have ex:=y xs q;rw[h1]at ex;cases ex;exact⟨R',Ext.refl b,h2.mono s⟩
def qvy{R:Hp}{a:Addr}{xs:List V}{ds:List D}(h:SqT K R a xs)(r:Rps K R xs ds):ItOk K (AB K a) R ds:=λH' R' s b i=>by have q:=Same.tup b (Same.tup s h);refine⟨λe=>⟨xs,q,by rw[r.length];lia⟩,λd e=>?_⟩;let⟨v,h1,h2⟩:=r.get e;refine⟨⟨xs,v,q,h1⟩,λx H'' y=>?_⟩;obtain⟨rfl,y⟩:=y;have ex:=y xs q;rw[h1]at ex;cases ex;exact⟨R',Ext.refl b,h2.mono s⟩
def kP(h:ME K O t fa):MI K O (rZ K t) (br fa):=λZ J H R M ds M' Q S e k=>by
 let⟨d,M1,e1,e⟩:=bP e;obtain⟨e2,rfl⟩:=c7 e;cases d with
 | lst xs=>
  cases e2;refine .inl (h Z J H R M _ _ _ S e1 λv H1 R1 S1 st1 r1=>?_);obtain⟨_,_,rfl,q,r⟩:=r1.isL;exact⟨_,rfl,⟨_,Same.sqL S1.same q⟩,k _ H1 R1 S1 st1 (qpy q r)⟩
 | tup xs=>
  cases e2;refine .inr (h Z J H R M _ _ _ S e1 λv H1 R1 S1 st1 r1=>?_);obtain⟨_,_,rfl,q,r⟩:=r1.isT;exact⟨_,rfl,⟨_,SqT.of (S1.same _ _ q)⟩,k _ H1 R1 S1 st1 (qvy (SqT.of q) r)⟩
 |_=>cases e2
noncomputable def de(lo:Int)(n:Nat):List D:=(List.range n).map λ(k:Nat)=>D.int (lo+(k:Int))
def ql2{R:Hp}(lo:Int)(n:Nat):ItOk K (u6 lo n) R (de lo n):=λH' R' s b i=>by
 have len:(de lo n).length=n:=by simp[de]
 refine⟨λe=>by show n<=i;lia,λd e=>?_⟩;have hi:i<n:=by have:=(List.getElem?_eq_some_iff.mp e).1;lia
 have ed:d=D.int (lo+(i:Int)):=by unfold de at e;rw[jo,k9 hi]at e;exact(jm e).symm
 subst ed;refine⟨hi,λx H'' y=>?_⟩;obtain⟨rfl,rfl⟩:=y;exact⟨R',Ext.refl b,.int _⟩
noncomputable def e7(j:Int):Bool:=decide (-(2^62)<=j)&&decide (j<2^62)
def gQ(f:aV):aV:=bZ f λds=>dy (match ds with
 |[.int j]=>if e7 j=true then some (de 0 j.toNat)else none
 |_=>none)
def qP(h:MA K O tr fs):MI K O (Dk tr) (gQ fs):=λZ J H R M ds M' Q S e k=>by
 let⟨xs,M1,e1,e⟩:=bP e;obtain⟨e2,rfl⟩:=c7 e;split at e2
 .rename_i j;split at e2
  .rename_i hb;cases e2;refine h Z J H R M _ _ _ S e1 λvs H1 R1 S1 st1 r1=>?_;obtain⟨_,_,rfl,q,r⟩:=r1.isC
   (first|obtain rfl:=r.isA rfl|cases r)
   (first|obtain rfl:=q.isA rfl|cases q)
   unfold e7 at hb;rw[and_eq_true]at hb;exact⟨j,rfl,of_decide_eq_true hb.1,of_decide_eq_true hb.2,k _ H1 R1 S1 st1 (ql2 0 _)⟩
  .cases e2
 .cases e2
end
def MG(K:am)(O T:Zg)(g:TG)(f:eM):Prop:=∀(Z:Anc) (J:St) (H R:Hp) (M:az) (x:V) (d:D) (M':az) (Q:St->Hp->Prop),StR K Z O J H R M->Rp K R x d->f d M=some M'->(∀J',StR K Z O J' H R M'->(∀j,j∉T->J'[j]? =J[j]?)->Q J' H)->g x J H Q
def uZ(K:am)(O T:Zg)(g:kB)(f:List D->az->Option az):Prop:=∀(Z:Anc) (J:St) (H R:Hp) (M:az) (xs:List V) (ds:List D) (M':az) (Q:St->Hp->Prop),StR K Z O J H R M->Rps K R xs ds->f ds M=some M'->(∀J',StR K Z O J' H R M'->(∀j,j∉T->J'[j]? =J[j]?)->Q J' H)->g xs J H Q
noncomputable def ai(i:Nat):eM:=λd M=>some (M.set i (some d))
noncomputable def eF:List D->az->Option az:=λds M=>match ds with
 |[]=>some M
 |_=>none
noncomputable def cg(f:eM)(g:List D->az->Option az):List D->az->Option az:=λds M=>match ds with
 | d::r=>match f d M with
  |some M1=>g r M1
  |none=>none
 |[]=>none
noncomputable def dU(n:Nat)(f:List D->az->Option az):eM:=λd M=>match d with
 |.tup ds=>if ds.length=n then f ds M else none
 |_=>none
section
variable{K:am}{O T T':Zg}{g:TG}{gs:kB}{f:eM}{fs:List D->az->Option az}
def df{i:Nat}(hi:i∉O:=by decide):MG K O [i] (gE i) (ai i):=λZ J H R M x d M' Q S r e k=>by cases e;exact k _ (S.set hi r) λj hj=>jv (λ(z:i=j)=>hj (by rw[z];exact List.mem_singleton_self j))
def mH:uZ K O [] oh eF:=λZ J H R M xs ds M' Q S r e k=>by
 cases r with
 |nil=>cases e;exact⟨rfl,k J S λ_ _=>rfl⟩
 |cons _ _=>cases e
def gT(h:MG K O T g f)(h2:uZ K O T' gs fs):uZ K O (T++T') (tx g gs) (cg f fs):=λZ J H R M xs ds M' Q S r e k=>by
 cases r with
 |nil=>cases e
 | cons q r=>
  rename_i x xs d ds;unfold cg at e;cases e1:f d M with
  |none=>simp only[e1]at e;cases e
  | some M1=>
   simp only[e1]at e;refine⟨x,xs,rfl,h Z J H R M x d M1 _ S q e1 λJ1 S1 n1=>h2 Z J1 H R M1 xs ds M' _ S1 r e λJ2 S2 n2=>?_⟩;refine k J2 S2 λj hj=>?_;rw[List.mem_append,not_or]at hj;rw[n2 j hj.2,n1 j hj.1]
def mB{n:Nat}(h:uZ K O T gs fs):MG K O T (lX K n gs) (dU n fs):=λZ J H R M x d M' Q S r e k=>by
 cases r with
 | tup q rs=>
  unfold dU at e;simp only at e;split at e
  .rename_i hn;exact⟨_,_,rfl,SqT.of (S.same _ _ q),by rw[rs.length];exact hn,h Z J H R M _ _ M' Q S rs e k⟩
  .cases e
 |_=>cases e
end
noncomputable def hW(n:Nat)(js:Zg)(M:az):az:=replicate n none++js.map λj=>(M[j]?).join
noncomputable def fV:Option (Nat×Nat)->List Nat
 |none=>[]
 |some p=>[p.2]
noncomputable def gN(bw:Option (Nat×Nat))(M Mb:az):az:=match bw with
 |none=>M
 | some p=>match Mb[p.2]? with
  |some x=>M.set p.1 x
  |none=>M
noncomputable def f7(n:Nat)(js O:Zg)(bw:Option (Nat×Nat)):Bool:=match bw with
 |none=>js.all λj=>!O.contains j
 |some p=>O.contains p.1&&decide (n<=p.2)&&decide (js[p.2-n]? =some p.1)&&(List.range js.length).all λk=>decide (n+k=p.2)|| !O.contains (js.getD k 0)
noncomputable def cz(n:Nat)(js:Zg)(bw:Option (Nat×Nat))(fg:eM)(ft:eI)(fe:aF):List D->aV
 |[],M=>some ([],M)
 | d::r,M=>match fg d (hW n js M)with
  |none=>none
  | some M1=>match ft M1 with
   |none=>none
   |some (false,M2)=>cz n js bw fg ft fe r (gN bw M M2)
   | some (true,M2)=>match fe M2 with
    |none=>none
    | some (y,M3)=>match cz n js bw fg ft fe r (gN bw M M3)with
     |none=>none
     |some (ys,M4)=>some (y::ys,M4)
section
variable{K:am}{Z Z':Anc}{O:Zg}{J σ4:St}{H R H6 R6:Hp}{M M3:az}{n:Nat}{js:Zg}{bw:Option (Nat×Nat)}
def qiw:(hW n js M).length=n+js.length:=by simp[hW]
def qix{i:Nat}{d:D}(e:(hW n js M)[i]? =some (some d)):n<=i/\∃j,js[i-n]? =some j/\M[j]? =some (some d):=by
 unfold hW at e;by_cases h:i<n
 .rw[vc (by simpa using h),va,if_pos h]at e;cases e
 .refine⟨by lia,?_⟩;rw[kb (by simp;lia),x6,jo]at e;cases q:js[i-n]? with
  |none=>rw[q]at e;cases e
  | some j=>
   rw[q]at e;refine⟨j,rfl,?_⟩;have e':(M[j]?).join=some d:=jm e;cases z:M[j]? with
   |none=>rw[z]at e';cases e'
   |some o=>rw[z]at e';have:o=some d:=e';rw[this]
def qlr{i j:Nat}(h:n<=i)(e:js[i-n]? =some j){d:D}(q:M[j]? =some (some d)):(hW n js M)[i]? =some (some d):=by unfold hW;rw[kb (by simp;lia),x6,jo,e];show some ((M[j]?).join)=_;rw[q];rfl
def ue{i j:Nat}(h:n<=i)(e:js[i-n]? =some j){v:V}(q:J[j]? =some (some v)):(db n js J)[i]? =some (some v):=by unfold db;rw[kb (by simp;lia),x6,jo,e];show some ((J[j]?).join)=_;rw[q];rfl
def bwL(bw:Option (Nat×Nat))(J:St):Addr->Prop:=match bw with
 |none=>λ_=>False
 |some p=>λl=>J[p.1]? =some (some (.ref l))
def StR.block(S:StR K Z O J H R M)(hb:f7 n js O bw=true):StR K ⟨H,R,bwL bw J,fV bw⟩ (fV bw) (db n js J) H R (hW n js M):=by
 have noO:∀i j,n<=i->js[i-n]? =some j->i∉fV bw->j∉O:=λi j hi hj hn hO=>by
  cases bw with
  | none=>
   unfold f7 at hb;have z:=List.all_eq_true.mp hb j (kc hj);simp at z;exact z hO
  | some p=>
   unfold f7 at hb;simp only[and_eq_true]at hb;have hk:=(List.getElem?_eq_some_iff.mp hj).1;have z:=List.all_eq_true.mp hb.2 (i-n) (List.mem_range.mpr hk);have ej:js.getD (i-n) 0=j:=by rw[jl,hj];rfl
   rw[ej]at z;simp only[or_eq_true,decide_eq_true_eq]at z;rcases z with z|z
   .exact hn (by show i∈[p.2];rw[List.mem_singleton];lia)
   .simp at z;exact z hO
 have lG:∀p,bw=some p->p.1∈O/\n<=p.2/\js[p.2-n]? =some p.1:=λp e=>by subst e;unfold f7 at hb;simp only[and_eq_true,decide_eq_true_eq]at hb;exact⟨by simpa using hb.1.1.1,hb.1.1.2,hb.1.2⟩
 have only:∀i,i∈fV bw->∃p,bw=some p/\i=p.2:=λi hi=>by
  cases bw with
  |none=>exact absurd hi (by simp[fV])
  |some p=>exact⟨p,rfl,by simpa[fV]using hi⟩
 refine⟨S.sub,by rw[qiw,Gk],λi d hi e=>?_,λi hi=>?_,λi j hi hj hn=>?_,λa o e _=>e,Same.refl _,λa h=>.inl h,λa h=>.refl h,λi hi hp=>absurd hi hp,λi hi _ l e=>?_⟩
 .let⟨h1,j,h2,h3⟩:=qix e;let⟨v,q1,q2⟩:=S.env j d (noO i j h1 h2 hi) h3;exact⟨v,ue h1 h2 q1,q2⟩
 .obtain⟨p,rfl,rfl⟩:=only i hi;let⟨h1,h2,h3⟩:=lG p rfl;let⟨l,vs,ds,q1,q2,q3⟩:=S.own p.1 h1;exact⟨l,vs,ds,qlr h2 h3 q1,ue h2 h3 q2,q3⟩
 .obtain⟨p,rfl,rfl⟩:=only i hi;obtain⟨p',e,rfl⟩:=only j hj;cases e;exact absurd rfl hn
 .obtain⟨p,rfl,rfl⟩:=only i hi;let⟨h1,h2,h3⟩:=lG p rfl;let⟨l',vs,ds,q1,q2,q3⟩:=S.own p.1 h1;rw[ue h2 h3 q2]at e;cases e;exact q2
def StR.back(S:StR K Z O J H R M)(hb:f7 n js O bw=true)(Sb:StR K Z' (fV bw) σ4 H6 R6 M3)(st:Stp (fV bw) σ4 H R H6 R6)(hσ:∀p,bw=some p->σ4[p.2]? =J[p.1]?):
 StR K Z O J H6 R6 (gN bw M M3)/\Stp O J H R H6 R6:=by
 have lG:∀p,bw=some p->p.1∈O:=λp e=>by subst e;unfold f7 at hb;simp only[and_eq_true,decide_eq_true_eq]at hb;simpa using hb.1.1.1
 have only:∀i,i∈fV bw->∃p,bw=some p/\i=p.2:=λi hi=>by
  cases bw with
  |none=>exact absurd hi (by simp[fV])
  |some p=>exact⟨p,rfl,by simpa[fV]using hi⟩
 have st':Stp O J H R H6 R6:=⟨st.r,λa o e n=>st.h a o e λi hi z=>by obtain⟨p,e1,rfl⟩:=only i hi;rw[hσ p e1]at z;exact n p.1 (lG p e1) z,st.n,st.d⟩
 have keepH0:=λa o e n=>by
  refine st'.h a o (S.ah a o e n) λi hi z=>?_;by_cases hp:i∈Z.P
  .exact n (S.ap i hi hp a z)
  .rw[S.ao i hi hp a z]at e;cases e
 have len:(gN bw M M3).length=M.length:=by
  unfold gN;cases bw with
  |none=>rfl
  | some p=>
   dsimp only;split
   .rw[xn]
   .rfl
 have other:∀i,(∀p,bw=some p->p.1≠i)->(gN bw M M3)[i]? =M[i]? :=λi h=>by
  unfold gN;cases bw with
  |none=>rfl
  | some p=>
   dsimp only;split
   .rw[jv (h p rfl)]
   .rfl
 refine⟨⟨Sb.sub,by rw[len];exact S.len,λi d hi e=>?_,λi hi=>?_,S.dis,keepH0,S.ar.trans st.r,λa h=>?_,λa h=>(S.ad a h).trans (st.d a (S.ad a h).1),S.ao,S.ap⟩,st'⟩
 .rw[other i λp e1 z=>hi (z▸lG p e1)]at e;let⟨v,h1,h2⟩:=S.env i d hi e;exact⟨v,h1,h2.mono st.r⟩
 .by_cases hp:∃p,bw=some p/\p.1=i
  .obtain⟨p,rfl,rfl⟩:=hp;let⟨l,vs,ds,q1,q2,q3,q4,q5⟩:=Sb.own p.2 (by simp[fV]);rw[hσ p rfl]at q2;let⟨_,_,_,g1,_⟩:=S.own p.1 hi;have zd:p.1<M.length:=(List.getElem?_eq_some_iff.mp g1).1;refine⟨l,vs,ds,?_,q2,q3,q4,q5⟩;unfold gN;dsimp only;rw[q1];exact xl zd
  .have hne:∀p,bw=some p->p.1≠i:=λp e z=>hp ⟨p,e,z⟩;let⟨l,vs,ds,q1,q2,q3,q4,q5⟩:=S.own i hi;have nob:∀j,j∈fV bw->σ4[j]? ≠some (some (.ref l)):=λj hj z=>by
    obtain⟨p,e1,rfl⟩:=only j hj;rw[hσ p e1]at z;exact S.dis p.1 i (lG p e1) hi (hne p e1) l z q2
   refine⟨l,vs,ds,by rw[other i hne];exact q1,q2,st.h l _ q3 nob,?_,q5.mono st.r⟩;cases q:R6 l with
   |none=>rfl
   | some o=>
    rcases st.n l (by rw[q];exact λz=>nomatch z)with z|z
    .exact absurd q4 z
    .exact(q5.noF q3 z).elim
 .rcases st.n a h with z|z
  .exact S.an a z
  .exact .inr (z.back (S.ad a))
end
def qeo{K:am}{Z:Anc}{O T:Zg}{J:St}{H R:Hp}{M M':az}{n:Nat}{js:Zg}{bw:Option (Nat×Nat)}{g:TG}{tt:TT}{te:TE}{fg:eM}{ft:eI}{fe:aF}{σ:It}{ds ys:List D}{Fin:List V->Hp->Prop}
 (hb:f7 n js O bw=true) (hg:MG K (fV bw) T g fg) (hT:∀p,bw=some p->p.2∉T) (ht:MT K (fV bw) tt ft) (he:ME K (fV bw) te fe) (S:StR K Z O J H R M) (ok:ItOk K σ R ds) (e:cz n js bw fg ft fe ds M=some (ys,M')) (hz:ds.length<=sizeLine)
 (fin:∀vs H' R',StR K Z O J H' R' M'->Stp O J H R H' R'->Rps K R' vs ys->vs.length<=sizeLine->Fin vs H'):uR g tt te (db n js J) Fin σ H:=by
 refine⟨λi m vs H2=>m=ds.length-i/\i<=ds.length/\vs.length<=i/\∃R2 M2 ys1 ys2,StR K Z O J H2 R2 M2/\Stp O J H R H2 R2/\Rps K R2 vs ys1/\cz n js bw fg ft fe (ds.drop i) M2=some (ys2,M')/\ys1++ys2=ys,
  ⟨ds.length,by simp,zero_le _,zero_le _,R,M,[],ys,S,Stp.refl _ _ _ _,.nil,by rw[drop_zero];exact e,rfl⟩,?_⟩
 rintro i m vs H2 ⟨rfl,hi,hv,R2,M2,ys1,ys2,S2,st2,r2,e2,ey⟩;let⟨o1,o2⟩:=ok H2 R2 st2.r S2.sub i;by_cases hlt:i<ds.length
 .let⟨g1,g2⟩:=o2 ds[i] (jh hlt);rw[vf hlt]at e2;refine .inr ⟨g1,by lia,λvs' H'=>∃R' M2 ys1 ys2,vs'.length<=i+1/\StR K Z O J H' R' M2/\Stp O J H R H' R'/\Rps K R' vs' ys1/\cz n js bw fg ft fe (ds.drop (i+1)) M2=some (ys2,M')/\ys1++ys2=ys,?_,λx H3 y=>?_⟩
  .rintro vs' H' ⟨R',M3,mP,zs2,q0,q1,q2,q3,q4,q5⟩;exact⟨ds.length-(i+1),by lia,rfl,hlt,q0,R',M3,mP,zs2,q1,q2,q3,q4,q5⟩
  .let⟨R3,x3,r3⟩:=g2 x H3 y;have S3:=S2.ext x3;have B3:=S3.block hb;unfold cz at e2;cases e3:fg ds[i] (hW n js M2)with
   |none=>rw[e3]at e2;cases e2
   | some Mb1=>
    rw[e3]at e2;dsimp only at e2;refine hg _ _ _ _ _ x _ Mb1 _ B3 r3 e3 λσ4 S4 n4=>?_;have cap:∀p,bw=some p->σ4[p.2]? =J[p.1]? :=λp e1=>by rw[n4 p.2 (hT p e1)];subst e1;unfold f7 at hb;simp only[and_eq_true,decide_eq_true_eq]at hb;let⟨l,_,_,_,q2,_⟩:=S3.own p.1 (by simpa using hb.1.1.1);rw[ue hb.1.1.2 hb.1.2 q2,q2]
    cases e4:ft Mb1 with
    |none=>rw[e4]at e2;cases e2
    | some c=>
     obtain⟨b,Mb2⟩:=c;rw[e4]at e2;refine ht _ σ4 H3 R3 Mb1 b Mb2 _ S4 e4 λH5 R5 S5 st5=>?_;cases b with
     | false=>
      let⟨T1,T2⟩:=S3.back hb S5 st5 cap;exact fX ⟨R5,_,ys1,ys2,by lia,T1,(st2.trans x3.stp).trans T2,(r2.mono x3.r).mono st5.r,e2,ey⟩
     | true=>
      dsimp only at e2;cases e5:fe Mb2 with
      |none=>rw[e5]at e2;cases e2
      | some c=>
       obtain⟨y0,Mb3⟩:=c;rw[e5]at e2;dsimp only at e2;cases e6:cz n js bw fg ft fe (ds.drop (i+1)) (gN bw M2 Mb3)with
       |none=>rw[e6]at e2;cases e2
       | some c=>
        obtain⟨zs,M6⟩:=c;rw[e6]at e2;dsimp only at e2;cases e2;refine fW (he _ σ4 H5 R5 Mb2 y0 Mb3 _ S5 e5 λw H6 R6 S6 st6 r6=>?_);let⟨T1,T2⟩:=S3.back hb S6 (st5.trans st6) cap;refine⟨R6,_,ys1++[y0],zs,by rw[jt];show vs.length+1<=i+1;lia,T1,(st2.trans x3.stp).trans T2,(((r2.mono x3.r).mono st5.r).mono st6.r).snoc r6,e6,?_⟩;rw[<-ey,List.append_assoc];rfl
 .have ei:i=ds.length:=by lia
  subst ei;rw[drop_length]at e2;unfold cz at e2;cases e2;rw[append_nil]at ey;subst ey;exact .inl ⟨o1 rfl,by lia,fin vs H2 R2 S2 st2 r2 (by lia)⟩
def cy(n:Nat)(js:Zg)(bw:Option (Nat×Nat))(fi:aV)(fg:eM)(ft:eI)(fe:aF):aV:=bZ fi λds M=>if ds.length<=sizeLine then cz n js bw fg ft fe ds M else none
def jp{K:am}{O:Zg}:MT K O iL (ae true):=λZ J H R M b M' Q S e k=>by cases e;exact k H R S (Stp.refl _ _ _ _)
def iG{K:am}{O T:Zg}{n:Nat}{js:Zg}{bw:Option (Nat×Nat)}{wi:TI}{g:TG}{tt:TT}{te:TE}{fi:aV}{fg:eM}{ft:eI}{fe:aF}
 (hi:MI K O wi fi) (hg:MG K (fV bw) T g fg) (ht:MT K (fV bw) tt ft) (he:ME K (fV bw) te fe) (hb:f7 n js O bw=true:=by decide) (hT:∀p,bw=some p->p.2∉T:=by decide):MN K O (qe n js wi g tt te) (cy n js bw fi fg ft fe):=λZ J H R M ds M' Q S e k=>by
 let⟨xs,M1,e1,e⟩:=bP e;split at e
 .rename_i hz;refine hi Z J H R M xs M1 _ S e1 λσ H1 R1 S1 st1 ok=>?_;refine qeo hb hg hT ht he S1 ok e hz λvs H2 R2 S2 st2 r2 l2 D nD=>?_;have x:=Ext.hid (o:=.lst vs) S2.sub nD;exact k D vs _ _ (S2.ext x) ((st1.trans st2).trans x.stp) ((st1.trans st2).new nD) cA (S2.out nD) r2
 .cases e
inductive Out where
 |nx (M:az)
 |rt (d:D) (M:az)
 |bk (M:az)
 |ct (M:az)
abbrev aH:=az->Option Out
structure MC where
 K:PySem.W.Frag
 fr:Bool
 P:List Nat
 Ol:List Nat
def pK(K:am)(fr:Bool)(H:Hp)(v:V)(d:D)(H' R':Hp):Prop:=match fr with
 |false=>Rp K R' v d
 |true=>∃l vs ds,v=.ref l/\d=.lst ds/\H l=none/\H' l=some (.lst vs)/\R' l=none/\Rps K R' vs ds
def Ends.ok(c:MC)(Z:Anc)(O':Zg)(R:Hp)(E:Ends):Out->Prop
 |.nx M'=>∀J' H' R',StR c.K Z O' J' H' R' M'->Same R R'->E.nx J' H'
 |.bk M'=>∀J' H' R',StR c.K Z c.Ol J' H' R' M'->Same R R'->E.bk J' H'
 |.ct M'=>∀J' H' R',StR c.K Z c.Ol J' H' R' M'->Same R R'->E.ct J' H'
 |.rt d M'=>∀v J' H' R',StR c.K Z c.P J' H' R' M'->pK c.K c.fr Z.H0 v d H' R'->E.rt v H'
def MS(c:MC)(O O':Zg)(t:TS)(f:aH):Prop:=∀(Z:Anc) (E:Ends) (J:St) (H R:Hp) (M:az) (o:Out),Z.P=c.P->StR c.K Z O J H R M->f M=some o->E.ok c Z O' R o->t E J H
noncomputable def cT(c:MC)(O O':Zg):Bool:=O'.all (λi=>O.contains i)&&c.P.all λi=>!O.contains i||O'.contains i
section
variable{c:MC}{O O' O1:Zg}{t u:TS}{te:TE}{tt:TT}{g:TG}{f h:aH}{fe:aF}{fn:aV}{ft:eI}{fg:eM}
def StR.sub'{Z:Anc}{J:St}{H R:Hp}{M:az}(S:StR c.K Z O J H R M)(hP:Z.P=c.P)(hs:cT c O O'=true):StR c.K Z O' J H (dk O O' J H R) M/\Same R (dk O O' J H R):=by
 unfold cT at hs;simp only[and_eq_true,all_eq_true]at hs;refine S.freeze (λi hi=>by simpa using hs.1 i hi) λi hi hO=>?_;rw[hP]at hi;have z:=hs.2 i hi;simp only[or_eq_true]at z;rcases z with z|z
 .simp at z;exact absurd hO z
 .simpa using z
noncomputable def aZ:aH:=λM=>some (.nx M)
def fG(hs:cT c O O'=true):MS c O O' D2 aZ:=λZ E J H R M o hP S e k=>by cases e;let⟨S',s⟩:=S.sub' hP hs;exact k J H _ S' s
noncomputable def aq(f h:aH):aH:=λM=>match f M with
 |none=>none
 |some (.nx M1)=>h M1
 |some o=>some o
def aW(h1:MS c O O1 t f)(h2:MS c O1 O' u h):MS c O O' (lL t u) (aq f h):=λZ E J H R M o hP S e k=>by
 unfold aq at e;cases e1:f M with
 |none=>rw[e1]at e;cases e
 | some o1=>
  rw[e1]at e;cases o1 with
  | nx M1=>
   refine h1 Z _ J H R M _ hP S e1 λJ' H' R' S' s'=>?_;apply h2 Z E J' H' R' M1 o hP S' e;cases o with
   |nx M'=>exact λJ2 H2 R2 S2 s2=>k J2 H2 R2 S2 (s'.trans s2)
   |bk M'=>exact λJ2 H2 R2 S2 s2=>k J2 H2 R2 S2 (s'.trans s2)
   |ct M'=>exact λJ2 H2 R2 S2 s2=>k J2 H2 R2 S2 (s'.trans s2)
   |rt d M'=>exact k
  |bk M1=>cases e;exact h1 Z _ J H R M _ hP S e1 k
  |ct M1=>cases e;exact h1 Z _ J H R M _ hP S e1 k
  |rt d M1=>cases e;exact h1 Z _ J H R M _ hP S e1 k
noncomputable def aw(i:Nat)(fe:aF):aH:=λM=>match fe M with
 |none=>none
 |some (d,M1)=>some (.nx (M1.set i (some d)))
def cD{i:Nat}(he:ME c.K O te fe)(hs:cT c O O'=true:=by rfl)(hi:i∉O':=by decide):MS c O O' (fz te (gE i)) (aw i fe):=λZ E J H R M o hP S e k=>by
 unfold aw at e;cases e1:fe M with
 |none=>rw[e1]at e;cases e
 | some p=>
  obtain⟨d,M1⟩:=p;rw[e1]at e;cases e;refine he Z J H R M d M1 _ S e1 λv H1 R1 S1 st1 r1=>?_;let⟨S2,s2⟩:=S1.sub' hP hs;exact k _ H1 _ (S2.set hi (r1.mono s2)) (st1.r.trans s2)
noncomputable def cH(i:Nat)(fn:aV):aH:=λM=>match fn M with
 |none=>none
 |some (ds,M1)=>if i<M1.length then some (.nx (M1.set i (some (.lst ds))))else none
def lP(c:MC)(i:Nat)(O O':Zg):Bool:=cT c O (O'.filter λj=>decide (j≠i))&&O'.contains i&& !c.P.contains i
def jS{i:Nat}(he:MN c.K O te fn)(hs:lP c i O O'=true):MS c O O' (fz te (gE i)) (cH i fn):=λZ E J H R M o hP S e k=>by
 unfold cH at e;unfold lP at hs;simp only[and_eq_true]at hs;cases e1:fn M with
 |none=>rw[e1]at e;cases e
 | some p=>
  obtain⟨ds,M1⟩:=p;rw[e1]at e;dsimp only at e;split at e
  .rename_i zd;cases e;refine he Z J H R M ds M1 _ S e1 λl vs H1 R1 S1 st1 h0 hH hR r1=>?_;let⟨S2,s2⟩:=S1.sub' hP hs.1.1;have notown:=S.notnew h0;have hO':=λj hj=>by
    have z:=hs.1.1;unfold cT at z;simp only[and_eq_true,all_eq_true]at z;simpa using z.1 j hj
   refine k _ H1 _ (S2.take (by simp) (by simpa using hs.1.2) (λj hj=>?_) (by rw[hP];simpa using hs.2) zd (S.new0 h0) hH ?_ (λj hj=>notown j (hO' j hj)) (λj hj=>(List.mem_filter.mp hj).1) (.lst (r1.mono s2))) (st1.r.trans s2)
   .by_cases z:j=i
    .exact .inl z
    .exact .inr (List.mem_filter.mpr ⟨hj,by simpa using z⟩)
   .unfold dk;rw[if_neg ?_]
    .exact hR
    .rintro⟨j,hj,_,z⟩;exact notown j hj z
  .cases e
noncomputable def jE(fe:aF)(fg:eM):aH:=λM=>match fe M with
 |none=>none
 | some (d,M1)=>match fg d M1 with
  |none=>none
  |some M2=>some (.nx M2)
def qv0{T:Zg}(he:ME c.K O te fe)(hs:cT c O O'=true)(hg:MG c.K O' T g fg):MS c O O' (fz te g) (jE fe fg):=λZ E J H R M o hP S e k=>by
 unfold jE at e;cases e1:fe M with
 |none=>rw[e1]at e;cases e
 | some p=>
  obtain⟨d,M1⟩:=p;rw[e1]at e;dsimp only at e;cases e2:fg d M1 with
  |none=>rw[e2]at e;cases e
  | some M2=>
   rw[e2]at e;cases e;refine he Z J H R M d M1 _ S e1 λv H1 R1 S1 st1 r1=>?_;let⟨S2,s2⟩:=S1.sub' hP hs;exact hg Z J H1 _ M1 v d M2 _ S2 (r1.mono s2) e2 λJ' S3 _=>k J' H1 _ S3 (st1.r.trans s2)
noncomputable def cJ(ft:eI)(f h:aH):aH:=λM=>match ft M with
 |none=>none
 |some (b,M1)=>if b=true then f M1 else h M1
def fE(ht:MT c.K O tt ft)(h1:MS c O O' t f)(h2:MS c O O' u h):MS c O O' (rk tt t u) (cJ ft f h):=λZ E J H R M o hP S e k=>by
 unfold cJ at e;cases e1:ft M with
 |none=>rw[e1]at e;cases e
 | some p=>
  obtain⟨b,M1⟩:=p;rw[e1]at e;dsimp only at e;refine ht Z J H R M b M1 _ S e1 λH1 R1 S1 st1=>?_;have k':E.ok c Z O' R1 o:=by
   cases o with
   |nx M'=>exact λJ2 H2 R2 S2 s2=>k J2 H2 R2 S2 (st1.r.trans s2)
   |bk M'=>exact λJ2 H2 R2 S2 s2=>k J2 H2 R2 S2 (st1.r.trans s2)
   |ct M'=>exact λJ2 H2 R2 S2 s2=>k J2 H2 R2 S2 (st1.r.trans s2)
   |rt d M'=>exact k
  cases b with
  |true=>exact fW (h1 Z E J H1 R1 M1 o hP S1 e k')
  |false=>exact fX (h2 Z E J H1 R1 M1 o hP S1 e k')
noncomputable def aB(fe:aF):aH:=λM=>match fe M with
 |none=>none
 |some (d,M1)=>some (.rt d M1)
def b9(hf:c.fr=false)(he:ME c.K O te fe)(hs:cT c O c.P=true):MS c O O' (iM te) (aB fe):=λZ E J H R M o hP S e k=>by
 unfold aB at e;cases e1:fe M with
 |none=>rw[e1]at e;cases e
 | some p=>
  obtain⟨d,M1⟩:=p;rw[e1]at e;cases e;refine he Z J H R M d M1 _ S e1 λv H1 R1 S1 st1 r1=>?_;let⟨S2,s2⟩:=S1.sub' hP hs;apply k v J H1 _ S2;rw[hf];exact r1.mono s2
noncomputable def mr(fn:aV):aH:=λM=>match fn M with
 |none=>none
 |some (ds,M1)=>some (.rt (.lst ds) M1)
def yM(hf:c.fr=true)(he:MN c.K O te fn)(hs:cT c O c.P=true):MS c O O' (iM te) (mr fn):=λZ E J H R M o hP S e k=>by
 unfold mr at e;cases e1:fn M with
 |none=>rw[e1]at e;cases e
 | some p=>
  obtain⟨ds,M1⟩:=p;rw[e1]at e;cases e;refine he Z J H R M ds M1 _ S e1 λl vs H1 R1 S1 st1 h0 hH hR r1=>?_;let⟨S2,s2⟩:=S1.sub' hP hs;apply k _ J H1 _ S2;rw[hf];refine⟨l,vs,ds,rfl,rfl,S.new0 h0,hH,?_,r1.mono s2⟩;unfold dk;rw[if_neg ?_]
  .exact hR
  .rintro⟨j,hj,_,z⟩;exact S.notnew h0 j hj z
def StR.drop{K:am}{Z:Anc}{J:St}{H R:Hp}{M:az}{i:Nat}(S:StR K Z O J H R M)(hO:∀j,j∈O'->j∈O/\j≠i)(hc:∀j,j∈O->j≠i->j∈O'):StR K Z O' J H R (M.set i none):=by
 refine⟨S.sub,by rw[xn];exact S.len,λj d hj e=>?_,λj hj=>?_,λj k hj hk=>S.dis j k (hO j hj).1 (hO k hk).1,S.ah,S.ar,S.an,S.ad,λj hj=>S.ao j (hO j hj).1,λj hj=>S.ap j (hO j hj).1⟩
 .by_cases z:i=j
  .subst z;have hl:i<M.length:=by
    have:=(List.getElem?_eq_some_iff.mp e).1
    rwa [xn]at this
   rw[xl hl]at e;cases e
  .rw[jv z]at e;exact S.env j d (λq=>hj (hc j q (Ne.symm z))) e
 .let⟨l,vs,ds,h1,h2⟩:=S.own j (hO j hj).1;exact⟨l,vs,ds,by rw[jv (Ne.symm (hO j hj).2)];exact h1,h2⟩
noncomputable def kL(i:Nat):aH:=λM=>match M[i]? with
 |some (some (.lst xs))=>some (.rt (.lst xs) (M.set i none))
 |_=>none
def yN{i:Nat}(hf:c.fr=true)(hi:i∈O)(hs:cT c O (i::c.P)=true)(hp:i∉c.P):MS c O O' (iM (dJ i)) (kL i):=λZ E J H R M o hP S e k=>by
 let⟨S2,s2⟩:=S.sub' hP hs;let⟨l,vs,ds,h1,h2,h3,h4,h5⟩:=S2.own i jj;unfold kL at e;rw[h1]at e;have hd:∃xs,ds=.lst xs:=by
  cases h5 with
  |lst _=>exact⟨_,rfl⟩
  |_=>cases e
 obtain⟨xs,rfl⟩:=hd;cases e;refine⟨.ref l,h2,k _ J H _ (S2.drop (λj hj=>⟨ji _ hj,λz=>hp (z▸hj)⟩) λj hj n=>?_) ?_⟩
 .rcases List.mem_cons.mp hj with z|z
  .exact absurd z n
  .exact z
 .unfold pK;rw[hf];cases h5 with
  |lst h5=>exact⟨l,_,_,rfl,rfl,S2.ao i jj (by rw[hP];exact hp) l h2,h3,h4,h5⟩
def GF{O O':Zg}:MS c O O' Fb (λ_=>none):=λZ E J H R M o hP S e k=>by cases e
noncomputable def eL(fg:eM)(fb:aH):List D->aH
 |[],M=>some (.nx M)
 | d::r,M=>match fg d M with
  |none=>none
  | some M1=>match fb M1 with
   |none=>none
   |some (.nx M2)=>eL fg fb r M2
   |some (.ct M2)=>eL fg fb r M2
   |some (.bk M2)=>some (.nx M2)
   |some (.rt d M2)=>some (.rt d M2)
def bI(fi:aV)(fg:eM)(fb:aH):aH:=λM=>match fi M with
 |none=>none
 |some (ds,M1)=>eL fg fb ds M1
def iE{T:Zg}{wi:TI}{fi:aV}{tb:TS}{fb:aH}(hi:MI c.K O wi fi)(hs:cT c O O'=true)(hg:MG c.K O' T g fg)(hb:MS {c with Ol:=O'} O' O' tb fb):MS c O O' (nH wi g tb) (bI fi fg fb):=λZ E J H R M o hP S e k=>by
 unfold bI at e;cases e1:fi M with
 |none=>rw[e1]at e;cases e
 | some p=>
  obtain⟨ds,M1⟩:=p;rw[e1]at e;dsimp only at e;refine hi Z J H R M ds M1 _ S e1 λσ H1 R1 S1 st1 ok=>?_;let⟨S2,s2⟩:=S1.sub' hP hs;refine⟨λi m J' H'=>m=ds.length-i/\i<=ds.length/\∃R' M',StR c.K Z O' J' H' R' M'/\Same (dk O O' J H1 R1) R'/\eL fg fb (ds.drop i) M'=some o,⟨ds.length,by simp,zero_le _,_,M1,S2,Same.refl _,by rw[drop_zero];exact e⟩,?_⟩;rintro i m J' H' ⟨rfl,hi',R',M',S',s',e'⟩;let⟨o1,o2⟩:=(ok.mono s2) H' R' s' S'.sub i;by_cases hlt:i<ds.length
  .let⟨g1,g2⟩:=o2 ds[i] (jh hlt);rw[vf hlt]at e';refine .inr ⟨g1,λJ3 H3=>∃R3 M3,StR c.K Z O' J3 H3 R3 M3/\Same (dk O O' J H1 R1) R3/\eL fg fb (ds.drop (i+1)) M3=some o,?_,λx H3 y=>?_⟩
   .rintro J3 H3 ⟨R3,M3,q1,q2,q3⟩;exact⟨ds.length-(i+1),by lia,rfl,hlt,R3,M3,q1,q2,q3⟩
   .let⟨R3,x3,r3⟩:=g2 x H3 y;unfold eL at e';cases e3:fg ds[i] M' with
    |none=>rw[e3]at e';cases e'
    | some M4=>
     rw[e3]at e';dsimp only at e';refine hg Z J' H3 R3 M' x _ M4 _ (S'.ext x3) r3 e3 λσ4 S4 _=>?_;cases e4:fb M4 with
     |none=>rw[e4]at e';cases e'
     | some o4=>
           rw[e4]at e';refine hb Z _ σ4 H3 R3 M4 o4 hP S4 e4 ?_;cases o4 with
           |nx M5=>exact λσ5 H5 R5 S5 s5=>⟨R5,M5,S5,(s'.trans x3.r).trans s5,e'⟩
           |ct M5=>exact λσ5 H5 R5 S5 s5=>⟨R5,M5,S5,(s'.trans x3.r).trans s5,e'⟩
           | bk M5=>
            cases e';exact λσ5 H5 R5 S5 s5=>k σ5 H5 R5 S5 (((st1.r.trans s2).trans s').trans (x3.r.trans s5))
           | rt d M5=>
            cases e';exact k
  .have ei:i=ds.length:=by lia
   subst ei;rw[drop_length]at e';cases e';exact .inl ⟨o1 rfl,k J' H' R' S' ((st1.r.trans s2).trans s')⟩
noncomputable def il(ft:eI)(fb:aH):Nat->aH
 |0,_=>none
 | n+1,M=>match ft M with
  |none=>none
  |some (false,M1)=>some (.nx M1)
  | some (true,M1)=>match fb M1 with
   |none=>none
   |some (.nx M2)=>il ft fb n M2
   |some (.ct M2)=>il ft fb n M2
   |some (.bk M2)=>some (.nx M2)
   |some (.rt d M2)=>some (.rt d M2)
def GG{n:Nat}{tb:TS}{fb:aH}(ht:MT c.K O' tt ft)(hs:cT c O O'=true)(hb:MS {c with Ol:=O'} O' O' tb fb):MS c O O' (Fe tt tb) (il ft fb n):=λZ E J H R M o hP S e k=>by
 let⟨S2,s2⟩:=S.sub' hP hs;refine⟨λm J' H'=>∃R' M',StR c.K Z O' J' H' R' M'/\Same (dk O O' J H R) R'/\il ft fb m M'=some o,⟨n,_,M,S2,Same.refl _,e⟩,?_⟩;rintro m J' H' ⟨R',M',S',s',e'⟩;cases m with
 |zero=>cases e'
 | succ m=>
  unfold il at e';cases e1:ft M' with
  |none=>rw[e1]at e';cases e'
  | some p=>
   obtain⟨b,M1⟩:=p;rw[e1]at e';refine ht Z J' H' R' M' b M1 _ S' e1 λH1 R1 S1 st1=>?_;cases b with
   | false=>
    cases e';exact fX (k J' H1 R1 S1 ((s2.trans s').trans st1.r))
   | true=>
    dsimp only at e';refine fW ⟨λJ3 H3=>∃R3 M3,StR c.K Z O' J3 H3 R3 M3/\Same (dk O O' J H R) R3/\il ft fb m M3=some o,λJ3 H3 q=>⟨m,lt_succ_self _,q⟩,?_⟩;cases e4:fb M1 with
    |none=>rw[e4]at e';cases e'
    | some o4=>
     rw[e4]at e';apply hb Z _ J' H1 R1 M1 o4 hP S1 e4;cases o4 with
     |nx M5=>exact λσ5 H5 R5 S5 s5=>⟨R5,M5,S5,(s'.trans st1.r).trans s5,e'⟩
     |ct M5=>exact λσ5 H5 R5 S5 s5=>⟨R5,M5,S5,(s'.trans st1.r).trans s5,e'⟩
     | bk M5=>
           cases e';exact λσ5 H5 R5 S5 s5=>k σ5 H5 R5 S5 ((s2.trans s').trans (st1.r.trans s5))
     | rt d M5=>
           cases e';exact k
end
section
variable{c:MC}{O O':Zg}{te ti:TE}{fe fi:aF}{tr:TA}{fs:aV}
noncomputable def isL(M:az)(i:Nat):Bool:=match M[i]? with
 |some (some (.lst _))=>true
 |_=>false
def Eu{K:am}{R:Hp}{M:az}{i:Nat}{o:HO}{d:D}(h:isL M i=true)(e:M[i]? =some (some d))(b:Ob K R o d):∃vs ds,o=.lst vs/\d=.lst ds/\Rps K R vs ds:=by
 unfold isL at h;rw[e]at h;cases b with
 |lst r=>exact⟨_,_,rfl,rfl,r⟩
 |_=>cases h
def dD(g:List D->List D->Option (List D))(i:Nat)(fs:aV):aH:=λM=>if isL M i=true then(match fs M with
 |none=>none
 | some (as,M1)=>match M1[i]? with
  | some (some (.lst xs))=>match g xs as with
   |some ys=>some (.nx (M1.set i (some (.lst ys))))
   |none=>none
  |_=>none)else none
def Da(K:am)(r:V->List V->Hp->VK->Prop)(g:List D->List D->Option (List D)):Prop:=∀(H R:Hp) (l:Addr) (xs:List V) (ds:List D) (vs:List V) (as bs:List D) (Q:VK),(∀a o,R a=some o->H a=some o)->H l=some (.lst xs)->R l=none->Rps K R xs ds->Rps K R vs as->g ds as=some bs->(∀ys,Rps K R ys bs->Q .non (aM H l (.lst ys)))->r (.ref l) vs H Q
def o7{r:V->List V->Hp->VK->Prop}{g:List D->List D->Option (List D)}{i:Nat}(hm:Da c.K r g)(hi:i∈O)(ha:MA c.K O tr fs)(hs:cT c O O'=true):MS c O O' (qf (sZ c.K "list" r (dJ i) tr)) (dD g i fs):=λZ E J H R M o hP S e k=>by
 unfold dD at e;split at e
 case isFalse=>cases e
 rename_i hL;cases e1:fs M with
 |none=>rw[e1]at e;cases e
 | some p=>
  obtain⟨as,M1⟩:=p;rw[e1]at e;dsimp only at e;let⟨l,vs,ds,h1,h2,h3,h4,h5⟩:=S.own i hi;obtain⟨us,_,rfl,rfl,_⟩:=Eu hL h1 h5;refine⟨.ref l,h2,.inl ⟨rfl,us,SqL.of h3⟩,ha Z J H R M as M1 _ S e1 λws H1 R1 S1 st1 r1=>?_⟩;let⟨l',vs',ds',g1,g2,g3,g4,g5⟩:=S1.own i hi;rw[h2]at g2;cases g2;rw[g1]at e;cases g5 with
  |dct _=>cases e
  |dit _=>cases e
  |lst g5=>
  rename_i vs' ds';dsimp only at e;cases e2:g ds' as with
  |none=>rw[e2]at e;cases e
  | some ys=>
   rw[e2]at e;cases e;refine hm H1 R1 l vs' ds' ws as ys _ S1.sub g3 g4 g5 r1 e2 λzs rz=>?_;let⟨S2,s2⟩:=(S1.write hi h2 (.lst rz)).sub' hP hs;exact k J _ _ S2 (st1.r.trans s2)
noncomputable def io:List D->List D->Option (List D):=λxs as=>match as with
 |[d]=>if xs.length<sizeLine then some (xs++[d])else none
 |_=>none
def pF{K:am}:Da K yT io:=λH R l xs ds vs as bs Q s h hr r ra e k=>by
 cases ra with
 |nil=>cases e
 | cons q t=>
  cases t with
  |cons _ _=>cases e
  | nil=>
   rename_i x d;have e':(if ds.length<sizeLine then some (ds++[d])else none)=some bs:=e;split at e'
   .rename_i hz;cases e';exact⟨l,xs,x,rfl,rfl,h,by rw[r.length];exact hz,k _ (r.snoc q)⟩
   .cases e'
noncomputable def qxd:List D->List D->Option (List D):=λxs as=>match as with
 |[.int 0,d]=>if xs.length<sizeLine then some (d::xs)else none
 |_=>none
def p6(i:Nat)(fe fi:aF):aH:=λM=>match fe M with
 |none=>none
 | some (d,M1)=>match fi M1 with
  | some (.int k,M2)=>match M2[i]? with
   | some (some (.lst xs))=>match fM xs.length k with
    |some j=>some (.nx (M2.set i (some (.lst (xs.set j d)))))
    |none=>none
   |_=>none
  |_=>none
def qpd{i:Nat}(hi:i∈O)(he:ME c.K O te fe)(hx:ME c.K O ti fi)(hs:cT c O O'=true):MS c O O' (fz te (og (dJ i) ti DO)) (p6 i fe fi):=λZ E J H R M o hP S e k=>by
 unfold p6 at e;cases e1:fe M with
 |none=>rw[e1]at e;cases e
 | some p=>
  obtain⟨d,M1⟩:=p;rw[e1]at e;dsimp only at e;cases e2:fi M1 with
  |none=>rw[e2]at e;cases e
  | some p=>
   obtain⟨x,M2⟩:=p;rw[e2]at e;refine he Z J H R M d M1 _ S e1 λv H1 R1 S1 st1 r1=>?_;let⟨l,vs,ds,h1,h2,h3,h4,h5⟩:=S1.own i hi;refine⟨.ref l,h2,hx Z J H1 R1 M1 x M2 _ S1 e2 λw H2 R2 S2 st2 r2=>?_⟩;let⟨l',vs',ds',g1,g2,g3,g4,g5⟩:=S2.own i hi;rw[h2]at g2;cases g2;cases r2 with
   | int j=>
    dsimp only at e;rw[g1]at e;cases g5 with
    |dct _=>cases e
    |dit _=>cases e
    |lst g5=>
    rename_i vs' ds';dsimp only at e;cases e3:fM ds'.length j with
    |none=>rw[e3]at e;cases e
    | some m=>
     rw[e3]at e;cases e;refine⟨l,vs',j,m,rfl,rfl,g3,by rw[g5.length];exact e3,?_⟩;let⟨S3,s3⟩:=(S2.write hi h2 (.lst (g5.set (r1.mono st2.r) m))).sub' hP hs;exact k J _ _ S3 ((st1.r.trans st2.r).trans s3)
   |_=>cases e
end
noncomputable def aG(fr:Bool)(n N:Nat)(f:aH)(ds:List D):Option D:=if ds.length=n then match f (ds.map some++replicate (N-n) none)with
 |some (.rt d _)=>some d
 |some (.nx _)=>if fr=true then none else some .non
 |_=>none
 else none
def ca(K:am)(fr:Bool)(n:Nat)(f:List D->Option D):Sp:=λvs H Q _=>vs.length=n/\∃R ds d,(∀a o,R a=some o->H a=some o)/\Rps K R vs ds/\f ds=some d/\∀v H' R',Ext H R H' R'->pK K fr H v d H' R'->Q v H'
def uI{N:Zj}{vs:List V}{i:Nat}{v:V}(h:vs[i]? =some v):(bc N vs)[i]? =some (some v):=by unfold bc;rw[vc (by simpa using ((List.getElem?_eq_some_iff.mp h).1)),jo,h];rfl
def uH{ds:List D}{m i:Nat}{d:D}(h:(ds.map some++replicate m none)[i]? =some (some d)):ds[i]? =some d:=by
 by_cases hi:i<ds.length
 .rw[vc (by simpa using hi),jo]at h;cases q:ds[i]? with
  |none=>rw[q]at h;cases h
  |some e=>rw[q]at h;cases h;rfl
 .rw[kb (by simpa using hi),va]at h;split at h<;>cases h
def q0n{K:am}{fr:Bool}{n:Nat}{Nms:Zj}{O':Zg}{t:TS}{f:aH}{vs:List V}{H:Hp}{Q:VK}{E:XK}(hm:MS ⟨K,fr,[],[]⟩ [] O' t f)(h:ca K fr n (aG fr n Nms.length f) vs H Q E):t {nx:=λ_ H'=>Q .non H',rt:=Q} (bc Nms vs) H:=by
 obtain⟨hn,R,ds,d,sub,r,e,k⟩:=h;unfold aG at e;split at e
 .rename_i hl;have S:StR K ⟨H,R,λ_=>False,[]⟩ [] (bc Nms vs) H R (ds.map some++replicate (Nms.length-n) none):=by
   refine⟨sub,?_,λi d _ q=>?_,λi hi=>absurd hi (by simp),λi j hi=>absurd hi (by simp),λa o q _=>q,Same.refl _,λa q=>.inl q,λa q=>.refl q,λi hi=>absurd hi (by simp),λi hi=>absurd hi (by simp)⟩
   .unfold bc;rw[jt,jt,ja,ja,x6,x6,hn,hl]
   .let⟨v,h1,h2⟩:=r.get (uH q);exact⟨v,uI h1,h2⟩
  have ext:∀{O1:Zg} {J':St} {H' R':Hp} {M':az},StR K ⟨H,R,λ_=>False,[]⟩ O1 J' H' R' M'->Ext H R H' R':=λS'=>⟨λa o q=>S'.ah a o q (λz=>z),S'.ar,S'.sub,S'.an⟩;cases e1:f (ds.map some++replicate (Nms.length-n) none)with
  |none=>rw[e1]at e;cases e
  | some o=>
   rw[e1]at e;apply hm _ _ _ _ _ _ o rfl S e1;cases o with
   | nx M'=>
    dsimp only at e;split at e
    .cases e
    .rename_i hf;cases e;refine λJ' H' R' S' _=>k .non H' R' (ext S') ?_;cases fr with
     |false=>exact .non
     |true=>exact absurd rfl hf
   |bk M'=>cases e
   |ct M'=>cases e
   | rt d' M'=>
    cases e;exact λv J' H' R' S' q=>k v H' R' (ext S') q
 .cases e
noncomputable def gx(fr:Bool)(n N:Nat)(f:aH)(xs ds:List D):Option (D×List D):=if ds.length+1=n then match f (some (.lst xs)::(ds.map some++replicate (N-n) none))with
 | some (.rt d M)=>(match (M[0]? :Option (Option D))with
  |some (some (D.lst ys))=>some (d,ys)
  |_=>none)
 | some (.nx M)=>if fr=true then none else(match (M[0]? :Option (Option D))with
  |some (some (D.lst ys))=>some (.non,ys)
  |_=>none)
 |_=>none
 else none
structure ExtS(l:Addr)(H R H' R':Hp):Prop where
 h:∀a o,a≠l->H a=some o->H' a=some o
 r:Same R R'
 s:∀a o,R' a=some o->H' a=some o
 n:∀a,R' a≠none->R a≠none∨Frh H a
 d:∀a,H a≠none->Liv H H' a
def pQ(K:am)(fr:Bool)(n:Nat)(f:List D->List D->Option (D×List D)):Sp:=λvs H Q _=>vs.length=n/\∃l ws R us xs ds d ys,vs=.ref l::ws/\H l=some (.lst us)/\R l=none/\(∀a o,R a=some o->H a=some o)/\Rps K R us xs/\Rps K R ws ds/\f xs ds=some (d,ys)/\
 ∀v H' R' us',ExtS l H R H' R'->H' l=some (.lst us')->R' l=none->Rps K R' us' ys->pK K fr H v d H' R'->Q v H'
def GW{K:am}{fr:Bool}{n:Nat}{Nms:Zj}{O':Zg}{t:TS}{f:aH}{vs:List V}{H:Hp}{Q:VK}{E:XK}(hm:MS ⟨K,fr,[0],[]⟩ [0] [0] t f)(h:pQ K fr n (gx fr n Nms.length f) vs H Q E):t {nx:=λ_ H'=>Q .non H',rt:=Q} (bc Nms vs) H:=by
 obtain⟨hn,l,ws,R,us,xs,ds,d,ys,rfl,hH,hR,sub,ru,r,e,k⟩:=h;unfold gx at e;split at e
 .rename_i hl;have ln:ws.length+1=n:=by simpa using hn
  have S:StR K ⟨H,R,λa=>a=l,[0]⟩ [0] (bc Nms (.ref l::ws)) H R (some (.lst xs)::(ds.map some++replicate (Nms.length-n) none)):=by
   have one:∀i,i∈[0]->i=0:=λi hi=>by simpa using hi
   refine⟨sub,?_,λi d hi q=>?_,λi hi=>?_,λi j hi hj z=>absurd ((one i hi).trans (one j hj).symm) z,λa o q _=>q,Same.refl _,λa q=>.inl q,λa q=>.refl q,λi hi z=>absurd hi z,λi hi _ a q=>?_⟩
   .unfold bc;simp only[map_cons,cons_append,List.length_cons,List.length_append,List.length_map,List.length_replicate];lia
   .cases i with
    |zero=>exact absurd (by simp) hi
    | succ i=>
     rw[List.getElem?_cons_succ]at q;let⟨v,h1,h2⟩:=r.get (uH q);exact⟨v,uI (by rw[List.getElem?_cons_succ];exact h1),h2⟩
   .cases one i hi;exact⟨l,.lst us,.lst xs,rfl,rfl,hH,hR,.lst ru⟩
   .cases one i hi;have q':=q;cases q';rfl
  have ext:∀{J':St} {H' R':Hp} {M':az},StR K ⟨H,R,λa=>a=l,[0]⟩ [0] J' H' R' M'->ExtS l H R H' R'/\∃us' zs,M'[0]? =some (some zs)/\H' l=some us'/\R' l=none/\Ob K R' us' zs:=λ{J' H' R' M'} S'=>by refine⟨⟨λa o n q=>S'.ah a o q n,S'.ar,S'.sub,S'.an,S'.ad⟩,?_⟩;let⟨l',us',zs,h1,h2,h3,h4,h5⟩:=S'.own 0 (by simp);have el:=S'.ap 0 (by simp) (by simp) l' h2;subst el;exact⟨us',zs,h1,h3,h4,h5⟩
  cases e1:f (some (.lst xs)::(ds.map some++replicate (Nms.length-n) none))with
  |none=>rw[e1]at e;cases e
  | some o=>
   rw[e1]at e;refine hm _ _ _ _ _ _ o rfl S e1 ?_;cases o with
   | nx M'=>
    dsimp only at e;split at e
    .cases e
    .rename_i hf;refine λJ' H' R' S' _=>?_;let⟨x,us',zs,q1,q2,q3,q4⟩:=ext S';rw[q1]at e;cases q4 with
     |dct _=>cases e
     |dit _=>cases e
     |lst q4=>
     cases e;refine k .non H' R' _ x q2 q3 q4 ?_;cases fr with
     |false=>exact .non
     |true=>exact absurd rfl hf
   |bk M'=>cases e
   |ct M'=>cases e
   | rt d' M'=>
    dsimp only at e;refine λv J' H' R' S' q=>?_;let⟨x,us',zs,q1,q2,q3,q4⟩:=ext S';rw[q1]at e;cases q4 with
    |dct _=>cases e
    |dit _=>cases e
    |lst q4=>
    cases e;exact k v H' R' _ x q2 q3 q4 q
 .cases e
section
variable{K:am}{O:Zg}{tr:TA}{fs:aV}{E:XK}{n:Nat}
def aU(f:List D->Option D)(fs:aV):aF:=bZ fs λds=>dy (f ds)
def b8(n:Nat)(f:List D->Option D):Prop:=∀ds d,f ds=some d->ds.length=n
def cK{fr:Bool}{n N:Nat}{f:aH}:b8 n (aG fr n N f):=λds d e=>by
 unfold aG at e;split at e
 .assumption
 .cases e
def fK{f:List D->Option D}(hf:b8 n f)(h:MA K O tr fs):ME K O (oR (ca K false n f) [] E tr) (aU f fs):=λZ J H R M d M' Q S e k=>by let⟨ds,M1,e1,e⟩:=bP e;obtain⟨e2,rfl⟩:=c7 e;refine h Z J H R M ds _ _ S e1 λvs H1 R1 S1 st1 r1=>?_;rw[append_nil];exact⟨by rw[r1.length];exact hf ds d e2,R1,ds,d,S1.sub,r1,e2,λv H2 R2 x q=>k v H2 R2 (S1.ext x) (st1.trans x.stp) q⟩
noncomputable def pW(o:Option D):Option (List D):=match o with
 |some (.lst ds)=>some ds
 |_=>none
def i4(f:List D->Option D)(fs:aV):aV:=bZ fs λds=>dy (pW (f ds))
def qed{o:Option D}{ds:List D}(h:pW o=some ds):o=some (.lst ds):=by
 unfold pW at h;split at h
 .cases h;rfl
 ·(first|obtain rfl:=h.isA rfl|cases h)
def kY{f:List D->Option D}(hf:b8 n f)(h:MA K O tr fs):MN K O (oR (ca K true n f) [] E tr) (i4 f fs):=λZ J H R M d M' Q S e k=>by let⟨ds,M1,e1,e⟩:=bP e;obtain⟨e2,rfl⟩:=c7 e;have e3:=qed e2;refine h Z J H R M ds _ _ S e1 λvs H1 R1 S1 st1 r1=>?_;rw[append_nil];refine⟨by rw[r1.length];exact hf ds _ e3,R1,ds,_,S1.sub,r1,e3,λv H2 R2 x q=>?_⟩;obtain⟨l,us,gs,rfl,e4,h0,hH,hR,r⟩:=q;cases e4;exact k l us H2 R2 (S1.ext x) (st1.trans x.stp) (st1.new h0) hH hR r
def gn(f:List D->List D->Option (D×List D))(i:Nat)(fs:aV):aF:=bZ fs λds M=>match M[i]? with
 | some (some (.lst xs))=>match f xs ds with
  |some (d,ys)=>some (d,M.set i (some (.lst ys)))
  |none=>none
 |_=>none
def tI(n:Nat)(f:List D->List D->Option (D×List D)):Prop:=∀xs ds r,f xs ds=some r->ds.length+1=n
def EZ{fr:Bool}{n N:Nat}{f:aH}:tI n (gx fr n N f):=λxs ds r e=>by
 unfold gx at e;split at e
 .assumption
 .cases e
def jW{f:List D->List D->Option (D×List D)}{i:Nat}(hf:tI n f)(hi:i∈O)(h:MA K O tr fs):ME K O (oR (pQ K false n f) [] E (i8 (dJ i) tr)) (gn f i fs):=λZ J H R M d M' Q S e k=>by
 let⟨ds,M1,e1,e⟩:=bP e;let⟨l,vs0,ds0,h1,h2,h3,h4,h5⟩:=S.own i hi;refine⟨.ref l,h2,h Z J H R M ds M1 _ S e1 λvs H1 R1 S1 st1 r1=>?_⟩;let⟨l',us,xs,g1,g2,g3,g4,g5⟩:=S1.own i hi;rw[h2]at g2;cases g2;rw[g1]at e;cases g5 with
 |dct _=>cases e
 |dit _=>cases e
 |lst g5=>
 rename_i us xs;dsimp only at e;cases e2:f xs ds with
 |none=>rw[e2]at e;cases e
 | some p=>
  obtain⟨d',ys⟩:=p;rw[e2]at e;cases e;show pQ K false n f (.ref l::vs++[]) H1 Q E;rw[append_nil];refine⟨by rw[jy,r1.length];exact hf _ _ _ e2,l,vs,R1,us,xs,ds,d,ys,rfl,g3,g4,S1.sub,g5,r1,e2,λv H2 R2 us' x hH hR ru q=>?_⟩;have zd:=(List.getElem?_eq_some_iff.mp g1).1;have st2:Stp O J H1 R1 H2 R2:=⟨x.r,λa o e n=>x.h a o (λz=>by subst z;exact n i hi h2) e,x.n,x.d⟩;have other:∀j,j∈O->i≠j->∀m,J[j]? =some (some (.ref m))->m≠l:=λj hj n m e z=>by subst z;exact S1.dis i j hi hj n m h2 e
  refine k v H2 R2 ⟨x.s,by rw[xn];exact S1.len,λj e hj q=>?_,λj hj=>?_,S1.dis,λa o e n=>?_,S1.ar.trans x.r,λa h=>?_,λa h=>(S1.ad a h).trans (x.d a (S1.ad a h).1),S1.ao,S1.ap⟩ (st1.trans st2) q
  .have n:i≠j:=λz=>hj (z▸hi);rw[jv n]at q;let⟨w,q1,q2⟩:=S1.env j e hj q;exact⟨w,q1,q2.mono x.r⟩
  .by_cases n:i=j
   .subst n;exact⟨l,.lst us',.lst ys,by rw[xl zd],h2,hH,hR,.lst ru⟩
   .let⟨m,vs',ds',q1,q2,q3,q4,q5⟩:=S1.own j hj;refine⟨m,vs',ds',by rw[jv n];exact q1,q2,x.h _ _ (other j hj n m q2) q3,?_,q5.mono x.r⟩;cases z:R2 m with
    |none=>rfl
    | some o=>
     rcases x.n m (by rw[z];exact λy=>nomatch y)with y|y
     .exact absurd q4 y
     .exact(q5.noF q3 y).elim
  .have ne:a≠l:=λz=>by
    subst z;by_cases hp:i∈Z.P
    .exact n (S1.ap i hi hp a h2)
    .rw[S1.ao i hi hp a h2]at e;cases e
   exact x.h a o ne (S1.ah a o e n)
  .rcases x.n a h with z|z
   .exact S1.an a z
   .exact .inr (z.back (S1.ad a))
end
def DG(K:am):R2:=λx y H Q=>∃l b xs zs,x=.ref l/\y=.ref b/\SqL K H l xs/\SqL K H b zs/\xs.length+zs.length<=sizeLine/\∀p,H p=none->Q (.ref p) (aM H p (.lst (xs++zs)))
def DH(K:am):R2:=λx y H Q=>∃a b xs ys,x=.ref a/\y=.ref b/\SqT K H a xs/\SqT K H b ys/\xs.length+ys.length<=sizeLine/\
 (xs=[]->Q (.ref b) H)/\(xs≠[]->ys=[]->Q (.ref a) H)/\(xs≠[]->ys≠[]->∀p,H p=none->Q (.ref p) (aM H p (.tup (xs++ys))))
section
variable{X:Cx}{K:am}
def qp3(hK:X.K=K):OpR X (binaryOp .Add) (DG K):=by
 subst hK;intro z5 s J H x y v u Q I rx ry h;obtain⟨l,b,xs,zs,rfl,rfl,hH,hB,hz,q⟩:=h
 (first|obtain rfl:=rx.isA rfl|cases rx)
 (first|obtain rfl:=ry.isA rfl|cases ry)
 let⟨its,r,pl,z⟩:=I.list hH;let⟨its2,r2,pl2,z2⟩:=I.list hB;obtain⟨⟨cls,dd,data,sl⟩,ho,hc,n,hd⟩:=pl.isList;obtain⟨⟨cls2,dd2,data2,sl2⟩,ho2,hc2,n2,hd2⟩:=pl2.isList;simp only at hc hd hc2 hd2;subst hc hd hc2 hd2;have e:its.toArray++its2.toArray=(its++its2).toArray:=by simp
 refine concat_meets ⟨_,ho,rfl⟩ ⟨_,ho2,rfl⟩ noFill_list_add seq_list_add PySem.F.slot_list_add PySem.F.entry_list_add (PySem.F.args_list_add_2 _ _) (list_addW l b its.toArray its2.toArray n n2 dd dd2 sl sl2 (by rw[jx,jx,<-r.length,<-r2.length];exact hz)) ⟨ho,ho2,?_⟩;rw[e];exact⟨.ref _,_,I.lnew (r.append r2) (by rw[jt];lia),rfl,q _ I.fresh⟩
def qp2(hK:X.K=K):OpR X (binaryOp .Add) (DH K):=by
 subst hK;intro z5 s J H x y v u Q I rx ry h;obtain⟨a,b,xs,ys,rfl,rfl,ha,hb,hz,q0,q1,q2⟩:=h
 (first|obtain rfl:=rx.isA rfl|cases rx)
 (first|obtain rfl:=ry.isA rfl|cases ry)
 let⟨its,r1,p1,_⟩:=I.tuple ha;let⟨its2,r2,p2,_⟩:=I.tuple hb;let⟨⟨cls,dd,data,sl⟩,ho,hc,n,hd⟩:=id p1;let⟨⟨cls2,dd2,data2,sl2⟩,ho2,hc2,n2,hd2⟩:=id p2;simp only at hc hd hc2 hd2;subst hc hd hc2 hd2;have e:its.toArray++its2.toArray=(its++its2).toArray:=by simp
 by_cases hv:its=[]
 .exact concat_meets ⟨_,ho,rfl⟩ ⟨_,ho2,rfl⟩ noFill_tuple_add seq_tuple_add PySem.F.slot_tuple_add PySem.F.entry_tuple_add (PySem.F.args_tuple_add_2 _ _)
   (tuple_addW0 a b its.toArray its2.toArray n n2 dd dd2 sl sl2 (by simp[hv])) ⟨ho,ho2,⟨.ref b,H,I,rfl,q0 (r1.nil_iff.mp hv)⟩⟩
 .have hx:=λz=>hv (r1.nil_iff.mpr z);by_cases hw:its2=[]
  .exact concat_meets ⟨_,ho,rfl⟩ ⟨_,ho2,rfl⟩ noFill_tuple_add seq_tuple_add PySem.F.slot_tuple_add PySem.F.entry_tuple_add (PySem.F.args_tuple_add_2 _ _)
    (tuple_addW1 a b its.toArray its2.toArray n n2 dd dd2 sl sl2 (by simpa using hv) (by simp[hw])) ⟨ho,ho2,⟨.ref a,H,I,rfl,q1 hx (r2.nil_iff.mp hw)⟩⟩
  .refine concat_meets ⟨_,ho,rfl⟩ ⟨_,ho2,rfl⟩ noFill_tuple_add seq_tuple_add PySem.F.slot_tuple_add PySem.F.entry_tuple_add (PySem.F.args_tuple_add_2 _ _)
    (tuple_addW2 a b its.toArray its2.toArray n n2 dd dd2 sl sl2 (by simpa using hv) (by simpa using hw) (by rw[size_toArray,size_toArray,<-r1.length,<-r2.length];exact hz)) ⟨ho,ho2,?_⟩
   rw[e];refine⟨.ref s.heap.objs.size,_,I.laid (λb ob q=>je _ q) (jg _) ?_,rfl,q2 hx (λw=>hw (r2.nil_iff.mpr w)) _ (I.hok.fresh (jg _))⟩;exact⟨by rw[jt];exact hz,_,r1.append r2,TupN.new _ _⟩
def wD(K:am):R2:=λx y H Q=>gM (λi j=>.int (i+j)) x y H Q∨DG K x y H Q∨DH K x y H Q∨∃i j,x=.str i/\y=.str j/\i.length+j.length<=sizeLine/\Q (.str (i++j)) H
def eZ(hK:X.K=K):OpR X (binaryOp .Add) (wD K):=op_add.or ((qp3 hK).or ((qp2 hK).or qe5))
end
section
variable{K:am}{O:Zg}
noncomputable def bM:D->D->Option D
 |.int i,.int j=>some (.int (i+j))
 |.lst xs,.lst ys=>if xs.length+ys.length<=sizeLine then some (.lst (xs++ys))else none
 |.tup xs,.tup ys=>if xs.length+ys.length<=sizeLine then some (.tup (xs++ys))else none
 |.str x,.str y=>if x.length+y.length<=sizeLine then some (.str (x++y))else none
 |_,_=>none
def o9:gY K (wD K) bM:=λH R x y d e u Q s rx ry q k=>by
 unfold bM at q;split at q
 .rename_i i j
  (first|obtain rfl:=q.isA rfl|cases q)
  (first|obtain rfl:=rx.isA rfl|cases rx)
  (first|obtain rfl:=ry.isA rfl|cases ry)
  exact .inl ⟨i,j,rfl,rfl,k _ H R (Ext.refl s) (.int _)⟩
 .split at q
  .rename_i hz
   (first|obtain rfl:=q.isA rfl|cases q)
   obtain⟨a1,xs,rfl,h,r⟩:=rx.isL;obtain⟨a2,ys,rfl,h2,r2⟩:=ry.isL;refine .inr (.inl ⟨_,_,_,_,rfl,rfl,Same.sqL s h,Same.sqL s h2,by rw[r.length,r2.length];exact hz,λp np=>?_⟩);have x:=Ext.new (o:=.lst (xs++ys)) s np;exact k _ _ _ x (.lst (SqL.of cA) ((r.append r2).mono x.r))
  ·(first|obtain rfl:=q.isA rfl|cases q)
 .split at q
  .rename_i hz
   (first|obtain rfl:=q.isA rfl|cases q)
   obtain⟨a1,xs,rfl,h,r⟩:=rx.isT;obtain⟨a2,ys,rfl,h2,r2⟩:=ry.isT;refine .inr (.inr (.inl ⟨_,_,_,_,rfl,rfl,SqT.of (s _ _ h),SqT.of (s _ _ h2),by rw[r.length,r2.length];exact hz,λz=>?_,λ_ z=>?_,λ_ _ p np=>?_⟩))
   .subst z
    (first|obtain rfl:=r.isA rfl|cases r)
    exact k _ H R (Ext.refl s) (.tup h2 r2)
   .subst z
    (first|obtain rfl:=r2.isA rfl|cases r2)
    rw[append_nil]at k;exact k _ H R (Ext.refl s) (.tup h r)
   .have x:=Ext.new (o:=.tup (xs++ys)) s np;exact k _ _ _ x (.tup cA ((r.append r2).mono x.r))
  ·(first|obtain rfl:=q.isA rfl|cases q)
 .rename_i i j;split at q
  .rename_i hz
   (first|obtain rfl:=q.isA rfl|cases q)
   (first|obtain rfl:=rx.isA rfl|cases rx)
   (first|obtain rfl:=ry.isA rfl|cases ry)
   exact .inr (.inr (.inr ⟨i,j,rfl,rfl,hz,k _ H R (Ext.refl s) (.str _)⟩))
  ·(first|obtain rfl:=q.isA rfl|cases q)
 ·(first|obtain rfl:=q.isA rfl|cases q)
def Iw(K:am)(r:R2)(g:D->D->Option (List D)):Prop:=∀(H R:Hp) (x y:V) (d e:D) (us:List D) (Q:VK),(∀a o,R a=some o->H a=some o)->Rp K R x d->Rp K R y e->g d e=some us->(∀l vs,H l=none->Rps K R vs us->Q (.ref l) (aM H l (.lst vs)))->r x y H Q
def qj(g:D->D->Option (List D))(fa fb:aF):aV:=bZ fa λx=>bZ fb λy=>dy (g x y)
def qyi{ta tb:TE}{r:R2}{g:D->D->Option (List D)}{fa fb:aF}(h:Iw K r g)(ha:ME K O ta fa)(hb:ME K O tb fb):MN K O (jO r ta tb) (qj g fa fb):=λZ J H R M d M' Q S e k=>by let⟨x,M1,e1,e⟩:=bP e;let⟨y,M2,e2,e⟩:=bP e;obtain⟨e3,rfl⟩:=c7 e;refine ha Z J H R M x M1 _ S e1 λv H1 R1 S1 st1 r1=>hb Z J H1 R1 M1 y _ _ S1 e2 λw H2 R2 S2 st2 r2=>?_;refine h H2 R2 v w x y d Q S2.sub (r1.mono st2.r) r2 e3 λl vs hl rv=>?_;have x:=Ext.hid (o:=.lst vs) S2.sub hl;exact k l vs _ _ (S2.ext x) ((st1.trans st2).trans x.stp) ((st1.trans st2).new hl) cA (S2.out hl) rv
noncomputable def qh:D->D->Option (List D)
 |.lst xs,.lst ys=>if xs.length+ys.length<=sizeLine then some (xs++ys)else none
 |_,_=>none
def qtm:Iw K (wD K) qh:=λH R x y d e u Q s rx ry q k=>by
 unfold qh at q;split at q
 .split at q
  .rename_i hz
   (first|obtain rfl:=q.isA rfl|cases q)
   obtain⟨_,_,rfl,h,r⟩:=rx.isL;obtain⟨_,_,rfl,h2,r2⟩:=ry.isL;exact .inr (.inl ⟨_,_,_,_,rfl,rfl,Same.sqL s h,Same.sqL s h2,by rw[r.length,r2.length];exact hz,λp np=>k p _ np (r.append r2)⟩)
  ·(first|obtain rfl:=q.isA rfl|cases q)
 ·(first|obtain rfl:=q.isA rfl|cases q)
end
mutual
noncomputable def D.toP:D->Option PyData
 |.non=>some .none
 |.bl b=>some (.bool b)
 |.int i=>some (.int i)
 |.str x=>some (.str x)
 |.lst xs=>(D.toPs xs).map PyData.list
 |.tup xs=>(D.toPs xs).map PyData.tuple
 |.obj _ _=>none
 |.dct _=>none
 |.exc _=>none
 |.fn _=>none
 |.tab _ _ _=>none
 |.dit _=>none
noncomputable def D.toPs:List D->Option (List PyData)
 |[]=>some []
 | d::r=>match D.toP d,D.toPs r with
  |some p,some ps=>some (p::ps)
  |_,_=>none
end
section
variable{K:am}{O:Zg}{R:Hp}
def qwy(p:PyData)(e:D.toP .non=some p):DV K R .non p:=by simp only[D.toP]at e;cases e;exact .non
def qyt(b:Bool)(p:PyData)(e:D.toP (.bl b)=some p):DV K R (.bl b) p:=by simp only[D.toP]at e;cases e;exact .bl b
def qx0(b:Int)(p:PyData)(e:D.toP (.int b)=some p):DV K R (.int b) p:=by simp only[D.toP]at e;cases e;exact .int b
def qwx(b:Str)(p:PyData)(e:D.toP (.str b)=some p):DV K R (.str b) p:=by simp only[D.toP]at e;cases e;exact .str b
def qwz{a:Addr}{xs:List V}{ds:List D}{p:PyData}(h:SqL K R a xs)(r:∀ps,D.toPs ds=some ps->DVs K R xs ps)(e:D.toP (.lst ds)=some p):DV K R (.ref a) p:=by
 simp only[D.toP]at e;cases z:D.toPs ds with
 |none=>rw[z]at e;cases e
 |some ps=>rw[z]at e;cases e;exact .lst h (r _ z)
def qww{a:Addr}{xs:List V}{ds:List D}{p:PyData}(h:R a=some (.tup xs))(r:∀ps,D.toPs ds=some ps->DVs K R xs ps)(e:D.toP (.tup ds)=some p):DV K R (.ref a) p:=by
 simp only[D.toP]at e;cases z:D.toPs ds with
 |none=>rw[z]at e;cases e
 |some ps=>rw[z]at e;cases e;exact .tup (SqT.of h) (r _ z)
def qqv(ps:List PyData)(e:D.toPs []=some ps):DVs K R [] ps:=by simp only[D.toPs]at e;cases e;exact .nil
def qln{x:V}{xs:List V}{d:D}{ds:List D}{ps:List PyData}(h:∀p,d.toP=some p->DV K R x p)(r:∀ps,D.toPs ds=some ps->DVs K R xs ps)(e:D.toPs (d::ds)=some ps):DVs K R (x::xs) ps:=by
 simp only[D.toPs]at e;cases z:d.toP with
 |none=>rw[z]at e;cases e
 | some p=>
  cases w:D.toPs ds with
  |none=>rw[z,w]at e;cases e
  |some qs=>rw[z,w]at e;cases e;exact .cons (h _ z) (r _ w)
def Rp.dv{v:V}{d:D}{p:PyData}(h:Rp K R v d)(e:d.toP=some p):DV K R v p:=
 Rp.rec (motive_1:=λv d _=>∀p,d.toP=some p->DV K R v p) (motive_3:=λ_ _ _=>True) (motive_4:=λ_ _ _=>True) (motive_5:=λ_ _ _=>True)
  qwy qyt qx0 qwx (λh _ r _=>qwz h r) (λh _ r _=>qww h r) (λ_ _ _ _ _ e=>by simp only[D.toP]at e;cases e) (λ_ _ _ _ e=>by simp only[D.toP]at e;cases e) (λ_ _ _ _ e=>by simp only[D.toP]at e;cases e) (λ_ _ _ _ e=>by simp only[D.toP]at e;cases e) (λ_ _ e=>by simp only[D.toP]at e;cases e) (λ_ _ e=>by simp only[D.toP]at e;cases e)
  qqv (λ_ _ h r _=>qln h r) trivial (λ_ _ _ _=>trivial) trivial (λ_ _ _ _=>trivial) trivial (λ_ _ _ _=>trivial) h _ e
def cZ(d e:D):Option Bool:=match d.toP,e.toP with
 |some p,some q=>if SeqAt.shaped p=true/\SeqAt.shaped q=true then some (PyData.eqv p q)else none
 |_,_=>none
def fN(d e:D):Option D:=(cZ d e).map .bl
def eH(d e:D):Option D:=(cZ d e).map λb=>.bl (!b)
def Gs{d e:D}{b:Bool}(h:cZ d e=some b):∃p q,d.toP=some p/\e.toP=some q/\SeqAt.shaped p=true/\SeqAt.shaped q=true/\PyData.eqv p q=b:=by
 unfold cZ at h;cases h1:d.toP with
 |none=>rw[h1]at h;cases h
 | some p=>
  cases h2:e.toP with
  |none=>rw[h1,h2]at h;cases h
  | some q=>
   rw[h1,h2]at h;dsimp only at h;split at h
   .rename_i z;exact⟨p,q,rfl,rfl,z.1,z.2,jm h⟩
   ·(first|obtain rfl:=h.isA rfl|cases h)
def iu:OpS K (rS K) fN:=λH x y d e u Q rx ry q k=>by
 unfold fN at q;cases h:cZ d e with
 |none=>rw[h]at q;cases q
 | some b=>
  rw[h]at q
  (first|obtain rfl:=q.isA rfl|cases q)
  let⟨p,r,h1,h2,h3,h4,h5⟩:=Gs h;refine⟨p,r,rx.dv h1,ry.dv h2,h3,h4,?_⟩;rw[h5];exact k _ (.bl _)
def wB:OpS K (rL K) eH:=λH x y d e u Q rx ry q k=>by
 unfold eH at q;cases h:cZ d e with
 |none=>rw[h]at q;cases q
 | some b=>
  rw[h]at q
  (first|obtain rfl:=q.isA rfl|cases q)
  let⟨p,r,h1,h2,h3,h4,h5⟩:=Gs h;refine⟨p,r,rx.dv h1,ry.dv h2,h3,h4,?_⟩;rw[h5];exact k _ (.bl _)
noncomputable def jH(d e:D):Option D:=match e with
 |.non=>some (.bl (match d with|.non=>true|_=>false))
 |_=>none
noncomputable def kH(d e:D):Option D:=match e with
 |.non=>some (.bl (match d with|.non=>false|_=>true))
 |_=>none
def qti:OpS K (λx y H Q=>y=.non/\Q (.bl (decide (x=.non))) H) jH:=λH x y d e u Q rx ry q k=>by
 (first|split at q|(unfold jH at q;split at q))
 .obtain rfl:=ry.isA rfl;refine⟨rfl,?_⟩;cases rx<;>(cases q;exact k _ (.bl _))
 .cases q
def FO:OpS K (λx y H Q=>y=.non/\Q (.bl (!decide (x=.non))) H) kH:=λH x y d e u Q rx ry q k=>by
 (first|split at q|(unfold kH at q;split at q))
 .obtain rfl:=ry.isA rfl;refine⟨rfl,?_⟩;cases rx<;>(cases q;exact k _ (.bl _))
 .cases q
end
section
variable{K:am}{O:Zg}{t ta tb tc:TE}{tr:TA}{fa fb fc:aF}{fs:aV}
def C8(K:am)(r:List V->Hp->VK->Prop)(g:D->Option D):Prop:=∀(H R:Hp) (x:V) (d u:D) (Q:VK),(∀a o,R a=some o->H a=some o)->Rp K R x d->g d=some u->(∀v H' R',Ext H R H' R'->Rp K R' v u->Q v H')->r [x] H Q
def qL{r:List V->Hp->VK->Prop}{g:D->Option D}(h:C8 K r g)(ha:ME K O t fa):ME K O (kF r (i8 t fy)) (aO g fa):=λZ J H R M d M' Q S e k=>by let⟨x,M1,e1,e⟩:=bP e;obtain⟨e2,rfl⟩:=c7 e;refine ha Z J H R M x _ _ S e1 λv H1 R1 S1 st1 r1=>?_;exact h H1 R1 v x d Q S1.sub r1 e2 λw H2 R2 x2 r2=>k w H2 R2 (S1.ext x2) (st1.trans x2.stp) r2
def C9(K:am)(r:List V->Hp->VK->Prop)(g:D->Option (List D)):Prop:=∀(H R:Hp) (x:V) (d:D) (us:List D) (Q:VK),(∀a o,R a=some o->H a=some o)->Rp K R x d->g d=some us->(∀l vs,H l=none->Rps K R vs us->Q (.ref l) (aM H l (.lst vs)))->r [x] H Q
def gq(g:D->Option (List D))(f:aF):aV:=bZ f λx=>dy (g x)
def GE{r:List V->Hp->VK->Prop}{g:D->Option (List D)}(h:C9 K r g)(ha:ME K O t fa):MN K O (kF r (i8 t fy)) (gq g fa):=λZ J H R M d M' Q S e k=>by let⟨x,M1,e1,e⟩:=bP e;obtain⟨e2,rfl⟩:=c7 e;refine ha Z J H R M x _ _ S e1 λv H1 R1 S1 st1 r1=>?_;refine h H1 R1 v x d Q S1.sub r1 e2 λl vs hl rv=>?_;have y:=Ext.hid (o:=.lst vs) S1.sub hl;exact k l vs _ _ (S1.ext y) (st1.trans y.stp) (st1.new hl) cA (S1.out hl) rv
noncomputable def dE:D->Option (List D)
 |.lst xs=>some xs
 |.tup xs=>some xs
 |_=>none
def Fs:C9 K (λxs H Q=>∃p ys,xs=[.ref p]/\(SqL K H p ys∨SqT K H p ys)/\∀l,H l=none->Q (.ref l) (aM H l (.lst ys))) dE:=λH R x d us Q s r e k=>by
 (first|split at e|(unfold dE at e;split at e))
 .obtain⟨_,_,rfl,h,q⟩:=r.isL;cases e;exact⟨_,_,rfl,.inl (Same.sqL s h),λl hl=>k l _ hl q⟩
 .obtain⟨_,_,rfl,h,q⟩:=r.isT;cases e;exact⟨_,_,rfl,.inr (SqT.of (s _ _ h)),λl hl=>k l _ hl q⟩
 .cases e
noncomputable def mK:D->Option D
 |.lst xs=>some (.tup xs)
 |.tup xs=>some (.tup xs)
 |_=>none
def qH:C8 K (λxs H Q=>∃p ys,xs=[.ref p]/\((SqL K H p ys/\∀l,H l=none->Q (.ref l) (aM H l (.tup ys)))∨(SqT K H p ys/\Q (.ref p) H))) mK:=λH R x d u Q s r e k=>by
 cases r with
 | lst h q=>
  cases e;refine⟨_,_,rfl,.inl ⟨Same.sqL s h,λl hl=>?_⟩⟩;rename_i a xs ds;have y:=Ext.new (o:=.tup xs) s hl;exact k _ _ _ y (.tup cA (q.mono y.r))
 |tup h q=>cases e;exact⟨_,_,rfl,.inr ⟨SqT.of (s _ _ h),k _ H R (Ext.refl s) (.tup h q)⟩⟩
 |_=>cases e
def MO(K:am)(O:Zg)(t:TO)(f:az->Option (Option Int×az)):Prop:=∀(Z:Anc) (J:St) (H R:Hp) (M:az) (o:Option Int) (M':az) (Q:Option Int->Hp->Prop),StR K Z O J H R M->f M=some (o,M')->(∀H' R',StR K Z O J H' R' M'->Stp O J H R H' R'->Q o H')->t J H Q
def qph:MO K O yX (ae none):=λZ J H R M o M' Q S e k=>by cases e;exact k H R S (Stp.refl _ _ _ _)
def qx(f:aF):az->Option (Option Int×az):=bZ f λd=>dy (match d with
 |.int i=>some (some i)
 |_=>none)
def qpg(h:ME K O t fa):MO K O (wF t) (qx fa):=λZ J H R M o M' Q S e k=>by
 let⟨x,M1,e1,e⟩:=bP e;obtain⟨e2,rfl⟩:=c7 e;refine h Z J H R M x _ _ S e1 λv H1 R1 S1 st1 r1=>?_
 (first|split at e2)
 .rename_i i;obtain rfl:=r1.isA rfl;cases e2;exact⟨i,rfl,k H1 R1 S1 st1⟩
 .cases e2
def fA(xs:List D)(lo hi:Option Int):List D:=(xs.drop (HT.sIx xs.length 0 lo)).take (HT.sIx xs.length xs.length hi-HT.sIx xs.length 0 lo)
def Rps.cut{R:Hp}{xs:List V}{ds:List D}(r:Rps K R xs ds)(lo hi:Option Int):Rps K R (ff xs lo hi) (fA ds lo hi):=by unfold ff fA;rw[r.length];exact(r.drop _).take _
def nW(K:am):V->Option Int->Option Int->Hp->VK->Prop:=λx lo hi H Q=>rJ K x lo hi H Q∨rH K x lo hi H Q
def yW{X:Cx}(h:X.K=K):SlR X (nW K):=by subst h;exact sl_list.or qs8
def pH(d:D)(lo hi:Option Int):Option D:=match d with
 |.lst xs=>some (.lst (fA xs lo hi))
 |.tup xs=>if HT.sIx xs.length 0 lo=0/\HT.sIx xs.length xs.length hi=xs.length then none else some (.tup (fA xs lo hi))
 |_=>none
def qT(f:aF)(fl fh:az->Option (Option Int×az)):aF:=bZ f λd=>bZ fl λlo=>bZ fh λhi=>dy (pH d lo hi)
def qkr{tl th:TO}{fl fh:az->Option (Option Int×az)}(h:ME K O t fa)(hl:MO K O tl fl)(hh:MO K O th fh):ME K O (wk (nW K) t tl th) (qT fa fl fh):=λZ J H R M d M' Q S e k=>by
 let⟨x,M1,e1,e⟩:=bP e;let⟨lo,M2,e2,e⟩:=bP e;let⟨hi,M3,e3,e⟩:=bP e;obtain⟨e4,rfl⟩:=c7 e;refine h Z J H R M x _ _ S e1 λv H1 R1 S1 st1 r1=>hl Z J H1 R1 M1 lo _ _ S1 e2 λH2 R2 S2 st2=>hh Z J H2 R2 M2 hi _ _ S2 e3 λH3 R3 S3 st3=>?_;have r3:=(r1.mono st2.r).mono st3.r;have st:=(st1.trans st2).trans st3;cases r3 with
 | @lst a xs ds q r=>
  cases e4;refine .inl ⟨a,xs,rfl,Same.sqL S3.same q,λp np=>?_⟩;have y:=Ext.new (o:=.lst (ff xs lo hi)) S3.sub np;exact k _ _ _ (S3.ext y) (st.trans y.stp) (.lst (SqL.of cA) ((r.cut lo hi).mono y.r))
 | @tup a xs ds q r=>
  have e5:(if HT.sIx ds.length 0 lo=0/\HT.sIx ds.length ds.length hi=ds.length then none else some (D.tup (fA ds lo hi)))=some d:=e4;split at e5
  .cases e5
  .rename_i hn;cases e5;refine .inr ⟨a,xs,rfl,SqT.of (S3.same _ _ q),by rw[r.length];exact hn,λp np=>?_⟩;have y:=Ext.new (o:=.tup (ff xs lo hi)) S3.sub np;exact k _ _ _ (S3.ext y) (st.trans y.stp) (.tup cA ((r.cut lo hi).mono y.r))
 |_=>cases e4
def uw(g g':D->D->Option D)(fa fb fc:aF):aF:=bZ fa λx=>bZ fb λy=>bZ (bq (dy (g x y))) λb=>if b=true then bZ fc λz=>dy (g' y z)else ae (.bl false)
def qku{r r':R2}{g g':D->D->Option D}(h:OpS K r g)(h':OpS K r' g')(ha:ME K O ta fa)(hb:ME K O tb fb)(hc:ME K O tc fc):ME K O (E8 r r' ta tb tc) (uw g g' fa fb fc):=λZ J H R M d M' Q S e k=>by
 let⟨x,M1,e1,e⟩:=bP e;let⟨y,M2,e2,e⟩:=bP e;let⟨b,M3,e3,e⟩:=bP e;let⟨u,M4,f3,e4⟩:=bP e3;obtain⟨g3,rfl⟩:=c7 f3;obtain⟨g4,rfl⟩:=c7 e4;refine ha Z J H R M x _ _ S e1 λv H1 R1 S1 st1 r1=>hb Z J H1 R1 M1 y _ _ S1 e2 λw H2 R2 S2 st2 r2=>?_;refine h H2 v w x y u _ ((r1.mono st2.r).mono S2.same) (r2.mono S2.same) g3 λz q=>?_;cases q with
 | bl c=>
  cases g4;refine⟨_,rfl,?_⟩;cases b with
  | true=>
   let⟨z,M5,e5,f⟩:=bP e;obtain⟨e6,rfl⟩:=c7 f;refine fW (hc Z J H2 R2 _ z _ _ S2 e5 λw' H3 R3 S3 st3 r3=>?_);exact h' H3 w w' y z d Q ((r2.mono st3.r).mono S3.same) (r3.mono S3.same) e6 λv' q'=>k v' H3 R3 S3 ((st1.trans st2).trans st3) q'.rp
  |false=>cases e;exact fX (k _ H2 R2 S2 (st1.trans st2) (.bl false))
 |_=>cases g4
def tH{g:Int->Int->Bool}:OpS K (gM λi j=>.bl (g i j)) (pJ g):=λH x y d e u Q rx ry q k=>by
 unfold pJ at q;split at q
 .rename_i i j
  (first|obtain rfl:=q.isA rfl|cases q)
  (first|obtain rfl:=rx.isA rfl|cases rx)
  (first|obtain rfl:=ry.isA rfl|cases ry)
  exact⟨i,j,rfl,rfl,k _ (.bl _)⟩
 ·(first|obtain rfl:=q.isA rfl|cases q)
def qyk(f:aV):aF:=bZ f λds=>dy (match ds with
 |[.int i,.int j]=>if 0<j/\j<1073741824 then some (.tup [.int (i / j),.int (i % j)])else none
 |_=>none)
def iJ(g:Int->Int->Int)(f:aV):aF:=bZ f λds=>dy (match ds with
 |[.int i,.int j]=>some (.int (g i j))
 |_=>none)
def tE{g:Int->Int->Int}(h:MA K O tr fs):ME K O (kF (λxs H Q=>∃i j,xs=[.int i,.int j]/\Q (.int (g i j)) H) tr) (iJ g fs):=λZ J H R M d M' Q S e k=>by
 let⟨xs,M1,e1,e⟩:=bP e;obtain⟨e2,rfl⟩:=c7 e;refine h Z J H R M xs _ _ S e1 λvs H1 R1 S1 st1 r1=>?_;split at e2
 .rename_i i j;cases e2;obtain⟨_,_,rfl,q,r⟩:=r1.isC
  (first|obtain rfl:=q.isA rfl|cases q)
  cases r with
  | cons q r=>
   (first|obtain rfl:=q.isA rfl|cases q)
   (first|obtain rfl:=r.isA rfl|cases r)
   exact⟨i,j,rfl,k _ H1 R1 S1 st1 (.int _)⟩
 .cases e2
def Dm(K:am)(ta:TA):TI:=λJ H R=>(iS K true true ta J H R∨iS K true false ta J H R)∨(iS K false true ta J H R∨iS K false false ta J H R)
def ul{X:Cx}{a b:Expr}{ta:TA}{p pos:Pos}{zo:Zi}{x1:Nat}{tp:Pos}(hK:X.K=K)(hg:Gl X "zip")(hm:X.mg "zip"=none)(ha:PA X [a,b] ta)(he:starEach [a,b] X.env=(false,eval a X.env)::starEach [b] X.env:=by rfl)(hpl:(backTo pos (starEach [b] X.env)).any (·.1)=false:=by rfl):
 PI X (.Tuple zo x1 tp) (.Call (.Name "zip" p) [a,b] [] pos) (Dm K ta):=λz5 s J H R I q=>by
 rcases q with(q|q)|(q|q)
 .exact t8 true true hK hg hm ha he hpl z5 s J H R I q
 .exact t8 true false hK hg hm ha he hpl z5 s J H R I q
 .exact t8 false true hK hg hm ha he hpl z5 s J H R I q
 .exact t8 false false hK hg hm ha he hpl z5 s J H R I q
noncomputable def dg(xs ys:List D):List D:=List.zipWith (λx y=>D.tup [x,y]) xs ys
def gy(f:aV):aV:=bZ f λds=>dy (match ds with
 | [x,y]=>match dE x,dE y with
  |some xs,some ys=>some (dg xs ys)
  |_,_=>none
 |_=>none)
def SqB.inj_same{K:am}{b:Bool}{R H:Hp}{p:Addr}{xs:List V}(s:Same R H)(h:SqB K b R p xs):SqB K b H p xs:=by
 cases b
 .exact Same.tup s h
 .exact Same.sqL s h
def qvx{R:Hp}{b1 b2:Bool}{p1 p2:Addr}{xs ys:List V}{ds es:List D}(h1:SqB K b1 R p1 xs)(h2:SqB K b2 R p2 ys)(r1:Rps K R xs ds)(r2:Rps K R ys es):ItOk K (AA K b1 b2 p1 p2) R (dg ds es):=λH' R' s b i=>by
 have q2:=(SqB.inj_same s h2);have g1:=(SqB.inj_same b ((SqB.inj_same s h1)));have g2:=(SqB.inj_same b q2);have len:(dg ds es).length=min ds.length es.length:=by simp[dg]
 have l1:=r1.length;have l2:=r2.length;refine⟨λe=>⟨xs,ys,g1,g2,by lia⟩,λd e=>?_⟩;unfold dg at e;rw[List.getElem?_zipWith]at e;cases e1:ds[i]? with
 |none=>rw[e1]at e;cases e
 | some d1=>
  cases e2:es[i]? with
  |none=>rw[e1,e2]at e;cases e
  | some d2=>
   rw[e1,e2]at e;cases e;let⟨v1,a1,a2⟩:=r1.get e1;let⟨v2,c1,c2⟩:=r2.get e2;refine⟨⟨xs,ys,v1,v2,g1,g2,a1,c1⟩,λx H'' y=>?_⟩;obtain⟨T,x1,y1,rfl,hT,rfl,z1,z2⟩:=y;have w1:=z1 xs g1;have w2:=z2 ys g2;rw[a1]at w1;rw[c1]at w2;cases w1;cases w2;have y:=Ext.new (o:=.tup [v1,v2]) b hT;exact⟨_,y,.tup cA (.cons ((a2.mono s).mono y.r) (.cons ((c2.mono s).mono y.r) .nil))⟩
def Hd{x:D}{ds:List D}(h:dE x=some ds):x=.lst ds∨x=.tup ds:=by
 unfold dE at h;split at h
 .cases h;exact .inl rfl
 .cases h;exact .inr rfl
 ·(first|obtain rfl:=h.isA rfl|cases h)
def qq(h:MA K O tr fs):MI K O (Dm K tr) (gy fs):=λZ J H R M ds M' Q S e k=>by
 let⟨xs,M1,e1,e⟩:=bP e;obtain⟨e2,rfl⟩:=c7 e;have go:∀(b1 b2:Bool) (x y:D) (as bs:List D),xs=[x,y]->ds=dg as bs->(∀(R1:Hp) (v:V),Rp K R1 v x->∃p vs,v=.ref p/\SqB K b1 R1 p vs/\Rps K R1 vs as)->(∀(R1:Hp) (v:V),Rp K R1 v y->∃p vs,v=.ref p/\SqB K b2 R1 p vs/\Rps K R1 vs bs)->iS K b1 b2 tr J H Q:=λb1 b2 x y as bs hx hd g1 g2=>by
  subst hx hd;refine h Z J H R M _ _ _ S e1 λvs H1 R1 S1 st1 r1=>?_;obtain⟨_,_,rfl,q,r⟩:=r1.isC;obtain⟨_,_,rfl,q',r⟩:=r.isC
  (first|obtain rfl:=r.isA rfl|cases r)
  obtain⟨p1,us,rfl,s1,t1⟩:=g1 _ _ q;obtain⟨p2,ws,rfl,s2,t2⟩:=g2 _ _ q';exact⟨p1,p2,rfl,⟨us,SqB.inj_same S1.same s1⟩,⟨ws,SqB.inj_same S1.same s2⟩,k _ H1 R1 S1 st1 (qvx s1 s2 t1 t2)⟩
 have gl:∀(as:List D) (R1:Hp) (v:V),Rp K R1 v (.lst as)->∃p vs,v=.ref p/\SqB K true R1 p vs/\Rps K R1 vs as:=λas R1 v r=>by obtain⟨_,_,rfl,h,q⟩:=r.isL;exact⟨_,_,rfl,h,q⟩
 have gt:∀(as:List D) (R1:Hp) (v:V),Rp K R1 v (.tup as)->∃p vs,v=.ref p/\SqB K false R1 p vs/\Rps K R1 vs as:=λas R1 v r=>by obtain⟨_,_,rfl,h,q⟩:=r.isT;exact⟨_,_,rfl,SqT.of h,q⟩
 split at e2
 .rename_i x y;split at e2
  .rename_i as bs h1 h2;cases e2;rcases Hd h1 with rfl|rfl<;>rcases Hd h2 with rfl|rfl
   .exact .inl (.inl (go true true _ _ as bs rfl rfl (gl as) (gl bs)))
   .exact .inl (.inr (go true false _ _ as bs rfl rfl (gl as) (gt bs)))
   .exact .inr (.inl (go false true _ _ as bs rfl rfl (gt as) (gl bs)))
   .exact .inr (.inr (go false false _ _ as bs rfl rfl (gt as) (gt bs)))
  .cases e2
 .cases e2
end
inductive TyO(K:am)(H:Hp):V->Value->Prop where
 |of {x:V} {t:Value} (h:TyOf K H x t):TyO K H x t
 |sl {a:Addr} {xs:List V} (h:SqL K H a xs):TyO K H (.ref a) (.type "list")
 |st {a:Addr} {xs:List V} (h:SqT K H a xs):TyO K H (.ref a) (.type "tuple")
def rR(K:am):List V->Hp->VK->Prop:=λxs H Q=>∃x y t c b,xs=[x,y]/\sj y=some c/\TyO K H x t/\PySem.W.kitOne K t c=some b/\Q (.bl b) H
section
variable{X:Cx}{K:am}{O:Zg}{t:TE}{fa:aF}
def qG(hK:X.K=K):gf X (.builtin "isinstance") (rR K):=by
 subst hK;intro z5 s J H xs us Q I r h;obtain⟨x,y,t,c,b,rfl,hc,ty,e,q⟩:=h;cases ty with
 |of h=>exact qlt rfl z5 s J H [x,y] us Q I r ⟨x,y,t,c,b,rfl,hc,h,e,q⟩
 | sl h=>
  obtain⟨u,w,rfl,ru,rw'⟩:=fP r
  (first|obtain rfl:=ru.isA rfl|cases ru)
  have ew:w=c:=by
   cases y with
   |ref a=>exact(rw').trans (jm hc)
   |ty n=>exact(rw').trans (jm hc)
   |_=>cases hc
  subst ew;let⟨its,rv,pl,_⟩:=I.list h;obtain⟨o,e1,c1,_⟩:=pl.isList;exact PySem.W.kia_one PySem.W.kitx_list I.kIn ⟨o,e1,c1⟩ e (λz=>nomatch z) λtk=>⟨.bl b,H,I.tok tk,rfl,q⟩
 | st h=>
  obtain⟨u,w,rfl,ru,rw'⟩:=fP r
  (first|obtain rfl:=ru.isA rfl|cases ru)
  have ew:w=c:=by
   cases y with
   |ref a=>exact(rw').trans (jm hc)
   |ty n=>exact(rw').trans (jm hc)
   |_=>cases hc
  subst ew;let⟨its,rv,pl,_⟩:=I.tuple h;obtain⟨o,e1,c1,_⟩:=pl;exact PySem.W.kia_one PySem.W.kitx_tuple I.kIn ⟨o,e1,c1⟩ e (λz=>nomatch z) λtk=>⟨.bl b,H,I.tok tk,rfl,q⟩
noncomputable def sW:D->Option String
 |.non=>some "NoneType"
 |.bl _=>some "bool"
 |.int _=>some "int"
 |.str _=>some "str"
 |.lst _=>some "list"
 |.tup _=>some "tuple"
 |.dct _=>some "dict"
 |.exc _=>none
 |.fn _=>none
 |.tab _ _ _=>none
 |.dit _=>some "dict"
 |.obj _ _=>none
def qrt{H:Hp}{v:V}{d:D}{n:String}(r:Rp K H v d)(e:sW d=some n):TyO K H v (.type n):=by
 cases r with
 |non=>cases e;exact .of .non
 |bl b=>cases e;exact .of (.bl b)
 |int i=>cases e;exact .of (.int i)
 |str x=>cases e;exact .of (.str x)
 |lst h _=>cases e;exact .sl h
 |tup h _=>cases e;exact .st (SqT.of h)
 |dct h _=>cases e;exact .of (.dK h)
 |dit h _=>cases e;exact .of (.dT h)
 |obj _ _=>cases e
 |exc _ _ _=>cases e
 |fn _=>cases e
 |tab _=>cases e
def fD(K:am)(Y:String)(f:String->Option Bool):Prop:=∀s b,f s=some b->PySem.W.kitOne K (.type s) (.type Y)=some b
noncomputable def gP(Y:String):String->Option Bool:=λs=>
 if s="NoneType" then some (decide (Y="NoneType"))else if s="bool" then some (decide (Y="bool")||decide (Y="int"))else if s="int" then some (decide (Y="int"))else if s="str" then some (decide (Y="str"))
 else if s="list" then some (decide (Y="list"))else if s="tuple" then some (decide (Y="tuple"))else if s="dict" then some (decide (Y="dict"))else none
def q9d{Y:String}(h1:PySem.W.kitOne K (.type "NoneType") (.type Y)=some (decide (Y="NoneType")))(h2:PySem.W.kitOne K (.type "bool") (.type Y)=some (decide (Y="bool")||decide (Y="int")))(h3:PySem.W.kitOne K (.type "int") (.type Y)=some (decide (Y="int")))
 (h4:PySem.W.kitOne K (.type "str") (.type Y)=some (decide (Y="str"))) (h5:PySem.W.kitOne K (.type "list") (.type Y)=some (decide (Y="list"))) (h6:PySem.W.kitOne K (.type "tuple") (.type Y)=some (decide (Y="tuple"))) (h7:PySem.W.kitOne K (.type "dict") (.type Y)=some (decide (Y="dict"))):fD K Y (gP Y):=λs b e=>by
 unfold gP at e;split at e
 .rename_i z;subst z;rw[<-e];exact h1
 split at e
 .rename_i z;subst z;rw[<-e];exact h2
 split at e
 .rename_i z;subst z;rw[<-e];exact h3
 split at e
 .rename_i z;subst z;rw[<-e];exact h4
 split at e
 .rename_i z;subst z;rw[<-e];exact h5
 split at e
 .rename_i z;subst z;rw[<-e];exact h6
 split at e
 .rename_i z;subst z;rw[<-e];exact h7
 .cases e
def hG(f:String->Option Bool)(d:D):Option D:=match sW d with
 |some s=>(f s).map .bl
 |none=>none
def qp{Y:String}{f:String->Option Bool}(hk:fD K Y f)(ha:MB K O t fa):ME K O (kF (rR K) (i8 t (i8 (tC (.ty Y)) fy))) (aO (hG f) fa):=λZ J H R M d M' Q S e k=>by
 let⟨x,M1,e1,e⟩:=bP e;obtain⟨e2,rfl⟩:=c7 e;refine ha Z J H R M x _ _ S e1 λv H1 R1 S1 st1 r1=>?_;unfold hG at e2;cases e3:sW x with
 |none=>rw[e3]at e2;cases e2
 | some s=>
  rw[e3]at e2;dsimp only at e2;cases e4:f s with
  |none=>rw[e4]at e2;cases e2
  | some b=>
   rw[e4]at e2;cases e2;exact⟨v,.ty Y,.type s,.type Y,b,rfl,rfl,qrt r1 e3,hk s b e4,k _ H1 R1 S1 st1 (.bl b)⟩
end
def a9(f:aV):aF:=bZ f λds=>ae (D.lst ds)
section
variable{K:am}{O O1 O':Zg}{t:TE}{c:MC}{u:TS}{f:aH}{fn:aV}
def dF(h:MN K O t fn):ME K O t (a9 fn):=h.me
def qB(h:MS c O O1 u f)(hs:cT c O1 O'=true):MS c O O' u f:=λZ E J H R M o hP S e k=>by
 apply h Z E J H R M o hP S e;cases o with
 | nx M'=>
  intro J' H' R' S' s';let⟨S2,s2⟩:=S'.sub' hP hs;exact k J' H' _ S2 (s'.trans s2)
 |bk M'=>exact k
 |ct M'=>exact k
 |rt d M'=>exact k
def qA{k n:Nat}{js:Zg}{wi:TI}{g:TG}{tt:TT}{te:TE}(he:MN c.K O (qe n js wi g tt te) fn)(hs:cT c O O'=true)(hi:k∉O'):MS c O O' (tJ k n js wi g tt te) (aw k (a9 fn)):=
 show MS c O O' (fz (qe n js wi g tt te) (gE k)) (aw k (a9 fn))from cD (dF he) hs hi
noncomputable def mV(fe:aF):aH:=λM=>match fe M with
 |none=>none
 |some (_,M1)=>some (.nx M1)
def FH{fe:aF}(he:ME c.K O t fe)(hs:cT c O O'=true):MS c O O' (qf t) (mV fe):=λZ E J H R M o hP S e k=>by
 unfold mV at e;cases e1:fe M with
 |none=>rw[e1]at e;cases e
 | some p=>
  obtain⟨d,M1⟩:=p;rw[e1]at e;cases e;refine he Z J H R M d M1 _ S e1 λv H1 R1 S1 st1 r1=>?_;let⟨S2,s2⟩:=S1.sub' hP hs;exact k J H1 _ S2 (st1.r.trans s2)
end
noncomputable def wx(i j:Int):Bool:=(decide (-(2^64)<i)&&decide (i<2^64))||(decide (-(2^64)<j)&&decide (j<2^64))
noncomputable def ww(_ j:Int):Bool:=decide (0<j)&&decide (j<1073741824)
noncomputable def Du(_ j:Int):Bool:=decide (0<j)
noncomputable def mS(i j:Int):Bool:=decide (0<=j)&&decide (j<=1000000)&&decide (i.natAbs<2^64)
abbrev gA:D->D->Option D:=lJ ww λi j=>i / j
abbrev bX:D->D->Option D:=lJ Du λi j=>i % j
abbrev oj:D->D->Option D:=lJ mS λi j=>i^j.toNat
abbrev cQ:D->D->Option D:=lJ mS λi j=>i*2^j.toNat
abbrev jG:D->D->Option D:=pI λi j=>i-j
abbrev ol:D->D->Option D:=pI λi j=>Builtin.bitAnd i j
abbrev si:D->D->Option D:=pI λi j=>Builtin.bitXor i j
abbrev uQ:D->D->Option D:=pJ λi j=>decide (i<j)
abbrev Ir:D->D->Option D:=pJ λi j=>decide (i<=j)
abbrev Ax:D->D->Option D:=pJ λi j=>decide (j<i)
section
variable{K:am}
def EH:gY K (rI sr λi j=>.int (i / j)) gA:=lQ λi j h=>by unfold ww at h;simp only[and_eq_true,decide_eq_true_eq]at h;exact h
def qu:gY K (rI (λ_ j=>0<j) λi j=>.int (i % j)) bX:=lQ λi j h=>of_decide_eq_true h
def quq:gY K (rI l9 λi j=>.int (i^j.toNat)) oj:=lQ λi j h=>by unfold mS at h;simp only[and_eq_true,decide_eq_true_eq]at h;exact⟨h.1.1,h.1.2,h.2⟩
def xJ:gY K (rI l9 λi j=>.int (i*2^j.toNat)) cQ:=lQ λi j h=>by unfold mS at h;simp only[and_eq_true,decide_eq_true_eq]at h;exact⟨h.1.1,h.1.2,h.2⟩
def EI:gY K (gM λi j=>.int (i-j)) jG:=wA
def qur:gY K (gM λi j=>.int (Builtin.bitAnd i j)) ol:=wA
def qup:gY K (gM λi j=>.int (Builtin.bitXor i j)) si:=wA
end
section
variable{K:am}{O O':Zg}{t ta tb:TE}{fa fb:aF}{fn:aV}{c:MC}
noncomputable def lY:D->Option D
 |.int i=>some (.int (-i))
 |_=>none
def qva(h:ME K O t fa):ME K O (C6 (rU λi=>.int (-i)) t) (aO lY fa):=λZ J H R M d M' Q S e k=>by
 let⟨x,M1,e1,e⟩:=bP e;obtain⟨e2,rfl⟩:=c7 e;refine h Z J H R M x _ _ S e1 λv H1 R1 S1 st1 r1=>?_
 (first|split at e2|(unfold lY at e2;split at e2))
 .rename_i i;obtain rfl:=r1.isA rfl;cases e2;exact⟨i,rfl,k _ H1 R1 S1 st1 (.int _)⟩
 .cases e2
def dAny:D->Option D
 |.lst xs=>(i9 xs).map λbs=>.bl (bs.any id)
 |_=>none
def iN(i:Nat)(fn:aV):aH:=λM=>if isL M i=true then(match fn M with
 |none=>none
 | some (ys,M1)=>match M1[i]? with
  |some (some (.lst xs))=>if xs.length+ys.length<=sizeLine then some (.nx (M1.set i (some (.lst (xs++ys)))))else none
  |_=>none)else none
def quz{i:Nat}(hi:i∈O)(ha:MN c.K O ta fn)(hs:cT c O O'=true):MS c O O' (qf (sZ c.K "list" F5 (dJ i) (i8 ta fy))) (iN i fn):=λZ E J H R M o hP S e k=>by
 unfold iN at e;split at e
 case isFalse=>cases e
 rename_i hL;cases e1:fn M with
 |none=>rw[e1]at e;cases e
 | some p=>
  obtain⟨ys,M1⟩:=p;rw[e1]at e;dsimp only at e;let⟨l,vs,ds,h1,h2,h3,h4,h5⟩:=S.own i hi;obtain⟨us,_,rfl,rfl,_⟩:=Eu hL h1 h5;refine⟨.ref l,h2,.inl ⟨rfl,us,SqL.of h3⟩,ha Z J H R M ys M1 _ S e1 λb zs H1 R1 S1 st1 b0 bH bR r1=>?_⟩;let⟨l',vs',ds',g1,g2,g3,g4,g5⟩:=S1.own i hi;rw[h2]at g2;cases g2;rw[g1]at e;cases g5 with
  |dct _=>cases e
  |dit _=>cases e
  |lst g5=>
  rename_i vs' ds';dsimp only at e;split at e
  .rename_i hz;cases e;refine⟨l,b,vs',zs,rfl,rfl,g3,bH,by rw[g5.length,r1.length];exact hz,?_⟩;let⟨S2,s2⟩:=(S1.write hi h2 (.lst (g5.append r1))).sub' hP hs;exact k J _ _ S2 (st1.r.trans s2)
  .cases e
def d5(fn:aV)(fb:aF):aV:=bZ fn λxs=>bZ fb λy=>dy (match y with
 |.int k=>if -(2^63)<=k/\k<2^63/\xs.length*k.toNat<=sizeLine then some (replicate k.toNat xs).flatten else none
 |_=>none)
theorem Rps.rep{R:Hp}{xs:List V}{ds:List D}(r:Rps K R xs ds):∀k:Nat,Rps K R (replicate k xs).flatten (replicate k ds).flatten
 |0=>.nil
 | k+1=>by rw[replicate_succ,replicate_succ,flatten_cons,flatten_cons];exact r.append (Rps.rep r k)
def xI(ha:MN K O ta fn)(hb:ME K O tb fb):MN K O (jO rK ta tb) (d5 fn fb):=λZ J H R M d M' Q S e k=>by
 let⟨xs,M1,e1,e⟩:=bP e;let⟨y,M2,e2,e⟩:=bP e;obtain⟨e3,rfl⟩:=c7 e;refine ha Z J H R M xs M1 _ S e1 λl vs H1 R1 S1 st1 h0 hH hR r1=>hb Z J H1 R1 M1 y _ _ S1 e2 λw H2 R2 S2 st2 r2=>?_
 (first|split at e3)
 .rename_i j;obtain rfl:=r2.isA rfl;have e4:=e3;split at e4
  .rename_i hz;cases e4;refine⟨l,j,vs,rfl,rfl,st2.h l _ hH (λi hi=>S.notnew h0 i hi),hz.1,hz.2.1,by rw[r1.length];exact hz.2.2,λp np=>?_⟩;have y:=Ext.hid (o:=.lst (replicate j.toNat vs).flatten) S2.sub np;exact k p _ _ _ (S2.ext y) ((st1.trans st2).trans y.stp) ((st1.trans st2).new np) cA (S2.out np) ((r1.mono st2.r).rep _)
  .cases e4
 .cases e3
end
section
variable{ρ:Model}{A:Around}{E:Z0}{s:Shared}
end
section
variable{X:Cx}{K:am}
end
section
variable{c:MC}{O O':Zg}{te:TE}{fn:aV}
end
theorem dM{α:Type}(a:Array α):∀(k:Nat) (acc:Array α),(foldl (λx1 x2=>x1++x2) acc (replicate k a)).size=acc.size+k*a.size
 |0,acc=>by simp
 | k+1,acc=>by rw[replicate_succ,foldl_cons,dM a k,Array.size_append,Nat.succ_mul];lia
def q6e:fillsNumberSlot (.type "tuple") "mul"=pure false:=
 PySem.fillsNumberSlot_seq F.slot_tuple_mul.lookup (by decide+kernel) F.slot_tuple_rmul.lookup (by decide+kernel)
def qa4:seqRepeat? (.type "tuple")=pure (some (.builtin "tuple.__mul__")):=by unfold seqRepeat?;rw[PySem.seqSlot_of (name:="__mul__") (id:="tuple.__mul__") F.slot_tuple_mul.lookup (by decide+kernel),PySem.seqSlot_of (T:="tuple") (name:="__rmul__") (id:="tuple.__rmul__") F.slot_tuple_rmul.lookup (by decide+kernel)];rfl
def q7r(a:Int)(t:Tok)(l:Addr)(items:Zd)(n:Nat)(dd:Zc)(sl:Array (Option Value)):
 Meets (Builtin.«int.__rmul__» ⟨[.int a t,.ref l],[]⟩) (λ_ R s=>s.heap.get? l=some {cls:=.type "tuple",dict:=dd,data:=.seq items n,slots:=sl}/\R (.ok (.ret Value.notImplemented)) s):=
 .of_wp λprog w A R s h=>by obtain⟨hp,g,d,tk,os⟩:=s;obtain⟨hl,h⟩:=h;wp_walk;exact⟨_,rfl,h⟩
def qdr(l:Addr)(items:Zd)(n:Nat)(dd:Zc)(sl:Array (Option Value))(x:Int)(u:Tok)(h1:1<x)(h2:x<=1000)(he:items.isEmpty=false)(hz:items.size<=1000):
 Meets (Builtin.«tuple.__mul__» ⟨[.ref l,.int x u],[]⟩) (λ_ R s=>s.heap.get? l=some {cls:=.type "tuple",dict:=dd,data:=.seq items n,slots:=sl}/\R (.ok (.ret (Value.ref s.heap.objs.size))) {s with heap:=s.heap.push {cls:=Value.type "tuple",data:=Data.seq (foldl (λx1 x2=>x1++x2) #[] (replicate x.toNat items))},toks:=s.toks}):=
 .of_wp λprog w A R s h=>by
  obtain⟨hp,g,d,tk,os⟩:=s;obtain⟨hl,h⟩:=h;have f1:=AutoSeq1.idx_int;have f2:=AutoSeq1.sub_tuple_tuple;have hc0:¬(decide (x< -2^63)||decide (x≥2^63))=true:=by simp only[or_eq_true,decide_eq_true_eq];lia
  have hc1:¬(items.isEmpty||x==1)=true:=by rw[he,Bool.false_or];simp;lia
  have hc2:¬(decide (x<=0)||items.isEmpty)=true:=by rw[he,Bool.or_false];simp;lia
  have hm:(items.size:Int)*x<=1000*1000:=Int.le_trans (Int.mul_le_mul_of_nonneg_left h2 (Int.natCast_nonneg _)) (Int.mul_le_mul_of_nonneg_right (by lia) (by decide));have hc3:¬(items.size:Int)*x>(2^63-1) / 8:=by lia
  have hc4:¬Builtin.Tuple.tupleTooMany ((items.size:Int)*x)=true:=by
   unfold Builtin.Tuple.tupleTooMany;have:(sizeLine:Int)≥1000*1000:=by decide
   simp;lia
  wp_walk using wpAny_loadPart' hl
  rw[if_neg hc0]
  wp_walk using wpAny_loadPart' hl
  rw[if_neg hc1];rw[if_neg hc2];rw[if_neg hc3];rw[if_neg hc4]
  wp_walk using wpAny_loadPart' hl
  have hc5:¬(foldl (λx1 x2=>x1++x2) #[] (replicate x.toNat items)).size>sizeLine:=by
   rw[dM];have h7:x.toNat*items.size<=1000*1000:=mul_le_mul (by lia) hz;have h8:(sizeLine:Nat)≥1000*1000:=by decide
   simp;lia
  rw[if_neg hc5]
  wp_walk using wpAny_loadPart' hl
  exact⟨_,rfl,h⟩
def DK(K:am):R2:=λx y H Q=>∃l k xs,x=.ref l/\y=.int k/\SqT K H l xs/\1<k/\k<=1000/\xs≠[]/\xs.length<=1000/\∀p,H p=none->Q (.ref p) (aM H p (.tup (replicate k.toNat xs).flatten))
section
variable{X:Cx}{K:am}
def qoz(hK:X.K=K):OpR X (binaryOp .Mult) (DK K):=by
 subst hK;intro z5 s J H x y v u Q I rx ry h;obtain⟨l,k,xs,rfl,rfl,hH,h1,h2,hx,hz,q⟩:=h
 (first|obtain rfl:=rx.isA rfl|cases rx)
 obtain⟨t,rfl⟩:=ry;let⟨its,r1,p1,_⟩:=I.tuple hH;let⟨⟨cls,dd,data,sl⟩,ho,hc,n,hd⟩:=id p1;simp only at hc hd;subst hc hd;have zd:=r1.length;have he:its.toArray.isEmpty=false:=by
  cases its with
  |nil=>exact absurd (r1.nil_iff.mp rfl) hx
  |cons a r=>rfl
 have f0:foldl (λx1 x2=>x1++x2) #[] (replicate k.toNat its.toArray)=(replicate k.toNat its).flatten.toArray:=by have:=d8 its k.toNat [];rw[nil_append]at this;exact this
 refine wpAny_binaryOp_repeat_ref (by decide) ⟨_,ho,rfl⟩ (λs'=>typeIs_int s' k t) q6e F.fills_int_mul F.slot_int_rmul qa4 F.slot_int_index.lookup
  (call_meets F.slot_int_rmul (typeIs_int s k t) F.entry_int_rmul (F.args_int_rmul_2 _ _) (q7r k t l its.toArray n dd sl)
    ⟨ho,rfl,⟨_,ho,rfl⟩,call_meets F.slot_tuple_mul ⟨_,ho,rfl⟩ F.entry_tuple_mul (F.args_tuple_mul_2 _ _) (qdr l its.toArray n dd sl k t h1 h2 he (by rw[jx];lia)) ⟨ho,?_⟩⟩)
 rw[f0];have hsz:(replicate k.toNat xs).flatten.length<=sizeLine:=by rw[iy];exact jz (mul_le_mul (by lia:k.toNat<=1000) hz) (by decide)
 refine⟨.ref s.heap.objs.size,_,I.laid (λb ob q=>je _ q) (jg _) ?_,rfl,q _ (I.hok.fresh (jg _))⟩;exact⟨hsz,_,r1.rep k.toNat,TupN.new _ _⟩
noncomputable def ub(z:Str)(k:Int):Str:=if(k==1||z.length==0)=true then z else⟨foldl (λx1 x2=>x1++x2) #[] (replicate k.toNat z.cps)⟩
def qhe:OpR X (binaryOp .Mult) (λx y H Q=>∃z k,x=.str z/\y=.int k/\0<k/\k<=1000/\0<z.length/\z.length<=1000/\Q (.str (ub z k)) H):=by
 intro z5 s J H x y v u Q I rx ry h;obtain⟨z,k,rfl,rfl,h1,h2,h3,h4,q⟩:=h;obtain⟨t,rfl⟩:=rx;obtain⟨t',rfl⟩:=ry;have hm:z.length*k.toNat<=1000*1000:=mul_le_mul h4 (by lia);refine PySem.P.mul_str (by simp;lia) (λ_ _=>?_) (λ_ _=>?_) ?_
 .intro hgt;have h5:((2:Int)^63-1) / 1000<=(2^63-1) / k:=by
   apply Int.le_ediv_of_mul_le h1;have:((2:Int)^63-1) / 1000*k<=(2^63-1) / 1000*1000:=Int.mul_le_mul_of_nonneg_left h2 (by decide);exact Int.le_trans this (by decide)
  have h6:(1000:Int)<(2^63-1) / 1000:=by decide
  lia
 .unfold Builtin.Str.tooLong;have:(sizeLine:Nat)≥1000*1000:=by decide
  simp;lia
 .rw[if_neg (by lia)];unfold ub at q;split
  .rename_i hh;rw[if_pos hh]at q;exact⟨.str z,H,I,⟨t,rfl⟩,q⟩
  .rename_i hh;rw[if_neg hh]at q;refine⟨?_,⟨.str _,H,I.tok _,⟨_,rfl⟩,q⟩⟩;show(foldl (λx1 x2=>x1++x2) #[] (replicate k.toNat z.cps)).size<=sizeLine;rw[dM];have h7:k.toNat*z.cps.size<=1000*1000:=mul_le_mul (by lia) h4;have h8:(sizeLine:Nat)≥1000*1000:=by decide
   simp;lia
def CMul2(i j:Int):Prop:=CMul i j∨(i.natAbs<2^250/\j.natAbs<2^250)
def Fn{k:Int}(h:k.natAbs<2^250):Builtin.Int.intBits k<=250:=by
 unfold Builtin.Int.intBits;split
 .exact zero_le _
 .rename_i h0;have hk:k.natAbs≠0:=λz=>h0 (by simpa using z);have:k.natAbs.log2<250:=(Nat.log2_lt hk).mpr h;lia
def CMul2.ok{i j:Int}(h:CMul2 i j):IntMulOk i j:=by
 rcases h with h|⟨h1,h2⟩
 .exact h.ok
 .exact IntMulOk.of_le (Fn h1) (Fn h2) (by decide)
def op_mul2:OpR X (binaryOp .Mult) (rI CMul2 λi j=>.int (i*j)):=qS λ_ _ _ _ _ _ _ hc q=>mul_int q hc.ok
noncomputable def oo(i:Int):Bool:=decide (i.natAbs<2^250)
def t0(i j:Int):Bool:=wx i j||(oo i&&oo j)
def qhi{i j:Int}(h:t0 i j=true):CMul2 i j:=by
 unfold t0 wx oo at h;simp only[or_eq_true,and_eq_true,decide_eq_true_eq]at h;rcases h with h|h
 .exact .inl h
 .exact .inr h
def DJ(K:am):R2:=λx y H Q=>rI CMul2 (λi j=>.int (i*j)) x y H Q∨DK K x y H Q∨∃z k,x=.str z/\y=.int k/\0<k/\k<=1000/\0<z.length/\z.length<=1000/\Q (.str (ub z k)) H
def jA(hK:X.K=K):OpR X (binaryOp .Mult) (DJ K):=op_mul2.or ((qoz hK).or qhe)
end
def ia:D->D->Option D
 |.int i,.int j=>if t0 i j=true then some (.int (i*j))else none
 |.tup xs,.int k=>if 1<k/\k<=1000/\xs≠[]/\xs.length<=1000 then some (.tup (replicate k.toNat xs).flatten)else none
 |.str z,.int k=>if 0<k/\k<=1000/\0<z.length/\z.length<=1000 then some (.str (ub z k))else none
 |_,_=>none
def FL{K:am}:gY K (DJ K) ia:=λH R x y d e u Q s rx ry q k=>by
 unfold ia at q;split at q
 .rename_i i j;split at q
  .rename_i h
   (first|obtain rfl:=q.isA rfl|cases q)
   (first|obtain rfl:=rx.isA rfl|cases rx)
   (first|obtain rfl:=ry.isA rfl|cases ry)
   exact .inl ⟨i,j,rfl,rfl,qhi h,k _ H R (Ext.refl s) (.int _)⟩
  ·(first|obtain rfl:=q.isA rfl|cases q)
 .rename_i ds j;split at q
  .rename_i hc
   (first|obtain rfl:=q.isA rfl|cases q)
   (first|obtain rfl:=ry.isA rfl|cases ry)
   obtain⟨a,xs,rfl,h,r⟩:=rx.isT;refine .inr (.inl ⟨a,j,xs,rfl,rfl,SqT.of (s _ _ h),hc.1,hc.2.1,λz=>?_,by rw[r.length];exact hc.2.2.2,λp np=>?_⟩)
   .subst z
    (first|obtain rfl:=r.isA rfl|cases r)
    exact hc.2.2.1 rfl
   .have y:=Ext.new (o:=.tup (replicate j.toNat xs).flatten) s np;exact k _ _ _ y (.tup cA ((r.rep _).mono y.r))
  ·(first|obtain rfl:=q.isA rfl|cases q)
 .rename_i z j;split at q
  .rename_i hc
   (first|obtain rfl:=q.isA rfl|cases q)
   (first|obtain rfl:=ry.isA rfl|cases ry)
   (first|obtain rfl:=rx.isA rfl|cases rx)
   exact .inr (.inr ⟨z,j,rfl,rfl,hc.1,hc.2.1,hc.2.2.1,hc.2.2.2,k _ H R (Ext.refl s) (.str _)⟩)
  ·(first|obtain rfl:=q.isA rfl|cases q)
 ·(first|obtain rfl:=q.isA rfl|cases q)
section
variable{X:Cx}{K:am}{O:Zg}{pos:Pos}
end
inductive TyX(K:am)(H:Hp):V->Value->Prop where
 |exc {a C:Addr} (h:H a=some (sh a (.ref C))) (k:ExcK K C):TyX K H (.ref a) (.ref C)
 |non:TyX K H .non (.type "NoneType")
section
variable{X:Cx}{K:am}{O:Zg}{t:TE}{fa:aF}
structure KitE(K:am)(c:Value)(sub:Str->Option Bool):Prop where
 exc:∀x C b,PySem.W.nsIn K mainGlobals x=some (some (.ref C))->sub x=some b->PySem.W.kitOne K (.ref C) c=some b
 non:PySem.W.kitOne K (.type "NoneType") c=some false
structure qze(K:am)(cs:Ze)(sub:Str->Option Bool):Prop where
 exc:∀x C b,PySem.W.nsIn K mainGlobals x=some (some (.ref C))->sub x=some b->PySem.W.kitAny K (.ref C) cs=some b
 non:PySem.W.kitAny K (.type "NoneType") cs=some false
end
abbrev Xr:=az->Option (Str×az)
def Iz(K:am)(E:XK)(C:Str)(H:Hp):Prop:=∀v,PySem.W.nsIn K mainGlobals C=some (some v)->E v none H
section
variable(K:am)(O:Zg)
end
section
variable{K:am}{O:Zg}{E:XK}{t ta tb:TE}{tr:TA}{tt:TT}{fa fb:aF}{fs:aV}{xa xb xs:Xr}
end
def MSX(c:MC)(O:Zg)(t:TS)(E:XK)(fx:Xr):Prop:=∀(Z:Anc) (D:Ends) (J:St) (H R:Hp) (M:az) (C:Str) (M':az),Z.P=c.P->StR c.K Z O J H R M->fx M=some (C,M')->(∀O' J' H' R',StR c.K Z O' J' H' R' M'->Iz c.K E C H')->t D J H
def MSXa(c:MC)(O:Zg)(t:TS)(E:XK)(fx:Xr):Prop:=∀(Z:Anc) (D:Ends) (J:St) (H R:Hp) (M:az) (C:Str) (M':az),Z.P=c.P->StR c.K Z O J H R M->fx M=some (C,M')->(∀H' R',StR c.K Z O J H' R' M'->Same R R'->Iz c.K E C H')->t D J H
def MSXa.g{c:MC}{O:Zg}{t:TS}{E:XK}{fx:Xr}(h:MSXa c O t E fx):MSX c O t E fx:=λZ D J H R M C M' hP S e k=>h Z D J H R M C M' hP S e λH' R' S' _=>k O J H' R' S'
section
variable{c:MC}{O O' O1:Zg}{t u:TS}{te:TE}{tt:TT}{tr:TA}{g:TG}{f h:aH}{fe:aF}{fs:aV}{ft:eI}{E:XK}{xe xt fx hx:Xr}
end
section
variable{c:MC}{O O':Zg}{cv:Value}{i:Nat}{sub:Str->Bool}{tb:XK->TS}{ts:TS}{fb fh:aH}{xb:Xr}
end
section
variable{K:am}{O:Zg}{tr:TA}{fs:aV}{E:XK}{n:Nat}
end
section
variable{K:am}
end
section
variable(K:am)(O:Zg)
end
section
variable{K:am}{O:Zg}{ta:TE}{tr:TA}{fa:aF}{fs:aV}{E:XK}{n:Nat}
end
def Gv{α:Type}{o:Option (α×az)}{x:α}(h:o.map (·.1)=some x):∃M,o=some (x,M):=by
 cases o with
 |none=>cases h
 |some p=>cases h;exact⟨p.2,rfl⟩
theorem gR{n:Nat}{js:Zg}{fg:eM}{fe:aF}{M:az}(g:D->D):∀(xs:List D),(∀x∈xs,∃M1,fg x (hW n js M)=some M1/\(fe M1).map (·.1)=some (g x))->cz n js none fg (ae true) fe xs M=some (xs.map g,M)
 |[],_=>rfl
 | x::xs,h=>by let⟨M1,h1,h2⟩:=h x jj;let⟨M2,h2⟩:=Gv h2;simp only[cz,h1,ae,h2,gN];rw[(gR g xs λy hy=>h y (ji _ hy))];rfl
theorem qO{n:Nat}{js:Zg}{fg:eM}{ft:eI}{fe:aF}{M:az}(p:D->Bool)(g:D->D):∀(xs:List D),(∀x∈xs,∃M1,fg x (hW n js M)=some M1/\ft M1=some (p x,M1)/\(p x=true->(fe M1).map (·.1)=some (g x)))->cz n js none fg ft fe xs M=some ((xs.filter p).map g,M)
 |[],_=>rfl
 | x::xs,h=>by
  let⟨M1,h1,h2,h3⟩:=h x jj;have ih:=qO p g xs λy hy=>h y (ji _ hy);cases hp:p x with
  | false=>
   rw[hp]at h2;simp only[cz,h1,h2,gN];rw[ih,filter_cons_of_neg (by rw[hp];exact Bool.false_ne_true)]
  | true=>
   rw[hp]at h2;let⟨M3,h4⟩:=Gv (h3 hp);simp only[cz,h1,h2,h4,gN];rw[ih,filter_cons_of_pos hp];rfl
theorem uz{n p q:Nat}{js:Zg}{fg:eM}{fe:aF}{S:Type}(M:S->az)(G:D->Prop):∀(xs:List D),(∀x∈xs,∀s,∃M1 M2 y s',fg x (hW n js (M s))=some M1/\fe M1=some (y,M2)/\gN (some (p,q)) (M s) M2=M s'/\G y)->∀s,∃ys s',cz n js (some (p,q)) fg (ae true) fe xs (M s)=some (ys,M s')/\ys.length=xs.length/\∀y∈ys,G y
 |[],_,s=>⟨[],s,rfl,rfl,λ_ h=>nomatch h⟩
 | x::xs,h,s=>by
  let⟨M1,M2,y,s1,h1,h2,h3,h4⟩:=h x jj s;let⟨ys,s2,g1,g2,g3⟩:=uz M G xs (λy hy=>h y (ji _ hy)) s1;refine⟨y::ys,s2,?_,by rw[jy,jy,g2],λz hz=>?_⟩
  .simp only[cz,h1,ae,h2,h3];rw[g1]
  .rcases List.mem_cons.mp hz with rfl|hz
   .exact h4
   .exact g3 z hz
theorem iF{fg:eM}{fb:aH}(I:Nat->az->Prop):∀(xs:List D) (k:Nat) (M:az),I k M->(∀i x M,xs[i]? =some x->I (k+i) M->∃M1 M2,fg x M=some M1/\(fb M1=some (.nx M2)∨fb M1=some (.ct M2))/\I (k+i+1) M2)->∃M',eL fg fb xs M=some (.nx M')/\I (k+xs.length) M'
 |[],k,M,h0,_=>⟨M,rfl,h0⟩
 | x::xs,k,M,h0,hs=>by
  obtain⟨M1,M2,h1,h2,h3⟩:=hs 0 x M rfl h0;obtain⟨M',g1,g2⟩:=iF I xs (k+1) M2 h3 λi y M e hi=>by
   have e1:k+1+i=k+(i+1):=by lia
   rw[e1]at hi ⊢;exact hs (i+1) y M (by simpa using e) hi
  refine ⟨M', ?_, by rw[jy];have e1:k+(xs.length+1)=k+1+xs.length:=by lia
                     rw[e1];exact g2⟩
  simp only[eL,h1];rcases h2 with h2|h2
  .rw[h2];exact g1
  .rw[h2];exact g1
def Fv{fg:eM}{fb:aH}(I:az->Prop):∀(xs:List D) (M:az),I M->(∀x M,x∈xs->I M->∃M1 M2,fg x M=some M1/\(fb M1=some (.nx M2)∨fb M1=some (.ct M2))/\I M2)->∃M',eL fg fb xs M=some (.nx M')/\I M':=λxs M h0 hs=>by let⟨M',h1,h2⟩:=iF (λ_=>I) xs 0 M h0 λi x M e hi=>hs x M (kc e) hi;exact⟨M',h1,h2⟩
def Iu{α:Type}(x:α)(xs:List α):cc (x::xs) 0=some x:=by unfold cc fM;simp
def nC{α:Type}(x y:α)(xs:List α):cc (x::y::xs) 1=some y:=yC rfl
def at2{α:Type}(x y z:α)(xs:List α):cc (x::y::z::xs) 2=some z:=yC rfl
def at3{α:Type}(x y z u:α)(xs:List α):cc (x::y::z::u::xs) 3=some u:=yC rfl
def mv{α:Type}{xs:List α}{i:Int}(h0:0<=i)(h:i<xs.length):cc xs i=xs[i.toNat]? :=by unfold cc fM;rw[if_pos h0,if_pos h];rfl
def dw{n:Nat}(h:n<=1000000):n<=sizeLine:=jz h (by decide)
def ip(lo:Int)(n:Nat):(de lo n).length=n:=by simp[de]
def mN{lo:Int}{n i:Nat}{d:D}(h:(de lo n)[i]? =some d):i<n/\d=.int (lo+(i:Int)):=by
 have hi:i<n:=by
  have:=(List.getElem?_eq_some_iff.mp h).1
  rwa [ip]at this
 refine⟨hi,?_⟩;unfold de at h;rw[jo,k9 hi]at h;exact(jm h).symm
noncomputable def nx(s:Int):Int:=(s*1181783497276652981+12345678910987) % (2^61-1)
def qqt(i j:Int):cZ (.int i) (.int j)=some (i==j):=by simp[cZ,D.toP,SeqAt.shaped,PyData.canLay0,PyData.depth,PyData.eqv]
def ie{i j:Str}(hi:PyData.strOk i=true)(hj:PyData.strOk j=true):cZ (.str i) (.str j)=some (i==j):=by simp[cZ,D.toP,SeqAt.shaped,PyData.canLay0,PyData.depth,PyData.eqv,hi,hj]
section
variable{α β:Type}{a:az->Option (α×az)}{k:α->az->Option (β×az)}{M:az}{fa fb fc:aF}{ga gb:eI}{fs:aV}{g g':D->D->Option D}{g1:D->Option D}{gl:D->Option (List D)}{g2:D->D->Option (List D)}{fl fh:az->Option (Option Int×az)}
def cM:bZ a k M=(a M).bind λp=>k p.1 p.2:=by unfold bZ;cases a M<;>rfl
def qwj{x:α}:ae x M=some (x,M):=rfl
def eW{o:Option α}:dy o M=o.map λx=>(x,M):=by cases o<;>rfl
def Em{i:Nat}:aa i M=(M[i]?).join.map λd=>(d,M):=by
 unfold aa;cases h:M[i]? with
 |none=>rfl
 |some o=>cases o<;>rfl
def Ek:af g fa fb M=(fa M).bind λp=>(fb p.2).bind λq=>(g p.1 q.1).map λx=>(x,q.2):=by unfold af;rw[cM];congr 1;funext p;rw[cM];congr 1;funext q;rw[eW]
def qwl:aO g1 fa M=(fa M).bind λp=>(g1 p.1).map λx=>(x,p.2):=by unfold aO;rw[cM];congr 1;funext p;rw[eW]
def qqj:gq gl fa M=(fa M).bind λp=>(gl p.1).map λx=>(x,p.2):=by unfold gq;rw[cM];congr 1;funext p;rw[eW]
def qqi:qj g2 fa fb M=(fa M).bind λp=>(fb p.2).bind λq=>(g2 p.1 q.1).map λx=>(x,q.2):=by unfold qj;rw[cM];congr 1;funext p;rw[cM];congr 1;funext q;rw[eW]
def Ik:D->D->Option D
 |.lst xs,.int j=>cc xs j
 |_,_=>none
def qwp{i:Nat}:iQ i fb M=(fb M).bind λq=>((q.2[i]?).join).bind λx=>(Ik x q.1).map λz=>(z,q.2):=by
 unfold iQ;rw[cM];congr 1;funext q;rw[cM,Em];cases(q.2[i]?).join with
 |none=>rfl
 |some x=>show dy _ _=_;rw[eW];first|rfl|(cases x<;>(cases q.1<;>rfl))
noncomputable def Ay:D->Option Bool
 |.bl b=>some b
 |_=>none
def yH:bq fa M=(fa M).bind λp=>(Ay p.1).map λx=>(x,p.2):=by
 unfold bq;rw[cM];congr 1;funext p;rw[eW]
 first|rfl|(cases p.1<;>rfl)
def qwm:e8 ga M=(ga M).map λp=>(!p.1,p.2):=by unfold e8;rw[cM];cases ga M<;>rfl
def qws:lV ga gb M=(ga M).bind λp=>if p.1=true then gb p.2 else some (false,p.2):=by unfold lV;rw[cM];congr 1;funext p;split<;>rfl
def qyq:fq ga gb M=(ga M).bind λp=>if p.1=true then some (true,p.2)else gb p.2:=by unfold fq;rw[cM];congr 1;funext p;split<;>rfl
def qqs:qk fa fb M=(bq fa M).bind λp=>if p.1=true then fb p.2 else some (.bl false,p.2):=by unfold qk;rw[cM];congr 1;funext p;split<;>rfl
def qqk:tD fa M=(bq fa M).map λp=>(.bl (!p.1),p.2):=by unfold tD;rw[cM];cases bq fa M<;>rfl
def qys:jD ga fa fb M=(ga M).bind λp=>if p.1=true then fa p.2 else fb p.2:=by unfold jD;rw[cM];congr 1;funext p;split<;>rfl
def qwn:ag M=some ([],M):=rfl
def qqp:aj fa fs M=(fa M).bind λp=>(fs p.2).map λq=>(p.1::q.1,q.2):=by unfold aj;rw[cM];congr 1;funext p;rw[cM];cases fs p.2<;>rfl
def qwf:bW fs M=(fs M).bind λp=>if p.1.length<=sizeLine then some (.tup p.1,p.2)else none:=by unfold bW;rw[cM];congr 1;funext p;rw[eW];split<;>rfl
def qwo:aT fs M=(fs M).bind λp=>if p.1.length<=sizeLine then some (p.1,p.2)else none:=by unfold aT;rw[cM];congr 1;funext p;rw[eW];split<;>rfl
def qyr:a9 fs M=(fs M).map λp=>(.lst p.1,p.2):=by unfold a9;rw[cM];cases fs M<;>rfl
def qqr{f:List D->Option D}:aU f fs M=(fs M).bind λp=>(f p.1).map λx=>(x,p.2):=by unfold aU;rw[cM];congr 1;funext p;rw[eW]
def qlk{f:List D->Option D}:i4 f fs M=(fs M).bind λp=>(pW (f p.1)).map λx=>(x,p.2):=by unfold i4;rw[cM];congr 1;funext p;rw[eW]
noncomputable def kt:D->Option (List D)
 |.lst xs=>some xs
 |_=>none
def qlj{f:List D->List D->Option (D×List D)}{i:Nat}:gn f i fs M=(fs M).bind λp=>((p.2[i]?).join.bind kt).bind λxs=>(f xs p.1).map λr=>(r.1,p.2.set i (some (.lst r.2))):=by
 unfold gn;rw[cM];congr 1;funext p;cases h:p.2[i]? with
 |none=>rfl
 | some o=>
  cases o with
  |none=>rfl
  | some d=>
   cases d with
   | lst xs=>
    show(match f xs p.1 with|some (d,ys)=>some (d,p.2.set i (some (.lst ys)))|none=>none)=_;show _=(f xs p.1).map _;cases f xs p.1<;>rfl
   |_=>rfl
def qqq{n:Nat}{js:Zg}{bw:Option (Nat×Nat)}{fg:eM}:cy n js bw fs fg ga fa M=(fs M).bind λp=>if p.1.length<=sizeLine then cz n js bw fg ga fa p.1 p.2 else none:=by unfold cy;rw[cM]
def qwh:br fa M=(fa M).bind λp=>(dE p.1).map λx=>(x,p.2):=by unfold br;rw[cM];congr 1;funext p;rw[eW];cases p.1<;>rfl
def rG:List D->Option (List D)
 |[.int j]=>if e7 j=true then some (de 0 j.toNat)else none
 |_=>none
def Fu:gQ fs M=(fs M).bind λp=>(rG p.1).map λx=>(x,p.2):=by unfold gQ;rw[cM];congr 1;funext p;rw[eW];rfl
def qZ:List D->Option (List D)
 | [x,y]=>match dE x,dE y with
  |some xs,some ys=>some (dg xs ys)
  |_,_=>none
 |_=>none
def qwe:gy fs M=(fs M).bind λp=>(qZ p.1).map λx=>(x,p.2):=by unfold gy;rw[cM];congr 1;funext p;rw[eW];rfl
noncomputable def lG:D->Option (Option Int)
 |.int i=>some (some i)
 |_=>none
def qqg:qx fa M=(fa M).bind λp=>(lG p.1).map λx=>(x,p.2):=by unfold qx;rw[cM];congr 1;funext p;rw[eW];cases p.1<;>rfl
def qyp:qT fa fl fh M=(fa M).bind λp=>(fl p.2).bind λq=>(fh q.2).bind λr=>(pH p.1 q.1 r.1).map λx=>(x,r.2):=by unfold qT;rw[cM];congr 1;funext p;rw[cM];congr 1;funext q;rw[cM];congr 1;funext r;rw[eW]
def qli:uw g g' fa fb fc M=(fa M).bind λp=>(fb p.2).bind λq=>((g p.1 q.1).bind Ay).bind λb=>if b=true then(fc q.2).bind λr=>(g' q.1 r.1).map λx=>(x,r.2)else some (.bl false,q.2):=by
 unfold uw;rw[cM];congr 1;funext p;rw[cM];congr 1;funext q;rw[cM,yH,eW];cases g p.1 q.1 with
 |none=>rfl
 | some d=>
  cases d with
  | bl b=>
   cases b with
   | true=>
    show bZ fc (λz=>dy (g' q.1 z)) q.2=_;rw[cM];congr 1;funext r;rw[eW]
   |false=>rfl
  |_=>rfl
def yG{f h:aH}:aq f h M=(f M).bind λo=>match o with
 |.nx M1=>h M1
 |o=>some o:=by
 unfold aq;cases f M with
 |none=>rfl
 |some o=>cases o<;>rfl
def qq7{i:Nat}:aw i fa M=(fa M).map λp=>.nx (p.2.set i (some p.1)):=by unfold aw;cases fa M<;>rfl
def qq9{i:Nat}:cH i fs M=(fs M).bind λp=>if i<p.2.length then some (.nx (p.2.set i (some (.lst p.1))))else none:=by unfold cH;cases fs M<;>rfl
def qqe{fg:eM}:jE fa fg M=(fa M).bind λp=>(fg p.1 p.2).map .nx:=by
 unfold jE;cases fa M with
 |none=>rfl
 | some p=>
  obtain⟨d,M1⟩:=p;show(match fg d M1 with|none=>none|some M2=>some (Out.nx M2))=(fg d M1).map _;cases fg d M1<;>rfl
def qwg{f h:aH}:cJ ga f h M=(ga M).bind λp=>if p.1=true then f p.2 else h p.2:=by unfold cJ;cases ga M<;>rfl
def qq8:aB fa M=(fa M).map λp=>.rt p.1 p.2:=by unfold aB;cases fa M<;>rfl
def qlg:mr fs M=(fs M).map λp=>.rt (.lst p.1) p.2:=by unfold mr;cases fs M<;>rfl
def qlf{i:Nat}:kL i M=((M[i]?).join.bind kt).map λd=>.rt (.lst d) (M.set i none):=by
 unfold kL;cases h:M[i]? with
 |none=>rfl
 | some o=>
  cases o with
  |none=>rfl
  |some d=>cases d<;>rfl
def GA{α:Type}{i:Nat}{x:Option α}:(if isL M i=true then x else none)=((M[i]?).join.bind kt).bind λ_=>x:=by
 unfold isL;cases h:M[i]? with
 |none=>rfl
 | some o=>
  cases o with
  |none=>rfl
  |some d=>cases d<;>rfl
def qqa:aZ M=some (.nx M):=rfl
def qlh:mV fa M=(fa M).map λp=>.nx p.2:=by unfold mV;cases fa M<;>rfl
def qqb{gm:List D->List D->Option (List D)}{i:Nat}:dD gm i fs M=((M[i]?).join.bind kt).bind λ_=>(fs M).bind λp=>((p.2[i]?).join.bind kt).bind λxs=>(gm xs p.1).map λys=>.nx (p.2.set i (some (.lst ys))):=by
 refine Eq.trans ?_ (GA);unfold dD;congr 1;cases fs M with
 |none=>rfl
 | some p=>
  show(match p.2[i]? with|some (some (.lst xs))=>_|_=>none)=_;show _=((p.2[i]?).join.bind kt).bind _;cases h:p.2[i]? with
  |none=>rfl
  | some o=>
   cases o with
   |none=>rfl
   | some d=>
    cases d with
    | lst xs=>
     show(match gm xs p.1 with|some ys=>some (Out.nx _)|none=>none)=(gm xs p.1).map _;cases gm xs p.1<;>rfl
    |_=>rfl
def qqd{i:Nat}:iN i fs M=((M[i]?).join.bind kt).bind λ_=>(fs M).bind λp=>((p.2[i]?).join.bind kt).bind λxs=>if xs.length+p.1.length<=sizeLine then some (.nx (p.2.set i (some (.lst (xs++p.1)))))else none:=by
 refine Eq.trans ?_ (GA);unfold iN;congr 1;cases fs M with
 |none=>rfl
 | some p=>
  show(match p.2[i]? with|some (some (.lst xs))=>_|_=>none)=_;show _=((p.2[i]?).join.bind kt).bind _;cases h:p.2[i]? with
  |none=>rfl
  | some o=>
   cases o with
   |none=>rfl
   |some d=>cases d<;>rfl
def rq(x d k:D):Option D:=match x,k with
 |.lst xs,.int j=>(fM xs.length j).map λm=>.lst (xs.set m d)
 |_,_=>none
def qle{i:Nat}:p6 i fa fb M=(fa M).bind λp=>(fb p.2).bind λq=>((q.2[i]?).join).bind λx=>(rq x p.1 q.1).map λy=>.nx (q.2.set i (some y)):=by
 unfold p6;cases fa M with
 |none=>rfl
 | some p=>
  show(match fb p.2 with|some (.int k,M2)=>_|_=>none)=(fb p.2).bind _;cases fb p.2 with
  |none=>rfl
  | some q=>
   obtain⟨y,M2⟩:=q;cases y with
   | int j=>
    show(match M2[i]? with|some (some (.lst xs))=>_|_=>none)=((M2[i]?).join).bind _;cases h:M2[i]? with
    |none=>rfl
    | some o=>
     cases o with
     |none=>rfl
     | some d=>
           cases d with
           | lst xs=>
            show(match fM xs.length j with|some m=>some (Out.nx _)|none=>none)=((fM xs.length j).map _).map _;cases fM xs.length j<;>rfl
           |_=>rfl
   | _=>
    show none=((M2[i]?).join).bind _;cases h:(M2[i]?).join with
    |none=>rfl
    |some x=>cases x<;>rfl
def qqc{fg:eM}{f:aH}:bI fs fg f M=(fs M).bind λp=>eL fg f p.1 p.2:=by unfold bI;cases fs M<;>rfl
def qqn{i:Nat}{d:D}:ai i d M=some (M.set i (some d)):=rfl
end
def qpt{n:Nat}(h:n<=1000000):(n<=sizeLine)=True:=eq_true (dw h)
def qoj{n d:Nat}{k:Int}(h:0<=k):HT.sIx n d (some k)=min k.toNat n:=by show(if k<0 then(k+(n:Int)).toNat else min k.toNat n)=_;rw[if_neg (by lia)]
def yF{xs:List D}{k:Int}(h:0<=k):fA xs none (some k)=xs.take k.toNat:=by unfold fA;rw[qoj h,HT.sIx_none,drop_zero,sub_zero];exact List.take_eq_take_min.symm
def u7(K:am)(p:Addr):It:=
 ⟨λi H=>∃xs x,SqL K H p xs/\xs[i]? =some x,
  λi H v H'=>∃T x,v=.ref T/\H T=none/\H'=aM H T (.tup [.int (i:Int),x])/\∀xs,SqL K H p xs->xs[i]? =some x,
  λi H=>∃xs,SqL K H p xs/\xs.length<=i⟩
def qwu(p e it:Addr)(i:Nat)(h:Heap):Prop:=(∃old,IsEnum h e it (i:Int) old)/\h.IsListIter it p i
def qf3{P:Program}{w:World}{K:am}{zo:Zi}{x1:Nat}{pos:Pos}{p e it:Addr}(hei:e≠it):
 Turn P w K (.Tuple zo x1 pos) (u7 K p) [e,it] e (qwu p e it) where
 mem:=by simp
 obj:=λi h st c hc=>by
  obtain⟨⟨old,he⟩,o,go,_,gd⟩:=st;simp only[mem_cons,not_mem_nil,or_false]at hc;rcases hc with rfl|rfl
  .exact⟨_,he,λv e=>by cases e⟩
  .exact⟨o,go,λv e=>by rw[gd]at e;cases e⟩
 keep:=λi h h' st k=>by obtain⟨⟨old,he⟩,o,go,r⟩:=st;exact⟨⟨old,k e (by simp) _ he⟩,o,k it (by simp) _ go,r⟩
 item:=by
  intro X hP hw hK hc i z5 s J H E I hf st hg;subst hP hw hK;obtain⟨xs,x,q1,ex⟩:=hg;let⟨it1,r1,t1,_⟩:=I.list q1;let⟨u,eu,ru⟩:=r1.get ex;obtain⟨⟨old,he⟩,j1⟩:=st;refine wpAny_pyNext_enum_item he j1 t1.isList (by simpa using eu) hei λh' ho n1 tp sz kk=>?_;refine⟨_,rfl,?_⟩;refine wpAny_letOwnedTupleGo_enum ho λh'' z'' s''=>?_;have fresh:H s.heap.objs.size=none:=I.hok.fresh (jg _);have zne:s.heap.objs.size≠e:=λq=>by have:=jd he;rw[<-q]at this;exact xo _ this
  have keep:∀c o,c∉[e,it]->s.heap.get? c=some o->h''.get? c=some o:=λc o hc q=>by simp only[mem_cons,not_mem_nil,or_false,not_or]at hc;exact s''.extBut c o hc.1 (kk c o hc.1 hc.2 q)
  have tp':h''.get? s.heap.objs.size=some {cls:=.type "tuple",data:=.seq #[.int i s.toks,u]}:=s''.extBut _ _ zne tp;have I':Inv X z5 J (aM H s.heap.objs.size (.tup [.int (i:Int),x])) {s with heap:=h'',toks:=s.toks+1}:=by
   refine I.step (ch:=[e,it]) (λc hc=>?_) (λc o _ _ hc e _=>keep c o hc e) (λc o _ _ hc e _=>⟨o.slots,keep c o hc e⟩) (λc o _ e n=>?_) (λc o hc e=>⟨o,keep c o hc e⟩)
    (λc zs e=>?_) (λc o w' e=>?_) (λc ps e=>⟨#[],?_⟩) (λm hm=>?_) (λc o e=>?_) I.bare
   .let⟨_,f1,f2,f3,f4,f5⟩:=hf c hc;exact⟨f3,f1,f4,f5⟩
   .rw[aX (jq (jd e))];exact n
   .rw[aX (gr e fresh)];exact e
   .rw[aX (gr e fresh)];exact e
   .rw[aX (gr e fresh),e];simp
   .obtain⟨o,es,ep,ho,r⟩:=hm;exact⟨o,es,ep,keep _ o (λq=>(hf _ q).2.1 rfl) ho,r⟩
   .by_cases hb:c=s.heap.objs.size
    .subst hb;rw[cA]at e;cases e;exact⟨by show 2<=sizeLine;decide,[.int i s.toks,u],.cons ⟨_,rfl⟩ (.cons ru .nil),⟨_,tp',⟨rfl,_,rfl⟩,rfl⟩⟩
    .rw[aX hb]at e;refine(I.hok c o e).stay (λd w' hd q=>keep d w' (λm=>?_) q) (λd q=>?_) λd zs q=>?_
     .have n:=(hf d m).1;rcases hd with rfl|hd
      .rw[n]at e;cases e
      .rw[n]at hd;cases hd
     .rw[aX (gr q fresh)];exact q
     .rw[aX (gr q fresh)];exact q
  have lt:∀c∈[e,it],c<s.heap.objs.size:=λc hc=>by
   simp only[mem_cons,not_mem_nil,or_false]at hc;rcases hc with rfl|rfl
   .exact jd he
   .obtain⟨o,e,_⟩:=j1;exact jd e
  refine⟨.ref s.heap.objs.size,_,I',rfl,⟨_,x,rfl,fresh,rfl,λzs q=>by rw[I.list_inj q q1];exact ex⟩,?_,λc hc=>?_⟩
  .obtain⟨o,go,r⟩:=n1;exact⟨⟨u,by simpa using z''⟩,o,s''.extBut _ _ hei.symm go,r⟩
  .rw[aX (jq (lt c hc))];exact(hf c hc).1
 done:=by
  intro X hP hw hK hc i z5 s J H E I hf st hg;subst hP hw hK;obtain⟨xs,q1,hl⟩:=hg;let⟨it1,r1,t1,_⟩:=I.list q1;obtain⟨⟨old,he⟩,j1⟩:=st;have l1:=r1.length;refine wpAny_pyNext_enum_end (I.ok.hd hc) he j1 t1.isList (by simp;lia) λh' kk=>⟨rfl,?_⟩;have keep:∀c o,c∉[e,it]->s.heap.get? c=some o->h'.get? c=some o:=λc o hc q=>by simp only[mem_cons,not_mem_nil,or_false,not_or]at hc;exact kk c o hc.2 q
  show Inv X z5 J H {s with heap:=h',toks:=s.toks};refine I.step (g':=s.gens) (d':=s.drawn) (ch:=[e,it]) (λc hc=>?_) (λc o _ _ hc e _=>keep c o hc e) (λc o _ _ hc e _=>⟨o.slots,keep c o hc e⟩) (λc o _ e n=>n) (λc o hc e=>⟨o,keep c o hc e⟩)
   (λc zs e=>e) (λc o w' e=>e) (λc ps e=>⟨#[],by rw[e];simp⟩) (λm hm=>?_) (λc o e=>?_) I.bare
  .let⟨_,f1,f2,f3,f4,f5⟩:=hf c hc;exact⟨f3,f1,f4,f5⟩
  .obtain⟨o,es,ep,ho,r⟩:=hm;exact⟨o,es,ep,keep _ o (λq=>(hf _ q).2.1 rfl) ho,r⟩
  .refine(I.hok c o e).stay (λd w' hd q=>keep d w' (λm=>?_) q) (λd q=>q) λd zs q=>q;have n:=(hf d m).1;rcases hd with rfl|hd
   .rw[n]at e;cases e
   .rw[n]at hd;cases hd
 self:=λ_ _ _ _ _ st h=>by obtain⟨⟨old,he⟩,_⟩:=st;exact wpAny_pyIter_enum he h
section
variable{X:Cx}{a:Expr}{ta:TE}{p pos:Pos}{zo:Zi}{x1:Nat}{tp:Pos}
def Dj(K:am)(ta:TE):TI:=λJ H R=>ta J H λv H1=>∃p1,[v]=[V.ref p1]/\(∃xs,SqL K H1 p1 xs)/\R (u7 K p1) H1
def FY{K:am}(hK:X.K=K)(hg:Gl X "enumerate")(hm:X.mg "enumerate"=none)(ha:PE X a ta)(he:starEach [a] X.env=(false,eval a X.env)::starEach [] X.env:=by rfl)(hpl:(backTo pos (starEach [] X.env)).any (·.1)=false:=by rfl):
 PI X (.Tuple zo x1 tp) (.Call (.Name "enumerate" p) [a] [] pos) (Dj K ta):=by
 subst hK;intro z5 s J H R I h;refine k6 (iD I hg hm (by rfl) ?_);refine PyProof.Rows.callWith_type1 (bf ((ak ha av he) pos z5 s J H (λvs H1=>∃p1,vs=[.ref p1]/\(∃xs,SqL X.K H1 p1 xs)/\R (u7 X.K p1) H1) I h) λus s1 h1=>?_) he hpl;obtain⟨vs,H1,I1,r1,p1,rfl,⟨xs,q1⟩,k⟩:=h1;obtain⟨u,rfl,ru⟩:=cj r1;cases(show u=Value.ref p1 from ru);let⟨it1,r1,t1,_⟩:=I1.list q1;have lt:p1<s1.heap.objs.size:=by obtain⟨o,e,_⟩:=t1.isList;exact jd e
 refine call_enumerate_list t1.isList λh' hz j1 sz kk=>wpAny_pyIter_enum hz ?_;have I2:Inv X z5 J H1 {s1 with heap:=h',toks:=s1.toks}:=I1.kept kk;refine⟨_,_,_,_,H1,rfl,I2,qf3 (e:=s1.heap.objs.size+1) (it:=s1.heap.objs.size) (ne_of_gt (lt_succ_self _)),⟨⟨_,hz⟩,j1⟩,λc hc=>?_,k⟩;have le:s1.heap.objs.size<=c:=by simp only[mem_cons,not_mem_nil,or_false]at hc;rcases hc with rfl|rfl<;>first|exact jg _|exact Nat.le_add_right _ _
 exact I1.fpOk le (I1.hok.fresh le)
end
noncomputable def gO(xs:List D):List D:=xs.zipIdx.map λq=>D.tup [.int (q.2:Int),q.1]
section
variable{K:am}{O:Zg}{t:TE}{fa:aF}
def zP{xs:List D}{i:Nat}:(gO xs)[i]? =(xs[i]?).map λx=>D.tup [.int (i:Int),x]:=by
 unfold gO;rw[jo,List.getElem?_zipIdx];cases xs[i]? with
 |none=>rfl
 |some x=>simp
def qpz{R:Hp}{p:Addr}{xs:List V}{ds:List D}(h:SqL K R p xs)(r:Rps K R xs ds):ItOk K (u7 K p) R (gO ds):=λH' R' s b i=>by
 have g1:=Same.sqL b (Same.sqL s h);have l1:=r.length;have len:(gO ds).length=ds.length:=by simp[gO]
 refine⟨λe=>⟨xs,g1,by lia⟩,λd e=>?_⟩;rw[zP]at e;cases e1:ds[i]? with
 |none=>rw[e1]at e;cases e
 | some d1=>
  rw[e1]at e;cases e;let⟨v1,a1,a2⟩:=r.get e1;refine⟨⟨xs,v1,g1,a1⟩,λx H'' y=>?_⟩;obtain⟨T,x1,rfl,hT,rfl,z1⟩:=y;have w1:=z1 xs g1;rw[a1]at w1;cases w1;have y:=Ext.new (o:=.tup [.int (i:Int),v1]) b hT;exact⟨_,y,.tup cA (.cons (.int _) (.cons ((a2.mono s).mono y.r) .nil))⟩
def o5(f:aF):aV:=bZ f λd=>dy (match d with
 |.lst xs=>some (gO xs)
 |_=>none)
def FG(h:ME K O t fa):MI K O (Dj K t) (o5 fa):=λZ J H R M ds M' Q S e k=>by
 let⟨d,M1,e1,e⟩:=bP e;obtain⟨e2,rfl⟩:=c7 e;cases d with
 | lst xs=>
  cases e2;refine h Z J H R M _ _ _ S e1 λv H1 R1 S1 st1 r1=>?_;obtain⟨_,_,rfl,q,r⟩:=r1.isL;exact⟨_,rfl,⟨_,Same.sqL S1.same q⟩,k _ H1 R1 S1 st1 (qpz q r)⟩
 |_=>cases e2
def Dg:D->Option (List D)
 |.lst xs=>some (gO xs)
 |_=>none
def qqo{M:az}:o5 fa M=(fa M).bind λp=>(Dg p.1).map λx=>(x,p.2):=by unfold o5;rw[cM];congr 1;funext p;rw[eW];cases p.1<;>rfl
end
section
variable{X:Cx}{K:am}{c:MC}{O O':Zg}{t:TE}{fa:aF}
end
section
variable{M:az}{fa fb:aF}{fs:aV}
noncomputable def gZ(xs:List D):D->Option (List D)
 |.int k=>if -(2^63)<=k/\k<2^63/\xs.length*k.toNat<=sizeLine then some (replicate k.toNat xs).flatten else none
 |_=>none
def El:d5 fs fb M=(fs M).bind λp=>(fb p.2).bind λq=>(gZ p.1 q.1).map λx=>(x,q.2):=by unfold d5;rw[cM];congr 1;funext p;rw[cM];congr 1;funext q;rw[eW];cases q.1<;>rfl
def xR{M1 M2:az}{xs zs:List D}{y:D}(h1:fs M=some (xs,M1))(h2:fb M1=some (y,M2))(h3:gZ xs y=some zs):d5 fs fb M=some (zs,M2):=by rw[El,h1];show(fb M1).bind _=_;rw[h2];show(gZ xs y).map _=_;rw[h3];rfl
def yV{x:D}{k:Int}(h0:0<=k)(h:k<=1000000):gZ [x] (.int k)=some (replicate k.toNat x):=by
 have hz:[x].length*k.toNat<=sizeLine:=by rw[length_singleton,Nat.one_mul];exact dw (by lia)
 show(if -(2^63)<=k/\k<2^63/\[x].length*k.toNat<=sizeLine then some (replicate k.toNat [x]).flatten else none)=_;rw[if_pos ⟨by lia,by lia,hz⟩,List.flatten_replicate_singleton]
def qey{xs ys:Zf}:dg (xs.map D.int) (ys.map D.int)=(xs.zip ys).map λq=>D.tup [.int q.1,.int q.2]:=by unfold dg;rw[List.zipWith_map,List.zip,List.map_zipWith]
end
section
variable{prog:Program}{w:World}{A:Around}{E:Z0}{s:Shared}{a₀:Array Keyed}
end
section
variable{X:Cx}{K:am}
end
section
variable{K:am}{O:Zg}{t tb:TE}{fa fb:aF}
end
section
variable{X:Cx}
end
section
variable{K:am}{O:Zg}{t tb:TE}{fa fb:aF}
end
section
variable{c:MC}{O O':Zg}{te:TE}{fe:aF}
end
section
variable{K:am}{O:Zg}{tr:TA}{fs:aV}{E:XK}{n:Nat}
end
section
variable{X:Cx}{K:am}{o e:Expr}{es:Zi}{to:TE}{t:TA}{name:Str}{zy zp:Pos}{T id:String}{r:V->List V->Hp->VK->Prop}
end
end L2
namespace L2
open PySem PySem.NumText
end L2
namespace L2
open PySem PySem.Spec
section
variable{fa:aF}{fl fh:az->Option (Option Int×az)}{M:az}
end
end L2
namespace L2
open PySem PySem.Spec PyProof.Rows
section
variable{X:Cx}
end
section
variable{K:am}{O:Zg}{t tb:TE}{fa fb:aF}
def lU(f:eI)(g h:aV):aV:=bZ f λb=>if b=true then g else h
def qyj{tA:TT}{ga:eI}{fa fb:aV}(h:MT K O tA ga)(h1:MN K O t fa)(h2:MN K O tb fb):MN K O (wl tA t tb) (lU ga fa fb):=λZ J H R M d M' Q S e k=>by
 let⟨c,M1,e1,e⟩:=bP e;refine h Z J H R M c _ _ S e1 λH' R' S' st=>?_;cases c with
 |true=>exact fW (h1 Z J H' R' M1 d M' Q S' e λl vs H2 R2 S2 st2 a1 a2 a3 a4=>k l vs H2 R2 S2 (st.trans st2) (st.new a1) a2 a3 a4)
 |false=>exact fX (h2 Z J H' R' M1 d M' Q S' e λl vs H2 R2 S2 st2 a1 a2 a3 a4=>k l vs H2 R2 S2 (st.trans st2) (st.new a1) a2 a3 a4)
def qwq{ga:eI}{fa fb:aV}{M:az}:lU ga fa fb M=(ga M).bind λp=>if p.1=true then fa p.2 else fb p.2:=by unfold lU;rw[cM];congr 1;funext p;split<;>rfl
end
end L2
namespace L2
open PySem PySem.Spec
end L2
namespace L2
open PySem PySem.Spec PyProof.Rows
section
variable{X:Cx}
end
section
variable{K:am}{O:Zg}{t tb:TE}{fa fb:aF}
end
section
variable{X:Cx}{z5:Z3}{J:St}{CX:iq}{k:Nat}{f:Addr}{fd:FuncData}{ps:Zj}{sp:Sp}{dvs:List V}{ds:Ze}{E:XK}{x:Str}{p pos:Pos}{e:Expr}{es:Zi}{t:TA}{i:Nat}
end
section
variable{K:am}{O:Zg}{tr:TA}{fs:aV}{E:XK}{n:Nat}
end
section
variable{prog:Program}{w:World}{A:Around}{E:Z0}{s:Shared}
end
section
variable{X:Cx}{a b:Expr}{ta:TA}{p pos:Pos}{zo:Zi}{x1:Nat}{tp:Pos}
end
section
variable{K:am}{O:Zg}{tr:TA}{fs:aV}
end
end L2
namespace L2
def aC(w:Zf):Prop:=∀b∈w,b=0∨b=1
noncomputable def aP(w:Zf):Int:=w.foldl (λx b=>x*2+b) 0
def Ab(w:Zf)(b:Int):aP (w++[b])=aP w*2+b:=by unfold aP;rw[foldl_append];rfl
noncomputable def bi(m a:Int)(bs:Zf):Int:=bs.foldl (λx b=>(x+x+b) % m) a
def zO(m a:Int)(bs:Zf)(b:Int):bi m a (bs++[b])=(bi m a bs+bi m a bs+b) % m:=by unfold bi;rw[foldl_append];rfl
def cX{α:Type}{u:List α}{i:Nat}{b:α}(q:u[i]? =some b):u.take (i+1)=u.take i++[b]:=List.take_add_one.trans (by rw[q];rfl)
noncomputable def iC(a:Int)(w:Zf):Int:=w.foldl (λx b=>x*2+b) a
theorem lB:∀(w:Zf) (a:Int),iC a w=a*2^w.length+aP w
 |[],a=>by simp[iC,aP]
 | b::bs,a=>by have h1:=lB bs (a*2+b);have h2:=lB bs (0*2+b);have e1:iC a (b::bs)=iC (a*2+b) bs:=rfl;have e2:aP (b::bs)=iC (0*2+b) bs:=rfl;rw[e1,e2,h1,h2,jy,Int.pow_succ];generalize (2:Int)^bs.length=p;generalize aP bs=z;rw[add_mul,add_mul,zero_mul,zero_mul,zero_add,Int.mul_assoc,Int.mul_comm 2 p];lia
theorem qJ(m:Int):∀(w:Zf) (a:Int),bi m a w % m=iC a w % m
 |[],a=>rfl
 | b::bs,a=>by
  have e1:bi m a (b::bs)=bi m ((a+a+b) % m) bs:=rfl;have e2:iC a (b::bs)=iC (a*2+b) bs:=rfl;rw[e1,e2,qJ m bs,lB,lB];have e3:a+a+b=a*2+b:=by lia
  rw[e3,Int.add_emod,Int.mul_emod,Int.emod_emod,<-Int.mul_emod,<-Int.add_emod]
theorem kW{m:Int}(hm:0<m):∀(w:Zf) (a:Int),(0<=a/\a<m)->0<=bi m a w/\bi m a w<m
 |[],a,h=>h
 |b::bs,a,h=>kW hm bs ((a+a+b) % m) ⟨emod_nonneg _ (by lia),Int.emod_lt_of_pos _ hm⟩
theorem kX:∀(w:Zf),(∀b∈w,b=0∨b=1)->0<=aP w/\aP w<2^w.length
 |[],_=>by decide
 | b::bs,h=>by
  have h1:=kX bs λx hx=>h x (ji _ hx);have e2:aP (b::bs)=iC (0*2+b) bs:=rfl;rw[e2,lB,jy,Int.pow_succ];generalize (2:Int)^bs.length=p at h1 ⊢;rcases h b jj with rfl|rfl
  .simp only[zero_mul,zero_add];lia
  .simp only[zero_mul,zero_add,Int.one_mul];lia
def qN(u v:Zf):aP (u++v)=aP u*2^v.length+aP v:=by
 have:aP (u++v)=iC (aP u) v:=by unfold aP iC;rw[foldl_append]
 rw[this,lB]
theorem Ac:∀n,aP (replicate n 0)=0
 |0=>rfl
 | n+1=>by rw[List.replicate_succ',qN,Ac n];rfl
def qin(n:Nat)(w:Zf):bi (2^n) 0 (w++replicate n 0)=0:=by have m0:(0:Int)<2^n:=pow_pos (by decide);have h1:=qJ (2^n) (w++replicate n 0) 0;rw[lB,zero_mul,zero_add,qN,Ac,x6,Int.add_zero,Int.mul_emod_left]at h1;have h2:=kW m0 (w++replicate n 0) 0 ⟨le_refl _,m0⟩;rw[emod_eq_of_lt h2.1 h2.2]at h1;exact h1
def Gq(n:Nat)(pre u:Zf)(hp:pre.length=n)(hb:aC pre)(hu:aC u)(k:Nat)(hk:k<=u.length):
 bi (2^n) (aP pre) (u.take k)=aP (((pre++u).drop k).take n):=by
 have ha:=kX pre hb;rw[hp]at ha;have h1:=qJ (2^n) (u.take k) (aP pre);have e1:iC (aP pre) (u.take k)=aP (pre++u.take k):=by unfold aP iC;rw[foldl_append]
 have e2:pre++u.take k=(pre++u).take k++((pre++u).drop k).take n:=by rw[<-take_add,Nat.add_comm k n,<-hp,List.take_length_add_append]
 have hl:(((pre++u).drop k).take n).length=n:=by rw[xq,xx,jt];lia
 have hlt:=kX (((pre++u).drop k).take n) λb h=>by
  rcases List.mem_append.mp (mem_of_mem_drop (List.mem_of_mem_take h))with h|h
  .exact hb b h
  .exact hu b h
 rw[hl]at hlt;rw[e1,e2,qN,hl,Int.add_comm,Int.add_mul_emod_self_right,emod_eq_of_lt hlt.1 hlt.2]at h1;have h2:=kW (pow_pos (by decide)) (u.take k) (aP pre) ha;rw[emod_eq_of_lt h2.1 h2.2]at h1;exact h1
noncomputable def cq:Nat->Nat->Nat
 |0,_=>0
 |f+1,n=>(n % 2+cq f (n / 2)) % 2
theorem uF:∀f,cq f 0=0
 |0=>rfl
 |f+1=>by unfold cq;rw[show(0:Nat) / 2=0 from rfl,uF f]
def FV:∀f n,cq f n<2
 |0,_=>Nat.zero_lt_two
 |f+1,n=>mod_lt _ (by decide)
def eU(win tap:Int):Int:=(cq 5 (win.toNat &&& tap.toNat):Nat)
def qmh(x y:Nat):(x &&& y) / 2=x / 2 &&& y / 2:=by apply Nat.eq_of_testBit_eq;intro i;rw[Nat.testBit_div_two,Nat.testBit_and,Nat.testBit_and,Nat.testBit_div_two,Nat.testBit_div_two]
def qrf(x y:Nat):(x &&& y) % 2=(x % 2)*(y % 2):=by have h:=Nat.testBit_and x y 0;simp only[Nat.testBit_zero]at h;have h1:=Nat.mod_two_eq_zero_or_one x;have h2:=Nat.mod_two_eq_zero_or_one y;have h3:=Nat.mod_two_eq_zero_or_one (x &&& y);rcases h1 with h1|h1<;>rcases h2 with h2|h2<;>rcases h3 with h3|h3<;>simp_all
noncomputable def g6:List Int->Int->Int
 |[],_=>0
 |b::bs,t=>(t % 2)*b+g6 bs (t / 2)
def ER{o l:Int}{c:Nat}(h:0<=l):((o+l % 2) % 2+(c:Int)) % 2=(o+(((l.toNat % 2+c) % 2:Nat):Int)) % 2:=by obtain⟨n,rfl⟩:=Int.eq_ofNat_of_zero_le h;rw[xh,Int.natCast_emod,Int.natCast_add,Int.natCast_emod,Int.emod_add_emod (o+_)];exact(congrArg (· % 2) (Int.add_assoc o _ _)).trans (Int.add_emod_emod _ _ _).symm
def Gx{l:Int}(h:0<=l):(l / 2).toNat=l.toNat / 2:=by obtain⟨n,rfl⟩:=Int.eq_ofNat_of_zero_le h;rfl
theorem Hl:∀(f:Nat) (ws:Zf) (t:Int),aC ws->ws.length<=f->0<=t->((cq f ((aP ws.reverse).toNat &&& t.toNat):Nat):Int)=g6 ws t % 2
 | f,[],t,_,_,_=>by have:(aP ([]:Zf).reverse).toNat=0:=rfl;rw[this,Nat.zero_and,uF];rfl
 |0,b::bs,t,_,h,_=>by simp at h
 | f+1,b::bs,t,hb,hl,ht=>by
  have ih:=Hl f bs (t / 2) (λx hx=>hb x (ji _ hx)) (by simpa using hl) (by lia);have hw:=kX bs.reverse λx hx=>hb x (ji _ (List.mem_reverse.mp hx));have hbb:=hb b jj;rw[reverse_cons,Ab];unfold cq g6;rw[qmh,qrf];have e1:(aP bs.reverse*2+b).toNat / 2=(aP bs.reverse).toNat:=by lia
  have e2:t.toNat / 2=(t / 2).toNat:=by lia
  have e3:(aP bs.reverse*2+b).toNat % 2=b.toNat:=by lia
  have e4:(t.toNat % 2:Nat)=(t % 2).toNat:=by lia
  rw[e1,e2,e3,e4];generalize cq f ((aP bs.reverse).toNat &&& (t / 2).toNat)=P at ih ⊢;generalize g6 bs (t / 2)=Q at ih ⊢;have t2:t % 2=0∨t % 2=1:=by lia
  rcases hbb with rfl|rfl<;>rcases t2 with q|q<;>rw[q]<;>simp<;>lia
def qjx{ws:Zf}(t:Int)(hb:aC ws)(hl:ws.length<=5)(ht:0<=t):eU (aP ws.reverse) t=g6 ws t % 2:=Hl 5 ws t hb hl ht
noncomputable def gG(row:Zf)(signs:Zf):List Int:=((signs.zip row).filter λq=>q.2==1).map (·.1)
def zZ(row U:Zf)(g:Int->Int):gG row (U.map g)=((U.zip row).filter λq=>q.2==1).map λq=>g q.1:=by unfold gG;rw[List.zip_map_left,filter_map,jr];rfl
noncomputable def aJ(G:Z9)(k:Nat):List Int:=(G[k % G.length]?).getD []
def gg(n:Nat)(U:Zf)(G:Z9)(a:Int)(u:Zf)(k:Nat):List Int:=
 gG (aJ G k) (U.map (eU (2*bi (2^n) a (u.take k)+u.getD k 0)))
def qd(n:Nat)(U:Zf)(G:Z9)(a:Int)(u:Zf):List Int:=(List.range u.length).flatMap (gg n U G a u)
def jC{α:Type}(f:Nat->List α)(k:Nat):(List.range (k+1)).flatMap f=(List.range k).flatMap f++f k:=by rw[List.range_succ,List.flatMap_append];simp
theorem uA{α:Type}(f:Nat->List α)(m:Nat)(h:∀k,(f k).length<=m):∀n,((List.range n).flatMap f).length<=n*m
 |0=>by simp
 | n+1=>by rw[jC,jt];have:=uA f m h n;have:=h n;rw[Nat.succ_mul];lia
noncomputable def da(zc:Bool)(n:Nat)(w:Zf):List Int:=if zc=true then w.drop (w.length-n)else replicate n 0
noncomputable def eO(zc:Bool)(w:Zf)(i:Int):Int:=if 0<=i/\i<w.length then w.getD i.toNat 0 else if zc=true then w.getD (i+w.length).toNat 0 else 0
def GN{zc:Bool}{n:Nat}{w:Zf}(h:zc=true->n<=w.length):(da zc n w).length=n:=by
 unfold da;split
 .rename_i q;have:=h q;rw[xx];lia
 .rw[x6]
def Hm{zc:Bool}{n:Nat}{w:Zf}(h:aC w):aC (da zc n w):=by
 unfold da;split
 .exact λb hb=>h b (mem_of_mem_drop hb)
 .exact λb hb=>.inl (eq_of_mem_replicate hb)
def qrh{zc:Bool}{n z:Nat}{w:Zf}(h:zc=true->n<=w.length/\z=0){i:Nat}(hi:i<n+(w.length+z)):
 (da zc n w++(w++replicate z 0))[i]? =some (eO zc w ((i:Int)-n)):=by
 have hl:(da zc n w).length=n:=GN λq=>(h q).1;by_cases h1:i<n
 .rw[vc (by lia)];unfold eO;rw[if_neg (by lia)];unfold da;cases zc with
  | true=>
   let⟨h2,h3⟩:=h rfl;simp only[if_true];have e:w.length-n+i<w.length:=by lia
   have e2:((i:Int)-n+w.length).toNat=w.length-n+i:=by lia
   rw[getElem?_drop,jh e,e2,jl,jh e];rfl
  | false=>
   simp only[false_eq_true,if_false];rw[va,if_pos h1]
 .rw[kb (by lia),hl];have e2:((i:Int)-n).toNat=i-n:=by lia
  unfold eO;by_cases h4:i-n<w.length
  .rw[if_pos ⟨by lia,by lia⟩,e2,vc h4,jl,jh h4];rfl
  .rw[if_neg (by lia)];cases zc with
   | true=>
    let⟨h2,h3⟩:=h rfl;lia
   | false=>
    simp only[false_eq_true,if_false];rw[kb (by lia),va,if_pos (by lia)]
def jP(zc:Bool)(w:Zf)(k:Int)(n:Nat):List Int:=(List.range n).map λ(j:Nat)=>eO zc w (k-(j:Int))
def ii{u v:Zf}(hu:aC u)(hv:aC v):aC (u++v):=λb h=>by
 rcases List.mem_append.mp h with h|h
 .exact hu b h
 .exact hv b h
def ux(z:Nat):aC (replicate z 0):=λb h=>.inl (eq_of_mem_replicate h)
def qrl{zc:Bool}{n z:Nat}{w:Zf}(hb:aC w)(h:zc=true->n<=w.length/\z=0){k:Nat}(hk:k<w.length+z):
 2*bi (2^n) (aP (da zc n w)) ((w++replicate z 0).take k)+(w++replicate z 0).getD k 0=aP (jP zc w k (n+1)).reverse/\aC (jP zc w k (n+1)):=by
 have hl:(da zc n w).length=n:=GN λq=>(h q).1;have hu:=ii hb (ux z);have hul:(w++replicate z 0).length=w.length+z:=by rw[jt,x6]
 have ga:∀i,i<n+(w.length+z)->(da zc n w++(w++replicate z 0))[i]? =some (eO zc w ((i:Int)-n)):=λi hi=>qrh h hi;have gu:∀j,j<w.length+z->(w++replicate z 0)[j]? =some (eO zc w (j:Int)):=λj hj=>by have:=ga (n+j) (by lia);rw[kb (by lia),hl,show n+j-n=j from by lia]at this;rw[this];congr 2;lia
 rw[Gq n (da zc n w) (w++replicate z 0) hl (Hm hb) hu k (by lia)];have hBs:aC (da zc n w++(w++replicate z 0)):=ii (Hm hb) hu;have hLl:(da zc n w++(w++replicate z 0)).length=n+(w.length+z):=by rw[jt,hl,hul]
 generalize hL:da zc n w++(w++replicate z 0)=L at ga hBs hLl ⊢;have e1:(w++replicate z 0).getD k 0=eO zc w (k:Int):=by rw[jl,gu k hk];rfl
 rw[e1];have e2:(jP zc w k (n+1)).reverse=(L.drop k).take n++[eO zc w (k:Int)]:=by
  apply ext_getElem?;intro i;have lb:(jP zc w k (n+1)).length=n+1:=by unfold jP;rw[ja,length_range]
  have lt:((L.drop k).take n).length=n:=by rw[xq,xx];lia
  by_cases hi:i<n+1
  .rw[List.getElem?_reverse (by lia),lb];unfold jP;rw[jo,k9 (by lia)];by_cases qU:i<n
   .rw[vc (by lia),List.getElem?_take_of_lt qU,getElem?_drop,ga (k+i) (by lia)];show some (eO zc w ((k:Int)-((n+1-1-i:Nat):Int)))=some (eO zc w (((k+i:Nat):Int)-(n:Int)));congr 2;lia
   .have:i=n:=by lia
    subst this;rw[kb (by lia),lt,Nat.sub_self];show some (eO zc w ((k:Int)-((i+1-1-i:Nat):Int)))=some (eO zc w (k:Int));congr 2;lia
  .rw[xj (by rw[length_reverse];lia),xj (by rw[jt,length_singleton];lia)]
 refine⟨by rw[e2,Ab];lia,λb hb'=>?_⟩;have:b∈(jP zc w k (n+1)).reverse:=List.mem_reverse.mpr hb';rw[e2]at this;rcases List.mem_append.mp this with q|q
 .exact hBs b (mem_of_mem_drop (List.mem_of_mem_take q))
 .rw[List.mem_singleton.mp q,<-e1];rw[jl,jh (by lia)];exact hu _ (ka _)
def qjy{zc:Bool}{n z:Nat}{w:Zf}(hn:n<=4)(hb:aC w)(h:zc=true->n<=w.length/\z=0){k:Nat}(hk:k<w.length+z){t:Int}(ht:0<=t):
 eU (2*bi (2^n) (aP (da zc n w)) ((w++replicate z 0).take k)+(w++replicate z 0).getD k 0) t=g6 (jP zc w k (n+1)) t % 2:=by
 let⟨h1,h2⟩:=qrl hb h hk;rw[h1];exact qjx t h2 (by unfold jP;rw[ja,length_range];lia) ht
def bS(U:Zf)(G:Z9)(k:Nat):List (Int×Int):=(U.zip (aJ G k)).filter λq=>q.2==1
def qk1{U:Zf}{G:Z9}{k:Nat}{q:Int×Int}(h:q∈bS U G k):q.1∈U:=by have:=(List.mem_filter.mp h).1;exact(of_mem_zip (this)).1
def mX(zc:Bool)(n:Nat)(U:Zf)(G:Z9)(w:Zf)(N:Nat):List Int:=
 (List.range N).flatMap λk=>(bS U G k).map λq=>g6 (jP zc w k (n+1)) q.1 % 2
def qei{α:Type}{f g:Nat->List α}{N:Nat}(h:∀k,k<N->f k=g k):(List.range N).flatMap f=(List.range N).flatMap g:=by
 induction N with
 |zero=>rfl
 |succ N ih=>rw[jC,jC,ih λk hk=>h k (by lia),h N (by lia)]
def qk0{zc:Bool}{n z:Nat}{U:Zf}{G:Z9}{w:Zf}(hn:n<=4)(hb:aC w)(h:zc=true->n<=w.length/\z=0)(ht:∀t∈U,0<=t):
 qd n U G (aP (da zc n w)) (w++replicate z 0)=mX zc n U G w (w.length+z):=by
 unfold qd mX;rw[jt,x6];refine qei λk hk=>?_;unfold gg;rw[zZ];refine map_congr_left λq hq=>?_;exact qjy hn hb h hk (ht _ (qk1 hq))
def qdu{zc:Bool}{n N:Nat}{U:Zf}{G:Z9}{w:Zf}:aC (mX zc n U G w N):=λb hb=>by unfold mX at hb;let⟨k,hk,hb⟩:=List.mem_flatMap.mp hb;obtain⟨q,hq,rfl⟩:=List.mem_map.mp hb;lia
end L2
namespace L2
open PySem
noncomputable def dj(row:Zf):D:=.tup (row.map D.int)
def au(r:Int)(U:Zf)(G:Z9)(e:Str):D:=.tup [.int r,.tup (U.map D.int),.tup (G.map dj),.str e]
structure q26(r:Int)(U:Zf)(G:Z9)(e:Str):Prop where
 r0:0<=r
 r4:r<=4
 t1:1<=U.length
 t4:U.length<=4
 tb:∀t∈U,0<=t/\t<2*2^r.toNat
 m1:1<=G.length
 m6:G.length<=6
 rw:∀row∈G,row.length=U.length/\∀b∈row,b=0∨b=1
 en:e="open"∨e="ended"∨e="ring"
theorem ug{P:Int->Prop}:∀{ys:List D},(∀y∈ys,∃t,y=.int t/\P t)->∃ts:List Int,ys=ts.map D.int/\∀t∈ts,P t
 |[],_=>⟨[],rfl,λ_ h=>nomatch h⟩
 | y::ys,h=>by
  obtain⟨t,rfl,ht⟩:=h y jj;obtain⟨ts,rfl,hs⟩:=ug λz hz=>h z (ji _ hz);refine⟨t::ts,rfl,λu hu=>?_⟩;rcases List.mem_cons.mp hu with rfl|hu
  .exact ht
  .exact hs u hu
def nU:cZ (.str "open") (.str "ring")=some false:=by rw[ie (by decide+kernel) (by decide+kernel)];decide+kernel
def nV:cZ (.str "ended") (.str "ring")=some false:=by rw[ie (by decide+kernel) (by decide+kernel)];decide+kernel
def nT:cZ (.str "ring") (.str "ring")=some true:=by rw[ie (by decide+kernel) (by decide+kernel)];decide+kernel
def rE:cZ (.str "open") (.str "ended")=some false:=by rw[ie (by decide+kernel) (by decide+kernel)];decide+kernel
def rF:cZ (.str "ended") (.str "ended")=some true:=by rw[ie (by decide+kernel) (by decide+kernel)];decide+kernel
def rD:cZ (.str "ring") (.str "ended")=some false:=by rw[ie (by decide+kernel) (by decide+kernel)];decide+kernel
def bJ(r:Int)(e:Str)(w:Zf):Int:=if e="ring" then aP (w.drop (w.length-r.toNat))else 0
noncomputable def tu(r:Int)(e:Str)(w:Zf):List Int:=if e="ended" then w++replicate r.toNat 0 else w
def qre{α:Type}{xs:List α}{x:α}:cc (xs++[x]) (-1)=some x:=by
 unfold cc fM;have h1:¬((0:Int)<= -1):=by decide
 have h2:(-(((xs++[x]).length:Nat):Int)<= -1):=by rw[jt,length_singleton];lia
 have h3:((-1:Int)+(((xs++[x]).length:Nat):Int)).toNat=xs.length:=by rw[jt,length_singleton];lia
 rw[if_neg h1,if_pos h2,h3];show(xs++[x])[xs.length]? =some x;rw[kb (jg _),Nat.sub_self];rfl
def qll(n:Nat)(w:Zf)(hb:∀b∈w,b=0∨b=1)(hn:n<=w.length):bi (2^n) (aP (w.drop (w.length-n))) w=aP (w.drop (w.length-n)):=by
 have hl:(w.drop (w.length-n)).length=n:=by rw[xx];lia
 have ha:=kX (w.drop (w.length-n)) λb h=>hb b (mem_of_mem_drop h);rw[hl]at ha;generalize hz:aP (w.drop (w.length-n))=a at ha ⊢;have h1:=qJ (2^n) w a;have hw:aP w=aP (w.take (w.length-n))*2^n+a:=by have:=qN (w.take (w.length-n)) (w.drop (w.length-n));rw[take_append_drop,hl,hz]at this;exact this
 have hp:(2:Int)^w.length=2^(w.length-n)*2^n:=by rw[<-Int.pow_add];congr 1;lia
 rw[lB,hw,hp,<-Int.mul_assoc,<-Int.add_assoc,<-add_mul,Int.add_comm,Int.add_mul_emod_self_right,emod_eq_of_lt ha.1 ha.2]at h1;have h2:=kW (pow_pos (by decide)) w a ha;rw[emod_eq_of_lt h2.1 h2.2]at h1;exact h1
noncomputable def bD(e:Str):Bool:=decide (e="ring")
noncomputable def aE(r:Int)(e:Str):Nat:=if e="ended" then r.toNat else 0
def y7(r:Int)(e:Str)(w:Zf):tu r e w=w++replicate (aE r e) 0:=by
 unfold tu aE;split
 .rfl
 .simp
def qq3(r:Int)(e:Str)(w:Zf):bJ r e w=aP (da (bD e) r.toNat w):=by
 unfold bJ da bD;by_cases h:e="ring"
 .rw[if_pos h,decide_eq_true h,if_pos rfl]
 .rw[if_neg h,decide_eq_false h,if_neg (by decide),Ac]
def qgr{r:Int}{e:Str}{n:Nat}(hw:e="ring"->r.toNat<=n):bD e=true->r.toNat<=n/\aE r e=0:=λh=>by have he:=of_decide_eq_true h;subst he;exact⟨hw rfl,if_neg (by decide)⟩
def qrg{x:Int}(h:0<=x):Builtin.bitAnd x 1=x % 2:=by unfold Builtin.bitAnd;rw[decide_eq_true h,decide_eq_true (by decide:(0:Int)<=1)];show((x.toNat &&& 1:Nat):Int)=x % 2;rw[Nat.and_one_is_mod];lia
def Fi{x y:Int}(h:0<=x)(g:0<=y):Builtin.bitAnd x y=((x.toNat &&& y.toNat:Nat):Int):=by unfold Builtin.bitAnd;rw[decide_eq_true h,decide_eq_true g]
def qjj{x y:Int}(h:x=0∨x=1)(g:y=0∨y=1):Builtin.bitXor x y=(x+y) % 2:=by rcases h with rfl|rfl<;>rcases g with rfl|rfl<;>decide
def mI{r:Int}(r0:0<=r)(r4:r<=4):(1:Int)<=2^r.toNat/\(2:Int)^r.toNat<=16:=by rcases(by lia:r=0∨r=1∨r=2∨r=3∨r=4)with rfl|rfl|rfl|rfl|rfl<;>decide
end L2
namespace L2
open PySem PySem.Spec
def DOk(n:Nat)(d:D):Prop:=∃p,d.toP=some p/\p.canLay0=true/\p.depth<=n
def DOks(n:Nat)(ds:List D):Prop:=∃ps,D.toPs ds=some ps/\PyData.canLayAll0 ps=true/\PyData.depthAll ps<=n
def DOk.int(n:Nat)(i:Int):DOk n (.int i):=⟨.int i,by simp only[D.toP],by simp only[PyData.canLay0],by simp only[PyData.depth];exact zero_le _⟩
def DOk.bl(n:Nat)(i:Bool):DOk n (.bl i):=⟨.bool i,by simp only[D.toP],by simp only[PyData.canLay0],by simp only[PyData.depth];exact zero_le _⟩
def DOk.str(n:Nat){x:Str}(h:PyData.strOk x=true):DOk n (.str x):=⟨.str x,by simp only[D.toP],by simp only[PyData.canLay0];exact h,by simp only[PyData.depth];exact zero_le _⟩
def DOks.nil(n:Nat):DOks n []:=⟨[],by simp only[D.toPs],by simp only[PyData.canLayAll0],by simp only[PyData.depthAll];exact zero_le _⟩
def DOks.cons{n:Nat}{d:D}{ds:List D}(h:DOk n d)(r:DOks n ds):DOks n (d::ds):=by obtain⟨p,h1,h2,h3⟩:=h;obtain⟨ps,g1,g2,g3⟩:=r;refine⟨p::ps,by simp only[D.toPs,h1,g1],by simp only[PyData.canLayAll0,h2,g2];rfl,?_⟩;simp only[PyData.depthAll];exact Nat.max_le.mpr ⟨h3,g3⟩
theorem DOks.all{n:Nat}:∀{ds:List D},(∀d∈ds,DOk n d)->DOks n ds
 |[],_=>DOks.nil n
 |d::ds,h=>DOks.cons (h d jj) (DOks.all λx hx=>h x (ji _ hx))
def DOks.lst{n:Nat}{ds:List D}(h:DOks n ds):DOk (n+1) (.lst ds):=by obtain⟨ps,g1,g2,g3⟩:=h;exact⟨.list ps,by simp only[D.toP,g1];rfl,by simp only[PyData.canLay0];exact g2,by simp only[PyData.depth];lia⟩
def DOks.tup{n:Nat}{ds:List D}(h:DOks n ds):DOk (n+1) (.tup ds):=by obtain⟨ps,g1,g2,g3⟩:=h;exact⟨.tuple ps,by simp only[D.toP,g1];rfl,by simp only[PyData.canLay0];exact g2,by simp only[PyData.depth];lia⟩
def Gr{n:Nat}{d:D}(h:DOk n d)(hn:n<=64):cZ d d=some true:=by
 obtain⟨p,h1,h2,h3⟩:=h;have hs:SeqAt.shaped p=true:=by unfold SeqAt.shaped;rw[h2,decide_eq_true (by lia:p.depth<=64)];rfl
 unfold cZ;rw[h1];show(if SeqAt.shaped p=true/\SeqAt.shaped p=true then some (PyData.eqv p p)else none)=some true;rw[if_pos ⟨hs,hs⟩,SeqAt.eqv_refl p h2]
def DOk.ints(xs:Zf):DOk 1 (.lst (xs.map D.int)):=DOks.lst (.all λd hd=>by obtain⟨i,_,rfl⟩:=List.mem_map.mp hd;exact .int _ i)
def DOk.le{n m:Nat}{d:D}(h:DOk n d)(hn:n<=m):DOk m d:=by obtain⟨p,h1,h2,h3⟩:=h;exact⟨p,h1,h2,by lia⟩
end L2
namespace L2
open PySem PySem.Spec PySem.NumText
section
variable{K:am}{O:Zg}{E:XK}
end
end L2
namespace L2
open PySem PySem.Spec PyProof.Rows
section
variable{c:MC}{O O':Zg}{te:TE}{fa:aF}
end
section
variable{ρ:Model}{A:Around}{E:Z0}{s:Shared}{B:Heap}{env:Env}{outer l:List Env}{L e:Addr}{cls fl:Value}{Q:Unit->Shared->Prop}
end
section
variable{X:Cx}{z5:Z3}{J:St}{H H':Hp}{s:Shared}
end
section
variable{P:Program}{w:World}{K:am}{mg:Za}{base:Heap}{N:Zj}{qual:Str}{scope:Scope}{f:Addr}{cd:Value}{A:Around}{outer:List Env}{s₀:Shared}{H₀:Hp}{E:XK}
end
section
variable{X:Cx}{tg elt ze:Expr}{ifs:Zi}{scope:Scope}{pos:Pos}{N N0:Zj}{n:Nat}{js:Zg}{sc:Scope}{wi:TI}{g:TG}{tt:TT}{te:TE}
end
@[irreducible] def QSs(X:Cx)(st:Zh)(t:TS):Prop:=PSs X st t
section
variable{X:Cx}{st:Stmt}{sts a b:Zh}{t u:TS}{tc:TT}{c tg ze:Expr}{wi:TI}{g:TG}{pos:Pos}
def QSs.out(h:QSs X sts t):PSs X sts t:=by unfold QSs at h;exact h
end
inductive Inn(K:am)(H R:Hp):List Addr->List (List D)->Prop
 |nil:Inn K H R [] []
 |cons {a:Addr} {as:List Addr} {vs:List V} {ds:List D} {dss:List (List D)}:H a=some (.lst vs)->R a=none->Rps K R vs ds->Inn K H R as dss->Inn K H R (a::as) (ds::dss)
structure Deep(K:am)(H R:Hp)(l:Addr)(as:List Addr)(dss:List (List D)):Prop where
 top:H l=some (.lst (as.map V.ref))
 rl:R l=none
 inn:Inn K H R as dss
 nd:(l::as).Nodup
def StR.put{K:am}{Z:Anc}{O:Zg}{J:St}{H R:Hp}{M:az}{a:Addr}{o:HO}(S:StR K Z O J H R M)(hr:R a=none)(n:∀i,i∈O->J[i]? ≠some (some (.ref a)))(z:Z.H0 a=none):StR K Z O J (aM H a o) R M:=by
 have ne:∀b u,Z.H0 b=some u->b≠a:=λb u e q=>by rw[q,z]at e;cases e
 refine⟨λb u e=>?_,S.len,S.env,λi hi=>?_,S.dis,λb u e nl=>?_,S.ar,S.an,λb h=>?_,S.ao,S.ap⟩
 .have q:b≠a:=λq=>by rw[q,hr]at e;cases e
  rw[aX q];exact S.sub b u e
 .let⟨l,vs,ds,h1,h2,h3,h4,h5⟩:=S.own i hi;have q:l≠a:=λq=>n i hi (by rw[h2,q]);exact⟨l,vs,ds,h1,h2,by rw[aX q];exact h3,h4,h5⟩
 .rw[aX (ne b u e)];exact S.ah b u e nl
 .have q:b≠a:=λq=>h (by rw[q];exact z);have l:=S.ad b h;unfold Liv at l ⊢;rw[aX q];exact l
def Inn.has{K:am}{H R:Hp}{as:List Addr}{dss:List (List D)}(h:Inn K H R as dss):∀a∈as,∃vs,H a=some (.lst vs):=by
 induction h with
 |nil=>exact λ_ h=>nomatch h
 | cons h1 _ _ _ ih=>
  intro a ha;rcases List.mem_cons.mp ha with rfl|ha
  .exact⟨_,h1⟩
  .exact ih a ha
def Inn.wr{K:am}{H R:Hp}{as:List Addr}{dss:List (List D)}{b:Addr}{o:HO}(h:Inn K H R as dss)(n:b∉as):Inn K (aM H b o) R as dss:=by
 induction h with
 |nil=>exact .nil
 | cons h1 h2 h3 _ ih=>
  exact .cons (by rw[aX λq=>n (by rw[q];exact jj)];exact h1) h2 h3 (ih λq=>n (ji _ q))
def Inn.len{K:am}{H R:Hp}{as:List Addr}{dss:List (List D)}(h:Inn K H R as dss):as.length=dss.length:=by
 induction h with
 |nil=>rfl
 |cons _ _ _ _ ih=>rw[jy,jy,ih]
def Inn.at{K:am}{H R:Hp}{as:List Addr}{dss:List (List D)}(h:Inn K H R as dss):∀{k:Nat} {a:Addr},as[k]? =some a->∃vs ds,dss[k]? =some ds/\H a=some (.lst vs)/\R a=none/\Rps K R vs ds:=by
 induction h with
 |nil=>intro k a e;simp at e
 | cons h1 h2 h3 _ ih=>
  intro k a e;cases k with
  | zero=>
   cases e;exact⟨_,_,rfl,h1,h2,h3⟩
  |succ k=>exact ih e
def Inn.setAt{K:am}{H R:Hp}{as:List Addr}{dss:List (List D)}{vs:List V}{ds:List D}(h:Inn K H R as dss)(r:Rps K R vs ds):∀{k:Nat} {a:Addr},as.Nodup->as[k]? =some a->Inn K (aM H a (.lst vs)) R as (dss.set k ds):=by
 induction h with
 |nil=>intro k a _ e;simp at e
 | @cons b _ _ _ _ h1 h2 h3 t ih=>
  intro k a nd e;let⟨n1,n2⟩:=List.nodup_cons.mp nd;cases k with
  | zero=>
   cases e;exact .cons cA h2 r (t.wr n1)
  | succ k=>
   rw[List.getElem?_cons_succ]at e;have ne:b≠a:=λq=>n1 (by rw[q];exact (kc e));exact .cons (by rw[aX ne];exact h1) h2 h3 (ih n2 e)
def Deep.setAt{K:am}{H R:Hp}{l a:Addr}{as:List Addr}{dss:List (List D)}{vs:List V}{ds:List D}{k:Nat}(h:Deep K H R l as dss)(e:as[k]? =some a)(r:Rps K R vs ds):Deep K (aM H a (.lst vs)) R l as (dss.set k ds):=by let⟨n1,n2⟩:=List.nodup_cons.mp h.nd;have ne:l≠a:=λq=>n1 (by rw[q];exact kc e);exact⟨by rw[aX ne];exact h.top,h.rl,h.inn.setAt r n2 e,h.nd⟩
def Inn.other{K:am}{H R:Hp}{as:List Addr}{dss:List (List D)}{b:Addr}{o:HO}(h:Inn K H R as dss)(n:b∉as)(hb:R b=none):Inn K H (aM R b o) as dss:=by
 have s:Same R (aM R b o):=λa u e=>by
  have q:a≠b:=λq=>by rw[q,hb]at e;cases e
  rw[aX q];exact e
 induction h with
 |nil=>exact .nil
 | cons h1 h2 h3 _ ih=>
  exact .cons h1 (by rw[aX λq=>n (by rw[q];exact jj)];exact h2) (h3.mono s) (ih λq=>n (ji _ q))
theorem StR.knowAll{K:am}{Z:Anc}{O:Zg}{J:St}{H:Hp}{M:az}:∀{as:List Addr} {dss:List (List D)} {R:Hp},StR K Z O J H R M->Inn K H R as dss->as.Nodup->(∀a∈as,Z.H0 a=none/\∀j,j∈O->J[j]? ≠some (some (.ref a)))->∃R1,StR K Z O J H R1 M/\Same R R1/\Rps K R1 (as.map V.ref) (dss.map D.lst)/\∀b,b∉as->R1 b=R b
 | [],dss,R,S,h,_,_=>by
  have l:=h.len;cases dss with
  |cons x r=>simp at l
  |nil=>exact⟨R,S,Same.refl _,.nil,λ_ _=>rfl⟩
 | a::as,dss,R,S,h,nd,hz=>by
  cases h with
  | @cons _ _ vs ds dss h1 h2 h3 h4=>
   let⟨na,nd'⟩:=List.nodup_cons.mp nd;let⟨z1,z2⟩:=hz a jj;have s:Same R (aM R a (.lst vs)):=λb u e=>by
    have q:b≠a:=λq=>by rw[q,h2]at e;cases e
    rw[aX q];exact e
   let⟨R1,S1,s1,r1,o1⟩:=StR.knowAll (S.know z1 h1 h2 z2) (h4.other na h2) nd' λb hb=>hz b (ji _ hb);refine⟨R1,S1,s.trans s1,.cons (.lst (SqL.of (s1 _ _ cA)) ((h3.mono s).mono s1)) r1,λb hb=>?_⟩;have hb1:b≠a:=λq=>hb (by rw[q];exact jj);rw[o1 b λq=>hb (ji _ q),aX hb1]
def Inn.stp{K:am}{O:Zg}{J:St}{H R H' R':Hp}{as:List Addr}{dss:List (List D)}(h:Inn K H R as dss)(s:Stp O J H R H' R')(ow:∀a∈as,∀j,j∈O->J[j]? ≠some (some (.ref a))):Inn K H' R' as dss:=by
 induction h with
 |nil=>exact .nil
 | @cons a as vs ds dss h1 h2 h3 _ ih=>
  refine .cons (s.h _ _ h1 (ow a jj)) ?_ (h3.mono s.r) (ih λb hb=>ow b (ji _ hb));cases q:R' a with
  |none=>rfl
  | some o=>
   rcases s.n a (by rw[q];exact λz=>nomatch z)with z|z
   .exact absurd h2 z
   .rcases z with z|⟨xs,z⟩<;>(rw[h1]at z;cases z)
structure StD(K:am)(Z:Anc)(O:Zg)(i:Nat)(J:St)(H R:Hp)(M:az)(l:Addr)(as:List Addr)(dss:List (List D)):Prop where
 st:StR K Z O J H R M
 hi:i∉O
 no:M[i]? =some none
 at':J[i]? =some (some (.ref l))
 dp:Deep K H R l as dss
 z0:∀a∈l::as,Z.H0 a=none
 ow:∀a∈l::as,∀j,j∈O->J[j]? ≠some (some (.ref a))
section
variable{K:am}{Z:Anc}{O:Zg}{i j:Nat}{J:St}{H R H' R':Hp}{M M':az}{l:Addr}{as:List Addr}{dss:List (List D)}
def StD.stp(S:StD K Z O i J H R M l as dss)(T:StR K Z O J H' R' M')(s:Stp O J H R H' R')(no:M'[i]? =some none):StD K Z O i J H' R' M' l as dss:=by
 refine⟨T,S.hi,no,S.at',⟨s.h _ _ S.dp.top (S.ow l jj),?_,S.dp.inn.stp s λa ha=>S.ow a (ji _ ha),S.dp.nd⟩,S.z0,S.ow⟩;cases q:R' l with
 |none=>rfl
 | some o=>
  rcases s.n l (by rw[q];exact λz=>nomatch z)with z|z
  .exact absurd S.dp.rl z
  .rcases z with z|⟨xs,z⟩<;>(rw[S.dp.top]at z;cases z)
def StD.grown(S:StD K Z O i J H R M l as dss)(s:Same H H'):StD K Z O i J H' R M l as dss:=
 have y:=⟨s,Same.refl _,λa o z=>s _ _ (S.st.sub a o z),λ_ z=>.inl z⟩
 S.stp (S.st.ext y) y.stp S.no
def StD.set(S:StD K Z O i J H R M l as dss){v:V}{d:D}(hj:j∉O)(ij:j≠i)(r:Rp K R v d):StD K Z O i (J.set j (some v)) H R (M.set j (some d)) l as dss:=
 ⟨S.st.set hj r,S.hi,by rw[jv ij];exact S.no,by rw[jv ij];exact S.at',S.dp,S.z0,λa ha k hk=>by rw[jv λ(q:j=k)=>hj (q▸hk)];exact S.ow a ha k hk⟩
def StR.blind{v:V}(S:StR K Z O J H R M)(hj:j∉O):StR K Z O (J.set j (some v)) H R (M.set j none):=by
 have ne:∀k,k∈O->j≠k:=λk hk z=>hj (z▸hk);refine⟨S.sub,by rw[xn,xn];exact S.len,λk e hk q=>?_,λk hk=>?_,λk m hk hm n l e=>?_,S.ah,S.ar,S.an,S.ad,λk hk hp l e=>?_,λk hk hp l e=>?_⟩
 .by_cases hij:j=k
  .subst hij;have hl:j<M.length:=by
    have:=(List.getElem?_eq_some_iff.mp q).1
    rwa [xn]at this
   rw[xl hl]at q;cases q
  .rw[jv hij]at q ⊢;exact S.env k e hk q
 .rw[jv (ne k hk),jv (ne k hk)];exact S.own k hk
 .rw[jv (ne k hk)]at e;rw[jv (ne m hm)];exact S.dis k m hk hm n l e
 .rw[jv (ne k hk)]at e;exact S.ao k hk hp l e
 .rw[jv (ne k hk)]at e;exact S.ap k hk hp l e
def StD.wrAt{k:Nat}{a:Addr}{vs:List V}{ds:List D}(S:StD K Z O i J H R M l as dss)(e:as[k]? =some a)(r:Rps K R vs ds):StD K Z O i J (aM H a (.lst vs)) R M l as (dss.set k ds):=by have m:a∈l::as:=ji _ (kc e);let⟨_,_,_,_,hr,_⟩:=S.dp.inn.at e;exact⟨S.st.put hr (λj hj=>S.ow a m j hj) (S.z0 a m),S.hi,S.no,S.at',S.dp.setAt e r,S.z0,S.ow⟩
end
abbrev Fd:=az->List (List D)->Option (az×List (List D))
def qY(K:am)(O:Zg)(i:Nat)(t:TS)(f:Fd):Prop:=∀(Z:Anc) (E:Ends) (J:St) (H R:Hp) (M:az) (l:Addr) (as:List Addr) (dss:List (List D)) (M':az) (j4:List (List D)),StD K Z O i J H R M l as dss->f M dss=some (M',j4)->
 (∀J' H' R' as',StD K Z O i J' H' R' M' l as' j4->Same R R'->E.nx J' H')->t E J H
section
variable{K:am}{O:Zg}{i j:Nat}{t u:TS}{te:TE}{tt:TT}{tr:TA}{f h:Fd}{fe:aF}{fs:aV}{ft:eI}
noncomputable def dq(M:az)(i:Nat):Bool:=match M[i]? with
 |some none=>true
 |_=>false
def uE{M:az}{i:Nat}(h:dq M i=true):M[i]? =some none:=by
 unfold dq at h;split at h
 .assumption
 .cases h
end
def wm(K:am)(n:Nat)(f:List D->Option (List (List D))):Sp:=λvs H Q _=>vs.length=n/\∃R ds dss,(∀a o,R a=some o->H a=some o)/\Rps K R vs ds/\f ds=some dss/\
 ∀l as H' R',Ext H R H' R'->(∀a∈l::as,H a=none)->Deep K H' R' l as dss->Q (.ref l) H'
noncomputable def oV(o:Option (List (List D))):Option D:=o.map λdss=>.lst (dss.map D.lst)
def Deep.known{K:am}{H R H' R':Hp}{l:Addr}{as:List Addr}{dss:List (List D)}(x:Ext H R H' R')(z:∀a∈l::as,H a=none)(h:Deep K H' R' l as dss):∃R1,Ext H R H' R1/\Rp K R1 (.ref l) (.lst (dss.map D.lst)):=by
 have S:StR K ⟨H,R,λ_=>False,[]⟩ [] [] H' R' []:=⟨x.s,rfl,λi d _ q=>by simp at q,λi hi=>(nomatch hi),λi j hi=>(nomatch hi),λa o q _=>x.h a o q,x.r,x.n,λa q=>x.h.liv q,λi hi=>(nomatch hi),λi hi=>(nomatch hi)⟩;let⟨nl,nd⟩:=List.nodup_cons.mp h.nd;let⟨R1,S1,s1,r1,o1⟩:=S.knowAll h.inn nd λa ha=>⟨z a (ji _ ha),λj hj=>(nomatch hj)⟩;have e1:R1 l=none:=by rw[o1 l nl];exact h.rl
 have S2:=S1.know (z l jj) h.top e1 λj hj=>(nomatch hj);exact⟨_,⟨λa o q=>S2.ah a o q (λz=>z),S2.ar,S2.sub,S2.an⟩,.lst (SqL.of cA) (r1.mono (Same.new e1))⟩
def qxj{K:am}{n:Nat}{f:List D->Option (List (List D))}{vs:List V}{H:Hp}{Q:VK}{E:XK}(h:ca K false n (λds=>oV (f ds)) vs H Q E):wm K n f vs H Q E:=by
 obtain⟨hn,R,ds,d,sub,r,e,k⟩:=h;have e:oV (f ds)=some d:=e;cases q:f ds with
 |none=>rw[q]at e;cases e
 | some dss=>
  rw[q]at e;cases e;refine⟨hn,R,ds,dss,sub,r,q,λl as H' R' x z dp=>?_⟩;let⟨R1,x1,r1⟩:=dp.known x z;exact k _ H' R1 x1 r1
def qlc{K:am}{Nms:Zj}{n:Nat}{H R:Hp}{vs:List V}{ds:List D}(hn:vs.length=n)(hl:ds.length=n)(sub:∀a o,R a=some o->H a=some o)(r:Rps K R vs ds):StR K ⟨H,R,λ_=>False,[]⟩ [] (bc Nms vs) H R (ds.map some++replicate (Nms.length-n) none):=by
 refine⟨sub,?_,λi d _ q=>?_,λi hi=>absurd hi (by simp),λi j hi=>absurd hi (by simp),λa o q _=>q,Same.refl _,λa q=>.inl q,λa q=>.refl q,λi hi=>absurd hi (by simp),λi hi=>absurd hi (by simp)⟩
 .unfold bc;rw[jt,jt,ja,ja,x6,x6,hn,hl]
 .let⟨v,h1,h2⟩:=r.get (uH q);exact⟨v,uI h1,h2⟩
section
variable{K:am}{O T:Zg}{i:Nat}{t:TS}{te:TE}{tr:TA}{g:TG}{f:Fd}{fe:aF}{fs:aV}{fg:eM}
noncomputable def kN(i:Nat)(fg:eM)(f:Fd):List D->Fd
 |[],M,dss=>some (M,dss)
 | d::r,M,dss=>match fg d M with
  | some M1=>if dq M1 i=true then(match f M1 dss with
   |some p=>kN i fg f r p.1 p.2
   |none=>none)else none
  |none=>none
def tX(i:Nat)(fg:eM)(fi:aV)(f:Fd):Fd:=λM dss=>match fi M with
 |some (ds,M1)=>if dq M1 i=true then kN i fg f ds M1 dss else none
 |none=>none
def StD.tgt{Z:Anc}{J J':St}{H R:Hp}{M M':az}{l:Addr}{as:List Addr}{dss:List (List D)}(S:StD K Z O i J H R M l as dss)(S':StR K Z O J' H R M')(n:∀j,j∉T->J'[j]? =J[j]?)(hT:∀k∈i::O,k∉T)(no:M'[i]? =some none):StD K Z O i J' H R M' l as dss:=
 ⟨S',S.hi,no,by rw[n i (hT i jj)];exact S.at',S.dp,S.z0,λa ha k hk=>by rw[n k (hT k (ji _ hk))];exact S.ow a ha k hk⟩
def qkp{wi:TI}{fi:aV}{tb:TS}(hi:MI K O wi fi)(hg:MG K O T g fg)(hT:∀k∈i::O,k∉T)(hb:qY K O i tb f):qY K O i (nH wi g tb) (tX i fg fi f):=λZ E J H R M l as dss M' j4 S e k=>by
 unfold tX at e;split at e
 .rename_i ds M1 q;split at e
  .rename_i z;refine hi Z J H R M ds M1 _ S.st q λσ H1 R1 S1 st1 ok=>?_;refine⟨λn m J' H'=>m=ds.length-n/\n<=ds.length/\∃R2 M2 as2 dss2,StD K Z O i J' H' R2 M2 l as2 dss2/\Same R1 R2/\kN i fg f (ds.drop n) M2 dss2=some (M',j4),⟨ds.length,by simp,zero_le _,R1,M1,as,dss,(S.stp S1 st1 (uE z)),Same.refl _,by rw[drop_zero];exact e⟩,?_⟩;rintro n m J' H' ⟨rfl,hn,R2,M2,as2,dss2,S3,s3,e3⟩;let⟨o1,o2⟩:=ok H' R2 s3 S3.st.sub n;by_cases hlt:n<ds.length
   .let⟨g1,g2⟩:=o2 ds[n] (jh hlt);rw[vf hlt]at e3;refine .inr ⟨g1,λJ3 H3=>∃R2 M2 as2 dss2,StD K Z O i J3 H3 R2 M2 l as2 dss2/\Same R1 R2/\kN i fg f (ds.drop (n+1)) M2 dss2=some (M',j4),?_,λx H3 y=>?_⟩
    .rintro J3 H3 ⟨R3,M3,as3,dss3,q1,q2,q3⟩;exact⟨ds.length-(n+1),by lia,rfl,hlt,R3,M3,as3,dss3,q1,q2,q3⟩
    .let⟨R3,x3,r3⟩:=g2 x H3 y;have S4:=S3.stp (S3.st.ext x3) x3.stp S3.no;unfold kN at e3;split at e3
     .rename_i M4 e4;split at e3
      .rename_i z4;refine hg Z J' H3 R3 M2 x ds[n] M4 _ S4.st r3 e4 λσ4 S5 n5=>?_;split at e3
       .rename_i p e5;exact hb Z _ _ H3 R3 _ l as2 dss2 p.1 p.2 (S4.tgt S5 n5 hT (uE z4)) e5 λσ5 H5 R5 as5 S7 s5=>⟨R5,p.1,as5,p.2,S7,(s3.trans x3.r).trans s5,e3⟩
       .cases e3
      .cases e3
     .cases e3
   .have en:n=ds.length:=by lia
    subst en;rw[drop_length]at e3;unfold kN at e3;cases e3;exact .inl ⟨o1 rfl,k J' H' R2 as2 S3 (st1.r.trans s3)⟩
  .cases e
 .cases e
noncomputable def qy(dss:List (List D))(n:Int)(d:D):Option (List (List D)):=if 0<=n then(match dss[n.toNat]? with
 |some ds=>if ds.length<sizeLine then some (dss.set n.toNat (ds++[d]))else none
 |none=>none)else none
def pB(i:Nat)(fe:aF)(fs:aV):Fd:=λM dss=>match fe M with
 | some (.int n,M0)=>if dq M0 i=true then(match fs M0 with
  |some ([d],M1)=>if dq M1 i=true then(qy dss n d).map λx=>(M1,x)else none
  |_=>none)else none
 |_=>none
def qe7(he:ME K O te fe)(ha:MA K O tr fs):qY K O i (qf (sZ K "list" yT (jO (pR K) (dJ i) te) tr)) (pB i fe fs):=λZ E J H R M l as dss M' j4 S e k=>by
 unfold pB at e;split at e
 .rename_i n M0 q0;split at e
  .rename_i z0;have no0:=uE z0;split at e
   .rename_i d M1 q;split at e
    .rename_i z;have no:=uE z;cases w:qy dss n d with
     |none=>rw[w]at e;cases e
     | some x=>
      rw[w]at e;cases e;unfold qy at w;split at w
      .rename_i hn0;split at w
       .rename_i ds w1;split at w
        .rename_i w2;cases w;refine⟨.ref l,S.at',he Z J H R M (.int n) M0 _ S.st q0 λv0 H0 R0 S0 st0 r0=>?_⟩;cases r0;have T0:=S.stp S0 st0 no0;have ln:=T0.dp.inn.len;have hk:n.toNat<as.length:=by rw[ln];exact(List.getElem?_eq_some_iff.mp w1).1
         have ea:as[n.toNat]? =some as[n.toNat]:=jh hk;let⟨vs,ds2,g1,g2,g3,g4⟩:=T0.dp.inn.at ea;rw[w1]at g1;cases g1;refine .inl ⟨l,_,n,.ref as[n.toNat],rfl,rfl,SqL.of T0.dp.top,?_,?_⟩
         .unfold cc;have e1:fM (as.map V.ref).length n=some n.toNat:=by
           rw[ja];unfold fM;rw[if_pos hn0,if_pos (by lia)]
          rw[e1];show(as.map V.ref)[n.toNat]? =_;rw[jo,ea];rfl
         .refine⟨.inl ⟨rfl,vs,SqL.of g2⟩,ha Z J H0 R0 M0 [d] _ _ T0.st q λws H1 R1 S1 st1 r1=>?_⟩;obtain⟨v,_,rfl,rv,rn⟩:=r1.isC;cases rn;have S2:=T0.stp S1 st1 no;let⟨vs2,ds3,g1,g2,g3,g4⟩:=S2.dp.inn.at ea;rw[w1]at g1;cases g1;exact⟨_,vs2,v,rfl,rfl,g2,by rw[g4.length];exact w2,k J _ R1 as (S2.wrAt ea (g4.snoc rv)) (st0.r.trans st1.r)⟩
        .cases w
       .cases w
      .cases w
    .cases e
   .cases e
  .cases e
 .cases e
end
def E9(i n:Nat)(js:Zg)(wi:TI)(t:TS):TS:=lL (tJ i n js wi (gE 0) iL (nG fy)) (lL t (iM (dJ i)))
theorem Inn.empty{K:am}{H R:Hp}:∀{as:List Addr},(∀a∈as,H a=some (.lst []))->(∀a∈as,R a=none)->Inn K H R as (replicate as.length [])
 |[],_,_=>.nil
 |a::as,h,r=>.cons (h a jj) (r a jj) .nil (Inn.empty (λb hb=>h b (ji _ hb)) λb hb=>r b (ji _ hb))
def qek{K:am}{i n:Nat}{js:Zg}{wi:TI}{fi:aV}{t:TS}{f:Fd}{H R H1 R1:Hp}{J:St}{M M1:az}{ds:List D}{dss:List (List D)}{Q:VK}(hw:MI K [] wi fi)(hm:qY K [] i t f)(S:StR K ⟨H,R,λ_=>False,[]⟩ [] J H1 R1 M)(e1:fi M=some (ds,M1))(hl:i<M1.length)(hz:ds.length<=sizeLine){M':az}(e:f (M1.set i none) (replicate ds.length [])=some (M',dss))
 (k:∀l as H' R',Ext H R H' R'->(∀a∈l::as,H a=none)->Deep K H' R' l as dss->Q (.ref l) H'):E9 i n js wi t {nx:=λ_ H'=>Q .non H',rt:=Q} J H1:=by
 refine hw _ J H1 R1 M ds M1 _ S e1 λσ H2 R2 S2 st2 ok=>?_;refine⟨λc m ys H3=>m=ds.length-c/\c<=ds.length/\∃(R3:Hp) (as:List Addr),ys=as.map V.ref/\as.length=c/\as.Nodup/\(∀a∈as,H a=none)/\(∀a∈as,H3 a=some (.lst []))/\(∀a∈as,R3 a=none)/\Same R2 R3/\StR K ⟨H,R,λ_=>False,[]⟩ [] J H3 R3 M1,
  ⟨ds.length,by simp,zero_le _,R2,[],rfl,rfl,nodup_nil,λ_ h=>(nomatch h),λ_ h=>(nomatch h),λ_ h=>(nomatch h),Same.refl _,S2⟩,?_⟩
 rintro c m ys H3 ⟨rfl,hc,R3,as,rfl,la,nd,a1,a2,a3,s3,S3⟩;let⟨o1,o2⟩:=ok H3 R3 s3 S3.sub c;by_cases hlt:c<ds.length
 .let⟨g1,g2⟩:=o2 ds[c] (jh hlt);refine .inr ⟨g1,by rw[ja];lia,λys' H'=>∃(R3:Hp) (as:List Addr),ys'=as.map V.ref/\as.length=c+1/\as.Nodup/\(∀a∈as,H a=none)/\(∀a∈as,H' a=some (.lst []))/\(∀a∈as,R3 a=none)/\Same R2 R3/\StR K ⟨H,R,λ_=>False,[]⟩ [] J H' R3 M1,?_,λx H4 y=>?_⟩
  .rintro ys' H' ⟨R4,as4,q⟩;exact⟨ds.length-(c+1),by lia,rfl,hlt,R4,as4,q⟩
  .let⟨R4,x4,r4⟩:=g2 x H4 y;have S4:=S3.ext x4;dsimp only[gE,iL];rw[if_pos rfl];refine⟨by show 0<=sizeLine;exact zero_le _,λp hp=>?_⟩;have b2:=λa ha=>x4.h a _ (a2 a ha);have np:p∉as:=λq=>by have:=b2 p q;rw[hp]at this;cases this
   have b3:∀a∈as,R4 a=none:=λa ha=>by
    cases q:R4 a with
    |none=>rfl
    | some o=>
     rcases x4.n a (by rw[q];exact λz=>nomatch z)with z|z
     .exact absurd (a3 a ha) z
     .rcases z with z|⟨xs,z⟩<;>(rw[a2 a ha]at z;cases z)
   refine⟨R4,as++[p],by rw[xk];rfl,by rw[jt,la];rfl,List.nodup_append.mpr ⟨nd,by simp,λu hu v hv q=>np (by rw[List.mem_singleton.mp hv]at q;exact q▸hu)⟩,λa ha=>?_,λa ha=>?_,λa ha=>?_,s3.trans x4.r,S4.ext (Ext.hid S4.sub hp)⟩
   .rcases List.mem_append.mp ha with ha|ha
    .exact a1 a ha
    .rw[List.mem_singleton.mp ha];exact S4.new0 hp
   .rcases List.mem_append.mp ha with ha|ha
    .rw[aX λq=>np (by rw[<-q];exact ha)];exact b2 a ha
    .rw[List.mem_singleton.mp ha];exact cA
   .rcases List.mem_append.mp ha with ha|ha
    .exact b3 a ha
    .rw[List.mem_singleton.mp ha];exact S4.out hp
 .have ec:c=ds.length:=by lia
  subst ec;refine .inl ⟨o1 rfl,by rw[ja,la];exact hz,λp hp=>?_⟩;have np:p∉as:=λq=>by have:=a2 p q;rw[hp]at this;cases this
  have x:=Ext.hid (o:=.lst (as.map V.ref)) S3.sub hp;have S4:=S3.ext x;have T:StD K ⟨H,R,λ_=>False,[]⟩ [] i (J.set i (some (.ref p))) (aM H3 p (.lst (as.map V.ref))) R3 (M1.set i none) p as (replicate ds.length []):=by
   refine⟨S4.blind (by simp),by simp,List.getElem?_set_self hl,List.getElem?_set_self (by rw[S3.len];exact hl),⟨cA,S3.out hp,?_,List.nodup_cons.mpr ⟨np,nd⟩⟩,λa ha=>?_,λa ha j hj=>(nomatch hj)⟩
   .rw[<-la];exact Inn.empty (λa ha=>by rw[aX λq=>np (by rw[<-q];exact ha)];exact a2 a ha) a3
   .rcases List.mem_cons.mp ha with ha|ha
    .rw[ha];exact S3.new0 hp
    .exact a1 a ha
  refine hm _ _ _ _ R3 _ p as _ M' dss T e λJ' H' R' as' S' s'=>?_;exact⟨.ref p,S'.at',k p as' H' R' ⟨λa o q=>S'.st.ah a o q (λz=>z),S'.st.ar,S'.st.sub,S'.st.an⟩ S'.z0 S'.dp⟩
noncomputable def mU(n N i:Nat)(fi:aV)(f:Fd)(ds:List D):Option (List (List D)):=if ds.length=n then match fi (ds.map some++replicate (N-n) none)with
 | some (xs,M1)=>if i<M1.length/\xs.length<=sizeLine then(match f (M1.set i none) (replicate xs.length [])with
  |some p=>some p.2
  |none=>none)else none
 |none=>none
 else none
def qol{n N i:Nat}{fi:aV}{f:Fd}:b8 n (λds=>oV (mU n N i fi f ds)):=λds d e=>by
 have e:oV (mU n N i fi f ds)=some d:=e;unfold mU at e;split at e
 .assumption
 .cases e
def qfi{K:am}{n i m:Nat}{js:Zg}{Nms:Zj}{wi:TI}{fi:aV}{t:TS}{f:Fd}{vs:List V}{H:Hp}{Q:VK}{E:XK}(hw:MI K [] wi fi)(hm:qY K [] i t f)(h:wm K n (mU n Nms.length i fi f) vs H Q E):E9 i m js wi t {nx:=λ_ H'=>Q .non H',rt:=Q} (bc Nms vs) H:=by
 obtain⟨hn,R,ds,dss,sub,r,e,k⟩:=h;unfold mU at e;split at e
 .rename_i hl;split at e
  .rename_i xs M1 e1;split at e
   .rename_i hz;split at e
    .rename_i p e2;cases e;exact qek hw hm (qlc hn hl sub r) e1 hz.1 hz.2 e2 k
    .cases e
   .cases e
  .cases e
 .cases e
def qhn:typeLookup (.type "list_reverseiterator") (Str.ofString "__len__")=pure none:=by kernel_rfl
def ql6:typeLookup (.type "list_reverseiterator") (Str.ofString "__length_hint__")=pure (some (.builtin "list_reverseiterator.__length_hint__")):=by kernel_rfl
noncomputable def u5(K:am)(a:Addr)(n:Nat):It:=
 ⟨λi H=>∃xs,SqL K H a xs/\xs.length=n/\i<n,λi H x H'=>H'=H/\∀xs,SqL K H a xs->xs[n-1-i]? =some x,λi H=>i=n⟩
def qjp{P:Program}{w:World}{K:am}{tg:Expr}(a it:Addr)(n:Nat):Turn P w K tg (u5 K a n) [it] it (λi h=>i<=n/\h.IsRevIter it a ((n:Int)-1-i)) where
 mem:=by simp
 obj:=λi h st b hb=>by
  have e:b=it:=by simpa using hb
  subst e;obtain⟨_,o,e,c,d⟩:=st;exact⟨o,e,λv z=>by rw[d]at z;cases z⟩
 keep:=λi h h' st k=>⟨st.1,by obtain⟨o,e,c⟩:=st.2;exact⟨o,k it (by simp) o e,c⟩⟩
 item:=by
  intro X hP hw hK hc i z5 s J H E I hf st hg;subst hP hw hK;obtain⟨xs,hq,hl,hi⟩:=hg;let⟨its,rv,p,hz⟩:=I.list hq;have hx:xs[n-1-i]? =some (xs[n-1-i]'(by lia)):=jh (by lia);let⟨u,hu,ru⟩:=rv.get hx;let⟨f0,f1,f2,f3,f4,f5⟩:=hf it (by simp);have st2:=st.2;have en:((n:Int)-1-i)=((n-1-i:Nat):Int):=by lia
  rw[en]at st2;refine wpAny_pyNext_rev_item st2 p.isList (by simpa using hu) λh' st' sb=>?_;have I1:Inv X z5 J H {s with heap:=h'}:=I.turned (λb o hb e=>(sb.2 b hb).trans e) f0 f1 f3 f4 f5;have st3:h'.IsRevIter it a ((n:Int)-1-(i+1:Nat)):=by
   have e2:((n:Int)-1-(i+1:Nat))=((n-1-i:Nat):Int)-1:=by lia
   rw[e2];exact st'
  let⟨o,e,c,d⟩:=id st';exact⟨u,rfl,pV (s:={s with heap:=h'}) e c d (by decide) ⟨_,H,I1,ru,⟨rfl,λys hy=>by rw[I.list_inj hy hq];exact hx⟩,⟨by lia,st3⟩,λb hb=>(hf b hb).1⟩⟩
 done:=by
  intro X hP hw hK hc i z5 s J H E I hf st hg;subst hP hw hK;have hi:i=n:=hg;let⟨f0,f1,f2,f3,f4,f5⟩:=hf it (by simp);have st2:=st.2;have en:((n:Int)-1-i)= -1:=by lia
  rw[en]at st2;exact wpAny_pyNext_rev_end (I.ok.hd hc) st2 λh' eb=>⟨rfl,I.turned (t':=s.toks) (λb o hb e=>eb b o hb e) f0 f1 f3 f4 f5⟩
 self:=λ_ _ _ _ _ st h=>wpAny_pyIter_revIter st.2 h
section
variable{X:Cx}{K:am}{a tg:Expr}{ta:TE}{p pos:Pos}
def r8(K:am)(ta:TE):TI:=λJ H R=>ta J H λv H1=>∃p1 xs,[v]=[V.ref p1]/\SqL K H1 p1 xs/\R (u5 K p1 xs.length) H1
def qta(hK:X.K=K)(hg:Gl X "reversed")(hm:X.mg "reversed"=none)(ha:PE X a ta)(he:starEach [a] X.env=(false,eval a X.env)::starEach [] X.env:=by rfl)(hpl:(backTo pos (starEach [] X.env)).any (·.1)=false:=by rfl):
 PI X tg (.Call (.Name "reversed" p) [a] [] pos) (r8 K ta):=by
 subst hK;intro z5 s J H R I h;refine k6 (iD I hg hm rfl ?_);refine PyProof.Rows.callWith_type1 (bf ((ak ha av he) pos z5 s J H (λvs H1=>∃p1 xs,vs=[V.ref p1]/\SqL X.K H1 p1 xs/\R (u5 X.K p1 xs.length) H1) I h) λus s1 h1=>?_) he hpl;obtain⟨vs,H1,I1,r1,p1,xs,rfl,q1,k⟩:=h1;obtain⟨u,rfl,ru⟩:=cj r1;cases(ru);let⟨its,rv,pl,hz⟩:=I1.list q1;have ln:its.length=xs.length:=by have:=rv.length;lia
 refine call_reversed_list pl.isList (wpAny_pyIter_revIter ⟨_,ju _ rfl,rfl,rfl⟩ ?_);refine⟨s1.heap.objs.size,[s1.heap.objs.size],_,_,H1,rfl,I1.kept λb o e=>je _ e,qjp p1 _ xs.length,⟨zero_le _,_,ju _ rfl,rfl,?_⟩,λb hb=>?_,k⟩
 .show Data.fields #[Value.ref p1,rawInt ((its.toArray.size:Int)-1)]=_;rw[jx,ln];simp
 .have e:b=s1.heap.objs.size:=by simpa using hb
  subst e;exact I1.fpOk (jg _) (I1.hok.fresh (jg _))
end
def qej{prog:Program}{w:World}{A:Around}{s:Shared}{R:Zb}{I l S:Addr}{items:Zd}{c₀:Nat}{res:Value}(hh:A.in1.handled=none)(hn:items.size<=sizeLine)(gI:s.heap.IsRevIter I l ((items.size:Int)-1))(gl:s.heap.IsList l items)(lI:l≠I)(SI:S≠I)(Sl:S≠l)
 (hS:s.heap.get? S=some {cls:=.type "list",data:=.seq #[] c₀})
 (hR:∀s' acc c',Moved [S,I] (λa b=>b=a) s s'->s'.heap.get? S=some {cls:=.type "list",data:=.seq acc c'}->ItemsOf (λi v=>items[items.size-1-i]? =some v) acc items.size->R (.ok (.ret res)) s'):
 wpAny (model prog w) A.in1 (Builtin.List.listExtendWith (.ref S) (.ref I) res) (λfin s'=>match fin with
  |.done f=>R (.ok f) s'
  |.again c'=>c'.quiet=true/\codeAny (model prog w) A c' R s') (λe s'=>R (.error e) s') s:=by
 have ty:s.TypeIs (.ref I) "list_reverseiterator":=by obtain⟨o,e,c,_⟩:=gI;exact⟨o,e,c⟩
 have W:=(Walks.listRev (prog:=prog) (w:=w) hh I l lI items).toS;unfold Builtin.List.listExtendWith;refine j9 (wpAny_typeOf ty ?_);have h1:Builtin.List.listSameRef (.ref S) (.ref I)=false:=by unfold Builtin.List.listSameRef;simp[SI]
 have h2:(Value.type "list_reverseiterator"==Value.type "list")=false:=by decide
 have h3:(Value.type "list_reverseiterator"==Value.type "tuple")=false:=by decide
 simp only[h1,h2,h3,Bool.or_false,false_eq_true,if_false];refine j9 (wpAny_pyIter_revIter gI ?_);refine j9 (xm ?_);unfold Builtin.List.listLengthHint;refine j9 (wpAny_specialOf ty qhn ?_);show wpAny _ _ (specialOf (.ref I) (Str.ofString "__length_hint__") >>= _) _ _ s;refine j9 (wpAny_specialOf ty ql6 ?_);show wpAny _ _ (isInstance (.ref I) (.type "list_reverseiterator") >>= _) _ _ s;refine j9 (wpAny_isInstance ty (b:=true) (by kernel_rfl) ?_);show wpAny _ _ (pure false) _ _ s;refine jb ?_;show wpAny _ _ (again (.builtin "list.extend.loop" ⟨[.ref S,.ref I,res],[]⟩)) _ _ s;refine jb ⟨vm F.plain_extend_loop _,?_⟩;refine codeAny_extend_loopS W hn S (by simp;exact⟨SI,Sl⟩) res items.size 0 s #[] c₀ rfl (zero_le _) ⟨zero_le _,by simpa using gI,gl⟩ hS (.nil _) λs' acc c' m e i=>hR s' acc c' ?_ e i;exact m
def ql5{prog:Program}{w:World}{A:Around}{s:Shared}{R:Zb}{I l S:Addr}{items:Zd}(hh:A.in1.handled=none)(hn:items.size<=sizeLine)(gI:s.heap.IsRevIter I l ((items.size:Int)-1))(gl:s.heap.IsList l items)(lI:l≠I)(SI:S≠I)(Sl:S≠l)
 (hS:s.heap.get? S=some {cls:=.type "list",data:=.seq #[]})
 (hR:∀s' acc c',Moved [S,I] (λa b=>b=a) s s'->s'.heap.get? S=some {cls:=.type "list",data:=.seq acc c'}->ItemsOf (λi v=>items[items.size-1-i]? =some v) acc items.size->R (.ok (.ret .none)) s'):
 wpAny (model prog w) A.in1 (Builtin.«list.__init__» ⟨[.ref S,.ref I],[]⟩) (λfin s'=>match fin with
  |.done f=>R (.ok f) s'
  |.again c'=>c'.quiet=true/\codeAny (model prog w) A c' R s') (λe s'=>R (.error e) s') s:=by
 show wpAny _ _ (Builtin.List.listItems (.ref S) >>= _) _ _ s;refine j9 ?_;unfold Builtin.List.listItems;refine j9 (k7 hS rfl (jb ?_));show wpAny _ _ (Builtin.List.listUpdate (.ref S) _ >>= _) _ _ s;unfold Builtin.List.listUpdate;refine j9 (wpAny_updateSeq hS rfl ?_ (by simp) (by simp));have hS2:=vk (Obj.mapSeq λ_=>#[]) hS rfl;have oth:∀b o,b≠S->s.heap.get? b=some o->(s.heap.update S (Obj.mapSeq λ_=>#[])).get? b=some o:=λb o hb e=>(ke s.heap (Obj.mapSeq λ_=>#[]) (Ne.symm hb)).trans e;refine j9 (kr ?_);refine qej (s:={s with heap:=s.heap.update S (Obj.mapSeq λ_=>#[])}) hh hn ?_ ?_ lI SI Sl hS2 λs' acc c' m e i=>hR s' acc c' ?_ e i
 .obtain⟨o,e,c⟩:=gI;exact⟨o,oth I o (Ne.symm SI) e,c⟩
 .obtain⟨o,e,c⟩:=gl;exact⟨o,oth l o (Ne.symm Sl) e,c⟩
 .exact⟨λb o nb e=>m.heap b o nb (oth b o (λq=>nb (by rw[q];simp)) e),m.gens,m.drawn,m.os,m.toks⟩
def q9m{prog:Program}{w:World}{A:Around}{E:Z0}{s:Shared}{Q:Z0}{I l:Addr}{items:Zd}(hh:A.in1.in1.handled=none)(hn:items.size<=sizeLine)(gI:s.heap.IsRevIter I l ((items.size:Int)-1))(gl:s.heap.IsList l items)(lI:l≠I)
 (hQ:∀s' acc c',(∀b o,b≠I->s.heap.get? b=some o->s'.heap.get? b=some o)->s'.gens=s.gens->s'.drawn=s.drawn->s'.os=s.os->s'.heap.get? s.heap.objs.size=some {cls:=.type "list",data:=.seq acc c'}->ItemsOf (λi v=>items[items.size-1-i]? =some v) acc items.size->Q (.ref s.heap.objs.size) s'):
 wpAny (model prog w) A (call (.type "list") [.ref I]) Q E s:=by
 have ltI:I<s.heap.objs.size:=by obtain⟨o,e,_⟩:=gI;exact jd e
 have ltl:l<s.heap.objs.size:=by obtain⟨o,e,_⟩:=gl;exact jd e
 refine callType_codes F.called_list (F.typeCall_list_1 _) F.entry_list_init (Q₁:=λv s1=>v=.ref s.heap.objs.size/\s1={s with heap:=s.heap.push {cls:=.type "list",data:=.seq #[]}}) (code_list_new _ ⟨rfl,rfl⟩) λobj s1 h1=>?_;obtain⟨rfl,rfl⟩:=h1;have hS:=ju s.heap (o:={cls:=.type "list",data:=.seq #[]}) rfl;refine⟨⟨_,hS,rfl⟩,F.args_list_init_2 _ _,?_⟩;refine ql5 (l:=l) (items:=items) hh hn ?_ ?_ lI (ne_of_gt ltI) (ne_of_gt ltl) hS λs' acc c' m e i=>⟨rfl,hQ s' acc c' (λb o nb eb=>?_) m.gens m.drawn m.os e i⟩
 .obtain⟨o,e,c⟩:=gI;exact⟨o,je _ e,c⟩
 .obtain⟨o,e,c⟩:=gl;exact⟨o,je _ e,c⟩
 .refine m.heap b o (λq=>?_) (je _ eb);rcases List.mem_cons.mp q with q|q
  .have:=jd eb;rw[q]at this;exact xo _ this
  .exact nb (List.mem_singleton.mp q)
section
variable{X:Cx}{K:am}{O:Zg}{a:Expr}{ta:TE}{p p2 pos zl:Pos}{fa:aF}
def DU(K:am)(ta:TE):TE:=λJ H Q=>ta J H λv H1=>∃p xs,[v]=[V.ref p]/\SqL K H1 p xs/\∀q,H1 q=none->Q (.ref q) (aM H1 q (.lst xs.reverse))
def qov(hK:X.K=K)(hc:X.calm=true)(hg:Gl X "list")(hm:X.mg "list"=none)(hg2:Gl X "reversed")(hm2:X.mg "reversed"=none)(ha:PE X a ta)(he2:starEach [a] X.env=(false,eval a X.env)::starEach [] X.env:=by rfl)(hpl2:(backTo pos (starEach [] X.env)).any (·.1)=false:=by rfl)
 (he:starEach [.Call (.Name "reversed" p) [a] [] pos] X.env=(false,eval (.Call (.Name "reversed" p) [a] [] pos) X.env)::starEach [] X.env:=by rfl) (hpl:(backTo zl (starEach [] X.env)).any (·.1)=false:=by rfl):
 PE X (.Call (.Name "list" p2) [.Call (.Name "reversed" p) [a] [] pos] [] zl) (DU K ta):=by
 subst hK;intro z5 s J H Q I h;refine k6 (iD I hg hm (by rfl) ?_);refine PyProof.Rows.callWith_type1 ?_ he hpl;rw[he];show wpAny _ _ (spliced ((false,eval (.Call (.Name "reversed" p) [a] [] pos) X.env)::backTo zl (starEach [] X.env))) _ _ s;refine vx ?_;refine k6 (iD I hg2 hm2 (by rfl) ?_);refine PyProof.Rows.callWith_type1 (bf ((ak ha av he2) pos z5 s J H (λvs H1=>∃p1 xs,vs=[V.ref p1]/\SqL X.K H1 p1 xs/\∀q,H1 q=none->Q (.ref q) (aM H1 q (.lst xs.reverse))) I h) λus s1 h1=>?_) he2 hpl2;obtain⟨vs,H1,I1,r1,p1,xs,rfl,q1,k⟩:=h1;obtain⟨u,rfl,ru⟩:=cj r1;cases(show u=Value.ref p1 from ru);let⟨its,rv,pl,hz⟩:=I1.list q1;have ln:its.length=xs.length:=by have:=rv.length;lia
 have lp:p1<s1.heap.objs.size:=by obtain⟨o,e,_⟩:=pl.isList;exact jd e
 refine call_reversed_list pl.isList (Calls.spliced_nil ?_);have gl:(s1.heap.push (revObj p1 ((its.toArray.size:Int)-1))).IsList p1 its.toArray:=by obtain⟨o,e,c⟩:=pl.isList;exact⟨o,je _ e,c⟩
 refine q9m (l:=p1) (items:=its.toArray) (I1.ok.hd hc) (by rw[jx];lia) ⟨_,ju _ rfl,rfl,rfl⟩ gl (jq lp) λs2 acc c' kp eg ed eo e i=>?_;have es:s2={s1 with heap:=s2.heap,toks:=s2.toks}:=by obtain⟨h2,g2,d2,t2,o2⟩:=s2;cases eg;cases ed;cases eo;rfl
 have hf:H1 (s1.heap.push (revObj p1 ((its.toArray.size:Int)-1))).objs.size=none:=I1.hok.fresh (by rw[xy];exact le_succ _);have ea:acc.toList=its.reverse:=by
  apply ext_getElem?;intro j;by_cases hj:j<its.length
  .have hj2:j<acc.size:=by rw[i.1,jx];exact hj
   have v2:=i.2 j acc[j] (getElem?_eq_getElem hj2);rw[List.getElem?_reverse hj];have v2':its[its.length-1-j]? =some acc[j]:=by simpa using v2
   rw[v2'];simp
  .rw[xj (by simp;have:=i.1;simp at this;lia),xj (by simp;lia)]
 refine⟨.ref _,_,?_,rfl,k _ hf⟩;rw[es];refine I1.laid (t':=s2.toks) (λb o eb=>kp b o (jq (jd eb)) (je _ eb)) (by rw[xy];exact le_succ _) ?_;refine⟨by rw[length_reverse];exact hz,its.reverse,c',rv.reverse,?_⟩;rw[e,<-ea]
def qvz{R:Hp}{b:Addr}{xs:List V}{ds:List D}(h:SqL K R b xs)(r:Rps K R xs ds):ItOk K (u5 K b xs.length) R ds.reverse:=λH' R' s sb i=>by
 have q:=Same.sqL sb (Same.sqL s h);have ln:=r.length;refine⟨λe=>by show i=xs.length;rw[e,length_reverse];exact ln.symm,λd e=>?_⟩;have hi:i<ds.length:=by
  have:=(List.getElem?_eq_some_iff.mp e).1
  rwa [length_reverse]at this
 rw[List.getElem?_reverse hi]at e;let⟨v,h1,h2⟩:=r.get e;refine⟨⟨xs,q,rfl,by lia⟩,λx H'' y=>?_⟩;obtain⟨rfl,y⟩:=y;have ex:=y xs q;rw[ln,h1]at ex;cases ex;exact⟨R',Ext.refl sb,h2.mono s⟩
noncomputable def iO:D->Option (List D)
 |.lst xs=>some xs.reverse
 |_=>none
def gz(f:aF):aV:=bZ f λd=>dy (iO d)
def qv3(h:ME K O ta fa):MI K O (r8 K ta) (gz fa):=λZ J H R M ds M' Q S e k=>by
 let⟨x,M1,e1,e⟩:=bP e;obtain⟨e3,rfl⟩:=c7 e;refine h Z J H R M x _ _ S e1 λv H1 R1 S1 st1 r1=>?_;unfold iO at e3;split at e3
 .cases e3;obtain⟨b,xs,rfl,q,r⟩:=r1.isL;exact⟨b,xs,rfl,Same.sqL S1.sub q,k _ H1 R1 S1 st1 (qvz q r)⟩
 .cases e3
def qwi{M:az}:gz fa M=(fa M).bind λp=>(iO p.1).map λx=>(x,p.2):=by
 unfold gz bZ dy;cases fa M with
 |none=>rfl
 |some p=>cases h:iO p.1<;>simp[h]
def Rps.rev{R:Hp}:∀{xs:List V} {ds:List D},Rps K R xs ds->Rps K R xs.reverse ds.reverse
 :=by
 intro xs ds r;induction r using Rps.ind with
 |n=>exact .nil
 | c h _ ih=>
  rw[reverse_cons,reverse_cons];exact ih.snoc h
end
structure Kp(I S:Addr)(s0 s:Shared):Prop where
 heap:∀b o,b≠I->b≠S->s0.heap.get? b=some o->s.heap.get? b=some o
 gens:s.gens=s0.gens
 drawn:s.drawn=s0.drawn
 os:s.os=s0.os
structure Kq(s s':Shared):Prop where
 heap:∀b o,s.heap.get? b=some o->s'.heap.get? b=some o
 gens:s'.gens=s.gens
 drawn:s'.drawn=s.drawn
 os:s'.os=s.os
def Kp.on{I S:Addr}{s0 s s':Shared}(x:Kp I S s0 s)(heap:∀b o,b≠I->b≠S->s.heap.get? b=some o->s'.heap.get? b=some o)(g:s'.gens=s.gens)(d:s'.drawn=s.drawn)(o:s'.os=s.os):Kp I S s0 s':=
 ⟨λb u h1 h2 e=>heap b u h1 h2 (x.heap b u h1 h2 e),g.trans x.gens,d.trans x.drawn,o.trans x.os⟩
def jI(prog:Program)(w:World)(A:Around)(I S:Addr)(s0:Shared)(its:Zd)(bt:Nat->Nat->Bool):Prop:=
 ∀(i j:Nat) (vi vj:Value) (s:Shared) (Q:Z0) (E:Z0),its[i]? =some vi->its[j]? =some vj->Kp I S s0 s->(∀s',Kq s s'->Q (.bool (bt i j)) s')->wpAny (model prog w) A (richCompare .Lt vi vj) Q E s
section
variable{prog:Program}{w:World}{A:Around}{R:Zb}{I S l:Addr}{its:Zd}{s0:Shared}{bt:Nat->Nat->Bool}{kw:List (Str×Value)}
abbrev StL(I l:Addr)(its:Zd)(i:Nat)(h:Heap):Prop:=h.IsListIter I l i/\h.IsList l its
def StL.keep{i:Nat}{h h':Heap}(st:StL I l its i h)(k:∀b o,b=I∨b=l->h.get? b=some o->h'.get? b=some o):StL I l its i h':=by obtain⟨⟨o,e,c⟩,⟨o2,e2,c2⟩⟩:=st;exact⟨⟨o,k I o (.inl rfl) e,c⟩,⟨o2,k l o2 (.inr rfl) e2,c2⟩⟩
def qhs(hh:A.in1.handled=none)(lI:l≠I)(SI:S≠I)(Sl:S≠l)(zr:jI prog w A.in1 I S s0 its bt)(hR:∀v s',its[argBest bt (its.size-1)]? =some v->Kp I S s0 s'->R (.ok (.ret v)) s'):
 ∀(k j:Nat) (s:Shared) (vb:Value) (c:Nat),its.size-(j+1)=k->j+1<=its.size->StL I l its (j+1) s.heap->its[argBest bt j]? =some vb->s.heap.get? S=some {cls:=.type "list",data:=.seq #[vb,vb] c}->Kp I S s0 s->
   codeAny (model prog w) A (.builtin "min.loop" ⟨[.ref I,.none,.ref S],kw⟩) R s:=by
 intro k;induction k with
 | zero=>
  intro j s vb c hk hj st hb hS K;have en:j+1=its.size:=by lia
  refine codeAny_builtin F.entry_min_loop ?_;rw[vz vo];show wpAny _ _ (seqItems? (.ref S) >>= _) _ _ s;refine j9 (k7 hS rfl ?_);refine j9 (wpAny_tryCatch ?_);refine wpAny_pyNext_list_end hh st.1 st.2 (getElem?_eq_none (by lia)) λh' eb=>?_;have hS2:=eb S _ SI hS;show wpAny _ _ (updateSeq S (λ_=>#[]) >>= _) _ _ {s with heap:=h'};refine j9 (wpAny_updateSeq hS2 rfl ?_ (by simp[sizeLine_eq]) (by simp[sizeLine_eq]));refine j9 (kr ?_);refine jb ?_;have ej:its.size-1=j:=by lia
  refine hR vb _ (by rw[ej];exact hb) (K.on (λb o h1 h2 e=>?_) rfl rfl rfl);exact(ke h' _ (Ne.symm h2)).trans (eb b o h1 e)
 | succ k ih=>
  intro j s vb c hk hj st hb hS K;have lt:j+1<its.size:=by lia
  refine codeAny_builtin F.entry_min_loop ?_;rw[vz vo];show wpAny _ _ (seqItems? (.ref S) >>= _) _ _ s;refine j9 (k7 hS rfl ?_);refine j9 (wpAny_tryCatch ?_);have hx:=getElem?_eq_getElem lt;refine wpAny_pyNext_list_item st.1 st.2 hx λh' st' sb=>?_;have kI:∀b o,b≠I->s.heap.get? b=some o->h'.get? b=some o:=λb o hb e=>(sb.2 b hb).trans e;have hS2:h'.get? S=some {cls:=.type "list",data:=.seq #[vb,vb] c}:=kI S _ SI hS;have L2:h'.IsList l its:=by obtain⟨o,e,q⟩:=st.2;exact⟨o,kI l o lI e,q⟩
  have K2:Kp I S s0 {s with heap:=h'}:=K.on (λb o h1 _ e=>kI b o h1 e) rfl rfl rfl;show wpAny _ _ (pure its[j+1] >>= _) _ _ {s with heap:=h'};refine j9 (jb ?_);show wpAny _ _ (Sem.tryCatch _ _ >>= _) _ _ {s with heap:=h'};refine j9 (wpAny_tryCatch (xm ?_));refine j9 (zr (j+1) (argBest bt j) _ vb _ _ _ hx hb K2 λs3 q3=>?_);refine j9 (xm (ku ?_));refine j9 (kr ?_);refine jb ?_;have hS3:=q3.heap S _ hS2;have st3:StL I l its (j+1+1) s3.heap:=StL.keep ⟨st',L2⟩ λb o _ e=>q3.heap b o e;have K3:Kp I S s0 s3:=K2.on (λb o _ _ e=>q3.heap b o e) q3.gens q3.drawn q3.os;have eb:argBest bt (j+1)=if bt (j+1) (argBest bt j)=true then j+1 else argBest bt j:=by rw[argBest]
  cases q:bt (j+1) (argBest bt j)with
  | true=>
   rw[q,if_pos rfl]at eb;show wpAny _ _ (updateSeq S _ >>= _) _ _ s3;refine j9 (wpAny_updateSeq hS3 rfl ?_ (by simp[sizeLine_eq]) (by simp[sizeLine_eq]));refine j9 (kr ?_);refine jb ⟨vm vo _,?_⟩;have hS4:=vk (Obj.mapSeq λ_=>#[its[j+1],its[j+1]]) hS3 rfl;refine ih (j+1) _ its[j+1] _ (by lia) lt (st3.keep λb o hb e=>?_) (by rw[eb];exact hx) hS4 (K3.on (λb o h1 h2 e=>(ke s3.heap _ (Ne.symm h2)).trans e) rfl rfl rfl);refine(ke s3.heap _ ?_).trans e;rcases hb with rfl|rfl
   .exact SI
   .exact Sl
  | false=>
   rw[q,if_neg (by decide)]at eb;show wpAny _ _ (letGo _ >>= _) _ _ s3;refine j9 (kr ?_);refine jb ⟨vm vo _,?_⟩;exact ih (j+1) s3 vb c (by lia) lt st3 (by rw[eb];exact hb) hS3 K3
def qe8(hh:A.in1.handled=none)(lI:l≠I)(SI:S≠I)(Sl:S≠l)(zr:jI prog w A.in1 I S s0 its bt)(hR:∀v s',its[argBest bt (its.size-1)]? =some v->Kp I S s0 s'->R (.ok (.ret v)) s')
 (hD:its.size=0->∃x d r,kw=(x,d)::r/\∀s',Kp I S s0 s'->R (.ok (.ret d)) s')
 {s:Shared} {c:Nat} (st:StL I l its 0 s.heap) (hS:s.heap.get? S=some {cls:=.type "list",data:=.seq #[] c}) (K:Kp I S s0 s):codeAny (model prog w) A (.builtin "min.loop" ⟨[.ref I,.none,.ref S],kw⟩) R s:=by
 refine codeAny_builtin F.entry_min_loop ?_;rw[vz vo];show wpAny _ _ (seqItems? (.ref S) >>= _) _ _ s;refine j9 (k7 hS rfl ?_);refine j9 (wpAny_tryCatch ?_);by_cases h0:its.size=0
 .obtain⟨x,d,r,rfl,hE⟩:=hD h0;refine wpAny_pyNext_list_end hh st.1 st.2 (getElem?_eq_none (by lia)) λh' eb=>?_;show wpAny _ _ (rule _ >>= _) _ _ {s with heap:=h'};refine j9 (k8 ?_);refine jb ?_;exact hE _ (K.on (λb o h1 h2 e=>eb b o h1 e) rfl rfl rfl)
 .have lt:0<its.size:=by lia
  have hx:its[0]? =some its[0]:=getElem?_eq_getElem lt;refine wpAny_pyNext_list_item st.1 st.2 hx λh' st' sb=>?_;have kI:∀b o,b≠I->s.heap.get? b=some o->h'.get? b=some o:=λb o hb e=>(sb.2 b hb).trans e;have hS2:h'.get? S=some {cls:=.type "list",data:=.seq #[] c}:=kI S _ SI hS;have L2:h'.IsList l its:=by obtain⟨o,e,q⟩:=st.2;exact⟨o,kI l o lI e,q⟩
  show wpAny _ _ (pure its[0] >>= _) _ _ {s with heap:=h'};refine j9 (jb ?_);show wpAny _ _ (updateSeq S _ >>= _) _ _ {s with heap:=h'};refine j9 (wpAny_updateSeq (s:={s with heap:=h'}) hS2 rfl ?_ (by simp[sizeLine_eq]) (by simp[sizeLine_eq]));refine jb ⟨vm vo _,?_⟩;have hS4:=vk (Obj.mapSeq λ_=>#[its[0],its[0]]) hS2 rfl;refine qhs hh lI SI Sl zr hR (its.size-1) 0 _ its[0] _ rfl lt (StL.keep ⟨st',L2⟩ λb o hb e=>?_) hx hS4 (K.on (λb o h1 h2 e=>(ke h' _ (Ne.symm h2)).trans (kI b o h1 e)) rfl rfl rfl);refine(ke h' _ ?_).trans e;rcases hb with rfl|rfl
  .exact SI
  .exact Sl
end
section
open PySem.SeqAt PySem.MeetsSeq PySem.MeetsSeq2 PySem.MeetsSeq3
def mL{ρ:Model}{A:Around}{E:Z0}{s:Shared}{l:Addr}{items:Zd}{n:Nat}{dd:Zc}{sl:Array (Option Value)}{Q:Array Value->Shared->Prop}(h:s.heap.get? l=some {cls:=.type "list",dict:=dd,data:=.seq items n,slots:=sl})(q:Q items s):wpAny ρ A (Builtin.List.listItems (.ref l)) Q E s:=by unfold Builtin.List.listItems;exact j9 (k7 h rfl (jb q))
def pp:∀{vs:Ze} {ns:Zf},IntsAre vs ns->∀{i:Nat} {a:Int},ns[i]? =some a->∃t,vs[i]? =some (.int a t):=by
 intro vs ns h;induction h with
 |nil=>intro i a e;simp at e
 | cons a t _ ih=>
  intro i b e;cases i with
  |zero=>cases e;exact⟨t,rfl⟩
  |succ i=>exact ih e
def qpr(l b:Addr)(items zf:Zd)(n n2:Nat)(dd dd2:Zc)(sl sl2:Array (Option Value))(ns ms:Zf)(hi:IntsAre items.toList ns)(hj:IntsAre zf.toList ms)(hl:ns.length=ms.length):
 ∀(k i:Nat),ns.length-i=k->i<=ns.length->Meets (Builtin.«list.__eq__.loop» ⟨[.ref l,.ref b,rawInt i,rawInt 0],[]⟩)
   (λ_ R s=>s.heap.get? l=some {cls:=.type "list",dict:=dd,data:=.seq items n,slots:=sl}/\s.heap.get? b=some {cls:=.type "list",dict:=dd2,data:=.seq zf n2,slots:=sl2}/\
     R (.ok (.ret (.bool (HT.lexLt (ns.drop i) (ms.drop i))))) s):=by
 have z1:items.size=ns.length:=by rw[<-hi.length];simp
 have z2:zf.size=ms.length:=by rw[<-hj.length];simp
 intro k;induction k with
 | zero=>
  intro i hk hle prog w A R s h;obtain⟨h1,h2,h⟩:=h;have e1:items[i]? =none:=getElem?_eq_none (by lia);rw[List.drop_eq_nil_of_le (by lia),List.drop_eq_nil_of_le (as:=ms) (by lia)]at h;show wpAny _ _ (Builtin.List.listItems (.ref l) >>= _) _ _ s;refine j9 (mL h1 (j9 (mL h2 ?_)));simp only[toNat_natCast,e1];refine j9 (mL h1 (j9 (mL h2 (jb ?_))));have ez:items.size=zf.size:=by lia
  show R (.ok (.ret (.bool (decide (items.size<zf.size))))) s;rw[ez,decide_eq_false (xo _)];exact h
 | succ k ih=>
  intro i hk hle prog w A R s h;obtain⟨h1,h2,h⟩:=h;have lt1:i<ns.length:=by lia
  have lt2:i<ms.length:=by lia
  let⟨t,e1⟩:=pp hi (jh lt1);let⟨u,e2⟩:=pp hj (jh lt2);have e1:items[i]? =some (.int ns[i] t):=by simpa using e1
  have e2:zf[i]? =some (.int ms[i] u):=by simpa using e2
  rw[vf lt1,vf lt2,HT.lexLt_cons]at h;show wpAny _ _ (Builtin.List.listItems (.ref l) >>= _) _ _ s;refine j9 (mL h1 (j9 (mL h2 ?_)));simp only[toNat_natCast,e1,e2];let⟨e,he,hiff⟩:=HT.eqAt_int A.in1 s ns[i] t ms[i] u;refine j9 (he prog w _ _ ?_);cases e with
  | true=>
   rw[if_pos (hiff.mp rfl)]at h;simp only[if_true];refine jb ⟨vm plain_eq_loop _,?_⟩;refine codeAny_builtin entry_eq_loop ?_;rw[vz plain_eq_loop];have ei:rawInt ((i:Int)+1)=rawInt ((i+1:Nat):Int):=by rw[Int.natCast_add];rfl
   rw[ei];exact ih (i+1) (by lia) (by lia) prog w A R s ⟨h1,h2,h⟩
  | false=>
   rw[if_neg (λq=>absurd (hiff.mpr q) Bool.false_ne_true)]at h;simp only[false_eq_true,if_false];refine j9 (mL h1 (j9 (mL h2 ?_)));simp only[e1,e2];refine j9 (HT.rcLt_int A.in1 s _ t _ u prog w _ _ ?_);exact jb h
def HY(l b:Addr)(items zf:Zd)(n n2:Nat)(dd dd2:Zc)(sl sl2:Array (Option Value))(ns ms:Zf)(hi:IntsAre items.toList ns)(hj:IntsAre zf.toList ms)(hl:ns.length=ms.length):
 Meets (Builtin.«list.__lt__» ⟨[.ref l,.ref b],[]⟩)
  (λ_ R s=>s.heap.get? l=some {cls:=.type "list",dict:=dd,data:=.seq items n,slots:=sl}/\s.heap.get? b=some {cls:=.type "list",dict:=dd2,data:=.seq zf n2,slots:=sl2}/\
    R (.ok (.ret (.bool (HT.lexLt ns ms)))) s):=λprog w A R s h=>by
 obtain⟨h1,h2,h⟩:=h;have ty:s.TypeIs (.ref b) "list":=⟨_,h2,rfl⟩;show wpAny _ _ (isInstance (.ref b) (.type "list") >>= _) _ _ s;refine j9 (wpAny_isInstance ty (b:=true) sub_list_self ?_);show wpAny _ _ (again (.builtin "list.__eq__.loop" ⟨[.ref l,.ref b,rawInt 0,rawInt 0],[]⟩)) _ _ s;refine jb ⟨vm plain_eq_loop _,?_⟩;refine codeAny_builtin entry_eq_loop ?_;rw[vz plain_eq_loop];exact qpr l b items zf n n2 dd dd2 sl sl2 ns ms hi hj hl _ 0 rfl (zero_le _) prog w A R s ⟨h1,h2,h⟩
end
section
variable{prog:Program}{w:World}{A:Around}{E:Z0}{s:Shared}
def qgu{l b:Addr}{items zf:Zd}{ns ms:Zf}{Q:Z0}(hl:s.heap.IsList l items)(hb:s.heap.IsList b zf)(hi:IntsAre items.toList ns)(hj:IntsAre zf.toList ms)(hn:ns.length=ms.length)
 (hu:A.units<cLine) (h:Q (.bool (HT.lexLt ns ms)) s):wpAny (model prog w) A (richCompare .Lt (.ref l) (.ref b)) Q E s:=by
 let⟨⟨cls,dd,data,sl⟩,ho,hc,n,hd⟩:=id hl;let⟨⟨cls2,dd2,data2,sl2⟩,ho2,hc2,n2,hd2⟩:=id hb;simp only at hc hd hc2 hd2;subst hc hd hc2 hd2;exact richCompare_meets_room ⟨_,ho,rfl⟩ ⟨_,ho2,rfl⟩ F.slot_list_lt F.entry_list_lt (F.args_list_lt_2 _ _) (HY l b items zf n n2 dd dd2 sl sl2 ns ms hi hj hn)
  ⟨ho,ho2,show Value.bool (HT.lexLt ns ms)≠Value.notImplemented/\Q (.bool (HT.lexLt ns ms)) s from⟨(λx=>nomatch x),h⟩⟩ hu
end
inductive Cmps(A:Around)(s:Shared):List Value->List Value->Bool->Prop
 |nil:Cmps A s [] [] false
 |eq {x y:Value} {vs ws:Ze} {r:Bool}:SeqAt.EqAt A s x y true->Cmps A s vs ws r->Cmps A s (x::vs) (y::ws) r
 |ne {x y:Value} {vs ws:Ze} {r:Bool}:SeqAt.EqAt A s x y false->(∀(prog:Program) (w:World) (E Q:Z0),Q (.bool r) s->wpAny (model prog w) A (richCompare .Lt x y) Q E s)->vs.length=ws.length->Cmps A s (x::vs) (y::ws) r
def Cmps.len{A:Around}{s:Shared}{vs ws:Ze}{r:Bool}(h:Cmps A s vs ws r):vs.length=ws.length:=by
 induction h with
 |nil=>rfl
 |eq _ _ ih=>rw[jy,jy,ih]
 |ne _ _ e=>rw[jy,jy,e]
section
open PySem.SeqAt
open PySem.AutoSeq1 (wpAny_loadPart')
open PySem.MeetsSeq PySem.MeetsSeq2 PySem.MeetsSeq3
end
section
variable{prog:Program}{w:World}{A:Around}{E:Z0}{s:Shared}
end
theorem Ah:∀ns:List Int,HT.lexLt ns ns=false
 |[]=>rfl
 |n::ns=>by rw[HT.lexLt_cons,if_pos rfl,Ah ns]
def qie{A:Around}{s:Shared}{l b:Addr}{vs ws:Ze}{ns ms:Zf}(hl:s.heap.IsList l vs.toArray)(hb:s.heap.IsList b ws.toArray)(hi:IntsAre vs ns)(hj:IntsAre ws ms)(hn:ns.length=ms.length)(hu:A.units<cLine):SeqAt.EqAt A s (.ref l) (.ref b) (decide (ns=ms)):=by
 by_cases q:l=b
 .subst q;have e:vs=ws:=by
   obtain⟨o,e1,c1,n1,d1⟩:=hl;obtain⟨o2,e2,c2,n2,d2⟩:=hb;rw[e1]at e2;cases e2;rw[d1]at d2;injection d2 with d3 _;simpa using d3
  subst e;have en:ns=ms:=by
   apply ext_getElem?;intro i;by_cases h:i<ns.length
   .let⟨t,e1⟩:=pp hi (jh h);let⟨u,e2⟩:=pp hj (jh (show i<ms.length by lia));rw[e1]at e2;injection e2 with e3;injection e3 with e4 _;rw[jh h,jh (show i<ms.length by lia),e4]
   .rw[xj (by lia),xj (by lia)]
  rw[decide_eq_true en];exact SeqAt.EqAt.same _
 .have lv:vs.length=ns.length:=hi.length;have lw:ws.length=ms.length:=hj.length;have h:=SeqAt.RcAt.lists (e:=λj=>decide (ns[j]? =ms[j]?)) hl hb (by simp;lia) hu λj h1 h2=>by
   have h1':j<ns.length:=by simp at h1;lia
   have h2':j<ms.length:=by lia
   let⟨t,e1⟩:=pp hi (jh h1');let⟨u,e2⟩:=pp hj (jh h2');let⟨e,he,hiff⟩:=HT.eqAt_int A.in1 s ns[j] t ms[j] u;have g1:vs.toArray[j]=.int ns[j] t:=by have:=(List.getElem?_eq_some_iff.mp e1).2;simpa using this
   have g2:ws.toArray[j]=.int ms[j] u:=by have:=(List.getElem?_eq_some_iff.mp e2).2;simpa using this
   rw[g1,g2];have ee:decide (ns[j]? =ms[j]?)=e:=by
    rw[jh h1',jh h2'];cases e with
    |true=>simp[hiff.mp rfl]
    | false=>
     have:¬ns[j]=ms[j]:=λz=>absurd (hiff.mpr z) (by decide);simp[this]
   rw[ee];exact he
  have ea:(List.range vs.toArray.size).all (λj=>decide (ns[j]? =ms[j]?))=decide (ns=ms):=by
   rw[Bool.eq_iff_iff];simp only[all_eq_true,decide_eq_true_eq,List.mem_range,size_toArray];constructor
   .intro z;apply ext_getElem?;intro i;by_cases hi:i<ns.length
    .exact z i (by lia)
    .rw[xj (by lia),xj (by lia)]
   .intro z i _;rw[z]
  rw[ea]at h;exact SeqAt.EqAt.of_refs q h
def qv(a c:Int)(ns ms:Zf):Bool:=if a=c then HT.lexLt ns ms else decide (a<c)
def qjf{a d:Value}:argsOk "min" ⟨[a],[(Str.ofString "default",d)]⟩:=by kernel_rfl
section
variable{prog:Program}{w:World}{A:Around}{E:Z0}{s:Shared}{Q:Z0}{p:Addr}{its:Zd}{bt:Nat->Nat->Bool}
def EF(hh:A.in1.handled=none)(hl:s.heap.IsList p its){kw:List (Str×Value)}{dflt:Option Value}(hk:kw=dflt.toList.map λd=>(Str.ofString "default",d))
 (zr:jI prog w A.in1 s.heap.objs.size (s.heap.objs.size+1) s its bt)
 (hD:its.size=0->∃d,dflt=some d/\∀s',Kq s s'->Q d s') (hQ:∀v s',its[argBest bt (its.size-1)]? =some v->Kq s s'->Q v s'):
 wpAny (model prog w) A.in1 (do let it <-pyIter (.ref p);let b <-newList [];again (.builtin "min.loop" ⟨[it,.none,b],kw⟩)) (λfin s'=>match fin with
  | .done f=>(match (Except.ok f:Result)with
   |.ok (.ret v)=>Q v s'
   |.ok _=>False
   |.error e=>E e s')
  | .again c'=>c'.quiet=true/\codeAny (model prog w) A c' (λr s'=>match r with
   |.ok (.ret v)=>Q v s'
   |.ok _=>False
   |.error e=>E e s') s') E s:=by
 have lp:p<s.heap.objs.size:=by obtain⟨o,e,_⟩:=hl;exact jd e
 refine j9 (wpAny_pyIter_list hl ?_);refine j9 (kh ?_ (by first|exact zero_le _|(show(0:Nat)<=sizeLine;exact zero_le _)));refine jb ⟨vm vo _,?_⟩;have push2:∀b o,s.heap.get? b=some o->((s.heap.push {cls:=.type "list_iterator",data:=.fields #[.ref p,.int 0 0]}).push {cls:=.type "list",data:=.seq #[]}).get? b=some o:=λb o e=>je _ (je _ e);have sz:(s.heap.push {cls:=.type "list_iterator",data:=.fields #[.ref p,.int 0 0]}).objs.size=s.heap.objs.size+1:=xy _ _;have kq:∀s',Kp s.heap.objs.size (s.heap.objs.size+1) s s'->Kq s s':=λs' k=>⟨λb o e=>k.heap b o (jq (jd e)) (jq (lt_succ_of_lt (jd e))) e,k.gens,k.drawn,k.os⟩;dsimp only;rw[sz];refine qe8 hh (jq lp) (ne_of_gt (lt_succ_self _)) (ne_of_gt (lt_succ_of_lt lp)) zr (λv s' e k=>hQ v s' e (kq s' k)) (λh0=>?_) (c:=0) ⟨⟨_,je _ (ju _ rfl),rfl,rfl⟩,?_⟩ ?_ ⟨λb o _ _ e=>push2 b o e,rfl,rfl,rfl⟩
 .let⟨d,e,k⟩:=hD h0;subst e;exact⟨_,d,[],by rw[hk];rfl,λs' k'=>k s' (kq s' k')⟩
 .obtain⟨o,e,c⟩:=hl;exact⟨o,push2 p o e,c⟩
 .have:=ju (s.heap.push {cls:=.type "list_iterator",data:=.fields #[.ref p,.int 0 0]}) (o:={cls:=.type "list",data:=.seq #[]}) rfl;rw[sz]at this;exact this
def qj1(hh:A.in1.handled=none)(hl:s.heap.IsList p its){d:Value}(zr:jI prog w A.in1 s.heap.objs.size (s.heap.objs.size+1) s its bt)
 (hD:its.size=0->∀s',Kq s s'->Q d s') (hQ:∀v s',0<its.size->its[argBest bt (its.size-1)]? =some v->Kq s s'->Q v s'):wpAny (model prog w) A (call (.builtin "min") [.ref p] [(Str.ofString "default",d)]) Q E s:=by
 apply kmk_tree F.kind_min F.plain_min F.entry_min (qjf);refine j9 (wpAny_of_eq (show _=pure [none,some d]from by rfl) ?_);refine j9 (jb ?_);rw[show(toString "min"++toString ".loop")="min.loop" from by decide];exact EF hh hl rfl zr (λh=>⟨d,rfl,hD h⟩) λv s' e k=>hQ v s' (by
  rcases Nat.eq_zero_or_pos its.size with z|z
  .rw[getElem?_eq_none (by lia)]at e;cases e
  .exact z) e k
def qj0(hh:A.in1.handled=none)(hl:s.heap.IsList p its)(h0:0<its.size)(zr:jI prog w A.in1 s.heap.objs.size (s.heap.objs.size+1) s its bt)
 (hQ:∀v s',its[argBest bt (its.size-1)]? =some v->Kq s s'->Q v s'):wpAny (model prog w) A (call (.builtin "min") [.ref p]) Q E s:=by
 apply kmk_tree F.kind_min F.plain_min F.entry_min (F.args_min1 _);refine j9 (wpAny_of_eq (show _=pure [none,none]from by rfl) ?_);refine j9 (jb ?_);rw[show(toString "min"++toString ".loop")="min.loop" from by decide];exact EF hh hl rfl zr (λh=>absurd h (by lia)) hQ
end
def qeu{α:Type}{lt:α->α->Bool}{f:Nat->α}(h1:∀a,lt a a=false)(h2:∀a b c,lt a b=true->lt c b=false->lt c a=false)(n:Nat):argBest (λi j=>lt (f i) (f j)) n<=n/\∀i,i<=n->lt (f i) (f (argBest (λi j=>lt (f i) (f j)) n))=false:=by
 induction n with
 | zero=>
  rw[argBest];exact⟨jg _,λi hi=>by rw[Nat.le_zero.mp hi];exact h1 _⟩
 | succ n ih=>
  obtain⟨h3,h4⟩:=ih;rw[argBest];cases q:lt (f (n+1)) (f (argBest (λi j=>lt (f i) (f j)) n))with
  | true=>
   rw[if_pos rfl];refine⟨jg _,λi hi=>?_⟩;rcases Nat.lt_or_ge i (n+1)with z|z
   .exact h2 _ _ _ q (h4 i (by lia))
   .have e:i=n+1:=by lia
    rw[e];exact h1 _
  | false=>
   rw[if_neg (by decide)];refine⟨by lia,λi hi=>?_⟩;rcases Nat.lt_or_ge i (n+1)with z|z
   .exact h4 i (by lia)
   .have e:i=n+1:=by lia
    rw[e];exact q
def xE{X:Cx}{z5:Z3}{J:St}{H:Hp}{s s':Shared}(I:Inv X z5 J H s)(k:Kq s s'):Inv X z5 J H s':=by
 have es:s'={s with heap:=s'.heap,toks:=s'.toks}:=by obtain⟨h2,g2,d2,t2,o2⟩:=s';obtain⟨_,eg,ed,eo⟩:=k;cases eg;cases ed;cases eo;rfl
 rw[es];exact I.kept k.heap
noncomputable def uU(ns:Zf):Nat->Nat->Bool:=λi j=>decide (ns.getD i 0<ns.getD j 0)
def cU(ns:Zf):Option Int:=match ns with
 |[]=>none
 |_=>some (ns.getD (argBest (uU ns) (ns.length-1)) 0)
def pY(ns:Zf):V:=match cU ns with
 |none=>.non
 |some m=>.int m
def uj{ns:Zf}{m:Int}(h:cU ns=some m):m∈ns/\∀x∈ns,m<=x:=by
 cases ns with
 |nil=>cases h
 | cons a r=>
  cases h;obtain⟨h1,h2⟩:=qeu (lt:=λ(x y:Int)=>decide (x<y)) (λa=>by simp) (λa b c=>by simp;lia) ((a::r).length-1);have hb:argBest (uU (a::r)) ((a::r).length-1)<(a::r).length:=Nat.lt_of_le_of_lt h1 (by simp);refine⟨?_,λx hx=>?_⟩
  .rw[jl,jh hb];exact ka hb
  .obtain⟨i,hi,rfl⟩:=List.mem_iff_getElem.mp hx;have:=h2 i (by lia);simp only[decide_eq_false_iff_not]at this;rw[jl,jh hi]at this;exact Int.not_lt.mp this
def zW{ns:Zf}(h:cU ns=none):ns=[]:=by
 cases ns with
 |nil=>rfl
 |cons a r=>cases h
def qpn{ns:Zf}{m:Int}(h:m∈ns)(k:∀x∈ns,m<=x):cU ns=some m:=by
 cases q:cU ns with
 |none=>rw[zW q]at h;cases h
 | some y=>
  let⟨h1,h2⟩:=uj q;have e1:=h2 m h;have e2:=k y h1;congr 1;lia
section
variable{X:Cx}{K:am}{O:Zg}{e:Expr}{d:Expr}{te:TE}{p kp pos:Pos}{fe:aF}
def DZ(K:am)(te:TE):TE:=λJ H Q=>te J H λv H1=>∃(p:Addr) (ns:Zf),[v]=[V.ref p]/\SqL K H1 p (ns.map V.int)/\Q (pY ns) H1
def qot(hK:X.K=K)(hc:X.calm=true)(hg:Gl X "min")(hm:X.mg "min"=none)(ha:PE X e te)(hd:PE X d (tC .non))(he:starEach [e] X.env=(false,eval e X.env)::starEach [] X.env:=by rfl)
 (h1:backTo pos (starEach [e] X.env)=(false,eval e X.env)::backTo pos (starEach [] X.env):=by rfl) (h2:(backTo pos (starEach [e] X.env)).any (·.1)=false:=by rfl)
 (h3:(backToKw pos (keywordEach [⟨some "default",d,kp⟩] X.env)).all (λx=>x.1.isSome)=true:=by rfl) (h4:(backToKw pos (keywordEach [⟨some "default",d,kp⟩] X.env)).any (λx=>x.1.isNone)=false:=by rfl)
 (h5:(backToKw pos (keywordEach [⟨some "default",d,kp⟩] X.env)).filterMap (·.1)=[Str.ofString "default"]:=by rfl):
 PE X (.Call (.Name "min" p) [e] [⟨some "default",d,kp⟩] pos) (DZ K te):=by
 subst hK;intro z5 s J H Q I h;refine k6 (iD I hg hm (by rfl) ?_);refine callWith_kw (bf ((ak ha av he) pos z5 s J H (λvs H1=>∃(p1:Addr) (ns:Zf),vs=[V.ref p1]/\SqL X.K H1 p1 (ns.map V.int)/\Q (pY ns) H1) I h) λus s1 hh1=>?_) h1 h2 h3 h4;obtain⟨vs,H1,I1,r1,p1,ns,rfl,q1,k⟩:=hh1;obtain⟨u,rfl,ru⟩:=cj r1;cases(show u=Value.ref p1 from ru);refine kws_cons (bf (hd z5 s1 J H1 (λv H2=>v=.non/\H2=H1) I1 ⟨rfl,rfl⟩) λdv s2 hh2=>?_);obtain⟨x,H2,I2,r2,rfl,rfl⟩:=hh2;cases r2;refine kws_nil ?_;rw[h5];let⟨its,rv,pl,hz⟩:=I2.list q1;have ln:its.length=ns.length:=by have:=rv.length;simp at this;lia
 have hh:=I2.ok.hd hc;show wpAny _ _ (call (.builtin "min") [.ref p1] [(Str.ofString "default",.none)]) _ _ s2;refine qj1 (bt:=uU ns) hh pl.isList (λi j vi vj s Q E hi hj _ q=>?_) (λh0 s' k'=>?_) λv s' h0 ev k'=>?_
 .obtain⟨t,rfl⟩:=mO rv (by simpa using hi);obtain⟨t',rfl⟩:=mO rv (by simpa using hj);exact HT.rcLt_int _ s _ t _ t' _ _ _ _ (q s ⟨λ_ _ e=>e,rfl,rfl,rfl⟩)
 .have en:ns=[]:=List.eq_nil_of_length_eq_zero (by simp at h0;rw[h0]at ln;simpa using ln.symm);subst en;exact⟨.non,_,xE I2 k',rfl,k⟩
 .have hn:ns≠[]:=λz=>by rw[z]at ln;simp at h0 ln;rw[ln]at h0;exact absurd h0 (by simp)
  rw[jx,ln]at ev;obtain⟨t,rfl⟩:=mO rv (by simpa using ev);refine⟨_,_,xE I2 k',?_,k⟩;unfold pY cU;cases ns with
  |nil=>exact absurd rfl hn
  |cons a r=>exact⟨t,rfl⟩
noncomputable def bV:Option Int->D
 |none=>.non
 |some m=>.int m
def oW:D->Option D
 |.lst xs=>(eB xs).map λns=>bV (cU ns)
 |_=>none
def qpp(h:MB K O te fe):ME K O (DZ K te) (aO oW fe):=λZ J H R M d M' Q S e k=>by
 let⟨x,M1,e1,e⟩:=bP e;obtain⟨e3,rfl⟩:=c7 e;refine h Z J H R M x _ _ S e1 λv H1 R1 S1 st1 r1=>?_;unfold oW at e3;split at e3
 .rename_i xs;obtain⟨b,vs,rfl,q,r⟩:=r1.isL;cases z:eB xs with
  |none=>rw[z]at e3;cases e3
  | some ns=>
   rw[z]at e3;cases e3;have ex:=pE r z;subst ex;refine⟨b,ns,rfl,q,k _ H1 R1 S1 st1 ?_⟩;show Rp K R1 (pY ns) (bV (cU ns));unfold pY;cases cU ns with
   |none=>exact .non
   |some m=>exact .int m
 .cases e3
end
theorem Hh:∀a b c:List Int,HT.lexLt a b=true->HT.lexLt c b=false->HT.lexLt c a=false
 |[],[],_,h,_=>by cases h
 |[],_::_,[],_,g=>by cases g
 |[],_::_,_::_,_,_=>rfl
 |_::_,[],_,h,_=>by cases h
 |_::_,_::_,[],_,g=>by cases g
 | x::xs,y::ys,z::zs,h,g=>by
  rw[HT.lexLt_cons]at h g ⊢;by_cases q:x=y
  .rw[if_pos q]at h;subst q;by_cases r:z=x
   .rw[if_pos r]at g ⊢;exact Hh xs ys zs h g
   .rw[if_neg r]at g ⊢;exact g
  .rw[if_neg q]at h;simp only[decide_eq_true_eq]at h;by_cases r:z=y
   .rw[if_neg (by lia)];simp;lia
   .rw[if_neg r]at g;simp only[decide_eq_false_iff_not]at g;rw[if_neg (by lia)];simp;lia
def cR(x y:Int×List Int):Bool:=qv x.1 y.1 x.2 y.2
def GT(x:Int×List Int):cR x x=false:=by unfold cR qv;rw[if_pos rfl,Ah]
def ut(a b c:Int×List Int)(h:cR a b=true)(g:cR c b=false):cR c a=false:=by
 unfold cR qv at h g ⊢;by_cases q:a.1=b.1
 .rw[if_pos q]at h;rw[q];by_cases r:c.1=b.1
  .rw[if_pos r]at g ⊢;exact Hh _ _ _ h g
  .rw[if_neg r]at g ⊢;exact g
 .rw[if_neg q]at h;simp only[decide_eq_true_eq]at h;by_cases r:c.1=b.1
  .rw[if_neg (by lia)];simp;lia
  .rw[if_neg r]at g;simp only[decide_eq_false_iff_not]at g;rw[if_neg (by lia)];simp;lia
section
variable{X:Cx}{K:am}{O:Zg}
def PrV(K:am)(H:Hp)(v:V)(q:Int×List Int):Prop:=∃a b,v=.ref a/\SqT K H a [.int q.1,.ref b]/\SqL K H b (q.2.map V.int)
def qt6{X:Cx}{z5:Z3}{J:St}{H:Hp}{s:Shared}{v:V}{q:Int×List Int}{u:Value}(I:Inv X z5 J H s)(h:PrV X.K H v q)(r:RelV v u):∃a b t vs,u=.ref a/\IsTup s.heap a #[.int q.1 t,.ref b]/\s.heap.IsList b vs.toArray/\IntsAre vs q.2:=by
 obtain⟨a,b,rfl,h1,h2⟩:=h;cases r;let⟨its,rv,p,_⟩:=I.tuple h1;let⟨its2,rv2,p2,_⟩:=I.list h2;cases rv with
 | cons r1 r2=>
  cases r2 with
  | cons r2 r3=>
   cases r3;obtain⟨t,rfl⟩:=r1;cases r2;exact⟨a,b,t,its2,rfl,p,p2.isList,dL rv2⟩
theorem Hr:∀{xs:List V} {us:Ze} {i:Nat} {u:Value},Vals xs us->us[i]? =some u->∃x,xs[i]? =some x/\RelV x u
 |_,_,_,_,.nil,e=>by simp at e
 |_,_,0,_,.cons r _,e=>by simp at e;subst e;exact⟨_,rfl,r⟩
 | _,_,i+1,u,.cons _ t,e=>by obtain⟨x,h1,h2⟩:=Hr t (by simpa using e);exact⟨x,by simpa using h1,h2⟩
def pZ:D->Option (Int×List Int)
 |.tup [.int a,.lst xs]=>(eB xs).map λns=>(a,ns)
 |_=>none
noncomputable def kQ:List D->Option (List (Int×List Int))
 |[]=>some []
 | d::r=>match pZ d,kQ r with
  |some q,some qs=>some (q::qs)
  |_,_=>none
noncomputable def dO(q:Int×List Int):D:=.tup [.int q.1,.lst (q.2.map D.int)]
theorem Gz:∀{xs:List D} {ns:Zf},eB xs=some ns->xs=ns.map D.int
 |[],ns,h=>by cases h;rfl
 | d::r,ns,h=>by
  cases d with
  | int i=>
   have h:(eB r).map (λx=>i::x)=some ns:=h;cases q:eB r with
   |none=>rw[q]at h;cases h
   | some ms=>
    rw[q]at h;cases h;rw[Gz q];rfl
  |_=>cases h
def qkc{R:Hp}{v:V}{d:D}{q:Int×List Int}(r:Rp K R v d)(e:pZ d=some q):PrV K R v q/\d=dO q:=by
 unfold pZ at e;split at e
 .rename_i a xs;cases z:eB xs with
  |none=>rw[z]at e;cases e
  | some ns=>
   rw[z]at e;cases e;obtain⟨l,vs,rfl,h,r⟩:=r.isT;obtain⟨v1,_,rfl,r1,r⟩:=r.isC;obtain⟨v2,_,rfl,r2,r⟩:=r.isC;cases r;obtain rfl:=r1.isI;obtain⟨b,ws,rfl,h2,r3⟩:=r2.isL;have ex:=pE r3 z;subst ex;refine⟨⟨l,b,rfl,SqT.of h,h2⟩,?_⟩;unfold dO;rw[Gz z]
 .cases e
def qe4{R:Hp}:∀{vs:List V} {ds:List D} {qs:List (Int×List Int)},Rps K R vs ds->kQ ds=some qs->vs.length=qs.length/\ds=qs.map dO/\∀i v,vs[i]? =some v->PrV K R v (qs.getD i (0,[]))
 :=by
 intro vs ds qs r;induction r using Rps.ind generalizing qs with
 | n=>
  intro e;cases e;exact⟨rfl,rfl,λi v e=>by simp at e⟩
 | c r _ ih=>
  intro e;unfold kQ at e;split at e
  .rename_i q qs' e1 e2;cases e;let⟨h1,h2⟩:=qkc r e1;let⟨g1,g2,g3⟩:=ih e2;refine⟨by rw[jy,jy,g1],by rw[h2,g2];rfl,λi w e=>?_⟩;cases i with
   |zero=>cases e;exact h1
   |succ i=>exact g3 i w e
  .cases e
def PrV.mono{H R:Hp}{v:V}{q:Int×List Int}(s:Same R H)(h:PrV K R v q):PrV K H v q:=by obtain⟨a,b,e,h1,h2⟩:=h;exact⟨a,b,e,Same.tup s h1,Same.sqL s h2⟩
end
def yy(C:Addr)(names:Zj):Sp:=λvs H Q _=>∃(x dx:Addr) (args:List V),vs=.ref x::args/\args.length=names.length/\H x=some (.ins C dx [])/\Q .non (aM H x (.ins C dx (names.zip args)))
section
variable{K:am}{R:Hp}{O:Zg}{t ta:TE}{tr:TA}{fa fb:aF}{fs:aV}{E:XK}{C:Addr}{x m f:Str}
theorem Rfs.zip:∀{names:Zj} {vs:List V} {ds:List D},Rps K R vs ds->Rfs K R (names.zip vs) (names.zip ds)
 |[],_,_,_=>.nil
 |_::_,_,_,.nil=>.nil
 |_::_,_,_,.cons h r=>.cons h (Rfs.zip r)
theorem Rfs.lookup:∀{fs:List (Str×V)} {gs:List (Str×D)} {d:D},Rfs K R fs gs->gs.lookup f=some d->∃v,fs.lookup f=some v/\Rp K R v d
 |_,_,_,.nil,e=>by cases e
 | _,_,d,.cons (f:=g) (x:=v) h r,e=>by
  rw[lookup_cons]at e ⊢;cases q:f==g with
  | true=>
   rw[q]at e;cases e;exact⟨v,rfl,h⟩
  | false=>
   rw[q]at e;exact Rfs.lookup r e
def Rfs.lookup_none:∀{fs:List (Str×V)} {gs:List (Str×D)},Rfs K R fs gs->gs.lookup f=none->fs.lookup f=none
 :=by
 intro fs;induction fs with
 |nil=>intro _ _ _;rfl
 | cons p fs ih=>
  intro gs r e;cases r with
  |cons h r=>
  rw[lookup_cons]at e ⊢;split at e
  .cases e
  .exact ih r e
def pX(x:Str)(names:Zj)(fs:aV):aF:=bZ fs λds=>dy (if ds.length=names.length then some (.obj x (names.zip ds))else none)
def Fz{names:Zj}(n:W.nsIn K mainGlobals x=some (some (.ref C)))(h:MA K O tr fs):ME K O (DX C (yy C names) [] E tr) (pX x names fs):=λZ J H R M d M' Q S e k=>by
 let⟨ds,M1,e1,e⟩:=bP e;obtain⟨e2,rfl⟩:=c7 e;split at e2
 .rename_i hl;cases e2;refine h Z J H R M ds _ _ S e1 λvs H1 R1 S1 st1 r1=>?_;intro a dx ha hdx hne;refine⟨a,dx,vs,by rw[append_nil],by rw[r1.length,hl],cA,rfl,?_⟩;rw[Gf];have y1:=Ext.hid (o:=.own a) S1.sub hdx;have ha2:(aM H1 dx (HO.own a)) a=none:=by rw[aX (Ne.symm hne)];exact ha
  have y2:=Ext.new (o:=.ins C dx (names.zip vs)) y1.s ha2;exact k _ _ _ ((S1.ext y1).ext y2) ((st1.trans y1.stp).trans y2.stp) (.obj n cA (Rfs.zip (r1.mono y2.r)))
 .cases e2
def xF(x:Str):aF:=ae (.obj x [])
def qkt(n:W.nsIn K mainGlobals x=some (some (.ref C))):ME K O (Fa C) (xF x):=λZ J H R M d M' Q S e k=>by
 cases e;intro a dx ha hdx hne;have y1:=Ext.hid (o:=.own a) S.sub hdx;have ha2:(aM H dx (HO.own a)) a=none:=by rw[aX (Ne.symm hne)];exact ha
 have y2:=Ext.new (o:=.ins C dx []) y1.s ha2;exact k _ _ _ ((S.ext y1).ext y2) (y1.stp.trans y2.stp) (.obj n cA .nil)
noncomputable def iT(x f:Str):D->Option D
 |.obj y gs=>if y=x then gs.lookup f else none
 |_=>none
def iR(x f:Str)(fa:aF):aF:=bZ fa λd=>dy (iT x f d)
def EG{C':Addr}(n:W.nsIn K mainGlobals x=some (some (.ref C)))(n':W.nsIn K mainGlobals x=some (some (.ref C'))):C'=C:=by rw[n]at n';cases n';rfl
def xG(n:W.nsIn K mainGlobals x=some (some (.ref C)))(c:Cls K C)(na:NoAttr K C f)(h:ME K O ta fa):ME K O (nI K ta f) (iR x f fa):=λZ J H R M d M' Q S e k=>by
 let⟨d0,M1,e1,e⟩:=bP e;obtain⟨e2,rfl⟩:=c7 e;refine h Z J H R M _ _ _ S e1 λv H1 R1 S1 st1 r1=>?_;cases d0 with
 | obj y gs=>
  have e3:(if y=x then gs.lookup f else none)=some d:=e2;split at e3
  .rename_i hy;subst hy;cases r1 with
   | obj n' hR rf=>
    have hC:=EG n n';subst hC;let⟨v',hl,rv⟩:=rf.lookup e3;exact⟨_,_,_,_,v',rfl,S1.sub _ _ hR,c,na,hl,k v' H1 R1 S1 st1 rv⟩
  .cases e3
 |_=>cases e2
noncomputable def jQ(x m:Str)(f:List D->Option D)(d:D)(ds:List D):Option D:=match d with
 |.obj y gs=>if y=x/\gs.lookup m=none then f (d::ds)else none
 |_=>none
def pA(x m:Str)(f:List D->Option D)(fa:aF)(fs:aV):aF:=bZ fa λd=>bZ fs λds=>dy (jQ x m f d ds)
def yK{k0:Nat}{g:List D->Option D}(n:W.nsIn K mainGlobals x=some (some (.ref C)))(hg:b8 k0 g)(h:ME K O ta fa)(ha:MA K O tr fs):ME K O (DY C m (ca K false k0 g) [] E ta tr) (pA x m g fa fs):=λZ J H R M d M' Q S e k=>by
 let⟨d0,M1,e1,e⟩:=bP e;let⟨ds,M2,e2,e⟩:=bP e;obtain⟨e3,rfl⟩:=c7 e;refine h Z J H R M _ _ _ S e1 λv H1 R1 S1 st1 r1=>?_;cases d0 with
 | obj y gs=>
  have e4:(if y=x/\gs.lookup m=none then g (.obj y gs::ds)else none)=some d:=e3;split at e4
  .rename_i hy;obtain⟨hy,hm⟩:=hy;subst hy;have r1':=r1;cases r1 with
   | obj n' hR rf=>
    have hC:=EG n n';subst hC;refine⟨_,_,_,rfl,S1.sub _ _ hR,rf.lookup_none hm,?_⟩;refine ha Z J H1 R1 M1 ds _ _ S1 e2 λvs H2 R2 S2 st2 r2=>?_;rw[append_nil];have r3:=Rps.cons (r1'.mono st2.r) r2;exact⟨by rw[r3.length];exact hg _ d e4,R2,_,d,S2.sub,r3,e4,λv H3 R3 y q=>k v H3 R3 (S2.ext y) ((st1.trans st2).trans y.stp) q⟩
  .cases e4
 |_=>cases e3
noncomputable def iP(f g:aF):aF:=λM=>match f M with
 |some r=>some r
 |none=>g M
def EE{t1 t2:TE}(h1:ME K O t1 fa)(h2:ME K O t2 fb):ME K O (λJ H Q=>t1 J H Q∨t2 J H Q) (iP fa fb):=λZ J H R M d M' Q S e k=>by
 unfold iP at e;cases e1:fa M with
 | some q=>
  rw[e1]at e;cases e;exact .inl (h1 Z J H R M d M' Q S e1 k)
 | none=>
  rw[e1]at e;exact .inr (h2 Z J H R M d M' Q S e k)
def qqm{M:az}{names:Zj}:pX x names fs M=(fs M).bind λp=>(if p.1.length=names.length then some (D.obj x (names.zip p.1))else none).map λy=>(y,p.2):=by unfold pX;rw[cM];congr 1;funext p;rw[eW]
def qwr{M:az}:iR x f fa M=(fa M).bind λp=>(iT x f p.1).map λy=>(y,p.2):=by unfold iR;rw[cM];congr 1;funext p;rw[eW]
def qql{M:az}{g:List D->Option D}:pA x m g fa fs M=(fa M).bind λp=>(fs p.2).bind λq=>(jQ x m g p.1 q.1).map λy=>(y,q.2):=by unfold pA;rw[cM];congr 1;funext p;rw[cM];congr 1;funext q;rw[eW]
def qwk{M:az}:iP fa fb M=(fa M).or (fb M):=by unfold iP;cases fa M<;>rfl
end
end L2
namespace L2
open PySem
inductive Told where
 |clear (b:Int)
 |gap
 |soft (z o:Int)
noncomputable def bQ:Told->D
 |.clear b=>.tup [.str "clear",.int b]
 |.gap=>.tup [.str "gap"]
 |.soft z o=>.tup [.str "soft",.int z,.int o]
noncomputable def bj:Told->D
 |.clear b=>.obj "Clear" [("bit",.int b)]
 |.gap=>.obj "Gap" []
 |.soft z o=>.obj "Soft" [("zero",.int z),("one",.int o)]
noncomputable def gH:Told->Int->Int
 |.clear b,x=>if x=b then 0 else 1
 |.gap,_=>0
 |.soft z o,x=>if x=1 then o else z
def gF(ts:List Told)(bits:Zf):Int:=((ts.zip bits).map λq=>gH q.1 q.2).sum
def zB{x m:Str}{f:List D->Option D}{gs:List (Str×D)}{ds:List D}(h:gs.lookup m=none):jQ x m f (.obj x gs) ds=f (.obj x gs::ds):=if_pos ⟨rfl,h⟩
def zV{x y m:Str}{f:List D->Option D}{gs:List (Str×D)}{ds:List D}(h:¬y=x):jQ x m f (.obj y gs) ds=none:=if_neg λq=>h q.1
def yI{x f:Str}{gs:List (Str×D)}{d:D}(h:gs.lookup f=some d):iT x f (.obj x gs)=some d:=(if_pos rfl).trans h
def bO(U:Zf)(G:Z9)(N:Nat):List Int:=(List.range N).flatMap λk=>replicate (bS U G k).length (k:Int)
def HV{zc:Bool}{n:Nat}{U:Zf}{G:Z9}(w:Zf):∀N,(bO U G N).length=(mX zc n U G w N).length:=λN=>by
 unfold bO mX;induction N with
 |zero=>rfl
 |succ N ih=>rw[jC,jC,jt,jt,ih,x6,ja]
def zM(xs ys:List D):dg xs ys=(xs.zip ys).map λq=>D.tup [q.1,q.2]:=by unfold dg;rw[List.zip,List.map_zipWith]
theorem uB{α β γ δ:Type}(f:α->γ)(g:β->δ):∀(xs:List α) (ys:List β),(xs.map f).zip (ys.map g)=(xs.zip ys).map λq=>(f q.1,g q.2)
 |[],_=>rfl
 |_::_,[]=>rfl
 | x::xs,y::ys=>by show(f x,g y)::(xs.map f).zip (ys.map g)=(f x,g y)::(xs.zip ys).map _;rw[uB f g xs ys]
def re:cZ (.str "gap") (.str "clear")=some false:=by rw[ie (by decide+kernel) (by decide+kernel)];decide+kernel
def rd:cZ (.str "soft") (.str "clear")=some false:=by rw[ie (by decide+kernel) (by decide+kernel)];decide+kernel
def q9:cZ (.str "soft") (.str "gap")=some false:=by rw[ie (by decide+kernel) (by decide+kernel)];decide+kernel
def rg:cZ (.str "clear") (.str "clear")=some true:=by rw[ie (by decide+kernel) (by decide+kernel)];decide+kernel
def rc:cZ (.str "gap") (.str "gap")=some true:=by rw[ie (by decide+kernel) (by decide+kernel)];decide+kernel
def DOk.told(t:Told):DOk 1 (bQ t):=by
 cases t with
 |clear b=>exact DOks.tup (.cons (.str _ (by decide+kernel)) (.cons (.int _ _) (.nil _)))
 |gap=>exact DOks.tup (.cons (.str _ (by decide+kernel)) (.nil _))
 |soft z o=>exact DOks.tup (.cons (.str _ (by decide+kernel)) (.cons (.int _ _) (.cons (.int _ _) (.nil _))))
def DOk.tolds(ts:List Told):DOk 2 (.lst (ts.map bQ)):=DOks.lst (.all λd hd=>by obtain⟨i,_,rfl⟩:=List.mem_map.mp hd;exact .told i)
abbrev Mv:=Int×Int
abbrev Sx:=List (List Mv)
abbrev Rw:=List (Option Int)
noncomputable def dZ(t:Rw)(z6:Int):Option Int:=(t[z6.toNat]?).join
def dW(q:Mv)(z9:Rw):Option Int:=(dZ z9 q.1).map λx=>q.2+x
def fT(ch:List Mv)(z9:Rw):Option Int:=cU ((ch.map λq=>dW q z9).filterMap id)
noncomputable def bT:List Sx->Rw->List Rw
 |[],ends=>[ends]
 |st::rest,ends=>(st.map λch=>fT ch ((bT rest ends).headD []))::bT rest ends
noncomputable def cw(st:Sx)(z6:Int):List Mv:=st.getD z6.toNat []
noncomputable def eE:List Sx->Rw->Int->List Int->Option Int
 |[],ends,z6,_=>dZ ends z6
 | st::rest,ends,z6,b::bs=>match (cw st z6)[b.toNat]? with
  |some q=>(eE rest ends q.1 bs).map λx=>q.2+x
  |none=>none
 |_::_,_,_,[]=>none
def mi(st:Sx)(t t':Rw)(z6:Int):Int:=if dW ((cw st z6).getD 0 (0,0)) t'=dZ t z6 then 0 else 1
noncomputable def gS:Nat->List Sx->List Rw->Int->List Int
 |0,_,_,_=>[]
 |_+1,[],_,_=>[]
 |_+1,_::_,[],_=>[]
 |n+1,st::rest,t::ts,z6=>mi st t (ts.headD []) z6::gS n rest ts ((cw st z6).getD (mi st t (ts.headD []) z6).toNat (0,0)).1
def zY(st:Sx)(rest:List Sx)(ends:Rw)(z6 b:Int)(bs:Zf):eE (st::rest) ends z6 (b::bs)=match (cw st z6)[b.toNat]? with
 |some q=>(eE rest ends q.1 bs).map λx=>q.2+x
 |none=>none:=rfl
def HQ(n:Nat)(st:Sx)(rest:List Sx)(t:Rw)(ts:List Rw)(z6:Int):gS (n+1) (st::rest) (t::ts) z6=mi st t (ts.headD []) z6::gS n rest ts ((cw st z6).getD (mi st t (ts.headD []) z6).toNat (0,0)).1:=rfl
theorem Ae:∀(steps:List Sx) (ends:Rw),(bT steps ends).length=steps.length+1
 |[],_=>rfl
 | _::rest,ends=>by unfold bT;rw[jy,Ae rest ends,jy]
theorem Al:∀(steps:List Sx) (ends:Rw) (k:Nat),k<=steps.length->(bT steps ends).drop k=bT (steps.drop k) ends
 |_,_,0,_=>rfl
 |[],_,k+1,h=>by simp at h
 | _::rest,ends,k+1,h=>by show(bT rest ends).drop k=bT (rest.drop k) ends;exact Al rest ends k (by simpa using h)
def zU{ch:List Mv}{z9:Rw}{q:Mv}{x:Int}(h:q∈ch)(e:dW q z9=some x):x∈(ch.map λq=>dW q z9).filterMap id:=by rw[List.mem_filterMap];exact⟨some x,List.mem_map.mpr ⟨q,h,e⟩,rfl⟩
def yE{st:Sx}{f:List Mv->Option Int}{z6:Int}{ch:List Mv}(h:st[z6.toNat]? =some ch):dZ (st.map f) z6=f ch:=by unfold dZ;rw[jo,h];rfl
def uC{st:Sx}{z6:Int}{ch:List Mv}(h:st[z6.toNat]? =some ch):cw st z6=ch:=by unfold cw;rw[jl,h];rfl
def qr1{st:Sx}{z6:Int}{i:Nat}{q:Mv}(h:(cw st z6)[i]? =some q):st[z6.toNat]? =some (cw st z6):=by
 unfold cw at h ⊢;rw[jl]at h ⊢;cases e:st[z6.toNat]? with
 |none=>rw[e]at h;simp at h
 |some ch=>rfl
theorem yZ:∀(steps:List Sx) (ends:Rw) (z6:Int) (us:Zf) (c:Int),eE steps ends z6 us=some c->∃m,dZ ((bT steps ends).headD []) z6=some m/\m<=c
 |[],ends,z6,us,c,h=>⟨c,h,le_refl _⟩
 |st::rest,ends,z6,[],c,h=>by cases h
 | st::rest,ends,z6,b::bs,c,h=>by
  unfold eE at h;cases e:(cw st z6)[b.toNat]? with
  |none=>rw[e]at h;cases h
  | some q=>
   rw[e]at h;simp only at h;cases e1:eE rest ends q.1 bs with
   |none=>rw[e1]at h;cases h
   | some c1=>
    rw[e1]at h;cases h;let⟨m1,h1,h2⟩:=yZ rest ends q.1 bs c1 e1;have hc:dW q ((bT rest ends).headD [])=some (q.2+m1):=by unfold dW;rw[h1];rfl
    have hm:=zU (kc e) hc;show∃m,dZ (st.map λch=>fT ch ((bT rest ends).headD [])) z6=some m/\_;rw[yE (qr1 e)];unfold fT;cases e2:cU (((cw st z6).map λq=>dW q ((bT rest ends).headD [])).filterMap id)with
    |none=>rw[zW e2]at hm;cases hm
    | some m=>
     have:=(uj e2).2 _ hm;exact⟨m,rfl,by show m<=q.2+c1;lia⟩
def OkS(ρ:Nat):Nat->List Sx->Prop
 |_,[]=>True
 |n,st::rest=>st.length=ρ/\(∀ch∈st,ch.length=(if n=0 then 1 else 2)/\∀q∈ch,0<=q.1/\q.1.toNat<ρ)/\OkS ρ (n-1) rest
noncomputable def jU(k:Nat):List Int:=replicate k 0
def HG(a:Int)(xs ys:Zf):HT.lexLt (a::xs) (a::ys)=HT.lexLt xs ys:=by rw[HT.lexLt_cons,if_pos rfl]
def qe6{q:Mv}{z9:Rw}:fT [q] z9=dW q z9:=by
 unfold fT;cases h:dW q z9 with
 |none=>simp[h];rfl
 | some x=>
  simp[h];exact qpn (by simp) (by simp)
def qjn{q0 q1:Mv}{z9:Rw}{m:Int}(h:fT [q0,q1] z9=some m):(dW q0 z9=some m∨dW q1 z9=some m)/\(∀x,dW q0 z9=some x->m<=x)/\∀x,dW q1 z9=some x->m<=x:=by
 let⟨h1,h2⟩:=uj h;refine⟨?_,λx hx=>h2 x (zU (by simp) hx),λx hx=>h2 x (zU (by simp) hx)⟩;rw[List.mem_filterMap]at h1;obtain⟨o,ho,eo⟩:=h1;subst eo;simp at ho;rcases ho with ho|ho
 .exact .inl ho.symm
 .exact .inr ho.symm
def two_of{α:Type}{xs:List α}(h:xs.length=2):∃a b,xs=[a,b]:=by
 match xs,h with
 |[a,b],_=>exact⟨a,b,rfl⟩
theorem uD(ρ:Nat):∀(steps:List Sx) (n:Nat) (ends:Rw) (z6:Int) (m:Int),OkS ρ n steps->n<=steps.length->(0<=z6/\z6.toNat<ρ)->dZ ((bT steps ends).headD []) z6=some m->
 aC (gS n steps (bT steps ends) z6)/\(gS n steps (bT steps ends) z6).length=n/\eE steps ends z6 (gS n steps (bT steps ends) z6++jU (steps.length-n))=some m/\
 ∀w,aC w->w.length=n->eE steps ends z6 (w++jU (steps.length-n))=some m->HT.lexLt w (gS n steps (bT steps ends) z6)=false
 |[],0,ends,z6,m,_,_,_,h=>⟨λb h=>(nomatch h),rfl,h,λw _ hw _=>by rw[List.eq_nil_of_length_eq_zero hw];rfl⟩
 |[],n+1,_,_,_,_,hn,_,_=>by simp at hn
 | st::rest,0,ends,z6,m,ok,_,hr,h=>by
  obtain⟨o1,o2,o3⟩:=ok;have hlt:z6.toNat<st.length:=by rw[o1];exact hr.2
  have es:=jh hlt;let⟨c1,c2⟩:=o2 _ (ka hlt);rw[if_pos rfl]at c1;let⟨q,eq⟩:=List.length_eq_one_iff.mp c1;have h:dZ (st.map λch=>fT ch ((bT rest ends).headD [])) z6=some m:=h;rw[yE es,eq,qe6]at h;unfold dW at h;cases e1:dZ ((bT rest ends).headD []) q.1 with
  |none=>rw[e1]at h;cases h
  | some m1=>
   rw[e1]at h;cases h;have hq:=c2 q (by rw[eq];simp);let⟨_,_,g3,_⟩:=uD ρ rest 0 ends q.1 m1 (by simpa using o3) (zero_le _) hq e1;refine⟨λb h=>(nomatch h),rfl,?_,λw _ hw _=>by rw[List.eq_nil_of_length_eq_zero hw];rfl⟩;show eE (st::rest) ends z6 ([]++jU (rest.length+1-0))=_;have ez:jU (rest.length+1-0)=0::jU rest.length:=rfl;rw[nil_append,ez];unfold eE;rw[uC es,eq];simp only[Int.toNat_zero,List.getElem?_cons_zero];have g3:eE rest ends q.1 ([]++jU (rest.length-0))=some m1:=g3;rw[nil_append,sub_zero]at g3;rw[g3];rfl
 | st::rest,n+1,ends,z6,m,ok,hn,hr,h=>by
  obtain⟨o1,o2,o3⟩:=ok;have hlt:z6.toNat<st.length:=by rw[o1];exact hr.2
  have es:=jh hlt;let⟨c1,c2⟩:=o2 _ (ka hlt);rw[if_neg (by lia)]at c1;let⟨q0,q1,eq⟩:=two_of c1;have h0:dZ (st.map λch=>fT ch ((bT rest ends).headD [])) z6=some m:=h;rw[yE es,eq]at h0;let⟨t1,t2,t3⟩:=qjn h0;have ech:cw st z6=[q0,q1]:=by rw[uC es,eq]
  have hq0:=c2 q0 (by rw[eq];simp);have hq1:=c2 q1 (by rw[eq];simp);have hn':n<=rest.length:=by simpa using hn
  have ln:(st::rest).length-(n+1)=rest.length-n:=by simp
  have hd:(bT (st::rest) ends)=(st.map λch=>fT ch ((bT rest ends).headD []))::bT rest ends:=rfl;have ea:dZ (st.map λch=>fT ch ((bT rest ends).headD [])) z6=some m:=h;rw[ln,hd];have o3:OkS ρ n rest:=by simpa using o3
  have pc:∀(b:Int) (bs:Zf) (q:Mv),[q0,q1][b.toNat]? =some q->eE (st::rest) ends z6 (b::bs)=(eE rest ends q.1 bs).map λx=>q.2+x:=λb bs q e=>by rw[zY,ech,e]
  by_cases z:dW q0 ((bT rest ends).headD [])=some m
  .have eb:mi st (st.map λch=>fT ch ((bT rest ends).headD [])) ((bT rest ends).headD []) z6=0:=by
    unfold mi;rw[ech,ea];exact if_pos z
   have eg:gS (n+1) (st::rest) ((st.map λch=>fT ch ((bT rest ends).headD []))::bT rest ends) z6=0::gS n rest (bT rest ends) q0.1:=by rw[HQ,eb,ech];rfl
   rw[eg];unfold dW at z;cases e1:dZ ((bT rest ends).headD []) q0.1 with
   |none=>rw[e1]at z;cases z
   | some m1=>
    rw[e1]at z;have z:q0.2+m1=m:=jm z;let⟨g1,g2,g3,g4⟩:=uD ρ rest n ends q0.1 m1 o3 hn' hq0 e1;refine⟨λb hb=>?_,by rw[jy,g2],?_,λw hw lw pw=>?_⟩
    .rcases List.mem_cons.mp hb with rfl|hb
     .exact .inl rfl
     .exact g1 b hb
    .rw[cons_append,pc 0 _ q0 rfl,g3];exact congrArg some z
    .cases w with
     |nil=>simp at lw
     | cons b bs=>
      have hbs:aC bs:=λx hx=>hw x (ji _ hx);have lbs:bs.length=n:=by simpa using lw
      rcases hw b jj with rfl|rfl
      .rw[HG];rw[cons_append,pc 0 _ q0 rfl]at pw;refine g4 bs hbs lbs ?_;cases e2:eE rest ends q0.1 (bs++jU (rest.length-n))with
       |none=>rw[e2]at pw;cases pw
       | some c=>
        rw[e2]at pw;have pw:q0.2+c=m:=jm pw;congr 1;lia
      .rw[HT.lexLt_cons,if_neg (by decide)];decide
  .have z1:dW q1 ((bT rest ends).headD [])=some m:=t1.resolve_left z;have eb:mi st (st.map λch=>fT ch ((bT rest ends).headD [])) ((bT rest ends).headD []) z6=1:=by
    unfold mi;rw[ech,ea];exact if_neg z
   have eg:gS (n+1) (st::rest) ((st.map λch=>fT ch ((bT rest ends).headD []))::bT rest ends) z6=1::gS n rest (bT rest ends) q1.1:=by rw[HQ,eb,ech];rfl
   rw[eg];unfold dW at z1;cases e1:dZ ((bT rest ends).headD []) q1.1 with
   |none=>rw[e1]at z1;cases z1
   | some m1=>
    rw[e1]at z1;have z1:q1.2+m1=m:=jm z1;let⟨g1,g2,g3,g4⟩:=uD ρ rest n ends q1.1 m1 o3 hn' hq1 e1;refine⟨λb hb=>?_,by rw[jy,g2],?_,λw hw lw pw=>?_⟩
    .rcases List.mem_cons.mp hb with rfl|hb
     .exact .inr rfl
     .exact g1 b hb
    .rw[cons_append,pc 1 _ q1 rfl,g3];exact congrArg some z1
    .cases w with
     |nil=>simp at lw
     | cons b bs=>
      have hbs:aC bs:=λx hx=>hw x (ji _ hx);have lbs:bs.length=n:=by simpa using lw
      rcases hw b jj with rfl|rfl
      .exfalso;rw[cons_append,pc 0 _ q0 rfl]at pw;cases e2:eE rest ends q0.1 (bs++jU (rest.length-n))with
       |none=>rw[e2]at pw;cases pw
       | some c=>
        rw[e2]at pw;have pw:q0.2+c=m:=jm pw;let⟨m0,h1,h2⟩:=yZ rest ends q0.1 _ c e2;have hc:dW q0 ((bT rest ends).headD [])=some (q0.2+m0):=by unfold dW;rw[h1];rfl
        have:=t2 _ hc;have e3:q0.2+m0=m:=by lia
        exact z (by rw[hc,e3])
      .rw[HG];rw[cons_append,pc 1 _ q1 rfl]at pw;refine g4 bs hbs lbs ?_;cases e2:eE rest ends q1.1 (bs++jU (rest.length-n))with
       |none=>rw[e2]at pw;cases pw
       | some c=>
        rw[e2]at pw;have pw:q1.2+c=m:=jm pw;congr 1;lia
theorem GD:∀a b:List Int,HT.lexLt a b=false->HT.lexLt b a=false->a=b
 |[],[],_,_=>rfl
 |[],_::_,h,_=>by cases h
 |_::_,[],_,h=>by cases h
 | x::xs,y::ys,h,g=>by
  rw[HT.lexLt_cons]at h g;by_cases q:x=y
  .rw[if_pos q]at h;rw[if_pos q.symm]at g;rw[q,GD xs ys h g]
  .rw[if_neg q]at h;rw[if_neg λz=>q z.symm]at g;simp only[decide_eq_false_iff_not]at h g;lia
def pd{x y:Int×List Int}(h:cR x y=false)(g:cR y x=false):x=y:=by
 unfold cR qv at h g;by_cases q:x.1=y.1
 .rw[if_pos q]at h;rw[if_pos q.symm]at g;exact Prod.ext q (GD _ _ h g)
 .rw[if_neg q]at h;rw[if_neg λz=>q z.symm]at g;simp only[decide_eq_false_iff_not]at h g;lia
def qgw{x y z:Int×List Int}(h:cR x y=false)(g:cR y z=false):cR x z=false:=by
 cases q:cR x z with
 |false=>rfl
 | true=>
  rw[(pd h (ut x z y q g)),g]at q;cases q
structure Near(n:Nat)(cost:List Int->Int)(x:Int×List Int):Prop where
 bits:aC x.2
 len:x.2.length=n
 val:x.1=cost x.2
 least:∀w,aC w->w.length=n->cR (cost w,w) x=false
section
variable(r:Int)(U:Zf)(G:Z9)(e:Str)(ts:List Told)(n:Nat)
def aQ(k:Nat):List Told:=(ts.drop (bO U G k).length).take (bS U G k).length
def iI(k:Nat)(z6 bit:Int):Mv:=((2*z6+bit) % 2^r.toNat,gF (aQ U G ts k) (gG (aJ G k) (U.map (eU (2*z6+bit)))))
noncomputable def fj(k:Nat):List Int:=if k<n then [0,1]else [0]
def stepK(k:Nat):Sx:=(List.range (2^r.toNat)).map λ(z6:Nat)=>(fj n k).map λb=>iI r U G ts k (z6:Int) b
def b7(k len:Nat):List Sx:=(range' k len).map (stepK r U G ts n)
noncomputable def eQ(s:Int):Rw:=(List.range (2^r.toNat)).map λ(z6:Nat)=>if e="open"∨(z6:Int)=(if e="ring" then s else 0)then some 0 else none
def eh(w:Zf):Int:=gF ts (qd r.toNat U G (bJ r e w) (tu r e w))
end
section
variable{r:Int}{U:Zf}{G:Z9}{e:Str}{ts:List Told}{n:Nat}
def uN(k len:Nat):b7 r U G ts n k (len+1)=stepK r U G ts n k::b7 r U G ts n (k+1) len:=by unfold b7;rw[List.range'_succ];rfl
def ig:((2^r.toNat:Nat):Int)=(2:Int)^r.toNat:=by rw[Int.natCast_pow];rfl
theorem pG:∀(len k:Nat),OkS (2^r.toNat) (n-k) (b7 r U G ts n k len)
 |0,k=>True.intro
 | len+1,k=>by
  rw[uN];refine⟨by unfold stepK;simp,λch hch=>?_,by rw[Nat.sub_sub];exact pG len (k+1)⟩;unfold stepK at hch;obtain⟨z6,hr,rfl⟩:=List.mem_map.mp hch;refine⟨?_,λq hq=>?_⟩
  .unfold fj;by_cases h:k<n
   .rw[if_pos h,if_neg (by lia)];rfl
   .rw[if_neg h,if_pos (by lia)];rfl
  .obtain⟨b,_,rfl⟩:=List.mem_map.mp hq;have h1:(0:Int)<2^r.toNat:=pow_pos (by decide);have h3:=Int.emod_lt_of_pos (2*(z6:Int)+b) h1;have h4:=ig (r:=r);refine⟨(emod_nonneg (2*(z6:Int)+b) (by lia:(2:Int)^r.toNat≠0)),?_⟩;show((2*(z6:Int)+b) % 2^r.toNat).toNat<_;lia
def Hb{k:Nat}{z6:Int}(h0:0<=z6)(h1:z6<2^r.toNat):cw (stepK r U G ts n k) z6=(fj n k).map λb=>iI r U G ts k z6 b:=by
 have h4:=ig (r:=r);have lt:z6.toNat<2^r.toNat:=by lia
 apply uC;unfold stepK;rw[jo,k9 lt];simp only[map_some,toNat_of_nonneg h0]
theorem zD{a:Int}{u:Zf}(ha:0<=a/\a<2^r.toNat)(hb:aC u)(hz:∀k b,n<=k->u[k]? =some b->b=0)(ends:Rw):∀(len k:Nat),k+len=u.length->
 eE (b7 r U G ts n k len) ends (bi (2^r.toNat) a (u.take k)) (u.drop k)=(dZ ends (bi (2^r.toNat) a u)).map λx=>((range' k len).map λj=>gF (aQ U G ts j) (gg r.toNat U G a u j)).sum+x
 | 0,k,h=>by
  have e1:u.take k=u:=take_of_length_le (by lia);rw[e1];show dZ ends _=_;cases dZ ends (bi (2^r.toNat) a u)with
  |none=>rfl
  |some x=>simp
 | len+1,k,h=>by
  have lt:k<u.length:=by lia
  have ek:=jh lt;have mp:(0:Int)<2^r.toNat:=pow_pos (by decide);have hr:=kW mp (u.take k) a ha;rw[uN,vf lt,zY,Hb hr.1 hr.2];have eb:((fj n k).map λb=>iI r U G ts k (bi (2^r.toNat) a (u.take k)) b)[u[k].toNat]? =some (iI r U G ts k (bi (2^r.toNat) a (u.take k)) u[k]):=by
   unfold fj;by_cases h1:k<n
   .rw[if_pos h1];rcases hb _ (ka lt)with z|z
    .rw[z];rfl
    .rw[z];rfl
   .have z:=hz k _ (by lia) ek;rw[if_neg h1,z];rfl
  rw[eb];simp only;have en:(iI r U G ts k (bi (2^r.toNat) a (u.take k)) u[k]).1=bi (2^r.toNat) a (u.take (k+1)):=by rw[cX ek,zO];show(2*_+u[k]) % _=_;congr 1;lia
  rw[en,zD ha hb hz ends len (k+1) (by lia),map_map];have es:(iI r U G ts k (bi (2^r.toNat) a (u.take k)) u[k]).2=gF (aQ U G ts k) (gg r.toNat U G a u k):=by unfold gg;rw[jl,ek];rfl
  rw[es,List.range'_succ,x5,List.sum_cons];congr 1;funext x;show _+(_+x)=_;lia
def qis{a b:List Told}{c d:Zf}(h:a.length=c.length):gF (a++b) (c++d)=gF a c+gF b d:=by unfold gF;rw[List.zip_append h,xk,sum_append]
def HI{a:Int}{u:Zf}{m:Nat}(k:Nat):(gg m U G a u k).length=(bS U G k).length:=by unfold gg;rw[zZ,ja];rfl
def uO(N:Nat):(bO U G (N+1)).length=(bO U G N).length+(bS U G N).length:=by unfold bO;rw[jC,jt,x6]
theorem zQ{m:Nat}{a:Int}{u:Zf}:∀N,((List.range N).flatMap (gg m U G a u)).length=(bO U G N).length
 |0=>rfl
 |N+1=>by rw[jC,jt,zQ N,HI,uO]
theorem HC{m:Nat}{a:Int}{u:Zf}:∀N,(bO U G N).length<=ts.length->gF (ts.take (bO U G N).length) ((List.range N).flatMap (gg m U G a u))=((range' 0 N).map λj=>gF (aQ U G ts j) (gg m U G a u j)).sum
 |0,_=>rfl
 | N+1,h=>by
  rw[uO]at h;have e1:ts.take (bO U G (N+1)).length=ts.take (bO U G N).length++aQ U G ts N:=by rw[uO,take_add];rfl
  rw[e1,jC,qis (by rw[xq,zQ];lia),HC N (by lia),List.range'_concat,xk,sum_append];simp
def qjk{a:Int}{u:Zf}(hl:ts.length=(bO U G u.length).length):gF ts (qd r.toNat U G a u)=((range' 0 u.length).map λj=>gF (aQ U G ts j) (gg r.toNat U G a u j)).sum:=by have h:=HC (ts:=ts) (U:=U) (G:=G) (m:=r.toNat) (a:=a) (u:=u) u.length (by lia);rw[take_of_length_le (by lia)]at h;exact h
def HN{w:Zf}(hw:w.length=n):∀k b,n<=k->(w++replicate (aE r e) 0)[k]? =some b->b=0:=λk b hk h=>by rw[kb (by lia)]at h;exact eq_of_mem_replicate (kc h)
def Gi{s z6:Int}(h0:0<=z6)(h1:z6<2^r.toNat):dZ (eQ r e s) z6=if e="open"∨z6=(if e="ring" then s else 0)then some 0 else none:=by
 have h4:=ig (r:=r);have lt:z6.toNat<2^r.toNat:=by lia
 unfold dZ eQ;rw[jo,k9 lt];simp only[map_some,Option.join_some,toNat_of_nonneg h0]
def zn(hb:∀w:List Int,aC w->0<=aP w/\aP w<2^w.length)(w:Zf)(hw:aC w)(hl:e="ring"->r.toNat<=w.length):0<=bJ r e w/\bJ r e w<2^r.toNat:=by
 unfold bJ;by_cases h:e="ring"
 .rw[if_pos h];have hd:aC (w.drop (w.length-r.toNat)):=λb m=>hw b (mem_of_mem_drop m);have:=hb _ hd;rw[xx,show w.length-(w.length-r.toNat)=r.toNat from by have:=hl h;lia]at this;exact this
 .rw[if_neg h];exact⟨le_refl _,pow_pos (by decide)⟩
def Hq{w:Zf}(hb:aC w):aC (w++replicate (aE r e) 0):=ii hb (ux _)
def Hv{w:Zf}(hb:aC w)(hw:w.length=n)(hl:e="ring"->r.toNat<=n)(hen:e="open"∨e="ended"∨e="ring")(ht:ts.length=(bO U G (n+aE r e)).length):
 eE (b7 r U G ts n 0 (n+aE r e)) (eQ r e (bJ r e w)) (bJ r e w) (w++replicate (aE r e) 0)=some (eh r U G e ts w):=by
 have hf:=zn (e:=e) kX w hb (by rw[hw];exact hl);have lu:(w++replicate (aE r e) 0).length=n+aE r e:=by rw[jt,x6,hw]
 have h:=zD (r:=r) (U:=U) (G:=G) (ts:=ts) (n:=n) hf (Hq (r:=r) (e:=e) hb) (HN hw) (eQ r e (bJ r e w)) (n+aE r e) 0 (by lia);have h':eE (b7 r U G ts n 0 (n+aE r e)) (eQ r e (bJ r e w)) (bJ r e w) (w++replicate (aE r e) 0)=_:=h;rw[h'];have mp:(0:Int)<2^r.toNat:=pow_pos (by decide);have he:=kW mp (w++replicate (aE r e) 0) _ hf;rw[Gi he.1 he.2,if_pos]
 .unfold eh;rw[y7,qjk (by rw[lu];exact ht),lu];simp
 .rcases hen with h1|h1|h1
  .exact .inl h1
  .refine .inr ?_;have h2:¬e="ring":=by rw[h1];decide
   have h3:aE r e=r.toNat:=by unfold aE;rw[if_pos h1]
   rw[if_neg h2,h3];unfold bJ;rw[if_neg h2];exact qin r.toNat w
  .refine .inr ?_;have h2:¬e="ended":=by rw[h1];decide
   have h3:aE r e=0:=by unfold aE;rw[if_neg h2]
   rw[if_pos h1,h3];simp only[List.replicate_zero,append_nil];unfold bJ;rw[if_pos h1];exact qll r.toNat w hb (by rw[hw];exact hl h1)
theorem Fo:∀(m:Nat) (x:Int),0<=x->x<2^m->∃p:List Int,p.length=m/\aC p/\aP p=x
 |0,x,h0,h1=>⟨[],rfl,λ_ h=>(nomatch h),by have:x<1:=h1;show(0:Int)=x;lia⟩
 | m+1,x,h0,h1=>by
  have h2:x / 2<2^m:=by rw[Int.pow_succ]at h1;lia
  let⟨p,p1,p2,p3⟩:=Fo m (x / 2) (by lia) h2;refine⟨p++[x % 2],by rw[jt,p1];rfl,ii p2 λb hb=>?_,by rw[Ab,p3];lia⟩;rw[List.mem_singleton.mp hb];lia
def qjt{w:Zf}{s:Int}(hb:aC w)(hl:r.toNat<=w.length)(h0:0<=s)(h1:s<2^r.toNat)(h:bi (2^r.toNat) s w=s):aP (w.drop (w.length-r.toNat))=s:=by
 let⟨p,p1,p2,p3⟩:=Fo r.toNat s h0 h1;have g:=Gq r.toNat p w p1 p2 hb w.length (jg _);rw[take_length,p3,h]at g;rw[g];congr 1;have e1:(p++w).drop w.length=w.drop (w.length-r.toNat):=by rw[List.drop_append,List.drop_eq_nil_of_le (by lia),nil_append,p1]
 rw[e1,take_of_length_le (by rw[xx];lia)]
section
variable(r:Int)(U:Zf)(G:Z9)(e:Str)(ts:List Told)(n:Nat)
noncomputable def cY:List Int:=if e="ring" then(List.range (2^r.toNat)).map λ(k:Nat)=>(k:Int)else [0]
def fm(s:Int):List Rw:=bT (b7 r U G ts n 0 (n+aE r e)) (eQ r e s)
end
def uJ{s:Int}(h:s∈cY r e):0<=s/\s<2^r.toNat:=by
 unfold cY at h;by_cases q:e="ring"
 .rw[if_pos q]at h;obtain⟨k,hk,rfl⟩:=List.mem_map.mp h;have:=List.mem_range.mp hk;have h4:=ig (r:=r);lia
 .rw[if_neg q]at h;rw[List.mem_singleton.mp h];exact⟨le_refl _,pow_pos (by decide)⟩
def HD{w:Zf}(hb:aC w)(hl:e="ring"->r.toNat<=w.length):bJ r e w∈cY r e:=by
 have h:=zn kX w hb hl;unfold cY;by_cases q:e="ring"
 .rw[if_pos q];have h4:=ig (r:=r);exact List.mem_map.mpr ⟨(bJ r e w).toNat,List.mem_range.mpr (by lia),toNat_of_nonneg h.1⟩
 .rw[if_neg q];unfold bJ;rw[if_neg q];simp
def qh4{w:Zf}{s c:Int}(hs:s∈cY r e)(hb:aC w)(hw:w.length=n)(hl:e="ring"->r.toNat<=n)(hen:e="open"∨e="ended"∨e="ring")(ht:ts.length=(bO U G (n+aE r e)).length)
 (h:eE (b7 r U G ts n 0 (n+aE r e)) (eQ r e s) s (w++replicate (aE r e) 0)=some c):s=bJ r e w/\c=eh r U G e ts w:=by
 have h1:=uJ hs;have es:s=bJ r e w:=by
  by_cases q:e="ring"
  .have lu:(w++replicate (aE r e) 0).length=n+aE r e:=by rw[jt,x6,hw]
   have g:=zD (U:=U) (G:=G) (ts:=ts) (n:=n) h1 (Hq (r:=r) (e:=e) hb) (HN hw) (eQ r e s) (n+aE r e) 0 (by lia);have g':eE (b7 r U G ts n 0 (n+aE r e)) (eQ r e s) s (w++replicate (aE r e) 0)=_:=g;rw[g']at h;have mp:(0:Int)<2^r.toNat:=pow_pos (by decide);have he:=kW mp (w++replicate (aE r e) 0) _ h1;have h2:¬e="ended":=by rw[q];decide
   have h5:¬e="open":=by rw[q];decide
   have h3:aE r e=0:=by unfold aE;rw[if_neg h2]
   rw[Gi he.1 he.2]at h;by_cases z:e="open"∨bi (2^r.toNat) s (w++replicate (aE r e) 0)=(if e="ring" then s else 0)
   .rcases z with z|z
    .exact absurd z h5
    .rw[if_pos q,h3]at z;simp only[List.replicate_zero,append_nil]at z;unfold bJ;rw[if_pos q];exact(qjt hb (by rw[hw];exact hl q) h1.1 h1.2 z).symm
   .rw[if_neg z]at h;cases h
  .unfold cY at hs;rw[if_neg q]at hs;unfold bJ;rw[if_neg q];exact List.mem_singleton.mp hs
 refine⟨es,?_⟩;rw[es,Hv hb hw hl hen ht]at h;exact(jm h).symm
end
end L2
namespace L2
open PySem PySem.Spec PyProof.Rows
def DRaw(h:Heap)(d:Addr)(es:Array DictEntry)(ep:Nat):Prop:=∃o,h.get? d=some o/\o.ExactDict/\o.data=.dict es ep
def DRaw.ty{s:Shared}{d:Addr}{es:Array DictEntry}{ep:Nat}(x:DRaw s.heap d es ep):s.TypeIs (.ref d) "dict":=let ⟨o,e,c,_⟩:=x;⟨o,e,c.1⟩
def DRaw.at_{h h':Heap}{d:Addr}{es:Array DictEntry}{ep:Nat}(x:DRaw h d es ep)(k:∀o,h.get? d=some o->h'.get? d=some o):DRaw h' d es ep:=let ⟨o,e,r⟩:=x;⟨o,k o e,r⟩
section
variable{prog:Program}{w:World}{A:Around}{E:Z0}{s:Shared}
def qky{d:Addr}{es:Array DictEntry}{ep:Nat}{Q:Z0}(nd:(d==sysModules)=false)(x:DRaw s.heap d es ep)
 (q:Q (.ref s.heap.objs.size) {s with heap:=s.heap.push {cls:=.type "dict_keyiterator",data:=.fields #[.ref d,.int 0 0,.int es.size 0,.int ep 0]}}):wpAny (model prog w) A (pyIter (.ref d)) Q E s:=by
 let⟨o,e,c,dt⟩:=id x;refine wpAny_pyIter_slot x.ty F.slot_dict_iter (kg F.slot_dict_iter x.ty F.entry_dict_iter ?_ (F.args_dict_iter_1 _));refine j9 (j9 (wpAny_notOrdered_dict x.ty ?_));refine jb ?_;show wpAny _ _ ((if(d==sysModules)=true then _ else _) >>= _) _ _ s;rw[if_neg (by rw[nd];decide)];exact j9 (jb (j9 (wpAny_dictEntries e dt (j9 (wpAny_dictEpoch e dt (j9 (kh (jb ⟨_,rfl,"dict_keyiterator",_,⟨_,ju _ rfl,rfl⟩,F.slot_dict_keyiterator_next.lookup,q⟩))))))))
def ql0{it d:Addr}{i ep:Nat}{es:Array DictEntry}{Q:Option Value->Shared->Prop}(g:s.heap.IsKeyIter it d i es.size ep)(x:DRaw s.heap d es ep)(hi:i<es.size)
 (q:∀h',h'.IsKeyIter it d (i+1) es.size ep->SameBut it s.heap h'->Q (some es[i].key) {s with heap:=h'}):wpAny (model prog w) A (pyNext (.ref it)) Q E s:=by
 let⟨oi,ei,ci,fi⟩:=id g;let⟨o,e,c,dt⟩:=id x;have own0:Builtin.Dict_items.ownsTuple "dict_keyiterator"=false:=by decide
 unfold pyNext;refine j9 (ve (vd g.typeIs sC (kg sC g.typeIs F.entry_dict_keyiterator_next (j9 (jb (j9 ?_))) (F.args_dict_keyiterator_next_1 _))));refine j9 (j9 (sB g.typeIs (jb (j9 (wpAny_fieldsOf ei fi ?_)))));simp only[own0,false_eq_true,if_false];show wpAny _ _ (if(Value.ref d==Value.none)=true then _ else _) _ _ s;have nn:(Value.ref d==Value.none)=false:=rfl;rw[if_neg (by rw[nn];decide)];refine j9 (jb (j9 (wpAny_dictEntries e dt ?_)));rw[if_neg (by simp)];refine j9 (jb (j9 (wpAny_dictEpoch e dt ?_)));rw[if_neg (by simp)];refine jb ?_;have n0:¬((i:Int)<0):=by lia
 simp only[n0,if_false,toNat_natCast,getElem?_eq_getElem hi];refine j9 (j9 (sB g.typeIs (jb (j9 (wpAny_isOneOf_keyiter g.typeIs ?_)))));show wpAny _ _ (setField (.ref it) 1 (rawInt ((i:Int)+1)) >>= _) _ _ s;have g':(s.heap.update it (Obj.mapFields (·.setIfInBounds 1 (rawInt ((i:Int)+1))))).IsKeyIter it d (i+1) es.size ep:=
  ⟨_,vk _ ei (Obj.isFreed_of_fields (Obj.data_mapFields fi _)),(Obj.cls_mapFields ..).trans ci,by rw[Obj.data_mapFields fi];simp[rawInt]⟩
 refine j9 (wpAny_setField ei fi (by simp) (j9 (xm (j9 (wpAny_isOneOf_keyiter (s:={s with heap:=s.heap.update it (Obj.mapFields (·.setIfInBounds 1 (rawInt ((i:Int)+1))))}) g'.typeIs ?_)))));show wpAny _ _ (pure es[i].key) _ _ _;exact jb (jb ⟨_,rfl,jb (q _ g' (km ..))⟩)
def qpw{it d:Addr}{i ep:Nat}{es:Array DictEntry}{Q:Option Value->Shared->Prop}(hh:A.handled=none)(g:s.heap.IsKeyIter it d i es.size ep)(x:DRaw s.heap d es ep)(hi:es.size<=i)
 (q:∀h',ExtBut it s.heap h'->Q none {s with heap:=h'}):wpAny (model prog w) A (pyNext (.ref it)) Q E s:=by
 let⟨oi,ei,ci,fi⟩:=id g;let⟨o,e,c,dt⟩:=id x;have own0:Builtin.Dict_items.ownsTuple "dict_keyiterator"=false:=by decide
 unfold pyNext;refine j9 (ve (vd g.typeIs sC (kg sC g.typeIs F.entry_dict_keyiterator_next (j9 (jb (j9 ?_))) (F.args_dict_keyiterator_next_1 _))));refine j9 (j9 (sB g.typeIs (jb (j9 (wpAny_fieldsOf ei fi ?_)))));simp only[own0,false_eq_true,if_false];show wpAny _ _ (if(Value.ref d==Value.none)=true then _ else _) _ _ s;have nn:(Value.ref d==Value.none)=false:=rfl;rw[if_neg (by rw[nn];decide)];refine j9 (jb (j9 (wpAny_dictEntries e dt ?_)));rw[if_neg (by simp)];refine j9 (jb (j9 (wpAny_dictEpoch e dt ?_)));rw[if_neg (by simp)];refine jb ?_;have n0:¬((i:Int)<0):=by lia
 simp only[n0,if_false,toNat_natCast,getElem?_eq_none hi];refine j9 (j9 (sB g.typeIs (jb ?_)));show wpAny _ _ (setField (.ref it) 0 .none >>= _) _ _ s;refine j9 (wpAny_setField ei fi (by simp) ?_);simp only[newExc,newTuple,raiseNew];refine j9 (j9 (kh (j9 (wpAny_of_eq (by first|rfl|(simp only[firstArgMember];rfl)) (kh ?_ (by size_fits)))) (by size_fits)));refine j9 (wpAny_handled ?_);rw[show A.in1.handled=none from hh];refine j9 (jb (wpAny_throw ?_));exact j9 (wpAny_isInstance ⟨_,ju _ rfl,rfl⟩ isSubtype_stop (jb (q _ (((km ..).extBut.push _).push _))))
end
def qs5{X:Cx}{z5:Z3}{J:St}{H:Hp}{s:Shared}(I:Inv X z5 J H s):sysModules<s.heap.objs.size:=by exact lt_trans (by decide) ((I.mod.glob.keeps I.bk).lt)
def D1:TE:=λ_ H Q=>∀p,H p=none->Q (.ref p) (aM H p (.dK []))
def qos{X:Cx}{pos:Pos}:PE X (.Dict [] [] pos) D1:=λz5 s J H Q I h=>
 wpAny_Dict_empty ⟨.ref s.heap.objs.size,_,I.laid (o:=.dK []) (λ_ _ q=>je _ q) (jg _)
  ⟨zero_le _,beq_eq_false_iff_ne.mpr (Ne.symm (jq (qs5 I))),[],.nil,_,#[],ju _ rfl,⟨rfl,rfl,rfl⟩,rfl,λe he=>by simp at he,.nil,nodup_nil⟩,rfl,h _ (I.hok.fresh (jg _))⟩
section
variable{prog:Program}{w:World}{κ:Type}[DecidableEq κ]{knd:KeyKind prog w κ}{A:Around}{E:Z0}{s:Shared}
def qxs{d:Addr}{kvs:List (κ×Value)}{n:Nat}{k:κ}{key v:Value}{Q:Unit->Shared->Prop}(hk:knd.is k key=true)(hm:DictN knd s.heap d kvs n)(hz:kvs.length<=sizeLine)(nk:k∉kvs.map (·.1))
 (q:∀h',DictN knd h' d (kvs++[(k,v)]) (n+1)->SameBut d s.heap h'->Q () {s with heap:=h',toks:=s.toks+1}):wpAny (model prog w) A (dictSet d key v) Q E s:=by
 obtain⟨o,es,g0,cx,dt,ko,hp,nd⟩:=hm;have z1:es.size=kvs.length:=by have:=hp.length;simpa using this
 have fi:es.findIdx? (λe=>knd.is k e.key)=none:=by
  have h1:=hp.findIdx k;have h2:kvs.findIdx? (λkv=>decide (kv.1=k))=none:=by rw[List.findIdx?_eq_none_iff];intro x hx;exact decide_eq_false λe=>nk (List.mem_map.mpr ⟨x,hx,e⟩)
  rw[h2]at h1;obtain⟨l⟩:=es;simpa using h1
 unfold dictSet
 (try with_reducible refine xm ?_);refine j9 (knd.pyHash hk ?_);unfold dictSetHashed
 (try with_reducible refine xm ?_);refine j9 (wpAny_dictFind_of hk g0 dt ko ?_);rw[fi];refine j9 (k8 (wpAny_updateDictKeys g0 dt (q _ ?_ (km ..))));refine⟨_,_,vk _ g0 (Obj.isFreed_of_dict (Obj.data_mapDictKeys dt _)),cx.mapDictKeys _,Obj.data_mapDictKeys dt _,ko.push hk v,?_,?_⟩
 .have:=hp.append hk (knd.hash k) v;simpa using this
 .rw[xk,List.nodup_append];refine⟨nd,by simp,λx hx y hy z=>?_⟩;have ey:y=k:=by simpa using hy
  exact nk (by rw[<-ey,<-z];exact hx)
def qsa{d:Addr}{kvs:List (κ×Value)}{n:Nat}{k:κ}{key v:Value}{Q:Unit->Shared->Prop}(hk:knd.is k key=true)(hm:DictN knd s.heap d kvs n)(hz:kvs.length<=sizeLine)(nk:k∉kvs.map (·.1))
 (q:∀h',DictN knd h' d (kvs++[(k,v)]) (n+1)->SameBut d s.heap h'->Q () {s with heap:=h',toks:=s.toks+1}):wpAny (model prog w) A (setItem (.ref d) key v) Q E s:=by
 have ty:=hm.of.typeIs;unfold setItem
 (try with_reducible refine xm ?_);refine j9 (wpAny_sequenceKey ty (by decide) (j9 ?_));refine vd ty slot_dict_setitem (kg slot_dict_setitem ty entry_dict_setitem ?_ (args_dict_setitem _ _ _));refine j9 (wpAny_notOrdered_dict ty ?_);show wpAny _ _ (dictSet d key v >>= _) _ _ s;exact j9 (qxs hk hm hz nk λh' m' t'=>jb ⟨.none,rfl,jb (q h' m' t')⟩)
end
def rY(kvs:List (bn×V))(k:Int):Prop:=Sum.inl k∈kvs.map (·.1)
def KV.map1{κ:Type}{kvs:List (κ×V)}{vs:List (κ×Value)}(r:KV kvs vs):kvs.map (·.1)=vs.map (·.1):=by
 induction r with
 |nil=>rfl
 |cons h _ ih=>rw[x5,x5,ih,h.1]
def KV.snoc{κ:Type}{kvs:List (κ×V)}{vs:List (κ×Value)}{k:κ}{v:V}{u:Value}(r:KV kvs vs)(h:RelV v u):KV (kvs++[(k,v)]) (vs++[(k,u)]):=by
 induction r with
 |nil=>exact .cons ⟨rfl,h⟩ .nil
 |cons g _ ih=>exact .cons g ih
def KV.len{κ:Type}{kvs:List (κ×V)}{vs:List (κ×Value)}(r:KV kvs vs):kvs.length=vs.length:=Paired.length r
section
variable{X:Cx}{K:am}
def DN:V->V->V->Hp->(Hp->Prop)->Prop:=λo i v H Q=>∃p kvs k,o=.ref p/\i=.int k/\H p=some (.dK kvs)/\kvs.length<sizeLine/\¬rY kvs k/\Q (aM H p (.dK (kvs++[(.inl k,v)])))
def qxk:oI X DN:=by
 intro z5 s J H o i v ov iv u Q I ro ri rv h;obtain⟨p,kvs,k,rfl,rfl,hp,hz,hn,q⟩:=h;cases ro;obtain⟨t,rfl⟩:=ri;let⟨_,hd,vs,rel,dd⟩:=(I.hok p _ hp);refine qsa (HU k t) dd (by rw[<-rel.len];lia) (by rw[<-rel.map1];exact hn) λh' dd' sb=>⟨_,?_,q⟩;have he:∃q,h'.get? p=some q:=let ⟨q,_,hq,_⟩:=dd';⟨q,hq⟩
 refine I.write (by rw[hp];exact True.intro) (.inl rfl) (λb q hb z=>(sb.2 b hb).trans z) he ⟨by rw[jt];exact hz,hd,_,rel.snoc rv,?_⟩;rw[jt];exact dd'
noncomputable def g9(kvs:List (bn×V))(k:Int):Option V:=(kvs.find? λp=>decide (p.1=Sum.inl k)).map (·.2)
def ql9{kvs:List (bn×V)}{vs:List (bn×Value)}{k:Int}{v:V}(r:KV kvs vs)(h:g9 kvs k=some v):∃u,valueAt vs (Sum.inl k)=some u/\RelV v u:=by
 induction r with
 |nil=>cases h
 | @cons p q ps qs g _ ih=>
  obtain⟨h1,h2⟩:=g;unfold g9 at h;by_cases e:p.1=Sum.inl k
  .have e':=h1.symm.trans e;simp[find?_cons,e]at h;subst h;exact⟨q.2,by simp[valueAt,find?_cons,e'],h2⟩
  .have e':¬q.1=Sum.inl k:=λz=>e (h1.trans z);simp[find?_cons,e]at h;let⟨u,u1,u2⟩:=ih (by unfold g9;simpa using h);exact⟨u,by rw[<-u1];simp[valueAt,find?_cons,e'],u2⟩
def rQ:R2:=λx y H Q=>∃p kvs k v,x=.ref p/\y=.int k/\H p=some (.dK kvs)/\g9 kvs k=some v/\Q v H
def Bx:IxR X rQ:=by
 intro value zh z5 s J H x y v u Q I rx ry h hs;obtain⟨p,kvs,k,z,rfl,rfl,hp,hg,q⟩:=h;cases rx;obtain⟨t,rfl⟩:=ry;let⟨_,hd,vs,rel,dd⟩:=(I.hok p _ hp);let⟨w',hw,rw'⟩:=ql9 rel hg;have ty:=dd.of.typeIs;apply j9;rw[getitemInPython_of_ne ty.not_modules];refine j9 (wpAny_specialOf ty F.slot_dict_getitem.lookup ?_);have fin:wpAny (model X.prog X.w) X.A (subscripted zh false (.ref p) (.int k t)) (λr s₃=>wpAny (model X.prog X.w) X.A (letTemporaryGo value (.ref p) r >>= λ_=>pure r) (EP X z5 J Q) X.xe s₃) X.xe s:=by rw[hs];exact wpAny_operating (wpAny_getItem_of (HU k t) dd.of.mapOf hw (j9 (wpAny_letTemporaryGo (jb ⟨z,H,I.tok _,rw',q⟩))))
 first
  |exact jb (j9 fin)
  |exact j9 (jb (j9 fin))
  |exact j9 fin
end
def oK(a:Addr)(n:Nat):It:=
 ⟨λi H=>∃kvs p,H a=some (.dK kvs)/\kvs.length=n/\kvs[i]? =some p,
  λi H v H'=>H'=H/\∀kvs p,H a=some (.dK kvs)->kvs[i]? =some p->v=kV p.1,
  λi H=>∃kvs,H a=some (.dK kvs)/\kvs.length=n/\n<=i⟩
def jK{P:Program}{w:World}:∀{es:List DictEntry} {kvs:List (bn×V)} {vs:List (bn×Value)} {i:Nat} {p:bn×V},Pairs (qz P w) es vs->KV kvs vs->kvs[i]? =some p->∃e,es[i]? =some e/\RelV (kV p.1) e.key:=by
 intro es kvs vs i p h;induction h generalizing kvs i with
 |nil=>intro r e;cases r;simp at e
 | @cons en kv es vs h1 h2 _ ih=>
  intro r e;cases r with
  | @cons q _ ks _ g r=>
   cases i with
   | zero=>
    simp at e;subst e;refine⟨en,rfl,?_⟩;rw[g.1];rcases jZ h1 with⟨j,t,e1,e2⟩|⟨x,t,e1,e2⟩
    .rw[e1,e2];exact⟨t,rfl⟩
    .rw[e1,e2];exact⟨t,rfl⟩
   |succ i=>exact ih r (by simpa using e)
def yU{X:Cx}{z5:Z3}{J:St}{H:Hp}{s:Shared}{a:Addr}{kvs:List (bn×V)}(I:Inv X z5 J H s)(e:H a=some (.dK kvs)):
 (a==sysModules)=false/\∃es,es.size=kvs.length/\DRaw s.heap a es kvs.length/\∀i p,kvs[i]? =some p->∃hi:i<es.size,RelV (kV p.1) es[i].key:=by
 let⟨_,y,vs,r,o,es,h1,h2,h3,h4,h5,_⟩:=(I.hok a _ e);have z:es.size=kvs.length:=by have:=h5.length;rw[<-r.len]at this;simpa using this
 refine⟨y,es,z,⟨o,h1,h2,h3⟩,λi p hp=>?_⟩;let⟨en,e1,e2⟩:=jK h5 r hp;have hi:i<es.size:=by rw[z];exact(List.getElem?_eq_some_iff.mp hp).1
 refine⟨hi,?_⟩;have ee:es[i]=en:=by have:=(List.getElem?_eq_some_iff.mp e1).2;simpa using this
 rw[ee];exact e2
def qdq{P:Program}{w:World}{K:am}{tg:Expr}(a it:Addr)(n:Nat):Turn P w K tg (oK a n) [it] it (λi h=>h.IsKeyIter it a i n n) where
 mem:=by simp
 obj:=λi h st b hb=>by obtain⟨o,e,c,d⟩:=st;rw[List.mem_singleton.mp hb];exact⟨o,e,λv z=>by rw[d]at z;cases z⟩
 keep:=λi h h' st k=>st.at λo e=>k it (by simp) o e
 item:=by intro X hP hw hK hc i z5 s J H E I hf st hg;subst hP hw hK;obtain⟨kvs,p,e,rfl,hp⟩:=hg;let⟨_,es,z,dr,al⟩:=yU I e;let⟨hi,k1⟩:=al i p hp;let⟨f0,f1,f2,f3,f4,f5⟩:=hf it (by simp);rw[<-z]at st dr;refine ql0 st dr hi λh' st' sb=>?_;have I1:Inv X z5 J H {s with heap:=h'}:=I.turned (λb o hb e=>(sb.2 b hb).trans e) f0 f1 f3 f4 f5;let⟨o,e1,c1,d1⟩:=id st';refine⟨_,rfl,pV e1 c1 d1 (by decide) ⟨kV p.1,H,I1,k1,⟨rfl,λkvs' p' e' hp'=>?_⟩,by rw[<-z];exact st',λb hb=>(hf b hb).1⟩⟩;rw[e]at e';cases e';rw[hp]at hp';cases hp';rfl
 done:=by intro X hP hw hK hc i z5 s J H E I hf st hg;subst hP hw hK;obtain⟨kvs,e,rfl,hp⟩:=hg;let⟨_,es,z,dr,_⟩:=yU I e;let⟨f0,f1,f2,f3,f4,f5⟩:=hf it (by simp);rw[<-z]at st dr hp;exact qpw (I.ok.hd hc) st dr hp λh' eb=>⟨rfl,I.turned (λb o hb e=>eb b o hb e) f0 f1 f3 f4 f5⟩
 self:=λ_ _ _ _ _ st h=>wpAny_pyIter_keyiter st h
def Es(td:TE):TI:=λJ H R=>td J H λx H1=>∃a kvs,x=.ref a/\H1 a=some (.dK kvs)/\R (oK a kvs.length) H1
def qk9{X:Cx}{tg l:Expr}{td:TE}(hl:PE X l td):PI X tg l (Es td):=by intro z5 s J H R I h;refine bf (hl z5 s J H _ I h) λv s1 ⟨x,H1,I1,rx,a,kvs,ex,e,q⟩=>?_;subst ex;obtain rfl:v=Value.ref a:=rx;let⟨y,es,z,dr,_⟩:=yU I1 e;apply qky y dr;refine⟨s1.heap.objs.size,[s1.heap.objs.size],_,_,H1,rfl,I1.kept λb o e=>je _ e,qdq a _ kvs.length,⟨_,ju _ rfl,rfl,by rw[z];rfl⟩,λb hb=>?_,q⟩;rw[List.mem_singleton.mp hb];exact I1.fpOk (jg _) (I1.hok.fresh (jg _))
noncomputable def kD:bn->D
 |.inl i=>.int i
 |.inr x=>.str x
section
variable{K:am}{O O':Zg}{R:Hp}
def qyn{k:bn}:Rp K R (kV k) (kD k):=by
 cases k with
 |inl i=>exact .int i
 |inr x=>exact .str x
theorem Rkk.length:∀{kvs:List (bn×V)} {gs:List (bn×D)},Rkk K R kvs gs->kvs.length=gs.length
 |_,_,.nil=>rfl
 |_,_,.cons _ r=>by rw[jy,jy,Rkk.length r]
theorem Rkk.keys:∀{kvs:List (bn×V)} {gs:List (bn×D)},Rkk K R kvs gs->kvs.map (·.1)=gs.map (·.1)
 |_,_,.nil=>rfl
 |_,_,.cons _ r=>by rw[x5,x5,Rkk.keys r]
theorem Rkk.snoc{k:bn}{v:V}{d:D}(r:Rp K R v d):∀{kvs:List (bn×V)} {gs:List (bn×D)},Rkk K R kvs gs->Rkk K R (kvs++[(k,v)]) (gs++[(k,d)])
 |_,_,.nil=>.cons r .nil
 |_,_,.cons h t=>.cons h (Rkk.snoc r t)
noncomputable def mQ(gs:List (bn×D))(k:Int):Option D:=(gs.find? λp=>decide (p.1=Sum.inl k)).map (·.2)
theorem Rkk.val{k:Int}{d:D}:∀{kvs:List (bn×V)} {gs:List (bn×D)},Rkk K R kvs gs->mQ gs k=some d->∃v,g9 kvs k=some v/\Rp K R v d
 |_,_,.nil,e=>by cases e
 | _,_,@Rkk.cons _ _ f x xs d' ds h t,e=>by
  unfold mQ at e;by_cases z:f=Sum.inl k
  .simp[List.find?_cons,z]at e;subst e;exact⟨x,by simp[g9,List.find?_cons,z],h⟩
  .simp[List.find?_cons,z]at e;obtain⟨v,h1,h2⟩:=Rkk.val t (by unfold mQ;simpa using e);exact⟨v,by rw[<-h1];simp[g9,List.find?_cons,z],h2⟩
theorem Rkk.get:∀{kvs:List (bn×V)} {gs:List (bn×D)} {i:Nat} {g:bn×D},Rkk K R kvs gs->gs[i]? =some g->∃v,kvs[i]? =some (g.1,v)
 |_,_,_,_,.nil,e=>by simp at e
 |_,_,0,_,.cons h _,e=>by simp at e;subst e;exact⟨_,rfl⟩
 | _,_,i+1,g,.cons _ t,e=>by obtain⟨v,h1⟩:=Rkk.get t (by simpa using e);exact⟨v,by simpa using h1⟩
def f6:D->D->Option D
 |.dct gs,.int k=>mQ gs k
 |_,_=>none
def Rp.isD{x:V}{gs:List (bn×D)}(h:Rp K R x (.dct gs)):∃a kvs,x=.ref a/\R a=some (.dK kvs)/\Rkk K R kvs gs:=by
 cases h with
 |dct h r=>exact⟨_,_,rfl,h,r⟩
def qtl:gY K rQ f6:=λH R x y d e u Q s rx ry q k=>by
 unfold f6 at q;split at q
 .rename_i gs i;obtain rfl:=ry.isI;obtain⟨a,kvs,rfl,h,r⟩:=rx.isD;let⟨v,h1,h2⟩:=r.val q;exact⟨a,kvs,i,v,rfl,rfl,s _ _ h,h1,k v H R (Ext.refl s) h2⟩
 .cases q
def ml:D->Option (List D)
 |.dct gs=>some (gs.map λg=>kD g.1)
 |_=>none
def m5(f:aF):aV:=bZ f λd=>dy (ml d)
def ql3{a:Addr}{kvs:List (bn×V)}{gs:List (bn×D)}(h:R a=some (.dK kvs))(r:Rkk K R kvs gs):ItOk K (oK a kvs.length) R (gs.map λg=>kD g.1):=λH' R' s b i=>by
 have q:=b _ _ (s _ _ h);refine⟨λe=>⟨kvs,q,rfl,by rw[ja]at e;rw[r.length];lia⟩,λd e=>?_⟩;rw[jo]at e;cases g0:gs[i]? with
 |none=>rw[g0]at e;cases e
 | some g=>
  rw[g0]at e;cases e;let⟨v,h1⟩:=r.get g0;refine⟨⟨kvs,_,q,rfl,h1⟩,λx H'' y=>?_⟩;obtain⟨rfl,y⟩:=y;have ex:=y kvs _ q h1;subst ex;exact⟨R',Ext.refl b,qyn⟩
def qkq{td:TE}{fd:aF}(h:ME K O td fd):MI K O (Es td) (m5 fd):=λZ J H R M ds M' Q S e k=>by
 let⟨d,M1,e1,e⟩:=bP e;obtain⟨e2,rfl⟩:=c7 e;refine h Z J H R M d _ _ S e1 λv H1 R1 S1 st1 r1=>?_;unfold ml at e2;split at e2
 .cases e2;obtain⟨a,kvs,rfl,q,r⟩:=r1.isD;exact⟨a,kvs,rfl,S1.sub _ _ q,k _ H1 R1 S1 st1 (ql3 q r)⟩
 .cases e2
def Gu{fd:aF}{M:az}:m5 fd M=(fd M).bind λp=>(ml p.1).map λx=>(x,p.2):=by
 unfold m5 bZ dy;cases fd M with
 |none=>rfl
 |some p=>cases h:ml p.1<;>simp[h]
end
section
variable{c:MC}{O O':Zg}{te ti:TE}{fe fi:aF}
noncomputable def mW(i:Nat):aH:=λM=>if i<M.length then some (.nx (M.set i (some (.dct []))))else none
def qpf{i:Nat}(hs:lP c i O O'=true):MS c O O' (fz D1 (gE i)) (mW i):=λZ E J H R M o hP S e k=>by
 unfold mW at e;unfold lP at hs;simp only[and_eq_true]at hs;split at e
 .rename_i zd;cases e;intro l hl;have S1:=S.ext (Ext.hid (o:=.dK []) S.sub hl);let⟨S2,s2⟩:=S1.sub' hP hs.1.1;have notown:∀j,j∈O->J[j]? ≠some (some (.ref l)):=S.notnew hl;have hO':∀j,j∈O'.filter (λj=>decide (j≠i))->j∈O:=λj hj=>by
   have z:=hs.1.1;unfold cT at z;simp only[and_eq_true,all_eq_true]at z;simpa using z.1 j hj
  refine k _ _ _ (S2.take (by simp) (by simpa using hs.1.2) (λj hj=>?_) (by rw[hP];simpa using hs.2) zd (S.new0 hl) cA ?_ (λj hj=>notown j (hO' j hj)) (λj hj=>(List.mem_filter.mp hj).1) (.dct .nil)) s2
  .by_cases z:j=i
   .exact .inl z
   .exact .inr (List.mem_filter.mpr ⟨hj,by simpa using z⟩)
  .unfold dk;rw[if_neg ?_]
   .exact S.out hl
   .rintro⟨j,hj,_,z⟩;exact notown j hj z
 .cases e
noncomputable def oY(gs:List (bn×D))(k:Int)(d:D):Option (List (bn×D)):=if gs.length<sizeLine/\(gs.all λg=>!decide (g.1=Sum.inl k))=true then some (gs++[(.inl k,d)])else none
def ql(i:Nat)(fe fi:aF):aH:=λM=>match fe M with
 |none=>none
 | some (d,M1)=>match fi M1 with
  | some (.int k,M2)=>match M2[i]? with
   | some (some (.dct gs))=>match oY gs k d with
    |some gs'=>some (.nx (M2.set i (some (.dct gs'))))
    |none=>none
   |_=>none
  |_=>none
def qpe{i:Nat}(hi:i∈O)(he:ME c.K O te fe)(hx:ME c.K O ti fi)(hs:cT c O O'=true):MS c O O' (fz te (og (dJ i) ti DN)) (ql i fe fi):=λZ E J H R M o hP S e k=>by
 unfold ql at e;cases e1:fe M with
 |none=>rw[e1]at e;cases e
 | some p=>
  obtain⟨d,M1⟩:=p;rw[e1]at e;dsimp only at e;cases e2:fi M1 with
  |none=>rw[e2]at e;cases e
  | some p=>
   obtain⟨x,M2⟩:=p;rw[e2]at e;refine he Z J H R M d M1 _ S e1 λv H1 R1 S1 st1 r1=>?_;obtain⟨l,vs,ds,h1,h2,h3,h4,h5⟩:=S1.own i hi;refine⟨.ref l,h2,hx Z J H1 R1 M1 x M2 _ S1 e2 λw H2 R2 S2 st2 r2=>?_⟩;obtain⟨l',vs',ds',g1,g2,g3,g4,g5⟩:=S2.own i hi;rw[h2]at g2;cases g2;cases r2 with
   | int j=>
    dsimp only at e;rw[g1]at e;cases g5 with
    |lst _=>cases e
    |dit _=>cases e
    |dct g5=>
    rename_i kvs gs;dsimp only at e;cases e3:oY gs j d with
    |none=>rw[e3]at e;cases e
    | some m=>
     rw[e3]at e;cases e;unfold oY at e3;split at e3
     .rename_i hz;cases e3;refine⟨l,kvs,j,rfl,rfl,g3,by rw[g5.length];exact hz.1,by
            unfold rY;rw[g5.keys];intro hm;obtain⟨g,hg,eg⟩:=List.mem_map.mp hm;have:=List.all_eq_true.mp hz.2 g hg;simp[eg]at this,?_⟩
      obtain⟨S3,s3⟩:=(S2.write hi h2 (.dct (g5.snoc (r1.mono st2.r)))).sub' hP hs;exact k J _ _ S3 ((st1.r.trans st2.r).trans s3)
     .cases e3
   |_=>cases e
def qqh{i:Nat}{M:az}(h:i<M.length):mW i M=some (.nx (M.set i (some (.dct [])))):=by unfold mW;rw[if_pos h]
def qqf{i:Nat}{M M1 M2:az}{d:D}{k:Int}{gs gs':List (bn×D)}(h1:fe M=some (d,M1))(h2:fi M1=some (.int k,M2))(h3:M2[i]? =some (some (.dct gs)))(h4:oY gs k d=some gs'):ql i fe fi M=some (.nx (M2.set i (some (.dct gs')))):=by unfold ql;simp only[h1,h2,h3,h4]
end
def qpl{K:am}{O:Zg}{ta:TE}{fa:aF}(h:ME K O ta fa):MN K O (DU K ta) (gz fa):=λZ J H R M ds M' Q S e k=>by
 let⟨x,M1,e1,e⟩:=bP e;obtain⟨e3,rfl⟩:=c7 e;refine h Z J H R M x _ _ S e1 λv H1 R1 S1 st1 r1=>?_;unfold iO at e3;split at e3
 .cases e3;obtain⟨b,xs,rfl,q,r⟩:=r1.isL;refine⟨b,xs,rfl,Same.sqL S1.sub q,λl hl=>?_⟩;have x:=Ext.hid (o:=.lst xs.reverse) S1.sub hl;exact k l xs.reverse _ _ (S1.ext x) (st1.trans x.stp) (st1.new hl) cA (S1.out hl) r.rev
 .cases e3
section
variable{X:Cx}{K:am}{O:Zg}{a:Expr}{ta:TE}{p p2 pos zl:Pos}{fa:aF}
noncomputable def kE(n:Int):List Int:=(List.range n.toNat).map λ(i:Nat)=>(i:Int)
def DW(ta:TE):TE:=λJ H Q=>ta J H λv H1=>∃n:Int,[v]=[V.int n]/\0<=n/\n<=1000000/\∀q,H1 q=none->Q (.ref q) (aM H1 q (.lst ((kE n).map V.int)))
def qjl{acc:Ze}{ns:Zf}(hl:acc.length=ns.length)(h:∀(i:Nat) (v:Value),acc[i]? =some v->∃t,v=Value.int (ns.getD i 0) t):Vals (ns.map V.int) acc:=by
 induction acc generalizing ns with
 | nil=>
  cases ns with
  |nil=>exact .nil
  |cons n ns=>simp at hl
 | cons v r ih=>
  cases ns with
  |nil=>simp at hl
  | cons n ns=>
   refine .cons ?_ (ih (by simpa using hl) λi w e=>?_)
   .let⟨t,e⟩:=h 0 v rfl;exact⟨t,e⟩
   .let⟨t,e⟩:=h (i+1) w (by simpa using e);exact⟨t,by simpa using e⟩
def qou(hc:X.calm=true)(hg:Gl X "list")(hm:X.mg "list"=none)(hg2:Gl X "range")(hm2:X.mg "range"=none)(ha:PE X a ta)(he2:starEach [a] X.env=(false,eval a X.env)::starEach [] X.env:=by rfl)(hpl2:(backTo pos (starEach [] X.env)).any (·.1)=false:=by rfl)
 (he:starEach [.Call (.Name "range" p) [a] [] pos] X.env=(false,eval (.Call (.Name "range" p) [a] [] pos) X.env)::starEach [] X.env:=by rfl) (hpl:(backTo zl (starEach [] X.env)).any (·.1)=false:=by rfl):
 PE X (.Call (.Name "list" p2) [.Call (.Name "range" p) [a] [] pos] [] zl) (DW ta):=by
 intro z5 s J H Q I h;refine k6 (iD I hg hm rfl ?_);refine PyProof.Rows.callWith_type1 ?_ he hpl;rw[he];refine vx ?_;refine k6 (iD I hg2 hm2 rfl ?_);refine PyProof.Rows.callWith_type1 (bf ((ak ha av he2) pos z5 s J H (λvs H1=>∃n:Int,vs=[V.int n]/\0<=n/\n<=1000000/\∀q,H1 q=none->Q (.ref q) (aM H1 q (.lst ((kE n).map V.int)))) I h) λus s1 h1=>?_) he2 hpl2;obtain⟨vs,H1,I1,r1,n,rfl,n0,n1,k⟩:=h1;obtain⟨u,rfl,ru⟩:=cj r1;obtain⟨t,rfl⟩:=ru;refine call_range_1 (Calls.spliced_nil ?_);have sz:Builtin.Range.rangeSize 0 n 1=(n.toNat:Int):=by rw[rangeSize_one];split<;>omega
 refine call_list_range (n := n.toNat) (I1.ok.hd hc) (IsRange.new ..) (small_one (by omega) (by omega) (by omega) (by omega)) sz (by have:(2:Nat)^24=16777216:=by decide
                                                                                                                                     omega) λh' tk acc c' kp e i=>?_
 have hf:H1 (s1.heap.push {cls:=.type "range",data:=.fields #[.int 0 s1.toks,.int n t,.int 1 (s1.toks+1)]}).objs.size=none:=I1.hok.fresh (by rw[xy];exact le_succ _);refine⟨.ref _,_,?_,rfl,k _ hf⟩;refine I1.laid (λb o eb=>kp b o (je _ eb)) (by rw[xy];exact le_succ _) ?_;have hsl:=kf;refine⟨by simp only[kE,List.length_map,length_range];omega,acc.toList,c',qjl (by have:=i.1;simp[kE];omega) λj v ev=>?_,by rw[e]⟩;have ev':acc[j]? =some v:=by simpa using ev
 let⟨t',e'⟩:=i.2 j v ev';have hj:j<n.toNat:=by have:=(Array.getElem?_eq_some_iff.mp ev').1;have:=i.1;omega
 refine⟨t',?_⟩;rw[e'];simp[kE,List.getD_eq_getElem?_getD,hj]
def iK:D->Option (List D)
 |.int n=>if 0<=n/\n<=1000000 then some ((kE n).map D.int)else none
 |_=>none
def qpk(h:ME K O ta fa):MN K O (DW ta) (gq iK fa):=λZ J H R M ds M' Q S e k=>by
 let⟨x,M1,e1,e⟩:=bP e;obtain⟨e3,rfl⟩:=c7 e;refine h Z J H R M x _ _ S e1 λv H1 R1 S1 st1 r1=>?_;unfold iK at e3;split at e3
 .rename_i n;split at e3
  .rename_i hn;cases e3;obtain rfl:=r1.isI;refine⟨n,rfl,hn.1,hn.2,λl hl=>?_⟩;have x:=Ext.hid (o:=.lst ((kE n).map V.int)) S1.sub hl;exact k l _ _ _ (S1.ext x) (st1.trans x.stp) (st1.new hl) cA (S1.out hl) (Rps.ints _)
  .cases e3
 .cases e3
end
end L2
namespace L2
open PySem
noncomputable def nB(q:Mv):D:=.tup [.int q.1,.int q.2]
def gX(ch:List Mv):D:=.lst (ch.map nB)
def gc(st:Sx):D:=.lst (st.map gX)
def gp(steps:List Sx):D:=.lst (steps.map gc)
def dR(t:Rw):D:=.lst (t.map bV)
def oQ(t:List Rw):D:=.lst (t.map dR)
noncomputable def iX{α:Type}(c:List (List α))(q:Int×α):List (List α):=c.set q.1.toNat (c.getD q.1.toNat []++[q.2])
theorem GR{α:Type}(j:Nat):∀(xs:List α) (c:List (List α)),j<c.length->((replicate xs.length (j:Int)).zip xs).foldl iX c=c.set j (c.getD j []++xs)
 | [],c,h=>by
  have e:c.set j (c.getD j []++[])=c:=by rw[append_nil,jl,jh h];exact List.set_getElem_self h
  rw[e];rfl
 | x::xs,c,h=>by
  have e1:((replicate (x::xs).length (j:Int)).zip (x::xs))=((j:Int),x)::(replicate xs.length (j:Int)).zip xs:=rfl;rw[e1,foldl_cons];have e2:iX c ((j:Int),x)=c.set j (c.getD j []++[x]):=by unfold iX;simp only[toNat_natCast]
  rw[e2,GR j xs _ (by rw[xn];exact h),List.set_set];congr 1;rw[jl,xl h];simp
theorem zN{α β:Type}:∀{xs:List α} {ys zs:List β},xs.length=ys.length->xs.zip (ys++zs)=xs.zip ys
 |[],[],_,_=>rfl
 | x::xs,y::ys,zs,h=>by rw[cons_append,List.zip_cons_cons,List.zip_cons_cons,zN (by simpa using h)]
 |[],_::_,_,h=>by simp at h
 |_::_,[],_,h=>by simp at h
section
variable{U:Zf}{G:Z9}{ts:List Told}
theorem GQ(N:Nat):∀j,j<=N->(bO U G j).length<=ts.length->((bO U G j).zip ts).foldl iX (replicate N [])=(List.range N).map λk=>if k<j then aQ U G ts k else []
 | 0,_,_=>by
  show replicate N []=_;apply ext_getElem?;intro i;by_cases h:i<N
  .rw[jo,k9 h,va,if_pos h];simp
  .rw[xj (by simp;lia),xj (by simp;lia)]
 | j+1,hj,hl=>by
  rw[uO]at hl;have eP:bO U G (j+1)=bO U G j++replicate (bS U G j).length (j:Int):=jC _ _;have lc:(aQ U G ts j).length=(bS U G j).length:=by unfold aQ;rw[xq,xx];lia
  have eT:ts=ts.take (bO U G j).length++(aQ U G ts j++(ts.drop (bO U G j).length).drop (bS U G j).length):=by unfold aQ;rw[take_append_drop,take_append_drop]
  have ez:(bO U G (j+1)).zip ts=(bO U G j).zip ts++(replicate (bS U G j).length (j:Int)).zip (aQ U G ts j):=by
   have h1:(bO U G j).length=(ts.take (bO U G j).length).length:=by rw[xq];lia
   have e1:(bO U G j).zip ts=(bO U G j).zip (ts.take (bO U G j).length):=by have:=zN (zs:=aQ U G ts j++(ts.drop (bO U G j).length).drop (bS U G j).length) h1;rw[<-eT]at this;exact this
   rw[e1,eP];have:=List.zip_append (r₁:=replicate (bS U G j).length (j:Int)) (r₂:=aQ U G ts j++(ts.drop (bO U G j).length).drop (bS U G j).length) h1;rw[<-eT]at this;rw[this,zN (by rw[x6,lc])]
  rw[ez,foldl_append,GQ N j (by lia) (by lia),<-lc,GR j _ _ (by simp;lia)];apply ext_getElem?;intro i;by_cases h:i<N
  .rw[jo,k9 h];by_cases q:j=i
   .subst q;rw[xl (by simp;lia)];rw[jl,jo,k9 h];simp
   .rw[jv q,jo,k9 h];simp only[map_some];congr 1;by_cases z:i<j
    .rw[if_pos z,if_pos (by lia)]
    .rw[if_neg z,if_neg (by lia)]
  .rw[xj (by simp;lia),xj (by simp;lia)]
def qgx(N:Nat)(hl:(bO U G N).length<=ts.length):((bO U G N).zip ts).foldl iX (replicate N [])=(List.range N).map (aQ U G ts):=by rw[GQ N N (jg _) hl];refine map_congr_left λk hk=>?_;rw[if_pos (List.mem_range.mp hk)]
end
def qbu{i:Nat}{fg:eM}{f:Fd}(d:D)(r:List D)(M:az)(dss:List (List D)):kN i fg f (d::r) M dss=match fg d M with
 | some M1=>if dq M1 i=true then(match f M1 dss with
  |some p=>kN i fg f r p.1 p.2
  |none=>none)else none
 |none=>none:=rfl
theorem GS{i a b:Nat}{fe:aF}{fs:aV}{α:Type}(dat obj:α->D)(M0:Option D->Option D->az)(hf:∀u v,dq (M0 u v) i=true)
 (hg:∀(k:Int) (t:α) (u v:Option D),(dU 2 (cg (ai a) (cg (ai b) eF))) (.tup [.int k,dat t]) (M0 u v)=some (M0 (some (.int k)) (some (dat t))))
 (he:∀(k:Int) (t:α),fe (M0 (some (.int k)) (some (dat t)))=some (.int k,M0 (some (.int k)) (some (dat t)))) (hs:∀(k:Int) (t:α),fs (M0 (some (.int k)) (some (dat t)))=some ([obj t],M0 (some (.int k)) (some (dat t)))):
 ∀(zs:List (Int×α)) (c:List (List α)) (u v:Option D),(∀q∈zs,0<=q.1/\q.1.toNat<c.length)->(∀g∈c,g.length+zs.length<sizeLine)->∃u' v',kN i (dU 2 (cg (ai a) (cg (ai b) eF))) (pB i fe fs) (zs.map λq=>D.tup [.int q.1,dat q.2]) (M0 u v) (c.map λg=>g.map obj)=some (M0 u' v',(zs.foldl iX c).map λg=>g.map obj)
 |[],c,u,v,_,_=>⟨u,v,rfl⟩
 | q::zs,c,u,v,hz,hc=>by
  let⟨z0,z1⟩:=hz q jj;have hq:=jh z1;have hp:qy (c.map λg=>g.map obj) q.1 (obj q.2)=some ((iX c q).map λg=>g.map obj):=by unfold qy;rw[if_pos z0,jo,hq];simp only[map_some];rw[if_pos (by rw[ja];have:=hc _ (ka z1);simp at this;lia)];unfold iX;rw[List.map_set,jl,hq];simp
  let⟨u',v',h⟩:=GS dat obj M0 hf hg he hs zs (iX c q) (some (.int q.1)) (some (dat q.2)) (λp hp=>by
   have:=hz p (ji _ hp);refine⟨this.1,?_⟩;unfold iX;rw[xn];exact this.2) (λg hg=>by
   rcases List.mem_or_eq_of_mem_set hg with h1|h1
   .have:=hc g h1;simp at this;lia
   .rw[h1,jl,hq];have:=hc _ (ka z1);simp at this ⊢;lia)
  refine⟨u',v',?_⟩;have step:pB i fe fs (M0 (some (.int q.1)) (some (dat q.2))) (c.map λg=>g.map obj)=some (M0 (some (.int q.1)) (some (dat q.2)),(iX c q).map λg=>g.map obj):=by unfold pB;rw[he q.1 q.2];simp only[hf,if_true];rw[hs q.1 q.2];simp only[hf,if_true,hp,map_some]
  rw[x5,foldl_cons,<-h,qbu,hg q.1 q.2 u v];simp only[hf,if_true,step]
def lh{a b:Int×List Int}(h:cR a b=true):cR b a=false:=ut a b b h (GT b)
abbrev Kr:=List (Option (Int×List Int))
section
variable(r:Int)(U:Zf)(G:Z9)(ts:List Told)
def Ic(k:Nat)(u:Zf):Int:=((range' 0 k).map λj=>gF (aQ U G ts j) (gg r.toNat U G 0 u j)).sum
end
section
variable{r:Int}{U:Zf}{G:Z9}{ts:List Told}{n:Nat}
structure qyv(k:Nat)(row:Kr):Prop where
 len:row.length=2^r.toNat
 is:∀(q:Nat) (p:Int×List Int),row[q]? =some (some p)->aC p.2/\p.2.length=k/\bi (2^r.toNat) 0 p.2=(q:Int)/\p.1=Ic r U G ts k p.2
 best:∀u:List Int,aC u->u.length=k->∃p,row[(bi (2^r.toNat) 0 u).toNat]? =some (some p)/\cR (Ic r U G ts k u,u) p=false
end
end L2
namespace L2
open PySem PySem.W PyProof.Rows
section
variable{α β:Type}{lt:Nat->Nat->Bool}{N n:Nat}{p:Array Nat}
structure Pm(n:Nat)(p:Array Nat):Prop where
 size:p.size=n
 perm:p.toList.Perm (List.range n)
def Pm.get(h:Pm n p){i:Nat}(hi:i<n):p[i]? =some (p.getD i 0):=by
 have:i<p.size:=by rw[h.size];exact hi
 rw[getElem?_eq_getElem this];simp[this]
def Pm.lo(h:Pm n p){i:Nat}(hi:i<n):p.getD i 0<n:=by
 have hm:p.getD i 0∈p.toList:=by have:=h.get hi;rw[<-Array.getElem?_toList]at this;exact kc this
 exact List.mem_range.mp (h.perm.mem_iff.mp hm)
def Pm.ne(h:Pm n p){i j:Nat}(hi:i<n)(hj:j<n)(ij:i≠j):p.getD i 0≠p.getD j 0:=λe=>by
 have a:=h.get hi;have b:=h.get hj;rw[<-Array.getElem?_toList]at a b;rw[e]at a;have li:i<p.toList.length:=by rw[length_toList,h.size];exact hi
 exact ij ((List.getElem?_inj li (h.perm.nodup_iff.mpr List.nodup_range)).mp (a.trans b.symm))
def Pm.of(h:Pm n p){q:Array Nat}(hq:q.Perm p):Pm n q:=⟨by rw[hq.size_eq];exact h.size,(Array.perm_iff_toList_perm.mp hq).trans h.perm⟩
def pk{q:Array Nat}{i j:Nat}(h:q[i]? =p[j]?):q.getD i 0=p.getD j 0:=by rw[Array.getD_eq_getD_getElem?,Array.getD_eq_getD_getElem?,h]
def Up(lt:Nat->Nat->Bool)(p:Array Nat)(m:Nat):Prop:=∀i j,i<j->j<m->lt (p.getD i 0) (p.getD j 0)=true
structure Ord(lt:Nat->Nat->Bool)(n:Nat):Prop where
 irr:∀a b,a<n->b<n->lt a b=true->lt b a=false
 tot:∀a b,a<n->b<n->a≠b->lt a b=false->lt b a=true
 tr:∀a b c,a<n->b<n->c<n->lt a b=true->lt b c=true->lt a c=true
end
end L2
namespace L2
open PySem PySem.Spec PyProof.Rows PySem.W
abbrev cE:=StateT SortSt Sem
section
variable{ρ:Model}{A:Around}{E:Z0}{s:Shared}{κ:SortKind}{el:Nat->Keyed}{N:Nat}{a b c:Array Nat}{p:Array (Nat×Nat×Nat)}{lo hi m n g:Nat}
def ck(ρ:Model)(A:Around)(E:Z0)(s:Shared)(κ:SortKind)(el:Nat->Keyed)(N:Nat):Prop:=
 ∀(x y:Nat) (st:SortSt) (Q:Option Bool->SortSt->Prop),x<N->y<N->kindOf st=κ->Q (some (decide (x<y))) st->wpS ρ A E s (lt' (el x) (el y)) Q st
noncomputable def mE(el:Nat->Keyed)(a:Array Nat):Array Keyed:=(a.toList.map el).toArray
def kJ:mE el a=a.map el:=by unfold mE;rw[<-Array.toList_map,Array.toArray_toList]
def sS(κ:SortKind)(el:Nat->Keyed)(a:Array Nat)(p:Array (Nat×Nat×Nat))(g:Nat):SortSt:=SortSt.mk' κ (mE el a) p g none
def qwb{i:Nat}(h:i<a.size):a[i]? =some (a.getD i 0):=by rw[getElem?_eq_getElem h];simp[h]
def zL{st:SortSt}{i:Nat}{Q:Keyed->SortSt->Prop}(hi:i<a.size)(h:Q (el (a.getD i 0)) st):wpS ρ A E s (elem' (mE el a) i) Q st:=by rw[elem'_eq,kJ,Array.getElem?_map,qwb hi];exact jf h
def mG(L:ck ρ A E s κ el N)(P:Pm N a){i j:Nat}{d:Bool}{Q:Option Bool->SortSt->Prop}(hi:i<N)(hj:j<N)(e:decide (a.getD i 0<a.getD j 0)=d)(h:Q (some d) (sS κ el a p g)):wpS ρ A E s (ltAt' i j) Q (sS κ el a p g):=by rw[ltAt'_eq];exact jc (wpS_get (jc (zL (by rw[P.size];exact hi) (jc (zL (by rw[P.size];exact hj) (L _ _ _ _ (P.lo hi) (P.lo hj) rfl (e▸h)))))))
def Gc{f:Nat->Keyed}{i j:Nat}:(a.map f).swapIfInBounds i j=(a.swapIfInBounds i j).map f:=by
 simp only[Array.swapIfInBounds_def,Array.size_map];split
 .split
  .apply Array.ext<;>simp[Array.getElem_swap,apply_ite f]
  .rfl
 .rfl
def Upr(a:Array Nat)(lo hi:Nat):Prop:=∀i j,lo<=i->i<j->j<hi->a.getD i 0<a.getD j 0
def Dnr(a:Array Nat)(lo hi:Nat):Prop:=∀i j,lo<=i->i<j->j<hi->a.getD j 0<a.getD i 0
structure Low(N lo:Nat)(a b:Array Nat):Prop where
 p:Pm N b
 o:∀i,i<lo->b.getD i 0=a.getD i 0
def Low.trans(h:Low N lo a b)(k:Low N lo b c):Low N lo a c:=⟨k.p,λi hi=>(k.o i hi).trans (h.o i hi)⟩
def Upr.snoc(u:Upr a lo hi)(h:a.getD (hi-1) 0<a.getD hi 0):Upr a lo (hi+1):=λi j i1 ij jn=>by
 by_cases q:j<hi
 .exact u i j i1 ij q
 .have e:j=hi:=by lia
  subst e;by_cases qi:i=j-1
  .rw[qi];exact h
  .exact lt_trans (u i (j-1) i1 (by lia) (by lia)) h
def Dnr.snoc(u:Dnr a lo hi)(h:a.getD hi 0<a.getD (hi-1) 0):Dnr a lo (hi+1):=λi j i1 ij jn=>by
 by_cases q:j<hi
 .exact u i j i1 ij q
 .have e:j=hi:=by lia
  subst e;by_cases qi:i=j-1
  .rw[qi];exact h
  .exact lt_trans h (u i (j-1) i1 (by lia) (by lia))
abbrev A2:=Option (Option Nat)×Nat
noncomputable def rA(lo _i:Nat)(r:A2):cE (ForInStep A2):=do
 let some x <-ltAt' (lo+r.2) (lo+r.2-1)|pure (.done (some none,r.2))
 if x then pure (.done (none,r.2))else pure (.yield (none,r.2+1))
def Fj(L:ck ρ A E s κ el N)(P:Pm N a)(h1:1<=n)(hn:n<=m)(hm:lo+m<=N)(u:Upr a lo (lo+n)){Q:A2->SortSt->Prop}
 (k:∀n',n<=n'->n'<=m->Upr a lo (lo+n')->(n'<m->a.getD (lo+n') 0<a.getD (lo+n'-1) 0)->Q (none,n') (sS κ el a p g)):wpS ρ A E s (forIn [n:m] ((none,n):A2) (rA lo)) Q (sS κ el a p g):=by
 refine xr (I:=λj c st=>st=sS κ el a p g/\c=(none,j)/\Upr a lo (lo+j)) ?_ ?_ ⟨rfl,rfl,u⟩
 .rintro j c st j1 j2 ⟨rfl,rfl,u⟩;by_cases c:a.getD (lo+j) 0<a.getD (lo+j-1) 0
  .exact jc (mG L P (by dsimp only;lia) (by dsimp only;lia) (decide_eq_true c) (jf (k j j1 (by lia) u λ_=>c)))
  .have:=P.ne (i:=lo+j) (j:=lo+j-1) (by lia) (by lia) (by lia);exact jc (mG L P (by dsimp only;lia) (by dsimp only;lia) (decide_eq_false c) (jf ⟨rfl,rfl,u.snoc (by lia)⟩))
 .rintro c st ⟨rfl,rfl,u⟩;rw[Nat.max_eq_right hn]at u ⊢;exact k m hn (jg _) u λz=>by lia
def qsu(P:Pm N a)(hn:lo+n<=N)(u:Dnr a lo (lo+n)){Q:Unit->SortSt->Prop}(k:∀b,Low N lo a b->Upr b lo (lo+n)->Q () (sS κ el b p g)):wpS ρ A E s (reverseSlice' lo (lo+n)) Q (sS κ el a p g):=by
 rw[reverseSlice'_eq];have z:lo+n<=a.size:=by rw[P.size];exact hn
 have h:=k (mirror a lo (lo+n) ((lo+n-lo) / 2)) ⟨P.of (mirror_perm _ _ _ _),λi hi=>pk (by rw[getElem?_mirror_all z,if_neg (by lia)])⟩ λi j i1 ij jn=>by have e:∀t,lo<=t->t<lo+n->(mirror a lo (lo+n) ((lo+n-lo) / 2)).getD t 0=a.getD (lo+(lo+n)-1-t) 0:=λt t1 t2=>pk (by rw[getElem?_mirror_all z,if_pos ⟨t1,t2⟩]);rw[e i i1 (by lia),e j (by lia) jn];exact u _ _ (by lia) (by lia) (by lia)
 apply ki;show Q () (SortSt.mk' _ (mirror (mE el a) lo (lo+n) ((lo+n-lo) / 2)) _ _ _);have e:∀d,mirror (mE el a) lo (lo+n) d=mE el (mirror a lo (lo+n) d):=λd=>by
  induction d with
  |zero=>rfl
  |succ d ih=>rw[mirror_succ,mirror_succ,ih,kJ,kJ,Gc]
 rw[e];exact h
def Ef(L:ck ρ A E s κ el N)(P:Pm N a)(h1:1<=m)(hm:lo+m<=N){Q:Option Nat->SortSt->Prop}
 (k:∀n b,1<=n->n<=m->Low N lo a b->Upr b lo (lo+n)->Q (some n) (sS κ el b p g)):wpS ρ A E s (countRun' lo m) Q (sS κ el a p g):=by
 rw[countRun'_eq];refine jc (Fj L P (jg 1) h1 hm (λi j i1 ij jn=>by lia) λn n1 n2 u stop=>?_);dsimp only;by_cases e:n=m
 .rw[if_pos (by rw[e];exact beq_self_eq_true _)];exact jf (k n a n1 n2 ⟨P,λ_ _=>rfl⟩ u)
 .rw[if_neg (by simpa using e)];by_cases e1:n>1
  .rw[if_pos e1];exact jc (mG L P (by lia) (by lia) (decide_eq_true (u lo (lo+n-1) (jg _) (by lia) (by lia))) (jf (k n a n1 n2 ⟨P,λ_ _=>rfl⟩ u)))
  .rw[if_neg e1];have e2:n=1:=by lia
   subst e2;refine jc (wpS_lift (k8 ⟨rfl,?_⟩));have st0:=stop (by lia);refine jc (xf (xr (I:=λj c st=>st=sS κ el a p g/\c=(none,j,0)/\Dnr a lo (lo+j)) (Q:=λc st=>st=sS κ el a p g/\∃n',c=(none,n',0)/\2<=n'/\n'<=m/\Dnr a lo (lo+n')) ?_ ?_ ⟨rfl,rfl,λi j i1 ij jn=>?_⟩) ?_)
   .rintro j c st j1 j2 ⟨rfl,rfl,u⟩;dsimp only;by_cases c:a.getD (lo+j) 0<a.getD (lo+j-1) 0
    .exact jc (mG L P (by lia) (by lia) (decide_eq_true c) (jf ⟨rfl,rfl,u.snoc c⟩))
    .have:=P.ne (i:=lo+j) (j:=lo+j-1) (by lia) (by lia) (by lia);exact jc (mG L P (by lia) (by lia) (decide_eq_false c) (jc (mG L P (by lia) (by lia) (decide_eq_true (by lia)) (jf ⟨rfl,j,rfl,by lia,by lia,u⟩))))
   .rintro c st ⟨rfl,rfl,u⟩;exact⟨rfl,_,rfl,by lia,by lia,u⟩
   .rw[show i=lo by lia,show j=lo+1 by lia];exact st0
   .rintro c st ⟨rfl,n',rfl,a1,a2,a3⟩;refine jc (qsu P (by lia) a3 λb lb u2=>?_);refine jc (Fj L lb.p (by lia) a2 hm u2 λn3 b1 b2 b3 _=>?_);exact jf (k n3 b (by lia) b2 lb b3)
theorem Fp:∀(a:Array Nat) (i d:Nat),bubble (mE el a) i d=mE el (bubble a i d)
 |a,i,0=>rfl
 |a,i,d+1=>by rw[bubble_succ,bubble_succ,Fp a i d,kJ,kJ,Gc]
def qx1(P:Pm N a){k l:Nat}(hk:lo+k<N)(hl:l<=k)(u:Upr a lo (lo+k))(p1:∀i,i<l->a.getD (lo+i) 0<a.getD (lo+k) 0)(p2:∀i,l<=i->i<k->a.getD (lo+k) 0<a.getD (lo+i) 0)
 {Q:Unit->SortSt->Prop} (h:∀b,Low N lo a b->Upr b lo (lo+(k+1))->Q () (sS κ el b p g)):wpS ρ A E s (moveDown' (lo+k) (lo+l)) Q (sS κ el a p g):=by
 rw[moveDown'_eq];have gb:=getElem?_bubble (by rw[P.size];exact hk) (lo+k-(lo+l)) (by lia);have q1:=h (bubble a (lo+k) (lo+k-(lo+l))) ⟨P.of (bubble_perm _ _ _),λi hi=>pk (by rw[gb,if_neg (by lia),if_neg (by lia)])⟩ λi j i1 ij jn=>by
  have e:∀t,(bubble a (lo+k) (lo+k-(lo+l))).getD t 0=if t=lo+l then a.getD (lo+k) 0 else if lo+l<t/\t<=lo+k then a.getD (t-1) 0 else a.getD t 0:=λt=>by
   have e:=gb t;rw[show lo+k-(lo+k-(lo+l))=lo+l by lia]at e;by_cases c1:t=lo+l
   .rw[if_pos c1]at e ⊢;exact pk e
   .rw[if_neg c1]at e ⊢;by_cases c2:lo+l<t/\t<=lo+k
    .rw[if_pos c2]at e ⊢;exact pk e
    .rw[if_neg c2]at e ⊢;exact pk e
  have r1:∀t,lo<=t->t<lo+l->a.getD t 0<a.getD (lo+k) 0:=λt t1 t2=>by
   have:=p1 (t-lo) (by lia)
   rwa [show lo+(t-lo)=t by lia]at this
  have r2:∀t,lo+l<=t->t<lo+k->a.getD (lo+k) 0<a.getD t 0:=λt t1 t2=>by
   have:=p2 (t-lo) (by lia) (by lia)
   rwa [show lo+(t-lo)=t by lia]at this
  rw[e i,e j]
  repeat' split
  all_goals first
   |(exfalso;lia)
   |exact r1 _ (by lia) (by lia)
   |exact r2 _ (by lia) (by lia)
   |exact u _ _ (by lia) (by lia) (by lia)
 refine ki ?_;show Q () (SortSt.mk' _ (bubble (mE el a) _ _) _ _ _);rw[Fp];exact q1
def Fm(L:ck ρ A E s κ el N)(P:Pm N a){ok:Nat}(h0:1<=ok)(hok:ok<=n)(hn:lo+n<=N)(u:Upr a lo (lo+ok)){Q:Bool->SortSt->Prop}
 (k:∀b,Low N lo a b->Upr b lo (lo+n)->Q true (sS κ el b p g)):wpS ρ A E s (binarySort' lo n ok) Q (sS κ el a p g):=by
 rw[binarySort'_eq];refine jc (xf (xr (I:=λi c st=>c=(none,())/\∃b,Low N lo a b/\Upr b lo (lo+i)/\st=sS κ el b p g) (Q:=λc st=>c=(none,())/\∃b,Low N lo a b/\Upr b lo (lo+n)/\st=sS κ el b p g) ?_ ?_ ⟨rfl,a,⟨P,λ_ _=>rfl⟩,by rw[Nat.max_eq_left h0];exact u,rfl⟩) ?_)
 .rintro i c st i1 hi ⟨rfl,b,lb,u,rfl⟩;refine jc (xf (xr (I:=λj c st=>st=sS κ el b p g/\∃l x,c=(none,l,x)/\l<=x/\x<=i/\x-l+j<=i/\(∀t,t<l->b.getD (lo+t) 0<b.getD (lo+i) 0)/\∀t,x<=t->t<i->b.getD (lo+i) 0<b.getD (lo+t) 0)
   (Q:=λc st=>st=sS κ el b p g/\∃l x,c=(none,l,x)/\l<=i/\(∀t,t<l->b.getD (lo+t) 0<b.getD (lo+i) 0)/\∀t,l<=t->t<i->b.getD (lo+i) 0<b.getD (lo+t) 0) ?_ ?_ ⟨rfl,0,i,rfl,by lia,by lia,by lia,λt ht=>by lia,λt t1 t2=>by lia⟩) ?_)
  .rintro j c st _ j2 ⟨rfl,l,x,rfl,lx,xi,hm,p1,p2⟩;dsimp only;by_cases q:l≥x
   .rw[if_pos q];exact jf ⟨rfl,l,x,rfl,by lia,p1,λt t1 t2=>p2 t (by lia) t2⟩
   .rw[if_neg q];have hh:(l+x) / 2<x:=by lia
    have hl:l<=(l+x) / 2:=by lia
    generalize (l+x) / 2=y at hh hl;by_cases c:b.getD (lo+i) 0<b.getD (lo+y) 0
    .refine jc (mG L lb.p (by lia) (by lia) (decide_eq_true c) (jf ⟨rfl,l,y,rfl,hl,by lia,by lia,p1,λt t1 t2=>?_⟩));rcases eq_or_lt_of_le t1 with rfl|t1
     .exact c
     .exact lt_trans c (u _ _ (by lia) (by lia) (by lia))
    .have dd:=lb.p.ne (i:=lo+i) (j:=lo+y) (by lia) (by lia) (by lia);refine jc (mG L lb.p (by lia) (by lia) (decide_eq_false c) (jf ⟨rfl,y+1,x,rfl,by lia,xi,by lia,λt t1=>?_,p2⟩));rcases eq_or_lt_of_le (Nat.le_of_lt_succ t1)with rfl|t1
     .lia
     .have:=u (lo+t) (lo+y) (by lia) (by lia) (by lia);lia
  .rintro c st ⟨rfl,l,x,rfl,lx,xi,hm,p1,p2⟩;exact⟨rfl,l,x,rfl,by lia,p1,λt t1 t2=>p2 t (by lia) t2⟩
  .rintro c st ⟨rfl,l,x,rfl,li,p1,p2⟩;exact jc (qx1 lb.p (by lia) li u p1 p2 λb3 l3 u3=>jf ⟨rfl,b3,lb.trans l3,u3,rfl⟩)
 .rintro c st ⟨rfl,b,lb,u,rfl⟩;rw[Nat.max_eq_left h0,Nat.max_eq_right hok]at u;exact⟨rfl,b,lb,u,rfl⟩
 .rintro c st ⟨rfl,b,lb,u,rfl⟩;exact jf (k b lb u)
end
noncomputable def fZ:Bool->Keyed->Array Keyed->Nat->Nat->Nat->cE (Option Nat):=sortPriv% PySem.Builtin.gallop
noncomputable def nZ:Array Keyed->Array Keyed->cE (Array Keyed):=sortPriv% PySem.Builtin.mergeLo
noncomputable def n9:Array Keyed->Array Keyed->cE (Array Keyed):=sortPriv% PySem.Builtin.mergeHi
section
variable{A B xs:Zg}{i j k u v:Nat}
noncomputable def mg(A B:Zg):List Nat:=A.merge B (λx y=>decide (x<=y))
def kO:mg A []=A:=List.merge_right _
def mD:mg [] B=B:=List.nil_merge _
def pq{x y:Nat}:mg (x::A) (y::B)=if x<=y then x::mg A (y::B)else y::mg (x::A) B:=by unfold mg;rw[List.cons_merge_cons];simp only[decide_eq_true_eq]
def uh(h:∀x∈xs,∀y∈B,x<y):mg (xs++A) B=xs++mg A B:=by
 induction xs with
 |nil=>rfl
 | cons x xs ih=>
  cases B with
  |nil=>rw[kO,kO]
  | cons y B=>
   rw[cons_append,pq,if_pos (le_of_lt (h x jj y jj)),ih λx hx=>h x (ji _ hx)];rfl
def ui(h:∀x∈xs,∀y∈A,x<y):mg A (xs++B)=xs++mg A B:=by
 induction xs with
 |nil=>rfl
 | cons x xs ih=>
  cases A with
  |nil=>rw[mD,mD]
  | cons y A=>
   rw[cons_append,pq,if_neg (Nat.not_le_of_lt (h x jj y jj)),ih λx hx=>h x (ji _ hx)];rfl
def qpo(h:∀x∈xs,∀y∈B,y<x):mg (A++xs) B=mg A B++xs:=by
 induction A generalizing B with
 | nil=>
  have:=ui (B:=[]) λy hy x hx=>h x hx y hy;rw[append_nil,kO]at this;rw[mD];exact this
 | cons a A ih=>
  induction B with
  |nil=>rw[kO,kO]
  | cons b B ihB=>
   rw[cons_append,pq,pq];split
   .rw[ih h];rfl
   .rw[<-cons_append,ihB λx hx y hy=>h x hx y (ji _ hy)];rfl
def FF(h:∀x∈xs,∀y∈A,y<x):mg A (B++xs)=mg A B++xs:=by
 induction A generalizing B with
 |nil=>rw[mD,mD]
 | cons a A ih=>
  induction B with
  | nil=>
   rw[kO];have:=uh (A:=[]) λy hy x hx=>h x hx y hy;rw[append_nil,mD]at this;exact this
  | cons b B ihB=>
   rw[cons_append,pq,pq];split
   .rw[<-cons_append,ih λx hx y hy=>h x hx y (ji _ hy)];rfl
   .rw[ihB];rfl
def mg_perm:(mg A B).Perm (A++B):=List.merge_perm_append _
noncomputable def sg(A:Zg)(i j:Nat):List Nat:=(A.drop i).take (j-i)
def lA(ij:i<=j)(jk:j<=k):sg A i k=sg A i j++sg A j k:=by unfold sg;rw[show k-i=(j-i)+(k-j)by lia,take_add,drop_drop,show i+(j-i)=j by lia]
def pi(h:i<A.length):sg A i (i+1)=[A.getD i 0]:=by unfold sg;rw[Nat.add_sub_cancel_left,vf h,List.take_succ_cons,List.take_zero];simp[h]
def fH{x:Nat}(h:x∈sg A i j):∃t,i<=t/\t<j/\t<A.length/\x=A.getD t 0:=by unfold sg at h;let⟨t,ht,e⟩:=List.getElem_of_mem h;simp at ht e;exact⟨i+t,by lia,by lia,by lia,by rw[<-e];simp[show i+t<A.length by lia]⟩
def pf:sg A 0 A.length=A:=by unfold sg;simp
def E7:sg A i i=[]:=by unfold sg;simp
def Srt(l:Zg):Prop:=∀i j,i<j->j<l.length->l.getD i 0<l.getD j 0
def qv6(ha:Srt A)(hb:Srt B)(hd:∀x∈A,x∉B):Srt (mg A B):=by
 have cv:∀{l:Zg},Srt l->l.Pairwise (·<= ·):=λ{l} h=>List.pairwise_iff_getElem.mpr λi j hi hj ij=>by have:=h i j ij hj;simp[hi,hj]at this;lia
 have nd:∀{l:Zg},Srt l->l.Nodup:=λ{l} h=>List.pairwise_iff_getElem.mpr λi j hi hj ij e=>by have:=h i j ij hj;simp[hi,hj]at this;lia
 have s:(mg A B).Pairwise λx y=>decide (x<=y)=true:=List.pairwise_merge (λx y z h1 h2=>by simp at*;lia) (λx y=>by simp;lia) _ _ ((cv ha).imp λh=>by simpa using h) ((cv hb).imp λh=>by simpa using h);have n:=mg_perm.nodup_iff.mpr (List.nodup_append.mpr ⟨nd ha,nd hb,λx hx y hy e=>hd x hx (e▸hy)⟩);intro i j ij hj;have h1:=List.pairwise_iff_getElem.mp s i j (by lia) hj ij;have h2:=List.pairwise_iff_getElem.mp n i j (by lia) hj ij;simp[hj,show i<(mg A B).length by lia]at h1 h2 ⊢;lia
def Ho{n:Nat}(h:Srt A)(p:A.Perm (List.range n)):A=List.range n:=by
 have hl:A.length=n:=by rw[p.length_eq,length_range]
 have lo:∀i,i<n->i<=A.getD i 0:=λi=>by
  induction i with
  |zero=>intro _;lia
  | succ i ih=>
   intro hi;have:=ih (by lia);have:=h i (i+1) (by lia) (by lia);lia
 have hi:∀d i,i+d+1=n->A.getD i 0+d<n:=λd=>by
  induction d with
  | zero=>
   intro i e;have:A.getD i 0∈A:=by simp[show i<A.length by lia]
   have:=List.mem_range.mp (p.mem_iff.mp this);lia
  | succ d ih=>
   intro i e;have:=ih (i+1) (by lia);have:=h i (i+1) (by lia) (by lia);lia
 apply ext_getElem (by rw[hl,length_range]);intro i h1 h2;have a1:=lo i (by lia);have a2:=hi (n-1-i) i (by lia);simp[h1]at a1 a2 ⊢;lia
end
section
variable{ρ:Model}{A':Around}{E:Z0}{s:Shared}{κ:SortKind}{el:Nat->Keyed}{N:Nat}{A B:Zg}{st:SortSt}
noncomputable def zE(el:Nat->Keyed)(l:Zg):Array Keyed:=(l.map el).toArray
def fJ{i:Nat}{Q:Keyed->SortSt->Prop}(hi:i<A.length)(h:Q (el (A.getD i 0)) st):wpS ρ A' E s (elem' (zE el A) i) Q st:=by rw[elem'_eq,show(zE el A)[i]? =some (el (A.getD i 0))by unfold zE;simp[hi]];exact jf h
noncomputable def uV(l:Bool)(key:Keyed)(arr:Array Keyed)(base i:Nat):cE (Option Bool):=do
 let x <-elem' arr (base+i)
 if l then lt' x key else return(<-lt' key x).map (!·)
def Di(l:Bool)(key:Keyed)(arr:Array Keyed)(base n x0 v0:Nat):cE (Option Nat):=do
 let mut x:=x0
 let mut v:=v0
 for _ in [0:n] do
  if x≥v then break
  let c:=x+(v-x) / 2
  let some more <-uV l key arr base c|return none
  if more then x:=c+1 else v:=c
 return some v
def BD{l:Bool}{key:Keyed}{arr:Array Keyed}{base n h:Nat}{bb:Nat->Bool}{Q:Option Nat->SortSt->Prop}
 (hb:∀i,i<n->∀Q:Option Bool->SortSt->Prop,Q (some (bb i)) st->wpS ρ A' E s (uV l key arr base i) Q st)
 (mono:∀i j,i<j->j<n->bb j=true->bb i=true) (hh:h<n)
 (k:∀k,k<=n->(∀i,i<k->bb i=true)->(∀i,k<=i->i<n->bb i=false)->Q (some k) st):wpS ρ A' E s (fZ l key arr base n h) Q st:=by
 have dn:∀i j,i<=j->j<n->bb j=true->bb i=true:=λi j ij jn hj=>by
  rcases eq_or_lt_of_le ij with rfl|ij
  .exact hj
  .exact mono i j ij jn hj
 have up:∀i j,i<=j->j<n->bb i=false->bb j=false:=λi j ij jn hi=>by
  cases e:bb j with
  |false=>rfl
  |true=>rw[dn i j ij jn e]at hi;cases hi
 refine jc (hb h hh _ ?_);dsimp only;have last:∀x v,x<=v->v<=n->(∀i,i<x->bb i=true)->(∀i,v<=i->i<n->bb i=false)->wpS ρ A' E s (Di l key arr base n x v) Q st:=λx v xv vn hx hv=>by
  unfold Di;dsimp only;refine jc (xf (xr (I:=λi (c:Option (Option Nat)×Nat×Nat) st'=>st'=st/\c.1=none/\c.2.1<=c.2.2/\c.2.2<=n/\c.2.2-c.2.1+i<=n/\(∀i,i<c.2.1->bb i=true)/\(∀i,c.2.2<=i->i<n->bb i=false))
   (Q:=λc st'=>st'=st/\c.1=none/\c.2.2<=n/\(∀i,i<c.2.2->bb i=true)/\(∀i,c.2.2<=i->i<n->bb i=false)) ?_ ?_ ⟨rfl,rfl,xv,vn,by show v-x+0<=n;lia,hx,hv⟩) ?_)
  .rintro i ⟨r,x,v⟩ _ _ hi ⟨rfl,rfl,xv,vn,hm,hx,hv⟩;dsimp only at xv vn hm hx hv ⊢;by_cases q:x≥v
   .rw[if_pos q];exact jf ⟨rfl,rfl,vn,λi hi=>hx i (by dsimp only at hi;lia),hv⟩
   .rw[if_neg q];have cn:x+(v-x) / 2<n:=by lia
    refine jc (hb _ cn _ ?_);dsimp only;cases e:bb (x+(v-x) / 2)with
    | true=>
     rw[if_pos rfl];exact jf ⟨rfl,rfl,by dsimp only;lia,vn,by dsimp only;lia,λi hi=>dn _ _ (Nat.le_of_lt_succ hi) cn e,hv⟩
    | false=>
     rw[if_neg Bool.false_ne_true];exact jf ⟨rfl,rfl,by dsimp only;lia,by dsimp only;lia,by dsimp only;lia,hx,λi hi hn=>up _ _ hi hn e⟩
  .rintro⟨r,x,v⟩ _ ⟨rfl,rfl,xv,vn,hm,hx,hv⟩;dsimp only at xv vn hm hx hv ⊢;exact⟨rfl,rfl,vn,λi hi=>hx i (by lia),hv⟩
  .rintro⟨r,x,v⟩ _ ⟨rfl,rfl,vn,hx,hv⟩;exact jf (k v vn hx hv)
 cases e:bb h with
 | true=>
  rw[if_pos rfl];refine jc (xf (xr (I:=λi (c:Option (Option Nat)×Nat×Nat) st'=>st'=st/\c.1=none/\c.2.1<c.2.2/\h+c.2.1<n/\i<c.2.2/\bb (h+c.2.1)=true)
   (Q:=λc st'=>st'=st/\c.1=none/\c.2.1<c.2.2/\h+c.2.1<n/\bb (h+c.2.1)=true/\(h+c.2.2<n->bb (h+c.2.2)=false)) ?_ ?_ ⟨rfl,rfl,zero_lt_one,hh,zero_lt_one,e⟩) ?_)
  .rintro i ⟨r,y,z⟩ _ _ hi ⟨rfl,rfl,yz,yn,iz,hy⟩;dsimp only at yz yn iz hy ⊢;by_cases q:z≥n-h
   .rw[if_pos q];exact jf ⟨rfl,rfl,yz,yn,hy,λz=>by dsimp only at z;lia⟩
   .rw[if_neg q];refine jc (hb _ (by lia) _ ?_);dsimp only;cases e:bb (h+z)with
    |true=>exact jf ⟨rfl,rfl,by dsimp only;lia,by dsimp only;lia,by dsimp only;lia,e⟩
    |false=>exact jf ⟨rfl,rfl,yz,yn,hy,λ_=>e⟩
  .rintro⟨r,y,z⟩ _ ⟨rfl,rfl,yz,yn,iz,hy⟩;exact⟨rfl,rfl,yz,yn,hy,λz=>by dsimp only at z iz;lia⟩
  .rintro⟨r,y,z⟩ _ ⟨rfl,rfl,yz,yn,hy,hz⟩;dsimp only at yz yn hy hz ⊢;exact last (h+y+1) (h+min z (n-h)) (by lia) (by lia) (λi hi=>dn _ _ (Nat.le_of_lt_succ hi) yn hy) λi hi hn=>up (h+z) _ (by lia) hn (hz (by lia))
 | false=>
  rw[if_neg Bool.false_ne_true];refine jc (xf (xr (I:=λi (c:Option (Option Nat)×Nat×Nat) st'=>st'=st/\c.1=none/\c.2.1<c.2.2/\c.2.1<=h/\i<c.2.2/\bb (h-c.2.1)=false)
   (Q:=λc st'=>st'=st/\c.1=none/\c.2.1<c.2.2/\c.2.1<=h/\bb (h-c.2.1)=false/\(c.2.2<=h->bb (h-c.2.2)=true)) ?_ ?_ ⟨rfl,rfl,zero_lt_one,zero_le _,zero_lt_one,e⟩) ?_)
  .rintro i ⟨r,y,z⟩ _ _ hi ⟨rfl,rfl,yz,yn,iz,hy⟩;dsimp only at yz yn iz hy ⊢;by_cases q:z≥h+1
   .rw[if_pos q];exact jf ⟨rfl,rfl,yz,yn,hy,λz=>by dsimp only at z;lia⟩
   .rw[if_neg q];refine jc (hb _ (by lia) _ ?_);dsimp only;cases e:bb (h-z)with
    |false=>exact jf ⟨rfl,rfl,by dsimp only;lia,by dsimp only;lia,by dsimp only;lia,e⟩
    |true=>exact jf ⟨rfl,rfl,yz,yn,hy,λ_=>e⟩
  .rintro⟨r,y,z⟩ _ ⟨rfl,rfl,yz,yn,iz,hy⟩;exact⟨rfl,rfl,yz,yn,hy,λz=>by dsimp only at z iz;lia⟩
  .rintro⟨r,y,z⟩ _ ⟨rfl,rfl,yz,yn,hy,hz⟩;dsimp only at yz yn hy hz ⊢;exact last (h+1-min z (h+1)) (h-y) (by lia) (by lia) (λi hi=>dn _ (h-z) (by lia) (by lia) (hz (by lia))) λi hi hn=>up _ _ hi hn hy
def xD(L:ck ρ A' E s κ el N){l:Bool}{x base n h:Nat}{Q:Option Nat->SortSt->Prop}(hk:kindOf st=κ)(xN:x<N)(hn:base+n<=A.length)(aN:∀i,i<A.length->A.getD i 0<N)(ax:∀i,base<=i->i<base+n->A.getD i 0≠x)(hA:∀i j,base<=i->i<j->j<base+n->A.getD i 0<A.getD j 0)(hh:h<n)
 (k:∀k,k<=n->(∀i,base<=i->i<base+k->A.getD i 0<x)->(∀i,base+k<=i->i<base+n->x<A.getD i 0)->Q (some k) st):wpS ρ A' E s (fZ l (el x) (zE el A) base n h) Q st:=by
 have hb:∀i,i<n->∀Q:Option Bool->SortSt->Prop,Q (some (decide (A.getD (base+i) 0<x))) st->wpS ρ A' E s (uV l (el x) (zE el A) base i) Q st:=λi hi Q q=>by
  have:=aN (base+i) (by lia);have:=ax (base+i) (by lia) (by lia);refine jc (fJ (by lia) ?_);cases l with
  |true=>exact L _ _ _ _ (by lia) xN hk q
  | false=>
   refine jc (L _ _ _ _ xN (by lia) hk (jf ?_));rw[show decide (A.getD (base+i) 0<x)= !decide (x<A.getD (base+i) 0)by rw[Bool.eq_iff_iff];simp only[decide_eq_true_eq,not_eq_true',decide_eq_false_iff_not];lia]at q;exact q
 have mono:∀i j,i<j->j<n->decide (A.getD (base+j) 0<x)=true->decide (A.getD (base+i) 0<x)=true:=λi j ij jn e=>by have:=hA (base+i) (base+j) (by lia) (by lia) (by lia);simp only[decide_eq_true_eq]at e ⊢;lia
 replace k:∀k,k<=n->(∀i,i<k->decide (A.getD (base+i) 0<x)=true)->(∀i,k<=i->i<n->decide (A.getD (base+i) 0<x)=false)->Q (some k) st:=λm mn h1 h2=>k m mn (λi i1 i2=>by
  have:=h1 (i-base) (by lia);rw[show base+(i-base)=i by lia]at this;exact of_decide_eq_true this) λi i1 i2=>by
  have:=h2 (i-base) (by lia) (by lia);rw[show base+(i-base)=i by lia]at this;have:=of_decide_eq_false this;have:=ax i (by lia) i2;lia
 exact BD hb mono hh k
def tY(L:ck ρ A' E s κ el N){l:Bool}{x base n h:Nat}{Q:Option Nat->SortSt->Prop}(hk:kindOf st=κ)(xN:x<N)(hn:base+n<=A.length)(aN:∀i,i<A.length->A.getD i 0<N)(ax:∀i,base<=i->i<base+n->A.getD i 0≠x)(hA:Srt A)(hh:h<n)
 (k:∀k,k<=n->(∀i,base<=i->i<base+k->A.getD i 0<x)->(∀i,base+k<=i->i<base+n->x<A.getD i 0)->Q (some k) st):wpS ρ A' E s (fZ l (el x) (zE el A) base n h) Q st:=
 xD L hk xN hn aN ax (λi j _ ij jn=>hA i j ij (by lia)) hh k
end
section
variable{ρ:Model}{A':Around}{E:Z0}{s:Shared}{κ:SortKind}{el:Nat->Keyed}{N:Nat}{A B zs:Zg}{a:Array Nat}{p:Array (Nat×Nat×Nat)}{g i j k u v:Nat}
def uv:(zE el A).size=A.length:=by unfold zE;simp
def m9:zE el zs++(zE el A).extract i j=zE el (zs++sg A i j):=by apply ext';unfold zE sg;rw[toList_append,Array.toList_extract,List.extract_eq_drop_take];simp
def mJ{x:Nat}:(zE el zs).push (el x)=zE el (zs++[x]):=by unfold zE;simp
def Srt.le(h:Srt A)(ij:i<=j)(hj:j<A.length):A.getD i 0<=A.getD j 0:=by
 rcases eq_or_lt_of_le ij with rfl|ij
 .exact jg _
 .exact le_of_lt (h i j ij hj)
structure Two(N:Nat)(A B:Zg):Prop where
 sa:Srt A
 sb:Srt B
 na:∀i,i<A.length->A.getD i 0<N
 nb:∀i,i<B.length->B.getD i 0<N
 d:∀i j,i<A.length->j<B.length->A.getD i 0≠B.getD j 0
 za:0<A.length
 zb:0<B.length
 fst:B.getD 0 0<A.getD 0 0
 lst:∀j,j<B.length->B.getD j 0<A.getD (A.length-1) 0
def Lo(A B zs:Zg)(u v:Nat):Prop:=mg A B=zs++mg (sg A u A.length) (sg B v B.length)
def Lo.mvA(h:Lo A B zs u v)(uk:u+k<=A.length)(c:∀i,u<=i->i<u+k->∀j,v<=j->j<B.length->A.getD i 0<B.getD j 0):Lo A B (zs++sg A u (u+k)) (u+k) v:=by unfold Lo at*;rw[h,lA (Nat.le_add_right u k) uk,uh λx hx y hy=>?_,List.append_assoc];obtain⟨i,i1,i2,i3,rfl⟩:=fH hx;obtain⟨j,j1,j2,j3,rfl⟩:=fH hy;exact c i i1 i2 j j1 j3
def Lo.mvB(h:Lo A B zs u v)(uk:v+k<=B.length)(c:∀j,v<=j->j<v+k->∀i,u<=i->i<A.length->B.getD j 0<A.getD i 0):Lo A B (zs++sg B v (v+k)) u (v+k):=by unfold Lo at*;rw[h,lA (Nat.le_add_right v k) uk,ui λx hx y hy=>?_,List.append_assoc];obtain⟨i,i1,i2,i3,rfl⟩:=fH hx;obtain⟨j,j1,j2,j3,rfl⟩:=fH hy;exact c i i1 i2 j j1 j3
def Lo.end1(h:Lo A B zs u v)(e:v=B.length):zE el zs++(zE el A).extract u A.length++(zE el B).extract v B.length=zE el (mg A B):=by unfold Lo at h;rw[m9,m9,h,e,E7,kO,append_nil]
def Lo.end2(T:Two N A B)(h:Lo A B zs u v)(e:u+1=A.length):zE el zs++(zE el B).extract v B.length++(zE el A).extract u A.length=zE el (mg A B):=by
 unfold Lo at h;have:=ui (A:=sg A u A.length) (B:=[]) (xs:=sg B v B.length) λx hx y hy=>by obtain⟨i,i1,i2,i3,rfl⟩:=fH hx;obtain⟨j,j1,j2,j3,rfl⟩:=fH hy;rw[show j=A.length-1 by lia];exact T.lst i i3
 rw[append_nil,kO]at this;rw[m9,m9,h,this,List.append_assoc]
def Lg(κ:SortKind)(el:Nat->Keyed)(a:Array Nat)(p:Array (Nat×Nat×Nat))(A B:Zg)(m:Nat)(z:Array Keyed)(u v:Nat)(st:SortSt):Prop:=
 (∃g,st=sS κ el a p g)/\∃zs,z=zE el zs/\Lo A B zs u v/\u+1<A.length/\v<B.length/\m<=u+v
def Dn'(κ:SortKind)(el:Nat->Keyed)(a:Array Nat)(p:Array (Nat×Nat×Nat))(A B:Zg)(m:Nat)(r:Option (Array Keyed))(z:Array Keyed)(u v:Nat)(st:SortSt):Prop:=
 (r=some (zE el (mg A B))/\∃g,st=sS κ el a p g)∨r=none/\Lg κ el a p A B m z u v st
def Lg.le{m m':Nat}{z:Array Keyed}{st:SortSt}(mm:m'<=m)(h:Lg κ el a p A B m z u v st):Lg κ el a p A B m' z u v st:=by obtain⟨h0,zs,hz,h1,h2,h3,h4⟩:=h;exact⟨h0,zs,hz,h1,h2,h3,by lia⟩
def Lo.lg{m:Nat}(h:Lo A B zs u v)(hu:u+1<A.length)(hv:v<B.length)(hm:m<=u+v):Lg κ el a p A B m (zE el zs) u v (sS κ el a p g):=⟨⟨g,rfl⟩,zs,rfl,h,hu,hv,hm⟩
abbrev Tu(β:Type):=Option (Array Keyed)×Array Keyed×Nat×Nat×β
abbrev T7:=Tu (Nat×Nat×Nat)
abbrev T6:=Tu (Nat×Nat)
abbrev T5:=Tu Nat
noncomputable def Ap(a b z:Array Keyed)(m n u v w p q:Nat):cE (ForInStep T7):=do
 let x <-elem' a u
 if u+1+1==m then pure (.done (some (z.push x++b.extract v n++a.extract (u+1) m),z.push x,u+1,v,w,p,q))
 else if p<7&&q<7 then pure (.done (none,z.push x,u+1,v,w,p,q))else pure (.yield (none,z.push x,u+1,v,w,p,q))
def Aq(a b z:Array Keyed)(m n u v w p:Nat)(q:Nat):cE (ForInStep T7):=do
 let x <-elem' b v
 if v+1==n then pure (.done (some (z.push x++a.extract u m++b.extract (v+1) n),z.push x,u,v+1,w,p,q))
 else
  let some k <-fZ true (<-elem' a u) b (v+1) (n-(v+1)) 0|pure (.done (some (z.push x++a.extract u m++b.extract (v+1) n),z.push x,u,v+1,w,p,q))
  if k>0 then
   if v+1+k==n then pure (.done (some (z.push x++b.extract (v+1) (v+1+k)++a.extract u m++b.extract (v+1+k) n),z.push x++b.extract (v+1) (v+1+k),u,v+1+k,w,p,k))
   else Ap a b (z.push x++b.extract (v+1) (v+1+k)) m n u (v+1+k) w p k
  else Ap a b (z.push x) m n u (v+1) w p k
noncomputable def s9(g:Nat):cE Unit:=modify λs=>SortSt.mk' (kindOf s) (arrOf s) (pendingOf s) g (failedOf s)
def Ar(a b z:Array Keyed)(m n u v w p q:Nat):cE (ForInStep T7):=do
 s9 w
 let some k <-fZ false (<-elem' b v) a u (m-u) 0|pure (.done (some (z++a.extract u m++b.extract v n),z,u,v,w,p,q))
 if k>0 then
  if u+k+1==m then pure (.done (some (z++a.extract u (u+k)++b.extract v n++a.extract (u+k) m),z++a.extract u (u+k),u+k,v,w,k,q))
  else if u+k==m then pure (.done (some (z++a.extract u (u+k)++a.extract (u+k) m++b.extract v n),z++a.extract u (u+k),u+k,v,w,k,q))
  else Aq a b (z++a.extract u (u+k)) m n (u+k) v w k q
 else Aq a b z m n u v w k q
def Ao(a b:Array Keyed)(m n _i:Nat)(r:T7):cE (ForInStep T7):=
 if r.2.2.2.2.1>1 then Ar a b r.2.1 m n r.2.2.1 r.2.2.2.1 (r.2.2.2.2.1-1) r.2.2.2.2.2.1 r.2.2.2.2.2.2
 else Ar a b r.2.1 m n r.2.2.1 r.2.2.2.1 r.2.2.2.2.1 r.2.2.2.2.2.1 r.2.2.2.2.2.2
noncomputable def Ii(a b z:Array Keyed)(m n w u v p q:Nat)(c:Bool):cE (ForInStep T6):=do
 if c then
  let x <-elem' b v
  if v+1==n then pure (.done (some (z.push x++a.extract u m++b.extract (v+1) n),z.push x,u,v+1,0,q+1))
  else if q+1≥w then pure (.done (none,z.push x,u,v+1,0,q+1))else pure (.yield (none,z.push x,u,v+1,0,q+1))
 else
  let x <-elem' a u
  if u+1+1==m then pure (.done (some (z.push x++b.extract v n++a.extract (u+1) m),z.push x,u+1,v,p+1,0))
  else if p+1≥w then pure (.done (none,z.push x,u+1,v,p+1,0))else pure (.yield (none,z.push x,u+1,v,p+1,0))
def Ij(a b:Array Keyed)(m n w _i:Nat)(r:T6):cE (ForInStep T6):=do
 let some c <-lt' (<-elem' b r.2.2.2.1) (<-elem' a r.2.2.1)|pure (.done (some (r.2.1++a.extract r.2.2.1 m++b.extract r.2.2.2.1 n),r.2.1,r.2.2.1,r.2.2.2.1,r.2.2.2.2.1,r.2.2.2.2.2))
 Ii a b r.2.1 m n w r.2.2.1 r.2.2.2.1 r.2.2.2.2.1 r.2.2.2.2.2 c
noncomputable def An{β:Type}(q:Tu β)(w:Nat)(f:cE (ForInStep T5)):cE (ForInStep T5):=Break.runK.match_1 (motive:=λ_=>cE (ForInStep T5)) q.1 (λx=>pure (.done (some x,q.2.1,q.2.2.1,q.2.2.2.1,w))) λ_=>f
def Ih(q:T7):cE (ForInStep T5):=do
 s9 (q.2.2.2.2.1+1)
 pure (.yield (none,q.2.1,q.2.2.1,q.2.2.2.1,q.2.2.2.2.1+1))
def Ie(a b:Array Keyed)(m n w:Nat)(r:T6):cE (ForInStep T5):=do
 rule "list.sort.gallop"
 let q <-forIn [0:m+n] ((none,r.2.1,r.2.2.1,r.2.2.2.1,w+1,r.2.2.2.2.1,r.2.2.2.2.2):T7) (Ao a b m n)
 An q q.2.2.2.2.1 (Ih q)
def Ig(a b:Array Keyed)(m n _i:Nat)(s:T5):cE (ForInStep T5):=do
 let r <-forIn [0:m+n] ((none,s.2.1,s.2.2.1,s.2.2.2.1,0,0):T6) (Ij a b m n s.2.2.2.2)
 An r s.2.2.2.2 (Ie a b m n s.2.2.2.2 r)
def loM(a b:Array Keyed)(m n:Nat):cE (Array Keyed):=do
 rule "list.sort.merge-lo"
 let x <-elem' b 0
 if 1==n then pure (#[x]++a.extract 0 m++b.extract 1 n)
 else if 0+1==m then pure (#[x]++b.extract 1 n++a.extract 0 m)
 else
  let g <-get
  let r <-forIn [0:m+n] ((none,#[x],0,1,gallopOf g):T5) (Ig a b m n)
  Break.runK.match_1 (motive:=λ_=>cE (Array Keyed)) r.1 (λr=>pure r) λ_=>unsupported "internal:list.sort.merge-bound"
def qv2(a b:Array Keyed):nZ a b=loM a b a.size b.size:=rfl
variable{β:Type}
def Yl(κ:SortKind)(el:Nat->Keyed)(a:Array Nat)(p:Array (Nat×Nat×Nat))(A B:Zg)(m:Nat)(c:Tu β)(st:SortSt):Prop:=c.1=none/\Lg κ el a p A B m c.2.1 c.2.2.1 c.2.2.2.1 st
def Dl(κ:SortKind)(el:Nat->Keyed)(a:Array Nat)(p:Array (Nat×Nat×Nat))(A B:Zg)(m:Nat)(c:Tu β)(st:SortSt):Prop:=Dn' κ el a p A B m c.1 c.2.1 c.2.2.1 c.2.2.2.1 st
def Pl(κ:SortKind)(el:Nat->Keyed)(a:Array Nat)(p:Array (Nat×Nat×Nat))(A B:Zg)(m m':Nat)(r:ForInStep (Tu β))(st:SortSt):Prop:=match r with
 |.done c=>Dl κ el a p A B m c st
 |.yield c=>Yl κ el a p A B m' c st
def Fl(κ:SortKind)(el:Nat->Keyed)(a:Array Nat)(p:Array (Nat×Nat×Nat))(A B:Zg)(c:T5)(st:SortSt):Prop:=c.1=some (zE el (mg A B))/\∃g,st=sS κ el a p g
def Po(κ:SortKind)(el:Nat->Keyed)(a:Array Nat)(p:Array (Nat×Nat×Nat))(A B:Zg)(m:Nat)(r:ForInStep T5)(st:SortSt):Prop:=match r with
 |.done c=>Fl κ el a p A B c st
 |.yield c=>Yl κ el a p A B m c st
def EA{w p' q' x:Nat}(T:Two N A B)(Z:Lo A B zs u v)(hu:u+1<A.length)(hv:v<B.length)(d2:∀j,v<=j->j<B.length->A.getD u 0<B.getD j 0)(hm:x+1<=u+v):wpS ρ A' E s (Ap (zE el A) (zE el B) (zE el zs) A.length B.length u v w p' q') (Pl κ el a p A B (x+1) (x+1)) (sS κ el a p g):=by
 refine jc (fJ (by lia) ?_);rw[mJ];have V:=Z.mvA (k:=1) (by lia) λi i1 i2 j j1 j2=>by rw[show i=u by lia];exact d2 j j1 j2
 rw[pi (by lia)]at V;by_cases e3:u+1+1=A.length
 .rw[if_pos (by rw[e3];exact beq_self_eq_true _),V.end2 T e3];exact jf (.inl ⟨rfl,_,rfl⟩)
 rw[if_neg (by simpa using e3)];have F:=V.lg (κ:=κ) (el:=el) (a:=a) (p:=p) (g:=g) (m:=x+1) (by lia) hv (by lia);split
 .exact jf (.inr ⟨rfl,F⟩)
 .exact jf ⟨rfl,F⟩
def Ez{w p' q' x:Nat}(L:ck ρ A' E s κ el N)(T:Two N A B)(X:Lo A B zs u v)(hu:u+1<A.length)(h3:v<B.length)(c2:∀i,u<=i->i<A.length->B.getD v 0<A.getD i 0)(hm:x+1<=u+v):wpS ρ A' E s (Aq (zE el A) (zE el B) (zE el zs) A.length B.length u v w p' q') (Pl κ el a p A B (x+1) (x+1)) (sS κ el a p g):=by
 refine jc (fJ h3 ?_);rw[mJ];have Y:=X.mvB (k:=1) h3 λj j1 j2 i i1 i2=>by rw[show j=v by lia];exact c2 i i1 i2
 rw[pi h3]at Y;by_cases e1:v+1=B.length
 .rw[if_pos (by rw[e1];exact beq_self_eq_true _),Y.end1 e1];exact jf (.inl ⟨rfl,_,rfl⟩)
 rw[if_neg (by simpa using e1)];refine jc (fJ (by lia) (jc (tY L rfl (T.na u (by lia)) (by lia) T.nb (λj _ j2=>(T.d u j (by lia) (by lia)).symm) T.sb (by lia) λk' kn' l1 l2=>?_)));dsimp only;have Z:=Y.mvB (k:=k') (by lia) λj j1 j2 i i1 i2=>by have:=l1 j j1 j2;have:=T.sa.le i1 i2;lia
 have d2:∀j,v+1+k'<=j->j<B.length->A.getD u 0<B.getD j 0:=λj j1 j2=>l2 j j1 (by lia);by_cases k0':k'>0
 .rw[if_pos k0',m9];by_cases e2:v+1+k'=B.length
  .rw[if_pos (by rw[e2];exact beq_self_eq_true _),Z.end1 e2];exact jf (.inl ⟨rfl,_,rfl⟩)
  rw[if_neg (by simpa using e2)];exact EA T Z hu (by lia) d2 (by lia)
 .rw[if_neg k0'];exact EA T Y hu (by lia) (λj j1 j2=>d2 j (by lia) j2) (by lia)
def qvl{w p' q' x:Nat}(L:ck ρ A' E s κ el N)(T:Two N A B)(h1:Lo A B zs u v)(h2:u+1<A.length)(h3:v<B.length)(h4:x+1<=u+v):wpS ρ A' E s (Ar (zE el A) (zE el B) (zE el zs) A.length B.length u v w p' q') (Pl κ el a p A B (x+1) (x+1)) (sS κ el a p g):=by
 refine jc (ki (jc (fJ h3 (jc (tY L rfl (T.nb v h3) (by lia) T.na (λi _ i2=>T.d i v (by lia) h3) T.sa (by lia) λk kn k1 k2=>?_)))));dsimp only;have X:=h1.mvA (k:=k) (by lia) λi i1 i2 j j1 j2=>by have:=k1 i i1 i2;have:=T.sb.le j1 j2;lia
 have kl:u+k≠A.length:=λe=>by have:=k1 (A.length-1) (by lia) (by lia);have:=T.lst v h3;lia
 have c2:∀i,u+k<=i->i<A.length->B.getD v 0<A.getD i 0:=λi i1 i2=>k2 i i1 (by lia);by_cases k0:k>0
 .rw[if_pos k0,m9];by_cases e:u+k+1=A.length
  .rw[if_pos (by rw[e];exact beq_self_eq_true _),X.end2 T e];exact jf (.inl ⟨rfl,_,rfl⟩)
  rw[if_neg (by simpa using e),if_neg (by simpa using kl)];exact Ez L T X (by lia) h3 c2 (by lia)
 .rw[if_neg k0];exact Ez L T h1 h2 h3 (λi i1 i2=>c2 i (by lia) i2) h4
def qvh{c:T7}{st:SortSt}{x y:Nat}(L:ck ρ A' E s κ el N)(T:Two N A B)(h:Yl κ el a p A B (x+1) c st):wpS ρ A' E s (Ao (zE el A) (zE el B) A.length B.length y c) (Pl κ el a p A B (x+1) (x+1)) st:=by obtain⟨c,z,u,v,w,p',q'⟩:=c;obtain⟨_,⟨g,rfl⟩,zs,rfl,h1,h2,h3,h4⟩:=h;unfold Ao;split<;>exact qvl L T h1 h2 h3 h4
def qvj{w p' q' x y:Nat}(T:Two N A B)(h1:Lo A B zs u v)(h2:u+1<A.length)(h3:v<B.length)(h4:x+y<=u+v):wpS ρ A' E s (Ii (zE el A) (zE el B) (zE el zs) A.length B.length w u v p' q' (decide (B.getD v 0<A.getD u 0))) (Pl κ el a p A B (x+1) (x+(y+1))) (sS κ el a p g):=by
 have dd:=T.d u v (by lia) h3;by_cases c:B.getD v 0<A.getD u 0
 .rw[decide_eq_true c];refine jc (fJ h3 ?_);have h':=h1.mvB (k:=1) h3 λj j1 j2 i i1 i2=>by
   have:=T.sa.le i1 i2;rw[show j=v by lia];lia
  rw[pi h3]at h';rw[mJ];by_cases e:v+1=B.length
  .rw[if_pos (by rw[e];exact beq_self_eq_true _),h'.end1 e];exact jf (.inl ⟨rfl,g,rfl⟩)
  .rw[if_neg (by simpa using e)];have X:=h'.lg (κ:=κ) (el:=el) (a:=a) (p:=p) (g:=g) (m:=x+(y+1)) h2 (by lia) (by lia);split
   .exact jf (.inr ⟨rfl,X.le (by lia)⟩)
   .exact jf ⟨rfl,X⟩
 .rw[decide_eq_false c];refine jc (fJ (by lia) ?_);have h':=h1.mvA (k:=1) (by lia) λi i1 i2 j j1 j2=>by
   have:=T.sb.le j1 j2;rw[show i=u by lia];lia
  rw[pi (by lia)]at h';rw[mJ];by_cases e:u+1+1=A.length
  .rw[if_pos (by rw[e];exact beq_self_eq_true _),h'.end2 T e];exact jf (.inl ⟨rfl,g,rfl⟩)
  .rw[if_neg (by simpa using e)];have X:=h'.lg (κ:=κ) (el:=el) (a:=a) (p:=p) (g:=g) (m:=x+(y+1)) (by lia) h3 (by lia);split
   .exact jf (.inr ⟨rfl,X.le (by lia)⟩)
   .exact jf ⟨rfl,X⟩
def qvk{c:T6}{st:SortSt}{w x y:Nat}(L:ck ρ A' E s κ el N)(T:Two N A B)(h:Yl κ el a p A B (x+y) c st):wpS ρ A' E s (Ij (zE el A) (zE el B) A.length B.length w y c) (Pl κ el a p A B (x+1) (x+(y+1))) st:=by obtain⟨c,z,u,v,p',q'⟩:=c;obtain⟨_,⟨g,rfl⟩,zs,rfl,h1,h2,h3,h4⟩:=h;exact jc (fJ h3 (jc (fJ (Nat.lt_of_succ_lt h2) (jc (L _ _ _ _ (T.nb v h3) (T.na u (Nat.lt_of_succ_lt h2)) rfl (qvj T h1 h2 h3 h4))))))
def EB{q:Tu β}{st:SortSt}{m w:Nat}{f:cE (ForInStep T5)}(h:Dl κ el a p A B m q st)(k:Yl κ el a p A B m q st->wpS ρ A' E s f (Po κ el a p A B m) st):wpS ρ A' E s (An q w f) (Po κ el a p A B m) st:=by
 obtain⟨c,z,u,v,t⟩:=q;obtain⟨e,g,rfl⟩|⟨e,H⟩:=h<;>dsimp only at e<;>subst e
 .exact jf ⟨rfl,g,rfl⟩
 .exact k ⟨rfl,H⟩
def qvi{q:T7}{st:SortSt}{m:Nat}(h:Yl κ el a p A B m q st):wpS ρ A' E s (Ih q) (Po κ el a p A B m) st:=by obtain⟨_,⟨g,rfl⟩,H⟩:=h;exact jc (ki (jf ⟨rfl,⟨_,rfl⟩,H⟩))
def qvf{r:T6}{st:SortSt}{w x:Nat}(L:ck ρ A' E s κ el N)(T:Two N A B)(h:Yl κ el a p A B (x+1) r st):wpS ρ A' E s (Ie (zE el A) (zE el B) A.length B.length w r) (Po κ el a p A B (x+1)) st:=
 jc (wpS_lift (k8 ⟨rfl,jc (xf (xr (λ_=>Yl κ el a p A B (x+1)) (λ_ _ _ _ _ h=>xf (qvh L T h) λr _ hr=>by cases r<;>exact hr) (λ_ _=>.inr) ⟨rfl,h.2⟩) λ_ _ h=>EB h qvi)⟩))
def qvg{c:T5}{st:SortSt}{x:Nat}(L:ck ρ A' E s κ el N)(T:Two N A B)(h:Yl κ el a p A B x c st):wpS ρ A' E s (Ig (zE el A) (zE el B) A.length B.length x c) (Po κ el a p A B (x+1)) st:=
 jc (xf (xr (λy=>Yl κ el a p A B (x+y)) (λ_ _ _ _ _ h=>xf (qvk L T h) λr _ hr=>by cases r<;>exact hr) (λc st ⟨_,_,_,_,_,h2,h3,h4⟩=>by lia) ⟨rfl,h.2⟩) λ_ _ h=>EB h (qvf L T))
def qv1(L:ck ρ A' E s κ el N)(T:Two N A B){Q:Array Keyed->SortSt->Prop}(h:∀g',Q (zE el (mg A B)) (sS κ el a p g')):wpS ρ A' E s (nZ (zE el A) (zE el B)) Q (sS κ el a p g):=by
 have za:=T.za;have zb:=T.zb;rw[qv2,uv,uv];refine jc (wpS_lift (k8 ⟨rfl,jc (fJ zb ?_)⟩));have o:Lo A B [B.getD 0 0] 0 1:=by
  have o:Lo A B [] 0 0:=by unfold Lo;rw[pf,pf];rfl
  have:=o.mvB (k:=1) zb λj j1 j2 i i1 i2=>by have:=T.sa.le i1 i2;have:=T.fst;rw[show j=0 by lia];lia
  rw[pi zb]at this;exact this
 by_cases e:1=B.length
 .rw[if_pos (by rw[<-e];rfl)];refine jf ?_;have:=h g;rw[<-o.end1 e]at this;exact this
 .rw[if_neg (by simpa using e)];by_cases e2:0+1=A.length
  .rw[if_pos (by rw[<-e2];rfl)];refine jf ?_;have:=h g;rw[<-o.end2 T e2]at this;exact this
  .rw[if_neg (by simpa using e2)];refine jc (wpS_get (jc (xf (xr (Yl κ el a p A B) (Q:=Fl κ el a p A B) (λ_ _ _ _ _ h=>xf (qvg L T h) λr _ hr=>by cases r<;>exact hr) ?_ ⟨rfl,⟨g,rfl⟩,_,rfl,o,by dsimp only;lia,by dsimp only;lia,by lia⟩) ?_)))
   .rintro c st ⟨e,⟨g,rfl⟩,zs,hz,h1,h2,h3,h4⟩;lia
   .rintro⟨c,d⟩ st ⟨e,g,rfl⟩;dsimp only at e;subst e;exact jf (h g)
end
section
variable{ρ:Model}{A':Around}{E:Z0}{s:Shared}{κ:SortKind}{el:Nat->Keyed}{N:Nat}{A B zs:Zg}{a:Array Nat}{p:Array (Nat×Nat×Nat)}{g i j k u v:Nat}
def gv:(zE el A).extract i j=zE el (sg A i j):=by have:=m9 (el:=el) (zs:=[]) (A:=A) (i:=i) (j:=j);rw[show zE el []=#[]from rfl,Array.empty_append]at this;exact this
def pj{X Y:Zg}:zE el X++zE el Y=zE el (X++Y):=by unfold zE;simp
def ud:(zE el zs).reverse=zE el zs.reverse:=by unfold zE;simp
def Hi(A B zs:Zg)(u v:Nat):Prop:=mg A B=mg (sg A 0 u) (sg B 0 v)++zs.reverse
def Hi.mvA(h:Hi A B zs u v)(cu:k<=u)(c:∀i,k<=i->i<u->i<A.length->∀j,j<v->j<B.length->B.getD j 0<A.getD i 0):Hi A B (zs++(sg A k u).reverse) k v:=by unfold Hi at*;rw[h,lA (zero_le k) cu,qpo λx hx y hy=>?_,List.append_assoc,List.reverse_append,List.reverse_reverse];obtain⟨i,i1,i2,i3,rfl⟩:=fH hx;obtain⟨j,j1,j2,j3,rfl⟩:=fH hy;exact c i i1 i2 i3 j j2 j3
def Hi.mvB(h:Hi A B zs u v)(cv:k<=v)(c:∀j,k<=j->j<v->j<B.length->∀i,i<u->i<A.length->A.getD i 0<B.getD j 0):Hi A B (zs++(sg B k v).reverse) u k:=by unfold Hi at*;rw[h,lA (zero_le k) cv,FF λx hx y hy=>?_,List.append_assoc,List.reverse_append,List.reverse_reverse];obtain⟨i,i1,i2,i3,rfl⟩:=fH hx;obtain⟨j,j1,j2,j3,rfl⟩:=fH hy;exact c i i1 i2 i3 j j2 j3
def Hi.end1(h:Hi A B zs u v)(e:u=0):(zE el A).extract 0 u++(zE el B).extract 0 v++(zE el zs).reverse=zE el (mg A B):=by unfold Hi at h;rw[gv,gv,ud,pj,pj,h,e,E7,mD,nil_append]
def Hi.end2(T:Two N A B)(h:Hi A B zs u v)(e:v=1):(zE el B).extract 0 v++(zE el A).extract 0 u++(zE el zs).reverse=zE el (mg A B):=by
 unfold Hi at h;have:=ui (A:=sg A 0 u) (B:=[]) (xs:=sg B 0 v) λx hx y hy=>by obtain⟨i,i1,i2,i3,rfl⟩:=fH hx;obtain⟨j,j1,j2,j3,rfl⟩:=fH hy;rw[show i=0 by lia];exact jw T.fst (T.sa.le j1 j3)
 rw[append_nil,kO]at this;rw[gv,gv,ud,pj,pj,h,this]
def Hg(κ:SortKind)(el:Nat->Keyed)(a:Array Nat)(p:Array (Nat×Nat×Nat))(A B:Zg)(m:Nat)(z:Array Keyed)(u v:Nat)(st:SortSt):Prop:=
 (∃g,st=sS κ el a p g)/\∃zs,z=zE el zs/\Hi A B zs u v/\0<u/\u<=A.length/\1<v/\v<=B.length/\u+v+m<=A.length+B.length
def Dh(κ:SortKind)(el:Nat->Keyed)(a:Array Nat)(p:Array (Nat×Nat×Nat))(A B:Zg)(m:Nat)(r:Option (Array Keyed))(z:Array Keyed)(u v:Nat)(st:SortSt):Prop:=
 (r=some (zE el (mg A B))/\∃g,st=sS κ el a p g)∨r=none/\Hg κ el a p A B m z u v st
def Hg.le{m m':Nat}{z:Array Keyed}{st:SortSt}(mm:m'<=m)(h:Hg κ el a p A B m z u v st):Hg κ el a p A B m' z u v st:=by obtain⟨h0,zs,hz,h1,h2,h3,h4,h5,h6⟩:=h;exact⟨h0,zs,hz,h1,h2,h3,h4,h5,by lia⟩
def Hi.hg{m:Nat}(h:Hi A B zs u v)(u0:0<u)(hu:u<=A.length)(v1:1<v)(hv:v<=B.length)(hm:u+v+m<=A.length+B.length):Hg κ el a p A B m (zE el zs) u v (sS κ el a p g):=⟨⟨g,rfl⟩,zs,rfl,h,u0,hu,v1,hv,hm⟩
def qE(h:0<u)(hu:u<=A.length):sg A (u-1) u=[A.getD (u-1) 0]:=by
 have:=pi (A:=A) (i:=u-1) (by lia)
 rwa [show u-1+1=u by lia]at this
abbrev Hu(β:Type):=Option (Array Keyed)×Nat×Nat×Array Keyed×β
abbrev H7:=Hu (Nat×Nat×Nat)
abbrev H6:=Hu (Nat×Nat)
abbrev H5:=Hu Nat
noncomputable def dh(a b o:Array Keyed)(i j:Nat):Array Keyed:=a.extract 0 i++b.extract 0 j++o.reverse
def Av(a b z:Array Keyed)(u v w p q:Nat):cE (ForInStep H7):=do
 let x <-elem' a (u-1)
 if u-1==0 then pure (.done (some (dh a b (z.push x) (u-1) v),u-1,v,z.push x,w,p,q))
 else if p<7&&q<7 then pure (.done (none,u-1,v,z.push x,w,p,q))else pure (.yield (none,u-1,v,z.push x,w,p,q))
def qU(a b z:Array Keyed)(u v w p q:Nat):cE (ForInStep H7):=do
 let x <-elem' b (v-1)
 if v-1==1 then pure (.done (some (dh b a (z.push x) (v-1) u),u,v-1,z.push x,w,p,q))
 else
  let some c <-fZ true (<-elem' a (u-1)) b 0 (v-1) (v-1-1)|pure (.done (some (dh a b (z.push x) u (v-1)),u,v-1,z.push x,w,p,q))
  if v-1-c>0 then
   if c==1 then pure (.done (some (dh b a (z.push x++(b.extract c (v-1)).reverse) c u),u,c,z.push x++(b.extract c (v-1)).reverse,w,p,v-1-c))
   else if c==0 then pure (.done (some (dh a b (z.push x++(b.extract c (v-1)).reverse) u c),u,c,z.push x++(b.extract c (v-1)).reverse,w,p,v-1-c))
   else Av a b (z.push x++(b.extract c (v-1)).reverse) u c w p (v-1-c)
  else Av a b (z.push x) u (v-1) w p (v-1-c)
def Aw(a b z:Array Keyed)(u v w p q:Nat):cE (ForInStep H7):=do
 s9 w
 let some c <-fZ false (<-elem' b (v-1)) a 0 u (u-1)|pure (.done (some (dh a b z u v),u,v,z,w,p,q))
 if u-c>0 then
  if c==0 then pure (.done (some (dh a b (z++(a.extract c u).reverse) c v),c,v,z++(a.extract c u).reverse,w,u-c,q))
  else qU a b (z++(a.extract c u).reverse) c v w (u-c) q
 else qU a b z u v w (u-c) q
def Au(a b:Array Keyed)(_i:Nat)(r:H7):cE (ForInStep H7):=
 if r.2.2.2.2.1>1 then Aw a b r.2.2.2.1 r.2.1 r.2.2.1 (r.2.2.2.2.1-1) r.2.2.2.2.2.1 r.2.2.2.2.2.2
 else Aw a b r.2.2.2.1 r.2.1 r.2.2.1 r.2.2.2.2.1 r.2.2.2.2.2.1 r.2.2.2.2.2.2
def Ip(a b z:Array Keyed)(w u v p q:Nat)(c:Bool):cE (ForInStep H6):=do
 if c then
  let x <-elem' a (u-1)
  if u-1==0 then pure (.done (some (dh a b (z.push x) (u-1) v),u-1,v,z.push x,p+1,0))
  else if p+1≥w then pure (.done (none,u-1,v,z.push x,p+1,0))else pure (.yield (none,u-1,v,z.push x,p+1,0))
 else
  let x <-elem' b (v-1)
  if v-1==1 then pure (.done (some (dh b a (z.push x) (v-1) u),u,v-1,z.push x,0,q+1))
  else if q+1≥w then pure (.done (none,u,v-1,z.push x,0,q+1))else pure (.yield (none,u,v-1,z.push x,0,q+1))
def Iq(a b:Array Keyed)(w _i:Nat)(r:H6):cE (ForInStep H6):=do
 let some c <-lt' (<-elem' b (r.2.2.1-1)) (<-elem' a (r.2.1-1))|pure (.done (some (dh a b r.2.2.2.1 r.2.1 r.2.2.1),r.2.1,r.2.2.1,r.2.2.2.1,r.2.2.2.2.1,r.2.2.2.2.2))
 Ip a b r.2.2.2.1 w r.2.1 r.2.2.1 r.2.2.2.2.1 r.2.2.2.2.2 c
noncomputable def As{β:Type}(q:Hu β)(w:Nat)(f:cE (ForInStep H5)):cE (ForInStep H5):=Break.runK.match_1 (motive:=λ_=>cE (ForInStep H5)) q.1 (λx=>pure (.done (some x,q.2.1,q.2.2.1,q.2.2.2.1,w))) λ_=>f
def Io(q:H7):cE (ForInStep H5):=do
 s9 (q.2.2.2.2.1+1)
 pure (.yield (none,q.2.1,q.2.2.1,q.2.2.2.1,q.2.2.2.2.1+1))
def Il(a b:Array Keyed)(m n w:Nat)(r:H6):cE (ForInStep H5):=do
 rule "list.sort.gallop"
 let q <-forIn [0:m+n] ((none,r.2.1,r.2.2.1,r.2.2.2.1,w+1,r.2.2.2.2.1,r.2.2.2.2.2):H7) (Au a b)
 As q q.2.2.2.2.1 (Io q)
def Im(a b:Array Keyed)(m n _i:Nat)(s:H5):cE (ForInStep H5):=do
 let r <-forIn [0:m+n] ((none,s.2.1,s.2.2.1,s.2.2.2.1,0,0):H6) (Iq a b s.2.2.2.2)
 As r s.2.2.2.2 (Il a b m n s.2.2.2.2 r)
def hiM(a b:Array Keyed)(m n:Nat):cE (Array Keyed):=do
 rule "list.sort.merge-hi"
 let x <-elem' a (m-1)
 if m-1==0 then pure (dh a b #[x] (m-1) n)
 else if n==1 then pure (dh b a #[x] n (m-1))
 else
  let g <-get
  let r <-forIn [0:m+n] ((none,m-1,n,#[x],gallopOf g):H5) (Im a b m n)
  Break.runK.match_1 (motive:=λ_=>cE (Array Keyed)) r.1 (λr=>pure r) λ_=>unsupported "internal:list.sort.merge-bound"
def qv5(a b:Array Keyed):n9 a b=hiM a b a.size b.size:=rfl
variable{β:Type}
def Yh(κ:SortKind)(el:Nat->Keyed)(a:Array Nat)(p:Array (Nat×Nat×Nat))(A B:Zg)(m:Nat)(c:Hu β)(st:SortSt):Prop:=c.1=none/\Hg κ el a p A B m c.2.2.2.1 c.2.1 c.2.2.1 st
def Eh(κ:SortKind)(el:Nat->Keyed)(a:Array Nat)(p:Array (Nat×Nat×Nat))(A B:Zg)(m:Nat)(c:Hu β)(st:SortSt):Prop:=Dh κ el a p A B m c.1 c.2.2.2.1 c.2.1 c.2.2.1 st
def Ph(κ:SortKind)(el:Nat->Keyed)(a:Array Nat)(p:Array (Nat×Nat×Nat))(A B:Zg)(m m':Nat)(r:ForInStep (Hu β))(st:SortSt):Prop:=match r with
 |.done c=>Eh κ el a p A B m c st
 |.yield c=>Yh κ el a p A B m' c st
def Fh(κ:SortKind)(el:Nat->Keyed)(a:Array Nat)(p:Array (Nat×Nat×Nat))(A B:Zg)(c:H5)(st:SortSt):Prop:=c.1=some (zE el (mg A B))/\∃g,st=sS κ el a p g
def Ko(κ:SortKind)(el:Nat->Keyed)(a:Array Nat)(p:Array (Nat×Nat×Nat))(A B:Zg)(m:Nat)(r:ForInStep H5)(st:SortSt):Prop:=match r with
 |.done c=>Fh κ el a p A B c st
 |.yield c=>Yh κ el a p A B m c st
def Ep{w p' q' x:Nat}(T:Two N A B)(Z:Hi A B zs u v)(u0:0<u)(hu:u<=A.length)(v1:1<v)(hv:v<=B.length)(d2:∀j,j<v->B.getD j 0<A.getD (u-1) 0)(hm:u+v+(x+1)<=A.length+B.length):wpS ρ A' E s (Av (zE el A) (zE el B) (zE el zs) u v w p' q') (Ph κ el a p A B (x+1) (x+1)) (sS κ el a p g):=by
 refine jc (fJ (by lia) ?_);rw[mJ];have V:=Z.mvA (k:=u-1) (by lia) λi i1 i2 i3 j j1 j2=>by rw[show i=u-1 by lia];exact d2 j j1
 rw[qE u0 hu]at V;by_cases e3:u-1=0
 .rw[if_pos (by rw[e3];rfl)];exact jf (.inl ⟨congrArg some (V.end1 e3),_,rfl⟩)
 rw[if_neg (by simpa using e3)];have F:=V.hg (κ:=κ) (el:=el) (a:=a) (p:=p) (g:=g) (m:=x+1) (by lia) (by lia) v1 hv (by lia);split
 .exact jf (.inr ⟨rfl,F⟩)
 .exact jf ⟨rfl,F⟩
def Eo{w p' q' x:Nat}(L:ck ρ A' E s κ el N)(T:Two N A B)(X:Hi A B zs u v)(u0:0<u)(hu:u<=A.length)(v1:1<v)(h3:v<=B.length)(c2:∀i,i<u->A.getD i 0<B.getD (v-1) 0)(hm:u+v+(x+1)<=A.length+B.length):wpS ρ A' E s (qU (zE el A) (zE el B) (zE el zs) u v w p' q') (Ph κ el a p A B (x+1) (x+1)) (sS κ el a p g):=by
 refine jc (fJ (by lia) ?_);rw[mJ];have Y:=X.mvB (k:=v-1) (by lia) λj j1 j2 j3 i i1 i2=>by rw[show j=v-1 by lia];exact c2 i i1
 rw[qE (by lia) h3,List.reverse_singleton]at Y;by_cases e1:v-1=1
 .rw[if_pos (by rw[e1];rfl)];exact jf (.inl ⟨congrArg some (Y.end2 T e1),_,rfl⟩)
 rw[if_neg (by simpa using e1)];refine jc (fJ (by lia) (jc (tY L rfl (T.na _ (by lia)) (by lia) T.nb (λj _ j2=>(T.d (u-1) j (by lia) (by lia)).symm) T.sb (by lia) λk' kn' l1 l2=>?_)));dsimp only;have Z:=Y.mvB kn' λj j1 j2 j3 i i1 i2=>by have:=l2 j (by lia) (by lia);have:=T.sa.le (show i<=u-1 by lia) (by lia);lia
 have d2:∀j,j<k'->B.getD j 0<A.getD (u-1) 0:=λj j1=>l1 j (zero_le _) (by lia);have kp:k'≠0:=λz=>by have:=l2 0 (by lia) (by lia);have:=T.fst;have:=T.sa.le (zero_le (u-1)) (by lia);lia
 by_cases k0':v-1-k'>0
 .rw[if_pos k0',gv,ud,pj];by_cases e2:k'=1
  .rw[if_pos (by rw[e2];rfl)];exact jf (.inl ⟨congrArg some (Z.end2 T e2),_,rfl⟩)
  rw[if_neg (by simpa using e2),if_neg (by simpa using kp)];exact Ep T Z u0 hu (by lia) (by lia) d2 (by lia)
 .rw[if_neg k0'];exact Ep T Y u0 hu (by lia) (by lia) (λj j1=>d2 j (by lia)) (by lia)
def qw9{w p' q' x:Nat}(L:ck ρ A' E s κ el N)(T:Two N A B)(h1:Hi A B zs u v)(u0:0<u)(h2:u<=A.length)(v1:1<v)(h3:v<=B.length)(h4:u+v+(x+1)<=A.length+B.length):wpS ρ A' E s (Aw (zE el A) (zE el B) (zE el zs) u v w p' q') (Ph κ el a p A B (x+1) (x+1)) (sS κ el a p g):=by
 refine jc (ki (jc (fJ (by lia) (jc (tY L rfl (T.nb _ (by lia)) (by lia) T.na (λi _ i2=>T.d i (v-1) (by lia) (by lia)) T.sa (by lia) λk kn k1 k2=>?_)))));dsimp only;have X:=h1.mvA kn λi i1 i2 i3 j j1 j2=>by have:=k2 i (by lia) (by lia);have:=T.sb.le (show j<=v-1 by lia) (by lia);lia
 have c2:∀i,i<k->A.getD i 0<B.getD (v-1) 0:=λi i1=>k1 i (zero_le _) (by lia);by_cases k0:u-k>0
 .rw[if_pos k0,gv,ud,pj];by_cases e:k=0
  .rw[if_pos (by rw[e];rfl)];exact jf (.inl ⟨congrArg some (X.end1 e),_,rfl⟩)
  rw[if_neg (by simpa using e)];exact Eo L T X (by lia) (by lia) v1 h3 c2 (by lia)
 .rw[if_neg k0];exact Eo L T h1 u0 h2 v1 h3 (λi i1=>c2 i (by lia)) h4
def qw5{c:H7}{st:SortSt}{x y:Nat}(L:ck ρ A' E s κ el N)(T:Two N A B)(h:Yh κ el a p A B (x+1) c st):wpS ρ A' E s (Au (zE el A) (zE el B) y c) (Ph κ el a p A B (x+1) (x+1)) st:=by obtain⟨c,u,v,z,w,p',q'⟩:=c;obtain⟨_,⟨g,rfl⟩,zs,rfl,h1,h2,h3,h4,h5,h6⟩:=h;unfold Au;split<;>exact qw9 L T h1 h2 h3 h4 h5 h6
def qw7{w p' q' x y:Nat}(T:Two N A B)(h1:Hi A B zs u v)(u0:0<u)(h2:u<=A.length)(v1:1<v)(h3:v<=B.length)(h4:u+v+(x+y)<=A.length+B.length):wpS ρ A' E s (Ip (zE el A) (zE el B) (zE el zs) w u v p' q' (decide (B.getD (v-1) 0<A.getD (u-1) 0))) (Ph κ el a p A B (x+1) (x+(y+1))) (sS κ el a p g):=by
 have dd:=T.d (u-1) (v-1) (by lia) (by lia);by_cases c:B.getD (v-1) 0<A.getD (u-1) 0
 .rw[decide_eq_true c];refine jc (fJ (by lia) ?_);have h':=h1.mvA (k:=u-1) (by lia) λi i1 i2 i3 j j1 j2=>by
   have:=T.sb.le (show j<=v-1 by lia) (by lia);rw[show i=u-1 by lia];lia
  rw[qE u0 h2]at h';rw[mJ];by_cases e:u-1=0
  .rw[if_pos (by rw[e];rfl)];exact jf (.inl ⟨congrArg some (h'.end1 e),g,rfl⟩)
  .rw[if_neg (by simpa using e)];have X:=h'.hg (κ:=κ) (el:=el) (a:=a) (p:=p) (g:=g) (m:=x+(y+1)) (by lia) (by lia) v1 h3 (by lia);split
   .exact jf (.inr ⟨rfl,X.le (by lia)⟩)
   .exact jf ⟨rfl,X⟩
 .rw[decide_eq_false c];refine jc (fJ (by lia) ?_);have h':=h1.mvB (k:=v-1) (by lia) λj j1 j2 j3 i i1 i2=>by
   have:=T.sa.le (show i<=u-1 by lia) (by lia);rw[show j=v-1 by lia];lia
  rw[qE (by lia) h3]at h';rw[mJ];by_cases e:v-1=1
  .rw[if_pos (by rw[e];rfl)];exact jf (.inl ⟨congrArg some (h'.end2 T e),g,rfl⟩)
  .rw[if_neg (by simpa using e)];have X:=h'.hg (κ:=κ) (el:=el) (a:=a) (p:=p) (g:=g) (m:=x+(y+1)) u0 h2 (by lia) (by lia) (by lia);split
   .exact jf (.inr ⟨rfl,X.le (by lia)⟩)
   .exact jf ⟨rfl,X⟩
def qw8{c:H6}{st:SortSt}{w x y:Nat}(L:ck ρ A' E s κ el N)(T:Two N A B)(h:Yh κ el a p A B (x+y) c st):wpS ρ A' E s (Iq (zE el A) (zE el B) w y c) (Ph κ el a p A B (x+1) (x+(y+1))) st:=by
 obtain⟨c,u,v,z,p',q'⟩:=c;obtain⟨_,⟨g,rfl⟩,zs,rfl,h1,h2,h3,h4,h5,h6⟩:=h;have i:v-1<B.length/\u-1<A.length:=by lia
 exact jc (fJ i.1 (jc (fJ i.2 (jc (L _ _ _ _ (T.nb _ i.1) (T.na _ i.2) rfl (qw7 T h1 h2 h3 h4 h5 h6))))))
def Er{q:Hu β}{st:SortSt}{m w:Nat}{f:cE (ForInStep H5)}(h:Eh κ el a p A B m q st)(k:Yh κ el a p A B m q st->wpS ρ A' E s f (Ko κ el a p A B m) st):wpS ρ A' E s (As q w f) (Ko κ el a p A B m) st:=by
 obtain⟨c,z,u,v,t⟩:=q;obtain⟨e,g,rfl⟩|⟨e,H⟩:=h<;>dsimp only at e<;>subst e
 .exact jf ⟨rfl,g,rfl⟩
 .exact k ⟨rfl,H⟩
def qw6{q:H7}{st:SortSt}{m:Nat}(h:Yh κ el a p A B m q st):wpS ρ A' E s (Io q) (Ko κ el a p A B m) st:=by obtain⟨_,⟨g,rfl⟩,H⟩:=h;exact jc (ki (jf ⟨rfl,⟨_,rfl⟩,H⟩))
def qw3{r:H6}{st:SortSt}{w x:Nat}(L:ck ρ A' E s κ el N)(T:Two N A B)(h:Yh κ el a p A B (x+1) r st):wpS ρ A' E s (Il (zE el A) (zE el B) A.length B.length w r) (Ko κ el a p A B (x+1)) st:=
 jc (wpS_lift (k8 ⟨rfl,jc (xf (xr (λ_=>Yh κ el a p A B (x+1)) (λ_ _ _ _ _ h=>xf (qw5 L T h) λr _ hr=>by cases r<;>exact hr) (λ_ _=>.inr) ⟨rfl,h.2⟩) λ_ _ h=>Er h qw6)⟩))
def qw4{c:H5}{st:SortSt}{x:Nat}(L:ck ρ A' E s κ el N)(T:Two N A B)(h:Yh κ el a p A B x c st):wpS ρ A' E s (Im (zE el A) (zE el B) A.length B.length x c) (Ko κ el a p A B (x+1)) st:=
 jc (xf (xr (λy=>Yh κ el a p A B (x+y)) (λ_ _ _ _ _ h=>xf (qw8 L T h) λr _ hr=>by cases r<;>exact hr) (λc st ⟨_,_,_,_,_,h2,h3,h4,_,h5⟩=>by lia) ⟨rfl,h.2⟩) λ_ _ h=>Er h (qw3 L T))
def qv4(L:ck ρ A' E s κ el N)(T:Two N A B){Q:Array Keyed->SortSt->Prop}(h:∀g',Q (zE el (mg A B)) (sS κ el a p g')):wpS ρ A' E s (n9 (zE el A) (zE el B)) Q (sS κ el a p g):=by
 have za:=T.za;have zb:=T.zb;rw[qv5,uv,uv];refine jc (wpS_lift (k8 ⟨rfl,jc (fJ (by lia) ?_)⟩));have o:Hi A B [A.getD (A.length-1) 0] (A.length-1) B.length:=by
  have o:Hi A B [] A.length B.length:=by unfold Hi;rw[pf,pf];simp
  have:=o.mvA (k:=A.length-1) (by lia) λi i1 i2 i3 j j1 j2=>by rw[show i=A.length-1 by lia];exact T.lst j j2
  rw[qE za (jg _)]at this;exact this
 by_cases e:A.length-1=0
 .rw[if_pos (by rw[e];rfl)];refine jf ?_;have:=h g;rw[<-o.end1 e]at this;exact this
 .rw[if_neg (by simpa using e)];by_cases e2:B.length=1
  .rw[if_pos (by rw[e2];rfl)];refine jf ?_;have:=h g;rw[<-o.end2 T e2]at this;exact this
  .rw[if_neg (by simpa using e2)];refine jc (wpS_get (jc (xf (xr (Yh κ el a p A B) (λ_ _ _ _ _ h=>xf (qw4 L T h) λr _ hr=>by cases r<;>exact hr) ?_ ⟨rfl,⟨g,rfl⟩,_,rfl,o,by dsimp only;lia,by dsimp only;lia,by dsimp only;lia,by dsimp only;lia,by dsimp only;lia⟩) ?_)))
   .rintro c st ⟨e,⟨g,rfl⟩,zs,hz,h1,h2,h3,h4⟩;lia
   .rintro⟨c,d⟩ st ⟨e,g,rfl⟩;subst e;exact jf (h g)
end
def qvd(i:Nat):mergeAt' i=(do
 let s <-get
 let (some (x,m,pw),some (y,n,_)):=((pendingOf s)[i]?,(pendingOf s)[i+1]?)|unsupported "internal:list.sort.pending"
 set (setPending s (((pendingOf s).setIfInBounds i (x,m+n,pw)).eraseIdxIfInBounds (i+1)))
 let some k <-fZ false (<-elem' (arrOf s) y) (arrOf s) x m 0|return false
 let (x,m):=(x+k,m-k)
 if m==0 then return true
 let some n <-fZ true (<-elem' (arrOf s) (x+m-1)) (arrOf s) y n (n-1)|return false
 if n==0 then return true
 let c:=(arrOf s).extract x y
 let d:=(arrOf s).extract y (y+n)
 let r <-if m<=n then nZ c d else n9 c d
 modify λs=>setArr s (r.toList.zipIdx.foldl (λa (p,j)=>a.setIfInBounds (x+j) p) (arrOf s))
 return(failedOf (<-get)).isNone):=rfl
abbrev U2:=Option Unit×Unit
abbrev U3:=Option Unit×Nat
noncomputable def Bu(pw _i:Nat)(_:U2):cE (ForInStep U2):=do
 let p:=pendingOf (<-get)
 let some (_,_,o):=(if p.size>1 then p[p.size-2]? else none)|pure (.done (none,()))
 if o<=pw then pure (.done (none,()))else
  if !(<-mergeAt' (p.size-2))then pure (.done (some (),()))else pure (.yield (none,()))
def uP(z lo n:Nat):cE (ForInStep U3):=do
 if let some (x,y,_):=(pendingOf (<-get)).back? then
  let r <-forIn [0:z] ((none,()):U2) (Bu (power' z (2*x+y) (2*x+y+y+n) z))
  Break.runK.match_1 (motive:=λ_=>cE (ForInStep U3)) r.1 (λx=>pure (.done (some x,lo))) λ_=>do
   modify λs=>setPending s ((pendingOf s).modify ((pendingOf s).size-1) λp=>(p.1,p.2.1,power' z (2*x+y) (2*x+y+y+n) z))
   modify λs=>setPending s ((pendingOf s).push (lo,n,0))
   pure (.yield (none,lo+n))
 else
  modify λs=>setPending s ((pendingOf s).push (lo,n,0))
  pure (.yield (none,lo+n))
def stp(z r _i:Nat)(c:U3):cE (ForInStep U3):=do
 if c.2≥z then pure (.done (none,c.2))else
  let some n <-countRun' c.2 (z-c.2)|pure (.done (some (),c.2))
  if n<r then
   rule "list.sort.binary-insertion"
   if !(<-binarySort' c.2 (min (z-c.2) r) n)then pure (.done (some (),c.2))else uP z c.2 (min (z-c.2) r)
  else uP z c.2 n
noncomputable def fnl(_i:Nat)(_:U2):cE (ForInStep U2):=do
 let p:=pendingOf (<-get)
 if p.size<=1 then pure (.done (none,()))else
  let i:=p.size-2
  let o:=if i>0 then p[i-1]?.map (·.2.1)else none
  if !(<-mergeAt' (if o.any (·<(p[i+1]?.elim 0 (·.2.1)))then i-1 else i))then pure (.done (some (),()))else pure (.yield (none,()))
def qs6:sortRuns'=(do
 let z:=(arrOf (<-get)).size
 let r <-forIn [0:z] ((none,0):U3) (stp z (minRun' z z 0))
 Break.runK.match_1 (motive:=λ_=>cE Unit) r.1 (λx=>pure x) λ_=>do
  let q <-forIn [0:z] ((none,()):U2) fnl
  Break.runK.match_1 (motive:=λ_=>cE Unit) q.1 (λx=>pure x) λ_=>pure ()):=rfl
section
variable{ρ:Model}{A':Around}{E:Z0}{s:Shared}{κ:SortKind}{el:Nat->Keyed}{N:Nat}{a:Array Nat}{p:Array (Nat×Nat×Nat)}{g x:Nat}
theorem gD:∀(l:Zg) (k:Nat) (a:Array Nat),((l.map el).zipIdx k).foldl (λa (p:Keyed×Nat)=>a.setIfInBounds (x+p.2) p.1) (mE el a)=mE el ((l.zipIdx k).foldl (λa (p:Nat×Nat)=>a.setIfInBounds (x+p.2) p.1) a)
 |[],_,_=>rfl
 | y::l,k,a=>by rw[x5,zipIdx_cons,zipIdx_cons,foldl_cons,foldl_cons,<-gD l (k+1),kJ,kJ,Array.map_setIfInBounds]
theorem fR:∀(r:Zg) (n:Nat) (a:Array Nat),x+n+r.length<=a.size->((r.zipIdx n).foldl (λa (p:Nat×Nat)=>a.setIfInBounds (x+p.2) p.1) a).toList=a.toList.take (x+n)++(r++a.toList.drop (x+n+r.length))
 |[],n,a,h=>by simp
 | e::r,n,a,h=>by
  rw[jy]at h;rw[zipIdx_cons,foldl_cons,fR r (n+1) _ (by rw[Array.size_setIfInBounds];lia),Array.toList_setIfInBounds,List.set_eq_take_append_cons_drop,if_pos (by rw[length_toList];lia)];have hl:(a.toList.take (x+n)++[e]).length=x+n+1:=by simp;lia
  rw[List.append_cons,<-Nat.add_assoc,List.take_left' hl,<-drop_drop,List.drop_left' hl,drop_drop,List.append_assoc,jy,show x+n+1+r.length=x+n+(r.length+1)by lia];rfl
def qo7{J:Type}{st st':J}{Q:PUnit->J->Prop}(h:Q ⟨⟩ st'):wpS ρ A' E s (set st':StateT J Sem PUnit) Q st:=by unfold wpS;rw[StateT.run_set];exact jb ⟨rfl,h⟩
def gL{l:Zg}{i j t:Nat}(h:i+t<j)(hj:j<=l.length):(sg l i j).getD t 0=l.getD (i+t) 0:=by unfold sg;rw[jl,jl,List.getElem?_take,if_pos (by lia),getElem?_drop]
def ph{l:Zg}{i j:Nat}(hj:j<=l.length):(sg l i j).length=j-i:=by unfold sg;simp;lia
def eY{i:Nat}:a.toList.getD i 0=a.getD i 0:=by rw[jl,Array.getElem?_toList,Array.getD_eq_getD_getElem?]
def qvc(L:ck ρ A' E s κ el N)(P:Pm N a){n1 n2 pw x0:Nat}(z1:0<n1)(z2:0<n2)(hz:n1+n2=N)(u1:Upr a 0 n1)(u2:Upr a n1 N)
 {Q:Bool->SortSt->Prop} (h:∀p g,p.size=1->Q true (sS κ el (List.range N).toArray p g)):wpS ρ A' E s (mergeAt' 0) Q (sS κ el a #[(0,n1,pw),(n1,n2,x0)] g):=by
 have hl:a.toList.length=N:=by rw[length_toList,P.size]
 have s1:Srt (sg a.toList 0 n1):=λi j ij hj=>by rw[ph (by lia)]at hj;rw[gL (by lia) (by lia),gL (by lia) (by lia),eY,eY];exact u1 _ _ (by lia) (by lia) (by lia)
 have s2:Srt (sg a.toList n1 N):=λi j ij hj=>by rw[ph (by lia)]at hj;rw[gL (by lia) (by lia),gL (by lia) (by lia),eY,eY];exact u2 _ _ (by lia) (by lia) (by lia)
 have lN:∀i,i<a.toList.length->a.toList.getD i 0<N:=λi hi=>by rw[eY];exact P.lo (by lia)
 have ne:∀i j,i<n1->n1<=j->j<N->a.toList.getD i 0≠a.toList.getD j 0:=λi j i1 j1 j2=>by rw[eY,eY];exact P.ne (by lia) j2 (by lia)
 have zk:mg (sg a.toList 0 n1) (sg a.toList n1 N)=List.range N:=by
  refine Ho (qv6 s1 s2 λx hx hy=>?_) (mg_perm.trans ?_)
  .obtain⟨i,_,i2,_,rfl⟩:=fH hx;let⟨j,j1,j2,_,e⟩:=fH hy;exact ne i j i2 j1 j2 e
  .rw[<-lA (zero_le _) (by lia),<-hl,pf,hl];exact P.perm
 rw[qvd];refine jc (wpS_get (jc (qo7 ?_)));show wpS ρ A' E s _ Q (sS κ el a (((#[(0,n1,pw),(n1,n2,x0)]:Array (Nat×Nat×Nat)).setIfInBounds 0 (0,n1+n2,pw)).eraseIdxIfInBounds (0+1)) g);refine jc (zL (show n1<a.size by rw[P.size];lia) ?_);have le1:∀i j,i<=j->j<n1->a.toList.getD i 0<=a.toList.getD j 0:=λi j ij jn=>by
  rcases eq_or_lt_of_le ij with rfl|q
  .exact jg _
  .rw[eY,eY];exact le_of_lt (u1 i j (zero_le _) q jn)
 have le2:∀i j,n1<=i->i<=j->j<N->a.toList.getD i 0<=a.toList.getD j 0:=λi j i1 ij jn=>by
  rcases eq_or_lt_of_le ij with rfl|q
  .exact jg _
  .rw[eY,eY];exact le_of_lt (u2 i j i1 q jn)
 have ps:(((#[(0,n1,pw),(n1,n2,x0)]:Array (Nat×Nat×Nat)).setIfInBounds 0 (0,n1+n2,pw)).eraseIdxIfInBounds (0+1)).size=1:=by simp[Array.eraseIdxIfInBounds]
 generalize hps:((#[(0,n1,pw),(n1,n2,x0)]:Array (Nat×Nat×Nat)).setIfInBounds 0 (0,n1+n2,pw)).eraseIdxIfInBounds (0+1)=ps' at ps ⊢;rw[<-eY];refine jc (xD L rfl (lN _ (by lia)) (by lia) lN (λi _ i2=>ne i n1 (by lia) (jg _) (by lia)) (λi j _ ij jn=>by rw[eY,eY];exact u1 i j (zero_le _) ij (by lia)) z1 λk kn k1 k2=>?_);dsimp only;rw[show arrOf (sS κ el a #[(0,n1,pw),(n1,n2,x0)] g)=zE el a.toList from rfl];rw[x8]at k1 k2 ⊢;rw[x8]at k2;by_cases e:n1-k=0
 .rw[if_pos (by rw[e];rfl)];have w:=uh (A:=[]) (B:=sg a.toList n1 N) (xs:=sg a.toList 0 n1) λx hx y hy=>by
   obtain⟨i,_,i2,_,rfl⟩:=fH hx;obtain⟨j,j1,j2,_,rfl⟩:=fH hy;exact jw (k1 i (zero_le _) (by lia)) (le2 n1 j (jg _) j1 j2)
  rw[append_nil,mD,zk,<-lA (zero_le _) (by lia),<-hl,pf,hl]at w;have:=h ps' g ps;rw[w,Array.toArray_toList]at this;exact jf this
 .rw[if_neg (by simpa using e),show k+(n1-k)-1=n1-1 by lia];refine jc (fJ (by lia) (jc (xD (A:=a.toList) L rfl (lN _ (by lia)) (by lia) lN (λi i1 i2=>(ne (n1-1) i (by lia) i1 (by lia)).symm) (λi j i1 ij jn=>by rw[eY,eY];exact u2 i j i1 ij (by lia)) (by lia) λm mn m1 m2=>?_)));dsimp only;have m0:m≠0:=λz=>by
   have:=m2 n1 (by lia) (by lia);have:=k2 (n1-1) (by lia) (by lia);lia
  rw[if_neg (by simpa using m0),gv,gv];have T:Two N (sg a.toList k n1) (sg a.toList n1 (n1+m)):=by
   have la:(sg a.toList k n1).length=n1-k:=ph (by lia);have lb:(sg a.toList n1 (n1+m)).length=m:=by rw[ph (by lia)];lia
   refine⟨λi j ij hj=>?_,λi j ij hj=>?_,λi hi=>?_,λi hi=>?_,λi j hi hj=>?_,by lia,by lia,?_,λj hj=>?_⟩
   .rw[gL (by lia) (by lia),gL (by lia) (by lia),eY,eY];exact u1 _ _ (by lia) (by lia) (by lia)
   .rw[gL (by lia) (by lia),gL (by lia) (by lia),eY,eY];exact u2 _ _ (by lia) (by lia) (by lia)
   .rw[gL (by lia) (by lia)];exact lN _ (by lia)
   .rw[gL (by lia) (by lia)];exact lN _ (by lia)
   .rw[gL (by lia) (by lia),gL (by lia) (by lia)];exact ne _ _ (by lia) (by lia) (by lia)
   .rw[gL (by lia) (by lia),gL (by lia) (by lia)];exact k2 _ (by lia) (by lia)
   .rw[la,gL (by lia) (by lia),gL (by lia) (by lia),show k+(n1-k-1)=n1-1 by lia];exact m1 _ (by lia) (by lia)
  have fin:∀g',wpS ρ A' E s (do
   modify λs=>setArr s ((zE el (mg (sg a.toList k n1) (sg a.toList n1 (n1+m)))).toList.zipIdx.foldl (λa x=>a.setIfInBounds (k+x.2) x.1) (arrOf s))
   return(failedOf (<-get)).isNone) Q (sS κ el a ps' g'):=λg'=>by
   refine jc (ki (jc (wpS_get (jf ?_))));have q:=h ps' g' ps;have lr:(mg (sg a.toList k n1) (sg a.toList n1 (n1+m))).length=n1-k+m:=by rw[mg_perm.length_eq,jt,ph (by lia),ph (by lia)];lia
   have f1:=gD (el:=el) (x:=k) (mg (sg a.toList k n1) (sg a.toList n1 (n1+m))) 0 a;have f2:=fR (x:=k) (mg (sg a.toList k n1) (sg a.toList n1 (n1+m))) 0 a (by rw[lr,P.size];lia);have w:=zk;rw[lA (j:=k) (zero_le _) kn,lA (i:=n1) (j:=n1+m) (by lia) (by lia),uh λx hx y hy=>?_,FF λx hx y hy=>?_]at w
   .have f3:((mg (sg a.toList k n1) (sg a.toList n1 (n1+m))).zipIdx 0).foldl (λa (p:Nat×Nat)=>a.setIfInBounds (k+p.2) p.1) a=(List.range N).toArray:=by
     apply ext';rw[f2,lr,<-w];unfold sg;rw[Nat.add_zero,drop_zero,sub_zero,show k+(n1-k+m)=n1+m by lia,take_of_length_le (l:=a.toList.drop (n1+m)) (by rw[xx];lia)]
    rw[f3]at f1;unfold sS at q;rw[<-f1]at q;exact q
   .obtain⟨i,i1,i2,_,rfl⟩:=fH hx;obtain⟨j,j1,j2,_,rfl⟩:=fH hy;exact Nat.lt_of_le_of_lt (le1 j (n1-1) (by lia) (by lia)) (m2 i i1 (by lia))
   .rw[<-lA (by lia) (by lia)]at hy;obtain⟨i,_,i2,_,rfl⟩:=fH hx;obtain⟨j,j1,j2,_,rfl⟩:=fH hy;exact jw (k1 i (zero_le _) i2) (le2 n1 j (jg _) j1 j2)
  by_cases q:n1-k<=m
  .rw[if_pos q];exact jc (qv1 L T fin)
  .rw[if_neg q];exact jc (qv4 L T fin)
def qq5{β:Type}{b:Nat}{f:Nat->β->cE (ForInStep β)}{c:β}{st:SortSt}{Q:β->SortSt->Prop}(hb:0<b)(h:wpS ρ A' E s (f 0 c) (λr st'=>∃c',r=.done c'/\Q c' st') st):wpS ρ A' E s (forIn [0:b] c f) Q st:=by
 refine xr (I:=λi c' st'=>i=0/\c'=c/\st'=st) ?_ (λc st h=>?_) ⟨rfl,rfl,rfl⟩
 .rintro _ _ _ _ _ ⟨rfl,rfl,rfl⟩;refine xf h λr st' h=>?_;obtain⟨c',rfl,h⟩:=h;exact h
 .lia
def qpm{n:Nat}(h2:2<=n)(h:n<128):minRun' n n 0<=n/\n<=2*minRun' n n 0:=by
 obtain⟨f,rfl⟩:∃f,n=f+2:=⟨n-2,by lia⟩;rw[minRun'_succ];by_cases q:f+2<64
 .rw[if_pos q];lia
 .rw[if_neg q,minRun'_succ,if_pos (by lia)];lia
def rV{b:Array Nat}{z n:Nat}{Q:ForInStep U3->SortSt->Prop}(h:Q (.yield (none,0+n)) (sS κ el b #[(0,n,0)] g)):wpS ρ A' E s (uP z 0 n) Q (sS κ el b #[] g):=jc (wpS_get (jc (ki (jf h))))
def rT{b:Array Nat}{z n n1:Nat}{Q:ForInStep U3->SortSt->Prop}(hz:0<z)(h:∀q,Q (.yield (none,n1+n)) (sS κ el b #[(0,n1,q),(n1,n,0)] g)):wpS ρ A' E s (uP z n1 n) Q (sS κ el b #[(0,n1,0)] g):=by
 refine jc (wpS_get (jc (xf (qq5 (Q:=λc st=>c=(none,())/\st=sS κ el b #[(0,n1,0)] g) hz (jc (wpS_get (jf ⟨_,rfl,rfl,rfl⟩)))) ?_)));rintro c st ⟨rfl,rfl⟩;refine jc (ki (jc (ki (jf ?_))));have:=h (power' z (2*0+n1) (2*0+n1+n1+n) z);have e:sS κ el b #[(0,n1,power' z (2*0+n1) (2*0+n1+n1+n) z),(n1,n,0)] g=SortSt.mk' κ (mE el b) (((#[(0,n1,0)]:Array (Nat×Nat×Nat)).modify 0 λp=>(p.1,p.2.1,power' z (2*0+n1) (2*0+n1+n1+n) z)).push (n1,n,0)) g none:=by simp[Array.modify,Array.modifyM];rfl
 rw[e]at this;exact this
def Tw(κ:SortKind)(el:Nat->Keyed)(N g:Nat)(st:SortSt):Prop:=∃n1 b q,0<n1/\n1<N/\Pm N b/\Upr b 0 n1/\Upr b n1 N/\st=sS κ el b #[(0,n1,q),(n1,N-n1,0)] g
def F9(L:ck ρ A' E s κ el N)(P:Pm N a)(h2:2<=N)(zv:N<128){Q:Unit->SortSt->Prop}(h:∀p g,Q () (sS κ el (List.range N).toArray p g)):wpS ρ A' E s sortRuns' Q (sS κ el a #[] g):=by
 rw[qs6];refine jc (wpS_get ?_);dsimp only;rw[show(arrOf (sS κ el a #[] g)).size=N by show(mE el a).size=N;rw[kJ,Array.size_map,P.size]];let⟨m1,m2⟩:=qpm h2 zv;generalize minRun' N N 0=r at m1 m2;have one:∀{b:Array Nat},Pm N b->Upr b 0 N->b=(List.range N).toArray:=λ{b} Pb u=>by apply ext';refine Ho (λi j ij hj=>?_) Pb.perm;rw[eY,eY];exact u i j (zero_le _) ij (by rw[<-Pb.size];simpa using hj)
 refine jc (xf (xr
  (I:=λx c st=>(x=0/\c=(none,0)/\st=sS κ el a #[] g)∨(x=1/\∃n1 b,c=(none,n1)/\r<=n1/\0<n1/\n1<=N/\Pm N b/\Upr b 0 n1/\st=sS κ el b #[(0,n1,0)] g)∨(2<=x/\c=(none,N)/\Tw κ el N g st))
  (Q:=λc st=>c=(none,N)/\((∃b,Pm N b/\Upr b 0 N/\st=sS κ el b #[(0,N,0)] g)∨Tw κ el N g st)) ?_ ?_ (.inl ⟨rfl,rfl,rfl⟩)) ?_)
 .rintro x c st _ _ (⟨rfl,rfl,rfl⟩|⟨rfl,n1,b,rfl,r1,z1,n1s,Pb,u1,rfl⟩|⟨hx1,rfl,hD⟩)<;>unfold stp<;>dsimp only
  .rw[if_neg (by lia)];refine jc (Ef L P (by lia) (by lia) λn b n1 n2 lb u=>?_);dsimp only;by_cases q:n<r
   .rw[if_pos q];refine jc (wpS_lift (k8 ⟨rfl,jc (Fm L lb.p n1 (by lia) (by lia) u λb3 l3 u3=>rV (.inr (.inl ⟨rfl,_,b3,by rw[x8],by lia,by lia,by lia,l3.p,?_,rfl⟩)))⟩))
    rwa [x8]at u3
   .rw[if_neg q];rw[x8]at u;exact rV (.inr (.inl ⟨rfl,_,b,by rw[x8],by lia,by lia,by lia,lb.p,u,rfl⟩))
  .by_cases full:n1≥N
   .rw[if_pos full];obtain rfl:n1=N:=by lia
    exact jf ⟨rfl,.inl ⟨b,Pb,u1,rfl⟩⟩
   .rw[if_neg full];refine jc (Ef L Pb (by lia) (by lia) λn b2 n1' n2' lb u=>?_);dsimp only;have e:n1+(N-n1)=N:=by lia
    have fin:∀b3,Low N n1 b b3->Upr b3 n1 (n1+(N-n1))->∀q,2<=1+1/\((none,n1+(N-n1)):U3)=(none,N)/\Tw κ el N g (sS κ el b3 #[(0,n1,q),(n1,N-n1,0)] g):=λb3 l u3 q=>⟨jg 2,by rw[e],n1,b3,q,z1,by lia,l.p,λi j i1 ij jn=>by rw[l.o i (by lia),l.o j jn];exact u1 i j i1 ij jn,by rwa [e]at u3,rfl⟩;by_cases q:n<r
    .rw[if_pos q,show min (N-n1) r=N-n1 by lia];exact jc (wpS_lift (k8 ⟨rfl,jc (Fm L lb.p n1' (by lia) (by lia) u λb3 l3 u3=>rT (by lia) λq=>.inr (.inr (fin b3 (lb.trans l3) u3 q)))⟩))
    .rw[if_neg q];obtain rfl:n=N-n1:=by lia
     exact rT (by lia) λq=>.inr (.inr (fin b2 lb u q))
  .rw[if_pos (jg _)];exact jf ⟨rfl,.inr hD⟩
 .rintro c st (⟨q,_⟩|⟨q,_⟩|⟨_,hc,hD⟩)
  .lia
  .lia
  .exact⟨hc,.inr hD⟩
 .rintro c st ⟨rfl,hD⟩;refine jc (xf (xr (I:=λx c st=>c=(none,())/\((∃p g,p.size=1/\st=sS κ el (List.range N).toArray p g)∨x=0/\Tw κ el N g st)) (Q:=λc st=>c=(none,())/\∃p g,st=sS κ el (List.range N).toArray p g) ?_ ?_ ⟨rfl,?_⟩) ?_)
  .rintro x c st _ _ ⟨rfl,⟨p,g,p1,rfl⟩|⟨rfl,n1,b,q,z1,z2,Pb,u1,u2,rfl⟩⟩<;>refine jc (wpS_get ?_)
   .rw[if_pos (show(pendingOf (sS κ el (List.range N).toArray p g)).size<=1 from Nat.le_of_eq p1)];exact jf ⟨rfl,p,g,rfl⟩
   .rw[if_neg (show¬(pendingOf (sS κ el b #[(0,n1,q),(n1,N-n1,0)] g)).size<=1 from Nat.not_succ_le_self 1)];exact jc (qvc L Pb z1 (by lia) (by lia) u1 u2 λp g hp=>jf ⟨rfl,.inl ⟨p,g,hp,rfl⟩⟩)
  .rintro c st ⟨rfl,⟨p,g,_,rfl⟩|⟨z,_⟩⟩
   .exact⟨rfl,p,g,rfl⟩
   .lia
  .rcases hD with⟨b,Pb,u,rfl⟩|hD
   .exact .inl ⟨_,g,rfl,by rw[one Pb u]⟩
   .exact .inr ⟨rfl,hD⟩
  .rintro c st ⟨rfl,p,g,rfl⟩;exact jf (h p g)
end
end L2
namespace L2
open PySem PySem.Spec PyProof.Rows
section
variable{X:Cx}{z5:Z3}{J:St}{H:Hp}{s:Shared}
def qkx{P c:Addr}{params:Arguments}{body:Expr}{scope:Scope}{zw:List (Str×Addr)}{pos:Pos}{Q:Z0}{E:Z0}(I:Inv X z5 J H s)(hH:H P=some (.lam pos (X.env.qual++"<lambda>")))(hdef:defaultsOf params X.env=([],[]))(hcl:closureFor scope X.env=pure zw)(hge0:X.env.globals=mainGlobals)(zz:X.env.code=.ref c)(C:W.CodeHd X.base c P)(hb:X.base.BuiltinsAt X.mg P)
 (k:∀(f c':Addr) (ctv:Value) (H':Hp) (s':Shared),Inv X z5 J H' s'->(∀a o,H a=some o->H' a=some o)->(∀a,H' a≠none->H a≠none∨s.heap.objs.size<=a)->s'.heap.get? f=some (W.kla_obj "<lambda>" (X.env.qual++"<lambda>") params body scope zw ((X.mg "__name__").getD .none) c' ctv)->H' f=none->s.heap.objs.size<=f->s'.heap.CodeRec (.ref c') (X.env.qual++"<lambda>")->H' c'=some (.own P)->(∃ps:Array Value,s'.heap.get? P=some {cls:=.none,data:=.fields ps}/\TriplesOk ps.toList/\codeAmong pos ps.toList=some (.ref c'))->Q (.ref f) s'):
 wpAny (model X.prog X.w) X.A (eval (.Lambda params body scope pos) X.env) Q E s:=by
 let⟨ps,e,t,r⟩:=I.hok P _ hH;have hgs:s.heap.Ns mainGlobals X.mg:=I.mod.glob.keeps I.bk;have hgP:mainGlobals≠P:=λq=>by obtain⟨o,es,ep,e1,hd,_⟩:=I.mod.glob;have:=(I.bs _ _ e1).2;rw[q,hH]at this;cases this
 obtain⟨bm,ob,b1,b2,b3,b4,b5,b6⟩:=hb;have hb':s.heap.BuiltinsAt X.mg P:=⟨bm,ob,b1,b2,b3,b4,I.bk _ _ b5,b6⟩;have nP:∀b,H b=none->b≠P:=λb h q=>by rw[q,hH]at h;cases h
 refine W.kla_eval hdef ?_;rcases r with hnf|⟨c',hf,hc,hcd⟩
 .refine W.kla_makeFunction hcl hge0 hgs zz (C.keeps I.bk) e t hnf hgP hb' λc' ctv h' tk hx hge hlt hrec htb=>?_;have hc0:H c'=none:=I.hok.fresh hge;have up:∀b o,b≠P->s.heap.get? b=some o->(h'.push (W.kla_obj "<lambda>" (X.env.qual++"<lambda>") params body scope zw ((X.mg "__name__").getD .none) c' ctv)).get? b=some o:=λb o hb e=>je _ (hx b o hb e);have hne:∀b o,H b=some o->b≠c':=λb o h q=>by rw[q,hc0]at h;cases h
  have hpc:P≠c':=hne P _ hH;have hrec2:=hrec.push (W.kla_obj "<lambda>" (X.env.qual++"<lambda>") params body scope zw ((X.mg "__name__").getD .none) c' ctv);have hok:HOk X.prog X.w (aM H c' (.own P)) (h'.push (W.kla_obj "<lambda>" (X.env.qual++"<lambda>") params body scope zw ((X.mg "__name__").getD .none) c' ctv)):=λb o hb=>by
   by_cases q:b=c'
   .subst q;rw[cA]at hb;cases hb;obtain⟨c2,oc,vs,tq,hc2,hoc,_⟩:=hrec2;cases hc2;exact⟨oc,hoc⟩
   .rw[aX q]at hb;by_cases q2:b=P
    .subst q2;rw[hH]at hb;cases hb;refine⟨ps++#[rawInt pos.line,rawInt pos.col,.ref c'],je _ htb,?_,.inr ⟨c',?_,cA,hrec2⟩⟩
     .rw[toList_append];exact TriplesOk_snoc _ _ _ _ t
     .rw[toList_append];exact codeAmong_snoc _ t hnf
    .refine(I.hok b o hb).stay (λd u hd e1=>up d u ?_ e1) (λd hd=>by rw[aX (hne d _ hd)];exact hd) λd xs hd=>by rw[aX (hne d _ hd)];exact hd
     rcases hd with rfl|hd
     .exact q2
     .exact λz=>by rw[z,hH]at hd;cases hd
  have I2:Inv X z5 J (aM H c' (.own P)) {s with heap:=h'.push (W.kla_obj "<lambda>" (X.env.qual++"<lambda>") params body scope zw ((X.mg "__name__").getD .none) c' ctv),toks:=tk}:=
   I.step (g':=s.gens) (d':=s.drawn) (ch:=[]) (λ_ z=>nomatch z) (λb o _ _ _ e1 n=>up b o (nP b n) e1) (λb o _ _ _ e1 n=>⟨o.slots,up b o (nP b n) e1⟩)
    (λb o _ e1 n=>by rw[aX (jq (jw (jd e1) hge))];exact n)
    (λb o _ e1=>by
      by_cases q:b=P
      .rw[q];exact⟨_,je _ htb⟩
      .exact⟨o,up b o q e1⟩)
    (λb xs h=>by rw[aX (hne b _ h)];exact h) (λb o u h=>by rw[aX (hne b _ h)];exact h) (λb ps h=>⟨#[],by rw[aX (hne b _ h),h];simp⟩)
    (λm hn=>(hn.extBut hx (nP _ I.free)).push _) hok I.bare
  have hfs:s.heap.objs.size<=h'.objs.size:=jz hge (le_of_lt hlt);refine k h'.objs.size c' ctv _ _ I2 (λa o h=>by rw[aX (hne a o h)];exact h) (λa h=>?_) (ju _ rfl) ?_ hfs hrec2 cA ⟨ps++#[rawInt pos.line,rawInt pos.col,.ref c'],je _ htb,by rw[toList_append];exact TriplesOk_snoc _ _ _ _ t,by rw[toList_append];exact codeAmong_snoc _ t hnf⟩
  .by_cases q:a=c'
   .rw[q];exact .inr hge
   .rw[aX q]at h;exact .inl h
  .rw[aX (ne_of_gt hlt)];exact I.hok.fresh hfs
 .refine W.kla_makeFunctionHit (mg:=X.mg) hcl hge0 hgs zz (C.keeps I.bk) e t hf hb' λctv h' tk hk hsz=>?_;have up:∀b o,s.heap.get? b=some o->(h'.push (W.kla_obj "<lambda>" (X.env.qual++"<lambda>") params body scope zw ((X.mg "__name__").getD .none) c' ctv)).get? b=some o:=λb o e=>je _ (hk b o e);have I2:Inv X z5 J H {s with heap:=h'.push (W.kla_obj "<lambda>" (X.env.qual++"<lambda>") params body scope zw ((X.mg "__name__").getD .none) c' ctv),toks:=tk}:=
   I.step (g':=s.gens) (d':=s.drawn) (ch:=[]) (λ_ z=>nomatch z) (λb o _ _ _ e1 n=>up b o e1) (λb o _ _ _ e1 n=>⟨o.slots,up b o e1⟩) (λb o _ e1 n=>n) (λb o _ e1=>⟨o,up b o e1⟩) (λb xs h=>h) (λb o u h=>h) (λb ps h=>⟨#[],by rw[h];simp⟩)
    (λm hn=>hn.keeps up) (I.hok.kept up) I.bare
  exact k h'.objs.size c' ctv _ _ I2 (λa o h=>h) (λa h=>.inl h) (ju _ rfl) (I.hok.fresh hsz) hsz (hcd.keeps up) hc ⟨ps,up _ _ e,t,hf⟩
end
section
variable{prog:Program}{w:World}{A:Around}{E:Z0}{s:Shared}
def Gb{env:Env}{v:Str}{a:Addr}{its:Zd}{x:Value}{i:Nat}{m:Za}{p1 q1 r1:Pos}{j1:Nat}{Q:Z0}(zi:env.scope.kind=.function)(hk:env.scope.names.lookup v=some .local)(hn:s.heap.Ns env.locals m)(hm:m v=some (.ref a))(hd:(v==("__debug__":Str))=false)(ht:IsTup s.heap a its)(hi:its[i]? =some x)(hz:i<1000)(k:∀tk,Q x {s with toks:=tk}):
 wpAny (model prog w) A (eval (.Subscript (.Name v p1) (.Constant (.int i) j1 q1) r1) env) Q E s:=by
 apply Subscript_;refine wpAny_Name (wpAny_loadName_local zi hk hn hm ?_) hd;apply wpAny_Constant_int;exact subscriptTail_builtinR (IsTup.typeIs ht) slot_tuple_getitem.lookup
  (getItem_tuple ht (by lia) (by lia) (seqIndex_of (by lia) (by simpa using ((Array.getElem?_eq_some_iff.mp hi).1))) hi ⟨rfl,k _⟩) rfl
abbrev nh(v:Str)(p1 q1 r1 p2 q2 r2 pos:Pos)(j1 j2:Nat)(x1:Nat):Expr:=.Tuple [.Subscript (.Name v p1) (.Constant (.int 0) j1 q1) r1,.Subscript (.Name v p2) (.Constant (.int 1) j2 q2) r2] x1 pos
def qpv{f c' a:Addr}{name qual v:Str}{params:Arguments}{scope:Scope}{pm ctv x0 x1:Value}{its:Zd}{p1 q1 r1 p2 q2 r2 pos:Pos}{j1 j2:Nat}{xc:Nat}{Q:Z0}(hroom:A.depth<recursionLimit)(lim:s.heap.NoLimit)
 (ho:s.heap.get? f=some (W.kla_obj name qual params (nh v p1 q1 r1 p2 q2 r2 pos j1 j2 xc) scope [] pm c' ctv)) (hcd:s.heap.CodeRec (.ref c') qual) (hb:bindArgs (W.kla_fn name qual params (nh v p1 q1 r1 p2 q2 r2 pos j1 j2 xc) scope [] pm (.ref c') ctv) ⟨[.ref a],[]⟩=pure [(v,.ref a)])
 (hco:scope.isCoroutine=false) (hgen:scope.isGenerator=false) (zi:scope.kind=.function) (zq:∀x∈scope.names,x.2≠.cell) (hloc:scope.names.lookup v=some .local) (hd:(v==("__debug__":Str))=false) (ht:IsTup s.heap a its) (h0:its[0]? =some x0) (h1:its[1]? =some x1)
 (k:∀t s',Kq s s'->s.heap.objs.size<=t->s'.heap.get? t=some {cls:=.type "tuple",data:=.seq #[x0,x1]}->Q (.ref t) s'):wpAny (model prog w) A (call (.ref f) [.ref a]) Q E s:=by
 refine wpAny_call (W.kla_callFunE hroom ho rfl hco hgen rfl hcd ?_);rw[hb];refine jb (wpAny_newFunctionEnv zq (λy hy=>by rw[List.mem_singleton.mp hy];exact hloc) (λh₁ hns hsb=>⟨lim.fresh _ hsb,W.kla_codeExpr ?_⟩) zi);have hk₁:=λb o e=>hsb.extBut b o (jq (jd e)) (je _ e);have ht1:IsTup h₁ a its:=let ⟨o,e,c⟩:=ht;⟨o,hk₁ _ _ e,c⟩
 have hm:(λx=>([(v,Value.ref a)]:List (Str×Value)).reverse.lookup x) v=some (.ref a):=by simp
 have hsz:s.heap.objs.size<=h₁.objs.size:=by obtain⟨o,es,ep,e1,_⟩:=hns;exact le_of_lt (jd e1)
 refine wpAny_Tuple_spliced (vx ?_);refine Gb zi hloc hns hm hd ht1 h0 (by decide) λtk1=>?_;apply vx;refine Gb zi hloc hns hm hd ht1 h1 (by decide) λtk2=>?_;refine Calls.spliced_nil ⟨by show 2<=sizeLine;decide,?_⟩;exact k _ _ ⟨λb o e=>je _ (hk₁ b o e),rfl,rfl,rfl⟩ hsz (ju _ rfl)
def Ex{ot ou:Obj}{nt nu:Nat}{t u x y:Addr}{c d:Int}{tc td:Tok}{vs us:Ze}{ws zs:Zf}{Q:Bool->Shared->Prop}(ht:s.heap.get? t=some ot)(dt:ot.data=.seq #[.int c tc,.ref x] nt)(hu:s.heap.get? u=some ou)(du:ou.data=.seq #[.int d td,.ref y] nu)
 (hx:s.heap.IsList x vs.toArray) (hy:s.heap.IsList y us.toArray) (hi:IntsAre vs ws) (hj:IntsAre us zs) (hl:ws.length=zs.length) (un:A.units+1<cLine) (k:Q (cR (c,ws) (d,zs)) s):wpAny (model prog w) A (keyLt' (tuples' true) (.ref t) (.ref u)) Q E s:=by
 refine W.kat_lt ht dt hu du ?_;show W.KatLex prog w A true _ Q [(.int c tc,.int d td),(.ref x,.ref y)] 0 s;refine W.kat_cons (wpAny_eqBool_int (W.kat_go (λe=>?_) λe=>?_))
 .have ecd:c=d:=by simpa using e
  subst ecd;have q1:cR (c,ws) (c,zs)=HT.lexLt ws zs:=if_pos rfl;rw[q1]at k;have ee:=qie (A:=A) hx hy hi hj hl (by lia);refine W.kat_yes (W.kat_cons (ee prog w _ _ ?_));by_cases z:ws=zs
  .subst z;rw[decide_eq_true rfl];refine W.kat_yes (W.kat_nil ?_);rw[Ah]at k;exact k
  .rw[decide_eq_false z];refine W.kat_no (W.kat_one _ _ ?_);exact qgu hx hy (by simpa using hi) (by simpa using hj) hl (by lia) k
 .have ncd:c≠d:=by simpa using e
  have q1:cR (c,ws) (d,zs)=decide (c<d):=if_neg ncd;rw[q1]at k;exact W.kat_no (oneLt_int k)
end
end L2
namespace L2
open PySem PySem.Spec PyProof.Rows PySem.W
def iA(qs:List (Int×List Int))(i j:Nat):Bool:=cR (qs.getD i (0,[])) (qs.getD j (0,[]))
def kA(qs:List (Int×List Int))(i j:Nat):Bool:=!iA qs j i
def c9(qs:List (Int×List Int)):List Nat:=(List.range qs.length).mergeSort (kA qs)
def jB(qs:List (Int×List Int)):(c9 qs).Perm (List.range qs.length):=List.mergeSort_perm _ _
def yA(qs:List (Int×List Int)):(c9 qs).Pairwise λi j=>kA qs i j=true:=by
 refine List.pairwise_mergeSort (λa b c h1 h2=>?_) (λa b=>?_) _
 .unfold kA iA at*;rw[not_eq_true']at*;exact qgw h2 h1
 .unfold kA iA;cases h:cR (qs.getD b (0,[])) (qs.getD a (0,[]))with
  |false=>rfl
  |true=>rw[lh h];rfl
def EW(qs:List (Int×List Int))(hd:∀i j,i<qs.length->j<qs.length->i≠j->qs.getD i (0,[])≠qs.getD j (0,[])):∃p,Pm qs.length p/\Up (iA qs) p qs.length:=by
 have ll:(c9 qs).length=qs.length:=by simpa using(jB qs).length_eq
 have P:Pm qs.length (c9 qs).toArray:=⟨by simpa using ll,jB qs⟩;refine⟨_,P,λi j ij jn=>?_⟩;have h:=List.pairwise_iff_getElem.mp (yA qs) i j (by lia) (by lia) ij;have d:=hd _ _ (P.lo (show i<_ by lia)) (P.lo jn) (P.ne (by lia) jn (by lia));have e:∀t,(ht:t<(c9 qs).length)->(c9 qs).toArray.getD t 0=(c9 qs)[t]:=λt ht=>by simp[ht]
 rw[e i (by lia),e j (by lia)]at d ⊢;unfold kA iA at h;rw[not_eq_true']at h;unfold iA;cases q:cR (qs.getD (c9 qs)[i] (0,[])) (qs.getD (c9 qs)[j] (0,[]))with
 |true=>rfl
 |false=>exact absurd (pd q h) d
def Pm.inv{n:Nat}{p:Array Nat}(P:Pm n p):Pm n ((List.range n).map λi=>p.toList.idxOf i).toArray/\∀i,i<n->p.getD (p.toList.idxOf i) 0=i:=by
 have e:p.toList.map (λi=>p.toList.idxOf i)=List.range n:=by apply ext_getElem (by simp[P.size]);intro i h1 h2;rw[List.getElem_map,(P.perm.nodup_iff.mpr List.nodup_range).idxOf_getElem];simp
 refine⟨⟨by simp,?_⟩,λi hi=>?_⟩
 .have:=P.perm.symm.map λi=>p.toList.idxOf i;rw[e]at this;exact this
 .have h:=List.idxOf_lt_length_iff.mpr (P.perm.mem_iff.mpr (List.mem_range.mpr hi));have:=List.getElem_idxOf h;rw[length_toList]at h;rw[<-eY,jl,jh (by rw[length_toList];exact h),this];rfl
section
variable{ρ:Model}{A':Around}{E:Z0}{s:Shared}{κ:SortKind}{lt:Nat->Nat->Bool}{n:Nat}{p:Array Nat}{ks vs:Ze}
def F8(O:Ord lt n)(P:Pm n p)(U:Up lt p n)(hk:ks.length=n)(hv:vs.length=n)(h2:2<=n)(zv:n<128)
 (L:∀i j,i<n->j<n->∀(st:SortSt) (Q:Option Bool->SortSt->Prop),kindOf st=κ->Q (some (lt i j)) st->wpS ρ A' E s (lt' (ks.getD i .none,vs.getD i .none) (ks.getD j .none,vs.getD j .none)) Q st)
 {Q:Unit->SortSt->Prop} (h:∀st,failedOf st=none->(arrOf st).map (·.2)=(p.toList.map λi=>vs.getD i Value.none).toArray->Q () st):wpS ρ A' E s sortRuns' Q (SortSt.mk' κ (ks.toArray.zip vs.toArray) #[] 7 none):=by
 obtain⟨I,inv⟩:=P.inv;have e0:mE (λr=>(ks.getD (p.getD r 0) Value.none,vs.getD (p.getD r 0) Value.none)) ((List.range n).map λi=>p.toList.idxOf i).toArray=ks.toArray.zip vs.toArray:=by
  apply ext';unfold mE;apply ext_getElem
  .simp[hk,hv]
  intro i h1 h2;simp at h1 h2;have:=inv i h1;simp at this;simp[this,hk,hv,h1]
 have r:=F9 (g:=7) (show ck ρ A' E s κ (λr=>(ks.getD (p.getD r 0) Value.none,vs.getD (p.getD r 0) Value.none)) n from λx y st Q hx hy hk q=>L _ _ (P.lo hx) (P.lo hy) st Q hk (by
  have:lt (p.getD x 0) (p.getD y 0)=decide (x<y):=by
   rcases Nat.lt_trichotomy x y with c|c|c
   .rw[decide_eq_true c];exact U x y c hy
   .subst c;rw[decide_eq_false (xo x)];cases z:lt (p.getD x 0) (p.getD x 0)with
    |false=>rfl
    |true=>exact(O.irr _ _ (P.lo hx) (P.lo hx) z).symm.trans z |>.symm▸rfl
   .rw[decide_eq_false (by lia)];exact O.irr _ _ (P.lo hy) (P.lo hx) (U y x c hx)
  rw[this];exact q)) I h2 zv λp' g'=>h _ rfl ?_
 .unfold sS at r;rw[e0]at r;exact r
 .show(mE _ _).map _=_;rw[kJ];apply ext';apply ext_getElem
  .simp[P.size]
  intro i h1 h2;simp at h1 h2;simp[h1,h2]
end
noncomputable def fB(h₀:Heap)(L:Addr)(h:Heap):List (Addr×Obj):=(List.range h.objs.size).filterMap λb=>match h.get? b with
 | some o=>if b=L then none else(match h₀.get? b with
  |some _=>none
  |none=>some (b,o))
 |none=>none
def mem_allN{h₀ h:Heap}{L b:Addr}{o:Obj}:(b,o)∈fB h₀ L h↔h.get? b=some o/\b≠L/\h₀.get? b=none:=by
 unfold fB;rw[List.mem_filterMap];constructor
 .rintro⟨x,_,hx⟩;cases e:h.get? x with
  |none=>rw[e]at hx;cases hx
  | some u=>
   rw[e]at hx;dsimp only at hx;split at hx
   .cases hx
   .rename_i q;cases e0:h₀.get? x with
    |some v=>rw[e0]at hx;cases hx
    | none=>
     rw[e0]at hx;cases hx;exact⟨e,q,e0⟩
 .rintro⟨e,q,e0⟩;refine⟨b,List.mem_range.mpr (jd e),?_⟩;rw[e];dsimp only;rw[if_neg q,e0]
def qjh{h₀ h:Heap}{L:Addr}:News h₀ L h (fB h₀ L h):=λp hp=>mem_allN.mp hp
def Af{h₀ h h':Heap}{L:Addr}{m m':Za}(F:Fr h₀ L h m)(F':Fr h₀ L h' m')(k:∀p∈fB h₀ L h,h'.get? p.1=some p.2):∀b o,h.get? b=some o->b≠L->h'.get? b=some o:=λb o e q=>by
 cases e0:h₀.get? b with
 | some v=>
  have:=F.keep b v e0;rw[e]at this;cases this;exact F'.keep b o e0
 |none=>exact k (b,o) (mem_allN.mpr ⟨e,q,e0⟩)
def iU(h:Heap)(L:Addr)(v:Value)(q:Int×List Int):Prop:=∃a its t x vs,v=.ref a/\a≠L/\x≠L/\IsTup h a its/\its[0]? =some (.int q.1 t)/\its[1]? =some (.ref x)/\h.IsList x vs.toArray/\IntsAre vs q.2
def oJ(h:Heap)(L:Addr)(rest:Z3)(v:Value)(q:Int×List Int):Prop:=∃a t x vs,v=.ref a/\(a,({cls:=.type "tuple",data:=.seq #[.int q.1 t,.ref x]}:Obj))∈rest/\x≠L/\h.IsList x vs.toArray/\IntsAre vs q.2
def Dn(qs:List (Int×List Int))(hd:∀i j,i<qs.length->j<qs.length->i≠j->qs.getD i (0,[])≠qs.getD j (0,[])):Ord (λi j=>cR (qs.getD i (0,[])) (qs.getD j (0,[]))) qs.length where
 irr:=λa b _ _ h=>lh h
 tot:=λa b ha hb ab h=>by
  cases q:cR (qs.getD b (0,[])) (qs.getD a (0,[]))with
  |true=>rfl
  |false=>exact absurd (pd h q) (hd a b ha hb ab)
 tr:=λa b c _ _ _ h1 h2=>by
  cases q:cR (qs.getD a (0,[])) (qs.getD c (0,[]))with
  |true=>rfl
  | false=>
   have:=ut _ _ _ h2 q;rw[h1]at this;cases this
section
variable{prog:Program}{w:World}{A:Around}{E:Z0}{s:Shared}{h₀:Heap}{L f c':Addr}{m:Za}
def tj(s s1:Shared):Prop:=s1.gens=s.gens/\s1.drawn=s.drawn/\s1.os=s.os
def sk(prog:Program)(w:World)(A:Around)(h₀:Heap)(L f:Addr)(m:Za)(s:Shared):Prop:=∀(s1:Shared) (v:Value) (q:Int×List Int) (Q:Z0),tj s s1->Fr h₀ L s1.heap m->(∀b o,s.heap.get? b=some o->b≠L->s1.heap.get? b=some o)->iU s.heap L v q->
 (∀t s' tc x vs,Kq s1 s'->s1.heap.objs.size<=t->x≠L->s'.heap.get? t=some {cls:=.type "tuple",data:=.seq #[.int q.1 tc,.ref x]}->s.heap.IsList x vs.toArray->IntsAre vs q.2->Q (.ref t) s')->wpAny (model prog w) A (call (.ref f) [v]) Q (λ_ _=>False) s1
theorem Fx{kS:Addr}{Fin:List Value->Nat->Shared->Prop}{news:Z3}{qs:List (Int×List Int)}(hf:sk prog w A h₀ L f m s)(F0:Fr h₀ L s.heap m)(base:∀p∈fB h₀ L s.heap,p∈news)
 (fin:∀(ks:Ze) (e:Nat) (tps:Z3) (s1:Shared),tj s s1->Fr h₀ L s1.heap m->News h₀ L s1.heap ((kS,seqObj "list" ks.toArray e)::(tps++news))->(∀p∈tps++news,p.1≠kS)->(∀p∈tps,∀q∈news,q.1≠p.1)->Paired (oJ s.heap L (tps++news)) ks qs->Fin ks e s1):
 ∀(r:Ze) (qr ps:List (Int×List Int)) (ks:Ze) (e:Nat) (tps:Z3) (s1:Shared),qs=ps++qr->tj s s1->Fr h₀ L s1.heap m->News h₀ L s1.heap ((kS,seqObj "list" ks.toArray e)::(tps++news))->(∀p∈tps++news,p.1≠kS)->(∀p∈tps,∀q∈news,q.1≠p.1)->
   Paired (iU s.heap L) r qr->Paired (oJ s.heap L (tps++news)) ks ps->KatKeys prog w A h₀ L m kS (.ref f) Fin r ks e s1
 | [],qr,ps,ks,e,tps,s1,eq,so,F,N,hk,hn,hr,hp=>by cases hr;rw[append_nil]at eq;exact .nil (fin ks e tps s1 so F N hk hn (by rw[eq];exact hp))
 | v::r,qr0,ps,ks,e,tps,s1,eq,so,F,N,hk,hn,hr0,hp=>by
  obtain⟨q,qr,rfl,hv,hr⟩:∃q qr,qr0=q::qr/\iU s.heap L v q/\Paired (iU s.heap L) r qr:=by
   cases hr0 with
   |cons h t=>exact⟨_,_,rfl,h,t⟩
  have keeps:=Af F0 F λp hp'=>(N p (ji _ (x9 _ (base p hp')))).1;refine .cons (hf s1 v q _ so F keeps hv λt s2 tc x vs kq ht xL et hx hi=>?_);have F2:Fr h₀ L s2.heap m:=⟨F.ns.keeps kq.heap,λb o e=>kq.heap _ _ (F.keep b o e),F.above⟩;have tL:=jw F.ns.lt ht;have N2:News h₀ L s2.heap ((kS,seqObj "list" ks.toArray e)::(((t,{cls:=.type "tuple",data:=.seq #[.int q.1 tc,.ref x]})::tps)++news)):=λp hp'=>by
   rcases List.mem_cons.mp hp' with rfl|hp'
   .have:=N _ jj;exact⟨kq.heap _ _ this.1,this.2⟩
   .rw[cons_append]at hp';rcases List.mem_cons.mp hp' with rfl|hp'
    .exact⟨et,ne_of_gt tL,vw (jz F.above (le_of_lt tL))⟩
    .have:=N p (ji _ hp');exact⟨kq.heap _ _ this.1,this.2⟩
  have hk2:∀p∈((t,({cls:=.type "tuple",data:=.seq #[.int q.1 tc,.ref x]}:Obj))::tps)++news,p.1≠kS:=λp hp'=>by
   rw[cons_append]at hp';rcases List.mem_cons.mp hp' with rfl|hp'
   .exact ne_of_gt (jw (jd (N _ jj).1) ht)
   .exact hk p hp'
  have hn2:∀p∈(t,({cls:=.type "tuple",data:=.seq #[.int q.1 tc,.ref x]}:Obj))::tps,∀y∈news,y.1≠p.1:=λp hp' y hy=>by
   rcases List.mem_cons.mp hp' with rfl|hp'
   .exact jq (jw (jd (N y (ji _ (x9 _ hy))).1) ht)
   .exact hn p hp' y hy
  refine KatBack.intro F2 N2 (.head hk2) λh' c F' N'=>?_;refine Fx hf F0 base fin r qr (ps++[q]) (ks++[.ref t]) c ((t,{cls:=.type "tuple",data:=.seq #[.int q.1 tc,.ref x]})::tps) {s2 with heap:=h'} (by rw[eq,List.append_assoc];rfl) ⟨kq.gens.trans so.1,kq.drawn.trans so.2.1,kq.os.trans so.2.2⟩ F' N' hk2 hn2 hr ?_;refine Paired.snoc (Paired.mapP hp λk y hy=>?_) ⟨t,tc,x,vs,rfl,by rw[cons_append];exact jj,xL,hx,hi⟩;obtain⟨a,t',x',vs',e1,e2,e3⟩:=hy;exact⟨a,t',x',vs',e1,by rw[cons_append];exact ji _ e2,e3⟩
theorem G0{D:Addr}{o:Obj}{post:Z3}(hp:∀p∈post,p.1≠D):∀{pre:Z3},(∀p∈pre,p.1≠D)->UpdF D o (pre++(D,o)::post) (λo'=>pre++(D,o')::post)
 |[],_=>.head hp
 |x::pre,h=>.tail (h x jj) (G0 hp λp hp'=>h p (ji _ hp'))
def uM{α β:Type}{G:α->β->Prop}{a:α}{b:β}:∀{xs:List α} {ys:List β} {i:Nat},Paired G xs ys->i<xs.length->G (xs.getD i a) (ys.getD i b)
 :=by
 intro xs ys i r;induction r generalizing i with
 |nil=>intro hi;cases hi
 | cons h _ ih=>
  intro hi;cases i with
  |zero=>exact h
  |succ i=>exact ih (by simpa using hi)
def Aj{α β:Type}{G:α->β->Prop}:∀{xs:List α} {ys:List β},Paired G xs ys->xs.length=ys.length
 :=by
 intro xs ys r;induction r with
 |nil=>rfl
 |cons _ _ ih=>exact congrArg Nat.succ ih
def qkz{h h1:Heap}{rest:Z3}(hr:∀p∈rest,h1.get? p.1=some p.2):∀{ks:Ze} {qs:List (Int×List Int)},Paired (oJ h L rest) ks qs->∃fs,KatTups h1 ks fs/\fs.length=ks.length/\∀v∈fs,∃c t,v=Value.int c t
 :=by
 intro ks qs r;induction r with
 |nil=>exact⟨[],.nil,rfl,λ_ z=>nomatch z⟩
 | cons e _ ih=>
  obtain⟨a,t,x,vs,rfl,e2,_⟩:=e;obtain⟨fs,h1,h2,h3⟩:=ih;refine⟨.int _ t::fs,.cons (hr _ e2) rfl rfl rfl h1,congrArg Nat.succ h2,λv hv=>?_⟩;rcases List.mem_cons.mp hv with rfl|hv
  .exact⟨_,_,rfl⟩
  .exact h3 v hv
end
section
variable{prog:Program}{w:World}{A:Around}{E:Z0}{s:Shared}{h₀:Heap}{L f:Addr}{m:Za}
def GY{a kS:Addr}{ks out:Ze}{st:SortSt}{e e1:Nat}{P:PySem.Fin->Shared->Prop}(ho:(arrOf st).map (·.2)=out.toArray)(lo:out.length<128)(lk:ks.length<128)(hf:failedOf st=none)(h:KatFin h₀ L m kS a ks e e1 out (λs3=>P (.done (.ret .none)) s3) s):
 wpAny (model prog w) A (ksk_tail a false e1 (.ref kS) st) P E s:=by
 obtain⟨nw,g,F,N,U,c⟩:=h;obtain⟨l,r,q0,q1,y1,y2⟩:=U.split;rw[q0]at N;have k1:=N (kS,seqObj "list" ks.toArray e) (x9 _ jj);have same:=km s.heap kS (Obj.mapSeq λ_=>(#[]:Zd));let⟨nw',g',F',N',U',c'⟩:=c _ _ (kas_fr F same k1.2.1 k1.2.2) (by rw[q1];exact news_set N y1 y2 same (vt k1.1 λ_=>(#[]:Zd)));obtain⟨l',r',q0',q1',y1',y2'⟩:=U'.split;rw[q0']at N';have k2:=N' (a,seqObj "list" #[] e1) (x9 _ jj);have same':=km (s.heap.update kS (Obj.mapSeq λ_=>(#[]:Zd))) a (Obj.mapSeq λ_=>out.toArray);obtain⟨c2,now'⟩:∃c2,((s.heap.update kS (Obj.mapSeq λ_=>(#[]:Zd))).update a (Obj.mapSeq λ_=>out.toArray)).get? a=some (seqObj "list" out.toArray c2):=⟨_,vt k2.1 λ_=>out.toArray⟩;unfold ksk_tail;dsimp only;rw[ho,if_neg Bool.false_ne_true];refine j9 (kj k1.1 rfl (j9 (kr (j9 (seqEpoch_at k2.1 rfl (j9 (kj k2.1 rfl ?_ (zero_le _) ?_)))))) ?_ (zero_le _))
 .rw[hf];simp only[bne_self_eq_false,false_eq_true,if_false];refine jb (c' _ c2 (kas_fr F' same' k2.2.1 k2.2.2) ?_);rw[q1'];exact news_set N' y1' y2' same' now'
 .rw[jx,kf];lia
 .rw[jx,kf];lia
def qog{a kS:Addr}{ks vs out:Ze}{e e1:Nat}{P:PySem.Fin->Shared->Prop}(hl:ks.length=vs.length)(zv:vs.length<128)(lo:out.length=vs.length)(h1:vs.length<2->((toArray ks).zip vs.toArray).map (·.2)=out.toArray)
 (H:2<=vs.length->wpAny (model prog w) A (keyKind' ks.toArray) (λκ s'=>s'=s/\wpS (model prog w) A E s sortRuns' (λ_ st=>failedOf st=none/\(arrOf st).map (·.2)=out.toArray) (SortSt.mk' κ (ks.toArray.zip vs.toArray) #[] 7 none)) E s) (h:KatFin h₀ L m kS a ks e e1 out (λs3=>P (.done (.ret .none)) s3) s):
 wpAny (model prog w) A (ksk_end a false vs.toArray e1 (.ref kS) (toArray ks)) P E s:=by
 unfold ksk_end;dsimp only;rw[if_neg Bool.false_ne_true];by_cases h2:vs.length<2
 .have zu:vs.toArray.size<2:=by rw[jx];exact h2
  rw[if_pos zu,if_pos zu];refine j9 (jb ?_);rw[if_neg Bool.false_ne_true,StateT.run_pure];refine j9 (jb ?_);exact GY (h1 h2) (by lia) (by lia) rfl h
 .have e7:¬vs.toArray.size<2:=by rw[jx];exact h2
  rw[if_neg e7,if_neg e7];refine j9 (xg (H (by lia)) ?_ λ_ _ z=>z);rintro κ s' ⟨rfl,hw⟩;rw[if_neg Bool.false_ne_true];refine j9 (xg hw ?_ λ_ _ z=>z);rintro⟨⟨⟩,st⟩ s' ⟨rfl,hf,ho⟩;exact GY ho (by lia) (by lia) hf h
theorem GX{kS:Addr}{fv:Value}{Fin:List Value->Nat->Shared->Prop}{n:Nat}{body:Value->PUnit->Sem (ForInStep PUnit)}(hn:n<128)
 (one:∀x ks e (s1:Shared) (C:Value->Nat->Shared->Prop),ks.length<128->wpAny (model prog w) A (call fv [x]) (KatBack h₀ L m kS ks e C) (λ_ _=>False) s1->wpAny (model prog w) A (body x ⟨⟩) (λr s2=>r=.yield ⟨⟩/\∃k c,s2.heap.get? kS=some (seqObj "list" (toArray (ks++[k])) c)/\C k c s2) E s1):
 ∀(r ks:Ze) (e:Nat) (s1:Shared),ks.length+r.length=n->s1.heap.get? kS=some (seqObj "list" (toArray ks) e)->KatKeys prog w A h₀ L m kS fv Fin r ks e s1->wpAny (model prog w) A (forIn r PUnit.unit body) (λ_ s2=>∃ks e,s2.heap.get? kS=some (seqObj "list" (toArray ks) e)/\ks.length=n/\Fin ks e s2) E s1
 | [],ks,e,s1,hl,hg,h=>by rw[forIn_nil];exact jb ⟨ks,e,hg,hl,h⟩
 | x::r,ks,e,s1,hl,hg,h=>by rw[forIn_cons];have l2:(x::r).length=r.length+1:=rfl;refine j9 (xg (one x ks e s1 _ (by lia) h) ?_ λ_ _ z=>z);rintro q s2 ⟨rfl,k,c,hg2,h2⟩;exact GX hn one r (ks++[k]) c s2 (by rw[jt];show ks.length+1+_=_;lia) hg2 h2
def sn(prog:Program)(w:World)(A:Around)(E:Z0)(h₀:Heap)(L:Addr)(m:Za)(kS a:Addr)(e1:Nat)(vs:Ze)(C:Shared->Prop)(ks:Ze)(e:Nat)(s:Shared):Prop:=
 ∃out:List Value,out.length=vs.length/\(vs.length<2->((toArray ks).zip vs.toArray).map (·.2)=out.toArray)/\
  (2<=vs.length->wpAny (model prog w) A (keyKind' ks.toArray) (λκ s'=>s'=s/\wpS (model prog w) A E s sortRuns' (λ_ st=>failedOf st=none/\(arrOf st).map (·.2)=out.toArray) (SortSt.mk' κ (ks.toArray.zip vs.toArray) #[] 7 none)) E s)/\KatFin h₀ L m kS a ks e e1 out C s
def qjv{a kS:Addr}{vs:Ze}{fv:Value}{e1:Nat}{P:PySem.Fin->Shared->Prop}(hk:s.heap.get? kS=some (seqObj "list" #[] 0))(h2:vs.length<128)
 (h:KatKeys prog w A h₀ L m kS fv (λks e s1=>sn prog w A E h₀ L m kS a e1 vs (λs2=>P (.done (.ret .none)) s2) ks e s1) vs [] 0 s):wpAny (model prog w) A (ksk_rest a fv false vs.toArray e1 (.ref kS)) P E s:=by
 refine j9 (k8 ?_);rw[List.forIn_toArray];refine j9 (xg (GX h2 ?one vs [] 0 s (x8 _) hk h) ?two λ_ _ z=>z)
 case two=>
  rintro _ s1 ⟨ks,e,q1,q2,q3⟩;obtain⟨out,lo,z1,z2,z3⟩:=q3;exact j9 (listItems_at q1 rfl (qog q2 h2 lo z1 z2 z3))
 case one=>
  intro x ks e s1 C l64 hc;refine j9 (ve (xg hc ?_ λ_ _ z=>z.elim));rintro k s2 ⟨nw,g,F1,N1,U,c⟩;obtain⟨pre,post,q0,q1,z1,z2⟩:=U.split;rw[q0]at N1;have nC:=N1 (kS,seqObj "list" (toArray ks) e) (x9 _ jj);have same:=km s2.heap kS (Obj.mapSeq (·.push k));have grown:(toArray ks).push k=toArray (ks++[k]):=by simp
  have now:=vt nC.1 (·.push k);rw[grown]at now;refine j9 (kj nC.1 rfl ?_ ?_ ?_)
  .refine jb ⟨rfl,k,_,now,c _ _ (kas_fr F1 same nC.2.1 nC.2.2) ?_⟩;rw[q1];exact news_set N1 z1 z2 same now
  .rw[jx,kf];lia
  .rw[grown,jx,jt,kf];simp;lia
def qju{a:Addr}{vs:Ze}{fv:Value}{n:Nat}{nw:Z3}{P:PySem.Fin->Shared->Prop}(F:Fr h₀ L s.heap m)(N:News h₀ L s.heap nw)(ha:s.heap.get? a=some (seqObj "list" vs.toArray n))(aL:a≠L)(a0:h₀.get? a=none)(an:∀p∈nw,p.1≠a)(h2:vs.length<128)
 (h:∀(kS:Addr) (e1:Nat) (h1:Heap),Fr h₀ L h1 m->News h₀ L h1 ((kS,seqObj "list" #[] 0)::(a,seqObj "list" #[] e1)::nw)->a<kS->KatKeys prog w A h₀ L m kS fv (λks e s1=>sn prog w A E h₀ L m kS a e1 vs (λs2=>P (.done (.ret .none)) s2) ks e s1) vs [] 0 {s with heap:=h1}):
 wpAny (model prog w) A (ksk_tree a fv false) P E s:=by
 have cleared:=km s.heap a (Obj.mapSeq λ_=>(#[]:Zd));have now:=vt ha λ_=>(#[]:Zd);have sz:((s.heap.update a (Obj.mapSeq λ_=>(#[]:Zd))).push (seqObj "tuple" vs.toArray 0)).objs.size=s.heap.objs.size+1:=by rw[size_push',vv]
 have F2:=(kas_fr F cleared aL a0).push (seqObj "tuple" vs.toArray 0);have Llt:=F2.ns.lt;refine j9 (listItems_at ha rfl ?_);refine j9 (kj ha rfl ?_ ?_ (zero_le _))
 .refine j9 (seqEpoch_at now rfl ?_);refine j9 (wpAny_newTuple ?_ ?_)
  .refine j9 (wpAny_newList ?_ (zero_le _));refine xm (qjv (ju _ rfl) h2 (h _ _ _ (F2.push _) ?_ ?_))
   .intro p hp;rcases List.mem_cons.mp hp with rfl|hp
    .exact⟨ju _ rfl,ne_of_gt Llt,vw (jz F.above (le_of_lt Llt))⟩
    rcases List.mem_cons.mp hp with rfl|hp
    .exact⟨je _ (je _ now),aL,a0⟩
    .let⟨g1,g2⟩:=(kas_news N cleared an) p hp;exact⟨je _ (je _ g1),g2⟩
   .rw[sz];exact lt_succ_of_lt (jd ha)
  .show vs.length<=_;rw[kf];lia
 .rw[jx,kf];lia
def Hw:∀{ks vs:Ze},vs.length<2->ks.length=vs.length->((toArray ks).zip vs.toArray).map (·.2)=vs.toArray
 |[],[],_,_=>by simp
 |[_],[_],_,_=>by simp
 |[],_::_,_,h=>by simp at h
 |_::_,[],_,h=>by simp at h
 |_,_::_::_,h,_=>by simp at h;lia
 |_::_::_,[_],_,h=>by simp at h
def qep{l:Addr}{vs:Ze}{qs:List (Int×List Int)}{Q:Z0}(F:Fr h₀ L s.heap m)(hl:s.heap.IsList l vs.toArray)(zv:vs.length<128)(hq:Paired (iU s.heap L) vs qs)(hd:∀i j,i<qs.length->j<qs.length->i≠j->qs.getD i (0,[])≠qs.getD j (0,[]))
 (hw:∀i j,i<qs.length->j<qs.length->(qs.getD i (0,[])).2.length=(qs.getD j (0,[])).2.length) (hf:sk prog w A.in1.in1 h₀ L f m s) (un:A.in1.in1.units+1<cLine)
 (k:∀(D:Addr) (s4:Shared) (p:Array Nat) (c:Nat),tj s s4->Fr h₀ L s4.heap m->(∀b o,s.heap.get? b=some o->b≠L->s4.heap.get? b=some o)->s.heap.get? D=none->D≠L->Pm vs.length p->Up (λi j=>cR (qs.getD i (0,[])) (qs.getD j (0,[]))) p vs.length->
   s4.heap.get? D=some {cls:=.type "list",data:=.seq (toArray (p.toList.map λi=>vs.getD i Value.none)) c}->Q (.ref D) s4):
 wpAny (model prog w) A (call (.builtin "sorted") [.ref l] [(Str.ofString "key",.ref f)]) Q E s:=by
 have lq:=Aj hq;let⟨p,Pp,Up'⟩:=EW qs hd;rw[<-lq]at Pp Up';refine call_function_entry_kw kind_sorted plain_sorted entry_sorted (ksk_s1 _ _) ?_;unfold Builtin.«sorted»;refine j9 (jb ?_);refine j9 (collect_list hl ?_ (by rw[kf];lia));refine j9 (wpAny_newList ?_ (by rw[kf];lia));have sz:((s.heap.push (seqObj "list" #[] 0)).update s.heap.objs.size (Obj.mapSeq (·++vs.toArray))).objs.size=s.heap.objs.size+1:=by rw[vv,size_push']
 have kp:∀b o,s.heap.get? b=some o->((s.heap.push (seqObj "list" #[] 0)).update s.heap.objs.size (Obj.mapSeq (·++vs.toArray))).get? b=some o:=λb o e=>by have:=jq (jd e);rw[Heap.get?_update_ne _ _ _ _ this,get?_push_ne _ _ _ this];exact e
 generalize (s.heap.push (seqObj "list" #[] 0)).update s.heap.objs.size (Obj.mapSeq (·++vs.toArray))=h1 at sz kp;have Llt:L<s.heap.objs.size:=F.ns.lt;have kp2:∀b o,s.heap.get? b=some o->(h1.push (seqObj "list" vs.toArray 0)).get? b=some o:=λb o e=>je _ (kp b o e);have hD:(h1.push (seqObj "list" vs.toArray 0)).get? h1.objs.size=some (seqObj "list" vs.toArray 0):=ju _ rfl;have D0:s.heap.get? h1.objs.size=none:=vw (by rw[sz];exact le_succ _);have DL:h1.objs.size≠L:=by rw[sz];exact ne_of_gt (lt_succ_of_lt Llt)
 show wpAny _ _ _ _ _ {s with heap:=h1.push (seqObj "list" vs.toArray 0)};show wpAny (model prog w) A.in1 (holding [.ref h1.objs.size] (call (.builtin "list.sort") [.ref h1.objs.size] [(Str.ofString "key",.ref f)]) >>= λ_=>ret (.ref h1.objs.size)) _ _ {s with heap:=h1.push (seqObj "list" vs.toArray 0)};generalize h1.objs.size=D at hD D0 DL sz ⊢;refine j9 (xm (wpAny_call_entry_kw slot_list_sort ⟨_,hD,rfl⟩ entry_list_sort ?_ (ksk_l1 _ _)));show wpAny (model prog w) A.in1.in1 (Builtin.«list.sort» ⟨[.ref D],[(Str.ofString "key",.ref f)]⟩) _ _ _;rw[ksk_t1];refine qju (s:={s with heap:=h1.push (seqObj "list" vs.toArray 0)}) (F.kept kp2) ((qjh (h:=s.heap)).grown kp2) hD DL (vw (jz F.above (by rw[sz];exact Nat.le_succ_of_le (le_of_lt Llt)))) (λp hp z=>?_) zv λkS e1 h' F' N' lt=>?_
 .have:=(mem_allN.mp (show(p.1,p.2)∈fB h₀ L s.heap from hp)).1;rw[z,D0]at this;cases this
 .refine Fx (kS:=kS) (news:=(D,seqObj "list" #[] e1)::fB h₀ L s.heap) hf F (λp hp=>ji _ hp) (λks e tps s1 so F1 N1 hk hn hp=>?_) vs qs [] [] 0 [] {s with heap:=h'} rfl ⟨rfl,rfl,rfl⟩ F' N' (λp hp=>?_) (λp hp=>nomatch hp) hq .nil
  .have lk:=Aj hp;have lkv:ks.length=vs.length:=lk.trans lq.symm;have lo:(p.toList.map λi=>vs.getD i Value.none).length=vs.length:=by rw[ja,length_toList,Pp.size]
   refine⟨p.toList.map λi=>vs.getD i Value.none,lo,λzu=>?_,λh2=>?_,?_⟩
   .rw[Hw zu lkv];congr 1;have pe:=Pp.perm
    match vs,zu with
    |[],_=>rw[List.perm_nil.mp pe];rfl
    |[v],_=>rw[List.perm_singleton.mp pe];rfl
    |_::_::_,h=>exact absurd h (by simp)
   .have n1:∀p∈tps++(D,seqObj "list" #[] e1)::fB h₀ L s.heap,s1.heap.get? p.1=some p.2:=λp hp'=>(N1 p (ji _ hp')).1;have keeps:=Af F F1 λp hp'=>n1 p (x9 _ (ji _ hp'));let⟨fs,g1,g2,g3⟩:=qkz n1 hp;refine kat_kind (T:=.type "int") g1 (by rw[g2,lkv];exact jw (by decide) h2) (λv hv=>?_) (by decide) ⟨rfl,F8 (Dn qs hd) (lq▸Pp) (lq▸Up') lk (lq) (by lia) (by lia) (λi j hi hj st Q hk q=>?_) λst x y=>⟨x,y⟩⟩
    .obtain⟨c,t,rfl⟩:=g3 v hv;exact λA Q E s _ q=>jb q
    .let⟨a,t,x,us,e1',e2,e3,e4,e5⟩:=uM (a:=Value.none) (b:=((0:Int),([]:Zf))) (i:=i) hp (by lia);let⟨a',t',x',us',e1'',e2',e3',e4',e5'⟩:=uM (a:=Value.none) (b:=((0:Int),([]:Zf))) (i:=j) hp (by lia);have up:∀{y:Addr} {is:Zd},y≠L->s.heap.IsList y is->s1.heap.IsList y is:=λyL g=>by obtain⟨o,e,c⟩:=g;exact⟨o,keeps _ _ e yL,c⟩
     rw[e1',e1'',lt'_eq];refine jc (wpS_get ?_);rw[hk];exact jc (wpS_lift (ve (Ex (n1 _ e2) rfl (n1 _ e2') rfl (up e3 e4) (up e3' e4') e5 e5' (hw i j hi hj) un ⟨rfl,jf q⟩)))
   refine KatFin.intro F1 N1 (.head hk) λh2' c F2 N2=>?_;refine KasFin.intro F2 N2 (.tail (ne_of_gt lt) (G0 (λp hp' z=>?_) λp hp'=>(hn p hp' _ jj).symm)) λh3 c3 F3 N3=>?_
   .have:=(mem_allN.mp (show(p.1,p.2)∈fB h₀ L s.heap from hp')).1;rw[z,D0]at this;cases this
   .refine⟨_,rfl,jb ⟨_,rfl,k D {s1 with heap:=h3} p c3 so F3 (Af F F3 λp hp'=>?_) D0 DL Pp Up' ?_⟩⟩
    .exact(N3 p (ji _ (x9 _ (ji _ hp')))).1
    .exact(N3 _ (ji _ (x9 _ jj))).1
  .rw[nil_append]at hp;rcases List.mem_cons.mp hp with rfl|hp
   .exact jq lt
   .intro z;have h1':=(N' _ jj).1;have:=(mem_allN.mp (show(p.1,p.2)∈fB h₀ L s.heap from hp)).1;have lt2:=jd this;rw[z]at lt2;have:D<kS:=lt;rw[sz]at this;exact absurd lt2 (by have:s.heap.objs.size+1<kS:=this;exact Nat.not_lt.mpr (le_of_lt (Nat.lt_of_succ_lt this)))
end
end L2
namespace L2
open PySem PySem.Spec PyProof.Rows
section
variable{P:Program}{w:World}{K:am}{mg:Za}{base:Heap}{N:Zj}{qual:Str}{scope:Scope}{f:Addr}{cd:Value}{cl:List (Str×Addr)}{A:Around}{outer:List Env}{s:Shared}{H:Hp}
structure Holds(cl:List (Str×Addr))(scope:Scope)(H:Hp)(h:Heap):Prop where
 free:∀x,scope.names.lookup x=some .free->∃c,cl.lookup x=some c
 inj:∀x y c,cl.lookup x=some c->cl.lookup y=some c->x=y
 cell:∀x c,cl.lookup x=some c->∃u,h.IsCell c u
 hid:∀x c,cl.lookup x=some c->H c=none
end
structure Betw(I S l:Addr)(xs:List V)(σ Je:Shared->Prop):Prop where
 lst:∀s,σ s->∃its:List Value,Vals xs its/\s.heap.IsList l its.toArray
 turn:∀(s:Shared) (h':Heap),σ s->(∀b o,b≠I->b≠S->s.heap.get? b=some o->h'.get? b=some o)->(∃o,h'.get? I=some o)->(∃o,h'.get? S=some o)->σ {s with heap:=h'}
 stop:∀(s:Shared) (h':Heap),σ s->(∀b o,b≠I->b≠S->s.heap.get? b=some o->h'.get? b=some o)->Je {s with heap:=h'}
section
variable{prog:Program}{w:World}{A:Around}{R:Zb}{I S l f:Addr}{xs:List V}{kz:Nat->Int}{σ Je:Shared->Prop}
end
section
variable{X:Cx}{z5:Z3}{J:St}{H H3:Hp}{s s3:Shared}{P:Addr}{pos:Pos}{q:Str}{o:Obj}
end
def SqL.keepX{K:am}{H H':Hp}{a:Addr}{xs:List V}(s:Same H H')(h:SqL K H a xs):SqL K H' a xs:=by
 rcases h with h|h
 .rcases h with h|⟨o,h⟩
  .exact .inl (.inl (s _ _ h))
  .exact .inl (.inr ⟨o,s _ _ h⟩)
 .exact .inr h
section
variable{X:Cx}{z5:Z3}{J:St}{H:Hp}{s:Shared}{I S:Addr}
def Inv.turn(σ:Inv X z5 J H s){h':Heap}(hI:H I=none)(hS:H S=none)(c1:X.s₀.heap.objs.size<=I/\I≠X.env.locals/\(∀x c,X.env.cells.lookup x=some c->c≠I)/\∀p∈X.pn++z5,p.1≠I)(c2:X.s₀.heap.objs.size<=S/\S≠X.env.locals/\(∀x c,X.env.cells.lookup x=some c->c≠S)/\∀p∈X.pn++z5,p.1≠S)
 (k:∀b o,b≠I->b≠S->s.heap.get? b=some o->h'.get? b=some o):Inv X z5 J H {s with heap:=h'}:=by
 have nc:∀{b:Addr},b∉[I,S]->b≠I/\b≠S:=λh=>⟨λz=>h (by rw[z];simp),λz=>h (by rw[z];simp)⟩;refine σ.step (λb hb=>?_) (λb o _ _ hb e _=>k b o (nc hb).1 (nc hb).2 e) (λb o _ _ hb e _=>⟨o.slots,k b o (nc hb).1 (nc hb).2 e⟩) (λb o _ _ n=>n) (λb o hb e=>⟨o,k b o (nc hb).1 (nc hb).2 e⟩) (λb xs h=>h) (λb o u h=>h) (λb ps h=>⟨#[],by rw[h];simp⟩) (λm hn=>?_) (λa o h=>?_) σ.bare
 .rcases List.mem_cons.mp hb with rfl|hb
  .exact⟨.inr c1.1,c1.2⟩
  .rw[List.mem_singleton.mp hb];exact⟨.inr c2.1,c2.2⟩
 .obtain⟨o,es,ep,e,r⟩:=hn;exact⟨o,es,ep,k _ _ c1.2.1.symm c2.2.1.symm e,r⟩
 .refine(σ.hok a o h).stay (λb u hb e=>k b u ?_ ?_ e) (λb hb=>hb) λb xs hb=>hb
  .rcases hb with rfl|hb
   .exact λz=>by rw[z,hI]at h;cases h
   .exact λz=>by rw[z,hI]at hb;cases hb
  .rcases hb with rfl|hb
   .exact λz=>by rw[z,hS]at h;cases h
   .exact λz=>by rw[z,hS]at hb;cases hb
end
section
variable{X:Cx}{K:am}{e:Expr}{te tb:TE}{p kp pos lp:Pos}{params:Arguments}{body:Expr}{scope:Scope}{x y:Str}{cb c P:Addr}{ib k:Nat}
end
def uW(K:am)(H:Hp)(v:V)(q:Int×List Int):Prop:=∃(a x:Addr) (ys:List V),v=.ref a/\SqT K H a (.int q.1::.ref x::ys)/\SqL K H x (q.2.map V.int)
def Fc(K:am)(P:Addr)(lp:Pos)(q:Str)(te:TE):TE:=λJ H Q=>te J H λv H1=>∃(l:Addr) (xs:List V) (qs:List (Int×List Int)),[v]=[V.ref l]/\H1 P=some (.lam lp q)/\SqL K H1 l xs/\xs.length<128/\xs.length=qs.length/\(∀i v,xs[i]? =some v->uW K H1 v (qs.getD i (0,[])))/\
 (∀i j,i<qs.length->j<qs.length->i≠j->qs.getD i (0,[])≠qs.getD j (0,[]))/\(∀i j,i<qs.length->j<qs.length->(qs.getD i (0,[])).2.length=(qs.getD j (0,[])).2.length)/\
 ∀(p:Array Nat) (D:Addr) (H3:Hp),Pm xs.length p->Up (iA qs) p xs.length->Same H1 H3->H3 D=none->Q (.ref D) (aM H3 D (.lst (p.toList.map λi=>xs.getD i .non)))
def SqT.keepX{K:am}{H H':Hp}{a:Addr}{xs:List V}(s:Same H H')(h:SqT K H a xs):SqT K H' a xs:=by
 rcases h with h|h
 .rcases h with h|⟨o,h⟩
  .exact .inl (.inl (s _ _ h))
  .exact .inl (.inr ⟨o,s _ _ h⟩)
 .exact .inr h
theorem Aa{xs:List V}{its:Ze}(r:Vals xs its):∀is:List Nat,Vals (is.map λi=>xs.getD i .non) (is.map λi=>its.getD i Value.none)
 |[]=>.nil
 | i::is=>by
  refine .cons ?_ (Aa r is);have ln:=Paired.length r;show RelV (xs.getD i .non) (its.getD i Value.none);rw[jl,jl];by_cases h:i<xs.length
  .let⟨u,e1,e2⟩:=Vals.get r (jh h);rw[jh h,e1];exact e2
  .rw[xj (by lia),xj (show its.length<=i by lia)];exact(rfl)
theorem Hk{α β:Type}{G:α->β->Prop}{b:β}:∀{xs:List α} {ys:List β},xs.length=ys.length->(∀i x,xs[i]? =some x->G x (ys.getD i b))->Paired G xs ys
 |[],[],_,_=>.nil
 |x::xs,y::ys,hl,h=>.cons (h 0 x rfl) (Hk (by simpa using hl) λi x hx=>h (i+1) x hx)
section
variable{X:Cx}{K:am}{e:Expr}{te:TE}{p kp pos lp:Pos}{params:Arguments}{scope:Scope}{v:Str}{c P:Addr}{k:Nat}{p1 q1 r1 p2 q2 r2 bp:Pos}{j1 j2 xc:Nat}
def qe3(hK:X.K=K)(hc:X.calm=true)(hr:Room (k+2) X.A)(hg:Gl X "sorted")(hm:X.mg "sorted"=none)(ha:PE X e te)
 (hdef:defaultsOf params X.env=([],[])) (hcl:closureFor scope X.env=pure []) (hge0:X.env.globals=mainGlobals) (zz:X.env.code=.ref c) (C:∀h:Heap,X.K.In h->W.CodeHd h c P) (hbt:∀h:Heap,X.K.In h->h.BuiltinsAt X.mg P)
 (sx:scope.names.lookup v=some .local) (hco:scope.isCoroutine=false) (hgen:scope.isGenerator=false) (zi:scope.kind=.function) (zq:∀z∈scope.names,z.2≠.cell) (hd:(v==("__debug__":Str))=false)
 (j8:∀(pm cdv ctv u:Value),bindArgs (W.kla_fn "<lambda>" (X.env.qual++"<lambda>") params (nh v p1 q1 r1 p2 q2 r2 bp j1 j2 xc) scope [] pm cdv ctv) ⟨[u],[]⟩=pure [(v,u)])
 (he:starEach [e] X.env=(false,eval e X.env)::starEach [] X.env:=by rfl)
 (h1:backTo pos (starEach [e] X.env)=(false,eval e X.env)::backTo pos (starEach [] X.env):=by rfl) (h2:(backTo pos (starEach [e] X.env)).any (·.1)=false:=by rfl)
 (h3:(backToKw pos (keywordEach [⟨some "key",.Lambda params (nh v p1 q1 r1 p2 q2 r2 bp j1 j2 xc) scope lp,kp⟩] X.env)).all (λx=>x.1.isSome)=true:=by rfl) (h4:(backToKw pos (keywordEach [⟨some "key",.Lambda params (nh v p1 q1 r1 p2 q2 r2 bp j1 j2 xc) scope lp,kp⟩] X.env)).any (λx=>x.1.isNone)=false:=by rfl)
 (h5:(backToKw pos (keywordEach [⟨some "key",.Lambda params (nh v p1 q1 r1 p2 q2 r2 bp j1 j2 xc) scope lp,kp⟩] X.env)).filterMap (·.1)=[Str.ofString "key"]:=by rfl):
 PE X (.Call (.Name "sorted" p) [e] [⟨some "key",.Lambda params (nh v p1 q1 r1 p2 q2 r2 bp j1 j2 xc) scope lp,kp⟩] pos) (Fc K P lp (X.env.qual++"<lambda>") te):=by
 subst hK;intro z5 s J H Q I h;refine k6 (iD I hg hm (by rfl) ?_);refine callWith_kw (bf ((ak ha av he) pos z5 s J H (λvs H1=>∃(l:Addr) (xs:List V) (qs:List (Int×List Int)),vs=[V.ref l]/\H1 P=some (.lam lp (X.env.qual++"<lambda>"))/\SqL X.K H1 l xs/\xs.length<128/\xs.length=qs.length/\(∀i v,xs[i]? =some v->uW X.K H1 v (qs.getD i (0,[])))/\
 (∀i j,i<qs.length->j<qs.length->i≠j->qs.getD i (0,[])≠qs.getD j (0,[]))/\(∀i j,i<qs.length->j<qs.length->(qs.getD i (0,[])).2.length=(qs.getD j (0,[])).2.length)/\
 ∀(p:Array Nat) (D:Addr) (H3:Hp),Pm xs.length p->Up (iA qs) p xs.length->Same H1 H3->H3 D=none->Q (.ref D) (aM H3 D (.lst (p.toList.map λi=>xs.getD i .non)))) I h) λus s1 hh1=>?_) h1 h2 h3 h4
 obtain⟨vs,H1,I1,rr,l,xs,qs,rfl,hP,sq,l64,lq,keys,dist,lens,fin⟩:=hh1;obtain⟨u,rfl,ru⟩:=cj rr;cases(show u=Value.ref l from ru);refine kws_cons (qkx I1 hP hdef hcl hge0 zz (C _ I1.mod.kin) (hbt _ I1.mod.kin) λf c' ctv H2 s2 I2 sm new ef nf szf hcd hcH tab=>?_);refine kws_nil ?_;rw[h5];show wpAny _ _ (call (.builtin "sorted") [.ref l] [(Str.ofString "key",.ref f)]) _ _ s2;obtain⟨m,F⟩:=I2.fr;let⟨its,rv,pl,hz⟩:=I2.list (sq.keepX sm);have ln:=Paired.length rv;have lH:∀{a:Addr} {o:HO},H2 a=some o->a≠X.env.locals:=λh z=>by rw[z,I2.free]at h;cases h
 have nsD:∀{a:Addr} {o:Obj} {xs:Zd} {n:Nat},s2.heap.get? a=some o->o.data=.seq xs n->a≠X.env.locals:=λh d z=>by obtain⟨o',es,ep,e',hd',_⟩:=F.ns;rw[z]at h;rw[h]at e';cases e';rw[d]at hd';exact nomatch hd'
 have fL:f≠X.env.locals:=ne_of_gt (jw I1.lt szf);have cL:c'≠X.env.locals:=lH hcH;have hkeys:Paired (iU s2.heap X.env.locals) its qs:=Hk (by lia) λi u hu=>by
  let⟨x,ex,rx⟩:=Hr rv hu;obtain⟨a,y,ys,rfl,g1,g2⟩:=keys i x ex;cases rx;let⟨its',r',pt,_⟩:=I2.tuple (g1.keepX sm);let⟨vs',rvs,plx,_⟩:=I2.list (g2.keepX sm);cases r' with
  | cons ra r'=>
   cases r' with
   | cons rb r'=>
    obtain⟨t,rfl⟩:=ra;cases rb;refine⟨a,_,t,y,vs',rfl,?_,?_,pt,rfl,rfl,plx.isList,dL rvs⟩
    .obtain⟨o,e1,_,n,d⟩:=pt;exact nsD e1 d
    .obtain⟨o,e1,_,n,d⟩:=plx.isList;exact nsD e1 d
 have hun:X.A.in1.in1.units+1<cLine:=by have:=hr.un;show X.A.units+1+1+1<cLine;lia
 have hdep:X.A.in1.in1.depth<recursionLimit:=by have:=hr.dp;show X.A.depth<_;lia
 refine qep F pl.isList (by lia) hkeys dist lens (λs3 w q Q3 so F3 kp3 kI cont=>?_) hun λD s4 p c so F4 kp sD DL pm up eD=>?_
 .obtain⟨a,its',t,x,vs',rfl,aL,xL,ht,e0,e1,hx,hi⟩:=kI;have ht3:IsTup s3.heap a its':=let ⟨o,e,r⟩:=ht;⟨o,kp3 _ _ e aL,r⟩
  refine qpv hdep (I2.mod.nolimit.keeps F3.keep) (kp3 _ _ ef fL) ?_ (j8 _ _ _ _) hco hgen zi zq sx hd ht3 e0 e1 λt' s5 kq st et=>cont t' s5 t x vs' kq st xL et hx hi;obtain⟨c2,oc,vs2,tq,hc2,hoc,r⟩:=hcd;cases hc2;exact⟨c',oc,vs2,tq,rfl,kp3 _ _ hoc cL,r⟩
 .obtain⟨hp4,g4,d4,t4,os4⟩:=s4;obtain⟨so1,so2,so3⟩:=so;dsimp only at so1 so2 so3 F4 kp eD;subst so1 so2 so3;have D0:H2 D=none:=by
   cases z:H2 D with
   |none=>rfl
   | some o=>
    let⟨u,hu⟩:=ObjOk.there (I2.hok D o z);rw[sD]at hu;cases hu
  have neD:∀{b:Addr} {o:HO},H2 b=some o->b≠D:=λh z=>by rw[z,D0]at h;cases h
  have lpm:p.toList.length=xs.length:=by have:=pm.size;simpa[ln]using this
  have I4:Inv X z5 J (aM H2 D (.lst (p.toList.map λi=>xs.getD i .non))) {s2 with heap:=hp4,toks:=t4}:=by
   refine I2.step (ch:=[]) (λ_ z=>nomatch z) (λb o bL _ _ e1 _=>kp b o e1 bL) (λb o bL _ _ e1 _=>⟨o.slots,kp b o e1 bL⟩) (λb o _ e1 n=>by rw[aX (λz=>by rw[z,sD]at e1;cases e1)];exact n)
    (λb o _ e1=>?_) (λb xs h=>by rw[aX (neD h)];exact h) (λb o u h=>by rw[aX (neD h)];exact h) (λb ps h=>⟨#[],by rw[aX (neD h),h];simp⟩) (λm' hn=>?_) (λa o h=>?_) I2.bare
   .by_cases z:b=X.env.locals
    .obtain⟨o',_,_,e',_⟩:=F4.ns;exact⟨o',by rw[z];exact e'⟩
    .exact⟨o,kp b o e1 z⟩
   .have em:m'=m:=funext λx=>hn.agree F.ns x;rw[em];exact F4.ns
   .by_cases z:a=D
    .subst z;rw[cA]at h;cases h;refine⟨?_,_,c,Aa rv p.toList,eD⟩;rw[ja,lpm];exact hz
    .rw[aX z]at h;refine(I2.hok a o h).stay (λb u hb e1=>kp b u e1 ?_) (λb hb=>by rw[aX (neD hb)];exact hb) λb xs hb=>by rw[aX (neD hb)];exact hb
     rcases hb with rfl|hb
     .exact lH h
     .exact lH hb
  refine⟨.ref D,_,I4,rfl,fin p D H2 (by rw[ln];exact pm) (by rw[ln];exact up) sm D0⟩
end
section
variable{K:am}{R R2:Hp}
end
def gw(K:am)(P:Addr)(lp:Pos)(q:Str)(n:Nat)(f:List D->Option D):Sp:=λvs H Q _=>vs.length=n/\∃R ds d,(∀a o,R a=some o->H a=some o)/\R P=some (.lam lp q)/\Rps K R vs ds/\f ds=some d/\∀v H' R',Ext H R H' R'->Rp K R' v d->Q v H'
noncomputable def jR(j:Nat)(P:Addr)(lp:Pos)(q:Str)(f:List D->Option D)(fs:aV):aF:=λM=>match fs M with
 | some (ds,M1)=>(match M1[j]? with
  |some (some (.tab P' lp' q'))=>if P'=P/\lp'=lp/\q'=q then(f ds).map λd=>(d,M1)else none
  |_=>none)
 |none=>none
def zT{K:am}{O:Zg}{P:Addr}{lp:Pos}{q:Str}{n j:Nat}{f:List D->Option D}{tr:TA}{fs:aV}{E:XK}(hj:j∉O)(hf:b8 n f)(h:MA K O tr fs):ME K O (oR (gw K P lp q n f) [] E tr) (jR j P lp q f fs):=λZ J H R M d M' Q S e k=>by
 unfold jR at e;split at e
 .rename_i ds M1 e1;split at e
  .rename_i P' lp' q' e2;split at e
   .rename_i z;obtain⟨rfl,rfl,rfl⟩:=z;cases e3:f ds with
    |none=>rw[e3]at e;cases e
    | some d'=>
     rw[e3]at e;cases e;refine h Z J H R M ds _ _ S e1 λvs H1 R1 S1 st1 r1=>?_;rw[append_nil];let⟨v,_,rt⟩:=S1.env j _ hj e2;cases rt with
     |tab hP=>exact⟨by rw[r1.length];exact hf ds d e3,R1,ds,d,S1.sub,hP,r1,e3,λv H2 R2 x q=>k v H2 R2 (S1.ext x) (st1.trans x.stp) q⟩
   .cases e
  .cases e
 .cases e
def Inv.phantom{X:Cx}{z5:Z3}{J:St}{H:Hp}{s:Shared}(I:Inv X z5 J H s){j:Nat}{z:Str}{v:V}(hN:X.N[j]? =some z)(hz:¬lK X.env.scope z):Inv X z5 (J.set j (some v)) H s:=by
 obtain⟨m,hn,hl⟩:=I.loc;refine⟨I.ok,I.os,I.bare,I.base,⟨m,hn,λi x u h1 h2 h3=>?_⟩,I.cell,I.free,I.freeC,I.pin,I.hok,by rw[xn];exact I.len⟩;by_cases q:j=i
 .subst q;rw[hN]at h1;cases h1;exact absurd h3 hz
 .rw[jv q]at h2;exact hl i x u h1 h2 h3
def Fun.okT{P:Program}{w:World}{K:am}{mg:Za}{base:Heap}{x qual:Str}{st:Stmt}{f:Addr}{fd:FuncData}{N ps:Zj}{k j:Nat}{z:Str}{sp:Sp}{u:V}(F:Fun K x qual st f fd)(S:q0j N ps (aS st))(hz:N[j]? =some z)(nv:¬lK (aS st) z)(len:∀vs H Q E,sp vs H Q E->vs.length=ps.length)
 (zg:∀(cdv:Value) (A:Around) (outer:List Env) (s:Shared) (H:Hp) (vs:List V) (Q:VK) (E:XK),Room k (A.deeper (envOfC qual (aS st) s.heap.objs.size f cdv))->sp vs H Q E->
   ∃t,PSs (e9 bu P w K mg base N qual (aS st) f cdv A outer s H E).nox (fU st) t/\t {nx:=λ_ H'=>Q .non H',rt:=Q} ((bc N vs).set j (some u)) H):FnOk P w K mg base bu (k+1) f fd ps sp:=by
 refine F.ok S len λcdv A outer s H vs Q E hr hsp=>?_;let⟨t,ht,hq⟩:=zg cdv A outer s H vs Q E hr hsp;refine⟨λD J H=>t D (J.set j (some u)) H,λz5 s1 J H1 D I h=>?_,hq⟩;exact ht z5 s1 _ H1 D (I.phantom hz nv) h
def Fun.okL{P:Program}{w:World}{K:am}{mg:Za}{base:Heap}{x qual:Str}{st:Stmt}{f:Addr}{fd:FuncData}{N ps:Zj}{k:Nat}{sp:Sp}(F:Fun K x qual st f fd)(S:q0j N ps (aS st))(len:∀vs H Q E,sp vs H Q E->vs.length=ps.length)
 (zg:∀(A:Around) (outer:List Env) (s:Shared) (H:Hp) (vs:List V) (Q:VK) (E:XK),Room k (A.deeper (envOfC qual (aS st) s.heap.objs.size f fd.code))->sp vs H Q E->
   ∃t,PSs (e9 bu P w K mg base N qual (aS st) f fd.code A outer s H E).nox (fU st) t/\t {nx:=λ_ H'=>Q .non H',rt:=Q} (bc N vs) H):FnOk P w K mg base bu (k+1) f fd ps sp:=by
 obtain⟨oc,od,kV,doc,pm,an,cdv,ct,osl,rfl,lk,hcd⟩:=F.ex;refine wq lk hcd S len λA outer s H vs Q E hr hsp=>?_;let⟨t,h,q⟩:=zg A outer s H vs Q E hr hsp;exact⟨t,h.nox,q⟩
noncomputable def mq(fr:Bool)(n N j:Nat)(d:D)(f:aH)(ds:List D):Option D:=if ds.length=n/\n<=j then match f ((ds.map some++replicate (N-n) none).set j (some d))with
 |some (.rt d _)=>some d
 |some (.nx _)=>if fr=true then none else some .non
 |_=>none
 else none
def Hn{K:am}{P:Addr}{lp:Pos}{q:Str}{n j:Nat}{Nms:Zj}{O':Zg}{t:TS}{f:aH}{vs:List V}{H:Hp}{Q:VK}{E:XK}(hj:j<Nms.length)(hm:MS ⟨K,false,[],[]⟩ [] O' t f)(h:gw K P lp q n (mq false n Nms.length j (.tab P lp q) f) vs H Q E):t {nx:=λ_ H'=>Q .non H',rt:=Q} ((bc Nms vs).set j (some (.ref P))) H:=by
 obtain⟨hn,R,ds,d,sub,rP,r,e,k⟩:=h;unfold mq at e;split at e
 .rename_i hl;obtain⟨hl,hjn⟩:=hl;have S0:StR K ⟨H,R,λ_=>False,[]⟩ [] (bc Nms vs) H R (ds.map some++replicate (Nms.length-n) none):=by
   refine⟨sub,?_,λi d _ q=>?_,λi hi=>(nomatch hi),λi j hi=>(nomatch hi),λa o q _=>q,Same.refl _,λa q=>.inl q,λa q=>.refl q,λi hi=>(nomatch hi),λi hi=>(nomatch hi)⟩
   .unfold bc;rw[jt,jt,ja,ja,x6,x6,hn,hl]
   .let⟨v,h1,h2⟩:=r.get (uH q);exact⟨v,uI h1,h2⟩
  have S:=S0.set (i:=j) (λh=>nomatch h) (.tab rP);have ext:∀{O1:Zg} {J':St} {H' R':Hp} {M':az},StR K ⟨H,R,λ_=>False,[]⟩ O1 J' H' R' M'->Ext H R H' R':=λS'=>⟨λa o q=>S'.ah a o q (λz=>z),S'.ar,S'.sub,S'.an⟩;cases e1:f ((ds.map some++replicate (Nms.length-n) none).set j (some (.tab P lp q)))with
  |none=>rw[e1]at e;cases e
  | some o=>
   rw[e1]at e;refine hm _ _ _ _ _ _ o rfl S e1 ?_;cases o with
   | nx M'=>
    dsimp only at e;rw[if_neg (by decide)]at e;cases e;exact λJ' H' R' S' _=>k .non H' R' (ext S') .non
   |bk M'=>cases e
   |ct M'=>cases e
   | rt d' M'=>
    cases e;exact λv J' H' R' S' q=>k v H' R' (ext S') q
 .cases e
def qok{n N j:Nat}{d:D}{f:aH}:b8 n (mq false n N j d f):=λds d' h=>by
 unfold mq at h;split at h
 .rename_i z;exact z.1
 .cases h
def GZ{qs:List (Int×List Int)}{p:Array Nat}(hd:∀i j,i<qs.length->j<qs.length->i≠j->qs.getD i (0,[])≠qs.getD j (0,[]))(pm:Pm qs.length p)(up:Up (iA qs) p qs.length):p.toList=c9 qs:=by
 have lp:p.toList.length=qs.length:=by have:=pm.size;simpa using this
 refine List.Perm.eq_of_pairwise (λa b ha hb h1 h2=>?_) ?_ (yA qs) (pm.perm.trans (jB qs).symm)
 .unfold kA iA at h1 h2;rw[not_eq_true']at h1 h2;by_cases z:a=b
  .exact z
  .exact absurd (pd h2 h1) (hd a b (List.mem_range.mp (pm.perm.subset ha)) (List.mem_range.mp ((jB qs).subset hb)) z)
 .rw[List.pairwise_iff_getElem];intro i j hi hj hij;have:=up i j hij (by lia);have gi:p.getD i 0=p.toList[i]:=by simp[getD,show i<p.size by simpa using hi]
  have gj:p.getD j 0=p.toList[j]:=by simp[getD,show j<p.size by simpa using hj]
  rw[gi,gj]at this;unfold iA at this;unfold kA iA;rw[lh this];rfl
def lW(d:D):Option (Int×List Int):=match d with
 |.tup (.int c::.lst bs::_)=>(eB bs).map λns=>(c,ns)
 |_=>none
noncomputable def mR:List D->Option (List (Int×List Int))
 |[]=>some []
 | d::r=>match lW d,mR r with
  |some q,some qs=>some (q::qs)
  |_,_=>none
def okQ(qs:List (Int×List Int)):Prop:=qs.length<128/\qs.Nodup/\∀q∈qs,q.2.length=(qs.headD (0,[])).2.length
instance(qs:List (Int×List Int)):Decidable (okQ qs):=by unfold okQ;infer_instance
def okQ.dist{qs:List (Int×List Int)}(h:okQ qs):(∀i j,i<qs.length->j<qs.length->i≠j->qs.getD i (0,[])≠qs.getD j (0,[]))/\∀i j,i<qs.length->j<qs.length->(qs.getD i (0,[])).2.length=(qs.getD j (0,[])).2.length:=by
 obtain⟨_,nd,ln⟩:=h;refine⟨λi j hi hj ij z=>?_,λi j hi hj=>?_⟩
 .rw[jl,jl,jh hi,jh hj]at z;have z':=z;have pw:=List.pairwise_iff_getElem.mp nd;rcases Nat.lt_or_gt_of_ne ij with w|w
  .exact pw i j hi hj w z'
  .exact pw j i hj hi w z'.symm
 .rw[jl,jl,jh hi,jh hj];exact(ln _ (ka hi)).trans (ln _ (ka hj)).symm
def m4(ds:List D):Option D:=match ds with
 | [.lst xs,.int m]=>(match mR xs with
  |some qs=>if okQ qs then some (.lst (fA ((c9 qs).map λi=>xs.getD i .non) none (some m)))else none
  |none=>none)
 |_=>none
def qld:b8 2 m4:=λds d h=>by
 unfold m4 at h;split at h
 .rfl
 .cases h
section
variable{K:am}{R:Hp}
def qpx{v:V}{d:D}{q:Int×List Int}(r:Rp K R v d)(e:lW d=some q):uW K R v q:=by
 unfold lW at e;split at e
 .rename_i c bs rest;obtain⟨ns,e1,rfl⟩:=Option.map_eq_some_iff.mp e;obtain⟨a,xs,rfl,h,r⟩:=r.isT;cases r with
  | cons r1 r=>
   cases r with
   | cons r2 r=>
    obtain rfl:=r1.isI;obtain⟨x,ys,rfl,hx,rx⟩:=r2.isL;have ex:=pE rx e1;subst ex;exact⟨a,x,_,rfl,SqT.of h,hx⟩
 .cases e
def qi8:∀{vs:List V} {ds:List D} {qs:List (Int×List Int)},Rps K R vs ds->mR ds=some qs->vs.length=qs.length/\∀i v,vs[i]? =some v->uW K R v (qs.getD i (0,[]))
 :=by
 intro vs ds qs r;induction r using Rps.ind generalizing qs with
 | n=>
  intro e;cases e;exact⟨rfl,λi v h=>by simp at h⟩
 | c r _ ih=>
  intro e;unfold mR at e;split at e
  .rename_i q qs' e1 e2;cases e;let⟨h1,h2⟩:=ih e2;refine⟨by simp[h1],λi v h=>?_⟩;cases i with
   |zero=>cases h;exact qpx r e1
   |succ i=>exact h2 i v h
  .cases e
theorem zG{vs:List V}{ds:List D}(r:Rps K R vs ds):∀is:List Nat,(∀i∈is,i<vs.length)->Rps K R (is.map λi=>vs.getD i .non) (is.map λi=>ds.getD i .non)
 |[],_=>.nil
 | i::is,h=>by refine .cons ?_ (zG r is λj hj=>h j (ji _ hj));have hi:=h i jj;let⟨d,e1,e2⟩:=r.get' (jh hi);show Rp K R (vs.getD i .non) (ds.getD i .non);rw[jl,jl,jh hi,e1];exact e2
def qfg{P:Addr}{lp:Pos}{q:Str}{Nms:Zj}{vs:List V}{H:Hp}{Q:VK}{E:XK}(hN:2<=Nms.length)(h:gw K P lp q 2 m4 vs H Q E):
 (iM (wk (nW K) (Fc K P lp q (dJ 0)) yX (wF (dJ 1)))) {nx:=λ_ H'=>Q .non H',rt:=Q} (bc Nms vs) H:=by
 obtain⟨hn,R,ds,d,sub,rP,r,e,k⟩:=h;unfold m4 at e;split at e
 .rename_i xs m;cases e1:mR xs with
  |none=>rw[e1]at e;cases e
  | some qs=>
   rw[e1]at e;dsimp only at e;split at e
   .rename_i ok;obtain⟨dist,lens⟩:=ok.dist;have n64:=ok.1;cases e;cases r with
    |cons r0 r=>
    cases r with
    |cons r1 r=>
    cases r;obtain rfl:=r1.isI;obtain⟨l,vxs,rfl,hl,rx⟩:=r0.isL;let⟨lq,keys⟩:=qi8 rx e1;refine⟨.ref l,rfl,l,vxs,qs,rfl,sub _ _ rP,hl.keepX sub,by lia,lq,λi v hv=>?_,dist,lens,λp D H3 pm up sm hD=>?_⟩
    .let⟨a,x,ys,ea,g1,g2⟩:=keys i v hv;exact⟨a,x,ys,ea,g1.keepX sub,g2.keepX sub⟩
    .rw[lq]at pm up;have ep:=GZ dist pm up;refine⟨.int m,rfl,m,rfl,.inl ⟨D,_,rfl,SqL.of cA,λp2 hp2=>?_⟩⟩;have x0:Ext H R H3 R:=⟨sm,Same.refl _,λa o h=>sm _ _ (sub _ _ h),λ_ h=>.inl h⟩;have x1:=x0.trans (Ext.hid (o:=.lst (p.toList.map λi=>vxs.getD i .non)) x0.s hD);have x2:=Ext.new (o:=.lst (ff (p.toList.map λi=>vxs.getD i .non) none (some m))) x1.s hp2;refine k _ _ _ (x1.trans x2) (.lst (SqL.of cA) ?_);rw[<-ep];exact((zG rx p.toList λi hi=>by rw[lq];exact List.mem_range.mp (pm.perm.subset hi)).mono x2.r).cut none (some m)
   .cases e
 .cases e
end
section
variable{X:Cx}{K:am}
def FU(x:Int×List Int):pZ (dO x)=some x:=by show(eB (x.2.map D.int)).map _=_;rw[jX];rfl
end
structure FunD(K:am)(x qual:Str)(st:Stmt)(f:Addr)(fd:FuncData):Prop where
 ex:∃(oc:Value) (od:Zc) (dV kV doc pm:Value) (an:Zc) (cdv ct:Value) (osl:Array (Option Value)),
  fd=W.fnOf x qual (iH st) (fU st) (aS st) dV kV doc pm an cdv ct/\K.lookup f=some ⟨oc,od,.func fd,osl⟩/\W.codeIn K cdv qual=true
 kp:W.keepIn K (.ref f)=true
section
variable{P:Program}{w:World}{K:am}{mg:Za}{base:Heap}
def FunD.ok{x qual:Str}{st:Stmt}{f:Addr}{fd:FuncData}{N ps:Zj}{k:Nat}{sp:Sp}(F:FunD K x qual st f fd)(S:q0j N ps (aS st))(len:∀vs H Q E,sp vs H Q E->vs.length=ps.length)
 (zg:∀(cdv:Value) (A:Around) (outer:List Env) (s:Shared) (H:Hp) (vs:List V) (Q:VK) (E:XK),Room k (A.deeper (envOfC qual (aS st) s.heap.objs.size f cdv))->sp vs H Q E->
   ∃t,PSs (e9 bu P w K mg base N qual (aS st) f cdv A outer s H E).nox (fU st) t/\t {nx:=λ_ H'=>Q .non H',rt:=Q} (bc N vs) H):FnOk P w K mg base bu (k+1) f fd ps sp:=by
 obtain⟨oc,od,dV,kV,doc,pm,an,cdv,ct,osl,rfl,lk,hcd⟩:=F.ex;refine wq lk hcd S len λA outer s H vs Q E hr hsp=>?_;let⟨t,h,q⟩:=zg cdv A outer s H vs Q E hr hsp;exact⟨t,h.nox,q⟩
def qq2{x qual:Str}{st:Stmt}{f:Addr}{oc:Value}{od an:Zc}{osl:Array (Option Value)}{dV kV doc pm cdv ct:Value}(l:K.lookup f=some ⟨oc,od,.func (W.fnOf x qual (iH st) (fU st) (aS st) dV kV doc pm an cdv ct),osl⟩)
 (c:W.codeIn K cdv qual=true) (k:W.keepIn K (.ref f)=true):FunD K x qual st f (W.fnOf x qual (iH st) (fU st) (aS st) dV kV doc pm an cdv ct):=⟨⟨oc,od,dV,kV,doc,pm,an,cdv,ct,osl,rfl,l,c⟩,k⟩
def qx2{fd:FuncData}{ps:Zj}{T:Addr}{oc:Value}{od:Zc}{osl:Array (Option Value)}{items:Zd}{n:Nat}(hd:fd.defaults=.ref T)(l:K.lookup T=some ⟨oc,od,.seq items n,osl⟩)
 (h:∀us:List Value,us.length=ps.length->∃k,bindArgs fd ⟨us,[]⟩=seqItems? fd.defaults >>= k/\k (some items)=pure (ps.zip us)):Binds K fd ps []:=λs us X hl=>by
 rw[append_nil]at hl ⊢;let⟨k,h1,h2⟩:=h us hl;exact BindsTo.of_defaults hd (X _ _ l) rfl h1 h2
end
section
variable{K:am}{Z:Anc}{O:Zg}{J:St}{H R H' R':Hp}{M:az}{l:Addr}
end
def FunD.okT{P:Program}{w:World}{K:am}{mg:Za}{base:Heap}{x qual:Str}{st:Stmt}{f:Addr}{fd:FuncData}{N ps:Zj}{k j:Nat}{z:Str}{sp:Sp}{u:V}(F:FunD K x qual st f fd)(S:q0j N ps (aS st))(hz:N[j]? =some z)(nv:¬lK (aS st) z)(len:∀vs H Q E,sp vs H Q E->vs.length=ps.length)
 (zg:∀(cdv:Value) (A:Around) (outer:List Env) (s:Shared) (H:Hp) (vs:List V) (Q:VK) (E:XK),Room k (A.deeper (envOfC qual (aS st) s.heap.objs.size f cdv))->sp vs H Q E->
   ∃t,PSs (e9 bu P w K mg base N qual (aS st) f cdv A outer s H E).nox (fU st) t/\t {nx:=λ_ H'=>Q .non H',rt:=Q} ((bc N vs).set j (some u)) H):FnOk P w K mg base bu (k+1) f fd ps sp:=by
 refine F.ok S len λcdv A outer s H vs Q E hr hsp=>?_;let⟨t,ht,hq⟩:=zg cdv A outer s H vs Q E hr hsp;refine⟨λD J H=>t D (J.set j (some u)) H,λz5 s1 J H1 D I h=>?_,hq⟩;exact ht z5 s1 _ H1 D (I.phantom hz nv) h
section
variable{X:Cx}{tg elt ze:Expr}{ifs:Zi}{scope:Scope}{pos:Pos}{N N0:Zj}{js:Zg}{sc:Scope}{wi:TI}{g:TG}{tt:TT}{te:TE}
end
def Hc{K:am}{c P:Addr}{o:Obj}{vs:Zd}{file:Str}{tf:Tok}{flags:Int}{tg:Tok}{inF:Bool}{text:Int}{tt:Tok}(h:K.lookup c=some o)(h1:o.cls=.type "code")(h2:o.data=.fields vs)(h3:vs[11]? =some (.ref P))(h4:vs.getD 11 .none=.ref P)(h5:vs.getD 18 .none=.str file tf)(h6:vs.getD 7 .none=.int flags tg)(h7:vs.getD 9 .none=.bool inF)(h8:vs.getD 10 .none=.int text tt)(h9:c≠P):∀h:Heap,K.In h->W.CodeHd h c P:=
 λ_ X=>⟨o,vs,file,tf,flags,tg,inF,text,tt,X _ _ h,h1,h2,h3,h4,h5,h6,h7,h8,h9⟩
def q9o{K:am}{mg:Za}{P bm:Addr}(hm:mg "__builtins__"=some (.ref bm))(h:K.lookup bm=some {cls:=.type "module",dict:=some builtinsNs,data:=.plain})(n1:bm≠builtinsNs)(n2:bm≠mainGlobals)(n3:bm≠P):∀h:Heap,K.In h->h.BuiltinsAt mg P:=
 λ_ X=>⟨bm,_,hm,n1,n2,n3,X _ _ h,rfl,rfl,rfl⟩
def ua(K:am)(P:Addr)(lp:Pos)(q:Str)(n:Nat):Sp:=λvs H Q _=>∃(b:Addr) (ns:Zf),vs=[.ref b]/\SqL K H b (ns.map V.int)/\ns.length<=n/\H P=some (.lam lp q)/\∀H',H' P=some (.lam lp q)->Q (.bl true) H'
def qpu{P:Program}{w:World}{K:am}{mg:Za}{base:Heap}{CX:iq}{k n:Nat}{fa:Addr}{fd:FuncData}{x:Str}{P0:Addr}{lp:Pos}{q:Str}{f:List D->Option D}(F:FnOk P w K mg base CX k fa fd [x] (gw K P0 lp q 1 f))(h:∀ns:List Int,ns.length<=n->f [.lst (ns.map D.int)]=some (.bl true)):FnOk P w K mg base CX k fa fd [x] (ua K P0 lp q n):=
 F.imp λvs H Q E h0=>by obtain⟨b,ns,rfl,hb,hl,hP,k⟩:=h0;refine⟨rfl,H,[.lst (ns.map D.int)],.bl true,λ_ _ e=>e,hP,.cons (.lst hb (Rps.ints ns)) .nil,h ns hl,λv H' R' x r=>?_⟩;cases r;exact k H' (x.s _ _ (x.r _ _ hP))
def qi5{P:Program}{w:World}{K:am}{mg mb:Za}{k n:Nat}{fa a c P0:Addr}{lp:Pos}{q:Str}{fd:FuncData}{x:Str}{s₁:Shared}{vs:Ze}{ns:Zf}
 (KX:K.In s₁.heap) (hns:s₁.heap.Ns mainGlobals mg) (hb:s₁.heap.Ns builtinsNs mb) (hbb:∀x:Str,x≠"__name__"->mb x=bootBuiltins x) (hlim:s₁.heap.NoLimit) (hg:s₁.gens=#[])
 (ha:s₁.heap.get? a=some {cls:=.type "list",data:=.seq vs.toArray}) (hi:IntsAre vs ns) (hl:ns.length<=sizeLine) (hn:ns.length<=n) (hr:Room k callerA)
 (hP:s₁.heap.get? P0=some {cls:=.none,data:=.fields #[]}) (hKP:K.lookup P0=none) (hcd:W.CodeHd s₁.heap c P0)
 (F:∀base:Heap,K.In base->base.Ns mainGlobals mg->FnOk P w K mg base bu k fa fd [x] (ua K P0 lp q n)) (j8:∀(s:Shared) (u:Value),BindsTo s fd ⟨[u],[]⟩ [(x,u)]):
 codeAny (model P w) callerA (.call (.ref fa) ⟨[.ref a],[]⟩) (λr s'=>r=.ok (.ret (.bool true))/\OldK s₁.heap s'.heap/\s'.os=s₁.os/\AllBare s'.gens) s₁:=by
 have rv:=Hs hi;have lenV:=hi.length;have naP:a≠P0:=λz=>by rw[z,hP]at ha;cases ha
 have core:∀H:Hp,(∀b,H b=none∨(b=P0/\H b=some (.lam lp q))∨∃o xs,H b=some (.frz o (.lst xs)))->H P0=some (.lam lp q)->SqL K H a (ns.map V.int)->HOk P w H s₁.heap->(∀b,H b≠none->b=a∨b=P0)->(H a≠none->K.lookup a=none)->
  codeAny (model P w) callerA (.call (.ref fa) ⟨[.ref a],[]⟩) (λr s'=>r=.ok (.ret (.bool true))/\OldK s₁.heap s'.heap/\s'.os=s₁.os/\AllBare s'.gens) s₁:=by
  intro H hO hH hS hok hA hK;have base_of:∀{b:Addr} {o:Obj},s₁.heap.get? b=some o->H b=none->(fY s₁.heap H).get? b=some o:=λe n=>ql7 e n;have noA:∀{b:Addr} {o:Obj} {es:Array DictEntry} {ep:Nat},s₁.heap.get? b=some o->o.data=.dict es ep->H b=none:=λ{b o es ep} e d=>by
   cases z:H b with
   |none=>rfl
   | some u=>
    rcases hA b (by rw[z];simp)with e'|e'
    .subst e';rw[ha]at e;cases e;have d':=d;cases d'
    .subst e';rw[hP]at e;cases e;have d':Data.fields _=Data.dict es ep:=d;cases d'
  have nsK:∀{b:Addr} {m:Za},s₁.heap.Ns b m->(fY s₁.heap H).Ns b m:=λ{b m} ⟨o,es,ep,e,d,r⟩=>⟨o,es,ep,base_of e (noA e d),d,r⟩;have hKb:K.In (fY s₁.heap H):=λb o e=>base_of (KX b o e) (by
   cases z:H b with
   |none=>rfl
   | some u=>
    rcases hA b (by rw[z];simp)with e'|e'
    .subst e';rw[hK (by rw[z];simp)]at e;cases e
    .subst e';rw[hKP]at e;cases e)
  have hM:Mod K mg (fY s₁.heap H):=⟨hKb,nsK hns,⟨mb,nsK hb,hbb⟩,let ⟨mc,h1,h2⟩:=hlim;⟨mc,nsK h1,h2⟩⟩;have e0:Env0 P w K mg (fY s₁.heap H) callerA [] s₁ H:=⟨rfl,hM,λb o e=>qp8 e,Nat.le_of_eq (qif),trivial,λb hb=>absurd (show b∈([]:List Addr)from hb) (by simp),hok,.of_eq hg⟩;refine codeAny_mono ((F _ hKb (nsK hns)).run callerA [] s₁ H ⟨[.ref a],[]⟩ [.ref a] [.ref a] (λv H'=>v=.bl true/\H' P0=some (.lam lp q)) (λ_ _ _=>False) hr e0 (j8 s₁ (.ref a)) (.cons rfl .nil) ⟨a,ns,rfl,hS,hn,hH,λH' h=>⟨rfl,h⟩⟩) λr s' h=>?_;cases r with
  |error e=>exact h.elim
  | ok fl=>
   cases fl with
   |next=>exact False.elim h
   |brk=>exact False.elim h
   |cont=>exact False.elim h
   | ret u=>
    obtain⟨v,H',os,bare,un,hok',r',q',hP'⟩:=h;subst q';obtain rfl:u=Value.bool true:=r';have keep:∀b o,b≠P0->s₁.heap.get? b=some o->s'.heap.get? b=some o:=λb o nb e=>by
     cases z:H b with
     |none=>exact un.keep b o e z (by intro z;exact absurd (show b∈([]:List Addr)from z) (by simp)) (by simp)
     | some u=>
      rcases hO b with z2|⟨z2,_⟩|⟨ob,xs,z2⟩
      .rw[z]at z2;cases z2
      .exact absurd z2 nb
      .have z3:=un.frzs b ob _ z2;let⟨e1,_⟩:=hok b _ z2;let⟨e2,_⟩:=hok' b _ z3;rw[e]at e1;cases e1;exact e2
    let⟨ps,e1,_⟩:=hok' P0 _ hP';refine⟨rfl,⟨λb o e=>?_,λb o e=>?_⟩,os,bare⟩
    .by_cases z:b=P0
     .subst z;rw[hP]at e;cases e;obtain⟨oc,cs,_,_,_,_,_,_,_,k1,k2,k3,k4,_⟩:=hcd;exact .inr (.inl ⟨⟨c,oc,cs,k1,k2,k3,k4⟩,rfl,#[],ps,rfl,by rw[Array.empty_append];exact e1⟩)
     .exact .inl (keep b o z e)
    .by_cases z:b=P0
     .rw[z];exact⟨_,e1⟩
     .exact⟨o,keep b o z e⟩
 have cB:∀H:Hp,ObjOk P w H s₁.heap P0 (.lam lp q):=λH=>⟨#[],hP,by unfold TriplesOk;trivial,.inl (by rfl)⟩;cases hk:K.lookup a with
 | some o=>
  have e:=KX a o hk;rw[ha]at e;cases e;refine core (λb=>if b=P0 then some (.lam lp q)else none) (λb=>?_) (if_pos rfl) (.inr ⟨_,vs.toArray,_,hk,rfl,rfl,rfl,by rw[jx,lenV];exact hl,by simpa using rv⟩) (λb u z=>?_) (λb z=>?_) λz=>absurd (if_neg naP) z
  .by_cases hb:b=P0
   .exact .inr (.inl ⟨hb,if_pos hb⟩)
   .exact .inl (if_neg hb)
  .by_cases hb:b=P0
   .have z':=(if_pos hb).symm.trans z;cases z';subst hb;exact cB _
   .have z':=(if_neg hb).symm.trans z;cases z'
  .by_cases hb:b=P0
   .exact .inr hb
   .exact absurd (if_neg hb) z
 | none=>
  have hHa:(λb=>if b=P0 then some (HO.lam lp q)else if b=a then some (.frz {cls:=.type "list",data:=.seq vs.toArray} (.lst (ns.map V.int)))else none) a=some (.frz {cls:=.type "list",data:=.seq vs.toArray} (.lst (ns.map V.int))):=by dsimp only;rw[if_neg naP,if_pos rfl]
  refine core (λb=>if b=P0 then some (.lam lp q)else if b=a then some (.frz {cls:=.type "list",data:=.seq vs.toArray} (.lst (ns.map V.int)))else none) (λb=>?_) (if_pos rfl) (.inl (.inr ⟨{cls:=.type "list",data:=.seq vs.toArray},hHa⟩)) (λb u z=>?_) (λb z=>?_) λ_=>hk
  .by_cases hb:b=P0
   .exact .inr (.inl ⟨hb,if_pos hb⟩)
   .by_cases hb2:b=a
    .exact .inr (.inr ⟨_,_,by rw[hb2];exact hHa⟩)
    .exact .inl (by rw[if_neg hb,if_neg hb2])
  .by_cases hb:b=P0
   .have z':=(if_pos hb).symm.trans z;cases z';subst hb;exact cB _
   .by_cases hb2:b=a
    .subst hb2;rw[hHa]at z;cases z;exact⟨ha,by rw[ja];exact hl,vs,_,rv,ha⟩
    .dsimp only at z;rw[if_neg hb,if_neg hb2]at z;cases z
  .by_cases hb:b=P0
   .exact .inr hb
   .by_cases hb2:b=a
    .exact .inl hb2
    .rw[if_neg hb,if_neg hb2]at z;exact absurd rfl z
def walk_ofL{l:W.OpenLaw}{n k:Nat}{q:Program}{loose:Zj}{XP:(Str->Option Value)->Heap->Prop}{YP:World->Heap->Prop}{d:DefRec}{K:Params->W.Frag}{P0 c:Addr}{lp:Pos}{qn:Str}{x:Str}
 (hn:l.most=some n) (hn2:n<=sizeLine) (hdf:d.params.defaults=[]) (hr:Room k callerA)
 (hY:∀(w:World) (h:Heap),YP w h->(K w.params).In h/\h.get? P0=some {cls:=.none,data:=.fields #[]}) (hKP:∀P,(K P).lookup P0=none) (hcd:∀P (h:Heap),(K P).In h->W.CodeHd h c P0)
 (F:∀(w:World) (mg:Za) (fa:Addr) (h:Heap),(K w.params).In h->h.Ns mainGlobals mg->mg d.name=some (.ref fa)->
   ∃fd:FuncData,(∀(s:Shared) (u:Value),BindsTo s fd ⟨[u],[]⟩ [(x,u)])/\
    ∀base:Heap,(K w.params).In base->base.Ns mainGlobals mg->FnOk l.prog w (K w.params) mg base bu k fa fd [x] (ua (K w.params) P0 lp qn n)):
 W.WalkO q loose XP YP l.row.toRowW d [] (λf vs=>PySem.call f vs):=by
 refine Att.attach_call hn hdf λw s₀ s₁ mg mb fa o pm cd doc a vs ns G Y ho hd hcd' hmg hobj j7 zd hg=>?_;let⟨KX,hP⟩:=hY w _ Y;let⟨fd,hb,hF⟩:=F w mg fa _ KX G.T.g hmg;exact qi5 KX G.T.g G.T.b G.T.builtins G.T.nolimit hg hobj j7 (jz zd hn2) zd hr hP (hKP _) (hcd _ _ KX) hF hb
section
variable{X:Cx}{K:am}
def DI(K:am):List V->Hp->VK->Prop:=λxs H Q=>∃(p:Addr) (ns:Zf),xs=[.ref p]/\SqL K H p (ns.map V.int)/\ns≠[]/\Q (.int ((cU ns).getD 0)) H
def qeq(hK:X.K=K)(hc:X.calm=true):gf X (.builtin "min") (DI K):=by
 subst hK;intro z5 s J H xs us Q I r h;obtain⟨p,ns,rfl,hq,hn,k⟩:=h;obtain⟨u,rfl,ru⟩:=cj r;cases ru;let⟨its,rv,pl,hz⟩:=I.list hq;have ln:its.length=ns.length:=by have:=rv.length;simp at this;lia
 have hh:=I.ok.hd hc;have n0:=List.length_pos_iff.mpr hn;refine qj0 (bt:=uU ns) hh pl.isList (by simp;lia) (λi j vi vj s Q E hi hj _ q=>?_) λv s' ev k'=>?_
 .obtain⟨t,rfl⟩:=mO rv (by simpa using hi);obtain⟨t',rfl⟩:=mO rv (by simpa using hj);exact HT.rcLt_int _ s _ t _ t' _ _ _ _ (q s ⟨λ_ _ e=>e,rfl,rfl,rfl⟩)
 .rw[jx,ln]at ev;obtain⟨t,rfl⟩:=mO rv (by simpa using ev);refine⟨_,_,xE I k',?_,k⟩;cases ns with
  |nil=>exact absurd rfl hn
  |cons a r=>exact⟨t,rfl⟩
def tw:D->Option D
 | .lst xs=>match eB xs with
  |some ns=>if ns≠[]then some (.int ((cU ns).getD 0))else none
  |none=>none
 |_=>none
def qqz:oS K (DI K) tw:=λH x d u Q r e k=>by
 unfold tw at e;split at e
 .obtain⟨p,vs,rfl,h,rs⟩:=r.isL;split at e
  .rename_i ns z;split at e
   .rename_i hn;cases e;have ex:=pE rs z;subst ex;exact⟨p,ns,rfl,h,hn,k _ (.int _)⟩
   .cases e
  .cases e
 .cases e
end
end L2
namespace L2
open PySem PySem.Spec PyProof.Rows PySem.W
noncomputable def dQ:Nat->List Nat
 |0=>[0]
 |k+1=>(dQ k).map (2* ·)++(dQ k).map (2* · +1)
noncomputable def f9:Nat->Nat->List Int
 |0,_=>[]
 |k+1,r=>f9 k (r / 2)++[((r % 2:Nat):Int)]
def qxf:∀n,n<7->∀r,r<2^n->∀q,q<2^n->HT.lexLt (f9 n r) (f9 n q)=decide (r<q):=by decide+kernel
def Ls(h:Heap)(v:Value)(ns:Zf):Prop:=∃b ws,v=.ref b/\h.IsList b ws.toArray/\IntsAre ws ns
def EC{f:Nat->Value}{l:Zg}:(mE (λr=>(f r,f r)) l.toArray).map (·.2)=(l.map f).toArray:=by apply ext';rw[Array.toList_map];show(l.map _).map _=l.map f;rw[jr];rfl
theorem uc:∀{n r:Nat},(f9 n r).length=n
 |0,_=>rfl
 | n+1,r=>by unfold f9;rw[jt,uc];rfl
section
variable{prog:Program}{w:World}{A:Around}{E:Z0}{s:Shared}
def qyl{v u:Value}{ns ms:Zf}{Q:Bool->Shared->Prop}(hv:Ls s.heap v ns)(hu:Ls s.heap u ms)(hl:ns.length=ms.length)(un:A.units<cLine)(k:Q (HT.lexLt ns ms) s):wpAny (model prog w) A (keyLt' oneType' v u) Q E s:=by obtain⟨l,ws,rfl,⟨⟨c1,dd,dt,sl⟩,ho,hc,n,hd⟩,i1⟩:=hv;obtain⟨b,ws2,rfl,⟨⟨c2,dd2,dt2,sl2⟩,ho2,hc2,n2,hd2⟩,i2⟩:=hu;simp only at hc hd hc2 hd2;subst hc hd hc2 hd2;rw[keyLt'_oneType,oneLt'_eq,if_pos rfl];refine j9 (wpAny_cRoomFor un (j9 (wpAny_callSpecialIfBound?_slot ⟨_,ho,rfl⟩ F.slot_list_lt ?_)));refine call_meets F.slot_list_lt ⟨_,ho,rfl⟩ F.entry_list_lt (F.args_list_lt_2 _ _) (HY l b ws.toArray ws2.toArray n n2 dd dd2 sl sl2 ns ms (by simpa using i1) (by simpa using i2) hl) ⟨ho,ho2,?_⟩;exact ku k
def Ls.keep{h h':Heap}{v:Value}{ns:Zf}{a:Addr}(x:Ls h v ns)(na:v≠.ref a)(k:∀b o,b≠a->h.get? b=some o->h'.get? b=some o):Ls h' v ns:=by obtain⟨b,ws,rfl,⟨o,e,r⟩,i⟩:=x;exact⟨b,ws,rfl,⟨o,k b o (λz=>na (by rw[z])) e,r⟩,i⟩
def qps{a:Addr}{n k:Nat}{f:Nat->Value}{F:Fin->Shared->Prop}(un:A.units<cLine)(hg:s.heap.get? a=some (seqObj "list" ((dQ n).map f).toArray k))(n6:n<7)(h:∀r,r<2^n->f r≠.ref a/\Ls s.heap (f r) (f9 n r))
 (q:F (.done (.ret .none)) {s with heap:=sortedHeap s.heap a ((dQ n).map f) ((List.range (2^n)).map f).toArray}):wpAny (model prog w) A (Builtin.«list.sort» ⟨[.ref a],[]⟩) F E s:=by
 have len:((dQ n).map f).length=2^n/\2^n<128/\(∀r∈dQ n,r<2^n)/\(dQ n).Perm (List.range (2^n)):=by
  rw[ja]
  revert n6
  clear hg h q;exact(show∀n,n<7->(dQ n).length=2^n/\2^n<128/\(∀r∈dQ n,r<2^n)/\(dQ n).Perm (List.range (2^n))by decide+kernel) n
 have ep:pairsOf ((dQ n).map f)=mE (λr=>(f r,f r)) (dQ n).toArray:=by apply ext';rw[pairsOf_toList,List.zip_map'];rfl
 have arr:(pairsOf ((dQ n).map f)).map (·.2)=((dQ n).map f).toArray:=by rw[ep,EC]
 have e0:n=0->(dQ n).map f=(List.range (2^n)).map f:=λz=>by subst z;rfl
 generalize hv:(dQ n).map f=vs at*;obtain⟨len,z128,ir,pm⟩:=len;have hzl:2^n<=sizeLine:=jz (le_of_lt z128) (by decide);rw[list_sort_plain];have lt:a<s.heap.objs.size:=jd hg;refine j9 (listItems_at hg rfl (j9 (kj hg rfl ?_ (hsz2:=by simp))));obtain⟨e1,g1⟩:∃e1,(s.heap.update a (Obj.mapSeq λ_=>#[])).get? a=some (seqObj "list" #[] e1):=⟨_,vt hg _⟩;refine j9 (seqEpoch_at g1 rfl (j9 (wpAny_newTuple (j9 (wpAny_newList (xm ?_))))));have g2:(((s.heap.update a (Obj.mapSeq λ_=>#[])).push (seqObj "tuple" vs.toArray 0)).push (seqObj "list" #[] 0)).get? a=some (seqObj "list" #[] e1):=by
  rw[get?_push_ne,get?_push_ne]
  .exact g1
  .rw[vv];exact jq lt
  .rw[size_push',vv];exact jq (lt_succ_of_lt lt)
 have kp:∀b o,b≠a->s.heap.get? b=some o->(((s.heap.update a (Obj.mapSeq λ_=>#[])).push (seqObj "tuple" vs.toArray 0)).push (seqObj "list" #[] 0)).get? b=some o:=λb o hb e=>
  je _ (je _ ((ke s.heap _ (Ne.symm hb)).trans e))
 generalize hh2:((s.heap.update a (Obj.mapSeq λ_=>#[])).push (seqObj "tuple" vs.toArray 0)).push (seqObj "list" #[] 0)=h2' at g2 kp;show wpAny (model prog w) A _ F E {s with heap:=h2'};dsimp only;have fin:∀out,sortedHeap s.heap a vs out=h2'.update a (Obj.mapSeq λ_=>out):=λout=>by rw[<-hh2];rfl
 have sz:vs.toArray.size=vs.length:=jx;by_cases n0:n=0
 .have h2:vs.toArray.size<2:=by rw[sz,len,n0];decide
  rw[if_pos h2,if_pos h2];refine j9 (jb ?_);rw[StateT.run_pure];refine j9 (jb ?_);dsimp only;refine j9 (seqEpoch_at g2 rfl (j9 (kj g2 rfl ?_ (hsz2:=?_))))
  .simp only[bne_self_eq_false,false_eq_true,if_false];refine jb ?_;rw[<-e0 n0,<-arr,fin]at q;exact q
  .show((pairsOf vs).map (·.2)).size<=_;rw[arr,sz];lia
 .have z2:=Nat.pow_le_pow_right (n:=2) (by lia) (show 1<=n by lia);have h2:¬vs.toArray.size<2:=by rw[sz,len];lia
  rw[if_neg h2,if_neg h2];refine j9 (kas_kind (T:=.type "list") (s:={s with heap:=h2'}) (by lia) (λv hv'=>?_) (by decide) (by decide) ?_)
  .rw[<-hv]at hv';obtain⟨r,hr,rfl⟩:=List.mem_map.mp hv';let⟨na,hl⟩:=h r (ir r hr);let⟨b,ws,e,⟨o,e',c,_⟩,_⟩:=hl.keep na kp;rw[e];exact c▸(Looks.ld e').andThen .now
  have L:ck (model prog w) A E {s with heap:=h2'} oneType' (λr=>(f r,f r)) (2^n):=λx y st Q hx hy hk hq=>by let⟨ax,kx⟩:=h x hx;let⟨ay,ky⟩:=h y hy;rw[lt'_eq];refine jc (wpS_get ?_);rw[hk];refine jc (wpS_lift (ve (qyl (kx.keep ax kp) (ky.keep ay kp) (by rw[uc,uc]) un ⟨rfl,?_⟩)));rw[qxf n n6 x hx y hy];exact jf hq
  rw[show vs.toArray.zip vs.toArray=_ from ep];refine j9 (xg (F9 (a:=(dQ n).toArray) (g:=7) (Q:=λ_ u=>∃p g,u=sS oneType' (λr=>(f r,f r)) (List.range (2^n)).toArray p g) L ⟨by simpa using pm.length_eq,pm⟩ (by lia) (by lia) λp g=>⟨p,g,rfl⟩) ?_ λ_ _ e=>e);rintro⟨⟨⟩,u⟩ s' ⟨rfl,p,g,rfl⟩;dsimp only;have out:(arrOf (sS oneType' (λr=>(f r,f r)) (List.range (2^n)).toArray p g)).map (·.2)=((List.range (2^n)).map f).toArray:=EC;refine j9 (seqEpoch_at g2 rfl (j9 (kj g2 rfl ?_ (hsz2:=?_))))
  .rw[show failedOf (sS oneType' (λr=>(f r,f r)) (List.range (2^n)).toArray p g)=none from rfl];simp only[bne_self_eq_false,false_eq_true,if_false];refine jb ?_;rw[<-out,fin]at q;exact q
  .show((arrOf (sS oneType' (λr=>(f r,f r)) (List.range (2^n)).toArray p g)).map (·.2)).size<=_;rw[out,jx,ja,length_range];lia
end
def DP(K:am):List V->Hp->VK->Prop:=λxs H Q=>∃a n,∃f:Nat->Addr,n<7/\xs=[.ref a]/\SqL K H a ((dQ n).map λr=>V.ref (f r))/\(∀r,r<2^n->SqL K H (f r) ((f9 n r).map V.int))/\∀l:Addr,H l=none->Q (.ref l) (aM H l (.lst ((List.range (2^n)).map λr=>V.ref (f r))))
section
variable{X:Cx}{K:am}{z5:Z3}{J:St}{H:Hp}{s:Shared}{f:Nat->Addr}
theorem D5:∀{l:Zg} {us:Ze},Vals (l.map λr=>V.ref (f r)) us->us=l.map λr=>.ref (f r)
 |[],_,.nil=>rfl
 | b::l,_,.cons r t=>by cases r;rw[x5,D5 t]
theorem Dc:∀{l:Zg},Vals (l.map λr=>V.ref (f r)) (l.map λr=>Value.ref (f r))
 |[]=>.nil
 |b::l=>.cons rfl Dc
def qiz(hK:X.K=K)(hu:X.A.units+64<cLine):gf X (.builtin "sorted") (DP K):=by
 subst hK;intro z5 s J H xs us Q I r h;obtain⟨a,n,f,n6,rfl,hq,hf,q⟩:=h;obtain⟨u,rfl,ru⟩:=cj r;cases ru;let⟨its,rv,pl,hz⟩:=I.list hq;have ei:=D5 rv;subst ei;have z64:2^n<=sizeLine:=jz (Nat.pow_le_pow_right (by lia) (show n<=6 by lia)) (by decide);generalize hvs:(dQ n).map (λr=>Value.ref (f r))=vs at*;have I1:=I.kept (h':=(s.heap.push (seqObj "list" #[] 0)).update s.heap.objs.size (Obj.mapSeq λx=>x++vs.toArray)) (t':=s.toks) λb o e=>(ke _ _ (ne_of_gt (jd e))).trans (je _ e);generalize hh1:(s.heap.push (seqObj "list" #[] 0)).update s.heap.objs.size (Obj.mapSeq λx=>x++vs.toArray)=h1 at I1;refine Calls.call_function_entry kind_sorted plain_sorted entry_sorted (args_sorted1 _) ?_;unfold Builtin.«sorted»;refine j9 (m:=checkCount "sorted" 1 1 _) (jb (j9 (collect_list pl.isList ?_ (by rw[<-rv.length];exact hz))));rw[hh1];refine j9 (wpAny_newList ?_ (hsz:=by rw[<-rv.length];exact hz));have I2:=I1.kept (h':=h1.push (seqObj "list" vs.toArray 0)) (t':=s.toks) λb o e=>je _ e;have g:(h1.push (seqObj "list" vs.toArray 0)).get? h1.objs.size=some (seqObj "list" vs.toArray 0):=ju _ rfl;subst hvs;refine j9 (xm (kg slot_list_sort ⟨_,g,rfl⟩ entry_list_sort (qps (s:={s with heap:=h1.push (seqObj "list" ((dQ n).map λr=>Value.ref (f r)).toArray 0)}) (show X.A.units+1+1<_ by lia) g n6 (λr hr=>⟨λz=>?_,?_⟩) ⟨_,rfl,jb ⟨_,rfl,?_⟩⟩) (args_list_sort _)))
 .let⟨_,_,pl,_⟩:=I1.list (hf r hr);obtain⟨o,e2,_⟩:=pl.isList;exact jq (jd e2) (Value.ref.inj z)
 .let⟨its,rv,pl,_⟩:=I2.list (hf r hr);exact⟨f r,its,rfl,pl.isList,dL rv⟩
 .obtain⟨e,he⟩:∃e,(sortedHeap (h1.push (seqObj "list" ((dQ n).map λr=>Value.ref (f r)).toArray 0)) h1.objs.size ((dQ n).map λr=>Value.ref (f r)) ((List.range (2^n)).map λr=>Value.ref (f r)).toArray).get? h1.objs.size=some (seqObj "list" ((List.range (2^n)).map λr=>Value.ref (f r)).toArray e):=sortedHeap_at g;refine⟨.ref h1.objs.size,aM H h1.objs.size (.lst ((List.range (2^n)).map λr=>V.ref (f r))),I1.laid (λb u z=>?_) (jg _) ⟨by rw[ja,length_range];exact z64,_,e,Dc,he⟩,rfl,q _ (I1.hok.fresh (jg _))⟩;have lt:=jd z;rw[sortedHeap_old (jq lt) (jw lt (by rw[size_push'];exact le_succ _))];exact je _ z
end
noncomputable def cV(n:Zf):D:=.lst (n.map D.int)
noncomputable def mj:D->Option (List D)
 |.lst ds=>by classical exact if ds.length.log2<7/\ds=(dQ ds.length.log2).map λr=>cV (f9 ds.length.log2 r)then some ((List.range (2^ds.length.log2)).map λr=>cV (f9 ds.length.log2 r))else none
 |_=>none
def Ew:∀n,n<7->(dQ n).Nodup/\(∀r,r<2^n->r∈dQ n)/\(dQ n).length.log2=n:=by decide+kernel
def qfd{n:Nat}(h:n<7):mj (.lst ((dQ n).map λr=>cV (f9 n r)))=some ((List.range (2^n)).map λr=>cV (f9 n r)):=by unfold mj;dsimp only;rw[ja,(Ew n h).2.2,if_pos ⟨h,rfl⟩]
section
variable{K:am}{O:Zg}{t:TE}{fa:aF}
theorem Fy{R:Hp}{n:Nat}:∀{l:Zg} {vs:List V},l.Nodup->Rps K R vs (l.map λr=>cV (f9 n r))->∃f:Nat->Addr,vs=l.map (λr=>.ref (f r))/\∀r∈l,SqL K R (f r) ((f9 n r).map V.int)
 |[],_,_,.nil=>⟨λ_=>0,rfl,λ_ h=>nomatch h⟩
 | x::l,_,nd,.cons r tl=>by
  let⟨nx,nd⟩:=List.nodup_cons.mp nd;obtain⟨f,rfl,h⟩:=Fy nd tl;obtain⟨a,xs,rfl,g,rx⟩:=r.isL;have ex:=pE rx (jX _);subst ex;refine⟨λr=>if r=x then a else f r,?_,λr hr=>?_⟩<;>dsimp only
  .rw[x5,if_pos rfl];congr 1;exact map_congr_left λr hr=>by rw[if_neg λz:r=x=>nx (z▸hr)]
  .rcases List.mem_cons.mp hr with rfl|hr
   .rw[if_pos rfl];exact g
   .rw[if_neg λz:r=x=>nx (z▸hr)];exact h r hr
theorem F6{R:Hp}{n:Nat}{f:Nat->Addr}:∀{l:Zg},(∀r∈l,SqL K R (f r) ((f9 n r).map V.int))->Rps K R (l.map λr=>V.ref (f r)) (l.map λr=>cV (f9 n r))
 |[],_=>.nil
 |r::l,h=>.cons (.lst (h r jj) (Rps.ints _)) (F6 λx hx=>h x (ji _ hx))
def qpj(ha:ME K O t fa):MN K O (kF (DP K) (i8 t fy)) (gq mj fa):=λZ J H R M ds M' Q S e k=>by
 let⟨x,M1,e1,e⟩:=bP e;obtain⟨e2,rfl⟩:=c7 e;refine ha Z J H R M x _ _ S e1 λv H1 R1 S1 st1 r1=>?_;cases r1 with
 | @lst a xs es h r=>
  unfold mj at e2;dsimp only at e2;generalize es.length.log2=n at e2;split at e2
  .rename_i ex;obtain⟨n6,rfl⟩:=ex;cases e2;let⟨nd,all,_⟩:=Ew n n6;obtain⟨f,rfl,hf⟩:=Fy nd r;refine⟨a,n,f,n6,rfl,Same.sqL S1.sub h,λr hr=>Same.sqL S1.sub (hf r (all r hr)),λl hl=>?_⟩;have y:=Ext.hid (o:=.lst ((List.range (2^n)).map λr=>V.ref (f r))) S1.sub hl;exact k l _ _ _ (S1.ext y) (st1.trans y.stp) (st1.new hl) cA (S1.out hl) (F6 λr hr=>hf r (all r (List.mem_range.mp hr)))
  .cases e2
 |_=>cases e2
end
def PrL(h:Heap)(a:Addr)(v:Value)(q:Int×List Int):Prop:=∃b o n t x us,v=.ref b/\b≠a/\x≠a/\h.get? b=some o/\o.cls=.type "tuple"/\o.data=.seq #[.int q.1 t,.ref x] n/\h.IsList x us.toArray/\IntsAre us q.2
def PrL.keep{h h':Heap}{a:Addr}{v:Value}{q:Int×List Int}(x:PrL h a v q)(k:∀b o,b≠a->h.get? b=some o->h'.get? b=some o):PrL h' a v q:=by obtain⟨b,o,n,t,x,us,e,ba,xa,g,c,d,⟨o',g',l⟩,i⟩:=x;exact⟨b,o,n,t,x,us,e,ba,xa,k _ _ ba g,c,d,⟨o',k _ _ xa g',l⟩,i⟩
def qk6{h:Heap}{a:Addr}:∀{vs:Ze} {qs:List (Int×List Int)},Paired (PrL h a) vs qs->∃fs,KatTups h vs fs/\fs.length=vs.length/\∀v∈fs,∃c t,v=Value.int c t:=by
 intro vs qs r;induction r with
 |nil=>exact⟨[],.nil,rfl,λ_ z=>nomatch z⟩
 | cons e _ ih=>
  obtain⟨b,o,n,t,x,us,rfl,_,_,g,c,d,_⟩:=e;obtain⟨fs,h1,h2,h3⟩:=ih;refine⟨.int _ t::fs,.cons g c d rfl h1,congrArg Nat.succ h2,λv hv=>?_⟩;rcases List.mem_cons.mp hv with rfl|hv
  .exact⟨_,_,rfl⟩
  .exact h3 v hv
section
variable{prog:Program}{w:World}{A:Around}{E:Z0}{s:Shared}
def qop{a:Addr}{vs:Ze}{qs:List (Int×List Int)}{p:Array Nat}{k:Nat}{F:Fin->Shared->Prop}(un:A.units+1<cLine)(hg:s.heap.get? a=some (seqObj "list" vs.toArray k))(zv:vs.length<128)(hq:Paired (PrL s.heap a) vs qs)(hd:∀i j,i<qs.length->j<qs.length->i≠j->qs.getD i (0,[])≠qs.getD j (0,[]))
 (hw:∀i j,i<qs.length->j<qs.length->(qs.getD i (0,[])).2.length=(qs.getD j (0,[])).2.length) (P:Pm qs.length p) (U:Up (λi j=>cR (qs.getD i (0,[])) (qs.getD j (0,[]))) p qs.length)
 (q:F (.done (.ret .none)) {s with heap:=sortedHeap s.heap a vs (p.toList.map λi=>vs.getD i Value.none).toArray}):wpAny (model prog w) A (Builtin.«list.sort» ⟨[.ref a],[]⟩) F E s:=by
 have lq:=Aj hq;have hzl:vs.length<=sizeLine:=jz (le_of_lt zv) (by decide);rw[list_sort_plain];have lt:a<s.heap.objs.size:=jd hg;refine j9 (listItems_at hg rfl (j9 (kj hg rfl ?_ (hsz2:=by simp))));obtain⟨e1,g1⟩:∃e1,(s.heap.update a (Obj.mapSeq λ_=>#[])).get? a=some (seqObj "list" #[] e1):=⟨_,vt hg _⟩;refine j9 (seqEpoch_at g1 rfl (j9 (wpAny_newTuple (j9 (wpAny_newList (xm ?_))))));have g2:(((s.heap.update a (Obj.mapSeq λ_=>#[])).push (seqObj "tuple" vs.toArray 0)).push (seqObj "list" #[] 0)).get? a=some (seqObj "list" #[] e1):=by
  rw[get?_push_ne,get?_push_ne]
  .exact g1
  .rw[vv];exact jq lt
  .rw[size_push',vv];exact jq (lt_succ_of_lt lt)
 have kp:∀b o,b≠a->s.heap.get? b=some o->(((s.heap.update a (Obj.mapSeq λ_=>#[])).push (seqObj "tuple" vs.toArray 0)).push (seqObj "list" #[] 0)).get? b=some o:=λb o hb e=>
  je _ (je _ ((ke s.heap _ (Ne.symm hb)).trans e))
 generalize hh2:((s.heap.update a (Obj.mapSeq λ_=>#[])).push (seqObj "tuple" vs.toArray 0)).push (seqObj "list" #[] 0)=h2' at g2 kp;have hq':Paired (PrL h2' a) vs qs:=Paired.mapP hq λv q h=>h.keep kp;show wpAny (model prog w) A _ F E {s with heap:=h2'};dsimp only;have fin:∀out,sortedHeap s.heap a vs out=h2'.update a (Obj.mapSeq λ_=>out):=λout=>by rw[<-hh2];rfl
 have lo:(p.toList.map λi=>vs.getD i Value.none).length=vs.length:=by rw[ja,length_toList,P.size,lq]
 by_cases h2:vs.length<2
 .have sm:vs.toArray.size<2:=by rw[jx];exact h2
  rw[if_pos sm,if_pos sm];refine j9 (jb ?_);rw[StateT.run_pure];refine j9 (jb ?_);dsimp only;have ev:vs=p.toList.map λi=>vs.getD i Value.none:=by
   have pe:=P.perm;rw[<-lq]at pe
   match vs,h2 with
   |[],_=>rw[List.perm_nil.mp pe];rfl
   |[v],_=>rw[List.perm_singleton.mp pe];rfl
   |_::_::_,h=>exact absurd h (by simp)
  have arr:(vs.toArray.zip vs.toArray).map (·.2)=vs.toArray:=Hw h2 rfl;refine j9 (seqEpoch_at g2 rfl (j9 (kj g2 rfl ?_ (hsz2:=?_))))
  .simp only[bne_self_eq_false,false_eq_true,if_false];refine jb ?_;rw[<-ev,<-arr,fin]at q;exact q
  .show((vs.toArray.zip vs.toArray).map (·.2)).size<=_;rw[arr,jx];lia
 .have sm:¬vs.toArray.size<2:=by rw[jx];exact h2
  rw[if_neg sm,if_neg sm];let⟨fs,t1,t2,t3⟩:=qk6 hq';refine j9 (kat_kind (s:={s with heap:=h2'}) (T:=.type "int") t1 (by lia) (λv hv=>?_) (by decide) ?_)
  .obtain⟨c,t,rfl⟩:=t3 v hv;exact λA Q E s _ q=>jb q
  refine j9 (xg (F8 (ks:=vs) (vs:=vs) (Dn qs hd) P U lq lq (by lia) (by lia) (λi j hi hj st Q hk q=>?_) (Q:=λ_ st=>failedOf st=none/\(arrOf st).map (·.2)=(p.toList.map λi=>vs.getD i Value.none).toArray) λst x y=>⟨x,y⟩) ?_ λ_ _ e=>e)
  .let⟨b,o,n,t,x,us,e1,_,_,g,_,d,l,i1⟩:=uM (a:=Value.none) (b:=((0:Int),([]:Zf))) (i:=i) hq' (by lia);let⟨b',o',n',t',x',us',e1',_,_,g',_,d',l',i1'⟩:=uM (a:=Value.none) (b:=((0:Int),([]:Zf))) (i:=j) hq' (by lia);rw[e1,e1',lt'_eq];refine jc (wpS_get ?_);rw[hk];exact jc (wpS_lift (ve (Ex g d g' d' l l' i1 i1' (hw i j hi hj) un ⟨rfl,jf q⟩)))
  rintro⟨⟨⟩,st⟩ s' ⟨rfl,hf,ho⟩;dsimp only;refine j9 (seqEpoch_at g2 rfl (j9 (kj g2 rfl ?_ (hsz2:=?_))))
  .rw[hf];simp only[bne_self_eq_false,false_eq_true,if_false];refine jb ?_;rw[<-ho,fin]at q;exact q
  .show((arrOf st).map (·.2)).size<=_;rw[ho,jx];lia
end
def DQ(K:am):List V->Hp->VK->Prop:=λxs H Q=>∃(l:Addr) (vs:List V) (qs:List (Int×List Int)),xs=[.ref l]/\SqL K H l vs/\vs.length=qs.length/\(∀i v,vs[i]? =some v->PrV K H v (qs.getD i (0,[])))/\okQ qs/\
 ∀D:Addr,H D=none->Q (.ref D) (aM H D (.lst ((c9 qs).map λi=>vs.getD i .non)))
section
variable{X:Cx}{K:am}
def qt7{H:Hp}{s:Shared}{z5:Z3}{J:St}{a:Addr}(I:Inv X z5 J H s)(I0:∀b o,s.heap.get? b=some o->b≠a):∀{vs:List V} {us:Ze} {qs:List (Int×List Int)},Vals vs us->vs.length=qs.length->(∀i v,vs[i]? =some v->PrV X.K H v (qs.getD i (0,[])))->Paired (PrL s.heap a) us qs:=by
 intro vs us qs r;induction r generalizing qs with
 |nil=>intro e _;cases qs<;>first|exact .nil|cases e
 | cons r t ih=>
  intro e h;cases qs with
  |nil=>cases e
  | cons q qs=>
   obtain⟨b,x,tk,ws,rfl,⟨o,g,c,n,d⟩,⟨o',g',l⟩,i⟩:=qt6 I (h 0 _ rfl) r;exact .cons ⟨b,o,n,tk,x,ws,rfl,I0 _ _ g,I0 _ _ g',g,c,d,⟨o',g',l⟩,i⟩ (ih (Nat.succ.inj e) λi v hv=>h (i+1) v hv)
def qiy(hK:X.K=K)(hu:X.A.units+64<cLine):gf X (.builtin "sorted") (DQ K):=by
 subst hK;intro z5 s J H xs us Q I r h;obtain⟨l,vs,qs,rfl,hq,lv,pv,ok,q⟩:=h;obtain⟨u,rfl,ru⟩:=cj r;cases ru;let⟨its,rv,pl,hz⟩:=I.list hq;have li:vs.length=its.length:=rv.length;obtain⟨hd,hw⟩:=ok.dist;let⟨p,P,U⟩:=EW qs hd;have l128:=ok.1;have I1:=I.kept (h':=(s.heap.push (seqObj "list" #[] 0)).update s.heap.objs.size (Obj.mapSeq λx=>x++its.toArray)) (t':=s.toks) λb o e=>(ke _ _ (ne_of_gt (jd e))).trans (je _ e);generalize hh1:(s.heap.push (seqObj "list" #[] 0)).update s.heap.objs.size (Obj.mapSeq λx=>x++its.toArray)=h1 at I1;refine Calls.call_function_entry kind_sorted plain_sorted entry_sorted (args_sorted1 _) ?_;unfold Builtin.«sorted»;refine j9 (jb (j9 (collect_list pl.isList ?_ (by rw[<-rv.length];exact hz))));rw[hh1];refine j9 (wpAny_newList ?_);have g:(h1.push (seqObj "list" its.toArray 0)).get? h1.objs.size=some (seqObj "list" its.toArray 0):=ju _ rfl;have pr:Paired (PrL h1 h1.objs.size) its qs:=qt7 I1 (λb o e=>jq (jd e)) rv lv pv;refine j9 (xm (kg slot_list_sort ⟨_,g,rfl⟩ entry_list_sort (qop (show X.A.units+1+1+1<_ by lia) g (by lia) (Paired.mapP pr λv q h=>h.keep λb o _ e=>je _ e) hd hw P U ⟨_,rfl,jb ⟨_,rfl,?_⟩⟩) (args_list_sort _)));obtain⟨e,he⟩:∃e,(sortedHeap (h1.push (seqObj "list" its.toArray 0)) h1.objs.size its (p.toList.map λi=>its.getD i Value.none).toArray).get? h1.objs.size=some (seqObj "list" (p.toList.map λi=>its.getD i Value.none).toArray e):=sortedHeap_at g;have ep:=GZ hd P U;have pick:=Aa rv p.toList;refine⟨.ref h1.objs.size,aM H h1.objs.size (.lst (p.toList.map λi=>vs.getD i .non)),I1.laid (λb u z=>?_) (jg _) ⟨by rw[ja,length_toList,P.size];exact jz (show qs.length<=128 by lia) (by decide),_,e,pick,he⟩,rfl,?_⟩
 .have lt:=jd z;rw[sortedHeap_old (jq lt) (jw lt (by rw[size_push'];exact le_succ _))];exact je _ z
 .rw[ep];exact q _ (I1.hok.fresh (jg _))
end
noncomputable def tQ:D->Option (List D)
 |.lst ds=>(kQ ds).bind λqs=>if okQ qs then some ((c9 qs).map λi=>ds.getD i .non)else none
 |_=>none
def qpi{K:am}{O:Zg}{t:TE}{fa:aF}(ha:ME K O t fa):MN K O (kF (DQ K) (i8 t fy)) (gq tQ fa):=λZ J H R M ds M' Q S e k=>by
 let⟨x,M1,e1,e⟩:=bP e;obtain⟨e2,rfl⟩:=c7 e;refine ha Z J H R M x _ _ S e1 λv H1 R1 S1 st1 r1=>?_;cases r1 with
 | @lst a xs es h r=>
  let⟨qs,e3,e4⟩:=Option.bind_eq_some_iff.mp (show((kQ es).bind λqs=>if okQ qs then some ((c9 qs).map λi=>es.getD i .non)else none)=some ds from e2);split at e4
  .rename_i ok;cases e4;let⟨g1,g2,g3⟩:=qe4 r e3;refine⟨a,xs,qs,rfl,Same.sqL S1.sub h,g1,λi v hv=>(g3 i v hv).mono S1.sub,ok,λl hl=>?_⟩;have y:=Ext.hid (o:=.lst ((c9 qs).map λi=>xs.getD i .non)) S1.sub hl;exact k l _ _ _ (S1.ext y) (st1.trans y.stp) (st1.new hl) cA (S1.out hl) (zG r (c9 qs) λi hi=>by rw[g1];exact List.mem_range.mp ((jB qs).subset hi))
  .cases e4
 |_=>cases e2
end L2
namespace L2
open PySem
def qt4{x y z:Int×List Int}(h:cR x y=true)(g:cR y z=true):cR x z=true:=by
 cases q:cR x z with
 |true=>rfl
 | false=>
  have h2:=pd q (ut x y z h (lh g));subst h2;rw[lh h]at g;cases g
def qt5{x y:Int×List Int}(h:cR x y=true):x≠y:=λz=>by rw[z,GT]at h;cases h
def EV{x y:Int×List Int}(h:x≠y):cR x y=true∨cR y x=true:=by
 cases q:cR x y with
 |true=>exact .inl rfl
 | false=>
  cases q2:cR y x with
  |true=>exact .inr rfl
  |false=>exact absurd (pd q q2) h
theorem Hf:∀{a b:Zf} (c d:Zf),a.length=b.length->HT.lexLt a b=true->HT.lexLt (a++c) (b++d)=true
 |[],[],_,_,_,h=>by cases h
 |[],_::_,_,_,l,_=>by simp at l
 |_::_,[],_,_,l,_=>by simp at l
 | x::xs,y::ys,c,d,l,h=>by
  rw[HT.lexLt_cons]at h;rw[cons_append,cons_append,HT.lexLt_cons];by_cases q:x=y
  .rw[if_pos q]at h ⊢;exact Hf c d (by simpa using l) h
  .rw[if_neg q]at h ⊢;exact h
theorem zX{α:Type}[DecidableEq α]:∀{F T:List α},F.Nodup->(∀x∈F,x∈T)->F.length<=T.length
 |[],_,_,_=>zero_le _
 | x::F,T,nd,h=>by have hx:=h x jj;let⟨n1,n2⟩:=List.nodup_cons.mp nd;have h2:=zX (T:=T.erase x) n2 λy hy=>(List.mem_erase_of_ne λz=>n1 (by rw[<-z];exact hy)).mpr (h y (ji _ hy));rw[List.length_erase_of_mem hx]at h2;have:=List.length_pos_of_mem hx;rw[jy];lia
section
variable(L:List Int->Int)
noncomputable def bK(b:Zf):Int×List Int:=(L b,b)
abbrev i6(a b:Zf):Prop:=cR (bK L a) (bK L b)=true
def cG(E:Z9):List (List Int):=(c9 (E.map (bK L))).map λi=>E.getD i []
def dX(most:Nat)(E:Z9):List (List Int):=(cG L E).take most
structure Top(most k:Nat)(R:Z9):Prop where
 bits:∀b∈R,aC b/\b.length=k
 up:R.Pairwise (i6 L)
 out:∀b,aC b->b.length=k->b∉R->R.length=most/\∀a∈R,i6 L a b
noncomputable def aI(R:Z9):List (List Int):=R.flatMap λb=>[b++[0],b++[1]]
end
section
variable{L:List Int->Int}
def zA{a b:Zf}(h:bK L a=bK L b):a=b:=congrArg Prod.snd h
def iW{α:Type}(d:α)(E:List α):((List.range E.length).map λi=>E.getD i d)=E:=by
 apply ext_getElem?;intro i;by_cases h:i<E.length
 .rw[jo,k9 h,map_some,jl,jh h];rfl
 .rw[xj (by simp;lia),xj (by lia)]
def mM(E:Z9):(cG L E).Perm E:=by have h:=(jB (E.map (bK L))).map λi=>E.getD i [];rw[ja,iW]at h;exact h
def Gw{E:Z9}{i:Nat}(h:i<E.length):(E.map (bK L)).getD i (0,[])=bK L (E.getD i []):=by rw[jl,jl,jo,jh h];rfl
def uu{E:Z9}(nd:E.Nodup):(cG L E).Pairwise (i6 L):=by
 unfold cG;rw[pairwise_map];have h2:(c9 (E.map (bK L))).Nodup:=(jB _).nodup_iff.mpr List.nodup_range;refine(List.pairwise_and_iff.mpr ⟨(yA (E.map (bK L))),h2⟩).imp_of_mem λ{i j} hi hj h=>?_;obtain⟨h3,h4⟩:=h;have li:i<E.length:=by simpa using List.mem_range.mp ((jB _).subset hi)
 have lj:j<E.length:=by simpa using List.mem_range.mp ((jB _).subset hj)
 unfold kA iA at h3;rw[not_eq_true',Gw li,Gw lj]at h3;refine(EV λz=>h4 ?_).resolve_right (by rw[h3];decide);have z:=zA z;rw[jl,jl,jh li,jh lj]at z;have z:=z;rcases Nat.lt_trichotomy i j with w|w|w
 .exact absurd z (List.pairwise_iff_getElem.mp nd i j li lj w)
 .exact w
 .exact absurd z.symm (List.pairwise_iff_getElem.mp nd j i lj li w)
def pC{R:Z9}(h:R.Pairwise (i6 L)):R.Nodup:=List.Pairwise.imp (λ{a b} h (z:a=b)=>qt5 h (congrArg (bK L) z)) h
def Ga{R:Z9}(h:R.Pairwise (i6 L)):cG L R=R:=by refine List.Perm.eq_of_pairwise (λa b _ _ h1 h2=>?_) (uu (pC h)) h (mM R);have h3:cR (bK L b) (bK L a)=true:=h2;rw[lh h1]at h3;cases h3
def qil{R:Z9}{most:Nat}(h:R.Pairwise (i6 L))(hm:R.length<=most):dX L most R=R:=by unfold dX;rw[Ga h,take_of_length_le hm]
def Ge{most:Nat}:Top L most 0 [[]]:=⟨λb hb=>by rw[List.mem_singleton.mp hb];exact⟨λ_ h=>(nomatch h),rfl⟩,List.pairwise_singleton _ _,λb _ hl h=>by rw[List.eq_nil_of_length_eq_zero hl]at h;exact absurd (List.mem_singleton.mpr rfl) h⟩
def mem_both{R:Z9}{x:Zf}:x∈aI R↔∃b∈R,x=b++[0]∨x=b++[1]:=by unfold aI;rw[List.mem_flatMap];simp
theorem uK:∀{R:Z9},R.Nodup->(aI R).Nodup
 |[],_=>nodup_nil
 | b::R,nd=>by
  let⟨n1,n2⟩:=List.nodup_cons.mp nd;have e:aI (b::R)=(b++[0])::(b++[1])::aI R:=rfl;have ab:∀(x:Int),b++[x]∉aI R:=λx hx=>by
   let⟨c,hc,z⟩:=mem_both.mp hx;have:b=c:=by rcases z with z|z<;>exact(append_inj z (by have:=congrArg length z;simpa using this)).1
   exact n1 (by rw[this];exact hc)
  rw[e];refine List.nodup_cons.mpr ⟨λz=>?_,List.nodup_cons.mpr ⟨ab 1,(uK n2)⟩⟩;rcases List.mem_cons.mp z with z|z
  .have:=(append_inj z rfl).2;simp at this
  .exact ab 0 z
def qjr{most k:Nat}{R:Z9}(h:Top L most k R)
 (hL:∀b,aC b->b.length=k->L b<=L (b++[0])/\L b<=L (b++[1])/\(L (b++[0])=L b∨L (b++[1])=L b)):Top L most (k+1) (dX L most (aI R)):=by
 have nE:=uK (pC h.up);have uS:=uu (L:=L) nE;have pS:=mM (L:=L) (aI R);have eS:cG L (aI R)=dX L most (aI R)++(cG L (aI R)).drop most:=(take_append_drop _ _).symm;have uS':=uS;rw[eS,List.pairwise_append]at uS';obtain⟨uT,_,uX⟩:=uS';have inS:∀x∈dX L most (aI R),x∈aI R:=λx hx=>pS.subset (by rw[eS];exact mem_append_left _ hx);have cut:∀x∈aI R,x∉dX L most (aI R)->x∈(cG L (aI R)).drop most:=λx hx nx=>by have:=pS.symm.subset hx;rw[eS]at this;exact(List.mem_append.mp this).resolve_left nx
 have bitsE:∀x∈aI R,aC x/\x.length=k+1:=λx hx=>by
  let⟨b,hb,z⟩:=mem_both.mp hx;let⟨b1,b2⟩:=h.bits b hb;rcases z with rfl|rfl
  .exact⟨ii b1 λy hy=>.inl (List.mem_singleton.mp hy),by simp[b2]⟩
  .exact⟨ii b1 λy hy=>.inr (List.mem_singleton.mp hy),by simp[b2]⟩
 refine⟨λb hb=>bitsE b (inS b hb),uT,λx bx lx nx=>?_⟩;have nz:x≠[]:=λz=>by rw[z]at lx;simp at lx
 obtain⟨b,y,ex⟩:∃b y,x=b++[y]:=⟨x.dropLast,x.getLast nz,(List.dropLast_concat_getLast nz).symm⟩;subst ex;have bb:aC b:=λz hz=>bx z (mem_append_left _ hz);have lb:b.length=k:=by simpa using lx
 have hy:y=0∨y=1:=bx y (by simp);have leb:L b<=L (b++[y]):=by rcases hy with rfl|rfl;exact(hL b bb lb).1;exact(hL b bb lb).2.1
 by_cases hb:b∈R
 .have hx:b++[y]∈aI R:=mem_both.mpr ⟨b,hb,by rcases hy with rfl|rfl;exact .inl rfl;exact .inr rfl⟩;have hd:=cut _ hx nx;refine⟨?_,λa ha=>uX a ha _ hd⟩;have:=List.length_pos_of_mem hd;rw[xx]at this;unfold dX;rw[xq];lia
 .let⟨lr,hr⟩:=h.out b bb lb hb
  let st:List Int->List Int:=λa=>if L (a++[0])=L a then a++[0]else a++[1]
  have st1:∀a∈R,st a∈aI R/\L (st a)=L a/\∃z,st a=a++[z]:=λa ha=>by
   let⟨a1,a2⟩:=h.bits a ha;let⟨_,_,l3⟩:=hL a a1 a2;show(if L (a++[0])=L a then a++[0]else a++[1])∈aI R/\L (if L (a++[0])=L a then a++[0]else a++[1])=L a/\∃z,(if L (a++[0])=L a then a++[0]else a++[1])=a++[z];by_cases q:L (a++[0])=L a
   .rw[if_pos q];exact⟨mem_both.mpr ⟨a,ha,.inl rfl⟩,q,0,rfl⟩
   .rw[if_neg q];exact⟨mem_both.mpr ⟨a,ha,.inr rfl⟩,l3.resolve_left q,1,rfl⟩
  have stlt:∀a∈R,i6 L (st a) (b++[y]):=λa ha=>by
   let⟨_,s2,z,s3⟩:=st1 a ha;let⟨a1,a2⟩:=h.bits a ha;have g:=hr a ha;unfold i6 cR qv bK at g ⊢;simp only at g ⊢;rw[s2];by_cases q:L a=L b
   .rw[if_pos q]at g;by_cases q2:L a=L (b++[y])
    .rw[if_pos q2,s3];exact Hf _ _ (by rw[a2,lb]) g
    .rw[if_neg q2];simp;lia
   .rw[if_neg q]at g;simp at g;rw[if_neg (by lia)];simp;lia
  have nF:(R.map st).Nodup:=by show List.Pairwise (λa b=>a≠b) (R.map st);rw[pairwise_map];refine(pC h.up).imp_of_mem λ{a c} ha hc ne z=>ne ?_;let⟨_,_,z1,e1⟩:=st1 a ha;let⟨_,_,z2,e2⟩:=st1 c hc;rw[e1,e2]at z;exact(append_inj z (by have:=congrArg length z;simpa using this)).1
  have inF:∀f∈R.map st,f∈aI R/\i6 L f (b++[y]):=λf hf=>by obtain⟨a,ha,rfl⟩:=List.mem_map.mp hf;exact⟨(st1 a ha).1,stlt a ha⟩
  have lF:(R.map st).length=most:=by rw[ja,lr]
  have lT:(dX L most (aI R)).length=most:=by have:=zX nF λf hf=>pS.symm.subset (inF f hf).1;unfold dX;rw[xq];lia
  refine⟨lT,λa ha=>?_⟩;have ne:bK L a≠bK L (b++[y]):=λz=>nx (by rw[<-zA z];exact ha);rcases EV ne with g|g
  .exact g
  .exfalso;have sub:∀f∈a::R.map st,f∈dX L most (aI R):=λf hf=>by
    rcases List.mem_cons.mp hf with rfl|hf
    .exact ha
    .by_cases q:f∈dX L most (aI R)
     .exact q
     .let⟨i1,i2⟩:=inF f hf;have h1:=uX a ha f (cut f i1 q);have h2:cR (bK L f) (bK L a)=true:=qt4 i2 g;rw[lh h1]at h2;cases h2
   have na:a∉R.map st:=λhf=>by have h2:cR (bK L a) (bK L (b++[y]))=true:=(inF a hf).2;rw[lh g]at h2;cases h2
   have:=zX (List.nodup_cons.mpr ⟨na,nF⟩) sub;rw[jy,lF,lT]at this;lia
noncomputable def c5(L:List Int->Int)(most:Nat):Nat->List (List Int)
 |0=>[[]]
 |k+1=>dX L most (aI (c5 L most k))
def qjs{most:Nat}(k:Nat):(c5 L most (k+1)).length<=most:=List.length_take_le _ _
theorem yY{most n:Nat}(hL:∀b,aC b->b.length<n->L b<=L (b++[0])/\L b<=L (b++[1])/\(L (b++[0])=L b∨L (b++[1])=L b)):∀k,k<=n->Top L most k (c5 L most k)
 |0,_=>Ge
 |k+1,h=>qjr (yY hL k (by lia)) λb hb hk=>hL b hb (by lia)
end
noncomputable def fk:List Sx->Int->Int->List Int->Int×Int
 |st::rest,z6,c,b::bs=>fk rest ((cw st z6).getD b.toNat (0,0)).1 (c+((cw st z6).getD b.toNat (0,0)).2) bs
 |[],z6,c,_=>(z6,c)
 |_::_,z6,c,[]=>(z6,c)
def zK(steps:List Sx)(z6 c:Int):fk steps z6 c []=(z6,c):=by cases steps<;>rfl
theorem Ht:∀(steps:List Sx) (z6 c:Int) (bs:Zf) (x:Int),bs.length<steps.length->fk steps z6 c (bs++[x])=
 (((cw (steps.getD bs.length []) (fk steps z6 c bs).1).getD x.toNat (0,0)).1,(fk steps z6 c bs).2+((cw (steps.getD bs.length []) (fk steps z6 c bs).1).getD x.toNat (0,0)).2)
 |[],_,_,_,_,h=>by simp at h
 | st::rest,z6,c,[],x,h=>by show fk rest _ _ []=_;rw[zK];rfl
 | st::rest,z6,c,b::bs,x,h=>by show fk rest _ _ (bs++[x])=_;rw[Ht rest _ _ bs x (by simpa using h)];rfl
theorem OkS.drop{ρ:Nat}:∀{steps:List Sx} {n:Nat} (k:Nat),OkS ρ n steps->OkS ρ (n-k) (steps.drop k)
 |_,_,0,h=>h
 |[],_,_+1,_=>True.intro
 | _::_,n,k+1,h=>by have:=OkS.drop k h.2.2;rw[show n-1-k=n-(k+1)from by lia]at this;exact this
theorem uG{ρ:Nat}{ends:Rw}{us:Zf}:∀(steps:List Sx) (n:Nat) (z6 c:Int) (bs:Zf),OkS ρ n steps->bs.length<=n->n<=steps.length->aC bs->(0<=z6/\z6.toNat<ρ)->
 (0<=(fk steps z6 c bs).1/\(fk steps z6 c bs).1.toNat<ρ)/\(eE steps ends z6 (bs++us)).map (λx=>c+x)=(eE (steps.drop bs.length) ends (fk steps z6 c bs).1 us).map λx=>(fk steps z6 c bs).2+x
 | steps,n,z6,c,[],_,_,_,_,hr=>by rw[zK];exact⟨hr,rfl⟩
 |[],n,_,_,b::bs,_,h1,h2,_,_=>by simp at h1 h2;lia
 | st::rest,n,z6,c,b::bs,ok,h1,h2,hb,hr=>by
  obtain⟨o1,o2,o3⟩:=ok;have h1':bs.length+1<=n:=by simpa using h1
  have h2':n<=rest.length+1:=by simpa using h2
  have hlt:z6.toNat<st.length:=by rw[o1];exact hr.2
  have es:=jh hlt;obtain⟨c1,c2⟩:=o2 _ (ka hlt);rw[if_neg (by lia)]at c1;obtain⟨q0,q1,eq⟩:=two_of c1;have ech:cw st z6=[q0,q1]:=by rw[uC es,eq]
  have key:∀q,[q0,q1][b.toNat]? =some q->((0<=(fk (st::rest) z6 c (b::bs)).1/\(fk (st::rest) z6 c (b::bs)).1.toNat<ρ)/\(eE (st::rest) ends z6 (b::bs++us)).map (λx=>c+x)=(eE ((st::rest).drop (b::bs).length) ends (fk (st::rest) z6 c (b::bs)).1 us).map λx=>(fk (st::rest) z6 c (b::bs)).2+x):=λq e=>by
   have hq:=c2 q (by rw[eq];exact kc e);obtain⟨g1,g2⟩:=uG rest (n-1) q.1 (c+q.2) bs o3 (by lia) (by lia) (λx hx=>hb x (ji _ hx)) hq;have ew:fk (st::rest) z6 c (b::bs)=fk rest q.1 (c+q.2) bs:=by show fk rest ((cw st z6).getD b.toNat (0,0)).1 _ bs=_;rw[ech,jl,e];rfl
   rw[ew,jy,List.drop_succ_cons,<-g2,List.cons_append,zY,ech,e];refine⟨g1,?_⟩;simp only[Option.map_map];congr 1;funext x;lia
  rcases hb b jj with rfl|rfl
  .exact key q0 rfl
  .exact key q1 rfl
def qef{α:Type}(d:α)(xs:List α)(k:Nat):(xs.drop k).headD d=xs.getD k d:=by rw[jl,List.headD_eq_head?_getD,List.head?_drop]
section
variable(r:Int)(U:Zf)(G:Z9)(e:Str)(ts:List Told)(n:Nat)
def bG(s:Int)(b:Zf):Int×Int:=fk (b7 r U G ts n 0 (n+aE r e)) s 0 b
def cW(s:Int)(b:Zf):Option Int:=(dZ ((fm r U G e ts n s).getD b.length []) (bG r U G e ts n s b).1).map λx=>(bG r U G e ts n s b).2+x
def p0(s:Int)(b:Zf):List Int:=gS (n-b.length) ((b7 r U G ts n 0 (n+aE r e)).drop b.length) (bT ((b7 r U G ts n 0 (n+aE r e)).drop b.length) (eQ r e s)) (bG r U G e ts n s b).1
def tW(b:Zf):List Int:=(cY r e).filterMap λs=>cW r U G e ts n s b
def bz(b:Zf):Int:=(cU (tW r U G e ts n b)).getD 0
end
section
variable{r:Int}{U:Zf}{G:Z9}{e:Str}{ts:List Told}{n:Nat}
def lE:(b7 r U G ts n 0 (n+aE r e)).length=n+aE r e:=by unfold b7;rw[ja,List.length_range']
def gC{s:Int}{k:Nat}(h:k<=n):(fm r U G e ts n s).getD k []=(bT ((b7 r U G ts n 0 (n+aE r e)).drop k) (eQ r e s)).headD []:=by unfold fm;rw[<-qef,Al _ _ _ (by rw[lE];lia)]
def zI{s:Int}{b:Zf}(hs:s∈cY r e)(hb:aC b)(hl:b.length<=n):0<=(bG r U G e ts n s b).1/\(bG r U G e ts n s b).1.toNat<2^r.toNat:=by have h1:=uJ hs;have h4:=ig (r:=r);exact(uG (us:=[]) (ends:=[]) _ n s 0 b (pG (n:=n) (n+aE r e) 0) hl (by rw[lE];lia) hb ⟨h1.1,by lia⟩).1
def qjq{s:Int}{b:Zf}(x:Int)(hl:b.length<n):bG r U G e ts n s (b++[x])=
 (((cw (stepK r U G ts n b.length) (bG r U G e ts n s b).1).getD x.toNat (0,0)).1,(bG r U G e ts n s b).2+((cw (stepK r U G ts n b.length) (bG r U G e ts n s b).1).getD x.toNat (0,0)).2):=by
 have es:(b7 r U G ts n 0 (n+aE r e)).getD b.length []=stepK r U G ts n b.length:=by unfold b7;rw[jl,jo,List.getElem?_range' (by lia)];simp
 unfold bG;rw[Ht _ _ _ _ _ (by rw[lE];lia),es]
def qlp{s c:Int}{b:Zf}(hs:s∈cY r e)(hb:aC b)(hl:b.length<=n)(hr:e="ring"->r.toNat<=n)(hen:e="open"∨e="ended"∨e="ring")(ht:ts.length=(bO U G (n+aE r e)).length)(h:cW r U G e ts n s b=some c):
 aC (b++p0 r U G e ts n s b)/\(b++p0 r U G e ts n s b).length=n/\bJ r e (b++p0 r U G e ts n s b)=s/\eh r U G e ts (b++p0 r U G e ts n s b)=c:=by
 unfold p0;have h1:=uJ hs;have h4:=ig (r:=r);have ok:=pG (r:=r) (U:=U) (G:=G) (ts:=ts) (n:=n) (n+aE r e) 0;unfold cW at h;rw[gC hl]at h;let⟨m,hm,em⟩:=Option.map_eq_some_iff.mp h;let⟨g1,g2,g3,_⟩:=uD (2^r.toNat) _ (n-b.length) (eQ r e s) (bG r U G e ts n s b).1 m (OkS.drop b.length ok) (by rw[xx,lE];lia) (zI hs hb hl) hm;have ez:jU (((b7 r U G ts n 0 (n+aE r e)).drop b.length).length-(n-b.length))=replicate (aE r e) 0:=by rw[xx,lE,show n+aE r e-b.length-(n-b.length)=aE r e from by lia];rfl
 rw[ez]at g3;have g:=(uG (ends:=eQ r e s) (us:=gS (n-b.length) ((b7 r U G ts n 0 (n+aE r e)).drop b.length) (bT ((b7 r U G ts n 0 (n+aE r e)).drop b.length) (eQ r e s)) (bG r U G e ts n s b).1++replicate (aE r e) 0) _ n s 0 b ok hl (by rw[lE];lia) hb ⟨h1.1,by lia⟩).2;have g3':eE (List.drop b.length (b7 r U G ts n 0 (n+aE r e))) (eQ r e s) (fk (b7 r U G ts n 0 (n+aE r e)) s 0 b).1 _=_:=g3;rw[g3',<-List.append_assoc]at g;have bw:aC (b++gS (n-b.length) ((b7 r U G ts n 0 (n+aE r e)).drop b.length) (bT ((b7 r U G ts n 0 (n+aE r e)).drop b.length) (eQ r e s)) (bG r U G e ts n s b).1):=ii hb g1;have lw:(b++gS (n-b.length) ((b7 r U G ts n 0 (n+aE r e)).drop b.length) (bT ((b7 r U G ts n 0 (n+aE r e)).drop b.length) (eQ r e s)) (bG r U G e ts n s b).1).length=n:=by rw[jt,g2];lia
 let⟨c',hc,ec⟩:=Option.map_eq_some_iff.mp g;let⟨p1,p2⟩:=qh4 hs bw lw hr hen ht hc;refine⟨bw,lw,p1.symm,?_⟩;have ec:0+c'=(bG r U G e ts n s b).2+m:=ec;rw[<-p2,<-em];lia
def Gp{s c:Int}{b:Zf}(hs:s∈cY r e)(hb:aC b)(hl:b.length<=n)(hr:e="ring"->r.toNat<=n)(hen:e="open"∨e="ended"∨e="ring")(ht:ts.length=(bO U G (n+aE r e)).length)(h:cW r U G e ts n s b=some c):
 ∃w,aC w/\w.length=n/\b<+:w/\bJ r e w=s/\eh r U G e ts w=c:=by
 let⟨h1,h2,h3,h4⟩:=qlp hs hb hl hr hen ht h;exact⟨_,h1,h2,prefix_append _ _,h3,h4⟩
def Ej{w b:Zf}(hw:aC w)(lw:w.length=n)(hp:b<+:w)(hr:e="ring"->r.toNat<=n)(hen:e="open"∨e="ended"∨e="ring")(ht:ts.length=(bO U G (n+aE r e)).length):
 ∃m,cW r U G e ts n (bJ r e w) b=some m/\m<=eh r U G e ts w:=by
 obtain⟨u,rfl⟩:=hp;have hs:=HD (e:=e) hw (by rw[lw];exact hr);have h1:=uJ hs;have h4:=ig (r:=r);have hl:b.length<=n:=by rw[<-lw,jt];lia
 have hb:aC b:=λx hx=>hw x (mem_append_left _ hx);have p:=Hv (U:=U) (G:=G) hw lw hr hen ht;rw[List.append_assoc]at p;have g:=(uG (ends:=eQ r e (bJ r e (b++u))) (us:=u++replicate (aE r e) 0) _ n (bJ r e (b++u)) 0 b (pG (r:=r) (U:=U) (G:=G) (ts:=ts) (n:=n) (n+aE r e) 0) hl (by rw[lE];lia) hb ⟨h1.1,by lia⟩).2;rw[p]at g;let⟨c,hc,ec⟩:=Option.map_eq_some_iff.mp g.symm;let⟨m,hm,le⟩:=yZ _ _ _ _ _ hc;unfold cW;rw[gC hl];refine⟨(bG r U G e ts n (bJ r e (b++u)) b).2+m,Option.map_eq_some_iff.mpr ⟨m,hm,rfl⟩,?_⟩;have ec:(bG r U G e ts n (bJ r e (b++u)) b).2+c=0+eh r U G e ts (b++u):=ec;lia
section
variable(hr:e="ring"->r.toNat<=n)(hen:e="open"∨e="ended"∨e="ring")(ht:ts.length=(bO U G (n+aE r e)).length)
include hr hen ht
theorem qK{b:Zf}(hb:aC b)(hl:b.length<=n):cU (tW r U G e ts n b)=some (bz r U G e ts n b)/\
 (∃w,aC w/\w.length=n/\b<+:w/\eh r U G e ts w=bz r U G e ts n b)/\∀w,aC w->w.length=n->b<+:w->bz r U G e ts n b<=eh r U G e ts w:=by
 have lo:∀w,aC w->w.length=n->b<+:w->∃m∈tW r U G e ts n b,m<=eh r U G e ts w:=λw bw lw pw=>by let⟨m,h1,h2⟩:=Ej bw lw pw hr hen ht;exact⟨m,List.mem_filterMap.mpr ⟨_,HD bw (by rw[lw];exact hr),h1⟩,h2⟩
 let⟨m0,hm0,_⟩:=lo (b++replicate (n-b.length) 0) (ii hb (ux _)) (by rw[jt,x6];lia) (prefix_append _ _);cases q:cU (tW r U G e ts n b)with
 |none=>rw[zW q]at hm0;cases hm0
 | some m=>
  have el:bz r U G e ts n b=m:=by unfold bz;rw[q];rfl
  rw[el];let⟨h1,h2⟩:=uj q;let⟨s,hs,es⟩:=List.mem_filterMap.mp h1;let⟨w,w1,w2,w3,_,w5⟩:=Gp hs hb hl hr hen ht es;refine⟨rfl,⟨w,w1,w2,w3,w5⟩,λw bw lw pw=>?_⟩;let⟨x,hx,le⟩:=lo w bw lw pw;have:=h2 x hx;lia
theorem HF{w:Zf}(hw:aC w)(lw:w.length=n):bz r U G e ts n w=eh r U G e ts w:=by let⟨_,⟨v,_,v2,v3,v4⟩,_⟩:=qK hr hen ht hw (by lia);have:w=v:=v3.eq_of_length (by lia);rw[<-v4,this]
theorem HE{b:Zf}(hb:aC b)(hl:b.length<n):bz r U G e ts n b<=bz r U G e ts n (b++[0])/\bz r U G e ts n b<=bz r U G e ts n (b++[1])/\(bz r U G e ts n (b++[0])=bz r U G e ts n b∨bz r U G e ts n (b++[1])=bz r U G e ts n b):=by
 let⟨_,⟨w,w1,w2,w3,w4⟩,hm⟩:=qK hr hen ht hb (by lia);let⟨_,⟨u,u1,u2,u3,u4⟩,hu⟩:=qK hr hen ht (ii hb λy hy=>.inl (List.mem_singleton.mp hy)) (by simp;lia);let⟨_,⟨v,v1,v2,v3,v4⟩,hv⟩:=qK hr hen ht (ii hb λy hy=>.inr (List.mem_singleton.mp hy)) (by simp;lia);have l0:=hm u u1 u2 ((prefix_append _ _).trans u3);have l1:=hm v v1 v2 ((prefix_append _ _).trans v3);refine⟨by lia,by lia,?_⟩;obtain⟨t,et⟩:=w3;cases t with
 |nil=>rw[append_nil]at et;rw[<-et]at w2;lia
 | cons y t=>
  have et:w=(b++[y])++t:=by rw[<-et];simp
  rcases w1 y (by rw[et];simp)with z|z
  .subst z;have:=hu w w1 w2 ⟨t,et.symm⟩;exact .inl (by lia)
  .subst z;have:=hv w w1 w2 ⟨t,et.symm⟩;exact .inr (by lia)
theorem qev{s:Int}{b:Zf}{x:Int}(hs:s∈cY r e)(hb:aC (b++[x]))(hl:b.length<n)(h:cW r U G e ts n s (b++[x])≠none):cW r U G e ts n s b≠none:=by
 cases q:cW r U G e ts n s (b++[x])with
 |none=>exact absurd q h
 | some c=>
  let⟨w,w1,w2,w3,w4,_⟩:=Gp hs hb (by simp;lia) hr hen ht q;let⟨m,h1,_⟩:=Ej w1 w2 ((prefix_append _ _).trans w3) hr hen ht;rw[w4]at h1;rw[h1];simp
end
end
end L2
namespace K21
open PySem L2
abbrev Nx(f:az->Option Out)(l:az)(i:Nat)(x:D):Prop:=f l=some (.nx (l.set i (some x)))
abbrev Nz(f:az->Option Out)(l:az):Prop:=f l=some (.nx l)
abbrev Nr(f:az->Option Out)(l:az)(d:D):Prop:=f l=some (.rt d l)
abbrev Ns{α:Type}(f:az->Option (α×az))(l:az)(y:α):Prop:=f l=some (y,l)
local macro_rules|`(tactic|walk_at "e")=>`(tactic|simp[Nx,Nz,Nr,Ns,gx,aG,cM,qwj,eW,Em,Ek,qwl,qqj,qqi,qwp,yH,qwm,qws,qyq,qqs,qqk,qys,qwn,qqp,qwf,qwo,qyr,qqr,qlk,qlj,qqq,qwh,Fu,qwe,qqg,qyp,qli,yG,qq7,qq9,qqe,qwg,qq8,qlg,qlf,qqa,qlh,qqb,qqd,qle,qqc,qqn,eL,Ik,Ay,kt,pW,rG,qZ,lG,rq,eF,cg,dU,lJ,pI,pJ,bM,ia,bA,cr,hJ,jF,lZ,mK,dE,lY,jH,kH,hG,sW,gP,io,wx,t0,Du,ww,mS,Iu,nC,at2,at3,fM,fN,eH,qqt,qpt,qwq,qwi,iO,Gu,ml,f6,oW,bV,iK,iJ,qqo,Dg,El,qh,qqm,qwr,qql,qwk,xF, *])
local macro_rules|`(tactic|walk_at "sc")=>`(tactic|exact⟨rfl,rfl,rfl,by decide+kernel,rfl,by decide+kernel,by decide+kernel⟩)
local macro_rules|`(tactic|walk_at "lr")=>`(tactic|first|exact Or.inl rfl|exact Or.inr rfl)
noncomputable def top(i:Nat):Stmt:=Challenge.pw_trellisway_k21_few_in_order.main.body.getD i (.Pass ⟨0,0,0,0⟩)
abbrev nS:Stmt:=top 5
def qxr:q0j ["reach"] ["reach"] (aS nS):=by walk_at "sc"
abbrev nR:Stmt:=top 6
def qxq:q0j ["scheme"] ["scheme"] (aS nR):=by walk_at "sc"
abbrev nQ:Stmt:=top 7
def scy2:q0j ["number","left","odd"] ["number"] (aS nQ):=by walk_at "sc"
abbrev nO:Stmt:=top 8
def scy3:q0j ["scheme","room","bit","window","signs"] ["scheme","room","bit"] (aS nO):=by walk_at "sc"
abbrev lM:Stmt:=top 9
abbrev B7:List Str:=["scheme","number","signs","rows","row"]
abbrev u9:List Str:=["scheme","number","signs"]
def scy4:q0j B7 u9 (aS lM):=by walk_at "sc"
abbrev nN:Stmt:=top 11
def qxp:q0j ["scheme"] ["scheme"] (aS nN):=by walk_at "sc"
abbrev nM:Stmt:=top 12
def qxo:q0j ["scheme","size"] ["scheme","size"] (aS nM):=by walk_at "sc"
abbrev nL:Stmt:=top 13
def qxn:q0j ["scheme"] ["scheme"] (aS nL):=by walk_at "sc"
abbrev nK:Stmt:=top 14
def qxm:q0j ["scheme"] ["scheme"] (aS nK):=by walk_at "sc"
abbrev nJ:Stmt:=top 15
def qxl:q0j ["scheme","size"] ["scheme","size"] (aS nJ):=by walk_at "sc"
abbrev xT:Stmt:=top 16
def scya:q0j ["scheme","size","signs","places","number"] ["scheme","size"] (aS xT):=by walk_at "sc"
abbrev p8:Stmt:=dP (top 19) 0
def qso:q0j ["self","bit"] ["self","bit"] (aS p8):=by walk_at "sc"
abbrev p9:Stmt:=dP (top 19) 2
def qsn:q0j ["self","bit"] ["self","bit"] (aS p9):=by walk_at "sc"
abbrev qa:Stmt:=dP (top 20) 1
def qsm:q0j ["self","bit"] ["self","bit"] (aS qa):=by walk_at "sc"
abbrev qb:Stmt:=dP (top 21) 0
def qsl:q0j ["self","zero","one"] ["self","zero","one"] (aS qb):=by walk_at "sc"
abbrev qc:Stmt:=dP (top 21) 2
def qsk:q0j ["self","bit"] ["self","bit"] (aS qc):=by walk_at "sc"
abbrev xU:Stmt:=top 22
def qsj:q0j ["told"] ["told"] (aS xU):=by walk_at "sc"
abbrev xV:Stmt:=top 24
abbrev jN:List Str:=["scheme","size","heard"]
def scyk:q0j ["scheme","size","heard","places"] jN (aS xV):=by walk_at "sc"
abbrev tR:Stmt:=top 25
def qsi:q0j ["signs","bits"] ["signs","bits"] (aS tR):=by walk_at "sc"
abbrev xW:Stmt:=top 26
abbrev Cm:List Str:=["scheme","size","heard","found","number","told"]
def scym:q0j Cm jN (aS xW):=by walk_at "sc"
abbrev xX:Stmt:=top 27
abbrev vB:List Str:=["scheme","number","signs","room","bit"]
def scyn:q0j ["scheme","number","signs","room","bit","led"] vB (aS xX):=by walk_at "sc"
abbrev xY:Stmt:=top 28
abbrev sK:List Str:=["scheme","number","signs","room","bits"]
def E3:q0j sK sK (aS xY):=by walk_at "sc"
abbrev xZ:Stmt:=top 29
def scyp:q0j ["scheme","size","heard","found","number","signs","bits"] jN (aS xZ):=by walk_at "sc"
abbrev ya:Stmt:=top 30
def scyq:q0j ["scheme","start","end"] ["scheme","start"] (aS ya):=by walk_at "sc"
abbrev yb:Stmt:=top 31
def scyr:q0j ["taken","behind","rest"] ["taken","behind"] (aS yb):=by walk_at "sc"
abbrev tS:Stmt:=top 32
def E4:q0j ["choices","behind","found"] ["choices","behind"] (aS tS):=by walk_at "sc"
abbrev yc:Stmt:=top 33
def scyt:q0j ["steps","ends","table","choices_by_room","behind"] ["steps","ends"] (aS yc):=by walk_at "sc"
abbrev yd:Stmt:=top 34
def scyu:q0j ["scheme","steps","tables","start"] ["scheme","steps"] (aS yd):=by walk_at "sc"
abbrev ye:Stmt:=top 36
abbrev oO:List Str:=["track","tables","number"]
def scyv:q0j ["track","tables","number","rest"] oO (aS ye):=by walk_at "sc"
abbrev tT:Stmt:=top 37
abbrev Cc:List Str:=["bits","tracks","tables","number","alive"]
abbrev u8:List Str:=["bits","tracks","tables"]
def scyw:q0j Cc u8 (aS tT):=by walk_at "sc"
abbrev yf:Stmt:=top 38
abbrev sI:List Str:=["track","bit","choices_by_room"]
def scyx:q0j ["track","bit","choices_by_room","taken"] sI (aS yf):=by walk_at "sc"
abbrev yg:Stmt:=top 39
abbrev vG:List Str:=["begun","bit","choices_by_room","tables"]
def E5:q0j ["begun","bit","choices_by_room","tables","tracks"] vG (aS yg):=by walk_at "sc"
abbrev yh:Stmt:=top 40
def qsh:q0j ["found","most"] ["found","most"] (aS yh):=by walk_at "sc"
abbrev p7:Stmt:=top 41
abbrev sH:List Str:=["scheme","size","heard","most"]
abbrev CD:List Str:=["scheme","size","heard","most","steps","tables","found","choices_by_room","longer","begun","@t"]
def sc_few:q0j CD sH (aS p7):=by walk_at "sc"
abbrev yi:Stmt:=top 43
def qsg:q0j ["_law_script","_law_k"] ["_law_script","_law_k"] (aS yi):=by walk_at "sc"
abbrev yj:Stmt:=top 44
def qsf:q0j ["_law_cell","_law_k"] ["_law_cell","_law_k"] (aS yj):=by walk_at "sc"
abbrev yk:Stmt:=top 45
abbrev pL:List Str:=["_law_state_here","_law_many"]
def qse:q0j pL pL (aS yk):=by walk_at "sc"
abbrev yl:Stmt:=top 46
abbrev vJ:List Str:=["_law_state_here","_law_most","_law_endings"]
abbrev CB:List Str:=["_law_state_here","_law_most","_law_endings","_law_reach","_law_taps","_law_lines","_law_k"]
def scyD:q0j CB vJ (aS yl):=by walk_at "sc"
abbrev ym:Stmt:=top 47
def scyE:q0j ["_law_number","_law_odd_here"] ["_law_number"] (aS ym):=by walk_at "sc"
abbrev tU:Stmt:=top 48
abbrev vN:List Str:=["_law_scheme_here","_law_number","_law_room","_law_bit"]
abbrev CC:List Str:=["_law_scheme_here","_law_number","_law_room","_law_bit","_law_both","_law_signs","_law_line"]
def scyF:q0j CC vN (aS tU):=by walk_at "sc"
abbrev yo:Stmt:=top 49
abbrev oP:List Str:=["_law_scheme_here","_law_word"]
def scyG:q0j ["_law_scheme_here","_law_word","_law_room","_law_bit"] oP (aS yo):=by walk_at "sc"
abbrev yp:Stmt:=top 50
def scyH:q0j ["_law_scheme_here","_law_word","_law_bits","_law_room","_law_found","_law_number","_law_signs"] oP (aS yp):=by walk_at "sc"
abbrev yq:Stmt:=top 51
abbrev vA:List Str:=["_law_cell","_law_k","_law_bit"]
def scyI:q0j ["_law_cell","_law_k","_law_bit","_law_mixed","_law_way"] vA (aS yq):=by walk_at "sc"
abbrev yr:Stmt:=top 52
abbrev vI:List Str:=["_law_script","_law_scheme_here","_law_word"]
def scyJ:q0j ["_law_script","_law_scheme_here","_law_word","_law_found","_law_k","_law_bit"] vI (aS yr):=by walk_at "sc"
abbrev yt:Stmt:=top 53
def qsd:q0j ["_law_told","_law_bit"] ["_law_told","_law_bit"] (aS yt):=by walk_at "sc"
abbrev tV:Stmt:=top 54
abbrev pN:List Str:=["_law_scheme_here","_law_word","_law_heard_here"]
def qsc:q0j pN pN (aS tV):=by walk_at "sc"
abbrev yu:Stmt:=top 55
def qsb:q0j ["_law_found"] ["_law_found"] (aS yu):=by walk_at "sc"
abbrev yv:Stmt:=top 56
abbrev sG:List Str:=["_law_found","_law_size"]
def E6:q0j sG sG (aS yv):=by walk_at "sc"
abbrev yw:Stmt:=top 57
def scyO:q0j ["_law_size","_law_words_here","_law_k"] ["_law_size"] (aS yw):=by walk_at "sc"
abbrev yx:Stmt:=top 58
abbrev vO:List Str:=["_law_found","_law_scheme_here","_law_size","_law_heard_here"]
def scyP:q0j ["_law_found","_law_scheme_here","_law_size","_law_heard_here","_law_told"] vO (aS yx):=by walk_at "sc"
abbrev xS:Stmt:=top 59
abbrev CQ:List Str:=["_law_script","_law_first","_law_scheme_here","_law_second","_law_size","_law_heard_here","_law_due","_law_most","_law_handed","_law_found","@t"]
def sc_law:q0j CQ ["_law_script"] (aS xS):=by walk_at "sc"
set_option genInjectivity false in
structure Ad where
 (c_Clear c_Gap c_Soft fy0 fy1 fy2 fy3 fy4 fy5 fy6 fy7 fy8 fy9 fya fyb fyd fyf fyg fyi fyj fyk fyl fym fyn fyo fyp fyq fyr fys fyt fyu fyv fyw fyx fyy fyz f_few fyA fyB fyC fyD fyE fyF fyG fyH fyI fyJ fyK fyL fyM fyN fyO fyP f_law tyz cyz:Addr)
 (fdy0 fdy1 fdy2 fdy3 fdy4 fdy5 fdy6 fdy7 fdy8 fdy9 fdya fdyb fdyd fdyf fdyg fdyi fdyj fdyk fdyl fdym fdyn fdyo fdyp fdyq fdyr fdys fdyt fdyu fdyv fdyw fdyx fdyy fdyz fd_few fdyA fdyB fdyC fdyD fdyE fdyF fdyG fdyH fdyI fdyJ fdyK fdyL fdyM fdyN fdyO fdyP fd_law:FuncData)
structure Df(K:am)(mg:Za)(x:Str)(s:Stmt)(f:Addr)(fd:FuncData)(ps:Zj):Prop where
 F:Fun K x x s f fd
 B:Binds K fd ps []
 m:mg x=some (.ref f)
section
open PySem.Spec PyProof.Rows
variable{P:Program}{w:World}{K:am}{mg:Za}{base:Heap}
def bo{X:Cx}{k:Nat}{x:Str}{st:Stmt}{f:Addr}{fd:FuncData}{ps:Zj}{sp:Sp}{e:Expr}{es:Zi}{t:TA}{p pos:Pos}(F:FnOk X.prog X.w X.K X.mg X.base bu k f fd ps sp)(hr:Room k X.A)(D:Df X.K X.mg x st f fd ps)(ha:PA X (e::es) t)(hg:Gl X x:=by rfl)(hdb:(x==("__debug__":Str))=false:=by decide)(he:starEach (e::es) X.env=(false,eval e X.env)::starEach es X.env:=by rfl)(hpl:(backTo pos (starEach es X.env)).any (·.1)=false:=by rfl):PE X (.Call (.Name x p) (e::es) [] pos) (oR sp [] E0 t):=Ib F hr hg D.m D.F.kp D.B .nil nA ha hdb he hpl
def cB{x qual:Str}{st:Stmt}{f:Addr}{fd:FuncData}{N ps:Zj}{k n m:Nat}{fr:Bool}{b:az->Option Out}(F:Fun K x qual st f fd)(S:q0j N ps (aS st))(hb:∀(cdv:Value) (A:Around) (outer:List Env) (s:Shared) (H:Hp) (E:XK),Room k (A.deeper (envOfC qual (aS st) s.heap.objs.size f cdv))->∃t,PSs (e9 bu P w K mg base N qual (aS st) f cdv A outer s H E).nox (fU st) t/\MS ⟨K,fr,[],[]⟩ [] [] t b)(hn:n=ps.length:=by rfl)(hm:m=N.length:=by rfl):FnOk P w K mg base bu (k+1) f fd ps (ca K fr n (aG fr n m b)):=by
 subst hn hm;exact F.ok S (λ_ _ _ _ h=>h.1) λcdv A outer s H vs Q E hr h=>by let⟨t,h1,h2⟩:=hb cdv A outer s H E hr;exact⟨t,h1,q0n h2 h⟩
end
structure Txt(K:am)(mg:Za)(a:Ad):Prop where
 mg_Clear:mg "Clear"=some (.ref a.c_Clear)
 ns_Clear:W.nsIn K mainGlobals "Clear"=some (some (.ref a.c_Clear))
 cl_Clear:Cls K a.c_Clear
 no_Clear_bit:NoAttr K a.c_Clear "bit"
 mg_Gap:mg "Gap"=some (.ref a.c_Gap)
 ns_Gap:W.nsIn K mainGlobals "Gap"=some (some (.ref a.c_Gap))
 cl_Gap:Cls K a.c_Gap
 mg_Soft:mg "Soft"=some (.ref a.c_Soft)
 ns_Soft:W.nsIn K mainGlobals "Soft"=some (some (.ref a.c_Soft))
 cl_Soft:Cls K a.c_Soft
 no_Soft_zero:NoAttr K a.c_Soft "zero"
 no_Soft_one:NoAttr K a.c_Soft "one"
 Dy0:Df K mg "rooms_at" nS a.fy0 a.fdy0 ["reach"]
 Dy1:Df K mg "rooms" nR a.fy1 a.fdy1 ["scheme"]
 Dy2:Df K mg "parity" nQ a.fy2 a.fdy2 ["number"]
 Dy3:Df K mg "step" nO a.fy3 a.fdy3 ["scheme","room","bit"]
 Dy4:Df K mg "sent_at" lM a.fy4 a.fdy4 u9
 Dy5:Df K mg "is_ring" nN a.fy5 a.fdy5 ["scheme"]
 Dy6:Df K mg "check_size" nM a.fy6 a.fdy6 ["scheme","size"]
 Dy7:Df K mg "bits_behind" nL a.fy7 a.fdy7 ["scheme"]
 Dy8:Df K mg "first_rooms" nK a.fy8 a.fdy8 ["scheme"]
 Dy9:Df K mg "steps_of" nJ a.fy9 a.fdy9 ["scheme","size"]
 Dya:Df K mg "places_of" xT a.fya a.fdya ["scheme","size"]
 Fyb:Fun K "__init__" "Clear.__init__" p8 a.fyb a.fdyb
 Byb:Binds K a.fdyb ["self","bit"] []
 Fyd:Fun K "cost" "Clear.cost" p9 a.fyd a.fdyd
 Byd:Binds K a.fdyd ["self","bit"] []
 myd:Meth K a.c_Clear "cost" a.fyd
 Fyf:Fun K "cost" "Gap.cost" qa a.fyf a.fdyf
 Byf:Binds K a.fdyf ["self","bit"] []
 myf:Meth K a.c_Gap "cost" a.fyf
 Fyg:Fun K "__init__" "Soft.__init__" qb a.fyg a.fdyg
 Byg:Binds K a.fdyg ["self","zero","one"] []
 Fyi:Fun K "cost" "Soft.cost" qc a.fyi a.fdyi
 Byi:Binds K a.fdyi ["self","bit"] []
 myi:Meth K a.c_Soft "cost" a.fyi
 Dyj:Df K mg "sign_of" xU a.fyj a.fdyj ["told"]
 Dyk:Df K mg "check_heard" xV a.fyk a.fdyk jN
 Dyl:Df K mg "signs_cost" tR a.fyl a.fdyl ["signs","bits"]
 Dym:Df K mg "signs_by_step" xW a.fym a.fdym jN
 Dyn:Df K mg "move" xX a.fyn a.fdyn vB
 Dyo:Df K mg "moves_from" xY a.fyo a.fdyo sK
 Dyp:Df K mg "moves" xZ a.fyp a.fdyp jN
 Dyq:Df K mg "end_costs" ya a.fyq a.fdyq ["scheme","start"]
 Dyr:Df K mg "cost_by" yb a.fyr a.fdyr ["taken","behind"]
 Dys:Df K mg "least_by" tS a.fys a.fdys ["choices","behind"]
 Dyt:Df K mg "ahead_by" yc a.fyt a.fdyt ["steps","ends"]
 Dyu:Df K mg "ahead_by_start" yd a.fyu a.fdyu ["scheme","steps"]
 Dyv:Df K mg "cost_of_track" ye a.fyv a.fdyv oO
 Dyw:Df K mg "beginning" tT a.fyw a.fdyw u8
 Dyx:Df K mg "track_on" yf a.fyx a.fdyx sI
 Dyy:Df K mg "beginning_on" yg a.fyy a.fdyy vG
 Dyz:Df K mg "first_ones" yh a.fyz a.fdyz ["found","most"]
 F_few:FunD K "few" "few" p7 a.f_few a.fd_few
 B_few:Binds K a.fd_few sH []
 mg_few:mg "few"=some (.ref a.f_few)
 DyA:Df K mg "_law_cell_at" yi a.fyA a.fdyA ["_law_script","_law_k"]
 DyB:Df K mg "_law_state" yj a.fyB a.fdyB ["_law_cell","_law_k"]
 DyC:Df K mg "_law_next" yk a.fyC a.fdyC pL
 DyD:Df K mg "_law_scheme" yl a.fyD a.fdyD vJ
 DyE:Df K mg "_law_odd" ym a.fyE a.fdyE ["_law_number"]
 DyF:Df K mg "_law_step" tU a.fyF a.fdyF vN
 DyG:Df K mg "_law_start" yo a.fyG a.fdyG oP
 DyH:Df K mg "_law_sent" yp a.fyH a.fdyH oP
 DyI:Df K mg "_law_sign" yq a.fyI a.fdyI vA
 DyJ:Df K mg "_law_heard" yr a.fyJ a.fdyJ vI
 DyK:Df K mg "_law_price" yt a.fyK a.fdyK ["_law_told","_law_bit"]
 DyL:Df K mg "_law_total" tV a.fyL a.fdyL pN
 DyM:Df K mg "_law_whole" yu a.fyM a.fdyM ["_law_found"]
 DyN:Df K mg "_law_is_word" yv a.fyN a.fdyN sG
 DyO:Df K mg "_law_words" yw a.fyO a.fdyO ["_law_size"]
 DyP:Df K mg "_law_rows" yx a.fyP a.fdyP vO
 D_law:Df K mg "law" xS a.f_law a.fd_law ["_law_script"]
 mk_Clear:Mk K a.c_Clear a.fyb
 mk_Gap:MkN K a.c_Gap
 mk_Soft:Mk K a.c_Soft a.fyg
 cdyz:a.fdyz.code=.ref a.cyz
 chyz:∀h:Heap,K.In h->W.CodeHd h a.cyz a.tyz
 btyz:∀h:Heap,K.In h->h.BuiltinsAt mg a.tyz
 z_all:mg "all"=none
 z_bool:mg "bool"=none
 z_enumerate:mg "enumerate"=none
 z_int:mg "int"=none
 z_isinstance:mg "isinstance"=none
 z_len:mg "len"=none
 z_list:mg "list"=none
 z_max:mg "max"=none
 z_min:mg "min"=none
 z_range:mg "range"=none
 z_reversed:mg "reversed"=none
 z_sorted:mg "sorted"=none
 z_sum:mg "sum"=none
 z_tuple:mg "tuple"=none
 z_zip:mg "zip"=none
 kb_bool:fD K "bool" (gP "bool")
 kb_int:fD K "int" (gP "int")
 kb_list:fD K "list" (gP "list")
 kb_tuple:fD K "tuple" (gP "tuple")
def ql4{K:am}{mg:Za}{a:Ad}(T:Txt K mg a):fD K "bool" (gP "bool"):=T.kb_bool
def qq0{K:am}{mg:Za}{a:Ad}(T:Txt K mg a):fD K "int" (gP "int"):=T.kb_int
def GB{K:am}{mg:Za}{a:Ad}(T:Txt K mg a):fD K "list" (gP "list"):=T.kb_list
def qic{K:am}{mg:Za}{a:Ad}(T:Txt K mg a):fD K "tuple" (gP "tuple"):=T.kb_tuple
noncomputable section
variable{P:Program}{w:World}{K:am}{mg:Za}{base:Heap}{a:Ad}
local macro_rules|`(tactic|walk_at "og")=>`(tactic|first|exact i7|exact o9|exact qu|exact FL|exact EI|exact EH|exact xJ|exact qur|exact qup|exact quq|exact qtl)
local macro_rules|`(tactic|walk_at "os")=>`(tactic|first|exact tH|exact iu|exact wB|exact qti|exact FO)
local macro_rules|`(tactic|walk_at "cs")=>`(tactic|first|exact mY|exact xC|exact Eg|exact Ei)
local macro_rules|`(tactic|walk_at "m")=>`(tactic|repeat' (first|(with_reducible first|exact aK|exact iY|exact bh|apply aD|exact me_int|refine eK (by walk_at "og") ?_ ?_|exact tZ|apply fK|refine mz (by walk_at "os") ?_ ?_|apply ni|apply dF|exact df|apply m7|apply iZ|refine i0 (by walk_at "cs") ?_|apply kP|exact jp|exact me_non|exact Do|apply qP|apply o8|apply qt|apply tF|apply quy|apply wu|apply qkr|exact qph|apply qpg|apply qq|apply iG|apply mB|apply gT|exact mH|apply ME.mb)|exact cK|apply fK|decide))
section
open PySem.Spec PyProof.Rows
def hU{X:Cx}{elt ze:Expr}{scope:Scope}{pos xp:Pos}{x:Str}{N0 ps:Zj}{sc:Scope}{wi:TI}{te:TE}(_S:q0j N0 ps sc)(N:Zj)(js:Zg)(hi:PI X (.Name x xp) ze wi)(he:∀{s H C cl fp},PE (dI X N scope s H C cl fp) elt te)(hc:X.calm=true:=by rfl)(hsc:X.env.scope=sc:=by rfl)(hN0:X.N=N0:=by rfl)(ok:gJ sc N0 N 1 js scope=true:=by decide+kernel)(hnd:N.Nodup:=by decide+kernel)(h0:N[0]? =some x:=by rfl)(hx:∀{s H C cl fp},kC (dI X N scope s H C cl fp).env.scope x:=by exact Or.inl rfl)(hf:∀{s H C cl fp},(dI X N scope s H C cl fp).fn x=true∨(dI X N scope s H C cl fp).env.scope.names.lookup x=some .local:=by first|exact .inl rfl|exact .inr rfl)(hs:∀x,foldedSetIterable ze X.env x=pure x:=by intro _;rfl):PE X (.ListComp elt [⟨.Name x xp,ze,[],0⟩] scope pos) (qe 1 js wi (gE 0) iL te):=px hc hsc hN0 ok hi (λ_ _ _ _ _=>i5 hnd h0 hx hf) (qM (by decide)) (λ_ _ _ _ _=>um) (λ_ _ _ _ _=>he) hs
def mP{X:Cx}{elt ze:Expr}{scope:Scope}{pos xp py j5:Pos}{x y:Str}{N0 ps:Zj}{sc:Scope}{wi:TI}{te:TE}(k:Nat)(S:q0j N0 ps sc)(N:Zj)(js:Zg)(hi:PI X (.Name x xp) ze wi)(he:∀{s H C cl fp},PE (dI X N scope s H C cl fp) elt te)(hc:X.calm=true:=by rfl)(hsc:X.env.scope=sc:=by rfl)(hN0:X.N=N0:=by rfl)(ok:gJ sc N0 N 1 js scope=true:=by decide+kernel)(hnd:N.Nodup:=by decide+kernel)(h0:N[0]? =some x:=by rfl)(hx:∀{s H C cl fp},kC (dI X N scope s H C cl fp).env.scope x:=by exact Or.inl rfl)(hf:∀{s H C cl fp},(dI X N scope s H C cl fp).fn x=true∨(dI X N scope s H C cl fp).env.scope.names.lookup x=some .local:=by first|exact .inl rfl|exact .inr rfl)(hk:X.N[k]? =some y:=by rfl)(hy:kC X.env.scope y:=by exact Or.inl rfl)(hsw:swapsWith (.ListComp elt [⟨.Name x xp,ze,[],0⟩] scope pos) (some (.Name y py)) j5.line X.env=pure true:=by rfl)(hs:∀x,foldedSetIterable ze X.env x=pure x:=by intro _;rfl)(hf2:X.fn y=true∨X.env.scope.names.lookup y=some .local:=by first|exact .inl rfl|exact .inr rfl):PS X (.Assign [.Name y py] (.ListComp elt [⟨.Name x xp,ze,[],0⟩] scope pos) j5) (tJ k 1 js wi (gE 0) iL te):=FZ hc hsc hN0 ok (hN0▸S.nd) hk hy hi (λ_ _ _ _ _=>i5 hnd h0 hx hf) (qM (by decide)) (λ_ _ _ _ _=>um) (λ_ _ _ _ _=>he) hsw hs hf2
end
def oG:aH:=
 (aB (af cQ (ae (.int 1)) (aa 0)))
def fy0:List D->Option D:=aG false 1 1 oG
def ny0:b8 1 fy0:=cK
def qy3(T:Txt K mg a):FnOk P w K mg base bu 1 a.fy0 a.fdy0 ["reach"] (ca K false 1 fy0):=by
 exact cB T.Dy0.F qxr λ_ _ _ _ _ _ hr=>⟨_,(aY (bN (bd t6 aA (pv 0)))),by unfold oG;exact(b9 rfl (eK xJ me_int (aK)) rfl)⟩
def oF:aH:=
 (aB (aU fy0 (aj (af bA (aa 0) (ae (.int 0))) ag)))
def fy1:List D->Option D:=aG false 1 1 oF
def nY:b8 1 fy1:=cK
def pT(T:Txt K mg a):FnOk P w K mg base bu 2 a.fy1 a.fdy1 ["scheme"] (ca K false 1 fy1):=by
 exact cB T.Dy1.F qxq λ_ _ _ _ _ _ hr=>⟨_,(aY (bN (bo (qy3 T) hr.m T.Dy0 (ak (bE (bF (K:=K) rfl) (pv 0) aA) av)))),by unfold oF;refine(b9 rfl ?_ rfl)<;>walk_at "m"⟩
abbrev wa:=(aq (aw 2 (af si (aa 2) (af ol (aa 1) (ae (.int 1))))) (aw 1 (af gA (aa 1) (ae (.int 2)))))
abbrev vE:=(bq (af Ax (aa 1) (ae (.int 0))))
def oE:aH:=
 (aq (aw 1 (aa 0))
 (aq (aw 2 (ae (.int 0)))
 (aq (il vE
   wa 1000)
 (aB (aa 2)))))
def fy2:List D->Option D:=aG false 1 3 oE
def ny2:b8 1 fy2:=cK
def qy2(T:Txt K mg a):FnOk P w K mg base bu 1 a.fy2 a.fdy2 ["number"] (ca K false 1 fy2):=by
 exact cB T.Dy2.F scy2 λ_ _ _ _ _ _ hr=>⟨_,(aR (bY 1 scy2.nd (pv 0)) (aR (bY 2 scy2.nd aA) (aR (GP xu (dz wz (pv 1) aA (dc)) (aR (bY 2 scy2.nd (bd qtj (pv 2) (bd xK (pv 1) aA))) (aY (bY 1 scy2.nd (bd nj (pv 1) aA))))) (aY (bN (pv 2)))))),by unfold oE;refine(aW (O1:=[]) (cD ?_) (aW (O1:=[]) (cD ?_) (aW (O1:=[]) (GG (O':=[]) ?_ rfl (aW (O1:=[]) (cD ?_) (cD ?_))) (b9 rfl ?_ rfl))))<;>walk_at "m"⟩
abbrev pM:=(aj (af ol (aa 1) (aa 0)) ag)
abbrev vF:=(br (af bA (aa 0) (ae (.int 1))))
def oB:aH:=
 (aq (aw 3 (af bM (af ia (ae (.int 2)) (aa 1)) (aa 2)))
 (aq (aw 4 (a9 (cy 1 [3] none vF (ai 0) (ae true) (aU fy2 pM))))
 (aB (bW (aj (af bX (aa 3) (aU fy1 (aj (aa 0) ag))) (aj (aO mK (aa 4)) ag))))))
def fy3:List D->Option D:=aG false 3 5 oB
def ny3:b8 3 fy3:=cK
def Dv(T:Txt K mg a):FnOk P w K mg base bu 3 a.fy3 a.fdy3 ["scheme","room","bit"] (ca K false 3 fy3):=by
 exact cB T.Dy3.F scy3 λ_ _ _ _ _ _ hr=>⟨_,(aR (bY 3 scy3.nd (bd (eZ (K:=K) rfl) (bd (jA (K:=K) rfl) aA (pv 1)) (pv 2))) (aR (mP 4 scy3 ["tap","window"] [3] (fw (K:=K) rfl (bE (bF (K:=K) rfl) (pv 0) aA)) (bo (qy2 T) hr.m T.Dy2 (ak (bd xK (pv 1) (pv 0)) av))) (aY (bN (gK (ak (bd fu (pv 3) (bo (pT T) hr.m T.Dy1 (ak (pv 0) av))) (ak (lD (qR (K:=K) rfl) (by rfl) T.z_tuple (by rfl) (ak (pv 4) av)) av))))))),by unfold oB;refine(aW (O1:=[]) (cD ?_) (aW (O1:=[]) (qA ?_ rfl (by decide)) (b9 rfl (m7 (aD (eK qu (aK (i:=3)) (fK nY (aD (aK (i:=0)) bh))) (aD (qL qH (aK (i:=4))) bh))) rfl)))<;>walk_at "m"⟩
def oA:aH:=
 (aq (aw 3 (af bA (aa 0) (ae (.int 2))))
 (aq (aw 4 (af bA (aa 3) (af bX (aa 1) (aO cr (aa 3)))))
 (aB (aO mK (a9 (cy 2 [] none (gy (aj (aa 2) (aj (aa 4) ag))) (dU 2 (cg (ai 0) (cg (ai 1) eF))) (bq (af fN (aa 1) (ae (.int 1)))) (aa 0)))))))
def fy4:List D->Option D:=aG false 3 5 oA
def Bt:b8 3 fy4:=cK
def DB(T:Txt K mg a):FnOk P w K mg base bu 1 a.fy4 a.fdy4 u9 (ca K false 3 fy4):=by
 exact cB T.Dy4.F scy4 λ_ _ _ _ _ _ hr=>⟨_,(aR (bY 3 scy4.nd (bE (bF (K:=K) rfl) (pv 0) aA)) (aR (bY 4 scy4.nd (bE (bF (K:=K) rfl) (pv 3) (bd fu (pv 1) (dN (im (K:=K) rfl) (by rfl) T.z_len (by rfl) (ak (pv 3) av))))) (aY (bN (lD (qR (K:=K) rfl) (by rfl) T.z_tuple (by rfl) (ak (px (sc:=aS lM) (N0:=B7) rfl rfl rfl (show gJ _ _ ["sign","chosen"] 2 [] _=true by decide+kernel) (ul (K:=K) rfl (by rfl) T.z_zip (ak (pv 2) (ak (pv 4) av))) (λ_ _ _ _ _=>(nq (K:=K) rfl rfl (ik (i5 (i:=0) (show Nodup (["sign","chosen"]:Zj)from(by decide+kernel)) rfl (Or.inl rfl)) (ik (i5 (i:=1) (show Nodup (["sign","chosen"]:Zj)from(by decide+kernel)) rfl (Or.inl rfl)) nr)))) (zC (by decide) (by decide)) (λ_ _ _ _ _=>(uq (dz (gh (K:=K) rfl hr.units) (pv 1) aA (dc)))) (λ_ _ _ _ _=>(pv 0))) av)))))),by unfold oA;refine(aW (O1:=[]) (cD ?_) (aW (O1:=[]) (cD ?_) (b9 rfl (qL qH (dF (iG (bw:=none) (qq (aD (aK (i:=2)) (aD (aK (i:=4)) bh))) (mB (gT (df (i:=0)) (gT (df (i:=1)) mH))) (ni (mz iu (aK (i:=1)) me_int.mb)) (aK (i:=0))))) rfl)))<;>walk_at "m"⟩
abbrev vP:=(af fN (af bA (aa 0) (ae (.int 3))) (ae (.str "ring")))
def oz:aH:=
 (aB vP)
def fy5:List D->Option D:=aG false 1 1 oz
def Bs:b8 1 fy5:=cK
def wy(T:Txt K mg a):FnOk P w K mg base bu 1 a.fy5 a.fdy5 ["scheme"] (ca K false 1 fy5):=by
 exact cB T.Dy5.F qxp λ_ _ _ _ _ _ hr=>⟨_,(aY (bN (yO (gh (K:=K) rfl hr.units) (bE (bF (K:=K) rfl) (pv 0) aA) gk (dc)))),by unfold oz;refine(b9 rfl ?_ rfl)<;>walk_at "m"⟩
def oy:aH:=
 (cJ (lV (bq (aU fy5 (aj (aa 0) ag))) (bq (af uQ (aa 1) (af bA (aa 0) (ae (.int 0))))))
   (λ_=>none)
   aZ)
def fy6:List D->Option D:=aG false 2 2 oy
def ny6:b8 2 fy6:=cK
def qy1(T:Txt K mg a):FnOk P w K mg base bu 2 a.fy6 a.fdy6 ["scheme","size"] (ca K false 2 fy6):=by
 exact cB T.Dy6.F qxo λ_ _ _ _ _ _ hr=>⟨_,(aY (fF (PW.pt (oM (kR (bo (wy T) hr.m T.Dy5 (ak (pv 0) av))) (md (dz tG (pv 1) (bE (bF (K:=K) rfl) (pv 0) aA) (dc))))) (aY GO) fI)),by unfold oy;refine(fE ?_ GF (fG rfl))<;>walk_at "m"⟩
abbrev pP:=(bq (af fN (af bA (aa 0) (ae (.int 3))) (ae (.str "ended"))))
def ox:aH:=
 (aB (jD pP (af bA (aa 0) (ae (.int 0))) (ae (.int 0))))
def fy7:List D->Option D:=aG false 1 1 ox
def ny7:b8 1 fy7:=cK
def qy0(T:Txt K mg a):FnOk P w K mg base bu 1 a.fy7 a.fdy7 ["scheme"] (ca K false 1 fy7):=by
 exact cB T.Dy7.F qxn λ_ _ _ _ _ _ hr=>⟨_,(aY (bN (kZ (dz (gh (K:=K) rfl hr.units) (bE (bF (K:=K) rfl) (pv 0) aA) gk (dc)) (bE (bF (K:=K) rfl) (pv 0) aA) aA))),by unfold ox;refine(b9 rfl ?_ rfl)<;>walk_at "m"⟩
def l8:aH:=
 (mr (lU (bq (aU fy5 (aj (aa 0) ag))) (gq iK (aU fy1 (aj (aa 0) ag))) (aT (aj (ae (.int 0)) ag))))
def fy8:List D->Option D:=aG true 1 1 l8
def Br:b8 1 fy8:=cK
def qxz(T:Txt K mg a):FnOk P w K mg base bu 3 a.fy8 a.fdy8 ["scheme"] (ca K true 1 fy8):=by
 exact cB T.Dy8.F qxm λ_ _ _ _ _ _ hr=>⟨_,(aY (bN (kZ (kR (bo (wy T) hr.m T.Dy5 (ak (pv 0) av))) (qou rfl rfl T.z_list rfl T.z_range (bo (pT T) hr.m T.Dy1 (ak (pv 0) av))) (eV (ak aA av))))),by unfold l8;exact(yM rfl (qyj (o8 (fK Bs (aD (aK) bh))) (qpk (fK nY (aD (aK) bh))) (iZ (aD me_int bh))) rfl)⟩
def oq:aH:=
 (aq (mV (aU fy6 (aj (aa 0) (aj (aa 1) ag))))
 (aB (af bM (aa 1) (aU fy7 (aj (aa 0) ag)))))
def fy9:List D->Option D:=aG false 2 2 oq
def Bq:b8 2 fy9:=cK
def DD(T:Txt K mg a):FnOk P w K mg base bu 3 a.fy9 a.fdy9 ["scheme","size"] (ca K false 2 fy9):=by
 exact cB T.Dy9.F qxl λ_ _ _ _ _ _ hr=>⟨_,(aR (jV (bo (qy1 T) hr.m T.Dy6 (ak (pv 0) (ak (pv 1) av)))) (aY (bN (bd (eZ (K:=K) rfl) (pv 1) (bo (qy0 T) hr.m T.Dy7 (ak (pv 0) av)))))),by unfold oq;refine(aW (O1:=[]) (FH ?_ rfl) (b9 rfl ?_ rfl))<;>walk_at "m"⟩
abbrev sU:=(aO cr (aU fy4 (aj (aa 0) (aj (aa 4) (aj (aa 2) ag)))))
abbrev Cg:=(iN 3 (d5 (aT (aj (aa 4) ag)) sU))
abbrev Cr:=(gQ (aj (aU fy9 (aj (aa 0) (aj (aa 1) ag))) ag))
def wH:aH:=
 (aq (aw 2 (af bA (aU fy3 (aj (aa 0) (aj (ae (.int 0)) (aj (ae (.int 0)) ag)))) (ae (.int 1))))
 (aq (cH 3 (aT ag))
 (aq (bI Cr (ai 4)
   Cg)
 (kL 3))))
def fya:List D->Option D:=aG true 2 5 wH
def Dp:b8 2 fya:=cK
def EJ(T:Txt K mg a):FnOk P w K mg base bu 4 a.fya a.fdya ["scheme","size"] (ca K true 2 fya):=by
 exact cB T.Dya.F scya λ_ _ _ _ _ _ hr=>⟨_,(aR (bY 2 scya.nd (bE (bF (K:=K) rfl) (bo (Dv T) hr.m T.Dy3 (ak (pv 0) (ak aA (ak aA av)))) aA)) (aR (bY 3 scya.nd (eV av)) (aR (hZ xu rfl (jY (by rfl) T.z_range (ak (bo (DD T) hr.m T.Dy9 (ak (pv 0) (ak (pv 1) av))) av)) (fS 4 scya.nd) (aY (jV (mo F.plainAttrs_list F.slot_list_extend F.type_list_extend qho (pv 3) (ak (bd xM (eV (ak (pv 4) av)) (dN (im (K:=K) rfl) (by rfl) T.z_len (by rfl) (ak (bo (DB T) hr.m T.Dy4 (ak (pv 0) (ak (pv 4) (ak (pv 2) av)))) av))) av))))) (aY (bN (pv 3)))))),by unfold wH;refine(aW (O1:=[]) (cD ?_) (aW (O1:=[3]) (jS ?_ rfl) (aW (O1:=[3]) (iE ?_ rfl (df) (quz (by decide) (xI (iZ (aD (aK) bh)) (i0 mY (fK Bt (aD (aK) (aD (aK) (aD (aK) bh)))).mb)) rfl)) (yN rfl (by first|decide|simp) rfl (by first|decide|simp)))))<;>walk_at "m"⟩
def qul(T:Txt K mg a):FnOk P w K mg base bu 1 a.fyb a.fdyb ["self","bit"] (yy a.c_Clear ["bit"]):=by
 refine T.Fyb.ok qso (λvs H Q E h=>?_) (λcdv A outer s H vs Q E hr h=>?_)
 .obtain⟨x,dx,args,rfl,hl,_⟩:=h;exact congrArg Nat.succ hl
 .obtain⟨x,dx,args,rfl,hl,hx,k⟩:=h
  match args,hl,k with
  | [b0],_,k=>
   refine⟨_,(aY (xQ (pv 0) (pv 1) rfl)),?_⟩;refine⟨_,rfl,_,rfl,x,_,dx,_,rfl,hx,T.cl_Clear,T.no_Clear_bit,(by show 0<1000;decide),?_⟩;exact k
def wI:aH:=
 (aB (jD (bq (af fN (aa 1) (iR "Clear" "bit" (aa 0)))) (ae (.int 0)) (ae (.int 1))))
def fyd:List D->Option D:=aG false 2 2 wI
def qyg:b8 2 fyd:=cK
def quk(T:Txt K mg a):FnOk P w K mg base bu 1 a.fyd a.fdyd ["self","bit"] (ca K false 2 fyd):=by
 exact cB T.Fyd qsn λ_ _ _ _ _ _ hr=>⟨_,(aY (bN (kZ (dz (gh rfl hr.units) (pv 1) (yP rfl (pv 0) rfl) (dc)) aA aA))),by unfold wI;exact(b9 rfl (wu (ni (mz iu (aK) (xG T.ns_Clear T.cl_Clear T.no_Clear_bit (aK)).mb)) me_int me_int) rfl)⟩
def wJ:aH:=
 (aB (ae (.int 0)))
def fyf:List D->Option D:=aG false 2 2 wJ
def qyf:b8 2 fyf:=cK
def quj(T:Txt K mg a):FnOk P w K mg base bu 1 a.fyf a.fdyf ["self","bit"] (ca K false 2 fyf):=by
 exact cB T.Fyf qsm λ_ _ _ _ _ _ hr=>⟨_,(aY (bN aA)),by unfold wJ;exact(b9 rfl me_int rfl)⟩
def qui(T:Txt K mg a):FnOk P w K mg base bu 1 a.fyg a.fdyg ["self","zero","one"] (yy a.c_Soft ["zero","one"]):=by
 refine T.Fyg.ok qsl (λvs H Q E h=>?_) (λcdv A outer s H vs Q E hr h=>?_)
 .obtain⟨x,dx,args,rfl,hl,_⟩:=h;exact congrArg Nat.succ hl
 .obtain⟨x,dx,args,rfl,hl,hx,k⟩:=h
  match args,hl,k with
  | [b0,b1],_,k=>
   refine⟨_,(aR (xQ (pv 0) (pv 1) rfl) (aY (xQ (pv 0) (pv 2) rfl))),?_⟩;refine⟨_,rfl,_,rfl,x,_,dx,_,rfl,hx,T.cl_Soft,T.no_Soft_zero,(by show 0<1000;decide),?_⟩;refine⟨_,rfl,_,rfl,x,_,dx,_,rfl,cA,T.cl_Soft,T.no_Soft_one,(by show 1<1000;decide),?_⟩;rw[Gf];have e:(c6 "one" b1 (c6 "zero" b0 []))=([("zero",b0),("one",b1)]:List (Str×V)):=by
    have hne:¬(("zero":Str)="one"):=by decide+kernel
    simp[c6,hne]
   rw[e];exact k
def wK:aH:=
 (aB (jD (bq (af fN (aa 1) (ae (.int 1)))) (iR "Soft" "one" (aa 0)) (iR "Soft" "zero" (aa 0))))
def fyi:List D->Option D:=aG false 2 2 wK
def qye:b8 2 fyi:=cK
def quh(T:Txt K mg a):FnOk P w K mg base bu 1 a.fyi a.fdyi ["self","bit"] (ca K false 2 fyi):=by
 exact cB T.Fyi qsk λ_ _ _ _ _ _ hr=>⟨_,(aY (bN (kZ (dz (gh rfl hr.units) (pv 1) aA (dc)) (yP rfl (pv 0) rfl) (yP rfl (pv 0) rfl)))),by unfold wK;exact(b9 rfl (wu (ni (mz iu (aK) me_int.mb)) (xG T.ns_Soft T.cl_Soft T.no_Soft_one (aK)) (xG T.ns_Soft T.cl_Soft T.no_Soft_zero (aK))) rfl)⟩
abbrev Cf:=(aj (af bA (aa 0) (ae (.int 1))) ag)
abbrev Cu:=(bq (af fN (af bA (aa 0) (ae (.int 0))) (ae (.str "gap"))))
abbrev Cw:=(bq (af fN (af bA (aa 0) (ae (.int 0))) (ae (.str "clear"))))
def wL:aH:=
 (aq (cJ Cw
   (aB (pX "Clear" ["bit"] Cf))
   aZ)
 (aq (cJ Cu
   (aB (xF "Gap"))
   aZ)
 (aB (pX "Soft" ["zero","one"] (aj (af bA (aa 0) (ae (.int 1))) (aj (af bA (aa 0) (ae (.int 2))) ag))))))
def fyj:List D->Option D:=aG false 1 1 wL
def qyd:b8 1 fyj:=cK
def qug(T:Txt K mg a):FnOk P w K mg base bu 3 a.fyj a.fdyj ["told"] (ca K false 1 fyj):=by
 have Gyb:=@qul P w K mg base a T;have Gyg:=@qui P w K mg base a T;exact cB T.Dyj.F qsj λ_ _ _ _ _ _ hr=>⟨_,(aR (fF (dz (gh (K:=K) rfl hr.units) (bE (bF (K:=K) rfl) (pv 0) aA) gk (dc)) (aY (bN (FW T.mk_Clear Gyb hr.m (by rfl) T.mg_Clear T.Byb .nil nA (ak (bE (bF (K:=K) rfl) (pv 0) aA) av)))) fI) (aR (fF (dz (gh (K:=K) rfl hr.units) (bE (bF (K:=K) rfl) (pv 0) aA) gk (dc)) (aY (bN (qka T.mk_Gap (by rfl) T.mg_Gap))) fI) (aY (bN (FW T.mk_Soft Gyg hr.m (by rfl) T.mg_Soft T.Byg .nil nA (ak (bE (bF (K:=K) rfl) (pv 0) aA) (ak (bE (bF (K:=K) rfl) (pv 0) aA) av))))))),by unfold wL;refine(aW (O1:=[]) (fE ?_ (b9 rfl (Fz T.ns_Clear (aD (eK i7 (aK (i:=0)) me_int) bh)) rfl) (fG rfl)) (aW (O1:=[]) (fE ?_ (b9 rfl (qkt T.ns_Gap) rfl) (fG rfl)) (b9 rfl (Fz T.ns_Soft (aD (eK i7 (aK (i:=0)) me_int) (aD (eK i7 (aK (i:=0)) me_int) bh))) rfl)))<;>walk_at "m"⟩
abbrev vL:=(a9 (i4 fya (aj (aa 0) (aj (aa 1) ag))))
def wM:aH:=
 (aq (aw 3 vL)
 (cJ (bq (af eH (aO cr (aa 2)) (aO cr (aa 3))))
   (λ_=>none)
   aZ))
def fyk:List D->Option D:=aG false 3 4 wM
def qzd:b8 3 fyk:=cK
def quf(T:Txt K mg a):FnOk P w K mg base bu 5 a.fyk a.fdyk jN (ca K false 3 fyk):=by
 exact cB T.Dyk.F scyk λ_ _ _ _ _ _ hr=>⟨_,(aR (bY 3 scyk.nd (bo (EJ T) hr.m T.Dya (ak (pv 0) (ak (pv 1) av)))) (aY (fF (dz (m8 (K:=K) rfl hr.units) (dN (im (K:=K) rfl) (by rfl) T.z_len (by rfl) (ak (pv 2) av)) (dN (im (K:=K) rfl) (by rfl) T.z_len (by rfl) (ak (pv 3) av)) (dc)) (aY GO) fI))),by unfold wM;refine(aW (O1:=[]) (cD (dF (kY Dp (aD (aK (i:=0)) (aD (aK (i:=1)) bh))))) (fE ?_ GF (fG rfl)))<;>walk_at "m"⟩
abbrev sV:=(iP (pA "Clear" "cost" fyd (aa 0) (aj (aa 1) ag)) (iP (pA "Gap" "cost" fyf (aa 0) (aj (aa 1) ag)) (pA "Soft" "cost" fyi (aa 0) (aj (aa 1) ag))))
def wN:aH:=
 (aB (aO jF (a9 (cy 2 [] none (gy (aj (aa 0) (aj (aa 1) ag))) (dU 2 (cg (ai 0) (cg (ai 1) eF))) (ae true) sV))))
def fyl:List D->Option D:=aG false 2 2 wN
def qzc:b8 2 fyl:=cK
def que(T:Txt K mg a):FnOk P w K mg base bu 2 a.fyl a.fdyl ["signs","bits"] (ca K false 2 fyl):=by
 have Gyi:=@quh P w K mg base a T;have Gyf:=@quj P w K mg base a T;have Gyd:=@quk P w K mg base a T;exact cB T.Dyl.F qsi λ_ _ _ _ _ _ hr=>⟨_,(aY (bN (dN (Gj (K:=K) rfl rfl) (by rfl) T.z_sum (by rfl) (ak (px (sc:=aS tR) (N0:=["signs","bits"]) rfl rfl rfl (show gJ _ _ ["sign","bit"] 2 [] _=true by decide+kernel) (ul (K:=K) rfl (by rfl) T.z_zip (ak (pv 0) (ak (pv 1) av))) (λ_ _ _ _ _=>(nq (K:=K) rfl rfl (ik (i5 (i:=0) (show Nodup (["sign","bit"]:Zj)from(by decide+kernel)) rfl (Or.inl rfl)) (ik (i5 (i:=1) (show Nodup (["sign","bit"]:Zj)from(by decide+kernel)) rfl (Or.inl rfl)) nr)))) (zC (by decide) (by decide)) (λ_ _ _ _ _=>um) (λ_ _ _ _ _=>(PE.or (yQ (pv 0) T.cl_Clear T.myd Gyd hr.m T.Byd .nil nA (ak (pv 1) av)) (PE.or (yQ (pv 0) T.cl_Gap T.myf Gyf hr.m T.Byf .nil nA (ak (pv 1) av)) (yQ (pv 0) T.cl_Soft T.myi Gyi hr.m T.Byi .nil nA (ak (pv 1) av)))))) av)))),by unfold wN;exact(b9 rfl (i0 xC (dF (iG (bw:=none) (qq (aD (aK (i:=0)) (aD (aK (i:=1)) bh))) (mB (gT (df (i:=0)) (gT (df (i:=1)) mH))) jp (EE (yK T.ns_Clear qyg (aK (i:=0)) (aD (aK (i:=1)) bh)) (EE (yK T.ns_Gap qyf (aK (i:=0)) (aD (aK (i:=1)) bh)) (yK T.ns_Soft qye (aK (i:=0)) (aD (aK (i:=1)) bh)))))).mb) rfl)⟩
def oU:Fd:=
 (tX 3 (dU 2 (cg (ai 4) (cg (ai 5) eF))) (gy (aj vL (aj (aa 2) ag)))
   (pB 3 (aa 4) (aj (aU fyj (aj (aa 5) ag)) ag)))
noncomputable def oX:aV:=Cr
def qm:List D->Option (List (List D)):=mU 3 6 3 oX oU
def fym:List D->Option D:=λds=>oV (qm ds)
def qyc:b8 3 fym:=qol
def qp7(T:Txt K mg a):FnOk P w K mg base bu 5 a.fym a.fdym jN (wm K 3 qm):=by
 refine T.Dym.F.ok scym (λvs H Q E h=>h.1) (λcdv A outer s H vs Q E hr h=>?_);refine⟨_,(aR (mP 3 scym ["number"] [] (jY rfl T.z_range (ak (bo (DD T) hr.m T.Dy9 (ak (pv 0) (ak (pv 1) av))) av)) (eV av)) (aR (hZ xu rfl (ul rfl rfl T.z_zip (ak (bo (EJ T) hr.m T.Dya (ak (pv 0) (ak (pv 1) av))) (ak (pv 2) av))) (nq rfl rfl (ik (fS 4 scym.nd) (ik (fS 5 scym.nd) nr))) (aY (jV (mo F.plainAttrs_list F.slot_list_append F.type_list_append ny (bE (bF rfl) (pv 3) (pv 4)) (ak (bo (qug T) hr.m T.Dyj (ak (pv 5) av)) av))))) (aY (bN (pv 3))))),?_⟩;exact qfi (by
  exact(qP (aD (fK Bq (aD (aK) (aD (aK) bh))) bh))) (by
  exact(qkp (qq (aD (dF (kY Dp (aD (aK) (aD (aK) bh)))) (aD (aK) bh))) (mB (gT (df) (gT (df) mH))) (by decide) (qe7 (aK) (aD (fK qyd (aD (aK) bh)) bh)))) h
def qud(T:Txt K mg a):FnOk P w K mg base bu 5 a.fym a.fdym jN (ca K false 3 fym):=(qp7 T).imp λ_ _ _ _ h=>qxj h
def wO:aH:=
 (aq (aw 5 (aU fy3 (aj (aa 0) (aj (aa 3) (aj (aa 4) ag)))))
 (aB (bW (aj (af bA (aa 5) (ae (.int 0))) (aj (aU fyl (aj (aa 2) (aj (aU fy4 (aj (aa 0) (aj (aa 1) (aj (af bA (aa 5) (ae (.int 1))) ag)))) ag))) ag)))))
def fyn:List D->Option D:=aG false 5 6 wO
def qzb:b8 5 fyn:=cK
def quc(T:Txt K mg a):FnOk P w K mg base bu 4 a.fyn a.fdyn vB (ca K false 5 fyn):=by
 exact cB T.Dyn.F scyn λ_ _ _ _ _ _ hr=>⟨_,(aR (bY 5 scyn.nd (bo (Dv T) hr.m T.Dy3 (ak (pv 0) (ak (pv 3) (ak (pv 4) av))))) (aY (bN (gK (ak (bE (bF (K:=K) rfl) (pv 5) aA) (ak (bo (que T) hr.m T.Dyl (ak (pv 2) (ak (bo (DB T) hr.m T.Dy4 (ak (pv 0) (ak (pv 1) (ak (bE (bF (K:=K) rfl) (pv 5) aA) av)))) av))) av)))))),by unfold wO;refine(aW (O1:=[]) (cD ?_) (b9 rfl ?_ rfl))<;>walk_at "m"⟩
abbrev sT:=(aj (aa 1) (aj (aa 2) (aj (aa 3) (aj (aa 4) (aj (aa 0) ag)))))
def wQ:aH:=
 (aB (a9 (cy 1 [0,1,2,3] none (br (aa 4)) (ai 0) (ae true) (aU fyn sT))))
def fyo:List D->Option D:=aG false 5 5 wQ
def qza:b8 5 fyo:=cK
def qub(T:Txt K mg a):FnOk P w K mg base bu 5 a.fyo a.fdyo sK (ca K false 5 fyo):=by
 exact cB T.Dyo.F E3 λ_ _ _ _ _ _ hr=>⟨_,(aY (bN (hU E3 ["bit","scheme","number","signs","room"] [0,1,2,3] (fw (K:=K) rfl (pv 4)) (bo (quc T) hr.m T.Dyn (ak (pv 1) (ak (pv 2) (ak (pv 3) (ak (pv 4) (ak (pv 0) av))))))))),by unfold wQ;refine(b9 rfl ?_ rfl)<;>walk_at "m"⟩
abbrev Ch:=(gQ (aj (aU fy1 (aj (aa 0) ag)) ag))
abbrev Cz:=(aj (aa 1) (aj (aa 2) (aj (aa 3) (aj (aa 0) (aj (aa 4) ag)))))
abbrev B5:=(aj (ae (.int 0)) (aj (ae (.int 1)) ag))
abbrev CJ:=(aw 6 (jD (bq (af uQ (aa 4) (aa 1))) (bW B5) (bW (aj (ae (.int 0)) ag))))
abbrev C4:=(aq CJ (dD io 3 (aj (a9 (cy 1 [0,4,5,6] none Ch (ai 0) (ae true) (aU fyo Cz))) ag)))
abbrev hV:=(aj (aa 0) (aj (aa 1) (aj (aa 2) ag)))
def wR:aH:=
 (aq (mV (aU fyk hV))
 (aq (cH 3 (aT ag))
 (aq (bI (o5 (aU fym hV)) (dU 2 (cg (ai 4) (cg (ai 5) eF)))
   C4)
 (aB (aa 3)))))
def fyp:List D->Option D:=aG false 3 7 wR
def qz9:b8 3 fyp:=cK
def qua(T:Txt K mg a):FnOk P w K mg base bu 6 a.fyp a.fdyp jN (ca K false 3 fyp):=by
 exact cB T.Dyp.F scyp λ_ _ _ _ _ _ hr=>⟨_,(aR (jV (bo (quf T) hr.m T.Dyk (ak (pv 0) (ak (pv 1) (ak (pv 2) av))))) (aR (bY 3 scyp.nd (eV av)) (aR (hZ xu rfl (FY (K:=K) rfl (by rfl) T.z_enumerate (bo (qud T) hr.m T.Dym (ak (pv 0) (ak (pv 1) (ak (pv 2) av))))) (nq (K:=K) rfl rfl (ik (fS 4 scyp.nd) (ik (fS 5 scyp.nd) nr))) (aR (bY 6 scyp.nd (kZ (dz tG (pv 4) (pv 1) (dc)) (gK (ak aA (ak aA av))) (gK (ak aA av)))) (aY (jV (mo F.plainAttrs_list F.slot_list_append F.type_list_append ny (pv 3) (ak (hU scyp ["room","scheme","number","signs","bits"] [0,4,5,6] (jY (by rfl) T.z_range (ak (bo (pT T) hr.m T.Dy1 (ak (pv 0) av)) av)) (bo (qub T) hr.m T.Dyo (ak (pv 1) (ak (pv 2) (ak (pv 3) (ak (pv 0) (ak (pv 4) av))))))) av)))))) (aY (bN (pv 3)))))),by unfold wR;refine(aW (O1:=[]) (FH ?_ rfl) (aW (O1:=[3]) (jS ?_ rfl) (aW (O1:=[]) (qB (iE (O':=[3]) (FG (fK qyc (aD (aK (i:=0)) (aD (aK (i:=1)) (aD (aK (i:=2)) bh))))) rfl (mB (gT (df (i:=4)) (gT (df (i:=5)) mH))) (aW (O1:=[3]) (cD ?_) (o7 pF (by decide) ?_ rfl))) rfl) (b9 rfl ?_ rfl))))<;>walk_at "m"⟩
abbrev vX:=Ch
abbrev sQ:=(jD (bq (af fN (aa 0) (aa 1))) (ae (.int 0)) (ae .non))
abbrev Cv:=(bq (af fN (af bA (aa 0) (ae (.int 3))) (ae (.str "open"))))
abbrev Cy:=(aw 2 (jD (bq (aU fy5 (aj (aa 0) ag))) (aa 1) (ae (.int 0))))
def wU:aH:=
 (aq (cJ Cv
   (aB (a9 (d5 (aT (aj (ae (.int 0)) ag)) (aU fy1 (aj (aa 0) ag)))))
   aZ)
 (aq Cy
 (aB (a9 (cy 1 [2] none vX (ai 0) (ae true) sQ)))))
def fyq:List D->Option D:=aG false 2 3 wU
def qz8:b8 2 fyq:=cK
def qu9(T:Txt K mg a):FnOk P w K mg base bu 3 a.fyq a.fdyq ["scheme","start"] (ca K false 2 fyq):=by
 exact cB T.Dyq.F scyq λ_ _ _ _ _ _ hr=>⟨_,(aR (fF (dz (gh (K:=K) rfl hr.units) (bE (bF (K:=K) rfl) (pv 0) aA) gk (dc)) (aY (bN (bd xM (eV (ak aA av)) (bo (pT T) hr.m T.Dy1 (ak (pv 0) av))))) fI) (aR (bY 2 scyq.nd (kZ (kR (bo (wy T) hr.m T.Dy5 (ak (pv 0) av))) (pv 1) aA)) (aY (bN (hU scyq ["room","end"] [2] (jY (by rfl) T.z_range (ak (bo (pT T) hr.m T.Dy1 (ak (pv 0) av)) av)) (kZ (dz (gh (K:=K) rfl hr.units) (pv 0) (pv 1) (dc)) aA mF)))))),by unfold wU;refine(aW (O1:=[]) (fE ?_ (b9 rfl (dF (xI (iZ (aD me_int bh)) (fK nY (aD (aK (i:=0)) bh)))) rfl) (fG rfl)) (aW (O1:=[]) (cD ?_) (b9 rfl ?_ rfl)))<;>walk_at "m"⟩
def tM:aH:=
 (aq (aw 2 (af bA (aa 1) (af bA (aa 0) (ae (.int 0)))))
 (aB (jD (bq (af jH (aa 2) (ae .non))) (ae .non) (af bM (af bA (aa 0) (ae (.int 1))) (aa 2)))))
def fyr:List D->Option D:=aG false 2 3 tM
def qz7:b8 2 fyr:=cK
def qu8(T:Txt K mg a):FnOk P w K mg base bu 1 a.fyr a.fdyr ["taken","behind"] (ca K false 2 fyr):=by
 exact cB T.Dyr.F scyr λ_ _ _ _ _ _ hr=>⟨_,(aR (bY 2 scyr.nd (bE (bF (K:=K) rfl) (pv 1) (bE (bF (K:=K) rfl) (pv 0) aA))) (aY (bN (kZ (dz EQ (pv 2) mF (dc)) mF (bd (eZ (K:=K) rfl) (bE (bF (K:=K) rfl) (pv 0) aA) (pv 2)))))),by unfold tM;refine(aW (O1:=[]) (cD ?_) (b9 rfl ?_ rfl))<;>walk_at "m"⟩
def wV:aH:=
 (aq (aw 2 (a9 (cy 1 [1] none (br (aa 0)) (ai 0) (ae true) (aU fyr (aj (aa 0) (aj (aa 1) ag))))))
 (aB (aO oW (a9 (cy 1 [] none (br (aa 2)) (ai 0) (bq (af kH (aa 0) (ae .non))) (aa 0))))))
def fys:List D->Option D:=aG false 2 3 wV
def qz6:b8 2 fys:=cK
def qu7(T:Txt K mg a):FnOk P w K mg base bu 2 a.fys a.fdys ["choices","behind"] (ca K false 2 fys):=by
 exact cB T.Dys.F E4 λ_ _ _ _ _ _ hr=>⟨_,(aR (mP 2 E4 ["taken","behind"] [1] (fw (K:=K) rfl (pv 0)) (bo (qu8 T) hr.m T.Dyr (ak (pv 0) (ak (pv 1) av)))) (aY (bN (qot (K:=K) rfl rfl (by rfl) T.z_min (px (sc:=aS tS) (N0:=["choices","behind","found"]) rfl rfl rfl (show gJ _ _ ["one"] 1 [] _=true by decide+kernel) (fw (K:=K) rfl (pv 2)) (λ_ _ _ _ _=>(i5 (i:=0) (show Nodup (["one"]:Zj)from(by decide+kernel)) rfl (Or.inl rfl))) (qM (by decide)) (λ_ _ _ _ _=>(uq (dz FN (pv 0) mF (dc)))) (λ_ _ _ _ _=>(pv 0))) mF)))),by unfold wV;refine(aW (O1:=[]) (qA ?_ rfl (by decide)) (b9 rfl (qpp (dF (iG (bw:=none) (kP (aK (i:=2))) (df (i:=0)) (ni (mz FO (aK (i:=0)) me_non.mb)) (aK (i:=0)))).mb) rfl))<;>walk_at "m"⟩
abbrev Cd:=(aw 4 (iQ 2 (aO lY (ae (.int 1)))))
abbrev CV:=(aq Cd (dD io 2 (aj (a9 (cy 1 [4] none (br (aa 3)) (ai 0) (ae true) (aU fys (aj (aa 0) (aj (aa 1) ag))))) ag)))
def wW:aH:=
 (aq (cH 2 (aT (aj (aa 1) ag)))
 (aq (bI (gz (aa 0)) (ai 3)
   CV)
 (aB (a9 (gz (aa 2))))))
def fyt:List D->Option D:=aG false 2 5 wW
def qz5:b8 2 fyt:=cK
def qu6(T:Txt K mg a):FnOk P w K mg base bu 3 a.fyt a.fdyt ["steps","ends"] (ca K false 2 fyt):=by
 exact cB T.Dyt.F scyt λ_ _ _ _ _ _ hr=>⟨_,(aR (bY 2 scyt.nd (eV (ak (pv 1) av))) (aR (hZ xu rfl (qta (K:=K) rfl (by rfl) T.z_reversed (pv 0)) (fS 3 scyt.nd) (aR (bY 4 scyt.nd (bE (bF (K:=K) rfl) (pv 2) (qxt qrr aA))) (aY (jV (mo F.plainAttrs_list F.slot_list_append F.type_list_append ny (pv 2) (ak (hU scyt ["choices","behind"] [4] (fw (K:=K) rfl (pv 3)) (bo (qu7 T) hr.m T.Dys (ak (pv 0) (ak (pv 1) av)))) av)))))) (aY (bN (qov (K:=K) rfl rfl (by rfl) T.z_list (by rfl) T.z_reversed (pv 2)))))),by unfold wW;refine(aW (O1:=[2]) (jS ?_ rfl) (aW (O1:=[]) (qB (iE (O':=[2]) (qv3 (aK (i:=0))) rfl (df (i:=3)) (aW (O1:=[2]) (cD (xH (i:=2) (by decide) (qva me_int))) (o7 pF (by decide) ?_ rfl))) rfl) (b9 rfl (dF (qpl (aK (i:=2)))) rfl)))<;>walk_at "m"⟩
abbrev vZ:=(ql 2 (aU fyt (aj (aa 1) (aj (aU fyq (aj (aa 0) (aj (aa 3) ag))) ag))) (aa 3))
abbrev Cb:=(br (a9 (i4 fy8 (aj (aa 0) ag))))
def wX:aH:=
 (aq (mW 2)
 (aq (bI Cb (ai 3)
   vZ)
 (aB (aa 2))))
def fyu:List D->Option D:=aG false 2 4 wX
def qz4:b8 2 fyu:=cK
def qu4(T:Txt K mg a):FnOk P w K mg base bu 4 a.fyu a.fdyu ["scheme","steps"] (ca K false 2 fyu):=by
 exact cB T.Dyu.F scyu λ_ _ _ _ _ _ hr=>⟨_,(aR (bY 2 scyu.nd qos) (aR (hZ xu rfl (fw (K:=K) rfl (bo (qxz T) hr.m T.Dy8 (ak (pv 0) av))) (fS 3 scyu.nd) (aY (xP (bo (qu6 T) hr.m T.Dyt (ak (pv 1) (ak (bo (qu9 T) hr.m T.Dyq (ak (pv 0) (ak (pv 3) av))) av))) (EU (pv 2) (pv 3) qxk)))) (aY (bN (pv 2))))),by unfold wX;refine(aW (O1:=[2]) (qpf rfl) (aW (O1:=[]) (qB (iE (O':=[2]) (kP (dF (kY Br (aD (aK (i:=0)) bh)))) rfl (df (i:=3)) (qpe (by decide) ?_ ?_ rfl)) rfl) (b9 rfl ?_ rfl)))<;>walk_at "m"⟩
def tN:aH:=
 (aq (aw 3 (af bA (af bA (af f6 (aa 1) (af bA (aa 0) (ae (.int 0)))) (aa 2)) (af bA (aa 0) (ae (.int 1)))))
 (aB (jD (bq (af jH (aa 3) (ae .non))) (ae .non) (af bM (af bA (aa 0) (ae (.int 2))) (aa 3)))))
def fyv:List D->Option D:=aG false 3 4 tN
def qyb:b8 3 fyv:=cK
def Dw(T:Txt K mg a):FnOk P w K mg base bu 1 a.fyv a.fdyv oO (ca K false 3 fyv):=by
 exact cB T.Dyv.F scyv λ_ _ _ _ _ _ hr=>⟨_,(aR (bY 3 scyv.nd (bE (bF (K:=K) rfl) (bE (bF (K:=K) rfl) (bE Bx (pv 1) (bE (bF (K:=K) rfl) (pv 0) aA)) (pv 2)) (bE (bF (K:=K) rfl) (pv 0) aA))) (aY (bN (kZ (dz EQ (pv 3) mF (dc)) mF (bd (eZ (K:=K) rfl) (bE (bF (K:=K) rfl) (pv 0) aA) (pv 3)))))),by unfold tN;refine(aW (O1:=[]) (cD ?_) (b9 rfl ?_ rfl))<;>walk_at "m"⟩
def D7:aH:=
 (aq (aw 3 (aO cr (aa 0)))
 (aq (aw 4 (a9 (cy 1 [2,3] none (br (aa 1)) (ai 0) (bq (af kH (aU fyv hV) (ae .non))) (aa 0))))
 (aB (bW (aj (aO tw (a9 (cy 1 [2,3] none (br (aa 4)) (ai 0) (ae true) (aU fyv hV)))) (aj (aa 0) (aj (aa 4) ag)))))))
def fyw:List D->Option D:=aG false 3 5 D7
def qya:b8 3 fyw:=cK
def EK(T:Txt K mg a):FnOk P w K mg base bu 2 a.fyw a.fdyw u8 (ca K false 3 fyw):=by
 exact cB T.Dyw.F scyw λ_ _ _ _ _ _ hr=>⟨_,(aR (bY 3 scyw.nd (dN (im (K:=K) rfl) (by rfl) T.z_len (by rfl) (ak (pv 0) av))) (aR (FZ (k:=4) (sc:=aS tT) (N0:=Cc) rfl rfl rfl (show gJ _ _ oO 1 [2,3] _=true by decide+kernel) scyw.nd rfl (Or.inl rfl) (fw (K:=K) rfl (pv 1)) (λ_ _ _ _ _=>(i5 (i:=0) (show Nodup (oO:Zj)from(by decide+kernel)) rfl (Or.inl rfl))) (qM (by decide)) (λ_ _ _ _ _=>(uq (dz FN (bo (Dw T) hr.m T.Dyv (ak (pv 0) (ak (pv 1) (ak (pv 2) av)))) mF (dc)))) (λ_ _ _ _ _=>(pv 0))) (aY (bN (gK (ak (dN (qeq (K:=K) rfl rfl) (by rfl) T.z_min (by rfl) (ak (hU scyw oO [2,3] (fw (K:=K) rfl (pv 4)) (bo (Dw T) hr.m T.Dyv (ak (pv 0) (ak (pv 1) (ak (pv 2) av))))) av)) (ak (pv 0) (ak (pv 4) av)))))))),by unfold D7;refine(aW (O1:=[]) (cD ?_) (aW (O1:=[]) (qA ?_ rfl (by decide)) (b9 rfl (m7 (aD (i0 qqz (dF (iG (bw:=none) (kP (aK (i:=4))) (df (i:=0)) jp (fK qyb (aD (aK (i:=0)) (aD (aK (i:=1)) (aD (aK (i:=2)) bh)))))).mb) (aD (aK (i:=0)) (aD (aK (i:=4)) bh)))) rfl)))<;>walk_at "m"⟩
def wY:aH:=
 (aq (aw 3 (af bA (af bA (aa 2) (af bA (aa 0) (ae (.int 1)))) (aa 1)))
 (aB (bW (aj (af bA (aa 0) (ae (.int 0))) (aj (af bA (aa 3) (ae (.int 0))) (aj (af bM (af bA (aa 0) (ae (.int 2))) (af bA (aa 3) (ae (.int 1)))) ag))))))
def fyx:List D->Option D:=aG false 3 4 wY
def qz3:b8 3 fyx:=cK
def qu2(T:Txt K mg a):FnOk P w K mg base bu 1 a.fyx a.fdyx sI (ca K false 3 fyx):=by
 exact cB T.Dyx.F scyx λ_ _ _ _ _ _ hr=>⟨_,(aR (bY 3 scyx.nd (bE (bF (K:=K) rfl) (bE (bF (K:=K) rfl) (pv 2) (bE (bF (K:=K) rfl) (pv 0) aA)) (pv 1))) (aY (bN (gK (ak (bE (bF (K:=K) rfl) (pv 0) aA) (ak (bE (bF (K:=K) rfl) (pv 3) aA) (ak (bd (eZ (K:=K) rfl) (bE (bF (K:=K) rfl) (pv 0) aA) (bE (bF (K:=K) rfl) (pv 3) aA)) av))))))),by unfold wY;refine(aW (O1:=[]) (cD ?_) (b9 rfl ?_ rfl))<;>walk_at "m"⟩
abbrev CP:=(aB (aU fyw (aj (af bM (af bA (aa 0) (ae (.int 1))) (a9 (aT (aj (aa 1) ag)))) (aj (aa 4) (aj (aa 3) ag)))))
abbrev Ca:=(br (af bA (aa 0) (ae (.int 2))))
def D8:aH:=
 (aq (aw 4 (a9 (cy 1 [1,2] none Ca (ai 0) (ae true) (aU fyx hV))))
 CP)
def fyy:List D->Option D:=aG false 4 5 D8
def qz2:b8 4 fyy:=cK
def Dx(T:Txt K mg a):FnOk P w K mg base bu 3 a.fyy a.fdyy vG (ca K false 4 fyy):=by
 exact cB T.Dyy.F E5 λ_ _ _ _ _ _ hr=>⟨_,(aR (mP 4 E5 sI [1,2] (fw (K:=K) rfl (bE (bF (K:=K) rfl) (pv 0) aA)) (bo (qu2 T) hr.m T.Dyx (ak (pv 0) (ak (pv 1) (ak (pv 2) av))))) (aY (bN (bo (EK T) hr.m T.Dyw (ak (bd (eZ (K:=K) rfl) (bE (bF (K:=K) rfl) (pv 0) aA) (eV (ak (pv 1) av))) (ak (pv 4) (ak (pv 3) av))))))),by unfold D8;refine(aW (O1:=[]) (qA ?_ rfl (by decide)) (b9 rfl ?_ rfl))<;>walk_at "m"⟩
abbrev dH:Pos:=⟨145,29,145,63⟩
abbrev dG:Str:=(("first_ones"++".<locals>.":Str)++"<lambda>")
def fyz:List D->Option D:=m4
def Dq:b8 2 fyz:=qld
def Dy(T:Txt K mg a):FnOk P w K mg base bu 4 a.fyz a.fdyz ["found","most"] (gw K a.tyz dH dG 2 fyz):=by refine T.Dyz.F.okL qsh (λvs H Q E h=>h.1) λA outer s H vs Q E hr h=>?_;refine⟨_,aY (bN (zF (yW (K:=K) rfl) (qe3 (v:="begun") (c:=a.cyz) (P:=a.tyz) (k:=1) rfl rfl hr.m (by rfl) T.z_sorted (pv 0) rfl rfl rfl T.cdyz T.chyz T.btyz rfl rfl rfl rfl (by decide+kernel) (by decide+kernel) (λ_ _ _ _=>rfl)) yR (yS (pv 1)))),?_⟩;exact qfg (by decide) h
abbrev sN:=(aj (aa 0) (aj (ae (.int 0)) ag))
abbrev vV:=(aj (af bA (aa 0) (ae (.int 0))) Cf)
abbrev wj:=(aq (dD io 8 (aj (aU fyy (aj (aa 9) (aj (ae (.int 0)) (aj (aa 7) (aj (aa 5) ag))))) ag)) (dD io 8 (aj (aU fyy (aj (aa 9) (aj (ae (.int 1)) (aj (aa 7) (aj (aa 5) ag))))) ag)))
abbrev Ci:=(br (qT (aa 4) (ae none) (qx (aa 1))))
abbrev Cp:=(aw 5 (aU fyu (aj (aa 0) (aj (aa 4) ag))))
def Dd(P0:Addr):aH:=
 (aq (aw 4 (aU fyp hV))
 (aq Cp
 (aq (aw 6 (a9 (aT (aj (aU fyw (aj (a9 (aT ag)) (aj (a9 (cy 1 [] none (m5 (aa 5)) (ai 0) (ae true) (bW (aj (aa 0) sN)))) (aj (aa 5) ag)))) ag))))
 (aq (bI Ci (ai 7)
   (aq (cH 8 (aT ag)) (aq (bI (br (aa 6)) (ai 9)
   wj) (aw 6 (jR 10 P0 dH dG fyz (aj (aa 8) (aj (aa 3) ag)))))))
 (aB (a9 (cy 1 [] none (br (jR 10 P0 dH dG fyz (aj (aa 6) (aj (aa 3) ag)))) (ai 0) (ae true) (bW vV))))))))
def f_few(P0:Addr):List D->Option D:=mq false 4 11 10 (.tab P0 dH dG) (Dd P0)
def qyh{P0:Addr}:b8 4 (f_few P0):=qok
def qun(T:Txt K mg a):FnOk P w K mg base bu 7 a.f_few a.fd_few sH (gw K a.tyz dH dG 4 (f_few a.tyz)):=by
 refine T.F_few.okT (z:="@t") (j:=10) (u:=.ref a.tyz) sc_few rfl (by unfold lK;decide+kernel) (λvs H Q E h=>h.1) (λcdv A outer s H vs Q E hr h=>?_);refine⟨_,(aR (bY 4 sc_few.nd (bo (qua T) hr.m T.Dyp (ak (pv 0) (ak (pv 1) (ak (pv 2) av))))) (aR (bY 5 sc_few.nd (bo (qu4 T) hr.m T.Dyu (ak (pv 0) (ak (pv 4) av)))) (aR (bY 6 sc_few.nd (eV (ak (bo (EK T) hr.m T.Dyw (ak (eV av) (ak (hU sc_few ["start"] [] (qk9 (pv 5)) (gK (ak (pv 0) (ak (pv 0) (ak aA av))))) (ak (pv 5) av)))) av))) (aR (hZ xu rfl (fw (K:=K) rfl (zF (yW (K:=K) rfl) (pv 4) yR (yS (pv 1)))) (fS 7 sc_few.nd) (aR (bY 8 sc_few.nd (eV av)) (aR (hZ xu rfl (fw (K:=K) rfl (pv 6)) (fS 9 sc_few.nd) (aR (jV (mo F.plainAttrs_list F.slot_list_append F.type_list_append ny (pv 8) (ak (bo (Dx T) hr.m T.Dyy (ak (pv 9) (ak aA (ak (pv 7) (ak (pv 5) av))))) av))) (aY (jV (mo F.plainAttrs_list F.slot_list_append F.type_list_append ny (pv 8) (ak (bo (Dx T) hr.m T.Dyy (ak (pv 9) (ak aA (ak (pv 7) (ak (pv 5) av))))) av)))))) (aY (bY 6 sc_few.nd (bo (Dy T) hr.m T.Dyz (ak (pv 8) (ak (pv 3) av)))))))) (aY (bN (hU sc_few ["begun"] [] (fw (K:=K) rfl (bo (Dy T) hr.m T.Dyz (ak (pv 6) (ak (pv 3) av)))) (gK (ak (bE (bF (K:=K) rfl) (pv 0) aA) (ak (bE (bF (K:=K) rfl) (pv 0) aA) av)))))))))),?_⟩;exact Hn (O':=[]) (Nms:=CD) (by decide) (by unfold Dd;refine(aW (O1:=[]) (cD ?_) (aW (O1:=[]) (cD ?_) (aW (O1:=[]) (cD (dF (iZ (aD (fK qya (aD (dF (iZ bh)) (aD (dF (iG (bw:=none) (qkq (aK (i:=5))) (df (i:=0)) jp (m7 (aD (aK (i:=0)) (aD (aK (i:=0)) (aD me_int bh)))))) (aD (aK (i:=5)) bh)))) bh)))) (aW (O1:=[]) (iE (O':=[]) ?_ rfl (df (i:=7)) (aW (O1:=[8]) (jS ?_ rfl) (aW (O1:=[]) (qB (iE (O':=[8]) ?_ rfl (df (i:=9)) (aW (O1:=[8]) (o7 pF (by decide) ?_ rfl) (o7 pF (by decide) ?_ rfl))) rfl) (cD (zT (by decide) Dq (aD (aK (i:=8)) (aD (aK (i:=3)) bh))))))) (b9 rfl (dF (iG (bw:=none) (kP (zT (by decide) Dq (aD (aK (i:=6)) (aD (aK (i:=3)) bh)))) (df (i:=0)) jp (m7 (aD (eK i7 (aK (i:=0)) me_int) (aD (eK i7 (aK (i:=0)) me_int) bh))))) rfl)))))<;>walk_at "m") h
abbrev sL:=(af oj (ae (.int 10)) (ae (.int 60)))
def tO:aH:=
 (aq (cJ (bq (af uQ (aa 1) (aO cr (aa 0))))
   (aB (af bX (af bA (aa 0) (aa 1)) sL))
   aZ)
 (aB (ae (.int 0))))
def fyA:List D->Option D:=aG false 2 2 tO
def wv:b8 2 fyA:=cK
def wG(T:Txt K mg a):FnOk P w K mg base bu 1 a.fyA a.fdyA ["_law_script","_law_k"] (ca K false 2 fyA):=by
 exact cB T.DyA.F qsg λ_ _ _ _ _ _ hr=>⟨_,(aR (fF (dz tG (pv 1) (dN (im (K:=K) rfl) (by rfl) T.z_len (by rfl) (ak (pv 0) av)) (dc)) (aY (bN (bd fu (bE (bF (K:=K) rfl) (pv 0) (pv 1)) (bd t5 aA aA)))) fI) (aY (bN aA))),by unfold tO;refine(aW (O1:=[]) (fE ?_ (b9 rfl ?_ rfl) (fG rfl)) (b9 rfl ?_ rfl))<;>walk_at "m"⟩
def wZ:aH:=
 (mr (aT (aj (af bX (af bM (af bM (af ia (af bX (aa 0) sL) (ae (.int 7368787))) (af ia (ae (.int 1000003)) (aa 1))) (ae (.int 17))) (ae (.int 2305843009213693951))) ag)))
def fyB:List D->Option D:=aG true 2 2 wZ
def Dr:b8 2 fyB:=cK
def Dz(T:Txt K mg a):FnOk P w K mg base bu 1 a.fyB a.fdyB ["_law_cell","_law_k"] (ca K true 2 fyB):=by
 exact cB T.DyB.F qsf λ_ _ _ _ _ _ hr=>⟨_,(aY (bN (eV (ak (bd fu (bd (eZ (K:=K) rfl) (bd (eZ (K:=K) rfl) (bd (jA (K:=K) rfl) (bd fu (pv 0) (bd t5 aA aA)) aA) (bd (jA (K:=K) rfl) aA (pv 1))) aA) aA) av)))),by unfold wZ;refine(yM rfl ?_ rfl)<;>walk_at "m"⟩
def tm:aH:=
 (aq (p6 0 (af bX (af bM (af ia (iQ 0 (ae (.int 0))) (ae (.int 1181783497276652981))) (ae (.int 12345678910987))) (ae (.int 2305843009213693951))) (ae (.int 0)))
 (aB (af bX (af gA (iQ 0 (ae (.int 0))) (ae (.int 65537))) (aa 1))))
def fyC:List D->List D->Option (D×List D):=gx false 2 2 tm
def kK:tI 2 fyC:=EZ
def kG(T:Txt K mg a):FnOk P w K mg base bu 1 a.fyC a.fdyC pL (pQ K false 2 fyC):=by
 refine T.DyC.F.ok qse (λ_ _ _ _ h=>h.1) (λcdv A outer s H vs Q E hr h=>?_)
 .refine⟨_,(aR (xP (bd fu (bd (eZ (K:=K) rfl) (bd (jA (K:=K) rfl) (bE (bF (K:=K) rfl) (pv 0) aA) aA) aA) aA) (EU (pv 0) aA jJ)) (aY (bN (bd fu (bd nj (bE (bF (K:=K) rfl) (pv 0) aA) aA) (pv 1))))),?_⟩;exact GW (O':=[]) (Nms:=pL) (f:=tm) (by unfold tm;exact(aW (O1:=[0]) (qpd (by decide) (eK qu (eK o9 (eK FL (xH (i:=0) (by decide) me_int) me_int) me_int) me_int) me_int rfl) (b9 rfl (eK qu (eK EH (xH (i:=0) (by decide) me_int) me_int) (aK (i:=1))) rfl))) h
abbrev vR:=(aj (af bM (ae (.int 1)) (gn fyC 0 (aj (ae (.int 4)) ag))) ag)
abbrev vS:=(aj (af bM (ae (.int 1)) (gn fyC 0 (aj (ae (.int 6)) ag))) ag)
abbrev CU:=(aB (bW (aj (aa 3) (aj (aO mK (aa 4)) (aj (aO mK (aa 5)) (aj (af bA (aa 2) (gn fyC 0 (aj (aO cr (aa 2)) ag))) ag))))))
abbrev C3:=(aj (aa 1) (aj (af bA (a9 (aT (aj (ae (.int 0)) (aj (ae (.int 1)) (aj (ae (.int 2)) (aj (ae (.int 2)) (aj (ae (.int 3)) (aj (ae (.int 1)) (aj (ae (.int 2)) (aj (ae (.int 3)) (aj (ae (.int 4)) ag))))))))))) (gn fyC 0 (aj (ae (.int 9)) ag))) ag))
abbrev Cs:=(af Ax (gn fyC 1 (aj (ae (.int 4)) ag)) (ae (.int 0)))
abbrev wg:=(dD io 5 (aj (aO mK (a9 (cy 1 [0] (some (0,1)) (br (aa 4)) (ai 0) (ae true) (aO hJ Cs)))) ag))
def pU:aH:=
 (aq (aw 3 (iJ (λi j=>if j<i then j else i) C3))
 (aq (aw 4 (a9 (cy 1 [0,3] (some (0,1)) (gQ vR) (ai 0) (ae true) (gn fyC 1 (aj (af cQ (ae (.int 2)) (aa 2)) ag)))))
 (aq (cH 5 (aT ag))
 (aq (bI (gQ vS) (ai 6)
   wg)
 CU))))
def fyD:List D->List D->Option (D×List D):=gx false 3 7 pU
def qy9:tI 3 fyD:=EZ
def qty(T:Txt K mg a):FnOk P w K mg base bu 2 a.fyD a.fdyD vJ (pQ K false 3 fyD):=by
 refine T.DyD.F.ok scyD (λ_ _ _ _ h=>h.1) (λcdv A outer s H vs Q E hr h=>?_)
 .refine⟨_,(aR (bY 3 scyD.nd (dN (Ha rfl) (by rfl) T.z_min (by rfl) (ak (pv 1) (ak (bE (bF (K:=K) rfl) (eV (ak aA (ak aA (ak aA (ak aA (ak aA (ak aA (ak aA (ak aA (ak aA av)))))))))) (bo (kG T) hr.m T.DyC (ak (pv 0) (ak aA av)))) av)))) (aR (mP 4 scyD ["_law_k","_law_state_here","_law_reach"] [0,3] (jY (by rfl) T.z_range (ak (bd (eZ (K:=K) rfl) aA (bo (kG T) hr.m T.DyC (ak (pv 0) (ak aA av)))) av)) (bo (kG T) hr.m T.DyC (ak (pv 1) (ak (bd t6 aA (pv 2)) av)))) (aR (bY 5 scyD.nd (eV av)) (aR (hZ xu rfl (jY (by rfl) T.z_range (ak (bd (eZ (K:=K) rfl) aA (bo (kG T) hr.m T.DyC (ak (pv 0) (ak aA av)))) av)) (fS 6 scyD.nd) (aY (jV (mo F.plainAttrs_list F.slot_list_append F.type_list_append ny (pv 5) (ak (lD (qR (K:=K) rfl) (by rfl) T.z_tuple (by rfl) (ak (hU scyD ["_law_tap","_law_state_here"] [0] (fw (K:=K) rfl (pv 4)) (lD G8 (by rfl) T.z_int (by rfl) (ak (yO wz (bo (kG T) hr.m T.DyC (ak (pv 1) (ak aA av))) aA (dc)) av))) av)) av))))) (aY (bN (gK (ak (pv 3) (ak (lD (qR (K:=K) rfl) (by rfl) T.z_tuple (by rfl) (ak (pv 4) av)) (ak (lD (qR (K:=K) rfl) (by rfl) T.z_tuple (by rfl) (ak (pv 5) av)) (ak (bE (bF (K:=K) rfl) (pv 2) (bo (kG T) hr.m T.DyC (ak (pv 0) (ak (dN (im (K:=K) rfl) (by rfl) T.z_len (by rfl) (ak (pv 2) av)) av)))) av))))))))))),?_⟩;exact GW (O':=[]) (Nms:=CB) (f:=pU) (by unfold pU;exact(aW (O1:=[0]) (cD (tE (aD (aK (i:=1)) (aD (eK i7 (dF (iZ (aD me_int (aD me_int (aD me_int (aD me_int (aD me_int (aD me_int (aD me_int (aD me_int (aD me_int bh))))))))))) (jW (i:=0) kK (by decide) (aD me_int bh))) bh)))) (aW (O1:=[0]) (qA (iG (bw:=(some (0,1))) (qP (aD (eK o9 me_int (jW (i:=0) kK (by decide) (aD me_int bh))) bh)) (df (i:=0)) jp (jW (i:=1) kK (by decide) (aD (eK xJ me_int (aK (i:=2))) bh))) rfl (by decide)) (aW (O1:=[0,5]) (jS (iZ bh) rfl) (aW (O1:=[0]) (qB (iE (O':=[0,5]) (qP (aD (eK o9 me_int (jW (i:=0) kK (by decide) (aD me_int bh))) bh)) rfl (df (i:=6)) (o7 pF (by decide) (aD (qL qH (dF (iG (bw:=(some (0,1))) (kP (aK (i:=4))) (df (i:=0)) jp (i0 Ei (mz tH (jW (i:=1) kK (by decide) (aD me_int bh)) me_int.mb).mb)))) bh) rfl)) rfl) (b9 rfl (m7 (aD (aK (i:=3)) (aD (qL qH (aK (i:=4))) (aD (qL qH (aK (i:=5))) (aD (eK i7 (aK (i:=2)) (jW (i:=0) kK (by decide) (aD (i0 mY iY) bh))) bh))))) rfl)))))) h
abbrev wd:=(aq (aw 1 (af bX (af bM (aa 1) (af bX (aa 0) (ae (.int 2)))) (ae (.int 2)))) (aw 0 (af gA (aa 0) (ae (.int 2)))))
abbrev vD:=(bq (af Ax (aa 0) (ae (.int 0))))
def w6:aH:=
 (aq (aw 1 (ae (.int 0)))
 (aq (il vD
   wd 1000)
 (aB (aa 1))))
def fyE:List D->Option D:=aG false 1 2 w6
def qz1:b8 1 fyE:=cK
def qtw(T:Txt K mg a):FnOk P w K mg base bu 1 a.fyE a.fdyE ["_law_number"] (ca K false 1 fyE):=by
 exact cB T.DyE.F scyE λ_ _ _ _ _ _ hr=>⟨_,(aR (bY 1 scyE.nd aA) (aR (GP xu (dz wz (pv 0) aA (dc)) (aR (bY 1 scyE.nd (bd fu (bd (eZ (K:=K) rfl) (pv 1) (bd fu (pv 0) aA)) aA)) (aY (bY 0 scyE.nd (bd nj (pv 0) aA))))) (aY (bN (pv 1))))),by unfold w6;refine(aW (O1:=[]) (cD ?_) (aW (O1:=[]) (GG (O':=[]) ?_ rfl (aW (O1:=[]) (cD ?_) (cD ?_))) (b9 rfl ?_ rfl)))<;>walk_at "m"⟩
abbrev vM:=(af fN (af bA (aa 2) (aa 0)) (ae (.int 1)))
abbrev CO:=(aw 6 (af bA (af bA (aa 0) (ae (.int 2))) (af bX (aa 1) (aO cr (af bA (aa 0) (ae (.int 2)))))))
abbrev pO:=(af bM (af ia (ae (.int 2)) (aa 2)) (aa 3))
def D9:aH:=
 (aq (aw 4 pO)
 (aq (aw 5 (a9 (cy 1 [4] none vF (ai 0) (ae true) (aU fyE pM))))
 (aq CO
 (aB (bW (aj (af bX (aa 4) (af cQ (ae (.int 1)) (af bA (aa 0) (ae (.int 0))))) (aj (a9 (cy 1 [5,6] none (gQ (aj (aO cr (aa 5)) ag)) (ai 0) (bq vM) (af bA (aa 1) (aa 0)))) ag)))))))
def fyF:List D->Option D:=aG false 4 7 D9
def qz0:b8 4 fyF:=cK
abbrev B6:List Str:=["_law_k","_law_signs","_law_line"]
def qtv(T:Txt K mg a):FnOk P w K mg base bu 2 a.fyF a.fdyF vN (ca K false 4 fyF):=by
 exact cB T.DyF.F scyF λ_ _ _ _ _ _ hr=>⟨_,(aR (bY 4 scyF.nd (bd (eZ (K:=K) rfl) (bd (jA (K:=K) rfl) aA (pv 2)) (pv 3))) (aR (bY 5 scyF.nd (hU scyF ["_law_tap","_law_both"] [4] (fw (K:=K) rfl (bE (bF (K:=K) rfl) (pv 0) aA)) (bo (qtw T) hr.m T.DyE (ak (bd xK (pv 1) (pv 0)) av)))) (aR (bY 6 scyF.nd (bE (bF (K:=K) rfl) (bE (bF (K:=K) rfl) (pv 0) aA) (bd fu (pv 1) (dN (im (K:=K) rfl) (by rfl) T.z_len (by rfl) (ak (bE (bF (K:=K) rfl) (pv 0) aA) av))))) (aY (bN (gK (ak (bd fu (pv 4) (bd t6 aA (bE (bF (K:=K) rfl) (pv 0) aA))) (ak (px (sc:=aS tU) (N0:=CC) rfl rfl rfl (show gJ _ _ B6 1 [5,6] _=true by decide+kernel) (jY (by rfl) T.z_range (ak (dN (im (K:=K) rfl) (by rfl) T.z_len (by rfl) (ak (pv 5) av)) av)) (λ_ _ _ _ _=>(i5 (i:=0) (show Nodup (B6:Zj)from(by decide+kernel)) rfl (Or.inl rfl))) (qM (by decide)) (λ_ _ _ _ _=>(uq (dz (gh (K:=K) rfl hr.units) (bE (bF (K:=K) rfl) (pv 2) (pv 0)) aA (dc)))) (λ_ _ _ _ _=>(bE (bF (K:=K) rfl) (pv 1) (pv 0)))) av)))))))),by unfold D9;refine(aW (O1:=[]) (cD ?_) (aW (O1:=[]) (cD ?_) (aW (O1:=[]) (cD ?_) (b9 rfl ?_ rfl))))<;>walk_at "m"⟩
def tP:aH:=
 (aq (aw 2 (ae (.int 0)))
 (aq (cJ (bq vP)
   (bI (br (aa 1)) (ai 3)
   (aw 2 (af bX pO (af cQ (ae (.int 1)) (af bA (aa 0) (ae (.int 0)))))))
   aZ)
 (aB (aa 2))))
def fyG:List D->Option D:=aG false 2 4 tP
def qyz:b8 2 fyG:=cK
def qtu(T:Txt K mg a):FnOk P w K mg base bu 1 a.fyG a.fdyG oP (ca K false 2 fyG):=by
 exact cB T.DyG.F scyG λ_ _ _ _ _ _ hr=>⟨_,(aR (bY 2 scyG.nd aA) (aR (fF (dz (gh (K:=K) rfl hr.units) (bE (bF (K:=K) rfl) (pv 0) aA) gk (dc)) (aY (hZ xu rfl (fw (K:=K) rfl (pv 1)) (fS 3 scyG.nd) (aY (bY 2 scyG.nd (bd fu (bd (eZ (K:=K) rfl) (bd (jA (K:=K) rfl) aA (pv 2)) (pv 3)) (bd t6 aA (bE (bF (K:=K) rfl) (pv 0) aA))))))) fI) (aY (bN (pv 2))))),by unfold tP;refine(aW (O1:=[]) (cD ?_) (aW (O1:=[]) (fE ?_ (iE (O':=[]) ?_ rfl (df (i:=3)) (cD ?_)) (fG rfl)) (b9 rfl ?_ rfl)))<;>walk_at "m"⟩
abbrev CL:=(aw 2 (af bM (aa 2) (a9 (d5 (aT (aj (ae (.int 0)) ag)) (af bA (aa 0) (ae (.int 0)))))))
abbrev C2:=(jE (aU fyF (aj (aa 0) (aj (aa 5) (aj (aa 3) (aj (af bA (aa 2) (aa 5)) ag))))) (dU 2 (cg (ai 3) (cg (ai 6) eF))))
abbrev Cj:=(aq C2 (cH 4 (qj qh (aa 4) (aa 6))))
abbrev Co:=(aw 3 (aU fyG (aj (aa 0) (aj (aa 1) ag))))
def Ea:aH:=
 (aq (aw 2 (a9 (gq dE (aa 1))))
 (aq (cJ pP
   CL
   aZ)
 (aq Co
 (aq (cH 4 (aT ag))
 (aq (bI (gQ (aj (aO cr (aa 2)) ag)) (ai 5)
   Cj)
 (kL 4))))))
def fyH:List D->Option D:=aG true 2 7 Ea
def Ds:b8 2 fyH:=cK
def EL(T:Txt K mg a):FnOk P w K mg base bu 3 a.fyH a.fdyH oP (ca K true 2 fyH):=by
 exact cB T.DyH.F scyH λ_ _ _ _ _ _ hr=>⟨_,(aR (bY 2 scyH.nd (lD (Hy (K:=K) rfl) (by rfl) T.z_list (by rfl) (ak (pv 1) av))) (aR (fF (dz (gh (K:=K) rfl hr.units) (bE (bF (K:=K) rfl) (pv 0) aA) gk (dc)) (aY (bY 2 scyH.nd (bd (eZ (K:=K) rfl) (pv 2) (bd xM (eV (ak aA av)) (bE (bF (K:=K) rfl) (pv 0) aA))))) fI) (aR (bY 3 scyH.nd (bo (qtu T) hr.m T.DyG (ak (pv 0) (ak (pv 1) av)))) (aR (bY 4 scyH.nd (eV av)) (aR (hZ xu rfl (jY (by rfl) T.z_range (ak (dN (im (K:=K) rfl) (by rfl) T.z_len (by rfl) (ak (pv 2) av)) av)) (fS 5 scyH.nd) (aR (xP (bo (qtv T) hr.m T.DyF (ak (pv 0) (ak (pv 5) (ak (pv 3) (ak (bE (bF (K:=K) rfl) (pv 2) (pv 5)) av))))) (nq (K:=K) rfl rfl (ik (fS 3 scyH.nd) (ik (fS 6 scyH.nd) nr)))) (aY (bY 4 scyH.nd (bd (eZ (K:=K) rfl) (pv 4) (pv 6)))))) (aY (bN (pv 4)))))))),by unfold Ea;refine(aW (O1:=[]) (cD (dF (GE Fs (aK (i:=1))))) (aW (O1:=[]) (fE ?_ (cD (eK o9 (aK (i:=2)) (dF (xI (iZ (aD me_int bh)) (eK i7 (aK (i:=0)) me_int))))) (fG rfl)) (aW (O1:=[]) (cD ?_) (aW (O1:=[4]) (jS ?_ rfl) (aW (O1:=[4]) (iE (O':=[4]) ?_ rfl (df (i:=5)) (aW (O1:=[]) (qv0 ?_ rfl (mB (gT (df (i:=3)) (gT (df (i:=6)) mH)))) (jS (qyi qtm (aK (i:=4)) (aK (i:=6))) rfl))) (yN rfl (by first|decide|simp) rfl (by first|decide|simp)))))))<;>walk_at "m"⟩
abbrev CM:=(af jG (ae (.int 1)) (af ia (ae (.int 2)) (af bX (af gA (aa 3) (ae (.int 27))) (ae (.int 2)))))
abbrev B9:=(bq (af uQ (aa 4) (ae (.int 4))))
abbrev CN:=(cJ B9 (aB (bW (aj (ae (.str "clear")) (aj (aa 2) ag)))) aZ)
abbrev CS:=(cJ (bq (af fN (aa 4) (ae (.int 4)))) (aB (bW (aj (ae (.str "clear")) (aj (af jG (ae (.int 1)) (aa 2)) ag)))) aZ)
abbrev CW:=(aB (bW (aj (ae (.str "soft")) (aj (af bX (af gA (aa 3) (ae (.int 9))) (ae (.int 4))) (aj (af bX (af gA (aa 3) (ae (.int 36))) (ae (.int 4))) ag)))))
abbrev CZ:=(aw 3 (af bX (af ia (af bM (af bM (af bX (aa 0) (af oj (ae (.int 10)) (ae (.int 18)))) (ae (.int 1))) (af ia (af ia (aa 1) (aa 1)) (ae (.int 104729)))) (ae (.int 742938285))) (ae (.int 2147483647))))
abbrev B8:=(bq (af fN (aa 4) (ae (.int 6))))
abbrev Ce:=(aw 4 (af bX (aa 3) (ae (.int 9))))
abbrev CF:=(aj (af jG (af bX (af gA (aa 3) (ae (.int 9))) (ae (.int 3))) (ae (.int 1))) ag)
abbrev CG:=(cJ (bq (af fN (aa 4) (ae (.int 5)))) (aB (bW (aj (ae (.str "gap")) ag))) aZ)
def Eb:aH:=
 (aq CZ
 (aq Ce
 (aq CN
 (aq CS
 (aq CG
 (aq (cJ B8
   (aB (bW (aj (ae (.str "soft")) (aj (af ia (af bX (aa 0) sL) CM) CF))))
   aZ)
 CW))))))
def fyI:List D->Option D:=aG false 3 5 Eb
def qy8:b8 3 fyI:=cK
def qtt(T:Txt K mg a):FnOk P w K mg base bu 1 a.fyI a.fdyI vA (ca K false 3 fyI):=by
 exact cB T.DyI.F scyI λ_ _ _ _ _ _ hr=>⟨_,(aR (bY 3 scyI.nd (bd fu (bd (jA (K:=K) rfl) (bd (eZ (K:=K) rfl) (bd (eZ (K:=K) rfl) (bd fu (pv 0) (bd t5 aA aA)) aA) (bd (jA (K:=K) rfl) (bd (jA (K:=K) rfl) (pv 1) (pv 1)) aA)) aA) aA)) (aR (bY 4 scyI.nd (bd fu (pv 3) aA)) (aR (fF (dz tG (pv 4) aA (dc)) (aY (bN (gK (ak gk (ak (pv 2) av))))) fI) (aR (fF (dz (gh (K:=K) rfl hr.units) (pv 4) aA (dc)) (aY (bN (gK (ak gk (ak (bd t7 aA (pv 2)) av))))) fI) (aR (fF (dz (gh (K:=K) rfl hr.units) (pv 4) aA (dc)) (aY (bN (gK (ak gk av)))) fI) (aR (fF (dz (gh (K:=K) rfl hr.units) (pv 4) aA (dc)) (aY (bN (gK (ak gk (ak (bd (jA (K:=K) rfl) (bd fu (pv 0) (bd t5 aA aA)) (bd t7 aA (bd (jA (K:=K) rfl) aA (bd fu (bd nj (pv 3) aA) aA)))) (ak (bd t7 (bd fu (bd nj (pv 3) aA) aA) aA) av)))))) fI) (aY (bN (gK (ak gk (ak (bd fu (bd nj (pv 3) aA) aA) (ak (bd fu (bd nj (pv 3) aA) aA) av)))))))))))),by unfold Eb;refine(aW (O1:=[]) (cD ?_) (aW (O1:=[]) (cD ?_) (aW (O1:=[]) (fE ?_ (b9 rfl ?_ rfl) (fG rfl)) (aW (O1:=[]) (fE ?_ (b9 rfl ?_ rfl) (fG rfl)) (aW (O1:=[]) (fE ?_ (b9 rfl ?_ rfl) (fG rfl)) (aW (O1:=[]) (fE ?_ (b9 rfl ?_ rfl) (fG rfl)) (b9 rfl ?_ rfl)))))))<;>walk_at "m"⟩
abbrev vT:=(aj (ae (.int 1)) (aj (af jG (aO cr (aa 0)) (ae (.int 2))) ag))
abbrev Cq:=(o5 (a9 (i4 fyH (aj (aa 1) (aj (aa 2) ag)))))
def Ec:aH:=
 (aq (cH 3 (aT ag))
 (aq (bI Cq (dU 2 (cg (ai 4) (cg (ai 5) eF)))
   (dD io 3 (aj (aU fyI (aj (aU fyA (aj (aa 0) (aj (af bM (ae (.int 2)) (af bX (aa 4) (iJ (λi j=>if j>i then j else i) vT))) ag))) (aj (aa 4) (aj (aa 5) ag)))) ag)))
 (kL 3)))
def fyJ:List D->Option D:=aG true 3 6 Ec
def qy7:b8 3 fyJ:=cK
def qts(T:Txt K mg a):FnOk P w K mg base bu 4 a.fyJ a.fdyJ vI (ca K true 3 fyJ):=by
 exact cB T.DyJ.F scyJ λ_ _ _ _ _ _ hr=>⟨_,(aR (bY 3 scyJ.nd (eV av)) (aR (hZ xu rfl (FY (K:=K) rfl (by rfl) T.z_enumerate (bo (EL T) hr.m T.DyH (ak (pv 1) (ak (pv 2) av)))) (nq (K:=K) rfl rfl (ik (fS 4 scyJ.nd) (ik (fS 5 scyJ.nd) nr))) (aY (jV (mo F.plainAttrs_list F.slot_list_append F.type_list_append ny (pv 3) (ak (bo (qtt T) hr.m T.DyI (ak (bo (wG T) hr.m T.DyA (ak (pv 0) (ak (bd (eZ (K:=K) rfl) aA (bd fu (pv 4) (dN (G9 rfl) (by rfl) T.z_max (by rfl) (ak aA (ak (bd t7 (dN (im (K:=K) rfl) (by rfl) T.z_len (by rfl) (ak (pv 0) av)) aA) av))))) av))) (ak (pv 4) (ak (pv 5) av)))) av))))) (aY (bN (pv 3))))),by unfold Ec;exact(aW (O1:=[3]) (jS (iZ bh) rfl) (aW (O1:=[3]) (iE (O':=[3]) (FG (dF (kY Ds (aD (aK (i:=1)) (aD (aK (i:=2)) bh))))) rfl (mB (gT (df (i:=4)) (gT (df (i:=5)) mH))) (o7 pF (by decide) (aD (fK qy8 (aD (fK wv (aD (aK (i:=0)) (aD (eK o9 me_int (eK qu (aK (i:=4)) (tE (aD me_int (aD (eK EI (i0 mY iY) me_int) bh))))) bh))) (aD (aK (i:=4)) (aD (aK (i:=5)) bh)))) bh) rfl)) (yN rfl (by first|decide|simp) rfl (by first|decide|simp))))⟩
def qg:aH:=
 (aq (cJ Cw
   (aB (aO hJ (af eH (af bA (aa 0) (ae (.int 1))) (aa 1))))
   aZ)
 (aq (cJ Cu
   (aB (ae (.int 0)))
   aZ)
 (aB (af bA (aa 0) (af bM (ae (.int 1)) (aa 1))))))
def fyK:List D->Option D:=aG false 2 2 qg
def qy6:b8 2 fyK:=cK
def qtr(T:Txt K mg a):FnOk P w K mg base bu 1 a.fyK a.fdyK ["_law_told","_law_bit"] (ca K false 2 fyK):=by
 exact cB T.DyK.F qsd λ_ _ _ _ _ _ hr=>⟨_,(aR (fF (dz (gh (K:=K) rfl hr.units) (bE (bF (K:=K) rfl) (pv 0) aA) gk (dc)) (aY (bN (lD G8 (by rfl) T.z_int (by rfl) (ak (yO (m8 (K:=K) rfl hr.units) (bE (bF (K:=K) rfl) (pv 0) aA) (pv 1) (dc)) av)))) fI) (aR (fF (dz (gh (K:=K) rfl hr.units) (bE (bF (K:=K) rfl) (pv 0) aA) gk (dc)) (aY (bN aA)) fI) (aY (bN (bE (bF (K:=K) rfl) (pv 0) (bd (eZ (K:=K) rfl) aA (pv 1))))))),by unfold qg;refine(aW (O1:=[]) (fE ?_ (b9 rfl ?_ rfl) (fG rfl)) (aW (O1:=[]) (fE ?_ (b9 rfl ?_ rfl) (fG rfl)) (b9 rfl ?_ rfl)))<;>walk_at "m"⟩
abbrev CA:=(gy (aj (aa 2) (aj (a9 (i4 fyH (aj (aa 0) (aj (aa 1) ag)))) ag)))
def xz:aH:=
 (aB (aO jF (a9 (cy 2 [] none CA (dU 2 (cg (ai 0) (cg (ai 1) eF))) (ae true) (aU fyK (aj (aa 0) (aj (aa 1) ag)))))))
def fyL:List D->Option D:=aG false 3 3 xz
def qy5:b8 3 fyL:=cK
def EM(T:Txt K mg a):FnOk P w K mg base bu 4 a.fyL a.fdyL pN (ca K false 3 fyL):=by
 exact cB T.DyL.F qsc λ_ _ _ _ _ _ hr=>⟨_,(aY (bN (dN (Gj (K:=K) rfl rfl) (by rfl) T.z_sum (by rfl) (ak (px (sc:=aS tV) (N0:=pN) rfl rfl rfl (show gJ _ _ ["_law_told","_law_bit"] 2 [] _=true by decide+kernel) (ul (K:=K) rfl (by rfl) T.z_zip (ak (pv 2) (ak (bo (EL T) hr.m T.DyH (ak (pv 0) (ak (pv 1) av))) av))) (λ_ _ _ _ _=>(nq (K:=K) rfl rfl (ik (i5 (i:=0) (show Nodup (["_law_told","_law_bit"]:Zj)from(by decide+kernel)) rfl (Or.inl rfl)) (ik (i5 (i:=1) (show Nodup (["_law_told","_law_bit"]:Zj)from(by decide+kernel)) rfl (Or.inl rfl)) nr)))) (zC (by decide) (by decide)) (λ_ _ _ _ _=>um) (λ_ _ _ _ _=>(bo (qtr T) hr.m T.DyK (ak (pv 0) (ak (pv 1) av))))) av)))),by unfold xz;exact(b9 rfl (i0 xC (dF (iG (bw:=none) (qq (aD (aK (i:=2)) (aD (dF (kY Ds (aD (aK (i:=0)) (aD (aK (i:=1)) bh)))) bh))) (mB (gT (df (i:=0)) (gT (df (i:=1)) mH))) jp (fK qy6 (aD (aK (i:=0)) (aD (aK (i:=1)) bh))))).mb) rfl)⟩
def xA:aH:=
 (aB (qk (aO (hG (gP "int")) (aa 0)) (tD (aO (hG (gP "bool")) (aa 0)))))
def fyM:List D->Option D:=aG false 1 1 xA
def Dt:b8 1 fyM:=cK
def EO(T:Txt K mg a):FnOk P w K mg base bu 1 a.fyM a.fdyM ["_law_found"] (ca K false 1 fyM):=by
 exact cB T.DyM.F qsb λ_ _ _ _ _ _ hr=>⟨_,(aY (bN (ES (dN (qG (K:=K) rfl) (by rfl) T.z_isinstance (by rfl) (ak (pv 0) (ak (qC (v:=.ty "int") (by rfl) T.z_int (by rfl) rfl) av))) (ET (qtd (dN (qG (K:=K) rfl) (by rfl) T.z_isinstance (by rfl) (ak (pv 0) (ak (qC (v:=.ty "bool") (by rfl) T.z_bool (by rfl) rfl) av)))))))),by unfold xA;exact(b9 rfl (ED (qp (qq0 T) iY) (qv9 (qp (ql4 T) iY))) rfl)⟩
abbrev sM:=(e8 (bq (aO (hG (gP "list")) (aa 0))))
abbrev vY:=(qk (aU fyM (aj (aa 0) ag)) (uw Ir Ir (ae (.int 0)) (aa 0) (ae (.int 1))))
def xB:aH:=
 (aq (cJ (fq sM (bq (af eH (aO cr (aa 0)) (aa 1))))
   (aB (ae (.bl false)))
   aZ)
 (aB (aO lZ (a9 (cy 1 [] none (br (aa 0)) (ai 0) (ae true) vY)))))
def fyN:List D->Option D:=aG false 2 2 xB
def qyy:b8 2 fyN:=cK
def qtq(T:Txt K mg a):FnOk P w K mg base bu 2 a.fyN a.fdyN sG (ca K false 2 fyN):=by
 exact cB T.DyN.F E6 λ_ _ _ _ _ _ hr=>⟨_,(aR (fF (PW.pt (fQ (pb (kR (dN (qG (K:=K) rfl) (by rfl) T.z_isinstance (by rfl) (ak (pv 0) (ak (qC (v:=.ty "list") (by rfl) T.z_list (by rfl) rfl) av))))) (f8 (dz (m8 (K:=K) rfl hr.units) (dN (im (K:=K) rfl) (by rfl) T.z_len (by rfl) (ak (pv 0) av)) (pv 1) (dc))))) (aY (bN mT)) fI) (aY (bN (dN (qlu (K:=K) rfl rfl) (by rfl) T.z_all (by rfl) (ak (hU E6 ["_law_bit"] [] (fw (K:=K) rfl (pv 0)) (ES (bo (EO T) hr.m T.DyM (ak (pv 0) av)) (ET (qkb DE DE aA (pv 0) aA)))) av))))),by unfold xB;exact(aW (O1:=[]) (fE (tF (qt (o8 (qp (GB T) iY))) (ni (mz wB (i0 mY iY) iY))) (b9 rfl Do rfl) (fG rfl)) (b9 rfl (i0 Eg (dF (iG (bw:=none) (kP (aK (i:=0))) (df (i:=0)) jp (ED (fK Dt (aD (aK (i:=0)) bh)) (qku tH tH me_int (aK (i:=0)) me_int)))).mb) rfl))⟩
abbrev C1:=(aw 1 (af bM (a9 (cy 1 [] none (br (aa 1)) (ai 0) (ae true) (af bM (aa 0) (a9 (aT (aj (ae (.int 0)) ag)))))) (a9 (cy 1 [] none (br (aa 1)) (ai 0) (ae true) (af bM (aa 0) (a9 (aT (aj (ae (.int 1)) ag))))))))
abbrev Cn:=(aw 1 (a9 (aT (aj (a9 (aT ag)) ag))))
def Ed:aH:=
 (aq Cn
 (aq (bI (gQ (aj (aa 0) ag)) (ai 2)
   C1)
 (mr (gq mj (aa 1)))))
def fyO:List D->Option D:=aG true 1 3 Ed
def qy4:b8 1 fyO:=cK
def qtp(T:Txt K mg a):FnOk P w K mg base bu 1 a.fyO a.fdyO ["_law_size"] (ca K true 1 fyO):=by
 exact cB T.DyO.F scyO λ_ _ _ _ _ _ hr=>⟨_,(aR (bY 1 scyO.nd (eV (ak (eV av) av))) (aR (hZ xu rfl (jY (by rfl) T.z_range (ak (pv 0) av)) (fS 2 scyO.nd) (aY (bY 1 scyO.nd (bd (eZ (K:=K) rfl) (hU scyO ["_law_word"] [] (fw (K:=K) rfl (pv 1)) (bd (eZ (K:=K) rfl) (pv 0) (eV (ak aA av)))) (hU scyO ["_law_word"] [] (fw (K:=K) rfl (pv 1)) (bd (eZ (K:=K) rfl) (pv 0) (eV (ak aA av)))))))) (aY (bN (dN (qiz (K:=K) rfl hr.units) (by rfl) T.z_sorted (by rfl) (ak (pv 1) av)))))),by unfold Ed;refine(aW (O1:=[]) (cD ?_) (aW (O1:=[]) (iE (O':=[]) ?_ rfl (df (i:=2)) (cD ?_)) (yM rfl (qpj (aK (i:=1))) rfl)))<;>walk_at "m"⟩
abbrev vQ:=(e8 (bq (aU fyM (aj (af bA (aa 4) (ae (.int 0))) ag))))
abbrev vU:=(e8 (bq (aU fyN (aj (af bA (aa 4) (ae (.int 1))) (aj (aa 2) ag)))))
abbrev vW:=(aU fyL (aj (aa 1) (aj (af bA (aa 4) (ae (.int 1))) (aj (aa 3) ag))))
abbrev vK:=(e8 (bq (aO (hG (gP "tuple")) (aa 4))))
def Ee:aH:=
 (aq (cJ sM
   (aB (ae (.bl false)))
   aZ)
 (aq (bI (br (aa 0)) (ai 4)
   (aq (cJ (fq vK (fq (bq (af eH (aO cr (aa 4)) (ae (.int 2)))) vQ))
   (aB (ae (.bl false)))
   aZ) (cJ (fq vU (bq (af eH (af bA (aa 4) (ae (.int 0))) vW)))
   (aB (ae (.bl false)))
   aZ)))
 (aB (ae (.bl true)))))
def fyP:List D->Option D:=aG false 4 5 Ee
def qyx:b8 4 fyP:=cK
def qto(T:Txt K mg a):FnOk P w K mg base bu 5 a.fyP a.fdyP vO (ca K false 4 fyP):=by
 exact cB T.DyP.F scyP λ_ _ _ _ _ _ hr=>⟨_,(aR (fF (pb (kR (dN (qG (K:=K) rfl) (by rfl) T.z_isinstance (by rfl) (ak (pv 0) (ak (qC (v:=.ty "list") (by rfl) T.z_list (by rfl) rfl) av))))) (aY (bN mT)) fI) (aR (hZ xu rfl (fw (K:=K) rfl (pv 0)) (fS 4 scyP.nd) (aR (fF (PW.pt (fQ (pb (kR (dN (qG (K:=K) rfl) (by rfl) T.z_isinstance (by rfl) (ak (pv 4) (ak (qC (v:=.ty "tuple") (by rfl) T.z_tuple (by rfl) rfl) av))))) (fQ (dz (m8 (K:=K) rfl hr.units) (dN (im (K:=K) rfl) (by rfl) T.z_len (by rfl) (ak (pv 4) av)) aA (dc)) (f8 (pb (kR (bo (EO T) hr.m T.DyM (ak (bE (bF (K:=K) rfl) (pv 4) aA) av)))))))) (aY (bN mT)) fI) (aY (fF (PW.pt (fQ (pb (kR (bo (qtq T) hr.m T.DyN (ak (bE (bF (K:=K) rfl) (pv 4) aA) (ak (pv 2) av))))) (f8 (dz (m8 (K:=K) rfl hr.units) (bE (bF (K:=K) rfl) (pv 4) aA) (bo (EM T) hr.m T.DyL (ak (pv 1) (ak (bE (bF (K:=K) rfl) (pv 4) aA) (ak (pv 3) av)))) (dc))))) (aY (bN mT)) fI)))) (aY (bN mT)))),by unfold Ee;refine(aW (O1:=[]) (fE (qt (o8 (qp (GB T) iY))) (b9 rfl ?_ rfl) (fG rfl)) (aW (O1:=[]) (iE (O':=[]) ?_ rfl (df (i:=4)) (aW (O1:=[]) (fE (tF (qt (o8 (qp (qic T) iY))) (tF (ni (mz wB (i0 mY iY) me_int.mb)) (qt (o8 (fK Dt (aD (eK i7 (aK (i:=4)) me_int) bh)))))) (b9 rfl ?_ rfl) (fG rfl)) (fE ?_ (b9 rfl ?_ rfl) (fG rfl)))) (b9 rfl ?_ rfl)))<;>walk_at "m"⟩
abbrev CK:=(cH 3 (i4 fyB (aj (aU fyA (aj (aa 0) (aj (ae (.int 1)) ag))) (aj (ae (.int 1)) ag))))
abbrev sJ:=(qT (aa 6) (ae none) (qx (aa 7)))
abbrev CT:=(aw 2 (gn fyD 1 (aj (ae (.int 4)) (aj (a9 (aT (aj (ae (.str "open")) (aj (ae (.str "ended")) (aj (ae (.str "ring")) ag))))) ag))))
abbrev sO:=(aj (aa 2) (aj (aa 4) (aj (aa 8) (aj (aa 7) ag))))
abbrev sP:=(aj (aa 9) (aj (aa 2) (aj (aa 4) (aj (aa 5) ag))))
abbrev sR:=(bq (af fN (af bA (aa 2) (ae (.int 3))) (ae (.str "ring"))))
abbrev wb:=(aj (aU fyL (aj (aa 1) (aj (aa 0) (aj (aa 2) ag)))) (aj (aa 0) ag))
abbrev wc:=(br (a9 (aT (aj (gn fyC 3 (aj (ae (.int 40)) ag)) (aj (aO cr (aa 6)) B5)))))
abbrev Ck:=(aw 4 (gn fyC 3 (aj (ae (.int 7)) ag)))
abbrev Ct:=(cH 1 (i4 fyB (aj (aU fyA sN) (aj (ae (.int 0)) ag))))
abbrev vC:=(aj (aa 4) (aj (ae (.int 5)) ag))
abbrev vH:=(aj (af bA (aa 2) (ae (.int 0))) ag)
abbrev B4:=(br (a9 (i4 fyO (aj (aa 4) ag))))
abbrev CI:=(aw 6 (a9 (gq tQ (a9 (cy 1 [2,5] none B4 (ai 0) (ae true) (bW wb))))))
def De(P0:Addr):aH:=
 (aq Ct
 (aq CT
 (aq CK
 (aq Ck
 (aq (cJ sR
   (aw 4 (iJ (λi j=>if j>i then j else i) (aj (iJ (λi j=>if j<i then j else i) vC) vH)))
   aZ)
 (aq (aw 5 (a9 (i4 fyJ (aj (aa 0) (aj (aa 2) (aj (a9 (cy 1 [3] (some (3,1)) (gQ (aj (aa 4) ag)) (ai 0) (ae true) (gn fyC 1 (aj (ae (.int 2)) ag)))) ag))))))
 (aq CI
 (aq (bI wc (ai 7)
   (aq (aw 8 (a9 (gq dE (aa 5)))) (aq (aw 9 (jR 10 P0 dH dG (f_few P0) sO)) (cJ (fq (bq (af eH (aa 8) (aa 5))) (fq (e8 (bq (aU fyP sP))) (bq (af eH (aa 9) sJ))))
   (aB (ae (.bl false)))
   aZ))))
 (aB (ae (.bl true)))))))))))
def f_law(P0:Addr):List D->Option D:=mq false 1 11 10 (.tab P0 dH dG) (De P0)
def qum(T:Txt K mg a):FnOk P w K mg base bu 8 a.f_law a.fd_law ["_law_script"] (gw K a.tyz dH dG 1 (f_law a.tyz)):=by
 have G_few:=@qun P w K mg base a T;refine T.D_law.F.okT (z:="@t") (j:=10) (u:=.ref a.tyz) sc_law rfl (by unfold lK;decide+kernel) (λvs H Q E h=>h.1) (λcdv A outer s H vs Q E hr h=>?_);refine⟨_,(aR (bY 1 sc_law.nd (bo (Dz T) hr.m T.DyB (ak (bo (wG T) hr.m T.DyA (ak (pv 0) (ak aA av))) (ak aA av)))) (aR (bY 2 sc_law.nd (bo (qty T) hr.m T.DyD (ak (pv 1) (ak aA (ak (eV (ak gk (ak gk (ak gk av)))) av))))) (aR (bY 3 sc_law.nd (bo (Dz T) hr.m T.DyB (ak (bo (wG T) hr.m T.DyA (ak (pv 0) (ak aA av))) (ak aA av)))) (aR (bY 4 sc_law.nd (bo (kG T) hr.m T.DyC (ak (pv 3) (ak aA av)))) (aR (fF (dz (gh (K:=K) rfl hr.units) (bE (bF (K:=K) rfl) (pv 2) aA) gk (dc)) (aY (bY 4 sc_law.nd (dN (G9 rfl) (by rfl) T.z_max (by rfl) (ak (dN (Ha rfl) (by rfl) T.z_min (by rfl) (ak (pv 4) (ak aA av))) (ak (bE (bF (K:=K) rfl) (pv 2) aA) av))))) fI) (aR (bY 5 sc_law.nd (bo (qts T) hr.m T.DyJ (ak (pv 0) (ak (pv 2) (ak (hU sc_law ["_law_k","_law_second"] [3] (jY (by rfl) T.z_range (ak (pv 4) av)) (bo (kG T) hr.m T.DyC (ak (pv 1) (ak aA av)))) av))))) (aR (bY 6 sc_law.nd (dN (qiy (K:=K) rfl hr.units) (by rfl) T.z_sorted (by rfl) (ak (hU sc_law ["_law_word","_law_scheme_here","_law_heard_here"] [2,5] (fw (K:=K) rfl (bo (qtp T) hr.m T.DyO (ak (pv 4) av))) (gK (ak (bo (EM T) hr.m T.DyL (ak (pv 1) (ak (pv 0) (ak (pv 2) av)))) (ak (pv 0) av)))) av))) (aR (hZ xu rfl (fw (K:=K) rfl (eV (ak (bo (kG T) hr.m T.DyC (ak (pv 3) (ak aA av))) (ak (dN (im (K:=K) rfl) (by rfl) T.z_len (by rfl) (ak (pv 6) av)) (ak aA (ak aA av)))))) (fS 7 sc_law.nd) (aR (bY 8 sc_law.nd (lD (Hy (K:=K) rfl) (by rfl) T.z_list (by rfl) (ak (pv 5) av))) (aR (bY 9 sc_law.nd (Ib G_few hr.m (by rfl) T.mg_few T.F_few.kp T.B_few .nil nA (ak (pv 2) (ak (pv 4) (ak (pv 8) (ak (pv 7) av)))))) (aY (fF (PW.pt (fQ (dz (m8 (K:=K) rfl hr.units) (pv 8) (pv 5) (dc)) (fQ (pb (kR (bo (qto T) hr.m T.DyP (ak (pv 9) (ak (pv 2) (ak (pv 4) (ak (pv 5) av))))))) (f8 (dz (m8 (K:=K) rfl hr.units) (pv 9) (zF (yW (K:=K) rfl) (pv 6) yR (yS (pv 7))) (dc)))))) (aY (bN mT)) fI))))) (aY (bN mT)))))))))),?_⟩;exact Hn (O':=[]) (Nms:=CQ) (by decide) (by unfold De;refine(aW (O1:=[1]) (jS (kY Dr (aD (fK wv (aD (aK (i:=0)) (aD me_int bh))) (aD me_int bh))) rfl) (aW (O1:=[]) (cD (jW (i:=1) qy9 (by decide) (aD me_int (aD (dF (iZ (aD tZ (aD tZ (aD tZ bh))))) bh)))) (aW (O1:=[3]) (jS (kY Dr (aD (fK wv (aD (aK (i:=0)) (aD me_int bh))) (aD me_int bh))) rfl) (aW (O1:=[3]) (cD (jW (i:=3) kK (by decide) (aD me_int bh))) (aW (O1:=[3]) (fE ?_ (cD (tE (aD (tE (aD (aK (i:=4)) (aD me_int bh))) (aD (eK i7 (aK (i:=2)) me_int) bh)))) (fG rfl)) (aW (O1:=[3]) (cD (dF (kY qy7 (aD (aK (i:=0)) (aD (aK (i:=2)) (aD (dF (iG (bw:=(some (3,1))) (qP (aD (aK (i:=4)) bh)) (df (i:=0)) jp (jW (i:=1) kK (by decide) (aD me_int bh)))) bh)))))) (aW (O1:=[3]) (cD (dF (qpi (dF (iG (bw:=none) (kP (dF (kY qy4 (aD (aK (i:=4)) bh)))) (df (i:=0)) jp (m7 (aD (fK qy5 (aD (aK (i:=1)) (aD (aK (i:=0)) (aD (aK (i:=2)) bh)))) (aD (aK (i:=0)) bh)))))))) (aW (O1:=[]) (iE (O':=[]) (kP (dF (iZ (aD (jW (i:=3) kK (by decide) (aD me_int bh)) (aD (i0 mY iY) (aD me_int (aD me_int bh))))))) rfl (df (i:=7)) (aW (O1:=[]) (cD (dF (GE Fs (aK (i:=5))))) (aW (O1:=[]) (cD (zT (by decide) qyh (aD (aK (i:=2)) (aD (aK (i:=4)) (aD (aK (i:=8)) (aD (aK (i:=7)) bh)))))) (fE ?_ (b9 rfl ?_ rfl) (fG rfl))))) (b9 rfl ?_ rfl)))))))))<;>walk_at "m") h
end
section
variable{r:Int}{U:Zf}{G:Z9}{e:Str}
def lO(ok:q26 r U G e):fy1 [au r U G e]=some (.int (2^r.toNat)):=by
 have r0:=ok.r0;have r4:=ok.r4;have r6:r<=1000000:=by lia
 have hr:fy0 [.int r]=some (.int (2^r.toNat)):=by unfold fy0 oG;clear ok;walk_at "e"
 unfold fy1 oF au;clear ok;walk_at "e"
theorem FS(n:D):∀(f zm:Nat) (l o:Int),0<=l->l.toNat<2^f->(o=0∨o=1)->f<zm->∃l':Int,il vE
 wa zm [n,D.int l,D.int o]=some (.nx [n,D.int l',D.int ((o+(cq f l.toNat:Nat)) % 2)])
 |_,0,_,_,_,_,_,h=>absurd h (Nat.not_lt_zero _)
 | f,zm+1,l,o,l0,lf,ho,hf=>by
  have ht:vE [n,D.int l,D.int o]=some (decide (0<l),[some n,some (.int l),some (.int o)]):=by walk_at "e"
  by_cases hl:0<l
  .cases f with
   |zero=>exact absurd lf (by lia)
   | succ f=>
    have hb:wa [n,D.int l,D.int o]=some (.nx [n,D.int (l / 2),D.int (Builtin.bitXor o (Builtin.bitAnd l 1))]):=by clear ht;walk_at "e"
    have ex:Builtin.bitXor o (Builtin.bitAnd l 1)=(o+l % 2) % 2:=by rw[qrg l0];exact qjj ho (by lia)
    have e2:=Gx l0;have lt2:(l / 2).toNat<2^f:=by rw[e2];rw[Nat.pow_succ,Nat.mul_comm]at lf;exact Nat.div_lt_of_lt_mul lf
    let⟨l',ih⟩:=FS n f zm (l / 2) (Builtin.bitXor o (Builtin.bitAnd l 1)) (by lia) lt2 (by rw[ex];lia) (by lia);refine⟨l',?_⟩;rw[decide_eq_true hl]at ht;unfold il;rw[ht];dsimp only;rw[hb];dsimp only;rw[ih,ex,e2];have u:cq (f+1) l.toNat=(l.toNat % 2+cq f (l.toNat / 2)) % 2:=rfl;rw[u];rw[ER l0]
  .rw[decide_eq_false hl]at ht;refine⟨l,?_⟩;unfold il;rw[ht];dsimp only;have e0:l=0:=by lia
   subst e0;rw[show((0:Int)).toNat=0 from rfl,uF];have ev:(o+((0:Nat):Int)) % 2=o:=by lia
   rw[ev]
def rX(n:Int)(h0:0<=n)(h:n<32):fy2 [.int n]=some (.int (cq 5 n.toNat:Nat)):=by
 let⟨l',hw⟩:=FS (.int n) 5 1000 n 0 h0 (by lia) (.inl rfl) (by decide);have e1:((0:Int)+(cq 5 n.toNat:Nat)) % 2=(cq 5 n.toNat:Nat):=by have:=FV 5 n.toNat;lia
 rw[e1]at hw;generalize cq 5 n.toNat=p at hw ⊢;unfold fy2 oE;generalize (1000:Nat)=zm at hw ⊢;clear h0 h e1;walk_at "e"
def rW(ok:q26 r U G e)(z6 bit:Int)(a0:0<=z6)(a1:z6<2^r.toNat)(hb:bit=0∨bit=1):
 fy3 [au r U G e,.int z6,.int bit]=some (.tup [.int ((2*z6+bit) % 2^r.toNat),.tup ((U.map (eU (2*z6+bit))).map D.int)]):=by
 have p16:=mI ok.r0 ok.r4;have hr:=lO ok;have hp:=rX;have m0:(0:Int)<2^r.toNat:=by lia
 have cm:=gR (n:=1) (js:=[3]) (fg:=ai 0) (fe:=aU fy2 pM) (M:=[au r U G e,D.int z6,D.int bit,D.int (2*z6+bit),none]) (λd=>match d with|.int t=>.int (eU (2*z6+bit) t)|d=>d) (U.map D.int) (λx hx=>by
  obtain⟨t,ht,rfl⟩:=List.mem_map.mp hx;refine⟨[D.int t,D.int (2*z6+bit)],rfl,?_⟩;have tb:=ok.tb t ht;have w0:0<=2*z6+bit:=by lia
  have ea:=Fi w0 tb.1;have lt:(2*z6+bit).toNat &&& t.toNat<32:=Nat.lt_of_le_of_lt Nat.and_le_left (by lia);have hq:=rX (((2*z6+bit).toNat &&& t.toNat:Nat):Int) (by lia) (by lia);rw[xh,<-ea]at hq;show _=some (D.int (eU (2*z6+bit) t));unfold eU;generalize 2*z6+bit=W at hq ⊢;generalize cq 5 (W.toNat &&& t.toNat)=z at hq ⊢;clear hx ht tb w0 ea lt hr hp hb a0 a1 m0 p16;walk_at "e")
 have e2:(U.map D.int).map (λd=>match d with|.int t=>D.int (eU (2*z6+bit) t)|d=>d)=(U.map (eU (2*z6+bit))).map D.int:=by rw[jr,jr];rfl
 rw[e2]at cm;have ll:(U.map D.int).length<=sizeLine:=by rw[ja];exact dw (by have:=ok.t4;lia)
 unfold fy3 oB;unfold au at cm hr ⊢;generalize (U.map (eU (2*z6+bit))).map D.int=S at cm ⊢;generalize U.map D.int=TS at cm hr ll ⊢;generalize (2:Int)^r.toNat=m at hr m0 a1 p16 ⊢;have two:2<=sizeLine:=by decide
 clear ok hp hb a0 a1 p16 e2;walk_at "e"
def xO(ok:q26 r U G e):fy5 [au r U G e]=some (.bl (bD e)):=by
 have h1:=nU;have h2:=nV;have h3:=nT;unfold fy5 oz au bD;rcases ok.en with rfl|rfl|rfl
 .rw[decide_eq_false (by decide)];clear ok;walk_at "e"
 .rw[decide_eq_false (by decide)];clear ok;walk_at "e"
 .rw[decide_eq_true rfl];clear ok;walk_at "e"
def qox(ok:q26 r U G e)(n:Int)(h:e="ring"->r<=n):fy6 [au r U G e,.int n]=some .non:=by
 have hr:=xO ok;unfold fy6 oy;cases hi:bD e with
 | false=>
  rw[hi]at hr;clear ok hi;generalize au r U G e=S at hr ⊢;walk_at "e"
 | true=>
  rw[hi]at hr;have hn:¬n<r:=by have:=h (of_decide_eq_true hi);lia
  unfold au at hr ⊢;clear ok hi h;walk_at "e"
def qkj(ok:q26 r U G e):fy7 [au r U G e]=some (.int (aE r e:Nat)):=by
 have h1:=rE;have h2:=rF;have h3:=rD;have r0:=ok.r0;have er:((r.toNat:Nat):Int)=r:=by lia
 unfold fy7 ox au aE;rcases ok.en with rfl|rfl|rfl
 .rw[if_neg (by decide)];clear ok;walk_at "e"
 .rw[if_pos rfl,er];clear ok er;walk_at "e"
 .rw[if_neg (by decide)];clear ok;walk_at "e"
def lC(ok:q26 r U G e):aE r e<=4:=by have:=ok.r4;unfold aE;split<;>lia
def EY(ok:q26 r U G e)(k:Nat):cc (G.map dj) ((k:Int) % ((G.map dj).length:Nat))=some (.tup ((aJ G k).map D.int)):=by
 have m1:=ok.m1;have hk:k % G.length<G.length:=mod_lt _ (by lia);have e1:((k:Int) % ((G.map dj).length:Nat))=((k % G.length:Nat):Int):=by rw[ja];exact(Int.natCast_emod k G.length).symm
 rw[e1,mv (by lia) (by rw[ja];lia),xh,jo];unfold aJ;rw[jh hk];rfl
def GL(ok:q26 r U G e)(k:Nat)(signs:Zf)(hl:signs.length<=1000):
 fy4 [au r U G e,.int k,.tup (signs.map D.int)]=some (.tup ((gG (aJ G k) signs).map D.int)):=by
 have hr:=EY ok k;have zd:0<(G.map dj).length:=by have:=ok.m1;rw[ja];lia
 have hz:dg (signs.map D.int) ((aJ G k).map D.int)=(signs.zip (aJ G k)).map λq=>D.tup [.int q.1,.int q.2]:=qey;have cm:∀M:az,cz 2 [] none (dU 2 (cg (ai 0) (cg (ai 1) eF))) (bq (af fN (aa 1) (ae (.int 1)))) (aa 0) ((signs.zip (aJ G k)).map λq=>D.tup [.int q.1,.int q.2]) M=some ((gG (aJ G k) signs).map D.int,M):=λM=>by
  have:=qO (n:=2) (js:=[]) (fg:=dU 2 (cg (ai 0) (cg (ai 1) eF))) (ft:=bq (af fN (aa 1) (ae (.int 1)))) (fe:=aa 0) (M:=M) (λd=>match d with|.tup [_,.int b]=>b==1|_=>false) (λd=>match d with|.tup [x,_]=>x|d=>d) ((signs.zip (aJ G k)).map λq=>D.tup [.int q.1,.int q.2]) (λx hx=>by obtain⟨q,_,rfl⟩:=List.mem_map.mp hx;refine⟨[D.int q.1,D.int q.2],rfl,?_,λ_=>rfl⟩;clear hr hz hx;walk_at "e")
  rw[this,filter_map,jr];unfold gG;rw[jr];rfl
 have ll:((signs.zip (aJ G k)).map λq=>D.tup [.int q.1,.int q.2]).length<=sizeLine:=by rw[ja,vg];exact dw (by have:=vp signs.length (aJ G k).length;lia)
 unfold fy4 oA au;generalize (signs.zip (aJ G k)).map (λq=>D.tup [.int q.1,.int q.2])=Z at hz cm ll;generalize (gG (aJ G k) signs).map D.int=Y at cm ⊢;generalize (aJ G k).map D.int=R at hr hz;generalize G.map dj=RS at hr zd ⊢;generalize signs.map D.int=S at hz ⊢;clear ok hl;walk_at "e"
def qkg(t:Told):fyj [bQ t]=some (bj t):=by
 have h1:=re;have h2:=rd;have h3:=q9;have h4:=rg;have h5:=rc;unfold fyj wL;cases t with
 |clear b=>unfold bQ bj;walk_at "e"
 |gap=>unfold bQ bj;walk_at "e"
 |soft z o=>unfold bQ bj;walk_at "e"
def Bk(c b:Int):fyd [.obj "Clear" [("bit",.int c)],.int b]=some (.int (if b=c then 0 else 1)):=by
 have h1:iT "Clear" "bit" (.obj "Clear" [("bit",.int c)])=some (.int c):=yI (by simp[lookup_cons]);unfold fyd wI;generalize D.obj "Clear" [("bit",.int c)]=X at h1 ⊢;by_cases h:b=c
 .rw[if_pos h];have h':(b==c)=true:=beq_iff_eq.mpr h;clear h;walk_at "e"
 .rw[if_neg h];have h':(b==c)=false:=beq_eq_false_iff_ne.mpr h;walk_at "e"
def Bj{X:D}(b:Int):fyf [X,.int b]=some (.int 0):=by unfold fyf wJ;walk_at "e"
def Bh(z o b:Int):fyi [.obj "Soft" [("zero",.int z),("one",.int o)],.int b]=some (.int (if b=1 then o else z)):=by
 have nz:(("one":Str)=="zero")=false:=by decide+kernel
 have h1:iT "Soft" "one" (.obj "Soft" [("zero",.int z),("one",.int o)])=some (.int o):=yI (by rw[lookup_cons,nz];simp[lookup_cons]);have h2:iT "Soft" "zero" (.obj "Soft" [("zero",.int z),("one",.int o)])=some (.int z):=yI (by simp[lookup_cons]);unfold fyi wK;generalize D.obj "Soft" [("zero",.int z),("one",.int o)]=X at h1 h2 ⊢;by_cases h:b=1
 .rw[if_pos h];subst h;walk_at "e"
 .rw[if_neg h];have h':(b==1)=false:=beq_eq_false_iff_ne.mpr h;walk_at "e"
def qow(t:Told)(b:Int):sV [bj t,D.int b]=some (.int (gH t b),[some (bj t),some (.int b)]):=by
 have n1:¬(("Gap":Str)="Clear"):=by decide+kernel
 have n2:¬(("Soft":Str)="Clear"):=by decide+kernel
 have n3:¬(("Soft":Str)="Gap"):=by decide+kernel
 have m1:(("cost":Str)=="bit")=false:=by decide+kernel
 have m2:(("cost":Str)=="zero")=false:=by decide+kernel
 have m3:(("cost":Str)=="one")=false:=by decide+kernel
 cases t with
 | clear c=>
  have h1:jQ "Clear" "cost" fyd (bj (.clear c)) [.int b]=some (.int (gH (.clear c) b)):=(zB (by rw[lookup_cons,m1];rfl)).trans (Bk c b);generalize bj (.clear c)=X at h1 ⊢;generalize gH (.clear c) b=z at h1 ⊢;clear n1 n2 n3 m1 m2 m3;walk_at "e"
 | gap=>
  have h1:jQ "Clear" "cost" fyd (bj .gap) [.int b]=none:=zV n1;have h2:jQ "Gap" "cost" fyf (bj .gap) [.int b]=some (.int (gH .gap b)):=(zB rfl).trans (Bj b);generalize bj .gap=X at h1 h2 ⊢;generalize gH .gap b=z at h2 ⊢;clear n1 n2 n3 m1 m2 m3;walk_at "e"
 | soft z o=>
  have h1:jQ "Clear" "cost" fyd (bj (.soft z o)) [.int b]=none:=zV n2;have h2:jQ "Gap" "cost" fyf (bj (.soft z o)) [.int b]=none:=zV n3;have h3:jQ "Soft" "cost" fyi (bj (.soft z o)) [.int b]=some (.int (gH (.soft z o) b)):=(zB (by rw[lookup_cons,m2,lookup_cons,m3];rfl)).trans (Bh z o b);generalize bj (.soft z o)=X at h1 h2 h3 ⊢;generalize gH (.soft z o) b=y at h3 ⊢;clear n1 n2 n3 m1 m2 m3;walk_at "e"
def FQ(ok:q26 r U G e)(n:Nat)(h:e="ring"->r.toNat<=n):fy9 [au r U G e,.int n]=some (.int ((n+aE r e:Nat):Int)):=by
 have r0:=ok.r0;have hc:=qox ok n (λq=>by have:=h q;lia);have hz:=qkj ok;have e1:((n+aE r e:Nat):Int)=(n:Int)+(aE r e:Nat):=by lia
 rw[e1];unfold fy9 oq;generalize au r U G e=S at hc hz ⊢;generalize (aE r e:Nat)=z at hz ⊢;clear ok h e1 r0;walk_at "e"
def qt8{S:D}{n' N nz:Int}{S2 F:List D}{v4:Option D}(z0:0<=sizeLine)(hst:fy3 [S,.int 0,.int 0]=some (.tup [.int nz,.tup S2]))(hs:fy9 [S,.int n']=some (.int N))(bg:e7 N=true)
 (l1:eL (ai 4) Cg (de 0 N.toNat) [S,D.int n',D.tup S2,D.lst [],none]=some (.nx [S,D.int n',D.tup S2,D.lst F,v4])):fya [S,.int n']=some (.lst F):=by
 unfold fya wH;walk_at "e"
def GK(ok:q26 r U G e)(n:Nat)(hn:n<=60)(h:e="ring"->r.toNat<=n):fya [au r U G e,.int n]=some (.lst ((bO U G (n+aE r e)).map D.int)):=by
 have z4:=lC ok;have hs:=FQ ok n h;have p16:=mI ok.r0 ok.r4;have hst:=rW ok 0 0 (by lia) (by lia) (.inl rfl);have ht:=GL ok;have sl:∀k,(gG (aJ G k) (U.map (eU (2*0+0)))).length=(bS U G k).length:=λk=>by rw[zZ,ja];rfl
 have s4:∀k,(bS U G k).length<=4:=λk=>by unfold bS;refine jz (length_filter_le _ _) ?_;rw[vg];have:=ok.t4;have:=vp U.length (aJ G k).length;lia
 have st:=λk:Nat=>ht k (U.map (eU (2*0+0))) (by rw[ja];have:=ok.t4;lia);generalize hS2:(U.map (eU (2*0+0))).map D.int=S2 at hst st;let⟨M',l1,v4,hρ⟩:=iF (fg:=ai 4) (fb:=iN 3 (d5 (aT (aj (aa 4) ag)) sU))
  (λk M=>∃v4,M=[some (au r U G e),some (.int (n:Int)),some (.tup S2),some (.lst ((bO U G k).map D.int)),v4]) (de 0 (n+aE r e)) 0
  [some (au r U G e),some (.int (n:Int)),some (.tup S2),some (.lst []),none] ⟨none,rfl⟩ (λi x M hx ⟨v4,hρ⟩=>by
   subst hρ;obtain⟨hi,rfl⟩:=mN hx;rw[x8,zero_add];have eP:bO U G (i+1)=bO U G i++replicate (bS U G i).length (i:Int):=jC _ _;rw[eP,xk,map_replicate];have hsa:=st i;have hln:(((gG (aJ G i) (U.map (eU (2*0+0)))).map D.int).length:Int)=((bS U G i).length:Nat):=by rw[ja,sl]
   have hrp:gZ [D.int (i:Int)] (.int ((bS U G i).length:Nat))=some (replicate (bS U G i).length (.int (i:Int))):=by rw[yV (by lia) (by have:=s4 i;lia),xh]
   have ln:((bO U G i).map D.int).length+(replicate (bS U G i).length (D.int (i:Int))).length<=sizeLine:=by have q1:(bO U G i).length<=i*4:=uA _ 4 (λk=>by rw[x6];exact s4 k) i;have q2:=s4 i;rw[ja,x6];exact dw (by lia)
   generalize (gG (aJ G i) (U.map (eU (2*0+0)))).map D.int=PK at hsa hln;rw[<-hln]at hrp;generalize replicate (bS U G i).length (D.int (i:Int))=RP at hrp ln ⊢;generalize (bO U G i).map D.int=F at ln ⊢;refine⟨_,[au r U G e,D.int (n:Int),D.tup S2,D.lst (F++RP),D.int (i:Int)],rfl,.inl ?_,some (.int (i:Int)),rfl⟩;have one:1<=sizeLine:=by decide
   generalize au r U G e=S at hsa ⊢;clear hln eP hst st sl s4 hs ok ht hi hx p16 hS2 h;have hrep:(d5 (aT (aj (aa 4) ag)) sU) [S,D.int (n:Int),D.tup S2,D.lst F,D.int (i:Int)]=some (RP,[some S,some (.int (n:Int)),some (.tup S2),some (.lst F),some (.int (i:Int))]):=by
    refine xR (xs:=[.int (i:Int)]) (y:=.int (PK.length:Nat)) (M1:=[S,D.int (n:Int),D.tup S2,D.lst F,D.int (i:Int)]) ?_ ?_ hrp
    .clear hrp hsa ln;generalize (n:Int)=n';generalize (i:Int)=i';walk_at "e"
    .clear hrp ln;generalize (n:Int)=n';generalize (i:Int)=i' at hsa ⊢;walk_at "e"
   generalize (d5 (aT (aj (aa 4) ag)) sU)=FR at hrep ⊢;clear hrp hsa;generalize (n:Int)=n' at hrep ⊢;generalize (i:Int)=i' at hrep ⊢;walk_at "e")
 subst hρ;rw[ip,x8]at l1;have bg:e7 ((n+aE r e:Nat):Int)=true:=by unfold e7;simp;lia
 have z0:0<=sizeLine:=by decide
 have tn:((n+aE r e:Nat):Int).toNat=n+aE r e:=xh _;rw[<-tn]at l1;exact qt8 z0 hst hs bg l1
def qki(ok:q26 r U G e)(n:Nat)(hn:n<=60)(h:e="ring"->r.toNat<=n)(hs:List D)(hl:hs.length=(bO U G (n+aE r e)).length):fyk [au r U G e,.int n,.lst hs]=some .non:=by
 have hp:=GK ok n hn h;have hl2:hs.length=((bO U G (n+aE r e)).map D.int).length:=by rw[ja,hl]
 unfold fyk wM;generalize (bO U G (n+aE r e)).map D.int=F at hp hl2;generalize au r U G e=S at hp ⊢;clear ok h hl hn;walk_at "e"
def EX{M M1:az}{fs:aV}{n:Int}(h:fs M=some ([.int n],M1))(bg:e7 n=true):gQ fs M=some (de 0 n.toNat,M1):=by rw[Fu,h];show((if e7 n=true then some (de 0 n.toNat)else none).map λx=>(x,M1))=_;rw[if_pos bg];rfl
def bU{f g:aH}{M M1:az}(h:f M=some (.nx M1)):aq f g M=g M1:=by rw[yG,h];rfl
def t9{f g:aH}{M M1:az}{d:D}(h:f M=some (.rt d M1)):aq f g M=some (.rt d M1):=by rw[yG,h];rfl
def jT{b:aH}{n k:Nat}{ds:List D}{d:D}(hl:ds.length=n)(h:∃M,b (ds.map some++replicate (k-n) none)=some (.rt d M)):aG false n k b ds=some d:=by obtain⟨M,h⟩:=h;unfold aG;rw[if_pos hl,h]
def qo9(t:Told)(b:Int)(hb:b=0∨b=1):fyK [bQ t,.int b]=some (.int (gH t b)):=by
 have h1:=re;have h2:=rd;have h3:=q9;have h4:=rg;have h5:=rc;cases t with
 | clear c=>
  show fyK [.tup [.str "clear",.int c],.int b]=some (.int (if b=c then 0 else 1));unfold fyK qg;by_cases h:b=c
  .rw[if_pos h];have h':(c==b)=true:=beq_iff_eq.mpr h.symm;clear h hb;walk_at "e"
  .rw[if_neg h];have h':(c==b)=false:=beq_eq_false_iff_ne.mpr λq=>h q.symm;have h'':¬c=b:=λq=>h q.symm;clear h hb;walk_at "e"
 | gap=>
  show fyK [.tup [.str "gap"],.int b]=some (.int 0);unfold fyK qg;clear hb;walk_at "e"
 | soft z o=>
  show fyK [.tup [.str "soft",.int z,.int o],.int b]=some (.int (if b=1 then o else z));unfold fyK qg;rcases hb with rfl|rfl
  .rw[if_neg (by decide)];walk_at "e"
  .rw[if_pos rfl];walk_at "e"
theorem HB(M:az):∀(zs:List (Told×Int)),(∀q∈zs,q.2=0∨q.2=1)->cz 2 [] none (dU 2 (cg (ai 0) (cg (ai 1) eF))) (ae true) (aU fyK (aj (aa 0) (aj (aa 1) ag))) (zs.map λq=>D.tup [bQ q.1,.int q.2]) M=some ((zs.map λq=>gH q.1 q.2).map D.int,M)
 |[],_=>rfl
 | q::zs,h=>by
  have ih:=HB M zs λp hp=>h p (ji _ hp);have hg:(dU 2 (cg (ai 0) (cg (ai 1) eF))) (D.tup [bQ q.1,.int q.2]) (hW 2 [] M)=some [some (bQ q.1),some (.int q.2)]:=rfl;have he:aU fyK (aj (aa 0) (aj (aa 1) ag)) [bQ q.1,D.int q.2]=some (.int (gH q.1 q.2),[some (bQ q.1),some (.int q.2)]):=by have:=qo9 q.1 q.2 (h q jj);generalize bQ q.1=X at this ⊢;generalize gH q.1 q.2=z at this ⊢;generalize q.2=b at this ⊢;clear ih hg h;walk_at "e"
  rw[x5];unfold cz;rw[hg];dsimp only[ae];rw[he];dsimp only[gN];rw[ih];rfl
def qkf{ts:List Told}{bits:Zf}(hl:ts.length<=1000):fyl [.lst (ts.map bj),.tup (bits.map D.int)]=some (.int (gF ts bits)):=by
 have hz:dg (ts.map bj) (bits.map D.int)=(ts.zip bits).map λq=>D.tup [bj q.1,.int q.2]:=by rw[zM,uB,jr];rfl
 have cm:∀M:az,cz 2 [] none (dU 2 (cg (ai 0) (cg (ai 1) eF))) (ae true) sV ((ts.zip bits).map λq=>D.tup [bj q.1,.int q.2]) M=some (((ts.zip bits).map λq=>gH q.1 q.2).map D.int,M):=λM=>by
  have:∀zs:List (Told×Int),cz 2 [] none (dU 2 (cg (ai 0) (cg (ai 1) eF))) (ae true) sV (zs.map λq=>D.tup [bj q.1,.int q.2]) M=some ((zs.map λq=>gH q.1 q.2).map D.int,M):=λzs=>by
   induction zs with
   |nil=>rfl
   | cons q zs ih=>
    have hg:(dU 2 (cg (ai 0) (cg (ai 1) eF))) (D.tup [bj q.1,.int q.2]) (hW 2 [] M)=some [some (bj q.1),some (.int q.2)]:=rfl;rw[x5];unfold cz;rw[hg];dsimp only[ae];rw[qow q.1 q.2];dsimp only[gN];rw[ih];rfl
  exact this _
 have ll:((ts.zip bits).map λq=>D.tup [bj q.1,.int q.2]).length<=sizeLine:=by rw[ja,vg];exact dw (by have:=vp ts.length bits.length;lia)
 have hi:=jX ((ts.zip bits).map λq=>gH q.1 q.2);unfold fyl wN gF;generalize (ts.zip bits).map (λq=>D.tup [bj q.1,.int q.2])=Z at hz cm ll;generalize (ts.zip bits).map (λq=>gH q.1 q.2)=Y at cm hi ⊢;generalize ts.map bj=TS at hz ⊢;generalize bits.map D.int=B at hz ⊢;generalize Y.map D.int=YD at cm hi;clear hl;walk_at "e"
def qoi(S T:D)(n' N:Int)(hs:fy9 [S,.int n']=some (.int N))(bg:e7 N=true):oX [S,D.int n',T,none,none,none]=some (de 0 N.toNat,[some S,some (.int n'),some T,none,none,none]):=by unfold oX;walk_at "e"
def qsp(S:D)(n':Int)(T P Z:List D)(hp:fya [S,.int n']=some (.lst P))(hz:dg P T=Z):Ns (gy (aj vL (aj (aa 2) ag))) [S,D.int n',D.lst T,none,none,none] Z:=by walk_at "e"
def qsq{S T u t o:D}{n':Int}(h:fyj [t]=some o):Ns (aj (aU fyj (aj (aa 5) ag)) ag) [S,D.int n',T,none,u,t] [o]:=by walk_at "e"
def qxx(ok:q26 r U G e)(n:Nat)(hn:n<=60)(h:e="ring"->r.toNat<=n)(ts:List Told)(hl:ts.length=(bO U G (n+aE r e)).length):
 fym [au r U G e,.int n,.lst (ts.map bQ)]=some (.lst ((List.range (n+aE r e)).map λk=>D.lst ((aQ U G ts k).map bj))):=by
 have z4:=lC ok;have hs:=FQ ok n h;have hp:=GK ok n hn h;have s4:∀k,(bS U G k).length<=4:=λk=>by unfold bS;refine jz (length_filter_le _ _) ?_;rw[vg];have:=ok.t4;have:=vp U.length (aJ G k).length;lia
 have q1:(bO U G (n+aE r e)).length<=(n+aE r e)*4:=uA _ 4 (λk=>by rw[x6];exact s4 k) _;have bg:e7 ((n+aE r e:Nat):Int)=true:=by unfold e7;simp;lia
 have hi:=qoi (au r U G e) (.lst (ts.map bQ)) n _ hs bg;rw[xh]at hi;have hz:dg ((bO U G (n+aE r e)).map D.int) (ts.map bQ)=((bO U G (n+aE r e)).zip ts).map λq=>D.tup [.int q.1,bQ q.2]:=by rw[zM,uB,jr];rfl
 have hzz:=qsp (au r U G e) n (ts.map bQ) _ _ hp hz;let⟨u',v',hr⟩:=GS (i:=3) (a:=4) (b:=5) (fe:=aa 4) (fs:=aj (aU fyj (aj (aa 5) ag)) ag) bQ bj (λu v=>[some (au r U G e),some (.int n),some (.lst (ts.map bQ)),none,u,v]) (λ_ _=>rfl) (λ_ _ _ _=>rfl) (λ_ _=>rfl) (λk t=>qsq (qkg t))
  ((bO U G (n+aE r e)).zip ts) (replicate (n+aE r e) []) none none (λq hq=>by
    have hm:=(of_mem_zip hq).1;unfold bO at hm;let⟨k,hk,hm⟩:=List.mem_flatMap.mp hm;rw[eq_of_mem_replicate hm,x6];exact⟨by lia,by rw[xh];exact List.mem_range.mp hk⟩) (λg hg=>by
    rw[eq_of_mem_replicate hg,vg];have:=vp (bO U G (n+aE r e)).length ts.length;exact jw (by simp;lia:_<1000) (by decide))
 rw[qgx (n+aE r e) (by lia),map_replicate,jr]at hr;show oV (qm _)=_;have hD:qm [au r U G e,.int n,.lst (ts.map bQ)]=some ((List.range (n+aE r e)).map ((λg=>g.map bj)∘aQ U G ts)):=by
  unfold qm mU;refine(if_pos rfl).trans ?_;show(match oX [au r U G e,D.int n,D.lst (ts.map bQ),none,none,none]with
   | some (xs,M1)=>if 3<M1.length/\xs.length<=sizeLine then(match oU (M1.set 3 none) (replicate xs.length [])with
    |some p=>some p.2
    |none=>none)else none
   |none=>none)=_
  rw[hi];simp only;rw[if_pos ⟨by simp,by rw[ip];exact dw (by lia)⟩,ip];have hb:oU [au r U G e,D.int n,D.lst (ts.map bQ),none,none,none] (replicate (n+aE r e) [])=some ([some (au r U G e),some (.int n),some (.lst (ts.map bQ)),none,u',v'],(List.range (n+aE r e)).map ((λg=>g.map bj)∘aQ U G ts)):=by unfold oU tX;rw[hzz];exact(if_pos rfl).trans hr
  have es:([some (au r U G e),some (.int n),some (.lst (ts.map bQ)),none,none,none]:az).set 3 none=[some (au r U G e),some (.int n),some (.lst (ts.map bQ)),none,none,none]:=rfl;rw[es,hb]
 rw[hD];show some (D.lst _)=some (D.lst _);rw[jr];rfl
def qux{S:D}{k' z6 bit nx c:Int}{G S2 P:List D}(two:2<=sizeLine)(h1:fy3 [S,.int z6,.int bit]=some (.tup [.int nx,.tup S2]))(h2:fy4 [S,.int k',.tup S2]=some (.tup P))(h3:fyl [.lst G,.tup P]=some (.int c)):fyn [S,.int k',.lst G,.int z6,.int bit]=some (.tup [.int nx,.int c]):=by unfold fyn wO;walk_at "e"
def qxw(ok:q26 r U G e)(k:Nat)(ts:List Told)(hl:(aQ U G ts k).length<=1000)(z6 bit:Int)(a0:0<=z6)(a1:z6<2^r.toNat)(hb:bit=0∨bit=1):fyn [au r U G e,.int k,.lst ((aQ U G ts k).map bj),.int z6,.int bit]=some (nB (iI r U G ts k z6 bit)):=
 qux (by decide) (rW ok z6 bit a0 a1 hb) (GL ok k _ (by rw[ja];have:=ok.t4;lia)) (qkf hl)
def qv7{S:D}{k' z6:Int}{G BS YS:List D}(ll:BS.length<=sizeLine)(cm:cz 1 [0,1,2,3] none (ai 0) (ae true) (aU fyn sT) BS [S,D.int k',D.lst G,D.int z6,D.tup BS]=some (YS,[some S,some (.int k'),some (.lst G),some (.int z6),some (.tup BS)])):fyo [S,.int k',.lst G,.int z6,.tup BS]=some (.lst YS):=by unfold fyo wQ;walk_at "e"
def qv8{S:D}{k' z6 b:Int}{G:List D}{y:D}(h:fyn [S,.int k',.lst G,.int z6,.int b]=some y):((aU fyn sT) [D.int b,S,D.int k',D.lst G,D.int z6]).map (·.1)=some y:=by walk_at "e"
def Bi(ok:q26 r U G e)(k:Nat)(ts:List Told)(hl:(aQ U G ts k).length<=1000)(z6:Int)(a0:0<=z6)(a1:z6<2^r.toNat)(n:Nat):fyo [au r U G e,.int k,.lst ((aQ U G ts k).map bj),.int z6,.tup ((fj n k).map D.int)]=some (gX ((fj n k).map λb=>iI r U G ts k z6 b)):=by
 have l2:(fj n k).length<=2:=by unfold fj;split<;>simp
 have hb:∀b∈fj n k,b=0∨b=1:=by unfold fj;split<;>simp
 have cm:=gR (n:=1) (js:=[0,1,2,3]) (fg:=ai 0) (fe:=aU fyn sT)
  (M:=[au r U G e,D.int k,D.lst ((aQ U G ts k).map bj),D.int z6,D.tup ((fj n k).map D.int)]) (λd=>match d with|.int b=>nB (iI r U G ts k z6 b)|d=>d) ((fj n k).map D.int) (λx hx=>by obtain⟨b,hm,rfl⟩:=List.mem_map.mp hx;exact⟨_,rfl,qv8 (qxw ok k ts hl z6 b a0 a1 (hb b hm))⟩)
 rw[jr]at cm;have:=qv7 (dw (by rw[ja];lia)) cm;rw[this];unfold gX;rw[jr];rfl
def qkn{S T:D}{n' k':Int}{F:List D}{g:D}{v6:Option D}(two:2<=sizeLine)(n k:Nat)(hn:n'=(n:Nat))(hk:k'=(k:Nat)):CJ [S,D.int n',T,D.lst F,D.int k',g,v6]=some (.nx [S,D.int n',T,D.lst F,D.int k',g,D.tup ((fj n k).map D.int)]):=by
 have one:1<=sizeLine:=by decide
 unfold fj;by_cases h:k<n
 .have h':k'<n':=by lia
  rw[if_pos h];clear hn hk h;walk_at "e"
 .have h':¬k'<n':=by lia
  rw[if_neg h];clear hn hk h;walk_at "e"
def qpc{S T:D}{n' k' ρ:Int}{F YS:List D}{g bs:D}{FE:aF}(hr:fy1 [S]=some (.int ρ))(bg:e7 ρ=true)(l1:(de 0 ρ.toNat).length<=sizeLine)(l2:F.length<sizeLine)
 (cm:cz 1 [0,4,5,6] none (ai 0) (ae true) FE (de 0 ρ.toNat) [S,D.int n',T,D.lst F,D.int k',g,bs]=some (YS,[some S,some (.int n'),some T,some (.lst F),some (.int k'),some g,some bs])):
 (dD io 3 (aj (a9 (cy 1 [0,4,5,6] none vX (ai 0) (ae true) FE)) ag)) [S,D.int n',T,D.lst F,D.int k',g,bs]=some (.nx [S,D.int n',T,D.lst (F++[.lst YS]),D.int k',g,bs]):=by
 walk_at "e"
abbrev CY:=Cz
def qpb{S:D}{k' z6:Int}{g bs y:D}(h:fyo [S,.int k',g,.int z6,bs]=some y):((aU fyo CY) [D.int z6,S,D.int k',g,bs]).map (·.1)=some y:=by walk_at "e"
def qpa{S:D}{n':Int}{T G F:List D}{v4 v5 v6:Option D}{FB:aH}(z0:0<=sizeLine)(hc:fyk [S,.int n',.lst T]=some .non)(hg:fym [S,.int n',.lst T]=some (.lst G))
 (l1:eL (dU 2 (cg (ai 4) (cg (ai 5) eF))) FB (gO G) [S,D.int n',D.lst T,D.lst [],none,none,none]=some (.nx [S,D.int n',D.lst T,D.lst F,v4,v5,v6])):
 (aG false 3 7 (aq (mV (aU fyk hV)) (aq (cH 3 (aT ag)) (aq (bI (o5 (aU fym hV)) (dU 2 (cg (ai 4) (cg (ai 5) eF))) FB) (aB (aa 3)))))) [S,.int n',.lst T]=some (.lst F):=by
 walk_at "e"
def qxv(ok:q26 r U G e)(n:Nat)(hn:n<=60)(h:e="ring"->r.toNat<=n)(ts:List Told)(hl:ts.length=(bO U G (n+aE r e)).length):
 fyp [au r U G e,.int n,.lst (ts.map bQ)]=some (gp (b7 r U G ts n 0 (n+aE r e))):=by
 have z4:=lC ok;have p16:=mI ok.r0 ok.r4;have hc:=qki ok n hn h (ts.map bQ) (by rw[ja];exact hl);have hg:=qxx ok n hn h ts hl;have hr:=lO ok;have pn:=ig (r:=r);have s4:∀k,(bS U G k).length<=4:=λk=>by unfold bS;refine jz (List.length_filter_le _ _) ?_;rw[vg];have:=ok.t4;have:=vp U.length (aJ G k).length;lia
 have c4:∀k,(aQ U G ts k).length<=1000:=λk=>by unfold aQ;rw[xq];have:=s4 k;lia
 have bg:e7 ((2:Int)^r.toNat)=true:=by unfold e7;simp;lia
 have tn:((2:Int)^r.toNat).toNat=2^r.toNat:=by lia
 have lr:(de 0 ((2:Int)^r.toNat).toNat).length<=sizeLine:=by rw[ip,tn];exact dw (by lia)
 obtain⟨M',l1,v4,v5,v6,hρ⟩:=iF (fg:=dU 2 (cg (ai 4) (cg (ai 5) eF))) (fb:=C4)
  (λk M=>∃v4 v5 v6,M=[some (au r U G e),some (.int (n:Int)),some (.lst (ts.map bQ)),some (.lst ((b7 r U G ts n 0 k).map gc)),v4,v5,v6]) (gO ((List.range (n+aE r e)).map λk=>D.lst ((aQ U G ts k).map bj))) 0
  [some (au r U G e),some (.int (n:Int)),some (.lst (ts.map bQ)),some (.lst []),none,none,none] ⟨none,none,none,rfl⟩ (λi x M hx ⟨v4,v5,v6,hρ⟩=>by
   subst hρ;rw[zP,jo]at hx;have hi:i<n+aE r e:=by
    rcases Nat.lt_or_ge i (n+aE r e)with z|z
    .exact z
    .rw[xj (by simp;lia)]at hx;cases hx
   rw[k9 hi]at hx;have hx:x=D.tup [.int (i:Int),.lst ((aQ U G ts i).map bj)]:=(jm hx).symm;subst hx;rw[x8];have cm:=gR (n:=1) (js:=[0,4,5,6]) (fg:=ai 0) (fe:=aU fyo CY)
    (M:=[au r U G e,D.int (n:Int),D.lst (ts.map bQ),D.lst ((b7 r U G ts n 0 i).map gc),D.int (i:Int),D.lst ((aQ U G ts i).map bj),D.tup ((fj n i).map D.int)])
    (λd=>match d with|.int z6=>gX ((fj n i).map λb=>iI r U G ts i z6 b)|d=>d) (de 0 ((2:Int)^r.toNat).toNat) (λx hx=>by obtain⟨k,hk⟩:=List.mem_iff_getElem?.mp hx;obtain⟨hk1,rfl⟩:=mN hk;rw[Int.zero_add];exact⟨_,rfl,qpb (Bi ok i ts (c4 i) (k:Int) (by lia) (by lia) n)⟩)
   have ey:(de 0 ((2:Int)^r.toNat).toNat).map (λd=>match d with|.int z6=>gX ((fj n i).map λb=>iI r U G ts i z6 b)|d=>d)=(stepK r U G ts n i).map gX:=by unfold de L2.stepK;rw[tn,jr,jr];refine List.map_congr_left λk _=>?_;simp
   rw[ey]at cm;have es:b7 r U G ts n 0 (i+1)=b7 r U G ts n 0 i++[stepK r U G ts n i]:=by unfold b7;rw[List.range'_concat,xk];simp
   have lf:((b7 r U G ts n 0 i).map gc).length<sizeLine:=by unfold b7;rw[ja,ja,List.length_range'];exact jw (by lia:i<1000) (by decide)
   refine⟨_,[au r U G e,D.int (n:Int),D.lst (ts.map bQ),D.lst ((b7 r U G ts n 0 (i+1)).map gc),D.int (i:Int),D.lst ((aQ U G ts i).map bj),D.tup ((fj n i).map D.int)],rfl,.inl ?_,_,_,_,rfl⟩;refine(bU (qkn (by decide) n i rfl rfl)).trans ?_;rw[es,xk];exact qpc hr bg lr lf cm)
 subst hρ;have le:(gO ((List.range (n+aE r e)).map λk=>D.lst ((aQ U G ts k).map bj))).length=n+aE r e:=by unfold gO;simp
 rw[le,x8]at l1;unfold fyp wR gp;exact qpa (by decide) hc hg l1
end
def qr2{a c x:Int}{B:List D}(h:cc B a=some (.int x)):fyr [.tup [.int a,.int c],.lst B]=some (.int (c+x)):=by unfold fyr tM;walk_at "e"
def qr3{a c:Int}{B:List D}(h:cc B a=some .non):fyr [.tup [.int a,.int c],.lst B]=some .non:=by unfold fyr tM;walk_at "e"
def Fk{t:Rw}{a:Int}(h0:0<=a)(h1:a.toNat<t.length):cc (t.map bV) a=some (bV (dZ t a)):=by rw[mv h0 (by rw[ja];lia),jo];unfold dZ;rw[jh h1];rfl
def qkh(q:Mv)(t:Rw)(h0:0<=q.1)(h1:q.1.toNat<t.length):fyr [nB q,dR t]=some (bV (dW q t)):=by
 have h:=Fk h0 h1;unfold dW;cases e:dZ t q.1 with
 | none=>
  rw[e]at h;exact qr3 h
 | some x=>
  rw[e]at h;exact qr2 h
def qvn{q z9 y:D}(h:fyr [q,z9]=some y):((aU fyr (aj (aa 0) (aj (aa 1) ag))) [q,z9]).map (·.1)=some y:=by walk_at "e"
def qvm{CH YS ZS:List D}{z9 m:D}(l1:CH.length<=sizeLine)(l2:YS.length<=sizeLine)(cm:cz 1 [1] none (ai 0) (ae true) (aU fyr (aj (aa 0) (aj (aa 1) ag))) CH [D.lst CH,z9,none]=some (YS,[some (.lst CH),some z9,none]))
 (cf:cz 1 [] none (ai 0) (bq (af kH (aa 0) (ae .non))) (aa 0) YS [D.lst CH,z9,D.lst YS]=some (ZS,[some (.lst CH),some z9,some (.lst YS)])) (hm:oW (.lst ZS)=some m):fys [.lst CH,z9]=some m:=by
 unfold fys wV;generalize hd:oW=dm at hm ⊢;walk_at "e"
theorem y9:∀ys:List (Option Int),((ys.map bV).filter λd=>match d with|.non=>false|_=>true)=(ys.filterMap id).map D.int
 |[]=>rfl
 | none::ys=>by rw[x5,List.filter_cons];exact y9 ys
 | some x::ys=>by rw[x5,List.filter_cons];show D.int x::_=D.int x::_;rw[y9 ys]
def Hj(ch:List Mv)(t:Rw)(hl:ch.length<=1000)(h:∀q∈ch,0<=q.1/\q.1.toNat<t.length):fys [gX ch,dR t]=some (bV (fT ch t)):=by
 have cm:=gR (n:=1) (js:=[1]) (fg:=ai 0) (fe:=aU fyr (aj (aa 0) (aj (aa 1) ag))) (M:=[gX ch,dR t,none])
  (λd=>match d with|.tup [.int a,.int c]=>bV (dW (a,c) t)|d=>d) (ch.map nB) (λx hx=>by obtain⟨q,hq,rfl⟩:=List.mem_map.mp hx;exact⟨_,rfl,qvn (qkh q t (h q hq).1 (h q hq).2)⟩)
 have e1:(ch.map nB).map (λd=>match d with|.tup [.int a,.int c]=>bV (dW (a,c) t)|d=>d)=(ch.map λq=>dW q t).map bV:=by rw[jr,jr];rfl
 rw[e1]at cm;have cf:=qO (n:=1) (js:=[]) (fg:=ai 0) (ft:=bq (af kH (aa 0) (ae .non))) (fe:=aa 0) (M:=[gX ch,dR t,D.lst ((ch.map λq=>dW q t).map bV)])
  (λd=>match d with|.non=>false|_=>true) (λd=>d) ((ch.map λq=>dW q t).map bV) (λx hx=>by
    obtain⟨o,_,rfl⟩:=List.mem_map.mp hx;refine⟨[some (bV o)],rfl,?_,λ_=>rfl⟩;cases o with
    |none=>rfl
    |some y=>rfl)
 have e2:∀zs:List D,zs.map (λd=>d)=zs:=λzs=>by simp
 rw[y9,e2]at cf;refine qvm (dw (by rw[ja];lia)) (dw (by rw[ja,ja];lia)) cm cf ?_;show(eB _).map (λns=>bV (cU ns))=_;rw[jX];rfl
def Ey{ch:List Mv}{hh:Rw}{y:D}(h:fys [gX ch,dR hh]=some y):(match gX ch with|.lst xs=>(match fys [.lst xs,dR hh]with|some y=>y|none=>.non)|d=>d)=y:=by unfold gX at h ⊢;dsimp only;rw[h]
def qx7{ch z9 y:D}(h:fys [ch,z9]=some y):((aU fys (aj (aa 0) (aj (aa 1) ag))) [ch,z9]).map (·.1)=some y:=by walk_at "e"
def qrj{ST EN x:D}{TB:List D}{v4:Option D}{b:D}(h:cc TB (-1)=some b):Nx Cd [ST,EN,D.lst TB,x,v4] 4 b:=by walk_at "e"
def qx8{ST EN b:D}{TB CH YS:List D}{FE:aF}(l1:CH.length<=sizeLine)(l2:TB.length<sizeLine)(cm:Ns (cz 1 [4] none (ai 0) (ae true) FE CH) [ST,EN,D.lst TB,D.lst CH,b] YS):Nx (dD io 2 (aj (a9 (cy 1 [4] none (br (aa 3)) (ai 0) (ae true) FE)) ag)) [ST,EN,D.lst TB,D.lst CH,b] 2 (D.lst (TB++[.lst YS])):=by
 walk_at "e"
def qx6(SS TB:List D)(EN:D)(v3 v4:Option D)(FB:aH)(one:1<=sizeLine)(l1:eL (ai 3) FB SS.reverse [D.lst SS,EN,D.lst [EN],none,none]=some (.nx [D.lst SS,EN,D.lst TB,v3,v4])):
 (aG false 2 5 (aq (cH 2 (aT (aj (aa 1) ag))) (aq (bI (gz (aa 0)) (ai 3) FB) (aB (a9 (gz (aa 2))))))) [.lst SS,EN]=some (.lst TB.reverse):=by
 walk_at "e"
def Gy{steps:List Sx}{ends:Rw}{ρ:Nat}(he:ends.length=ρ)(hs:∀st∈steps,st.length=ρ):((bT steps ends).headD []).length=ρ:=by
 cases steps with
 |nil=>exact he
 | cons st rest=>
  show(st.map _).length=ρ;rw[ja];exact hs st jj
def qhc(steps:List Sx)(ends:Rw)(ρ:Nat)(hM:ρ<=1000)(hN:steps.length<=1000)(he:ends.length=ρ)(hs:∀st∈steps,st.length=ρ/\∀ch∈st,ch.length<=2/\∀q∈ch,0<=q.1/\q.1.toNat<ρ):
 fyt [gp steps,dR ends]=some (oQ (bT steps ends)):=by
 let⟨M',l1,v3,v4,hρ⟩:=iF (fg:=ai 3) (fb:=CV)
  (λk M=>∃v3 v4,M=[some (gp steps),some (dR ends),some (.lst ((bT (steps.drop (steps.length-k)) ends).reverse.map dR)),v3,v4]) (steps.map gc).reverse 0
  [some (gp steps),some (dR ends),some (.lst [dR ends]),none,none] ⟨none,none,by rw[sub_zero,drop_length];rfl⟩ (λi x M hx ⟨v3,v4,hρ⟩=>by
   subst hρ;rw[x8];have hi:i<steps.length:=by have:=(List.getElem?_eq_some_iff.mp hx).1;simpa using this
   have hlt:steps.length-1-i<steps.length:=by lia
   rw[List.getElem?_reverse (by rw[ja];exact hi),ja,jo,jh hlt]at hx;have hx:x=gc steps[steps.length-1-i]:=(jm hx).symm;subst hx;have hst:=hs _ (ka hlt);have ed:steps.drop (steps.length-(i+1))=steps[steps.length-1-i]::steps.drop (steps.length-i):=by rw[show steps.length-(i+1)=steps.length-1-i from by lia,vf hlt];congr 2;lia
   generalize steps[steps.length-1-i]=st at hst ed ⊢;rw[ed];have hd:((bT (steps.drop (steps.length-i)) ends).headD []).length=ρ:=Gy he λz hz=>(hs z (mem_of_mem_drop hz)).1;have hla:=Ae (steps.drop (steps.length-i)) ends;have hlast:cc ((bT (steps.drop (steps.length-i)) ends).reverse.map dR) (-1)=some (dR ((bT (steps.drop (steps.length-i)) ends).headD [])):=by
    generalize bT (steps.drop (steps.length-i)) ends=tt at hla ⊢;cases tt with
    |nil=>simp at hla
    | cons a b=>
     rw[reverse_cons,xk];exact qre
   have eA:bT (st::steps.drop (steps.length-i)) ends=(st.map λch=>fT ch ((bT (steps.drop (steps.length-i)) ends).headD []))::bT (steps.drop (steps.length-i)) ends:=rfl;rw[eA];generalize (bT (steps.drop (steps.length-i)) ends).headD []=hh at hd hlast ⊢;generalize bT (steps.drop (steps.length-i)) ends=tt at hla hlast ⊢;have cm:=gR (n:=1) (js:=[4]) (fg:=ai 0) (fe:=aU fys (aj (aa 0) (aj (aa 1) ag))) (M:=[gp steps,dR ends,D.lst (tt.reverse.map dR),gc st,dR hh])
    (λd=>match d with|.lst xs=>(match fys [.lst xs,dR hh]with|some y=>y|none=>.non)|d=>d) (st.map gX) (λx hx=>by obtain⟨ch,hc,rfl⟩:=List.mem_map.mp hx;have hp:=Hj ch hh (by have:=(hst.2 ch hc).1;lia) (λq hq=>by rw[hd];exact(hst.2 ch hc).2 q hq);refine⟨_,rfl,?_⟩;rw[Ey hp];exact qx7 hp)
   have ey:(st.map gX).map (λd=>match d with|.lst xs=>(match fys [.lst xs,dR hh]with|some y=>y|none=>.non)|d=>d)=(st.map λch=>fT ch hh).map bV:=by rw[jr,jr];refine map_congr_left λch hc=>?_;exact Ey (Hj ch hh (by have:=(hst.2 ch hc).1;lia) (λq hq=>by rw[hd];exact(hst.2 ch hc).2 q hq))
   rw[ey]at cm;have lt:(tt.reverse.map dR).length<sizeLine:=by rw[ja,length_reverse,hla,xx];exact jw (by lia:_<2000) (by decide)
   refine⟨_,[gp steps,dR ends,D.lst (((st.map λch=>fT ch hh)::tt).reverse.map dR),gc st,dR hh],rfl,.inl ?_,_,_,rfl⟩;refine(bU (qrj hlast)).trans ?_;rw[reverse_cons,xk];exact qx8 (dw (by rw[ja];lia)) lt cm)
 subst hρ;rw[length_reverse,ja,x8,Nat.sub_self,drop_zero]at l1;unfold fyt wW;refine(qx6 (steps.map gc) _ _ _ _ _ (by decide) l1).trans ?_;unfold oQ;rw[<-List.map_reverse,List.reverse_reverse]
section
variable{r:Int}{U:Zf}{G:Z9}{e:Str}
def Bo:cZ (.str "open") (.str "open")=some true:=by rw[ie (by decide+kernel) (by decide+kernel)];decide+kernel
def Bp:cZ (.str "ended") (.str "open")=some false:=by rw[ie (by decide+kernel) (by decide+kernel)];decide+kernel
def Bn:cZ (.str "ring") (.str "open")=some false:=by rw[ie (by decide+kernel) (by decide+kernel)];decide+kernel
def qqu(R TS RS:D)(s ρ:Int)(Y:List D)(h:cZ (.str e) (.str "open")=some true)(hr:fy1 [.tup [R,TS,RS,.str e]]=some (.int ρ))(hy:gZ [.int 0] (.int ρ)=some Y)(one:1<=sizeLine):fyq [.tup [R,TS,RS,.str e],.int s]=some (.lst Y):=by
 unfold fyq wU;have hrep:(d5 (aT (aj (ae (.int 0)) ag)) (aU fy1 (aj (aa 0) ag))) [D.tup [R,TS,RS,.str e],D.int s,none]=some (Y,[some (.tup [R,TS,RS,.str e]),some (.int s),none]):=by
  refine xR (M1:=[D.tup [R,TS,RS,.str e],D.int s,none]) ?_ ?_ hy
  .clear hy h hr;walk_at "e"
  .clear hy h;walk_at "e"
 generalize (d5 (aT (aj (ae (.int 0)) ag)) (aU fy1 (aj (aa 0) ag)))=FR at hrep ⊢;clear hy hr;walk_at "e"
def qwv{z6 en:Int}:(sQ [D.int z6,D.int en]).map (·.1)=some (bV (if z6=en then some 0 else none)):=by
 by_cases h:z6=en
 .subst h;rw[if_pos rfl];walk_at "e"
 .have h':=beq_eq_false_iff_ne.mpr h;rw[if_neg h];walk_at "e"
def BU{R TS RS:D}{s:Int}{FR:aH}(h:cZ (.str e) (.str "open")=some false):Nz (cJ Cv FR aZ) [D.tup [R,TS,RS,.str e],D.int s,none]:=by walk_at "e"
def BR{S:D}{s en:Int}{b:Bool}(hb:fy5 [S]=some (.bl b))(hen:en=(if b=true then s else 0)):Cy [S,D.int s,none]=some (.nx [S,D.int s,D.int en]):=by
 cases b with
 | true=>
  have hen:=hen;rw[hen];clear hen;walk_at "e"
 | false=>
  have hen:=hen;rw[hen];clear hen;walk_at "e"
def BQ{S:D}{s ρ en:Int}{Y:List D}{FE:aF}(hr:fy1 [S]=some (.int ρ))(bg:e7 ρ=true)(l1:(de 0 ρ.toNat).length<=sizeLine)(cm:Ns (cz 1 [2] none (ai 0) (ae true) FE (de 0 ρ.toNat)) [S,D.int s,D.int en] Y):Nr (aB (a9 (cy 1 [2] none vX (ai 0) (ae true) FE))) [S,D.int s,D.int en] (D.lst Y):=by
 walk_at "e"
def qlm(R TS RS:D)(s ρ en:Int)(b:Bool)(Y:List D)(h:cZ (.str e) (.str "open")=some false)(hb:fy5 [.tup [R,TS,RS,.str e]]=some (.bl b))(hen:en=(if b=true then s else 0))(hr:fy1 [.tup [R,TS,RS,.str e]]=some (.int ρ))(bg:e7 ρ=true)(l1:(de 0 ρ.toNat).length<=sizeLine)
 (cm:cz 1 [2] none (ai 0) (ae true) sQ (de 0 ρ.toNat) [D.tup [R,TS,RS,.str e],D.int s,D.int en]=some (Y,[some (.tup [R,TS,RS,.str e]),some (.int s),some (.int en)])):
 fyq [.tup [R,TS,RS,.str e],.int s]=some (.lst Y):=by
 refine jT rfl ⟨[D.tup [R,TS,RS,.str e],D.int s,D.int en],?_⟩;refine(bU (BU h)).trans ?_;exact(bU (BR hb hen)).trans (BQ hr bg l1 cm)
def qtf(ok:q26 r U G e)(s:Int):fyq [au r U G e,.int s]=some (dR (eQ r e s)):=by
 have p16:=mI ok.r0 ok.r4;have pn:=ig (r:=r);have hr:=lO ok;have hb:=xO ok;have tn:((2:Int)^r.toNat).toNat=2^r.toNat:=by lia
 unfold dR eQ;rw[jr];by_cases q:e="open"
 .subst q;have hy:gZ [D.int 0] (.int (2^r.toNat))=some (List.replicate (2^r.toNat) (.int 0)):=by rw[yV (by lia) (by lia),tn]
  have h1:fyq [au r U G "open",.int s]=some (.lst (List.replicate (2^r.toNat) (.int 0))):=qqu (e:="open") (.int r) (.tup (U.map D.int)) (.tup (G.map dj)) s (2^r.toNat) _ Bo hr hy (by decide);rw[h1];refine congrArg (λx=>some (D.lst x)) ?_;apply List.ext_getElem?;intro i;by_cases h:i<2^r.toNat
  .rw[jo,k9 h,va,if_pos h];simp[bV]
  .rw[xj (by simp;lia),xj (by simp;lia)]
 .have ho:cZ (.str e) (.str "open")=some false:=by
   rcases ok.en with h|h|h
   .exact absurd h q
   .rw[h];exact Bp
   .rw[h];exact Bn
  have bg:e7 ((2:Int)^r.toNat)=true:=by unfold e7;simp;lia
  have cm:=gR (n:=1) (js:=[2]) (fg:=ai 0) (fe:=sQ) (M:=[au r U G e,D.int s,D.int (if bD e=true then s else 0)]) (λd=>match d with|.int z6=>bV (if z6=(if bD e=true then s else 0)then some 0 else none)|d=>d) (de 0 ((2:Int)^r.toNat).toNat) (λx hx=>by obtain⟨k,hk⟩:=List.mem_iff_getElem?.mp hx;obtain⟨hk1,rfl⟩:=mN hk;exact⟨_,rfl,qwv⟩)
  have h1:=qlm (e:=e) (.int r) (.tup (U.map D.int)) (.tup (G.map dj)) s (2^r.toNat) _ (bD e) _ ho hb rfl hr bg (by rw[ip,tn];exact dw (by lia)) cm;refine(show fyq [au r U G e,.int s]=_ from h1).trans ?_;refine congrArg (λx=>some (D.lst x)) ?_;unfold de;rw[tn,jr];refine List.map_congr_left λk _=>?_;refine congrArg bV ?_;have e1:(if bD e=true then s else 0)=(if e="ring" then s else 0):=by
   unfold bD;by_cases z:e="ring"
   .simp[z]
   .simp[z]
  rw[e1,Int.zero_add];show(if((k:Nat):Int)=(if e="ring" then s else 0)then some 0 else none)=if e="open"∨((k:Nat):Int)=(if e="ring" then s else 0)then some 0 else none
  generalize (if e="ring" then s else 0)=E;by_cases z:((k:Nat):Int)=E
  .rw[if_pos z,if_pos (Or.inr z)]
  .rw[if_neg z,if_neg (λh=>Or.elim h (λh=>q h) λh=>z h)]
def qq4{S:D}{ρ:Int}{Y:List D}(hb:fy5 [S]=some (.bl true))(hr:fy1 [S]=some (.int ρ))(hy:iK (.int ρ)=some Y):fy8 [S]=some (.lst Y):=by unfold fy8 l8;generalize hu:iK=uo at hy ⊢;clear hu;walk_at "e"
def qlb{S:D}(one:1<=sizeLine)(hb:fy5 [S]=some (.bl false)):fy8 [S]=some (.lst [.int 0]):=by unfold fy8 l8;walk_at "e"
def qke(ok:q26 r U G e):fy8 [au r U G e]=some (.lst ((cY r e).map D.int)):=by
 have p16:=mI ok.r0 ok.r4;have pn:=ig (r:=r);have hr:=lO ok;have hb:=xO ok;have tn:((2:Int)^r.toNat).toNat=2^r.toNat:=by lia
 unfold cY;by_cases q:e="ring"
 .rw[if_pos q];have h1:bD e=true:=by unfold bD;simp[q]
  rw[h1]at hb;refine qq4 hb hr ?_;show(if(0:Int)<=2^r.toNat/\(2:Int)^r.toNat<=1000000 then some ((kE (2^r.toNat)).map D.int)else none)=_;rw[if_pos ⟨by lia,by lia⟩];unfold kE;rw[tn]
 .rw[if_neg q];have h1:bD e=false:=by unfold bD;simp[q]
  rw[h1]at hb;exact qlb (by decide) hb
def qob{S ST EN TB:D}{s:Int}{gs gs':List (bn×D)}(he:fyq [S,.int s]=some EN)(ha:fyt [ST,EN]=some TB)(hp:oY gs s TB=some gs'):vZ [S,ST,D.dct gs,D.int s]=some (.nx [S,ST,D.dct gs',D.int s]):=by
 refine qqf (M1:=[S,ST,D.dct gs,D.int s]) (M2:=[S,ST,D.dct gs,D.int s]) (d:=TB) ?_ ?_ rfl hp
 .clear hp;walk_at "e"
 .rfl
def qru{S ST:D}{SS:List D}{gs:List (bn×D)}{v3:Option D}{FB:aH}(hs:fy8 [S]=some (.lst SS))(l1:eL (ai 3) FB SS [S,ST,D.dct [],none]=some (.nx [S,ST,D.dct gs,v3])):
 (aG false 2 4 (aq (mW 2) (aq (bI Cb (ai 3) FB) (aB (aa 2))))) [S,ST]=some (.dct gs):=by
 have h1:mW 2 [S,ST,none,none]=some (.nx [S,ST,D.dct [],none]):=qqh (by simp);walk_at "e"
def q9y:(cY r e).Nodup:=by
 unfold cY;by_cases q:e="ring"
 .rw[if_pos q];rw[Nodup,pairwise_map];exact List.nodup_range.imp λh z=>h (by lia)
 .rw[if_neg q];simp
def qkd(ok:q26 r U G e)(ts:List Told)(n:Nat)(hn:n<=60):fyu [au r U G e,gp (b7 r U G ts n 0 (n+aE r e))]=some (.dct ((cY r e).map λs=>(Sum.inl s,oQ (fm r U G e ts n s)))):=by
 have p16:=mI ok.r0 ok.r4;have pn:=ig (r:=r);have z4:=lC ok;have hs:=qke ok;have ls:(cY r e).length<=16:=by
  unfold cY;split
  .simp;lia
  .simp
 have hst:∀st∈b7 r U G ts n 0 (n+aE r e),st.length=2^r.toNat/\∀ch∈st,ch.length<=2/\∀q∈ch,0<=q.1/\q.1.toNat<2^r.toNat:=λst h=>by
  have:∀(len k:Nat) (st:Sx),st∈b7 r U G ts n k len->st.length=2^r.toNat/\∀ch∈st,ch.length<=2/\∀q∈ch,0<=q.1/\q.1.toNat<2^r.toNat:=by
   intro len;induction len with
   |zero=>intro k st h;cases h
   | succ len ih=>
    intro k st h;have ok1:=pG (r:=r) (U:=U) (G:=G) (ts:=ts) (n:=n) (len+1) k;rw[uN]at h ok1;rcases List.mem_cons.mp h with h|h
    .subst h;refine⟨ok1.1,λch hc=>⟨?_,(ok1.2.1 ch hc).2⟩⟩;rw[(ok1.2.1 ch hc).1];split<;>lia
    .exact ih _ _ h
  exact this _ _ _ h
 have lst':(b7 r U G ts n 0 (n+aE r e)).length<=1000:=by unfold b7;rw[ja,List.length_range'];lia
 obtain⟨M',l1,v3,hρ⟩:=iF (fg:=ai 3) (fb:=vZ)
  (λk M=>∃v3,M=[some (au r U G e),some (gp (b7 r U G ts n 0 (n+aE r e))),some (.dct (((cY r e).take k).map λs=>(Sum.inl s,oQ (fm r U G e ts n s)))),v3]) ((cY r e).map D.int) 0
  [some (au r U G e),some (gp (b7 r U G ts n 0 (n+aE r e))),some (.dct []),none] ⟨none,rfl⟩ (λi x M hx ⟨v3,hρ⟩=>by
   subst hρ;rw[x8];rw[jo]at hx;cases hs1:(cY r e)[i]? with
   |none=>rw[hs1]at hx;cases hx
   | some s=>
    rw[hs1]at hx;cases hx;have hb:=qtf ok s;have ha:=qhc (b7 r U G ts n 0 (n+aE r e)) (eQ r e s) (2^r.toNat) (by lia) lst' (by unfold eQ;simp) hst;refine⟨_,[au r U G e,gp (b7 r U G ts n 0 (n+aE r e)),D.dct (((cY r e).take (i+1)).map λs=>(Sum.inl s,oQ (fm r U G e ts n s))),D.int s],rfl,.inl (qob hb ha ?_),_,rfl⟩;unfold oY;rw[if_pos]
    .rw[cX hs1,xk];rfl
    .refine⟨?_,?_⟩
     .rw[ja,xq];exact jw (by lia:_<1000) (by decide)
     .rw[List.all_eq_true];intro g hg;obtain⟨t,ht,rfl⟩:=List.mem_map.mp hg;have:t≠s:=λz=>by
       subst z;obtain⟨j,hj⟩:=List.mem_iff_getElem?.mp ht;have hj1:j<i:=by have:=(List.getElem?_eq_some_iff.mp hj).1;rw[xq]at this;lia
       rw[List.getElem?_take_of_lt hj1]at hj;have hi:=(List.getElem?_eq_some_iff.mp hs1).1;have hjl:=(List.getElem?_eq_some_iff.mp hj).1;have e1:=(List.getElem?_eq_some_iff.mp hj).2;have e2:=(List.getElem?_eq_some_iff.mp hs1).2;exact List.pairwise_iff_getElem.mp q9y j i hjl hi hj1 (e1.trans e2.symm)
      simp[this])
 subst hρ;rw[ja,x8,List.take_length]at l1;unfold fyu wX;exact qru hs l1
end
noncomputable def dY(s:Int):Int:=(s*1181783497276652981+12345678910987) % 2305843009213693951
def c8(s m:Int):Int:=dY s / 65537 % m
def mw(s:Int){m:Int}(h:0<m):0<=c8 s m:=emod_nonneg _ (by lia)
def mZ(s:Int){m:Int}(h:0<m):c8 s m<m:=Int.emod_lt_of_pos _ h
def kT(s m:Int)(h:0<m):fyC [.int s] [.int m]=some (.int (c8 s m),[.int (dY s)]):=by unfold fyC tm;walk_at "e";simp[dY,c8]
def Gg(c k:Int)(one:1<=sizeLine):fyB [.int c,.int k]=some (.lst [.int ((c % 10^60*7368787+1000003*k+17) % 2305843009213693951)]):=by unfold fyB wZ;walk_at "e"
def mh{N:List D}{k x:Int}(h:k<(N.length:Nat))(h0:0<=k)(ha:cc N k=some (.int x)):fyA [.lst N,.int k]=some (.int (x % 10^60)):=by unfold fyA tO;walk_at "e"
def jM{N:List D}{k:Int}(h:¬k<(N.length:Nat)):fyA [.lst N,.int k]=some (.int 0):=by unfold fyA tO;walk_at "e"
def zJ(ns:Zf)(k:Int)(h0:0<=k):∃c:Int,fyA [.lst (ns.map D.int),.int k]=some (.int c):=by
 by_cases h:k<ns.length
 .refine⟨ns[k.toNat] % 10^60,mh (by rw[ja];lia) h0 ?_⟩;rw[mv (by lia) (by rw[ja];lia),jo,jh (by lia)];rfl
 .exact⟨0,jM (by rw[ja];lia)⟩
def s0(s x m:Int)(E:D)(nine:9<=sizeLine)(hx:cc [D.int 0,D.int 1,D.int 2,D.int 2,D.int 3,D.int 1,D.int 2,D.int 3,D.int 4] (c8 s 9)=some (.int x))(hm:(if x<4 then x else 4)=m):
 (aw 3 (iJ (λi j=>if j<i then j else i) C3)) [D.lst [.int s],D.int 4,E,none,none,none,none]=some (.nx [D.lst [.int (dY s)],D.int 4,E,D.int m,none,none,none]):=by
 have h:=kT s 9 (by decide);rw[<-hm];clear hm;walk_at "e"
def s1e{x s m:Int}{r:Int}(hm:cQ (.int 2) (.int r)=some (.int m))(h0:0<m):(gn fyC 1 (aj (af cQ (ae (.int 2)) (aa 2)) ag)) [D.int x,D.lst [.int s],D.int r]=some (.int (c8 s m),[some (.int x),some (.lst [.int (dY s)]),some (.int r)]):=by have h:=kT s m h0;generalize cQ=SH at hm ⊢;walk_at "e"
def s1r{s:Int}{v1 v2 v3 v4 v5 v6:Option D}:vR [some (.lst [.int s]),v1,v2,v3,v4,v5,v6]=some ([.int (1+c8 s 4)],[some (.lst [.int (dY s)]),v1,v2,v3,v4,v5,v6]):=by have h:=kT s 4 (by decide);walk_at "e"
def s1x{s s1 s2 r:Int}{E:D}{X Y:List D}{FI:aV}{FE:aF}(lx:X.length<=sizeLine)
 (hI:FI [D.lst [.int s],D.int 4,E,D.int r,none,none,none]=some (X,[some (.lst [.int s1]),some (.int 4),some E,some (.int r),none,none,none]))
 (cm:cz 1 [0,3] (some (0,1)) (ai 0) (ae true) FE X [D.lst [.int s1],D.int 4,E,D.int r,none,none,none]=some (Y,[some (.lst [.int s2]),some (.int 4),some E,some (.int r),none,none,none])):
 (aw 4 (a9 (cy 1 [0,3] (some (0,1)) FI (ai 0) (ae true) FE))) [D.lst [.int s],D.int 4,E,D.int r,none,none,none]=some (.nx [D.lst [.int s2],D.int 4,E,D.int r,D.lst Y,none,none]):=by
 walk_at "e"
def qD{M M1:az}{fs:aV}{n:Int}(h:fs M=some ([.int n],M1))(n0:0<=n)(n1:n<=1000):gQ fs M=some (de 0 n.toNat,M1):=by refine EX h ?_;unfold e7;simp;lia
def s1(s r:Int)(E:D)(r0:0<=r)(r4:r<=4):∃(ts:Zf) (s':Int),(aw 4 (a9 (cy 1 [0,3] (some (0,1)) (gQ vR) (ai 0) (ae true) (gn fyC 1 (aj (af cQ (ae (.int 2)) (aa 2)) ag))))) [D.lst [.int s],D.int 4,E,D.int r,none,none,none]=some (.nx [D.lst [.int s'],D.int 4,E,D.int r,D.lst (ts.map D.int),none,none])
 /\1<=ts.length/\ts.length<=4/\∀t∈ts,0<=t/\t<2*2^r.toNat:=by
 have d0:=mw s (m:=4) (by decide);have d3:=mZ s (m:=4) (by decide);have zl:(0:Int)<2*2^r.toNat:=Int.mul_pos (by decide) (Int.pow_pos (by decide));have hsh:cQ (.int 2) (.int r)=some (.int (2*2^r.toNat)):=by
  have r6:r<=1000000:=by lia
  simp[cQ,lJ,mS,r0,r6]
 obtain⟨ys,s2,c1,c2,c3⟩:=uz (n:=1) (p:=0) (q:=1) (js:=[0,3]) (fg:=ai 0) (fe:=gn fyC 1 (aj (af cQ (ae (.int 2)) (aa 2)) ag))
  (λs:Int=>[some (.lst [.int s]),some (.int 4),some E,some (.int r),none,none,none]) (λy=>∃t:Int,y=.int t/\0<=t/\t<2*2^r.toNat) (de 0 (1+c8 s 4).toNat) (λx hx s=>by obtain⟨k,hk⟩:=List.mem_iff_getElem?.mp hx;obtain⟨_,rfl⟩:=mN hk;exact⟨[D.int (0+(k:Int)),D.lst [.int s],D.int r],[some (.int (0+(k:Int))),some (.lst [.int (dY s)]),some (.int r)],.int (c8 s (2*2^r.toNat)),dY s,rfl,s1e hsh zl,rfl,_,rfl,mw s zl,mZ s zl⟩) (dY s)
 obtain⟨ts,rfl,tb⟩:=ug c3;rw[ja,ip]at c2;exact⟨ts,s2,s1x (by rw[ip];exact dw (by lia)) (qD (s1r) (by lia) (by lia)) c1,by lia,by lia,tb⟩
abbrev C0:=Cs
def s4e(x s:Int)(h:(0:Int)<4):(aO hJ C0) [D.int x,D.lst [.int s]]=some (.int (if c8 s 4>0 then 1 else 0),[some (.int x),some (.lst [.int (dY s)])]):=by have h4:=kT s 4 h;walk_at "e"
def s4r{s:Int}{v1 v2 v3 v4 v5 v6:Option D}:vS [some (.lst [.int s]),v1,v2,v3,v4,v5,v6]=some ([.int (1+c8 s 6)],[some (.lst [.int (dY s)]),v1,v2,v3,v4,v5,v6]):=by have h:=kT s 6 (by decide);walk_at "e"
def s4t{s s' r:Int}{E k:D}{TS RS RW:List D}{FE:aF}(l3:TS.length<=sizeLine)(l6:RS.length<sizeLine)
 (g1:cz 1 [0] (some (0,1)) (ai 0) (ae true) FE TS [D.lst [.int s],D.int 4,E,D.int r,D.lst TS,D.lst RS,k]=some (RW,[some (.lst [.int s']),some (.int 4),some E,some (.int r),some (.lst TS),some (.lst RS),some k])):
 (dD io 5 (aj (aO mK (a9 (cy 1 [0] (some (0,1)) (br (aa 4)) (ai 0) (ae true) FE))) ag)) [D.lst [.int s],D.int 4,E,D.int r,D.lst TS,D.lst RS,k]=some (.nx [D.lst [.int s'],D.int 4,E,D.int r,D.lst TS,D.lst (RS++[.tup RW]),k]):=by
 walk_at "e"
def s4f{s s1:Int}{s' r:Int}{E:D}{v:Option D}{X TS RS:List D}{FI:aV}{FB:aH}
 (hI:FI [D.lst [.int s],D.int 4,E,D.int r,D.lst TS,D.lst [],none]=some (X,[some (.lst [.int s1]),some (.int 4),some E,some (.int r),some (.lst TS),some (.lst []),none]))
 (f1:eL (ai 6) FB X [D.lst [.int s1],D.int 4,E,D.int r,D.lst TS,D.lst [],none]=some (.nx [some (.lst [.int s']),some (.int 4),some E,some (.int r),some (.lst TS),some (.lst RS),v])):
 (bI FI (ai 6) FB) [D.lst [.int s],D.int 4,E,D.int r,D.lst TS,D.lst [],none]=some (.nx [some (.lst [.int s']),some (.int 4),some E,some (.int r),some (.lst TS),some (.lst RS),v]):=by
 walk_at "e"
def s4(s r:Int)(E:D)(U:Zf)(h1:1<=U.length)(h4:U.length<=4):∃(G:Z9) (s':Int) (v:Option D),(bI (gQ vS) (ai 6)
 wg) [D.lst [.int s],D.int 4,E,D.int r,D.lst (U.map D.int),D.lst [],none]=some (.nx [some (.lst [.int s']),some (.int 4),some E,some (.int r),some (.lst (U.map D.int)),some (.lst (G.map dj)),v])
 /\1<=G.length/\G.length<=6/\∀row∈G,row.length=U.length/\∀b∈row,b=0∨b=1:=by
 have d0:=mw s (m:=6) (by decide);have d6:=mZ s (m:=6) (by decide);obtain⟨M',f1,G,s3,v,rfl,lr,hrow⟩:=iF (fg:=ai 6) (fb:=wg)
  (λi M=>∃(G:Z9) (s:Int) (v:Option D),M=[some (.lst [.int s]),some (.int 4),some E,some (.int r),some (.lst (U.map D.int)),some (.lst (G.map dj)),v]/\G.length=i/\∀row∈G,row.length=U.length/\∀b∈row,b=0∨b=1)
  (de 0 (1+c8 s 6).toNat) 0 [D.lst [.int (dY s)],D.int 4,E,D.int r,D.lst (U.map D.int),D.lst [],none] ⟨[],_,none,rfl,rfl,λ_ h=>nomatch h⟩ (by
    rintro i x M hx ⟨G,s,v,rfl,lr,hrow⟩;obtain⟨hi,rfl⟩:=mN hx;let⟨bs,s4,g1,g2,g3⟩:=uz (n:=1) (p:=0) (q:=1) (js:=[0]) (fg:=ai 0) (fe:=aO hJ C0)
     (λs':Int=>[some (.lst [.int s']),some (.int 4),some E,some (.int r),some (.lst (U.map D.int)),some (.lst (G.map dj)),some (.int (0+(i:Int)))]) (λy=>∃t:Int,y=.int t/\(t=0∨t=1)) (U.map D.int) (λx hx s'=>by
       obtain⟨z,_,rfl⟩:=List.mem_map.mp hx;refine⟨[D.int z,D.lst [.int s']],[some (.int z),some (.lst [.int (dY s')])],_,dY s',rfl,s4e z s' (by decide),rfl,_,rfl,?_⟩;split
       .exact .inr rfl
       .exact .inl rfl) s
    obtain⟨row,rfl,hb⟩:=ug g3;rw[ja,ja]at g2;refine⟨_,[D.lst [.int s4],D.int 4,E,D.int r,D.lst (U.map D.int),D.lst ((G++[row]).map dj),D.int (0+(i:Int))],rfl,.inl ?_,G++[row],s4,_,rfl,by rw[jt,lr];simp,λz hz=>?_⟩
    .have e6:(G++[row]).map dj=G.map dj++[.tup (row.map D.int)]:=by rw[xk];rfl
     rw[e6];exact s4t (by rw[ja];exact dw (by lia)) (by rw[ja];exact jw (by lia:G.length<1000) (by decide)) g1
    .rcases List.mem_append.mp hz with hz|hz
     .exact hrow z hz
     .rw[List.mem_singleton.mp hz];exact⟨g2,hb⟩)
 rw[ip]at lr;exact⟨G,s3,v,s4f (qD (s4r) (by lia) (by lia)) f1,by lia,by lia,hrow⟩
def s3(s r:Int)(E T:D)(z0:0<=sizeLine):Nx (cH 5 (aT ag)) [D.lst [.int s],D.int 4,E,D.int r,T,none,none] 5 (D.lst []):=by walk_at "e"
def s5(s r:Int)(E TS RS:List D)(x:D)(v:Option D)(four:4<=sizeLine)(hE:((E.length:Nat):Int)=3)(hx:cc E (c8 s 3)=some x):
 CU [some (.lst [.int s]),some (.int 4),some (.lst E),some (.int r),some (.lst TS),some (.lst RS),v]=some (.rt (.tup [.int r,.tup TS,.tup RS,x]) [some (.lst [.int (dY s)]),some (.int 4),some (.lst E),some (.int r),some (.lst TS),some (.lst RS),v]):=by
 have h:=kT s 3 (by decide);walk_at "e"
def qb2(s:Int):∃r U G e s',fyD [.int s] [.int 4,.lst [.str "open",.str "ended",.str "ring"]]=some (au r U G e,[.int s'])/\q26 r U G e:=by
 obtain⟨x,hx,x0,x4⟩:∃x:Int,cc [D.int 0,D.int 1,D.int 2,D.int 2,D.int 3,D.int 1,D.int 2,D.int 3,D.int 4] (c8 s 9)=some (.int x)/\0<=x/\x<=4:=by have d0:=mw s (m:=9) (by decide);have d9:=mZ s (m:=9) (by decide);rcases(by lia:c8 s 9=0∨c8 s 9=1∨c8 s 9=2∨c8 s 9=3∨c8 s 9=4∨c8 s 9=5∨c8 s 9=6∨c8 s 9=7∨c8 s 9=8)with q|q|q|q|q|q|q|q|q<;>(rw[q];exact⟨_,rfl,by decide,by decide⟩)
 obtain⟨r,hr⟩:∃r,(if x<4 then x else 4)=r:=⟨_,rfl⟩;have r0:0<=r/\r<=4:=by split at hr<;>lia
 have a0:=s0 s x r (.lst [.str "open",.str "ended",.str "ring"]) (by decide) hx hr;let⟨U,s1',a1,b1,b4,tb⟩:=s1 (dY s) r (.lst [.str "open",.str "ended",.str "ring"]) r0.1 r0.2;have a3:=s3 s1' r (.lst [.str "open",.str "ended",.str "ring"]) (.lst (U.map D.int)) (by decide);let⟨G,s4',v,a4,m1,m6,hrow⟩:=s4 s1' r (.lst [.str "open",.str "ended",.str "ring"]) U b1 b4;obtain⟨e,he,hen⟩:∃e:Str,cc [D.str "open",D.str "ended",D.str "ring"] (c8 s4' 3)=some (.str e)/\(e="open"∨e="ended"∨e="ring"):=by
  have d0:=mw s4' (m:=3) (by decide);have d2:=mZ s4' (m:=3) (by decide);rcases(by lia:c8 s4' 3=0∨c8 s4' 3=1∨c8 s4' 3=2)with q|q|q
  .rw[q];exact⟨_,rfl,.inl rfl⟩
  .rw[q];exact⟨_,rfl,.inr (.inl rfl)⟩
  .rw[q];exact⟨_,rfl,.inr (.inr rfl)⟩
 have a5:=s5 s4' r [.str "open",.str "ended",.str "ring"] (U.map D.int) (G.map dj) (.str e) v (by decide) rfl he;refine⟨r,U,G,e,dY s4',?_,⟨r0.1,r0.2,b1,b4,tb,m1,m6,hrow,hen⟩⟩;have body:=(bU a0).trans<|(bU a1).trans<|(bU a3).trans<|(bU a4).trans a5;unfold fyD gx;rw[if_pos (show [D.int 4,D.lst [.str "open",.str "ended",.str "ring"]].length+1=3 from rfl)];show(match pU [D.lst [.int s],D.int 4,D.lst [.str "open",.str "ended",.str "ring"],none,none,none,none]with
  | some (.rt d M)=>(match (M[0]? :Option (Option D))with
   |some (some (D.lst ys))=>some (d,ys)
   |_=>none)
  | some (.nx M)=>if false=true then none else(match (M[0]? :Option (Option D))with
   |some (some (D.lst ys))=>some (.non,ys)
   |_=>none)
  |_=>none)=_
 unfold pU;rw[body];rfl
def Bl(l o:Int):Ns vD [D.int l,D.int o] (decide (0<l)):=by walk_at "e"
def Bm(l o:Int):wd [D.int l,D.int o]=some (.nx [D.int (l / 2),D.int ((o+l % 2) % 2)]):=by walk_at "e"
theorem FJ:∀(f zm:Nat) (l o:Int),0<=l->l.toNat<2^f->(o=0∨o=1)->f<zm->∃l':Int,il vD
 wd zm [D.int l,D.int o]=some (.nx [D.int l',D.int ((o+(cq f l.toNat:Nat)) % 2)])
 |_,0,_,_,_,_,_,h=>absurd h (Nat.not_lt_zero _)
 | f,zm+1,l,o,l0,lf,ho,hf=>by
  have ht:=Bl l o;by_cases hl:0<l
  .cases f with
   |zero=>exact absurd lf (by lia)
   | succ f=>
    have e2:=Gx l0;have lt2:(l / 2).toNat<2^f:=by rw[e2];rw[Nat.pow_succ,Nat.mul_comm]at lf;exact Nat.div_lt_of_lt_mul lf
    let⟨l',ih⟩:=FJ f zm (l / 2) ((o+l % 2) % 2) (by lia) lt2 (by lia) (by lia);refine⟨l',?_⟩;rw[decide_eq_true hl]at ht;unfold il;rw[ht];dsimp only;rw[Bm];dsimp only;rw[ih,e2];have u:cq (f+1) l.toNat=(l.toNat % 2+cq f (l.toNat / 2)) % 2:=rfl;rw[u];rw[ER l0]
  .rw[decide_eq_false hl]at ht;refine⟨l,?_⟩;unfold il;rw[ht];dsimp only;have e0:l=0:=by lia
   subst e0;rw[show((0:Int)).toNat=0 from rfl,uF];have ev:(o+((0:Nat):Int)) % 2=o:=by lia
   rw[ev]
def qxg(n:Int)(h0:0<=n)(h:n<32):fyE [.int n]=some (.int (cq 5 n.toNat:Nat)):=by
 let⟨l',hw⟩:=FJ 5 1000 n 0 h0 (by lia) (.inl rfl) (by decide);have e1:((0:Int)+(cq 5 n.toNat:Nat)) % 2=(cq 5 n.toNat:Nat):=by have:=FV 5 n.toNat;lia
 rw[e1]at hw;generalize cq 5 n.toNat=p at hw ⊢;unfold fyE w6;generalize (1000:Nat)=zm at hw ⊢;clear h0 h e1;walk_at "e"
def AR{S k:D}{z6 bit:Int}:Nx (aw 4 pO) [S,k,D.int z6,D.int bit,none,none,none] 4 (D.int (2*z6+bit)):=by walk_at "e"
def AN{t aI o:Int}(h:fyE [.int (Builtin.bitAnd aI t)]=some (.int o)):((aU fyE pM) [D.int t,D.int aI]).map (·.1)=some (.int o):=by walk_at "e"
def AQ{R RS e k z6 bit aI:D}{TS Y:List D}{FE:aF}(lt:TS.length<=sizeLine)(cm:Ns (cz 1 [4] none (ai 0) (ae true) FE TS) [D.tup [R,.tup TS,RS,e],k,z6,bit,aI,none,none] Y):Nx (aw 5 (a9 (cy 1 [4] none vF (ai 0) (ae true) FE))) [D.tup [R,.tup TS,RS,e],k,z6,bit,aI,none,none] 5 (D.lst Y):=by
 walk_at "e"
def AO{R TS e z6 bit aI Y:D}{RS RW:List D}{k':Int}(zd:0<RS.length)(hr:cc RS (k' % (RS.length:Nat))=some (.tup RW)):Nx CO [D.tup [R,TS,.tup RS,e],D.int k',z6,bit,aI,Y,none] 6 (D.tup RW):=by
 walk_at "e"
def AM(S k z6 bit aI L:D)(Y:List D):Ns (aj (aO cr (aa 5)) ag) [S,k,z6,bit,aI,D.lst Y,L] [.int ((Y.length:Nat):Int)]:=by walk_at "e"
def AK{Y RW:List D}{i b:Int}(h:cc RW i=some (.int b)):Ns (bq vM) [D.int i,D.lst Y,D.tup RW] (b==1):=by walk_at "e"
def AJ{Y RW:List D}{i:Int}{y:D}(h:cc Y i=some y):((af bA (aa 1) (aa 0)) [D.int i,D.lst Y,D.tup RW]).map (·.1)=some y:=by walk_at "e"
def AL{r aI m:Int}{TS RS e k z6 bit Y L:D}{X Z:List D}{FI:aV}{FT:eI}{FE:aF}(two:2<=sizeLine)(lx:X.length<=sizeLine)(hs:cQ (.int 1) (.int r)=some (.int m))(m0:0<m)
 (hI:FI [D.tup [.int r,TS,RS,e],k,z6,bit,D.int aI,Y,L]=some (X,[some (.tup [.int r,TS,RS,e]),some k,some z6,some bit,some (.int aI),some Y,some L]))
 (cm:cz 1 [5,6] none (ai 0) FT FE X [D.tup [.int r,TS,RS,e],k,z6,bit,D.int aI,Y,L]=some (Z,[some (.tup [.int r,TS,RS,e]),some k,some z6,some bit,some (.int aI),some Y,some L])):
 (aB (bW (aj (af bX (aa 4) (af cQ (ae (.int 1)) (af bA (aa 0) (ae (.int 0))))) (aj (a9 (cy 1 [5,6] none FI (ai 0) FT FE)) ag)))) [D.tup [.int r,TS,RS,e],k,z6,bit,D.int aI,Y,L]=some (.rt (.tup [.int (aI % m),.lst Z]) [D.tup [.int r,TS,RS,e],k,z6,bit,D.int aI,Y,L]):=by
 generalize cQ=SH at hs ⊢;walk_at "e"
section
variable{r:Int}{U:Zf}{G:Z9}{e:Str}
def DR(ok:q26 r U G e):cQ (.int 1) (.int r)=some (.int (2^r.toNat)):=by
 have r4:=ok.r4;have r6:r<=1000000:=by lia
 simp[cQ,lJ,mS,ok.r0,r6]
def qst(ok:q26 r U G e)(k:Nat):(aJ G k).length=U.length/\∀b∈aJ G k,b=0∨b=1:=by have m1:=ok.m1;have hk:k % G.length<G.length:=mod_lt _ (by lia);unfold aJ;rw[jh hk];exact ok.rw _ (ka hk)
def qe2{row signs:Zf}(h:row.length=signs.length):(((List.range signs.length).filter λi=>row.getD i 0==1).map λi=>signs.getD i 0)=gG row signs:=by
 have e1:signs.zip row=(List.range signs.length).map λi=>(signs.getD i 0,row.getD i 0):=by
  apply ext_getElem
  .simp[h]
  .intro i h1 h2;simp at h1 h2;simp[h1,h2,h]
 unfold gG;rw[e1,filter_map,jr];rfl
def AI(ok:q26 r U G e)(k:Nat)(z6 bit:Int)(a0:0<=z6)(hb:0<=bit):fyF [au r U G e,.int k,.int z6,.int bit]=some (.tup [.int ((2*z6+bit) % 2^r.toNat),.lst ((gG (aJ G k) (U.map (eU (2*z6+bit)))).map D.int)]):=by
 have p16:=mI ok.r0 ok.r4;have c1:=gR (n:=1) (js:=[4]) (fg:=ai 0) (fe:=aU fyE pM) (M:=[au r U G e,D.int (k:Int),D.int z6,D.int bit,D.int (2*z6+bit),none,none])
  (λd=>match d with|.int t=>.int (eU (2*z6+bit) t)|d=>d) (U.map D.int) (λx hx=>by obtain⟨t,ht,rfl⟩:=List.mem_map.mp hx;have tb:=ok.tb t ht;have ea:=Fi (x:=2*z6+bit) (y:=t) (by lia) tb.1;have le:(2*z6+bit).toNat &&& t.toNat<=t.toNat:=Nat.and_le_right;have ho:=qxg (Builtin.bitAnd (2*z6+bit) t) (by lia) (by lia);rw[show(Builtin.bitAnd (2*z6+bit) t).toNat=(2*z6+bit).toNat &&& t.toNat from by lia]at ho;exact⟨[D.int t,D.int (2*z6+bit)],rfl,AN ho⟩)
 have es:(U.map D.int).map (λd=>match d with|.int t=>D.int (eU (2*z6+bit) t)|d=>d)=(U.map (eU (2*z6+bit))).map D.int:=by rw[jr,jr];rfl
 rw[es]at c1;have c2:(U.map (eU (2*z6+bit))).length=U.length:=ja ..;generalize U.map (eU (2*z6+bit))=signs at c1 c2 ⊢;have hrow:=qst ok k;have hat:∀i:Nat,i<signs.length->cc ((aJ G k).map D.int) (i:Int)=some (.int ((aJ G k).getD i 0))/\cc (signs.map D.int) (i:Int)=some (.int (signs.getD i 0)):=λi hi=>by
  refine⟨?_,?_⟩
  .rw[mv (by lia) (by rw[ja];lia),xh,jo,jh (by lia),jl,jh (by lia)];rfl
  .rw[mv (by lia) (by rw[ja];lia),xh,jo,jh hi,jl,jh hi];rfl
 have cf:=qO (n:=1) (js:=[5,6]) (fg:=ai 0) (ft:=bq vM) (fe:=af bA (aa 1) (aa 0)) (M:=[au r U G e,D.int (k:Int),D.int z6,D.int bit,D.int (2*z6+bit),D.lst (signs.map D.int),D.tup ((aJ G k).map D.int)])
  (λd=>match d with|.int i=>(aJ G k).getD i.toNat 0==1|_=>false) (λd=>match d with|.int i=>.int (signs.getD i.toNat 0)|d=>d) (de 0 signs.length) (λx hx=>by obtain⟨i,hx1⟩:=List.mem_iff_getElem?.mp hx;obtain⟨hi,rfl⟩:=mN hx1;rw[Int.zero_add];obtain⟨h1,h2⟩:=hat i hi;exact⟨_,rfl,AK h1,λ_=>AJ h2⟩)
 have ey:((de 0 signs.length).filter (λd=>match d with|.int i=>(aJ G k).getD i.toNat 0==1|_=>false)).map (λd=>match d with|.int i=>D.int (signs.getD i.toNat 0)|d=>d)=(gG (aJ G k) signs).map D.int:=by
  rw[<-qe2 (hrow.1.trans c2.symm)];unfold de;rw[List.filter_map,jr,jr];have e3:((λd=>match d with|D.int i=>(aJ G k).getD i.toNat 0==1|_=>false)∘λ(i:Nat)=>D.int (0+(i:Int)))=λi=>(aJ G k).getD i 0==1:=by funext i;show((aJ G k).getD ((0:Int)+(i:Int)).toNat 0==1)=_;rw[Int.zero_add,xh]
  rw[e3];refine List.map_congr_left λi _=>?_;show D.int (signs.getD ((0:Int)+(i:Int)).toNat 0)=_;rw[Int.zero_add,xh];rfl
 rw[ey]at cf;have hl:0<(G.map dj).length:=by have:=ok.m1;rw[ja];lia
 have ln:((signs.map D.int).length:Int)=(signs.length:Nat):=by rw[ja]
 have t4:=ok.t4;have hI:=qD (AM (au r U G e) (.int (k:Int)) (.int z6) (.int bit) (.int (2*z6+bit)) (.tup ((aJ G k).map D.int)) (signs.map D.int)) (by lia) (by rw[ln];lia);rw[ln,xh]at hI;exact jT rfl ⟨_,(bU (AR)).trans<|(bU (AQ (by rw[ja];exact dw (by lia)) c1)).trans<|
  (bU (AO hl (EY ok k))).trans<|AL (by decide) (by rw[ip];exact dw (by lia)) (DR ok) (by lia) hI cf⟩
end
def qjw{R TS RS W:D}{e:Str}(h:cZ (.str e) (.str "ring")=some false):fyG [.tup [R,TS,RS,.str e],W]=some (.int 0):=by unfold fyG tP;walk_at "e"
def AZ{S:D}{W:List D}(lw:W.length<=sizeLine):Nx (aw 2 (a9 (gq dE (aa 1)))) [S,D.lst W,none,none,none,none,none] 2 (D.lst W):=by walk_at "e"
def AV{R TS RS W B:D}{e:Str}{FX:aH}(h:cZ (.str e) (.str "ended")=some false):Nz (cJ pP FX aZ) [D.tup [R,TS,RS,.str e],W,B,none,none,none,none]:=by walk_at "e"
def AS(TS RS W:D)(r:Int)(B Z:List D)(e:Str)(FR:aV)(h:cZ (.str e) (.str "ended")=some true)(hr:Ns FR [D.tup [.int r,TS,RS,.str e],W,D.lst B,none,none,none,none] Z)(l:B.length+Z.length<=sizeLine):Nx (cJ pP (aw 2 (af bM (aa 2) (a9 FR))) aZ) [D.tup [.int r,TS,RS,.str e],W,D.lst B,none,none,none,none] 2 (D.lst (B++Z)):=by
 walk_at "e"
def A0{r:Int}{TS RS W B e:D}(one:1<=sizeLine):Ns (aT (aj (ae (.int 0)) ag)) [D.tup [.int r,TS,RS,e],W,B,none,none,none,none] [.int 0]:=by walk_at "e"
def AW{r:Int}{TS RS W B e:D}:(af bA (aa 0) (ae (.int 0))) [D.tup [.int r,TS,RS,e],W,B,none,none,none,none]=some (.int r,[some (.tup [.int r,TS,RS,e]),some W,some B,none,none,none,none]):=by walk_at "e"
def AY{S W B:D}{a:D}(h:fyG [S,W]=some a):Nx Co [S,W,B,none,none,none,none] 3 a:=by walk_at "e"
def AX{S W B a:D}(z0:0<=sizeLine):Nx (cH 4 (aT ag)) [S,W,B,a,none,none,none] 4 (D.lst []):=by walk_at "e"
def AT{S W:D}{z k' nz b:Int}{B F S2:List D}(v6:Option D)(hb:cc B k'=some (.int b))(st:fyF [S,.int k',.int z,.int b]=some (.tup [.int nz,.lst S2]))(ln:F.length+S2.length<=sizeLine):
 Cj [S,W,D.lst B,D.int z,D.lst F,D.int k',v6]=some (.nx [S,W,D.lst B,D.int nz,D.lst (F++S2),D.int k',D.lst S2]):=by
 walk_at "e"
def AU(S W a F:D)(B:List D):Ns (aj (aO cr (aa 2)) ag) [S,W,D.lst B,a,F,none,none] [.int ((B.length:Nat):Int)]:=by walk_at "e"
def qs7{S W B a:D}{X F:List D}{v3 v5 v6:Option D}{FI:aV}{FB:aH}(hI:Ns FI [S,W,B,a,D.lst [],none,none] X)
 (l1:eL (ai 5) FB X [S,W,B,a,D.lst [],none,none]=some (.nx [S,W,B,v3,D.lst F,v5,v6])):
 (aq (bI FI (ai 5) FB) (kL 4)) [S,W,B,a,D.lst [],none,none]=some (.rt (.lst F) [S,W,B,v3,none,v5,v6]):=by
 walk_at "e"
def F7{b:aH}{n k:Nat}{ds:List D}{F:List D}(hl:ds.length=n)(h:∃M,b (ds.map some++replicate (k-n) none)=some (.rt (.lst F) M)):aG true n k b ds=some (.lst F):=by obtain⟨M,h⟩:=h;unfold aG;rw[if_pos hl,h]
section
variable{r:Int}{U:Zf}{G:Z9}{e:Str}
def rB(ok:q26 r U G e)(k:Nat):(bS U G k).length<=4:=by unfold bS;apply jz (length_filter_le _ _);rw[vg];have:=ok.t4;have:=vp U.length (aJ G k).length;lia
def ur(ok:q26 r U G e)(k:Nat):(bO U G k).length<=k*4:=uA _ 4 (λk=>by rw[x6];exact rB ok k) _
def qio{n:Nat}{w:Zf}(hb:aC w)(hn:n<=w.length):bi (2^n) 0 w=aP (w.drop (w.length-n)):=by
 have m0:(0:Int)<2^n:=pow_pos (by decide);have hl:(w.drop (w.length-n)).length=n:=by rw[xx];lia
 have ha:=kX (w.drop (w.length-n)) λb h=>hb b (mem_of_mem_drop h);rw[hl]at ha;have h1:=qJ (2^n) w 0;have hw:=qN (w.take (w.length-n)) (w.drop (w.length-n));rw[take_append_drop,hl]at hw;rw[lB,hw,zero_mul,zero_add,Int.add_comm,Int.add_mul_emod_self_right,emod_eq_of_lt ha.1 ha.2]at h1;have h2:=kW m0 w 0 ⟨le_refl _,m0⟩;rw[emod_eq_of_lt h2.1 h2.2]at h1;exact h1
def Ba{TS RS E W:D}{r z6 b m:Int}(hs:cQ (.int 1) (.int r)=some (.int m))(h0:0<m):(aw 2 (af bX pO (af cQ (ae (.int 1)) (af bA (aa 0) (ae (.int 0)))))) [D.tup [.int r,TS,RS,E],W,D.int z6,D.int b]=some (.nx [D.tup [.int r,TS,RS,E],W,D.int ((2*z6+b) % m),D.int b]):=by generalize cQ=SH at hs ⊢;walk_at "e"
def qsr{R TS RS:D}{W:List D}{e:Str}{z:Int}{v3:Option D}{FB:aH}(h:cZ (.str e) (.str "ring")=some true)(hf:eL (ai 3) FB W [D.tup [R,TS,RS,.str e],D.lst W,D.int 0,none]=some (.nx [D.tup [R,TS,RS,.str e],D.lst W,D.int z,v3])):
 (aG false 2 4 (aq (aw 2 (ae (.int 0))) (aq (cJ (bq vP)
 (bI (br (aa 1)) (ai 3) FB)
 aZ) (aB (aa 2))))) [.tup [R,TS,RS,.str e],.lst W]=some (.int z):=by
 walk_at "e"
def ma(ok:q26 r U G e)(w:Zf)(hb:aC w)(hw:e="ring"->r.toNat<=w.length):fyG [au r U G e,.lst (w.map D.int)]=some (.int (bJ r e w)):=by
 by_cases q:e="ring"
 .have m0:(0:Int)<2^r.toNat:=pow_pos (by decide);let⟨M',l1,v3,hρ⟩:=iF (fg:=ai 3) (fb:=(aw 2 (af bX pO (af cQ (ae (.int 1)) (af bA (aa 0) (ae (.int 0))))))) (λk M=>∃v3,M=[some (au r U G e),some (.lst (w.map D.int)),some (.int (bi (2^r.toNat) 0 (w.take k))),v3]) (w.map D.int) 0
   [some (au r U G e),some (.lst (w.map D.int)),some (.int 0),none] ⟨none,rfl⟩ (by rintro i x M hx ⟨v3,rfl⟩;rw[jo]at hx;obtain⟨b,hb1,rfl⟩:=Option.map_eq_some_iff.mp hx;rw[x8];refine⟨_,_,rfl,.inl (Ba (DR ok) m0),some (.int b),?_⟩;rw[cX hb1,zO,show 2*bi (2^r.toNat) 0 (w.take i)+b=bi (2^r.toNat) 0 (w.take i)+bi (2^r.toNat) 0 (w.take i)+b from by lia];rfl)
  subst hρ;rw[x8,ja,take_length,qio hb (hw q)]at l1;unfold bJ;rw[if_pos q];unfold fyG tP;exact qsr (by rw[q];exact nT) l1
 .unfold bJ;rw[if_neg q];refine qjw ?_;rcases ok.en with g|g|g
  .rw[g];exact nU
  .rw[g];exact nV
  .exact absurd g q
def kM(r:Int)(U:Zf)(G:Z9)(e:Str)(w:Zf):List Int:=mX (bD e) r.toNat U G w (w.length+aE r e)
def GV(ok:q26 r U G e){w:Zf}(hb:aC w)(hw:e="ring"->r.toNat<=w.length):qd r.toNat U G (bJ r e w) (tu r e w)=kM r U G e w:=by rw[y7,qq3,qk0 (by have:=ok.r4;lia) hb (qgr hw) λt h=>(ok.tb t h).1];rfl
def Fg(ok:q26 r U G e)(w:Zf)(hb:aC w)(hw:e="ring"->r.toNat<=w.length)(hl:w.length<=60):fyH [au r U G e,.lst (w.map D.int)]=some (.lst ((kM r U G e w).map D.int)):=by
 have z4:=lC ok;have r0:=ok.r0;have r4:=ok.r4;have ne:e≠"ended"->cZ (.str e) (.str "ended")=some false:=λq=>by
  rcases ok.en with g|g|g
  .rw[g];exact rE
  .exact absurd g q
  .rw[g];exact rD
 have hB:(cJ pP
  CL
  aZ) [au r U G e,D.lst (w.map D.int),D.lst (w.map D.int),none,none,none,none]=some (.nx [au r U G e,D.lst (w.map D.int),D.lst ((w++replicate (aE r e) 0).map D.int),none,none,none,none]):=by
  by_cases g:e="ended"
  .have ez:aE r e=r.toNat:=by rw[g];exact if_pos rfl
   have hrep:(d5 (aT (aj (ae (.int 0)) ag)) (af bA (aa 0) (ae (.int 0)))) [au r U G e,D.lst (w.map D.int),D.lst (w.map D.int),none,none,none,none]=some (replicate r.toNat (D.int 0),[some (au r U G e),some (.lst (w.map D.int)),some (.lst (w.map D.int)),none,none,none,none]):=xR (A0 (by decide)) (AW) (yV r0 (by lia));have:=AS (.tup (U.map D.int)) (.tup (G.map dj)) (.lst (w.map D.int)) r (w.map D.int) _ e _ (by rw[g];exact rF) hrep (by rw[ja,x6];exact dw (by lia));rw[ez,xk,map_replicate];exact this
  .have ez:aE r e=0:=if_neg g;rw[ez,List.replicate_zero,append_nil];exact AV (ne g)
 rw[<-GV ok hb hw,y7];have hul:(w++replicate (aE r e) 0).length=w.length+aE r e:=by rw[jt,x6]
 have hbb:aC (w++replicate (aE r e) 0):=ii hb (ux _);have hst:=ma ok w hb hw;have ha:=zn (r:=r) (e:=e) kX w hb hw;generalize bJ r e w=a at hst ha;generalize w++replicate (aE r e) 0=u at hB hul hbb;have m0:(0:Int)<2^r.toNat:=pow_pos (by decide);let⟨M',l1,v5,v6,hρ⟩:=iF (fg:=ai 5) (fb:=aq C2
 (cH 4 (qj qh (aa 4) (aa 6))))
   (λk M=>∃(v5 v6:Option D),M=[some (au r U G e),some (.lst (w.map D.int)),some (.lst (u.map D.int)),some (.int (bi (2^r.toNat) a (u.take k))),some (.lst (((List.range k).flatMap (gg r.toNat U G a u)).map D.int)),v5,v6]) (de 0 u.length) 0
   [some (au r U G e),some (.lst (w.map D.int)),some (.lst (u.map D.int)),some (.int a),some (.lst []),none,none] ⟨none,none,rfl⟩ (by
    rintro i x M hx ⟨v5,v6,rfl⟩;obtain⟨hi,rfl⟩:=mN hx;rw[x8];rw[zero_add];have hbi:=hbb _ (ka hi);have ek:u[i]? =some u[i]:=jh hi;have ga:cc (u.map D.int) (i:Int)=some (.int u[i]):=by rw[mv (by lia) (by rw[ja];lia),xh,jo,ek];rfl
    have hr:=kW m0 (u.take i) a ha;have st:=AI ok i (bi (2^r.toNat) a (u.take i)) u[i] hr.1 (by lia);have es:gG (aJ G i) (U.map (eU (2*bi (2^r.toNat) a (u.take i)+u[i])))=gg r.toNat U G a u i:=by unfold gg;rw[jl,ek];rfl
    rw[es]at st;have p4:=zQ (U:=U) (G:=G) (m:=r.toNat) (a:=a) (u:=u) i;have p5:=ur ok i;have q4:=rB ok i;have q5:=HI (U:=U) (G:=G) (m:=r.toNat) (a:=a) (u:=u) i;have hle:(((List.range i).flatMap (gg r.toNat U G a u)).map D.int).length+((gg r.toNat U G a u i).map D.int).length<=sizeLine:=by rw[ja,ja];exact dw (by lia)
    refine⟨_,_,rfl,.inl (AT v6 ga st hle),some (.int (i:Int)),some (.lst ((gg r.toNat U G a u i).map D.int)),?_⟩;rw[jC,xk,cX ek,zO,show 2*bi (2^r.toNat) a (u.take i)+u[i]=bi (2^r.toNat) a (u.take i)+bi (2^r.toNat) a (u.take i)+u[i]from by lia])
 subst hρ;rw[ip,x8]at l1;have ln:((u.map D.int).length:Int)=(u.length:Nat):=by rw[ja]
 have hI:=qD (AU (au r U G e) (.lst (w.map D.int)) (.int a) (.lst []) (u.map D.int)) (by lia) (by rw[ln];lia);rw[ln,xh]at hI;exact F7 rfl ⟨_,(bU (AZ (by rw[ja];exact dw (by lia)))).trans<|(bU hB).trans<|(bU (AY hst)).trans<|
  (bU (AX (by decide))).trans<|qs7 hI l1⟩
end
noncomputable def eJ(t:Int×Int×Int):D:=.tup [.int t.1,.int t.2.1,.int t.2.2]
def qqy{s z6 c k:Int}{TB:D}{T R:List D}(h1:f6 TB (.int s)=some (.lst T))(h2:cc T k=some (.lst R))(h3:cc R z6=some .non):fyv [.tup [.int s,.int z6,.int c],TB,.int k]=some .non:=by unfold fyv tN;generalize hd:f6=dx at h1 ⊢;clear hd;walk_at "e"
def qqx{s z6 c k x:Int}{TB:D}{T R:List D}(h1:f6 TB (.int s)=some (.lst T))(h2:cc T k=some (.lst R))(h3:cc R z6=some (.int x)):fyv [.tup [.int s,.int z6,.int c],TB,.int k]=some (.int (c+x)):=by unfold fyv tN;generalize hd:f6=dx at h1 ⊢;clear hd;walk_at "e"
def B0{T TB:D}{B:List D}:Nx (aw 3 (aO cr (aa 0))) [D.lst B,T,TB,none,none] 3 (D.int ((B.length:Nat):Int)):=by walk_at "e"
def BZ{B TB k:D}{T A:List D}{FT:eI}(lt:T.length<=sizeLine)(cf:Ns (cz 1 [2,3] none (ai 0) FT (aa 0) T) [B,D.lst T,TB,k,none] A):Nx (aw 4 (a9 (cy 1 [2,3] none (br (aa 1)) (ai 0) FT (aa 0)))) [B,D.lst T,TB,k,none] 4 (D.lst A):=by
 walk_at "e"
def BY{B T TB k m:D}{A Y:List D}{DM:D->Option D}{FE:aF}(lt:A.length<=sizeLine)(zt:3<=sizeLine)(cm:Ns (cz 1 [2,3] none (ai 0) (ae true) FE A) [B,T,TB,k,D.lst A] Y)(hm:DM (.lst Y)=some m):Nr (aB (bW (aj (aO DM (a9 (cy 1 [2,3] none (br (aa 4)) (ai 0) (ae true) FE))) (aj (aa 0) (aj (aa 4) ag))))) [B,T,TB,k,D.lst A] (D.tup [m,B,.lst A]):=by
 walk_at "e"
def Ft{t TB k y:D}(h:fyv [t,TB,k]=some y):Ns (aU fyv hV) [t,TB,k] y:=by walk_at "e"
def qqw(o:Option Int)(FC:aF)(M:az)(h:FC M=some (bV o,M)):(bq (af kH FC (ae .non))) M=some (o.isSome,M):=by
 rw[yH,Ek,h];cases o with
 |none=>rfl
 |some x=>rfl
noncomputable def sY(d:D):Option (Int×Int×Int):=match d with
 |.tup [.int s,.int r,.int c]=>some (s,r,c)
 |_=>none
theorem G3(c:Int×Int×Int->Option Int):∀trs:List (Int×Int×Int),(trs.filter λt=>(c t).isSome).map (λt=>bV (c t))=(trs.filterMap c).map D.int
 |[]=>rfl
 | t::trs=>by
  have ih:=G3 c trs;cases h:c t with
  |none=>rw[filter_cons_of_neg (by rw[h];decide),List.filterMap_cons_none h,ih]
  |some x=>rw[filter_cons_of_pos (by rw[h];rfl),List.filterMap_cons_some h,x5,x5,ih,h];rfl
def qxu(b:Zf)(trs:List (Int×Int×Int))(TB:D)(c:Int×Int×Int->Option Int)(m:Int)(hc:∀t∈trs,fyv [eJ t,TB,.int (b.length:Nat)]=some (bV (c t)))(hl:trs.length<=1000)(hm:cU (trs.filterMap c)=some m):
 fyw [.lst (b.map D.int),.lst (trs.map eJ),TB]=some (.tup [.int m,.lst (b.map D.int),.lst ((trs.filter λt=>(c t).isSome).map eJ)]):=by
 have cf:=qO (n:=1) (js:=[2,3]) (fg:=ai 0) (ft:=bq (af kH (aU fyv hV) (ae .non))) (fe:=aa 0) (M:=[D.lst (b.map D.int),D.lst (trs.map eJ),TB,D.int ((b.map D.int).length:Nat),none])
  (λd=>((sY d).bind c).isSome) (λd=>d) (trs.map eJ) (λx hx=>by obtain⟨t,ht,rfl⟩:=List.mem_map.mp hx;have h:=hc t ht;refine⟨[eJ t,TB,D.int ((b.map D.int).length:Nat)],rfl,?_,λ_=>rfl⟩;rw[ja];exact qqw (c t) _ _ (Ft h))
 have e1:((trs.map eJ).filter λd=>((sY d).bind c).isSome).map (λd=>d)=(trs.filter λt=>(c t).isSome).map eJ:=by rw[List.map_id',filter_map];rfl
 rw[e1]at cf;have sub:∀t∈trs.filter (λt=>(c t).isSome),t∈trs:=λt ht=>(List.mem_filter.mp ht).1;have la:(trs.filter λt=>(c t).isSome).length<=1000:=jz (length_filter_le _ _) hl;have cm:=gR (n:=1) (js:=[2,3]) (fg:=ai 0) (fe:=aU fyv hV) (M:=[D.lst (b.map D.int),D.lst (trs.map eJ),TB,D.int ((b.map D.int).length:Nat),D.lst ((trs.filter λt=>(c t).isSome).map eJ)])
  (λd=>bV ((sY d).bind c)) ((trs.filter λt=>(c t).isSome).map eJ) (λx hx=>by obtain⟨t,ht,rfl⟩:=List.mem_map.mp hx;have h:=hc t (sub t ht);refine⟨[eJ t,TB,D.int ((b.map D.int).length:Nat)],rfl,?_⟩;rw[ja,Ft h];rfl)
 have e2:((trs.filter λt=>(c t).isSome).map eJ).map (λd=>bV ((sY d).bind c))=(trs.filterMap c).map D.int:=by rw[<-G3,jr];rfl
 rw[e2]at cm;have hd:tw (.lst ((trs.filterMap c).map D.int))=some (.int m):=by
  show(match eB ((trs.filterMap c).map D.int)with
   |some ns=>if ns≠[]then some (D.int ((cU ns).getD 0))else none
   |none=>none)=_
  rw[jX];have hne:trs.filterMap c≠[]:=λz=>by rw[z]at hm;cases hm
  show(if trs.filterMap c≠[]then some (D.int ((cU (trs.filterMap c)).getD 0))else none)=_;rw[if_pos hne,hm];rfl
 exact jT rfl ⟨_,(bU (B0)).trans<|(bU (BZ (by rw[ja];exact dw (by lia)) cf)).trans<|BY (by rw[ja];exact dw (by lia)) (by decide) cm hd⟩
def Ff{s z6 c x y z:Int}{CH R:List D}(h1:cc CH z6=some (.lst R))(h2:cc R x=some (.tup [.int y,.int z]))(zt:3<=sizeLine):fyx [.tup [.int s,.int z6,.int c],.int x,.lst CH]=some (.tup [.int s,.int y,.int (c+z)]):=by unfold fyx wY;walk_at "e"
def BW{t x CH y:D}(h:fyx [t,x,CH]=some y):((aU fyx hV) [t,x,CH]).map (·.1)=some y:=by walk_at "e"
def BX{m B x CH TB:D}{T Y:List D}{FE:aF}(lt:T.length<=sizeLine)(cm:Ns (cz 1 [1,2] none (ai 0) (ae true) FE T) [D.tup [m,B,.lst T],x,CH,TB,none] Y):Nx (aw 4 (a9 (cy 1 [1,2] none Ca (ai 0) (ae true) FE))) [D.tup [m,B,.lst T],x,CH,TB,none] 4 (D.lst Y):=by
 walk_at "e"
def BV{m T x CH TB TR y:D}{B:List D}(one:1<=sizeLine)(lb:B.length+1<=sizeLine)(h:fyw [.lst (B++[x]),TR,TB]=some y):Nr CP [D.tup [m,.lst B,T],x,CH,TB,TR] y:=by
 walk_at "e"
theorem He{α β:Type}{f:α->Option β}{q:α->Bool}:∀{xs:List α},(∀x∈xs,(f x).isSome=true->q x=true)->(xs.filter q).filterMap f=xs.filterMap f/\((xs.filter q).filter λx=>(f x).isSome)=xs.filter λx=>(f x).isSome
 |[],_=>⟨rfl,rfl⟩
 | x::xs,h=>by
  let⟨h1,h2⟩:=He λy hy=>h y (ji _ hy);cases e:f x with
  | none=>
   have n1:¬(f x).isSome=true:=by rw[e];exact λz=>nomatch z
   rw[List.filterMap_cons_none e,filter_cons_of_neg (p:=λx=>(f x).isSome) n1];by_cases z:q x=true
   .rw[filter_cons_of_pos z,List.filterMap_cons_none e,filter_cons_of_neg (p:=λx=>(f x).isSome) n1];exact⟨h1,h2⟩
   .rw[filter_cons_of_neg z];exact⟨h1,h2⟩
  | some y=>
   have n1:(f x).isSome=true:=by rw[e];rfl
   have z:=h x jj n1;rw[filter_cons_of_pos z,List.filterMap_cons_some e,List.filterMap_cons_some e,filter_cons_of_pos (p:=λx=>(f x).isSome) n1,filter_cons_of_pos (p:=λx=>(f x).isSome) n1,h1,h2];exact⟨rfl,rfl⟩
section
variable(r:Int)(U:Zf)(G:Z9)(e:Str)(ts:List Told)(n:Nat)
def pz(b:Zf):List (Int×Int×Int):=((cY r e).filter λs=>(cW r U G e ts n s b).isSome).map λs=>(s,bG r U G e ts n s b)
def cI(b:Zf):D:=.tup [.int (bz r U G e ts n b),.lst (b.map D.int),.lst ((pz r U G e ts n b).map eJ)]
def iB:D:=.dct ((cY r e).map λs=>(Sum.inl s,oQ (fm r U G e ts n s)))
end
section
variable{r:Int}{U:Zf}{G:Z9}{e:Str}{ts:List Told}{n:Nat}
def qii{ss:Zf}{f:Int->D}{s:Int}(h:s∈ss):mQ (ss.map λs=>(Sum.inl s,f s)) s=some (f s):=by
 induction ss with
 |nil=>cases h
 | cons a r ih=>
  unfold mQ;rw[x5];by_cases z:a=s
  .subst z;simp[find?_cons]
  .have h1:s∈r:=by
    rcases List.mem_cons.mp h with h|h
    .exact absurd h.symm z
    .exact h
   have:=ih h1;unfold mQ at this;rw[<-this];simp[find?_cons,z]
def qxi(ts:List Told)(n:Nat):∀(len k:Nat) (st:Sx),st∈b7 r U G ts n k len->st.length=2^r.toNat/\∀ch∈st,ch.length<=2/\∀q∈ch,0<=q.1/\q.1.toNat<2^r.toNat:=by
 intro len;induction len with
 |zero=>intro k st h;cases h
 | succ len ih=>
  intro k st h;have ok1:=pG (r:=r) (U:=U) (G:=G) (ts:=ts) (n:=n) (len+1) k;rw[uN]at h ok1;rcases List.mem_cons.mp h with h|h
  .subst h;refine⟨ok1.1,λch hc=>⟨?_,(ok1.2.1 ch hc).2⟩⟩;rw[(ok1.2.1 ch hc).1];split<;>lia
  .exact ih _ _ h
def Gd(ts:List Told)(n:Nat)(s:Int):(fm r U G e ts n s).length=n+aE r e+1:=by unfold fm;rw[Ae,lE]
def qoe{s:Int}{k:Nat}{t:Rw}(h:(fm r U G e ts n s)[k]? =some t):t.length=2^r.toNat:=by
 have hk:k<=n+aE r e:=by have:=(List.getElem?_eq_some_iff.mp h).1;rw[Gd]at this;lia
 unfold fm at h;rw[<-List.head?_drop,Al _ _ k (by rw[lE];exact hk)]at h;have e1:(bT ((b7 r U G ts n 0 (n+aE r e)).drop k) (eQ r e s)).headD []=t:=by rw[List.headD_eq_head?_getD,h];rfl
 rw[<-e1];exact Gy (by unfold eQ;simp) λz hz=>(qxi ts n _ _ z (mem_of_mem_drop hz)).1
def qtg{s:Int}{b:Zf}(hs:s∈cY r e)(hb:aC b)(hl:b.length<=n):fyv [eJ (s,bG r U G e ts n s b),iB r U G e ts n,.int (b.length:Nat)]=some (bV (cW r U G e ts n s b)):=by
 have hk:b.length<(fm r U G e ts n s).length:=by rw[Gd];lia
 have h1:f6 (iB r U G e ts n) (.int s)=some (.lst ((fm r U G e ts n s).map dR)):=qii hs;have ek:(fm r U G e ts n s)[b.length]? =some (fm r U G e ts n s)[b.length]:=jh hk;have h2:cc ((fm r U G e ts n s).map dR) (b.length:Int)=some (.lst ((fm r U G e ts n s)[b.length].map bV)):=by rw[mv (by lia) (by rw[ja];lia),xh,jo,ek];rfl
 have hr:=zI (U:=U) (G:=G) (ts:=ts) hs hb hl;have h3:=Fk (t:=(fm r U G e ts n s)[b.length]) hr.1 (by rw[qoe ek];exact hr.2);have ec:cW r U G e ts n s b=(dZ (fm r U G e ts n s)[b.length] (bG r U G e ts n s b).1).map λx=>(bG r U G e ts n s b).2+x:=by unfold cW;rw[jl,ek];rfl
 rw[ec];cases q:dZ (fm r U G e ts n s)[b.length] (bG r U G e ts n s b).1 with
 | none=>
  rw[q]at h3;exact qqy h1 h2 h3
 | some x=>
  rw[q]at h3;exact qqx h1 h2 h3
def Ak(ok:q26 r U G e):(cY r e).length<=16:=by
 have p16:=mI ok.r0 ok.r4;have pn:=ig (r:=r);unfold cY;split
 .simp;lia
 .simp
section
variable(ok:q26 r U G e)(hr:e="ring"->r.toNat<=n)(ht:ts.length=(bO U G (n+aE r e)).length)
include ok hr ht
theorem DF{b:Zf}(hb:aC b)(hl:b.length<=n)(q:Int->Bool)(hq:∀s∈cY r e,(cW r U G e ts n s b).isSome=true->q s=true):
 fyw [.lst (b.map D.int),.lst ((((cY r e).filter q).map λs=>(s,bG r U G e ts n s b)).map eJ),iB r U G e ts n]=some (cI r U G e ts n b):=by
 let⟨k1,k2⟩:=He hq;have lm:=Ak ok;have lf:((cY r e).filter q).length<=16:=jz (length_filter_le _ _) lm;have hm:=(qK hr ok.en ht hb hl).1;have h:=qxu b (((cY r e).filter q).map λs=>(s,bG r U G e ts n s b)) (iB r U G e ts n) (λt=>(dZ ((fm r U G e ts n t.1).getD b.length []) t.2.1).map λx=>t.2.2+x) (bz r U G e ts n b) (λt ht=>by
  obtain⟨s,hs,rfl⟩:=List.mem_map.mp ht;exact qtg (List.mem_filter.mp hs).1 hb hl) (by rw[ja];lia) (by
  rw[List.filterMap_map];have e1:(((cY r e).filter q).filterMap ((λt:Int×Int×Int=>(dZ ((fm r U G e ts n t.1).getD b.length []) t.2.1).map λx=>t.2.2+x)∘λs=>(s,bG r U G e ts n s b)))=((cY r e).filter q).filterMap λs=>cW r U G e ts n s b:=rfl;rw[e1,k1];exact hm)
 rw[h];unfold cI pz;rw[filter_map,<-k2];rfl
theorem GJ{b:Zf}{x:Int}(hb:aC b)(hx:x=0∨x=1)(hl:b.length<n)(hn:n<=60):
 fyy [cI r U G e ts n b,.int x,gc (stepK r U G ts n b.length),iB r U G e ts n]=some (cI r U G e ts n (b++[x])):=by
 have lm:=Ak ok;have pn:=ig (r:=r);have hbx:aC (b++[x]):=ii hb λy hy=>by rw[List.mem_singleton.mp hy];exact hx
 have lf:((cY r e).filter λs=>(cW r U G e ts n s b).isSome).length<=16:=jz (length_filter_le _ _) lm;have cm:=gR (n:=1) (js:=[1,2]) (fg:=ai 0) (fe:=aU fyx hV) (M:=[cI r U G e ts n b,D.int x,gc (stepK r U G ts n b.length),iB r U G e ts n,none])
  (λd=>match d with|.tup (.int s::_)=>eJ (s,bG r U G e ts n s (b++[x]))|d=>d) ((pz r U G e ts n b).map eJ) (λy hy=>by
    obtain⟨t,ht1,rfl⟩:=List.mem_map.mp hy;obtain⟨s,hs,rfl⟩:=List.mem_map.mp ht1;have hs:=(List.mem_filter.mp hs).1;have hrm:=zI (U:=U) (G:=G) (ts:=ts) hs hb (le_of_lt hl);refine⟨[eJ (s,bG r U G e ts n s b),D.int x,gc (stepK r U G ts n b.length)],rfl,BW ?_⟩;show _=some (eJ (s,bG r U G e ts n s (b++[x])));rw[qjq x hl];generalize bG r U G e ts n s b=p at hrm;have hlt:p.1<2^r.toNat:=by lia
    have ech:=Hb (U:=U) (G:=G) (ts:=ts) (n:=n) (k:=b.length) hrm.1 hlt;have lst':(stepK r U G ts n b.length).length=2^r.toNat:=by unfold L2.stepK;simp
    have a1:cc ((stepK r U G ts n b.length).map gX) p.1=some (.lst (((fj n b.length).map λy=>iI r U G ts b.length p.1 y).map nB)):=by
     rw[mv hrm.1 (by rw[ja,lst'];lia),jo];have e2:(stepK r U G ts n b.length)[p.1.toNat]? =some ((fj n b.length).map λy=>iI r U G ts b.length p.1 y):=by unfold cw at ech;rw[jl,jh (by rw[lst'];exact hrm.2)]at ech;rw[jh (by rw[lst'];exact hrm.2)];exact congrArg some ech
     rw[e2];rfl
    have eb:fj n b.length=[0,1]:=if_pos hl;rw[ech];rw[eb]at a1 ⊢;rcases hx with rfl|rfl
    .exact Ff a1 (Iu _ _) (by decide)
    .exact Ff a1 (nC _ _ _) (by decide))
 have em:((pz r U G e ts n b).map eJ).map (λd=>match d with|.tup (.int s::_)=>eJ (s,bG r U G e ts n s (b++[x]))|d=>d)=(((cY r e).filter λs=>(cW r U G e ts n s b).isSome).map λs=>(s,bG r U G e ts n s (b++[x]))).map eJ:=by unfold pz;rw[jr,jr,jr];rfl
 rw[em]at cm;have h:=DF ok hr ht hbx (by simp;lia) (λs=>(cW r U G e ts n s b).isSome) (λs hs h=>by
  have h1:=qev hr ok.en ht hs hbx hl (λz=>by rw[z]at h;cases h);cases q:cW r U G e ts n s b with
  |none=>exact absurd q h1
  |some _=>rfl)
 rw[xk]at h;have h:fyw [.lst (b.map D.int++[.int x]),_,_]=_:=h;refine jT rfl ⟨_,(bU (BX (by unfold pz;rw[ja,ja];exact dw (by lia)) cm)).trans<|BV (by decide) (by rw[ja];exact dw (by lia)) h⟩
end
theorem GC:∀E:List (List Int),mR (E.map (cI r U G e ts n))=some (E.map (bK (bz r U G e ts n)))
 |[]=>rfl
 | b::E=>by
  have h1:lW (cI r U G e ts n b)=some (bK (bz r U G e ts n) b):=by show(eB (b.map D.int)).map (λns=>(bz r U G e ts n b,ns))=_;rw[jX];rfl
  rw[x5,x5];unfold mR;rw[h1,GC E]
def FP{E:Z9}{k most:Nat}(h64:E.length<128)(nd:E.Nodup)(hk:∀b∈E,b.length=k):fyz [.lst (E.map (cI r U G e ts n)),.int (most:Nat)]=some (.lst ((dX (bz r U G e ts n) most E).map (cI r U G e ts n))):=by
 show m4 _=_;unfold m4;simp only[GC];have ok:okQ (E.map (bK (bz r U G e ts n))):=by
  refine⟨by rw[ja];exact h64,?_,λq hq=>?_⟩
  .show List.Pairwise (λa b=>a≠b) _;rw[pairwise_map];exact List.Pairwise.imp (λ{a b} h z=>h (zA z)) nd
  .obtain⟨b,hb,rfl⟩:=List.mem_map.mp hq;cases E with
   |nil=>cases hb
   |cons a E=>exact(hk b hb).trans (hk a jj).symm
 rw[if_pos ok,yF (by lia),xh];refine congrArg (λx=>some (D.lst x)) ?_;unfold dX cG;rw[map_take,jr];refine congrArg (List.take most) (map_congr_left λi hi=>?_);have li:i<E.length:=by simpa using List.mem_range.mp ((jB _).subset hi)
 show(E.map (cI r U G e ts n)).getD i .non=cI r U G e ts n (E.getD i []);rw[jl,jl,jo,jh li];rfl
end
def A9(c k b m:Int)(hm:(c % 10^18+1+k*k*104729)*742938285 % 2147483647=m)(q1: -18446744073709551616<k)(q2:k<18446744073709551616):
 CZ [D.int c,D.int k,D.int b,none,none]=some (.nx [D.int c,D.int k,D.int b,D.int m,none]):=by
 rw[<-hm];clear hm;walk_at "e"
def A8(c k b:D)(m:Int):Nx Ce [c,k,b,D.int m,none] 4 (D.int (m % 9)):=by walk_at "e"
def A7{c k b m:D}{y:Int}(two:2<=sizeLine)(h:y<4):Nr CN [c,k,b,m,D.int y] (D.tup [.str "clear",b]):=by walk_at "e"
def tK{c k b m:D}{y:Int}{FX:aH}(h:¬y<4):Nz (cJ B9 FX
 aZ) [c,k,b,m,D.int y]:=by
 walk_at "e"
def oZ{c k b m:D}{y :Int} (z :Int)(FX:aH)(h:(y==z)=false):Nz (cJ (bq (af fN (aa 4) (ae (.int z)))) FX
 aZ) [c,k,b,m,D.int y]:=by
 walk_at "e"
def A6{c k m:D}{b:Int}(two:2<=sizeLine):Nr CS [c,k,D.int b,m,D.int 4] (D.tup [.str "clear",.int (1-b)]):=by walk_at "e"
def A5{c k b m:D}(one:1<=sizeLine):Nr CG [c,k,b,m,D.int 5] (D.tup [.str "gap"]):=by walk_at "e"
def A1{c k b:D}{m j:Int}(hj:1-2*(m / 27 % 2)=j):CM [c,k,b,D.int m,D.int 6]=some (.int j,[some c,some k,some b,some (.int m),some (.int 6)]):=by rw[<-hj];clear hj;walk_at "e"
def A4{k b:D}{c m j:Int}{FB:aF}(zt:3<=sizeLine)(q1: -18446744073709551616<j)(q2:j<18446744073709551616)(h2:FB [D.int c,k,b,D.int m,D.int 6]=some (.int j,[some (.int c),some k,some b,some (.int m),some (.int 6)])):Nr (cJ B8
 (aB (bW (aj (ae (.str "soft")) (aj (af ia (af bX (aa 0) sL) FB) CF))))
 aZ) [D.int c,k,b,D.int m,D.int 6] (D.tup [.str "soft",.int (c % 10^60*j),.int (m / 9 % 3-1)]):=by
 walk_at "e"
def A3{c k b y:D}{m:Int}(zt:3<=sizeLine):Nr CW [c,k,b,D.int m,y] (D.tup [.str "soft",.int (m / 9 % 4),.int (m / 36 % 4)]):=by walk_at "e"
def qrp(c b:Int)(k:Nat)(hk:k<=100000):∃t:Told,fyI [.int c,.int k,.int b]=some (bQ t):=by
 obtain⟨m,hm⟩:∃m,(c % 10^18+1+(k:Int)*k*104729)*742938285 % 2147483647=m:=⟨_,rfl⟩;have a3:=A9 c k b m hm (by lia) (by lia);have a4:=A8 (.int c) (.int k) (.int b) m;by_cases h1:m % 9<4
 .exact⟨.clear b,jT rfl ⟨_,(bU a3).trans<|(bU a4).trans<|t9 (A7 (by decide) h1)⟩⟩
 .by_cases h2:m % 9=4
  .rw[h2]at a4;exact⟨.clear (1-b),jT rfl ⟨_,(bU a3).trans<|(bU a4).trans<|(bU (tK (by decide))).trans<|t9 (A6 (by decide))⟩⟩
  .by_cases h3:m % 9=5
   .rw[h3]at a4;exact⟨.gap,jT rfl ⟨_,(bU a3).trans<|(bU a4).trans<|(bU (tK (by decide))).trans<|(bU (oZ 4 _ rfl)).trans<|t9 (A5 (by decide))⟩⟩
   .by_cases h4:m % 9=6
    .rw[h4]at a4;exact⟨.soft (c % 10^60*(1-2*(m / 27 % 2))) (m / 9 % 3-1),jT rfl ⟨_,(bU a3).trans<|(bU a4).trans<|(bU (tK (by decide))).trans<|(bU (oZ 4 _ rfl)).trans<|(bU (oZ 5 _ rfl)).trans<|t9 (A4 (by decide) (by lia) (by lia) (A1 rfl))⟩⟩
    .exact⟨.soft (m / 9 % 4) (m / 36 % 4),jT rfl ⟨_,(bU a3).trans<|(bU a4).trans<|(bU (tK h1)).trans<|(bU (oZ 4 _ (beq_eq_false_iff_ne.mpr h2))).trans<|(bU (oZ 5 _ (beq_eq_false_iff_ne.mpr h3))).trans<|(bU (oZ 6 _ (beq_eq_false_iff_ne.mpr h4))).trans<|A3 (by decide)⟩⟩
def BC{N S W:D}(z0:0<=sizeLine):Nx (cH 3 (aT ag)) [N,S,W,none,none,none] 3 (D.lst []):=by walk_at "e"
def BA{N:List D}{S W F k b:D}{mx:Int}(hm:(if((N.length:Nat):Int)-2>1 then((N.length:Nat):Int)-2 else 1)=mx):(iJ (λi j=>if j>i then j else i) vT) [D.lst N,S,W,F,k,b]=some (.int mx,[some (.lst N),some S,some W,some F,some k,some b]):=by rw[<-hm];clear hm;walk_at "e"
def BB{N S W F b:D}{k' j mx:Int}{FM:aF}(m0:0<mx)(hj:2+k' % mx=j)(h2:FM [N,S,W,F,D.int k',b]=some (.int mx,[some N,some S,some W,some F,some (.int k'),some b])):
 (af bM (ae (.int 2)) (af bX (aa 4) FM)) [N,S,W,F,D.int k',b]=some (.int j,[some N,some S,some W,some F,some (.int k'),some b]):=by
 rw[<-hj];clear hj;walk_at "e"
def Bz{N S W:D}{F:List D}{k' b j c T:D}{FI:aF}(hI:Ns FI [N,S,W,D.lst F,k',b] j)(hc:fyA [N,j]=some c)(hs:fyI [c,k',b]=some T)(l:F.length<sizeLine):Nx (dD io 3 (aj (aU fyI (aj (aU fyA (aj (aa 0) (aj FI ag))) (aj (aa 4) (aj (aa 5) ag)))) ag)) [N,S,W,D.lst F,k',b] 3 (D.lst (F++[T])):=by
 walk_at "e"
def qwa{N S W:D}{SE T X:List D}{v4 v5:Option D}{FB:aH}(hs:fyH [S,W]=some (.lst SE))(hX:gO SE=X)(l1:eL (dU 2 (cg (ai 4) (cg (ai 5) eF))) FB X [N,S,W,D.lst [],none,none]=some (.nx [N,S,W,D.lst T,v4,v5])):
 (aq (bI Cq (dU 2 (cg (ai 4) (cg (ai 5) eF))) FB) (kL 3)) [N,S,W,D.lst [],none,none]=some (.rt (.lst T) [N,S,W,none,v4,v5]):=by
 walk_at "e"
section
variable{r:Int}{U:Zf}{G:Z9}{e:Str}
def qoa(ok:q26 r U G e)(ns w:Zf)(hb:aC w)(hw:e="ring"->r.toNat<=w.length)(hl:w.length<=60):∃ts:List Told,fyJ [.lst (ns.map D.int),au r U G e,.lst (w.map D.int)]=some (.lst (ts.map bQ))/\ts.length=(bO U G (w.length+aE r e)).length:=by
 have hs:=Fg ok w hb hw hl;have ls:(kM r U G e w).length=(bO U G (w.length+aE r e)).length:=(HV w _).symm;generalize kM r U G e w=ss at hs ls;have z4:=lC ok;have p4:=ur ok (w.length+aE r e);obtain⟨mx,hmx⟩:∃mx,(if(((ns.map D.int).length:Nat):Int)-2>1 then(((ns.map D.int).length:Nat):Int)-2 else 1)=mx:=⟨_,rfl⟩;have m0:0<mx:=by split at hmx<;>lia
 let⟨M',l1,ts,v4,v5,hρ,hts⟩:=iF (fg:=dU 2 (cg (ai 4) (cg (ai 5) eF))) (fb:=(dD io 3 (aj (aU fyI (aj (aU fyA (aj (aa 0) (aj (af bM (ae (.int 2)) (af bX (aa 4) (iJ (λi j=>if j>i then j else i) vT))) ag))) (aj (aa 4) (aj (aa 5) ag)))) ag)))
  (λk M=>∃(ts:List Told) (v4 v5:Option D),M=[some (.lst (ns.map D.int)),some (au r U G e),some (.lst (w.map D.int)),some (.lst (ts.map bQ)),v4,v5]/\ts.length=k) (gO (ss.map D.int)) 0
  [some (.lst (ns.map D.int)),some (au r U G e),some (.lst (w.map D.int)),some (.lst []),none,none] ⟨[],none,none,rfl,rfl⟩ (by
   rintro i x M hx ⟨ts,v4,v5,rfl,hts⟩;rw[zP,jo]at hx;cases q:ss[i]? with
   |none=>rw[q]at hx;cases hx
   | some b=>
    rw[q]at hx;cases hx;have hi:=(List.getElem?_eq_some_iff.mp q).1;rw[x8]at hts ⊢;have j0:0<=2+(i:Int) % mx:=by have:=emod_nonneg (i:Int) (by lia:mx≠0);lia
    let⟨c,hc⟩:=zJ ns (2+(i:Int) % mx) j0;let⟨t,ht⟩:=qrp c b i (by lia);refine⟨_,_,rfl,.inl (Bz (BB m0 rfl (BA hmx)) hc ht (by rw[ja];exact jw (by lia:ts.length<2000) (by decide))),ts++[t],_,_,by rw[xk];rfl,by rw[jt,hts];rfl⟩)
 subst hρ;have el:(gO (ss.map D.int)).length=ss.length:=by unfold gO;simp
 rw[el,x8,ls]at hts;exact⟨ts,F7 rfl ⟨_,(bU (BC (by decide))).trans (qwa hs rfl l1)⟩,hts⟩
end
def q8(b:Int):fyM [.int b]=some (.bl true):=by unfold fyM xA;walk_at "e"
def By(b:Int)(h0:0<=b)(h1:b<=1):(vY [some (.int b)]).map (·.1)=some (.bl true):=by have h:=q8 b;walk_at "e"
def qvw{W Y:List D}{n':Int}{FE:aF}{DA:D->Option D}(hn:((W.length:Nat):Int)=n')(lw:W.length<=sizeLine)(cm:Ns (cz 1 [] none (ai 0) (ae true) FE W) [D.lst W,D.int n'] Y)(ha:DA (.lst Y)=some (.bl true)):
 (aG false 2 2 (aq (cJ (fq sM (bq (af eH (aO cr (aa 0)) (aa 1))))
 (aB (ae (.bl false)))
 aZ) (aB (aO DA (a9 (cy 1 [] none (br (aa 0)) (ai 0) (ae true) FE)))))) [.lst W,.int n']=some (.bl true):=by
 subst hn;walk_at "e"
def qx5:∀k:Nat,lZ (.lst (replicate k (.bl true)))=some (.bl true):=λk=>by have h:=Hx (replicate k true);rw[map_replicate]at h;show(i9 (replicate k (.bl true))).map _=_;rw[h];simp
theorem ix{x:D}:∀xs:List D,xs.map (λ_=>x)=replicate xs.length x
 |[]=>rfl
 |_::xs=>by rw[x5,ix xs];rfl
def qjm(w:Zf)(hb:aC w)(n:Nat)(hl:w.length=n)(hn:n<=1000):fyN [.lst (w.map D.int),.int n]=some (.bl true):=by
 have cm:=gR (n:=1) (js:=[]) (fg:=ai 0) (fe:=vY) (M:=[D.lst (w.map D.int),D.int (n:Int)]) (λ_=>.bl true) (w.map D.int) (λx hx=>by obtain⟨b,hm,rfl⟩:=List.mem_map.mp hx;have:=hb b hm;exact⟨_,rfl,By b (by lia) (by lia)⟩)
 rw[ix]at cm;unfold fyN xB;exact qvw (by rw[ja,hl]) (dw (by rw[ja];lia)) cm (qx5 _)
def qod{S W:D}{T SE Z YD:List D}{Y:Zf}{c:Int}{FE:aF}(hs:fyH [S,W]=some (.lst SE))(hz:dg T SE=Z)(lz:Z.length<=sizeLine)(cm:cz 2 [] none (dU 2 (cg (ai 0) (cg (ai 1) eF))) (ae true) FE Z [S,W,D.lst T]=some (YD,[some S,some W,some (.lst T)]))(hi:eB YD=some Y)(hc:Y.sum=c):
 (aG false 3 3 (aB (aO jF (a9 (cy 2 [] none CA (dU 2 (cg (ai 0) (cg (ai 1) eF))) (ae true) FE))))) [S,W,.lst T]=some (.int c):=by
 walk_at "e"
section
variable{r:Int}{U:Zf}{G:Z9}{e:Str}{n:Nat}
def Gh(ok:q26 r U G e)(ts:List Told)(w:Zf)(hb:aC w)(hw:e="ring"->r.toNat<=w.length)(hl:w.length<=60):fyL [au r U G e,.lst (w.map D.int),.lst (ts.map bQ)]=some (.int (eh r U G e ts w)):=by
 have z4:=lC ok;have hs:=Fg ok w hb hw hl;have ls:(kM r U G e w).length<=1000:=by have h1:=ur ok (w.length+aE r e);have h2:(kM r U G e w).length=(bO U G (w.length+aE r e)).length:=(HV w _).symm;lia
 have bs:aC (kM r U G e w):=qdu;have ec:eh r U G e ts w=gF ts (kM r U G e w):=by unfold eh;rw[GV ok hb hw]
 rw[ec];generalize kM r U G e w=ss at hs ls bs;have hz:dg (ts.map bQ) (ss.map D.int)=(ts.zip ss).map λq=>D.tup [bQ q.1,.int q.2]:=by rw[zM,uB,jr];rfl
 have cm:=HB [au r U G e,D.lst (w.map D.int),D.lst (ts.map bQ)] (ts.zip ss) (λq hq=>bs q.2 (of_mem_zip (show(q.1,q.2)∈ts.zip ss from hq)).2);unfold fyL xz;exact qod hs hz (by rw[ja,vg];exact dw (by lia)) cm (jX _) rfl
end
def Bf{F:List D}{S n T:D}{FX:aH}:Nz (cJ sM FX aZ) [D.lst F,S,n,T,none]:=by walk_at "e"
def Be{F S n T w:D}{c:Int}{FX:aH}(h:fyM [.int c]=some (.bl true)):Nz (cJ (fq vK (fq (bq (af eH (aO cr (aa 4)) (ae (.int 2)))) vQ)) FX aZ) [F,S,n,T,D.tup [.int c,w]]:=by walk_at "e"
def Bd{F S n T w:D}{c:Int}{FX:aH}(h:fyN [w,n]=some (.bl true))(ht:fyL [S,w,T]=some (.int c)):Nz (cJ (fq vU (bq (af eH (af bA (aa 4) (ae (.int 0))) vW))) FX aZ) [F,S,n,T,D.tup [.int c,w]]:=by walk_at "e"
def Bc{F:List D}{S n T:D}{v4:Option D}{FB:aH}(l:eL (ai 4) FB F [D.lst F,S,n,T,none]=some (.nx [D.lst F,S,n,T,v4])):(aq (bI (br (aa 0)) (ai 4) FB) (aB (ae (.bl true)))) [D.lst F,S,n,T,none]=some (.rt (.bl true) [D.lst F,S,n,T,v4]):=by walk_at "e"
section
variable{r:Int}{U:Zf}{G:Z9}{e:Str}{n:Nat}
def qrq(ok:q26 r U G e)(hr:e="ring"->r.toNat<=n)(hn:n<=60)(ts:List Told)(R:Z9)(hR:∀w∈R,aC w/\w.length=n):fyP [.lst (R.map λw=>D.tup [.int (eh r U G e ts w),.lst (w.map D.int)]),au r U G e,.int n,.lst (ts.map bQ)]=some (.bl true):=by
 let⟨M',l1,v4,hρ⟩:=Fv (fg:=ai 4) (fb:=(aq (cJ (fq vK (fq (bq (af eH (aO cr (aa 4)) (ae (.int 2)))) vQ))
  (aB (ae (.bl false)))
  aZ)
 (cJ (fq vU (bq (af eH (af bA (aa 4) (ae (.int 0))) vW)))
   (aB (ae (.bl false)))
   aZ)))
   (λM=>∃v4,M=[some (.lst (R.map λw=>D.tup [.int (eh r U G e ts w),.lst (w.map D.int)])),some (au r U G e),some (.int n),some (.lst (ts.map bQ)),v4]) (R.map λw=>D.tup [.int (eh r U G e ts w),.lst (w.map D.int)])
   [some (.lst (R.map λw=>D.tup [.int (eh r U G e ts w),.lst (w.map D.int)])),some (au r U G e),some (.int n),some (.lst (ts.map bQ)),none] ⟨none,rfl⟩ (by rintro x M hx ⟨v4,rfl⟩;obtain⟨w,hw,rfl⟩:=List.mem_map.mp hx;let⟨w1,w2⟩:=hR w hw;exact⟨_,_,rfl,.inl ((bU (Be (q8 _))).trans (Bd (qjm w w1 n w2 (by lia)) (Gh ok ts w w1 (by rw[w2];exact hr) (by lia)))),_,rfl⟩)
 subst hρ;exact jT rfl ⟨_,(bU (Bf)).trans (Bc l1)⟩
end
def y8{j:Nat}{P:Addr}{lp:Pos}{q:Str}{f:List D->Option D}{fs:aV}{M M1:az}{ds:List D}{d:D}(h1:fs M=some (ds,M1))(h2:M1[j]? =some (some (.tab P lp q)))(h3:f ds=some d):jR j P lp q f fs M=some (d,M1):=by unfold jR;rw[h1];dsimp only;rw[h2];dsimp only;rw[if_pos ⟨rfl,rfl,rfl⟩,h3];rfl
def GU{b:aH}{n N j:Nat}{ds:List D}{d t:D}(hl:ds.length=n)(hj:n<=j)(h:∃M,b ((ds.map some++replicate (N-n) none).set j (some t))=some (.rt d M)):mq false n N j t b ds=some d:=by obtain⟨M,h⟩:=h;unfold mq;rw[if_pos ⟨hl,hj⟩,h]
def BP{S n T m ST t:D}(hm:fyp [S,n,T]=some ST):Nx (aw 4 (aU fyp hV)) [S,n,T,m,none,none,none,none,none,none,t] 4 ST:=by walk_at "e"
def BO{S n T m ST TB t:D}(ht:fyu [S,ST]=some TB):Nx Cp [S,n,T,m,ST,none,none,none,none,none,t] 5 TB:=by walk_at "e"
def BL{s:Int}(zt:3<=sizeLine):((bW (aj (aa 0) sN)) [some (.int s)]).map (·.1)=some (.tup [.int s,.int s,.int 0]):=by walk_at "e"
def BN{S n T m ST y :D} (t :D)(gs:List (bn×D))(KS Y:List D)(FE:aF)(one:1<=sizeLine)(z0:0<=sizeLine)(hk:ml (.dct gs)=some KS)(l1:KS.length<=sizeLine)
 (cm:cz 1 [] none (ai 0) (ae true) FE KS [S,n,T,m,ST,D.dct gs,none,none,none,none,t]=some (Y,[some S,some n,some T,some m,some ST,some (.dct gs),none,none,none,none,some t])) (hb:fyw [.lst [],.lst Y,.dct gs]=some y):
 (aw 6 (a9 (aT (aj (aU fyw (aj (a9 (aT ag)) (aj (a9 (cy 1 [] none (m5 (aa 5)) (ai 0) (ae true) FE)) (aj (aa 5) ag)))) ag)))) [S,n,T,m,ST,D.dct gs,none,none,none,none,t]=some (.nx [S,n,T,m,ST,D.dct gs,D.lst [y],none,none,none,t]):=by
 have h1:m5 (aa 5) [S,n,T,m,ST,D.dct gs,none,none,none,none,t]=some (KS,[some S,some n,some T,some m,some ST,some (.dct gs),none,none,none,none,some t]):=by rw[Gu];show((ml (.dct gs)).map λx=>(x,_))=_;rw[hk];rfl
 generalize m5 (aa 5)=FK at h1 ⊢;clear hk;walk_at "e"
def BM{S n T m ST TB FD CH t:D}{v8 v9:Option D}(z0:0<=sizeLine):Nx (cH 8 (aT ag)) [S,n,T,m,ST,TB,FD,CH,v8,v9,t] 8 (D.lst []):=by walk_at "e"
def r9{S n T m ST TB FD CH b y t:D}(x:Int)(Y:List D)(ly:Y.length<sizeLine)(h:fyy [b,.int x,CH,TB]=some y):Nx (dD io 8 (aj (aU fyy (aj (aa 9) (aj (ae (.int x)) (aj (aa 7) (aj (aa 5) ag))))) ag)) [S,n,T,m,ST,TB,FD,CH,D.lst Y,b,t] 8 (D.lst (Y++[y])):=by walk_at "e"
def BJ{S n T m ST TB CH t:D}{FD Y:List D}{v9 w9:Option D}{FB:aH}(h:eL (ai 9) FB FD [S,n,T,m,ST,TB,D.lst FD,CH,D.lst [],v9,t]=some (.nx [S,n,T,m,ST,TB,D.lst FD,CH,D.lst Y,w9,t])):
 (bI (br (aa 6)) (ai 9) FB) [S,n,T,m,ST,TB,D.lst FD,CH,D.lst [],v9,t]=some (.nx [S,n,T,m,ST,TB,D.lst FD,CH,D.lst Y,w9,t]):=by
 walk_at "e"
def BG{S n T m ST TB FD CH Y:D}{v9:Option D}{t:D}:Ns (aj (aa 8) (aj (aa 3) ag)) [S,n,T,m,ST,TB,FD,CH,Y,v9,t] [Y,m]:=by walk_at "e"
def BK{S n T m ST TB FD CH Y y t:D}{v9:Option D}{FC:aF}(h:Ns FC [S,n,T,m,ST,TB,FD,CH,Y,v9,t] y):Nx (aw 6 FC) [S,n,T,m,ST,TB,FD,CH,Y,v9,t] 6 y:=by walk_at "e"
def BI{S T m TB FD FD' t:D}{n':Int}{ST X:List D}{v7 v8 v9:Option D}{FB:aH}(hc:pH (.lst ST) none (some n')=some (.lst X))(h:eL (ai 7) FB X [S,D.int n',T,m,D.lst ST,TB,FD,none,none,none,t]=some (.nx [S,D.int n',T,m,D.lst ST,TB,FD',v7,v8,v9,t])):
 (bI Ci (ai 7) FB) [S,D.int n',T,m,D.lst ST,TB,FD,none,none,none,t]=some (.nx [S,D.int n',T,m,D.lst ST,TB,FD',v7,v8,v9,t]):=by
 walk_at "e"
def BF{S n T m ST TB FD:D}{v7 v8 v9:Option D}{t:D}:Ns (aj (aa 6) (aj (aa 3) ag)) [S,n,T,m,ST,TB,FD,v7,v8,v9,t] [FD,m]:=by walk_at "e"
def BE{a b c:D}(two:2<=sizeLine):((bW vV) [some (.tup [a,b,c])]).map (·.1)=some (.tup [a,b]):=by walk_at "e"
def BH{S n T m ST TB FD t:D}{X Y:List D}{v7 v8 v9:Option D}{FC FE:aF}(lx:X.length<=sizeLine)(h:FC [S,n,T,m,ST,TB,FD,v7,v8,v9,t]=some (.lst X,[some S,some n,some T,some m,some ST,some TB,some FD,v7,v8,v9,some t]))
 (cm:Ns (cz 1 [] none (ai 0) (ae true) FE X) [S,n,T,m,ST,TB,FD,v7,v8,v9,t] Y):Nr (aB (a9 (cy 1 [] none (br FC) (ai 0) (ae true) FE))) [S,n,T,m,ST,TB,FD,v7,v8,v9,t] (D.lst Y):=by
 walk_at "e"
def qj3(R:Z9)(b:Zf):aI (R++[b])=aI R++[b++[0]]++[b++[1]]:=by unfold aI;rw[List.flatMap_append];simp
def uy(R:Z9):(aI R).length=2*R.length:=by
 induction R with
 |nil=>rfl
 | cons b R ih=>
  have:aI (b::R)=(b++[0])::(b++[1])::aI R:=rfl;rw[this,jy,jy,jy,ih];lia
noncomputable def gU(L:List Int->Int)(b:Zf):D:=.tup [.int (L b),.lst (b.map D.int)]
section
variable{r:Int}{U:Zf}{G:Z9}{e:Str}{ts:List Told}{n:Nat}
def qxy(P0:Addr)(ok:q26 r U G e)(hr:e="ring"->r.toNat<=n)(ht:ts.length=(bO U G (n+aE r e)).length)(hn6:n<=6)(most:Nat):
 f_few P0 [au r U G e,.int n,.lst (ts.map bQ),.int most]=some (.lst ((dX (bz r U G e ts n) most (c5 (bz r U G e ts n) most n)).map (gU (bz r U G e ts n)))):=by
 have hn:n<=60:=by lia
 have z4:=lC ok;have lm:=Ak ok;have hm:=qxv ok n hn hr ts ht;have htb:=qkd ok ts n hn;have top:=λk (hk:k<=n)=>yY (L:=bz r U G e ts n) (most:=most) (n:=n) (λb hb hl=>HE hr ok.en ht hb hl) k hk;have tl:∀k,(c5 (bz r U G e ts n) most k).length<=2^k:=λk=>by
  induction k with
  |zero=>exact jg 1
  | succ k ih=>
   show((cG (bz r U G e ts n) (aI (c5 (bz r U G e ts n) most k))).take most).length<=_;rw[xq,(mM _).length_eq,uy,Nat.pow_succ];lia
 have hk:ml (iB r U G e ts n)=some ((cY r e).map D.int):=by show some _=some _;rw[jr];rfl
 have cm:=gR (n:=1) (js:=[]) (fg:=ai 0) (fe:=bW (aj (aa 0) sN)) (M:=[au r U G e,D.int n,D.lst (ts.map bQ),D.int most,gp (b7 r U G ts n 0 (n+aE r e)),iB r U G e ts n,none,none,none,none,D.tab P0 dH dG])
  (λd=>match d with|.int s=>.tup [.int s,.int s,.int 0]|d=>d) ((cY r e).map D.int) (λx hx=>by obtain⟨s,_,rfl⟩:=List.mem_map.mp hx;exact⟨[some (.int s)],rfl,BL (by decide)⟩)
 have em:((cY r e).map D.int).map (λd=>match d with|.int s=>D.tup [.int s,.int s,.int 0]|d=>d)=(((cY r e).filter λ_=>true).map λs=>(s,bG r U G e ts n s [])).map eJ:=by rw[List.filter_eq_self.mpr (λ_ _=>rfl),jr,jr];refine map_congr_left λs _=>?_;show _=eJ (s,fk _ s 0 []);rw[zK];rfl
 rw[em]at cm;have hb0:=DF ok hr ht (b:=[]) (λ_ h=>nomatch h) (zero_le _) (λ_=>true) (λ_ _ _=>rfl);have a6:=BN (.tab P0 dH dG) _ _ _ _ (by decide) (by decide) hk (by rw[ja];exact dw (by lia)) cm hb0
 -- the loop
 have hcut:pH (.lst ((b7 r U G ts n 0 (n+aE r e)).map gc)) none (some (n:Int))=some (.lst ((List.range n).map λk=>gc (stepK r U G ts n k))):=by show some (D.lst (fA _ _ _))=_;rw[yF (by lia),xh,<-map_take];unfold b7;rw[<-List.range_eq_range',<-map_take,List.take_range,Nat.min_eq_left (by lia),jr];rfl
 let⟨M',l1,v7,v8,v9,hρ⟩:=iF (fg:=ai 7) (fb:=(aq (cH 8 (aT ag))
 (aq (bI (br (aa 6)) (ai 9)
   wj)
 (aw 6 (jR 10 P0 dH dG fyz (aj (aa 8) (aj (aa 3) ag)))))))
   (λk M=>∃v7 v8 v9,M=[some (au r U G e),some (.int n),some (.lst (ts.map bQ)),some (.int most),some (gp (b7 r U G ts n 0 (n+aE r e))),some (iB r U G e ts n),some (.lst ((c5 (bz r U G e ts n) most k).map (cI r U G e ts n))),v7,v8,v9,some (.tab P0 dH dG)])
   ((List.range n).map λk=>gc (stepK r U G ts n k)) 0
   [some (au r U G e),some (.int n),some (.lst (ts.map bQ)),some (.int most),some (gp (b7 r U G ts n 0 (n+aE r e))),some (iB r U G e ts n),some (.lst [cI r U G e ts n []]),none,none,none,some (.tab P0 dH dG)] ⟨none,none,none,rfl⟩ (by
    rintro k x M hx ⟨v7,v8,v9,rfl⟩;rw[x8];rw[jo]at hx;obtain⟨k',hk1,rfl⟩:=Option.map_eq_some_iff.mp hx;have hkn:k<n:=by have:=(List.getElem?_eq_some_iff.mp hk1).1;simpa using this
    have ek:k'=k:=by rw[k9 hkn]at hk1;exact(jm hk1).symm
    subst ek;have T:=top k' (le_of_lt hkn);have t2:=jz (tl k') (Nat.pow_le_pow_right (by lia) (show k'<=5 by lia));have et:c5 (bz r U G e ts n) most (k'+1)=dX (bz r U G e ts n) most (aI (c5 (bz r U G e ts n) most k')):=rfl;rw[et];generalize c5 (bz r U G e ts n) most k'=R at T t2;let⟨M1,m1,w9,hρ1⟩:=iF (fg:=ai 9) (fb:=wj)
     (λi M=>∃w9,M=[some (au r U G e),some (.int n),some (.lst (ts.map bQ)),some (.int most),some (gp (b7 r U G ts n 0 (n+aE r e))),some (iB r U G e ts n),some (.lst (R.map (cI r U G e ts n))),some (gc (stepK r U G ts n k')),some (.lst ((aI (R.take i)).map (cI r U G e ts n))),w9,some (.tab P0 dH dG)])
     (R.map (cI r U G e ts n)) 0
     [some (au r U G e),some (.int n),some (.lst (ts.map bQ)),some (.int most),some (gp (b7 r U G ts n 0 (n+aE r e))),some (iB r U G e ts n),some (.lst (R.map (cI r U G e ts n))),some (gc (stepK r U G ts n k')),some (.lst []),v9,some (.tab P0 dH dG)] ⟨v9,rfl⟩ (by
      rintro i x M hx ⟨w9,rfl⟩;rw[x8];rw[jo]at hx;obtain⟨b,hb1,rfl⟩:=Option.map_eq_some_iff.mp hx;let⟨b1,b2⟩:=T.bits b (kc hb1);have o0:=GJ ok hr ht b1 (.inl rfl) (by lia) hn;have o1:=GJ ok hr ht b1 (.inr rfl) (by lia) hn;rw[b2]at o0 o1;have li:(aI (R.take i)).length<=64:=by rw[uy,xq];lia
      refine⟨_,_,rfl,.inl ((bU (r9 0 _ (by rw[ja];exact jw (by lia:_<1000) (by decide)) o0)).trans (r9 1 _ (by rw[jt,ja];exact jw (by simp;lia:_<1000) (by decide)) o1)),some (cI r U G e ts n b),?_⟩;rw[cX hb1,qj3,xk,xk];rfl)
    subst hρ1;rw[x8,ja,take_length]at m1;have nd:=uK (pC T.up);have zd:∀b∈aI R,b.length=k'+1:=λx hx=>by let⟨b,hb,z⟩:=mem_both.mp hx;let⟨_,b2⟩:=T.bits b hb;rcases z with rfl|rfl<;>simp[b2]
    have hf:=FP (r:=r) (U:=U) (G:=G) (e:=e) (ts:=ts) (n:=n) (E:=aI R) (most:=most) (by rw[uy];lia) nd zd;refine⟨_,_,rfl,.inl ((bU (BM (by decide))).trans<|(bU (BJ m1)).trans<|BK (y8 (BG) rfl hf)),_,_,_,rfl⟩)
 subst hρ;rw[x8,ja,length_range]at l1;have T:=top n (jg _);have t2:=jz (tl n) (Nat.pow_le_pow_right (by lia) hn6);have hf:=FP (r:=r) (U:=U) (G:=G) (e:=e) (ts:=ts) (n:=n) (E:=c5 (bz r U G e ts n) most n) (k:=n) (most:=most) (by lia) (pC T.up) (λb hb=>(T.bits b hb).2);have cx:=gR (n:=1) (js:=[]) (fg:=ai 0) (fe:=bW vV) (M:=[au r U G e,D.int n,D.lst (ts.map bQ),D.int most,gp (b7 r U G ts n 0 (n+aE r e)),iB r U G e ts n,D.lst ((c5 (bz r U G e ts n) most n).map (cI r U G e ts n)),v7,v8,v9,D.tab P0 dH dG])
  (λd=>match d with|.tup [a,b,_]=>.tup [a,b]|d=>d) ((dX (bz r U G e ts n) most (c5 (bz r U G e ts n) most n)).map (cI r U G e ts n)) (λx hx=>by obtain⟨b,_,rfl⟩:=List.mem_map.mp hx;exact⟨[some (cI r U G e ts n b)],rfl,BE (by decide)⟩)
 have ex:((dX (bz r U G e ts n) most (c5 (bz r U G e ts n) most n)).map (cI r U G e ts n)).map (λd=>match d with|.tup [a,b,_]=>D.tup [a,b]|d=>d)=(dX (bz r U G e ts n) most (c5 (bz r U G e ts n) most n)).map (gU (bz r U G e ts n)):=by rw[jr];rfl
 rw[ex]at cx;exact GU rfl (by decide) ⟨_,(bU (BP hm)).trans<|(bU (BO htb)).trans<|(bU a6).trans<|(bU (BI hcut l1)).trans<|BH (by rw[ja];exact dw (by show((cG _ _).take most).length<=_;rw[xq,(mM _).length_eq];lia)) (y8 (BF) rfl hf) cx⟩
end
noncomputable def bB:Nat->List (List Int)
 |0=>[[]]
 |k+1=>aI (bB k)
theorem y6:∀k,(bB k).length=2^k
 |0=>rfl
 | k+1=>by show(aI (bB k)).length=_;rw[uy,y6 k,Nat.pow_succ];lia
theorem qQ:∀k,(bB k).Nodup
 |0=>by show([[]]:Z9).Nodup;simp
 |k+1=>uK (qQ k)
theorem allB_mem:∀{k:Nat} {b:Zf},b∈bB k↔aC b/\b.length=k
 | 0,b=>by
  constructor
  .intro h;rw[List.mem_singleton.mp h];exact⟨λ_ h=>(nomatch h),rfl⟩
  .intro h;exact List.mem_singleton.mpr (List.eq_nil_of_length_eq_zero h.2)
 | k+1,b=>by
  show b∈aI (bB k)↔_;rw[mem_both];constructor
  .rintro⟨c,hc,z⟩;let⟨c1,c2⟩:=allB_mem.mp hc;rcases z with rfl|rfl
   .exact⟨ii c1 λy hy=>.inl (List.mem_singleton.mp hy),by simp[c2]⟩
   .exact⟨ii c1 λy hy=>.inr (List.mem_singleton.mp hy),by simp[c2]⟩
  .rintro⟨h1,h2⟩;have nz:b≠[]:=λz=>by rw[z]at h2;simp at h2
   have ex:=(List.dropLast_concat_getLast nz).symm;generalize b.dropLast=c at ex;generalize b.getLast nz=y at ex;subst ex;refine⟨c,allB_mem.mpr ⟨λz hz=>h1 z (mem_append_left _ hz),by simpa using h2⟩,?_⟩;rcases h1 y (by simp)with rfl|rfl
   .exact .inl rfl
   .exact .inr rfl
noncomputable def kU:Nat->List (List Int)
 |0=>[[]]
 |k+1=>(kU k).map (·++[0])++(kU k).map (·++[1])
theorem HM:∀k,(kU k).length=2^k
 |0=>rfl
 | k+1=>by unfold kU;rw[jt,ja,ja,HM k,Nat.pow_succ];lia
def G1:∀n,n<7->kU n=(dQ n).map (f9 n)/\bB n=(List.range (2^n)).map (f9 n):=by decide+kernel
def wC{n:Nat}(h:n<=6):2^n<=64:=by exact Nat.pow_le_pow_right (by decide) h
def AH{n:D}(one:1<=sizeLine)(z0:0<=sizeLine):Nx Cn [some n,none,none] 1 (D.lst [.lst []]):=by walk_at "e"
def AF(b:Int)(w:List D)(h:w.length+1<=sizeLine)(one:1<=sizeLine):((af bM (aa 0) (a9 (aT (aj (ae (.int b)) ag)))) [some (.lst w)]).map (·.1)=some (.lst (w++[.int b])):=by walk_at "e"
def AD(n k:D)(W A B:List D)(FA FB:aF)(lw:W.length<=sizeLine)(lab:A.length+B.length<=sizeLine)(c0:Ns (cz 1 [] none (ai 0) (ae true) FA W) [n,D.lst W,k] A)(c1:Ns (cz 1 [] none (ai 0) (ae true) FB W) [n,D.lst W,k] B):Nx (aw 1 (af bM (a9 (cy 1 [] none (br (aa 1)) (ai 0) (ae true) FA)) (a9 (cy 1 [] none (br (aa 1)) (ai 0) (ae true) FB)))) [n,D.lst W,k] 1 (D.lst (A++B)):=by
 walk_at "e"
def AE{n:D}{W Y:List D}{v:Option D}(h:mj (.lst W)=some Y):(mr (gq mj (aa 1))) [some n,some (.lst W),v]=some (.rt (.lst Y) [some n,some (.lst W),v]):=by generalize mj=SS at h ⊢;walk_at "e"
def AG(n':Int)(v1 v2:Option D):Ns (aj (aa 0) ag) [some (.int n'),v1,v2] [.int n']:=by walk_at "e"
def qrm{n':Int}{X Y W:List D}{v:Option D}{F0 FB FR:aH}{FI:aV}(h0:Nx F0 [some (.int n'),none,none] 1 (D.lst [.lst []]))(hI:Ns FI [D.int n',D.lst [.lst []],none] X)(hf:eL (ai 2) FB X [D.int n',D.lst [.lst []],none]=some (.nx [some (.int n'),some (.lst W),v]))(hr:Nr FR [some (.int n'),some (.lst W),v] (D.lst Y)):
 aG true 1 3 (aq F0 (aq (bI FI (ai 2) FB) FR)) [.int n']=some (.lst Y):=by
 walk_at "e"
def qo8(n:Nat)(hn:n<=6):fyO [.int n]=some (.lst ((bB n).map cV)):=by
 have hI:=EX (AG (n:Int) (some (.lst [.lst []])) none) (by unfold e7;simp;lia)
 have turn:∀(b:Int) (k:Nat) (M:az),k<=6->cz 1 [] none (ai 0) (ae true) (af bM (aa 0) (a9 (aT (aj (ae (.int b)) ag)))) ((kU k).map cV) M=some (((kU k).map (·++[b])).map cV,M):=λb k M hk=>by
  have cm:=gR (n:=1) (js:=[]) (fg:=ai 0) (fe:=af bM (aa 0) (a9 (aT (aj (ae (.int b)) ag)))) (M:=M) (λd=>match d with|.lst w=>.lst (w++[.int b])|d=>d) ((kU k).map cV) (λx hx=>by obtain⟨w,hw,rfl⟩:=List.mem_map.mp hx;rw[(G1 k (by lia)).1]at hw;obtain⟨r,_,rfl⟩:=List.mem_map.mp hw;have hl:=uc (n:=k) (r:=r);exact⟨[some (cV (f9 k r))],rfl,AF b _ (by rw[ja];exact dw (by lia)) (by decide)⟩)
  rw[cm,jr,jr];refine congrArg (λx=>some (x,M)) (map_congr_left λw _=>?_);show D.lst (w.map D.int++[.int b])=cV (w++[b]);unfold cV;rw[xk];rfl
 obtain⟨M',hf,v,rfl⟩:=iF (fg:=ai 2) (fb:=C1)
  (λk M=>∃v,M=[some (.int (n:Int)),some (.lst ((kU k).map cV)),v]) (de 0 n) 0 [D.int (n:Int),D.lst [.lst []],none] ⟨none,rfl⟩ (by rintro k x M hx ⟨v,rfl⟩;rw[x8];obtain⟨hk,rfl⟩:=mN hx;have hl:=HM k;have h64:=wC (show k<=6 by lia);have st:=AD (.int n) (.int (0+(k:Int))) _ _ _ _ _ (by rw[ja,hl];exact dw (by lia)) (by rw[ja,ja,ja,ja,hl];exact dw (by lia)) (turn 0 k _ (by lia)) (turn 1 k _ (by lia));rw[<-xk]at st;exact⟨_,_,rfl,.inl st,some (.int (0+(k:Int))),rfl⟩)
 rw[x8,ip]at hf;refine qrm (AH (by decide) (by decide)) hI hf (AE ?_);let⟨e1,e2⟩:=G1 n (by lia);rw[e1,e2,jr,jr];exact qfd (by lia)
def qf5{L:List Int->Int}{most n:Nat}(T:Top L most n (c5 L most n)):Top L most n (dX L most (c5 L most n))/\(dX L most (c5 L most n)).length<=most:=by
 refine⟨?_,List.length_take_le _ _⟩;cases n with
 | zero=>
  show Top L most 0 (dX L most [[]]);have e:dX L most [[]]=([[]]:Z9).take most:=by unfold dX;rw[Ga (List.pairwise_singleton _ _)]
  rw[e];cases most with
  |zero=>exact⟨λb h=>(nomatch h),.nil,λb _ _ _=>⟨rfl,λa h=>(nomatch h)⟩⟩
  | succ m=>
   rw[show([[]]:Z9).take (m+1)=[[]]from by simp];exact Ge
 |succ n=>rw[qil T.up (qjs n)];exact T
def qoc{L:List Int->Int}{most n:Nat}{R:Z9}(T:Top L most n R)(hm:R.length<=most):dX L most (bB n)=R:=by
 have nf:((bB n).filter λx=>decide (x∉R)).Nodup:=(qQ n).filter _;have e:cG L (bB n)=R++cG L ((bB n).filter λx=>decide (x∉R)):=by
  refine List.Perm.eq_of_pairwise (λa b _ _ h1 h2=>?_) (uu (qQ n)) (List.pairwise_append.mpr ⟨T.up,uu nf,λa ha b hb=>?_⟩) ?_
  .unfold i6 at h1 h2;rw[lh h1]at h2;cases h2
  .let⟨h1,h2⟩:=List.mem_filter.mp ((mM _).subset hb);let⟨b1,b2⟩:=allB_mem.mp h1;exact(T.out b b1 b2 (of_decide_eq_true h2)).2 a ha
  .refine(mM _).trans (List.Perm.trans ?_ (List.Perm.append_left _ (mM _).symm));refine(List.perm_ext_iff_of_nodup (qQ n) (List.nodup_append.mpr ⟨pC T.up,nf,λx hx y hy z=>?_⟩)).mpr λx=>?_
   .subst z;exact of_decide_eq_true (List.mem_filter.mp hy).2 hx
   .rw[List.mem_append,List.mem_filter];by_cases z:x∈R
    .exact⟨λ_=>.inl z,λ_=>allB_mem.mpr (T.bits x z)⟩
    .exact⟨λh=>.inr ⟨h,decide_eq_true z⟩,λh=>h.elim (λh=>absurd h z) λh=>h.1⟩
 unfold dX;rw[e];by_cases q:R.length=most
 .exact List.take_left' q
 .have:(bB n).filter (λx=>decide (x∉R))=[]:=List.filter_eq_nil_iff.mpr λx hx nx=>by
   let⟨b1,b2⟩:=allB_mem.mp hx;exact q (T.out x b1 b2 (of_decide_eq_true nx)).1
  rw[this];have s0:cG L ([]:Z9)=[]:=List.perm_nil.mp (mM []);rw[s0,append_nil];exact take_of_length_le hm
def l1(N c s t:D)(hc:fyA [N,.int 0]=some c)(hs:fyB [c,.int 0]=some (.lst [s])):Nx Ct [N,none,none,none,none,none,none,none,none,none,t] 1 (D.lst [s]):=by walk_at "e"
def l2(N s s' S t:D)(zt:3<=sizeLine)(h:fyD [s] [.int 4,.lst [.str "open",.str "ended",.str "ring"]]=some (S,[s'])):CT [N,D.lst [s],none,none,none,none,none,none,none,none,t]=some (.nx [N,D.lst [s'],S,none,none,none,none,none,none,none,t]):=by walk_at "e"
def l4{N A S c s t:D}(hc:fyA [N,.int 1]=some c)(hs:fyB [c,.int 1]=some (.lst [s])):Nx CK [N,A,S,none,none,none,none,none,none,none,t] 3 (D.lst [s]):=by walk_at "e"
def l5{N A S s s' x t:D}(h:fyC [s] [.int 7]=some (x,[s'])):Ck [N,A,S,D.lst [s],none,none,none,none,none,none,t]=some (.nx [N,A,S,D.lst [s'],x,none,none,none,none,none,t]):=by walk_at "e"
def qym{N A R TS RS B x t:D}{e:Str}{FX:aH}(h:cZ (.str e) (.str "ring")=some false):Nz (cJ sR FX aZ) [N,A,D.tup [R,TS,RS,.str e],B,x,none,none,none,none,none,t]:=by walk_at "e"
def Bv{N A TS RS B t:D}{r x m:Int}{e:Str}(h:cZ (.str e) (.str "ring")=some true)(hm:(if r>(if 5<x then 5 else x)then r else(if 5<x then 5 else x))=m):Nx (cJ sR
 (aw 4 (iJ (λi j=>if j>i then j else i) (aj (iJ (λi j=>if j<i then j else i) vC) vH)))
 aZ) [N,A,D.tup [.int r,TS,RS,.str e],B,D.int x,none,none,none,none,none,t] 4 (D.int m):=by
 subst hm;walk_at "e"
def l7e{x:D}{s:Int}:(gn fyC 1 (aj (ae (.int 2)) ag)) [x,D.lst [.int s]]=some (.int (c8 s 2),[some x,some (.lst [.int (dY s)])]):=by have h:=kT s 2 (by decide);walk_at "e"
def l7r(N A S B t:D)(n:Int):Ns (aj (aa 4) ag) [N,A,S,B,D.int n,none,none,none,none,none,t] [.int n]:=by walk_at "e"
def l7{N A S B B' n t:D}{X W T:List D}{FI:aV}{FE:aF}(lx:X.length<=sizeLine)(hI:Ns FI [N,A,S,B,n,none,none,none,none,none,t] X)
 (cm:cz 1 [3] (some (3,1)) (ai 0) (ae true) FE X [N,A,S,B,n,none,none,none,none,none,t]=some (W,[some N,some A,some S,some B',some n,none,none,none,none,none,some t])) (hh:fyJ [N,S,.lst W]=some (.lst T)):
 (aw 5 (a9 (i4 fyJ (aj (aa 0) (aj (aa 2) (aj (a9 (cy 1 [3] (some (3,1)) FI (ai 0) (ae true) FE)) ag)))))) [N,A,S,B,n,none,none,none,none,none,t]=some (.nx [N,A,S,B',n,D.lst T,none,none,none,none,t]):=by
 walk_at "e"
def d_e{W S T c:D}(two:2<=sizeLine)(h:fyL [S,W,T]=some c):((bW wb) [W,S,T]).map (·.1)=some (.tup [c,W]):=by walk_at "e"
def d_6(DS:D->Option (List D))(N A S B n T t:D)(W X Y:List D)(FE:aF)(hw:fyO [n]=some (.lst W))(lw:W.length<=sizeLine)(cm:Ns (cz 1 [2,5] none (ai 0) (ae true) FE W) [N,A,S,B,n,T,none,none,none,none,t] X)(hs:DS (.lst X)=some Y):Nx (aw 6 (a9 (gq DS (a9 (cy 1 [2,5] none B4 (ai 0) (ae true) FE))))) [N,A,S,B,n,T,none,none,none,none,t] 6 (D.lst Y):=by
 walk_at "e"
def e_i(N A S n T s s' x t:D)(Y:List D)(four:4<=sizeLine)(h:fyC [s] [.int 40]=some (x,[s'])):wc [N,A,S,D.lst [s],n,T,D.lst Y,none,none,none,t]=some ([x,.int (Y.length:Nat),.int 0,.int 1],[some N,some A,some S,some (.lst [s']),some n,some T,some (.lst Y),none,none,none,some t]):=by walk_at "e"
def e_8{N A S B n Y m t:D}{T:List D}{v8 v9:Option D}(lt:T.length<=sizeLine):Nx (aw 8 (a9 (gq dE (aa 5)))) [N,A,S,B,n,D.lst T,Y,m,v8,v9,t] 8 (D.lst T):=by walk_at "e"
def e_v{N A S B n T Y m H t:D}{v9:Option D}:Ns sO [N,A,S,B,n,T,Y,m,H,v9,t] [S,n,H,m]:=by walk_at "e"
def e_9{N A S B n T Y m H y t:D}{v9:Option D}{FC:aF}(h:Ns FC [N,A,S,B,n,T,Y,m,H,v9,t] y):Nx (aw 9 FC) [N,A,S,B,n,T,Y,m,H,v9,t] 9 y:=by walk_at "e"
def e_t{G:List D->Option D}{N A S B n T t:D}{m:Int}{Y Z F:List D}{FX:aH}(h1:eH T T=some (.bl false))(h2:G [.lst F,S,n,T]=some (.bl true))(h3:pH (.lst Y) none (some m)=some (.lst Z))(h4:eH (.lst F) (.lst Z)=some (.bl false)):(cJ (fq (bq (af eH (aa 8) (aa 5))) (fq (e8 (bq (aU G sP))) (bq (af eH (aa 9) sJ))))
 FX
 aZ) [N,A,S,B,n,T,D.lst Y,D.int m,T,D.lst F,t]=some (.nx [N,A,S,B,n,T,D.lst Y,D.int m,T,D.lst F,t]):=by
 generalize eH=NE at h1 h4 ⊢;walk_at "e"
def e_l{N A S B B' n T Y t:D}{X:List D}{v7 v8 v9:Option D}{FI:aV}{FB:aH}(hI:FI [N,A,S,B,n,T,Y,none,none,none,t]=some (X,[some N,some A,some S,some B',some n,some T,some Y,none,none,none,some t]))(l:eL (ai 7) FB X [N,A,S,B',n,T,Y,none,none,none,t]=some (.nx [N,A,S,B',n,T,Y,v7,v8,v9,t])):
 (aq (bI FI (ai 7) FB) (aB (ae (.bl true)))) [N,A,S,B,n,T,Y,none,none,none,t]=some (.rt (.bl true) [N,A,S,B',n,T,Y,v7,v8,v9,t]):=by
 walk_at "e"
def FU(q:Int×List Int):pZ (dO q)=some q:=by show(eB (q.2.map D.int)).map (λns=>(q.1,ns))=some q;rw[jX];rfl
theorem GM:∀qs:List (Int×List Int),kQ (qs.map dO)=some qs
 |[]=>rfl
 | q::qs=>by rw[x5];unfold kQ;rw[FU,GM qs]
def sF:D->List Int
 |.lst ds=>(eB ds).getD []
 |_=>[]
def D6(w:Zf):sF (cV w)=w:=by show(eB (w.map D.int)).getD []=w;rw[jX];rfl
def iw{d:D}(h:cZ d d=some true):eH d d=some (.bl false):=by unfold eH;rw[h];rfl
section
variable{r:Int}{U:Zf}{G:Z9}{e:Str}{n:Nat}{ts:List Told}
def qxh(ok:q26 r U G e)(n6:n<=6)(hr:e="ring"->r.toNat<=n)(hl:ts.length=(bO U G (n+aE r e)).length):tQ (.lst ((bB n).map λw=>D.tup [.int (eh r U G e ts w),.lst (w.map D.int)]))=some ((cG (bz r U G e ts n) (bB n)).map (gU (bz r U G e ts n))):=by
 have kq:∀w∈bB n,bK (bz r U G e ts n) w=(eh r U G e ts w,w):=λw hw=>by let⟨w1,w2⟩:=allB_mem.mp hw;unfold bK;rw[HF hr ok.en hl w1 w2]
 have eX:((bB n).map λw=>D.tup [.int (eh r U G e ts w),.lst (w.map D.int)])=((bB n).map (bK (bz r U G e ts n))).map dO:=by rw[jr];refine map_congr_left λw hw=>?_;show _=dO (bK _ w);rw[kq w hw];rfl
 have p2:=wC n6;have ok2:okQ ((bB n).map (bK (bz r U G e ts n))):=by
  refine⟨by rw[ja,y6];lia,?_,λq hq=>?_⟩
  .rw[Nodup,pairwise_map];exact(qQ n).imp λh z=>h (congrArg Prod.snd z)
  .have l:∀q∈(bB n).map (bK (bz r U G e ts n)),q.2.length=n:=λq hq=>by
    obtain⟨w,hw,rfl⟩:=List.mem_map.mp hq;exact(allB_mem.mp hw).2
   rw[l q hq];generalize (bB n).map (bK (bz r U G e ts n))=qs at hq l;cases qs with
   |nil=>cases hq
   |cons q0 qs=>exact(l q0 jj).symm
 rw[eX];show((kQ _).bind λqs=>if okQ qs then some _ else none)=_;rw[GM];show(if okQ _ then some _ else none)=_;rw[if_pos ok2];congr 1;unfold cG;rw[jr,jr];refine map_congr_left λi hi=>?_;have hb:i<(bB n).length:=by
  have:=List.mem_range.mp ((jB _).subset hi)
  rwa [ja]at this
 show(List.map (dO∘bK _) (bB n)).getD i .non=gU _ ((bB n).getD i []);rw[jl,jl,jo,jh hb];rfl
def qvp(P0:Addr)(ok:q26 r U G e)(n6:n<=6)(hr:e="ring"->r.toNat<=n)(hl:ts.length=(bO U G (n+aE r e)).length)(N A:D)(s:Int):∃M,
 (aq CI (aq (bI wc (ai 7)
 (aq (aw 8 (a9 (gq dE (aa 5)))) (aq (aw 9 (jR 10 P0 dH dG (f_few P0) sO)) (cJ (fq (bq (af eH (aa 8) (aa 5))) (fq (e8 (bq (aU fyP sP))) (bq (af eH (aa 9) sJ))))
 (aB (ae (.bl false)))
 aZ)))) (aB (ae (.bl true))))) [N,A,au r U G e,D.lst [.int s],D.int n,D.lst (ts.map bQ),none,none,none,none,D.tab P0 dH dG]=some (.rt (.bl true) M):=by
 have hn:n<=60:=by lia
 have p2:=wC n6;have lp:=ur ok (n+aE r e);have z4:=lC ok;have ltl:(ts.map bQ).length<=sizeLine:=by rw[ja];exact dw (by lia)
 have cm:=gR (n:=1) (js:=[2,5]) (fg:=ai 0) (fe:=bW wb) (M:=[N,A,au r U G e,D.lst [.int s],D.int n,D.lst (ts.map bQ),none,none,none,none,D.tab P0 dH dG])
  (λd=>.tup [.int (eh r U G e ts (sF d)),d]) ((bB n).map cV) (λx hx=>by obtain⟨w,hw,rfl⟩:=List.mem_map.mp hx;obtain⟨w1,w2⟩:=allB_mem.mp hw;refine⟨[cV w,au r U G e,D.lst (ts.map bQ)],rfl,?_⟩;rw[D6];exact d_e (by decide) (Gh ok ts w w1 (by rw[w2];exact hr) (by lia)))
 have eX:((bB n).map cV).map (λd=>D.tup [.int (eh r U G e ts (sF d)),d])=(bB n).map λw=>D.tup [.int (eh r U G e ts w),.lst (w.map D.int)]:=by rw[jr];refine List.map_congr_left λw _=>?_;show D.tup [.int (eh r U G e ts (sF (cV w))),cV w]=_;rw[D6];rfl
 rw[eX]at cm;have h6:=d_6 tQ N A (au r U G e) (.lst [.int s]) (.int n) (.lst (ts.map bQ)) (.tab P0 dH dG) _ _ _ _ (qo8 n n6) (by rw[ja,y6];exact dw (by lia)) cm (qxh ok n6 hr hl);have d0:=mw s (m:=40) (by decide);obtain⟨most,em⟩:∃most:Nat,c8 s 40=(most:Int):=⟨(c8 s 40).toNat,by lia⟩;have hn40:=kT s 40 (by decide);rw[em]at hn40;have hI:=e_i N A (au r U G e) (.int n) (.lst (ts.map bQ)) _ _ _ (.tab P0 dH dG) ((cG (bz r U G e ts n) (bB n)).map (gU (bz r U G e ts n))) (by decide) hn40;have one:∀(m:Nat) (v8 v9:Option D),∃y,(aq (aw 8 (a9 (gq dE (aa 5))))
 (aq (aw 9 (jR 10 P0 dH dG (f_few P0) sO))
 (cJ (fq (bq (af eH (aa 8) (aa 5))) (fq (e8 (bq (aU fyP sP))) (bq (af eH (aa 9) sJ))))
   (aB (ae (.bl false)))
   aZ))) [N,A,au r U G e,D.lst [.int (dY s)],D.int n,D.lst (ts.map bQ),D.lst ((cG (bz r U G e ts n) (bB n)).map (gU (bz r U G e ts n))),D.int m,v8,v9,D.tab P0 dH dG]=some (.nx [N,A,au r U G e,D.lst [.int (dY s)],D.int n,D.lst (ts.map bQ),D.lst ((cG (bz r U G e ts n) (bB n)).map (gU (bz r U G e ts n))),D.int m,D.lst (ts.map bQ),D.lst y,D.tab P0 dH dG]):=λm v8 v9=>by
   have hf:=qxy P0 ok hr hl n6 m;obtain⟨T,lm⟩:=qf5 (yY (L:=bz r U G e ts n) (most:=m) (n:=n) (λb hb hl'=>HE hr ok.en hl hb hl') n (jg _));have ta:=qoc T lm;generalize dX (bz r U G e ts n) m (c5 (bz r U G e ts n) m n)=R at hf T lm ta;have eR:R.map (λw=>D.tup [.int (eh r U G e ts w),.lst (w.map D.int)])=R.map (gU (bz r U G e ts n)):=List.map_congr_left λw hw=>by obtain⟨w1,w2⟩:=T.bits w hw;unfold gU;rw[HF hr ok.en hl w1 w2]
   have hrw:=qrq ok hr hn ts R T.bits;rw[eR]at hrw;have hc:pH (.lst ((cG (bz r U G e ts n) (bB n)).map (gU (bz r U G e ts n)))) none (some (m:Int))=some (.lst (R.map (gU (bz r U G e ts n)))):=by show some (D.lst (fA _ _ _))=_;rw[yF (by lia),xh,<-List.map_take,<-ta];rfl
   have E1:cZ (.lst (R.map (gU (bz r U G e ts n)))) (.lst (R.map (gU (bz r U G e ts n))))=some true:=Gr (DOks.lst (n:=2) (.all λd hd=>by obtain⟨w,_,rfl⟩:=List.mem_map.mp hd;exact DOks.tup (.cons (DOk.int 1 _) (.cons (DOk.ints _) (.nil _))))) (by decide)
   exact⟨_,(bU (e_8 ltl)).trans<|(bU (e_9 (y8 (e_v) rfl hf))).trans<|e_t (iw (Gr (DOk.tolds ts) (by decide))) hrw hc (iw E1)⟩
 obtain⟨M',f1,v7,v8,v9,hρ⟩:=Fv (fg:=ai 7) (fb:=_)
  (λM=>∃v7 v8 v9,M=[some N,some A,some (au r U G e),some (.lst [.int (dY s)]),some (.int n),some (.lst (ts.map bQ)),some (.lst ((cG (bz r U G e ts n) (bB n)).map (gU (bz r U G e ts n)))),v7,v8,v9,some (.tab P0 dH dG)]) [.int (most:Int),.int ((((cG (bz r U G e ts n) (bB n)).map (gU (bz r U G e ts n))).length:Nat):Int),.int 0,.int 1] _ ⟨none,none,none,rfl⟩ (by
    rintro x M hx ⟨v7,v8,v9,rfl⟩;obtain⟨m,rfl⟩:∃m:Nat,x=.int m:=by
     simp only[List.mem_cons,List.not_mem_nil,or_false]at hx;rcases hx with rfl|rfl|rfl|rfl
     .exact⟨most,rfl⟩
     .exact⟨_,rfl⟩
     .exact⟨0,rfl⟩
     .exact⟨1,rfl⟩
    obtain⟨y,h1⟩:=one m v8 v9;exact⟨_,_,rfl,.inl h1,_,_,_,rfl⟩)
 subst hρ;exact⟨_,(bU h6).trans (e_l hI f1)⟩
end
def jL{P0:Addr}(ns:Zf)(h:ns.length<=63):f_law P0 [.lst (ns.map D.int)]=some (.bl true):=by
 let⟨c,hc⟩:=zJ ns 0 (by decide);have hs:=Gg c 0 (by decide);generalize (c % 10^60*7368787+1000003*0+17) % 2305843009213693951=s at hs;let⟨r,U,G,e,s',hsch,ok⟩:=qb2 s;let⟨c1,hc1⟩:=zJ ns 1 (by decide);have hs1:=Gg c1 1 (by decide);generalize (c1 % 10^60*7368787+1000003*1+17) % 2305843009213693951=s1 at hs1;have d0:=mw s1 (m:=7) (by decide);have d7:=mZ s1 (m:=7) (by decide);have hn7:=kT s1 7 (by decide);obtain⟨n,n6,hr,h6⟩:∃n:Nat,n<=6/\(e="ring"->r.toNat<=n)/\(cJ sR
  (aw 4 (iJ (λi j=>if j>i then j else i) (aj (iJ (λi j=>if j<i then j else i) vC) vH)))
  aZ) [D.lst (ns.map D.int),D.lst [.int s'],au r U G e,D.lst [.int (dY s1)],D.int (c8 s1 7),none,none,none,none,none,D.tab P0 dH dG]=some (.nx [D.lst (ns.map D.int),D.lst [.int s'],au r U G e,D.lst [.int (dY s1)],D.int n,none,none,none,none,none,D.tab P0 dH dG]):=by
  have r0:=ok.r0;have r4:=ok.r4;by_cases q:e="ring"
  .obtain⟨m,hm⟩:∃m,(if r>(if 5<c8 s1 7 then 5 else c8 s1 7)then r else(if 5<c8 s1 7 then 5 else c8 s1 7))=m:=⟨_,rfl⟩;have hm':0<=m/\m<=6/\r<=m:=by
    by_cases z:5<c8 s1 7
    .rw[if_pos z]at hm;split at hm<;>lia
    .rw[if_neg z]at hm;split at hm<;>lia
   refine⟨m.toNat,by lia,λ_=>by lia,?_⟩;rw[toNat_of_nonneg (by lia)];exact Bv (by rw[q];exact nT) hm
  .refine⟨(c8 s1 7).toNat,by lia,λz=>absurd z q,?_⟩;rw[toNat_of_nonneg (by lia)];refine qym ?_;rcases ok.en with g|g|g
   .rw[g];exact nU
   .rw[g];exact nV
   .exact absurd g q
 let⟨ys,s2,cm,c2,c3⟩:=uz (n:=1) (p:=3) (q:=1) (js:=[3]) (fg:=ai 0) (fe:=gn fyC 1 (aj (ae (.int 2)) ag))
  (λs:Int=>[some (.lst (ns.map D.int)),some (.lst [.int s']),some (au r U G e),some (.lst [.int s]),some (.int n),none,none,none,none,none,some (.tab P0 dH dG)]) (λy=>∃t:Int,y=.int t/\(t=0∨t=1)) (de 0 n) (λx _ s=>by have d0:=mw s (m:=2) (by decide);have d2:=mZ s (m:=2) (by decide);exact⟨[x,D.lst [.int s]],[some x,some (.lst [.int (dY s)])],.int (c8 s 2),dY s,rfl,l7e,rfl,_,rfl,by lia⟩) (dY s1)
 obtain⟨w,rfl,hw⟩:=ug c3;rw[ja,ip]at c2;let⟨ts,hh,lts⟩:=qoa ok ns w hw (by rw[c2];exact hr) (by lia);rw[c2]at lts;have hI:=qD (l7r (.lst (ns.map D.int)) (.lst [.int s']) (au r U G e) (.lst [.int (dY s1)]) (.tab P0 dH dG) (n:Int)) (by lia) (by lia);rw[xh]at hI;let⟨M,hb⟩:=qvp P0 ok n6 hr lts (.lst (ns.map D.int)) (.lst [.int s']) s2;exact GU rfl (by decide) ⟨M,(bU (l1 _ _ _ _ hc hs)).trans<|(bU (l2 _ _ _ _ _ (by decide) hsch)).trans<|(bU (l4 hc1 hs1)).trans<|(bU (l5 hn7)).trans<|(bU h6).trans<|
  (bU (l7 (by rw[ip];exact dw (by lia)) hI cm hh)).trans hb⟩
def qvo{P:Program}{w:World}{K mg a base}(T:Txt K mg a):FnOk P w K mg base bu 8 a.f_law a.fd_law ["_law_script"] (ua K a.tyz dH dG 63):=qpu (qum T) jL
local macro_rules|`(tactic|walk_at "k")=>`(tactic|as_aux_lemma=>kernel_rfl)
local macro_rules|`(tactic|walk_at "f")=>`(tactic|exact qwd (oc:=.type "function") (od:=none) (osl:=#[]) (by walk_at "k") (by walk_at "k") (by walk_at "k"))
local macro_rules|`(tactic|walk_at "g")=>`(tactic|exact qq2 (oc:=.type "function") (od:=none) (osl:=#[]) (by walk_at "k") (by walk_at "k") (by walk_at "k"))
def ln1{α:Type}{Q:List α->Prop}(h:∀a,Q [a]):∀us:List α,us.length=1->Q us|[a],_=>h a
def ln2{α:Type}{Q:List α->Prop}(h:∀a b,Q [a,b]):∀us:List α,us.length=2->Q us|[a,b],_=>h a b
def ln3{α:Type}{Q:List α->Prop}(h:∀a b c,Q [a,b,c]):∀us:List α,us.length=3->Q us|[a,b,c],_=>h a b c
def ln4{α:Type}{Q:List α->Prop}(h:∀a b c d,Q [a,b,c,d]):∀us:List α,us.length=4->Q us|[a,b,c,d],_=>h a b c d
def ln5{α:Type}{Q:List α->Prop}(h:∀a b c d e,Q [a,b,c,d,e]):∀us:List α,us.length=5->Q us|[a,b,c,d,e],_=>h a b c d e
local macro_rules|`(tactic|walk_at "b")=>`(tactic|first|exact(.all (ln1 λ_=>rfl))|exact(.all (ln2 λ_ _=>rfl))|exact(.all (ln3 λ_ _ _=>rfl))|exact(.all (ln4 λ_ _ _ _=>rfl))|exact(.all (ln5 λ_ _ _ _ _=>rfl)))
local macro_rules|`(tactic|walk_at "kb")=>`(tactic|first|exact q6h|exact q22 (by decide+kernel) (by walk_at "k") (by decide+kernel))
abbrev nf(x:Str)(s:Stmt)(pm:Value)(c:Addr):FuncData:=PySem.W.fnOf x x (iH s) (fU s) (aS s) .none (.none) (.none) pm none (.ref c) (.none)
noncomputable def ad:Ad:=⟨169,195,228,58,65,72,77,82,89,96,103,110,117,124,152,166,192,211,225,237,244,249,254,261,266,271,276,283,288,293,300,307,312,319,324,331,337,344,351,358,363,370,375,382,389,396,403,410,415,422,427,432,439,444,326,330,nf "rooms_at" nS H21.zm1 57,nf "rooms" nR H21.zm1 64,nf "parity" nQ H21.zm1 71,nf "step" nO H21.zm1 76,nf "sent_at" lM H21.zm1 81,nf "is_ring" nN H21.zm2 88,nf "check_size" nM H21.zm2 95,nf "bits_behind" nL H21.zm2 102,nf "first_rooms" nK H21.zm2 109,nf "steps_of" nJ H21.zm2 116,nf "places_of" xT H21.zm2 123,(PySem.W.fnOf "__init__" "Clear.__init__" (iH p8) (fU p8) (aS p8) .none (.none) (.none) H21.zm3 none (.ref 151) (.none)),(PySem.W.fnOf "cost" "Clear.cost" (iH p9) (fU p9) (aS p9) .none (.none) (.none) H21.zm3 none (.ref 165) (.none)),(PySem.W.fnOf "cost" "Gap.cost" (iH qa) (fU qa) (aS qa) .none (.none) (.none) H21.zm3 none (.ref 191) (.none)),(PySem.W.fnOf "__init__" "Soft.__init__" (iH qb) (fU qb) (aS qb) .none (.none) (.none) H21.zm3 none (.ref 210) (.none)),(PySem.W.fnOf "cost" "Soft.cost" (iH qc) (fU qc) (aS qc) .none (.none) (.none) H21.zm3 none (.ref 224) (.none)),nf "sign_of" xU H21.zm3 236,nf "check_heard" xV H21.zm4 243,nf "signs_cost" tR H21.zm4 248,nf "signs_by_step" xW H21.zm4 253,nf "move" xX H21.zm4 260,nf "moves_from" xY H21.zm4 265,nf "moves" xZ H21.zm4 270,nf "end_costs" ya H21.zm4 275,nf "cost_by" yb H21.zm4 282,nf "least_by" tS H21.zm4 287,nf "ahead_by" yc H21.zm4 292,nf "ahead_by_start" yd H21.zm4 299,nf "cost_of_track" ye H21.zm5 306,nf "beginning" tT H21.zm5 311,nf "track_on" yf H21.zm5 318,nf "beginning_on" yg H21.zm5 323,nf "first_ones" yh H21.zm5 330,(PySem.W.fnOf "few" "few" (iH p7) (fU p7) (aS p7) (.ref 332) (.none) (.none) H21.zm5 none (.ref 336) (.none)),nf "_law_cell_at" yi H21.zm0 343,nf "_law_state" yj H21.zm0 350,nf "_law_next" yk H21.zm0 357,nf "_law_scheme" yl H21.zm0 362,nf "_law_odd" ym H21.zm0 369,nf "_law_step" tU H21.zm0 374,nf "_law_start" yo H21.zm0 381,nf "_law_sent" yp H21.zm0 388,nf "_law_sign" yq H21.zm0 395,nf "_law_heard" yr H21.zm0 402,nf "_law_price" yt H21.zm0 409,nf "_law_total" tV H21.zm0 414,nf "_law_whole" yu H21.zm0 421,nf "_law_is_word" yv H21.zm0 426,nf "_law_words" yw H21.zm0 431,nf "_law_rows" yx H21.zm0 438,nf "law" xS H21.zm0 443⟩
def txt{P:Params}{h:Heap}{mg:Za}{fa:Addr}(X:(H21.KH P).In h)(G:h.Ns mainGlobals mg)(hfa:mg "law"=some (.ref fa)):∃a:Ad,Txt (H21.KH P) mg a/\a.f_law=fa/\a.tyz=326/\∀(s:Shared) (v:Value),BindsTo s a.fd_law ⟨[v],[]⟩ [("_law_script",v)]:=by have e0:444=fa:=Value.ref.inj (jm ((PySem.W.mg_of X G (show PySem.W.nsIn (H21.KH P) mainGlobals "law"=some (some (.ref 444))from by walk_at "k")).symm.trans hfa));subst e0;have g {x:Str} {v:Value} (h:PySem.W.nsIn (H21.KH P) mainGlobals x=some (some v)):mg x=some v:=PySem.W.mg_of X G h;refine⟨ad,?_,rfl,rfl,λs v=>.of_eq rfl⟩;constructor<;>first|exact⟨by walk_at "f",by walk_at "b",g (by walk_at "k")⟩|exact PySem.W.mg_none_of X G (by walk_at "k")|exact g (by walk_at "k")|walk_at "f"|walk_at "g"|walk_at "b"|exact(qx2 rfl (show(H21.KH P).lookup 332=some ⟨(.type "tuple"),none,.seq #[.int 2 595] 0,#[]⟩from by walk_at "k") λus hl=>match us,hl with|[_,_,_,_],_=>⟨_,rfl,rfl⟩)|exact show PySem.W.findIn (H21.KH P) (.ref 169) "bit"=some none from by walk_at "k"|exact show PySem.W.findIn (H21.KH P) (.ref 228) "one"=some none from by walk_at "k"|exact show PySem.W.findIn (H21.KH P) (.ref 228) "zero"=some none from by walk_at "k"|rfl|exact(show∀h:Heap,(H21.KH P).In h->PySem.W.CodeHd h 330 326 from Hc (o:=H21.cO "first_ones" 587 "first_ones" 588 589 144 2 3 325 181 326 327 328 329 592 144 593) (by walk_at "k") rfl rfl rfl rfl rfl rfl rfl rfl (by decide))|exact(show∀h:Heap,(H21.KH P).In h->h.BuiltinsAt mg 326 from q9o (bm:=4) (g (by walk_at "k")) (by walk_at "k") (by decide) (by decide) (by decide))|exact q9d (by walk_at "kb") (by walk_at "kb") (by walk_at "kb") (by walk_at "kb") (by walk_at "kb") (by walk_at "kb") (by walk_at "kb")|(refine⟨?_,?_,?_⟩<;>walk_at "k")|(refine⟨?_,?_,?_,?_⟩<;>walk_at "k")|walk_at "k"
def two_of{P:Params}{h:Heap}(Y:(H21.KHP P).In h):(H21.KH P).In h/\h.get? 326=some {cls:=.none,data:=.fields #[]}:=⟨λa o e=>Y a o (by show(H21.KH P++_).lookup a=_;rw[List.lookup_append,e];rfl),Y _ _ (show(H21.KHP P).lookup 326=some ⟨.none,none,.fields #[],#[]⟩from by walk_at "k")⟩
def no_table:∀P,(H21.KH P).lookup 326=none:=λP=>by walk_at "k"
def head_at:∀P (h:Heap),(H21.KH P).In h->PySem.W.CodeHd h 330 326:=λP=>Hc (o:=H21.cO "first_ones" 587 "first_ones" 588 589 144 2 3 325 181 326 327 328 329 592 144 593) (by walk_at "k") rfl rfl rfl rfl rfl rfl rfl rfl (by decide)
def walk{l:PySem.W.OpenLaw}{q:Program}{loose:Zj}{XP:(Str->Option Value)->Heap->Prop}{YP:World->Heap->Prop}{d:DefRec}{K:Params->PySem.W.Frag}{P0 c:Addr}(hn:l.most=some 63)(hdf:d.params.defaults=[])(hd:d.name="law")
 (hY:∀(w:World) (h:Heap),YP w h->(K w.params).In h/\h.get? P0=some {cls:=.none,data:=.fields #[]}) (hKP:∀P,(K P).lookup P0=none) (hcd:∀P (h:Heap),(K P).In h->PySem.W.CodeHd h c P0)
 (F:∀(w:World) (mg:Za) (fa:Addr) (h:Heap),(K w.params).In h->h.Ns mainGlobals mg->mg "law"=some (.ref fa)->∃a:Ad,Txt (K w.params) mg a/\a.f_law=fa/\a.tyz=P0/\∀(s:Shared) (v:Value),BindsTo s a.fd_law ⟨[v],[]⟩ [("_law_script",v)]):
 PySem.W.WalkO q loose XP YP l.row.toRowW d [] (λf vs=>PySem.call f vs):=
 L2.walk_ofL (n:=63) (k:=8) (x:="_law_script") (lp:=dH) (qn:=dG) hn (by decide) hdf ⟨rfl,by decide,by decide⟩ hY hKP hcd
  (λw mg fa h KX G hm=>by rw[hd]at hm;let⟨a,T,e,e2,b⟩:=F w mg fa h KX G hm;subst e e2;exact⟨a.fd_law,b,λbase _ _=>qvo T⟩)
end K21
open PySem PySem.W PyProof.Rows
set_option maxRecDepth 100000 in
set_option maxHeartbeats 0 in
theorem PySem.Challenge.cw_trellisway_k21_few_in_order_holds : PySem.Challenge.rw_trellisway_k21_few_in_order.Holds := by
 w_on;o_law
 refine holds_open (r:=PySem.Challenge.rw_trellisway_k21_few_in_order.row) (q:=H21.V) (loose:=["few"]) (Xt:=(λs=>xlAt H21.V [] s&&recOk (RowW.records (OpenRow.toRowW PySem.Challenge.rw_trellisway_k21_few_in_order.row)) s)) (XP:=XL H21.V []) (Yf:=Hook.obs (kHook H21.KHP H21.KA H21.ka_eq)) (Ya:=Hook.val (kHook H21.KHP H21.KA H21.ka_eq)) (YP:=Hook.says (kHook H21.KHP H21.KA H21.ka_eq)) (N:=6316) H21.leftR (Hook.of (kHook H21.KHP H21.KA H21.ka_eq)) (Hook.keeps (kHook H21.KHP H21.KA H21.ka_eq)) (λs e=>xl_of s (Bool.and_eq_true_iff.mp e).1) XL.keeps (by rfl) (by rfl) (by rfl) (λs e=>recFacts_of (Bool.and_eq_true_iff.mp e).2) (by rfl) (by first|assumption|decide+kernel) (by decide+kernel) ⟨rfl,rfl,rfl,rfl,rfl,by decide+kernel⟩ ?hw ?hc
 case hw=>w_witness2
 case hc=>exact K21.walk (l:=PySem.Challenge.rw_trellisway_k21_few_in_order) rfl rfl rfl (λw h Y=>K21.two_of (PySem.W.kIn_of Y)) K21.no_table K21.head_at λw mg fa h KX G hmg=>K21.txt KX G hmg
