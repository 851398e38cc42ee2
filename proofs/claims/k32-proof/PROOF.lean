import PyProof.Rows.All
import Wide.All
import OpenK.AllK
import Wide.FinOn
import Lean
import PyProof.EqAt
import PyProof.EqKinds
import PyProof.TupleCall
import KE.KIntText
import PySem.Challenge.RW_leastloss_k32_book_texts
open Bool renaming false_eq_true->aa, and_eq_true->ao, not_true->bf, not_false->bu, or_eq_true->b9, eq_false_or_eq_true->dr, and_false->dt, or_false->ek, eq_iff_iff->fc, and_self->fu, false_or->gr, true_or->g5, or_true->j9, false_and->kd, and_true->ky, false_ne_true->oh, not_eq_true->qp, true_and->rj, beq_comm->wt, or_eq_false_iff->zt, and_assoc->zu, or_self->Aak, or_assoc->Abf
open PySem.W renaming Frag->ae, findIn->df, keepIn->e9, nsIn->f9, Looks->gp, kia_one->gy, mroIn->i9, fnOf->km, InstAt->kz, mg_of->my, plainGet->nz, callWith_K->oj, instObj->ph, hasDictIn->p9, looks_findIn->qg, codeIn->qh, clsIn->rg, plainOver->se, emptyDict->sh, methodCall_KW->tz, plainGet_of->ur, looks_mroIn->ux, isFn->u1, lookIn->vf, typeIn->vg, kitx_bool->wj, excIn->w5, cellsFrom_some->xt, takerIn->yp, makesIn->yq, isClsIn->yx, handedIn->Aao, kitx_int->Aat, kitx_str->Aau, look_both->Aax, OpenLaw->AaG, kitOne->AaY, WalkO->Aa9
open List renaming length_map->af, length_cons->ag, length_append->ah, length_nil->ak, replicate->au, map_cons->aw, mem_cons->ba, nil_append->bh, not_mem_nil->bj, getElem?_eq_getElem->br, length_drop->bz, range->b7, mem_append_right->cf, mem_singleton->cu, set_cons_zero->cv, mem_append->cz, set_cons_succ->c9, mem_of_getElem?->dj, append_nil->dn, size_toArray->dw, cons_append->d7, map_append->eu, mem_append_left->fb, getElem?_append_right->fe, getElem?_append_left->ff, mem_cons_of_mem->fg, getElem?_map->fi, drop_eq_nil_of_le->fk, all_cons->fm, getElem?_set_ne->fv, length->fw, drop_eq_getElem_cons->fx, lookup_cons->gf, mem_cons_self->gk, sum_cons->gq, getElem?_set_self->gu, filterMap_cons->gv, takeWhile_cons->gw, map_map->gV, getElem?_replicate->iq, any_cons->i7, append_assoc->jd, all_map->je, all_eq_true->jz, length_dropLast->kc, dropWhile_cons->kl, mem_map->kq, dropLast_eq_take->lx, reverse_cons->mj, map_congr_left->ni, length_reverse->nk, length_take->n4, drop_zero->n6, range_succ_eq_map->ou, map_nil->ow, any_eq_false->p8, flatten_cons->qa, length_range->qe, map->ql, any_map->qo, replicate_succ->qu, foldl_cons->rk, getElem?_cons_zero->rz, getElem?_cons_succ->r8, isEmpty_cons->sk, any_nil->tj, take_of_length_le->tq, takeWhile_sublist->tw, length_replicate->t5, singleton_append->t8, length_flatten->uv, take_succ_cons->uy, foldl->vk, isPrefixOf_iff_prefix->vn, zip_cons_cons->vp, takeWhile_cons_of_pos->vq, isSuffixOf_iff_suffix->vt, getElem?_eq_some_iff->v5, extract_eq_take_drop->v7, lookup->wc, take_length->xa, isEmpty_nil->xk, all_nil->ym, dropWhile_sublist->yn, of_mem_zip->yr, forIn_cons->yt, any_append->yv, all_append->yw, take_append_drop->zh, drop_drop->Yz, drop_succ_cons->Zj, getElem?_drop->Zw, nodup_append->Aaj, take_add_one->Aal, isEmpty_iff->Aaq, getElem_mem->Aaz, reverse_nil->AaB, drop_length->AaC, length_set->AaH, isPrefixOf->AaK, take_nil->Abe, set_set->Abx
open PySem renaming wpAny_bind->ai, Shared->aj, wpAny_pure->a9, Program->bp, starEach->cb, mainGlobals->cq, Expr->cy, Around->c5, World->dh, bootBuiltins->dm, Spec->du, attributeBase->ei, FuncData->fh, wpAny_field->fj, foldedSetIterable->ft, assignEach->fy, wpAny_Call_Name_kw->fz, wpAny_mono->gh, wpAny_truthy_bool->jc, wpAny_ite_split->jh, holding->jm, binaryOp->jo, backTo->jr, wpAny_call_entry->jx, wpAny_callSpecial?_slot->ke, wpAny_isNot_other->kf, wpAny_execs_nil->kg, mem_of_lookup->ki, wpAny_holding->kr, sizeLine_eq->ku, keywordEach->kv, wpAny_setField->lq, wpAny_passesOwn->l8, noteFrame->l9, wpAny_specialOf->me, codeAny_mono->mh, wpAny_newObj_type->mi, call_meets->mv, swapsWith->nq, wpAny_is_other->n5, wpAny_of_eq->n9, standAt->og, behindInMarks->pq, getMethod->px, builtinLookup_eq_fast->p0, codeAny->qm, assign->qt, backToKw->qw, wpAny_comprehension_free->rf, rawInt->rm, callWith->si, wpAny_execs_cons->ua, wpAny_isInstance->uc, swapsWithSole->ud, swappedStores->ue, wpAny_updateSeq->ui, typeLookup_type->uj, codeAny_builtin->uk, compareOp->u6, PassesOwn->u7, typeLookup->vi, typeIs_str->vj, wpAny_pyIter_tuple->vo, wpAny_binaryOp_repeat_ref->vz, wpAny_excMatches_sub_self->wa, wpAny_sequenceKey->wg, IsPart->wq, wpAny_attempt->wz, NameKind->w6, noFill_tuple_add->w8, checkBuiltinCall->xf, scanBound->xg, setFlight->xi, sysModules->xm, wpAny_call->xr, getItem->xw, wpAny_typeOf->xx, wpAny_Call_method_late->yd, callerA->yf, wpAny_rule->yg, letOwnedTupleGo->yo, wpAny_isTrue_Compare1->yz, codeAny_handlers_test->ze, pyNext->zl, pyIter->zm, seqIndex_of->zp, compEnvC->zw, codeAny_call_builtin->zy, wpAny_nameGoes_keeps->Yx, BindsTo->Zb, wpAny_handleBy_cons->Zh, wpAny_standAt->Zk, seq_tuple_add->Zl, signature?_of->Zn, isTrue->Zq, typeOf->Zs, typeIs_int->Zv, Within->Zx, GenState->Zy, wpAny_assign_Name->Aaa, concat_meets->Aab, seqIndex_neg->Aac, slot_dict_getitem->Aad, wpAny_pyIter_list->Aae, compPost->Aaf, wpAny_loadPart_at->Aai, lastMarks->Aar, entryFor_of_tree->Aav, wpAny_Try_except->Aay, sliceBounds->AaD, cLine->AaE, codeAny_of_tree->AaI, spliced->AaM, leaving->AaN, ItemsOf->AaO, builtinsNs->AaP, wpAny_Name->AaQ, call->AaV, PyData->AaW, argsOk->Aa0, isType->Aa3, storeName->Abh, cellsFrom->Abk, updateSeq->Abm, isSubtype->Abn, Paired->Abo, truthy->Abp, setItem->Abr, Result->Abs
open PySem.Heap renaming get?_push_of_some->aq, lt_size->bc, get?_push_size->bo, get?_update_other->bq, get?_update_self->dq, size_push->lh, SameBut->mf, get?_none_of_le->zk, ExtBut->AbE
open Nat renaming le_refl->av, le_trans->az, zero_le->cg, ne_of_lt->cj, lt_of_lt_of_le->cw, pow_le_pow_right->iu, lt_succ_self->ju, le_max_right->jy, le_max_left->kh, lt_succ_of_lt->mq, lt_irrefl->mr, lt_of_le_of_lt->ot, blt->qf, mul_le_mul->qk, lt_succ_of_le->sy, not_lt_zero->uh, strongRecOn->uo, add_sub_cancel_left->w9, toDigits_of_lt_base->xj, le_of_lt->xo, ne_of_gt->xq, lt_trans->yh, toDigits->yi, zero_max->yj, max_zero->yk, add_min_add_right->zd, le_succ->zo, digitChar->Zo, zero_add->Aah, mul_zero->Aan, le_of_eq->Abt, beq->AbT
open Option renaming map_eq_some_iff->ay, bind_eq_some_iff->bb, bind_some->bg, getD_some->d5, getD_none->gg, map_some->gz, isSome_some->lu, isSome_none->pf, isNone_none->vw, isNone_some->vx
open PySem.Obj renaming data_mapFields->di, isFreed_of_fields->fo, mapFields->j8, mapSeq->oo, cls_mapFields->Aag
open Option.some renaming inj->dv
open Ne renaming symm->fq
open PySem.Builtin.List renaming listTooLong->gb, listExtendWith->qd, listLengthHint->u5, listSameRef->wy
open False renaming elim->gj
open List.cons renaming injEq->gm
open Prod.mk renaming injEq->gx
open PySem.Value renaming none->g6, type->g7, ref->jq, builtin->w4, bool->Zp, str->Abg
open PySem.Str renaming length->g8, ofString->om, join->Yw, cps_append->Aa4, empty->Abj
open Int renaming emod_lt_of_pos->g9, emod_nonneg->jj, toNat_of_nonneg->nh, toNat_natCast->tu, le_refl->Yy, max_eq_right->Aap, natCast_zero->AaA, mul_le_mul->AaX
open PySem.Builtin.Str renaming occurrences->ik, strSliceIndices->ko, strKind->Zi
open PyProof.Rows renaming callWith_type1->i5, slot_tuple_getitem->jk, envOfC->jw, split_len->qq, AllBare->uz, subscriptTail_builtinR->xy, IntsAre->ye, foldl_rep->Zc, entry_tuple_getitem->Zd, args_tuple_getitem->Zr, join_nil->Aam, len_tuple->Abi
open PyProof.Rows.F renaming plain_set_update_loop->kj, entry_set_update_loop->qv
open PyProof.Rows.KTD renaming datumAt->mn, flatLooks->wu, tabLook->zr
open PySem.Txt renaming partition->ng, split->vd, slice->Aas, startswith3->AaJ, mul->Abu, endswith->Abw
open True renaming intro->oi
open PySem.Calls renaming callWith_builtin->oq, evalArgs_plain->qj, Name_function_global->ve, spliced_cons->vh, spliced_nil->we
open PySem.F renaming slot_str_split->pe, args_tuple_add_2->qx, args_str_split_2->rh, entry_tuple_add->rq, entry_str_split->r9, slot_tuple_add->sj, slot_str_partition->vv, plainAttrs_list->xb, slot_int_rmul->y9, slot_dict_get->zi, args_list_extend_2->zq, plain_reversed_new->zx, excBase_ValueError->z9, entry_list_extend->Ze, plain_extend_loop->Zf, slot_list_extend->Zu, slot_int_rmul->AaF
open ForInStep renaming yield->pj
open PySem.Builtin.Tuple renaming tupleItemsOf->qi, tupleExact->qy, tupleTooMany->vm
open PySem.Builtin.Slice renaming slicePlaces->qr, sliceAdjust->vy
open Array renaming length_toList->qs, toList_append->uw, getElem?_eq_getElem->v8, toList_extract->zv, toList->Zz
open PySem.NameKind renaming free->qz, cell->Zm
open Function renaming comp_def->sv, comp->uf
open PySem.Around renaming in1_units->ub, under_plainId->ug
open PyProof.Rows.KTD.Dat renaming flat->u4
open PySem.StrLaws renaming subAt_one->wm, glued_eq_join->zg, strSub_toList->zj, subAt_eq->Aaw
open PySem.AutoSeq1 renaming wpAny_loadPart'->wx
open PySem.PassesOwn renaming never->yu
open PySem.W.Looks renaming of_pure->zf
open Sum renaming inl->Za, inr->AaL
open PySem.Heap.SameBut renaming update->Zg
open PySem.Paired renaming length->Aa5
open PySem.Shared renaming TypeIs->Abb
open PySem.SeqAt.EqAt renaming same->Abl, of_refs->Abv
open PySem.Walks renaming tuple->AbB
open BEq renaming comm->AbI
set_option Elab.async false
set_option tactic.hygienic false
set_option genSizeOf false
set_option genInjectivity false
set_option bootstrap.genMatcherCode false
set_option compiler.extract_closed false
set_option linter.all false
set_option maxRecDepth 100000
set_option maxHeartbeats 4000000
local macro_rules|`(tactic|simp! [$ls,*] $[$l:location]?)=>`(tactic|simp only [$ls,*] $[$l:location]?)
local macro_rules|`(tactic|lia)=>`(tactic|omega)
local macro_rules|`(tactic|cbv)=>`(tactic|decide)
local macro_rules|`(tactic|x_go)=>`(tactic|decide +kernel)
local macro_rules|`(tactic|z_go)=>`(tactic|kernel_rfl)
section
namespace L2
open PySem PySem.Spec PyProof.Rows
noncomputable abbrev Key:=Sum Int Str
noncomputable def Bj:Key->Value->Bool|.inl k,v=>Value.isInt k v|.inr x,v=>Value.isStrOf x v
noncomputable def Wo (w:dh):Key->Int|.inl k=>hashInt k|.inr x=>hashStr w x
theorem gJ:∀{k:Key}{v:Value},Bj k v=true->(∃i t,k=Za i/\v=Value.int i t)\/(∃x t,k=AaL x/\v=Abg x t)|.inl i,v,h=>by obtain⟨t,e⟩:=Value.isInt_shape h;exact .inl ⟨i,t,rfl,e⟩|.inr x,v,h=>by obtain⟨t,e⟩:=Value.isStrOf_shape h;exact .inr ⟨x,t,rfl,e⟩
theorem Ir (a b:Int):decide ((Za a:Key)=Za b)=(a==b):=by
 by_cases e:a=b;·subst e;simp
 ·have h:¬(Za a:Key)=Za b:=λq=>e<|Sum.inl.inj q;rw[decide_eq_false h];simp_all
theorem Kd (a b:Str):decide ((AaL a:Key)=AaL b)=decide (a=b):=by
 by_cases e:a=b;·simp
 ·simp_all
theorem Kc (a:Int)(b:Str):decide ((Za a:Key)=AaL b)=false:=decide_eq_false λq=>nomatch q
theorem Mf (a:Str)(b:Int):decide ((AaL a:Key)=Za b)=false:=decide_eq_false λq=>nomatch q
noncomputable def GS (prog:bp)(w:dh):PySem.KeyKind prog w Key where
 is:=Bj;hash:=Wo w;inj:=λv a b ha hb=>by
  rcases gJ ha with⟨i,t,rfl,rfl⟩|⟨x,t,rfl,rfl⟩
  ·rcases gJ hb with⟨j,u,rfl,e⟩|⟨y,u,rfl,e⟩;·injection e with e1 _;rw[e1]
   ·exact nomatch e
  ·rcases gJ hb with⟨j,u,rfl,e⟩|⟨y,u,rfl,e⟩;·exact nomatch e
   ·injection e with e1 _;rw[e1]
 byValue:=λk v h=>by rcases gJ h with⟨i,t,rfl,rfl⟩|⟨x,t,rfl,rfl⟩<;>rfl
 pyHash:=λhv h=>by
  rcases gJ hv with⟨i,t,rfl,rfl⟩|⟨x,t,rfl,rfl⟩;·exact wpAny_pyHash_int h
  ·exact wpAny_pyHash_str h
 eqBool:=λhu hv h=>by
  rcases gJ hu with⟨i,t,rfl,rfl⟩|⟨x,t,rfl,rfl⟩
  ·rcases gJ hv with⟨j,u,rfl,rfl⟩|⟨y,u,rfl,rfl⟩;·rw[Ir]at h;exact wpAny_eqBool_int h
   ·rw[Kc]at h;exact SeqAt.EqAt.int_str i t y u _ _ _ _ h
  ·rcases gJ hv with⟨j,u,rfl,rfl⟩|⟨y,u,rfl,rfl⟩;·rw[Mf]at h;exact SeqAt.EqAt.str_int x t j u _ _ _ _ h
   ·rw[Kd]at h;exact wpAny_eqBool_str h
 «strs»:=λk x t v h=>by
  rcases gJ h with⟨i,u,rfl,e⟩|⟨y,u,rfl,e⟩;·exact nomatch e
  ·injection e with e1 _;subst e1;cases v<;>rfl
end L2
namespace L2
open PySem PySem.Spec PyProof.Rows
inductive V where|non|bl (b:Bool)|int (i:Int)|str (x:Str)|byt (b:Array UInt8)|flt (b:UInt64)|ref (a:Addr)|ty (n:String)deriving DecidableEq
def RelV:V->Value->Prop|.non,u=>u=g6|.bl b,u=>u=Zp b|.int i,u=>∃t,u=Value.int i t|.str x,u=>∃t,u=Abg x t|.byt b,u=>∃t,u=Value.bytes b t|.flt b,u=>∃t,u=Value.float b t|.ref a,u=>u=jq a|.ty n,u=>u=g7 n
abbrev aS:List V->List Value->Prop:=Abo RelV
theorem aS.length {xs:List V}{us:List Value}(r:aS xs us):xs.length=us.length:=Aa5 r
theorem aS.get:∀{xs:List V}{us:List Value}{i:Nat}{x:V},aS xs us->xs[i]? = some x->∃u,us[i]? = some u/\RelV x u|_,_,_,_,.nil,e=>by simp at e|_,_,0,_,.cons r _,e=>by simp_all|_,_,i+1,x,.cons _ t,e=>by obtain⟨u,h1,h2⟩:=aS.get (i:=i) (x:=x) t (by simp_all);exact⟨u,by simp_all,h2⟩
theorem aS.set {x:V}{u:Value}(r:RelV x u):∀{xs:List V}{us:List Value}(i:Nat),aS xs us->aS (xs.set i x) (us.set i u)|_,_,_,.nil=>.nil|_,_,0,.cons _ t=>.cons r t|_,_,i+1,.cons q t=>.cons q<|aS.set r i t
theorem aS.append:∀{xs ys:List V}{us ws:List Value},aS xs us->aS ys ws->aS (xs++ys) (us++ws)|_,_,_,_,.nil,s=>s|_,_,_,_,.cons r t,s=>.cons r<|aS.append t s
theorem aS.take:∀{xs:List V}{us:List Value}(n:Nat),aS xs us->aS (xs.take n) (us.take n)|_,_,0,_=>.nil|_,_,_+1,.nil=>.nil|_,_,n+1,.cons r t=>.cons r<|aS.take n t
theorem aS.drop:∀{xs:List V}{us:List Value}(n:Nat),aS xs us->aS (xs.drop n) (us.drop n)|_,_,0,r=>r|_,_,_+1,.nil=>.nil|_,_,n+1,.cons _ t=>aS.drop n t
def wA:Option V->Option Value->Prop|some v,some u=>RelV v u|none,none=>True|_,_=>False
def KV {κ:Type}:List (κ×V)->List (κ×Value)->Prop:=Abo λ(p:κ×V)(q:κ×Value)=>p.1=q.1/\RelV p.2 q.2
noncomputable def kV:Key->V|.inl i=>.int i|.inr x=>.str x
set_option genInjectivity true in
inductive HO where/-- a list -/|lst (xs:List V)/-- a tuple (never changes) -/|tup (xs:List V)/-- a dict whose keys are ints and texts; one whose keys are tuples of ints and texts (the empty one is both) -/|dK (iF:List<|Key×V)|dT (iF:List<|List Key×V)/-- a set of ints: aD members, aD size -/|set (S:Int->Bool)(n:Nat)/-- an instance of the class at C, aD dict at dx, aD attributes -/|ins (C dx:Addr)(fs:List<|Str×V)/-- the dict of the instance at x -/|own (x:Addr)/-- the dict of an exception -/|xd (fs:List<|Str×V)/-- a bound method, f of x -/|met (f x:Addr)/-- a range object lo, lo + 1, .. below hi -/|rng (lo hi:Int)/-- a thing that is known to the object (the script; a dict while a loop walks it): read, never written while it is so -/|frz (o:Obj)(u:HO)/-- a code object's table -/|tbl (ps:Array Value)/-- any other thing, by what is true of aD one object (a def of one's own: SetO a S n := HO.ext fun h => ..) -/|ext (φ:bp->dh->Heap->Prop)
noncomputable abbrev Hp:=Addr->Option HO
noncomputable def upd (H:Hp)(a:Addr)(o:HO):Hp:=λb=>if b=a then some o else H b
variable {H:Hp}
theorem dX {a:Addr}{o:HO}:upd H a o a=some o:=by unfold upd;rw[if_pos rfl]
variable {b:Addr}
theorem aY {a:Addr}{o:HO}(h:b≠a):upd H a o b=H b:=by unfold upd;rw[if_neg h]
theorem RD {a:Addr}{o u:HO}(h:H a=some o)(h':H b=some u)(d:o≠u):a≠b:=by intro e;subst e;rw[h]at h';exact d<|dv h'
theorem dF {a:Addr}{o:HO}(h:H a=some o)(h':H b=none):a≠b:=by intro e;subst e;rw[h]at h';cases h'
def oS (h:Heap)(a:Addr)(aD:Array Value):Prop:=∃o,h.get? a=some o/\o.cls=.type "tuple" /\ (∃n,o.data=.seq aD n)/\o.dict=none
variable {aD:Array Value}
theorem oS.tup {h:Heap}{a:Addr}:oS h a aD->IsTup h a aD:=λ⟨o,e,c,d,_⟩=>⟨o,e,c,d⟩
theorem oS.lt {h:Heap}{a:Addr}(x:oS h a aD):a<h.objs.size:=x.tup.lt
theorem oS.new (h:Heap)(items:Array Value):oS (h.push { cls:=.type "tuple", data:=.seq items }) h.objs.size items:=⟨_,bo _ rfl,rfl,⟨_,rfl⟩,rfl⟩
section
variable (P:bp)(w:dh)
def gN (H:Hp)(h:Heap)(a:Addr):HO->Prop|.lst xs=>xs.length<=sizeLine/\∃(aD:List Value)(n:Nat),aS xs aD/\h.get? a=some { cls:=.type "list", data:=.seq aD.toArray n }|.tup xs=>xs.length<=sizeLine/\∃aD:List Value,aS xs aD/\oS h a aD.toArray|.dK iF=>iF.length<=sizeLine/\(a==xm)=false/\∃vs,KV iF vs/\h.DictOf (GS P w) a vs|.dT iF=>iF.length<=sizeLine/\(a==xm)=false/\∃xs:List<|List Key×Addr×Value,Abo (λ(p:List Key×V)(q:List Key×Addr×Value)=>p.1=q.1/\H q.2.1=some (.tup<|p.1.map kV)/\RelV p.2 q.2.2) iF xs /\∃o es ep,h.get? a=some o/\o.ExactDict/\o.data=.dict es ep/\es.toList=xs.map (entryOfKey<|tupleKind<|GS P w)/\(xs.map (·.1)).Nodup|.set S n=>h.SetOf (intKind P w) a S n|.ins C dx fs=>H dx=some (.own a)/\fs.length<=1000/\dx≠a/\h.get? a=some (ph C dx) /\ ∃mA,h.Ns1 dx mA/\(∀f,wA (fs.lookup f)<|mA f)/\Zx mA (fs.map (·.1))|.own _=>∃o,h.get? a=some o|.xd fs=>∃mA,h.Ns1 a mA/\∀f,wA (fs.lookup f)<|mA f|.rng lo hi=>∃t u v,h.get? a=some { cls:=.type "range", data:=.fields #[.int lo t,.int hi u,.int 1 v] }|.frz o u=>h.get? a=some o/\gN H h a u|.tbl ps=>h.get? a=some { cls:=.none,data:=.fields ps }|.met f x=>h.get? a=some (PySem.W.methodObj (.ref f)<|.ref x)|.ext φ=>φ P w h/\(∃o,h.get? a=some o)/\∀h1 h2:Heap,φ P w h1->(∀o,h1.get? a=some o->h2.get? a=some o)->φ P w h2
def fH (H:Hp)(h:Heap):Prop:=∀a o,H a=some o->gN P w H h a o
end
variable {P:bp}{h':Heap}
section
variable {w:dh}{H':Hp}{h:Heap}{a:Addr}{o:HO}
theorem gN.lt (x:gN P w H h a o):a<h.objs.size:=by cases o with|lst xs=>obtain⟨_,_,_,_,e⟩:=x;exact bc e|tup xs=>obtain⟨_,_,_,p⟩:=x;exact p.lt|dK iF=>obtain⟨_,_,_,_,o,_,_,e,_⟩:=x;exact bc e|dT iF=>obtain⟨_,_,_,_,o,_,_,e,_⟩:=x;exact bc e|set S n=>obtain⟨o,_,_,_,e,_⟩:=x;exact bc e|ins C dx fs=>obtain⟨_,_,_,e,_⟩:=x;exact bc e|own y=>obtain⟨_,e⟩:=x;exact bc e|xd fs=>obtain⟨_,⟨_,_,_,e,_⟩,_⟩:=x;exact bc e|rng lo hi=>obtain⟨_,_,_,e⟩:=x;exact bc e|frz ob u=>obtain⟨e,_⟩:=x;exact bc e|tbl ps=>exact bc x|met f y=>exact bc x|ext φ=>obtain⟨_,⟨_,e⟩,_⟩:=x;exact bc e
theorem Paired.My {α β:Type}{F G:α->β->Prop}:∀{up:List α}{nw:List β},Abo F up nw->(∀a b,F a b->G a b)->Abo G up nw|_,_,.nil,_=>.nil|_,_,.cons r t,f=>.cons (f _ _ r)<|Paired.My t f
theorem gN.qQ (x:gN P w H h a o)(k:∀b u,b=a\/H b=some (.own a)->h.get? b=some u->h'.get? b=some u)(ho:∀b,H b=some (.own a)->H' b=some (.own a))(ht:∀b xs,H b=some (.tup xs)->H' b=some (.tup xs)):gN P w H' h' a o:=by induction o with|lst xs=>obtain⟨z,aD,n,r,e⟩:=x;exact⟨z,aD,n,r,k _ _ (.inl rfl) e⟩|tup xs=>obtain⟨z,aD,r,ob,e,c⟩:=x;exact⟨z,aD,r,ob,k _ _ (.inl rfl) e,c⟩|dK iF=>obtain⟨z,y,vs,r,ob,es,ep,e,c⟩:=x;exact⟨z,y,vs,r,ob,es,ep,k _ _ (.inl rfl) e,c⟩|dT iF =>obtain⟨z,y,xs,r,ob,es,ep,e,c⟩:=x;exact⟨z,y,xs,Paired.My r λp q z=>⟨z.1,ht _ _ z.2.1,z.2.2⟩,ob,es,ep,k _ _ (.inl rfl) e,c⟩|set S n=>obtain⟨ob,es,ep,t,e,c⟩:=x;exact⟨ob,es,ep,t,k _ _ (.inl rfl) e,c⟩|ins C dx fs =>obtain⟨d,z,ne,e,mA,⟨od,es,ep,e2,c⟩,r⟩:=x;exact⟨ho _ d,z,ne,k _ _ (.inl rfl) e,mA,⟨od,es,ep,k _ _ (.inr d) e2,c⟩,r⟩|own y=>obtain⟨ob,e⟩:=x;exact⟨ob,k _ _ (.inl rfl) e⟩|xd fs=>obtain⟨mA,⟨od,es,ep,e,c⟩,r⟩:=x;exact⟨mA,⟨od,es,ep,k _ _ (.inl rfl) e,c⟩,r⟩|rng lo hi=>obtain⟨t,u,v,e⟩:=x;exact⟨t,u,v,k _ _ (.inl rfl) e⟩|frz ob u ih=>obtain⟨e,q⟩:=x;exact⟨k _ _ (.inl rfl) e,ih q⟩|tbl ps =>have e:=x;exact k a _ (.inl rfl) e|met f y =>have e:=x;exact k a _ (.inl rfl) e|ext φ=>obtain⟨p,⟨o,e⟩,st⟩:=x;exact⟨st _ _ p λo q=>k _ _ (.inl rfl) q,⟨o,k _ _ (.inl rfl) e⟩,st⟩
theorem fH.lt (x:fH P w H h)(e:H a=some o):a<h.objs.size:=(x a o e).lt
theorem fH.fresh (x:fH P w H h)(e:h.objs.size<=a):H a=none:=by cases q:H a with|none=>rfl|some u=>exact absurd (cw (x.lt q) e)<|mr _
theorem fH.kept (x:fH P w H h)(k:∀b u,h.get? b=some u->h'.get? b=some u):fH P w H h':=λa o e =>(x a o e).qQ (λb u _ q=>k b u q) (λ_ q=>q) λ_ _ q=>q
theorem fH.laid (x:fH P w H h)(k:∀b u,h.get? b=some u->h'.get? b=some u)(hp:h.objs.size<=a)(new:gN P w (upd H a o) h' a o):fH P w (upd H a o) h':=λb u e=>by
 have hn:=x.fresh hp;by_cases hb:b=a;·subst hb;rw[dX]at e;cases e;exact new
 ·rw[aY hb]at e;exact(x b u e).qQ (λc v _ q=>k c v q) (λc q=>by rw[aY<|dF q hn];exact q) λc xs q=>by rw[aY<|dF q hn];exact q
end
def Rd (H:Hp)(a:Addr)(u:HO):Prop:=H a=some u\/∃o,H a=some (.frz o u)
theorem Rd.ok {w:dh}{h:Heap}{a:Addr}{u:HO}(r:Rd H a u)(x:fH P w H h):gN P w H h a u:=by
 rcases r with r|⟨o,r⟩;·exact x a u r
 ·obtain⟨_,q⟩:=x a _ r;exact q
def Cc:Option HO->Prop|some<|.lst _=>True|some<|.dK _=>True|some<|.dT _=>True|some<|.set _ _=>True|some<|.ins _ _ _=>True|some<|.ext _=>True|_=>False
section
variable {w:dh}{h:Heap}{x e:Addr}{o':HO}
theorem fH.write (ok:fH P w H h)(mu:Cc<|H x)(he:e=x\/H e=some (.own x))(k:∀b u,b≠e->h.get? b=some u->h'.get? b=some u)(heo:∃u,h'.get? e=some u) (new:gN P w (upd H x o') h' x o'):fH P w (upd H x o') h':=λb u q=>by
 have nown:∀c y,H c=some (.own y)->c≠x:=λc y r z=>by subst z;rw[r]at mu;exact mu
 have ntup:∀c xs,H c=some (.tup xs)->c≠x:=λc xs r z=>by subst z;rw[r]at mu;exact mu
 by_cases hb:b=x;·subst hb;rw[dX]at q;cases q;exact new
 ·rw[aY hb]at q;by_cases hbe:b=e
  ·have q':H b=some (.own x):=by
    rcases he with z|z;·exact absurd (hbe.trans z) hb
    ·rw[hbe];exact z
   rw[q]at q';cases q';obtain⟨v,hv⟩:=heo;exact⟨v,by simp_all⟩
  ·refine(ok b u q).qQ (λc v hc r=>k c v ?_ r) (λc r=>by rw[aY<|nown c b r];exact r) λc xs r=>by rw[aY<|ntup c xs r];exact r
   rcases hc with rfl|hc;·exact hbe
   ·rintro rfl;rcases he with z|z;·exact nown c b hc z
    simp_all
end
structure Un (fs ex:List Addr)(H H':Hp)(h h':Heap):Prop where
 keep:∀b o,h.get? b=some o->H b=none->b∉fs->b∉ex->h'.get? b=some o
 slot:∀b o,h.get? b=some o->H b=none->b∈fs->b∉ex->∃sl,h'.get? b=some { o with slots:=sl }free:∀b o,h.get? b=some o->H b=none->b∉ex->H' b=none
 there:∀b o,h.get? b=some o->b∉ex->∃o',h'.get? b=some o'
 jO:∀b xs,H b=some (.tup xs)->H' b=some (.tup xs)jG:∀b o u,H b=some (.frz o u)->H' b=some (.frz o u)kC:∀b ps,H b=some (.tbl ps)->∃more,H' b=some (.tbl<|ps++more)
section
variable {fs fs' ex ex':List Addr}{H1 H2:Hp}{h h1 h2:Heap}{a x e:Addr}{o:HO}
theorem Un.any (u:Un fs ex H H1 h h1){ob:Obj}(q:h.get? b=some ob)(n:H b=none)(hx:b∉ex):∃sl,h1.get? b=some { ob with slots:=sl }:=by
 by_cases hb:b∈fs;·exact u.slot b ob q n hb hx
 ·exact⟨_,u.keep b ob q n hb hx⟩
theorem Un.kept (k:∀b u,h.get? b=some u->h'.get? b=some u):Un fs ex H H h h' :=⟨λb ob q _ _ _=>k b ob q,λb ob q _ _ _=>⟨_,k b ob q⟩,λ_ _ _ n _=>n,λb ob q _=>⟨ob,k b ob q⟩,λ_ _ q=>q,λ_ _ _ q=>q,λ_ ps q=>⟨#[],by simp_all⟩⟩
theorem Un.refl:Un fs ex H H h h:=Un.kept λ_ _ q=>q
theorem Un.laid (k:∀b u,h.get? b=some u->h'.get? b=some u)(hp:h.objs.size<=a)(hn:H a=none):Un fs ex H (upd H a o) h h' where
 keep:=λb u q _ _ _=>k b u q;slot:=λb u q _ _ _=>⟨_,k b u q⟩;free:=λb u q n _=>by rw[aY<|cj<|cw (bc q) hp];exact n
 there:=λb u q _=>⟨u,k b u q⟩;jO:=λb xs q=>by rw[aY<|dF q hn];exact q
 jG:=λb u xs q=>by rw[aY<|dF q hn];exact q
 kC:=λb ps q=>⟨#[],by rw[aY<|dF q hn,q];simp⟩
theorem Un.write (mu:Cc<|H x)(he:e=x\/H e=some (.own x))(k:∀b u,b≠e->h.get? b=some u->h'.get? b=some u)(heo:∃u,h'.get? e=some u):Un fs ex H (upd H x o) h h':=by
 have hx:∀b,H b=none->b≠x:=λb n z=>by subst z;rw[n]at mu;exact mu
 have hb:∀b,H b=none->b≠e:=λb n z=>by simp_all
 have hm:∀b u,H b=some u->¬Cc (some u)->b≠x:=λb u q nm z=>by simp_all
 refine⟨λb u q n _ _=>k b u (hb b n) q,λb u q n _ _=>⟨_,k b u (hb b n) q⟩,λb u q n _=>by rw[aY<|hx b n];exact n,λb u q _=>?_,λb xs q=>by rw[aY<|hm b _ q λz=>z];exact q,λb u xs q=>by rw[aY<|hm b _ q λz=>z];exact q,λb ps q=>⟨#[],by rw[aY<|hm b _ q λz=>z,q];simp⟩⟩;by_cases hbe:b=e;·subst hbe;exact heo
 ·exact⟨u,k b u hbe q⟩
end
noncomputable def IA (h:Heap)(H:Hp):List Addr:=(b7 h.objs.size).filter λa=>(H a).isSome
noncomputable def wY (h:Heap)(H:Hp):Heap:=PySem.W.hideAll h<|IA h H
theorem VC (h:Heap)(H:Hp):(wY h H).objs.size=h.objs.size:=PySem.W.hideAll_size _ _
theorem ZV {h:Heap}{o:Obj}(e:h.get? b=some o)(n:H b=none):(wY h H).get? b=some o :=PySem.W.hideAll_get _ e λhm=>by have q:=(List.mem_filter.mp hm).2;rw[n]at q;simp at q
theorem Dt {h:Heap}{o:Obj}(e:(wY h H).get? b=some o):h.get? b=some o/\H b=none:=by have e':=PySem.W.of_hideAll _ e;refine⟨e',?_⟩;cases q:H b with|none=>rfl|some x =>have hm:b∈IA h H:=List.mem_filter.mpr ⟨List.mem_range.mpr<|bc e',by simp [q]⟩;have z:(wY h H).get? b=none:=PySem.W.hideAll_none _ hm;rw[z]at e;cases e
noncomputable def Dz (g h:Heap)(L:Addr):List<|Addr×Obj:=(b7 h.objs.size).filterMap λa=>if a=L\/(g.get? a).isSome=true then none else(h.get? a).map λo=>(a,o)
noncomputable def rest (g h:Heap)(L d:Addr):List<|Addr×Obj:=(Dz g h L).filter λp=>decide<|p.1≠d
end L2
namespace L2
open PySem PySem.Spec PyProof.Rows
structure Mod (K:ae)(mg:Str->Option Value)(base:Heap):Prop where
 kin:K.In base
 glob:base.Ns cq mg
 blt:∃mb,base.Ns AaP mb/\∀x:Str,x ≠"__name__" -> mb x=dm x
 nolimit:base.NoLimit
structure Cx where
 prog:bp
 w:dh
 K:ae
 mg:Str->Option Value
 base:Heap
 A:c5
 N:List Str
 s₀:aj
 H₀:Hp
 env:Env
 outer:List Env
 stack:List Env
 ex:List Addr
 fn:Str->Bool
 calm:Bool
 pn:List (Addr×Obj)xe:Value->aj->Prop
noncomputable def gS (l:List Env):List Addr:=l.filterMap (·.frame)
noncomputable abbrev Cx.fs (X:Cx):List Addr:=gS X.outer
def Bs (sc:Scope)(x:Str):Prop:=sc.names.lookup x=some .local\/sc.names.lookup x=some .cell\/sc.names.lookup x=some .free
def Loc (sc:Scope)(x:Str):Prop:=sc.names.lookup x=some .local\/sc.names.lookup x=some .cell
def Look (env:Env)(h:Heap)(m:Str->Option Value)(x:Str)(u:Value):Prop :=env.kindOf x=some .local/\m x=some u\/((env.kindOf x=some .cell\/env.kindOf x=some .free)/\∃c,env.cells.lookup x=some c/\h.IsCell c (some u))
structure Cx.Ok (X:Cx):Prop where
 mod:Mod X.K X.mg X.base
 kind:X.env.scope.kind=.function
 glob:X.env.globals=cq
 blt:X.env.builtins=AaP
 above:X.s₀.heap.objs.size<=X.env.locals
 inj:∀x y c,X.env.cells.lookup x=some c->X.env.cells.lookup y=some c->x=y
 has:∀x,X.env.kindOf x=some .cell\/X.env.kindOf x=some .free->∃c,X.env.cells.lookup x=some c
 cab:∀x c,X.fn x=true->X.env.cells.lookup x=some c->X.s₀.heap.objs.size<=c
 hd:X.calm=true->X.A.handled=none
 frames:X.A.frames=some X.stack
 stk:X.stack=X.outer\/(X.stack=X.env::X.outer/\X.env.frame=some X.env.locals)exf:∀b∈X.ex,b≠X.env.locals/\∀x c,X.env.cells.lookup x=some c->c≠b
 bs:∀b o,X.base.get? b=some o->X.s₀.heap.get? b=some o/\X.H₀ b=none
 bsz:X.base.objs.size<=X.s₀.heap.objs.size
 noex:∀b o,X.base.get? b=some o->b∉X.ex
 exfs:∀b∈X.ex,b∉X.fs
 lA:X.s₀.heap.FunFrames X.base X.outer
 frf:∀b∈X.fs,X.H₀ b=none
structure Inv (X:Cx)(pz:List<|Addr×Obj)(σ:List<|Option V)(H:Hp)(s:aj):Prop where
 ok:X.Ok
 os:s.os=X.s₀.os
 bare:uz s.gens
 base:Un X.fs X.ex X.H₀ H X.s₀.heap s.heap
 loc:∃m,s.heap.Ns X.env.locals m/\∀(i:Nat)(x:Str)(v:V),X.N[i]? = some x->σ[i]? = some (some v)->Bs X.env.scope x->∃u,RelV v u/\Look X.env s.heap m x u
 cell:∀x c,X.env.cells.lookup x=some c->∃v,s.heap.IsCell c v
 free:H X.env.locals=none
 jH:∀x c,X.env.cells.lookup x=some c->H c=none
 pin:∀p∈X.pn++pz,s.heap.get? p.1=some p.2/\H p.1=none/\p.1≠X.env.locals/\p.1∉X.fs/\∀v,p.2.data≠.cell v
 bL:fH X.prog X.w H s.heap
 len:σ.length=X.N.length
variable {g':Array Zy}{t' i:Nat}{ch:List Addr}{M:Model}{E:Value->aj->Prop}{u:Value}{Q:Unit->aj->Prop}
section
variable {X:Cx}{pz:List<|Addr×Obj}{σ:List<|Option V}{H H':Hp}{s:aj}{h':Heap}
theorem Cx.Ok.Wf (ok:X.Ok){b:Addr}{o:Obj}(e:X.base.get? b=some o):b∉X.fs:=λhb=>by have:=(ok.lA.mem hb).1;rw[e]at this;cases this
theorem Inv.bs (I:Inv X pz σ H s):∀b o,X.base.get? b=some o->s.heap.get? b=some o/\H b=none:=λb o e =>⟨I.base.keep b o (I.ok.bs b o e).1 (I.ok.bs b o e).2 (I.ok.Wf e)<|I.ok.noex b o e,I.base.free b o (I.ok.bs b o e).1 (I.ok.bs b o e).2<|I.ok.noex b o e⟩
theorem Inv.bk (I:Inv X pz σ H s):∀b o,X.base.get? b=some o->s.heap.get? b=some o:=λb o e=>(I.bs b o e).1
theorem Inv.mod (I:Inv X pz σ H s):Mod X.K X.mg X.base:=I.ok.mod
theorem Inv.gR (I:Inv X pz σ H s):X.K.In s.heap:=I.ok.mod.kin.keeps I.bk
theorem Inv.fr (I:Inv X pz σ H s):∃m,Fr X.base X.env.locals s.heap m :=let⟨m,hn,_⟩:=I.loc;⟨m,hn,I.bk,az I.ok.bsz I.ok.above⟩
theorem Inv.lt (I:Inv X pz σ H s):X.env.locals<s.heap.objs.size:=let⟨_,hn,_⟩:=I.loc;hn.lt
theorem Inv.sz (I:Inv X pz σ H s):X.s₀.heap.objs.size<=s.heap.objs.size:=az I.ok.above<|xo I.lt
theorem Inv.Lj (I:Inv X pz σ H s){a:Addr}(h:s.heap.objs.size<=a):a∉X.fs:=λhb=>by obtain⟨_,o,ho,_⟩:=I.ok.lA.mem hb;exact absurd (cw (bc ho)<|az I.sz h)<|mr _
theorem Inv.CA (I:Inv X pz σ H s):∀x c,X.env.cells.lookup x=some c->c≠X.env.locals:=λx c e z=>by obtain⟨v,o,ho,hd⟩:=I.cell x c e;obtain⟨m,⟨o',es,ep,ho',hd',_⟩,_⟩:=I.loc;rw[z,ho']at ho;cases ho;rw[hd']at hd;cases hd
theorem Inv.lA (I:Inv X pz σ H s):s.heap.FunFrames X.base X.outer:=by
 have all:∀(l:List Env),(∀b∈gS l,b∈X.fs)->X.s₀.heap.FunFrames X.base l->s.heap.FunFrames X.base l:=by intro l;induction l with|nil=>intro _ _;trivial|cons env r ih =>intro hs hl;obtain⟨hk,⟨L,o,hf,hn,ho,hd⟩,hr⟩:=hl;have hL:=hs L (by unfold gS;rw[gv,hf];exact gk);obtain⟨sl,e⟩:=I.base.slot L o ho (I.ok.frf L hL) hL λz=>I.ok.exfs L z hL;exact⟨hk,⟨L,_,hf,hn,e,hd⟩,ih (λb hb=>hs b<|by unfold gS;rw[gv,hf];exact fg _ hb) hr⟩
 exact all _ (λ_ hb=>hb) I.ok.lA
theorem Inv.stack (I:Inv X pz σ H s):s.heap.FunFrames X.base X.stack:=by
 rcases I.ok.stk with e|⟨e,hf⟩;·rw[e];exact I.lA
 ·rw[e];obtain⟨m,hn,_⟩:=I.loc;refine .cons (by rw[I.ok.kind];cbv) hf hn ?_ I.lA;exact zk<|az I.ok.bsz I.ok.above
theorem Inv.L8 (I:Inv X pz σ H s):∀b∈gS X.stack,b∈X.env.locals::X.fs:=λb hb=>by
 rcases I.ok.stk with e|⟨e,hf⟩;·rw[e]at hb;simp_all
 ·rw[e]at hb;unfold gS at hb;rw[gv,hf]at hb;exact hb
theorem Inv.pB (I:Inv X pz σ H s):∀b∈gS X.stack,H b=none:=λb hb=>by
 rcases List.mem_cons.mp (I.L8 b hb)with e|hb;·rw[e];exact I.free
 ·obtain⟨_,o,ho,_⟩:=I.ok.lA.mem hb;exact I.base.free b o ho (I.ok.frf b hb) λz=>I.ok.exfs b z hb
theorem Inv.step {d':Drawn}(I:Inv X pz σ H s)(hch:∀b∈ch,(b∈X.ex\/X.s₀.heap.objs.size<=b)/\b≠X.env.locals/\(∀x c,X.env.cells.lookup x=some c->c≠b)/\∀p∈X.pn++pz,p.1≠b)(keep:∀b o,b≠X.env.locals->b∉X.fs->b∉ch->s.heap.get? b=some o->H b=none->h'.get? b=some o)(slot:∀b o,b≠X.env.locals->b∈X.fs->b∉ch->s.heap.get? b=some o->H b=none->∃sl,h'.get? b=some { o with slots:=sl })(free:∀b o,b∉ch->s.heap.get? b=some o->H b=none->H' b=none)(there:∀b o,b∉ch->s.heap.get? b=some o->∃o',h'.get? b=some o')(jO:∀b xs,H b=some (.tup xs)->H' b=some (.tup xs))(jG:∀b o u,H b=some (.frz o u)->H' b=some (.frz o u))(kC:∀b ps,H b=some (.tbl ps)->∃more,H' b=some (.tbl<|ps++more))(ns:∀m,s.heap.Ns X.env.locals m->h'.Ns X.env.locals m)(bL:fH X.prog X.w H' h')(hg:uz g'): Inv X pz σ H' { s with heap:=h',gens:=g',drawn:=d',toks:=t' }:=by
 have neL:∀b o,X.s₀.heap.get? b=some o->b≠X.env.locals:=λb o e=>cj<|cw (bc e) I.ok.above;have neC:∀b o,X.s₀.heap.get? b=some o->b∉X.ex->b∉ch:=λb o e hx hb=>by
  rcases(hch b hb).1 with z|z;·exact hx z
  ·exact absurd (cw (bc e) z)<|mr _
 have cellK:∀x c,X.env.cells.lookup x=some c->∀v,s.heap.IsCell c v->h'.IsCell c v:=λx c e v ⟨o,ho,hd⟩=>by
  have nch:=λz=>(hch c z).2.2.1 x c e rfl;by_cases hc:c∈X.fs;·obtain⟨sl,q⟩:=slot c o (I.CA x c e) hc nch ho<|I.jH x c e;exact⟨_,q,hd⟩
  ·exact⟨o,keep c o (I.CA x c e) hc nch ho<|I.jH x c e,hd⟩
 refine⟨I.ok,I.os,hg,⟨λb o e n hb hx=>?_,λb o e n hb hx=>?_,λb o e n hx=>?_,λb o e hx=>?_,λb xs e=>jO b xs<|I.base.jO b xs e,λb o xs e=>jG b o xs<|I.base.jG b o xs e,λb ps e=>?_⟩,?_,λx c e=>?_,?_,λx c e=>?_,λp hp=>?_,bL,I.len⟩;·exact keep b o (neL b o e) hb (neC b o e hx) (I.base.keep b o e n hb hx)<|I.base.free b o e n hx
 ·obtain⟨sl,e1⟩:=I.base.slot b o e n hb hx;obtain⟨sl',e2⟩:=slot b _ (neL b o e) hb (neC b o e hx) e1<|I.base.free b o e n hx;exact⟨sl',e2⟩
 ·obtain⟨o',e1⟩:=I.base.there b o e hx;exact free b o' (neC b o e hx) e1<|I.base.free b o e n hx
 ·obtain⟨o',e1⟩:=I.base.there b o e hx;exact there b o' (neC b o e hx) e1
 ·obtain⟨m1,e1⟩:=I.base.kC b ps e;obtain⟨m2,e2⟩:=kC b _ e1;exact⟨m1++m2,by rw[e2,Array.append_assoc]⟩
 ·obtain⟨m,hn,hl⟩:=I.loc;refine⟨m,ns m hn,λi x v e1 e2 e3=>?_⟩;obtain⟨u,r,l⟩:=hl i x v e1 e2 e3;refine⟨u,r,?_⟩;rcases l with l|⟨k,c,e,z⟩;·exact .inl l
  ·exact .inr ⟨k,c,e,cellK x c e _ z⟩
 ·obtain⟨v,z⟩:=I.cell x c e;exact⟨v,cellK x c e v z⟩
 ·obtain⟨m,⟨o,_,_,ho,_⟩,_⟩:=I.loc;exact free _ o (λz=>(hch _ z).2.1 rfl) ho I.free
 ·obtain⟨v,o,ho,hd⟩:=I.cell x c e;exact free c o (λz=>(hch c z).2.2.1 x c e rfl) ho<|I.jH x c e
 ·obtain⟨e,n,ne,nf,d⟩:=I.pin p hp;have nch:=λz=>(hch p.1 z).2.2.2 p hp rfl;exact⟨keep p.1 p.2 ne nf nch e n,free p.1 p.2 nch e n,ne,nf,d⟩
theorem Inv.un (I:Inv X pz σ H s)(u:Un X.fs [] H H' s.heap h')(bL:fH X.prog X.w H' h'):Inv X pz σ H' { s with heap:=h',toks:=t' }:=by obtain⟨m,⟨o,es,ep,ho,r⟩,_⟩:=id I.loc;obtain⟨sl,hL⟩:=u.any ho I.free (by simp);exact I.step (ch:=[]) (λ_ z=>nomatch z) λb o _ hb _ e n=>u.keep b o e n hb<|by simp λb o _ hb _ e n=>u.slot b o e n hb<|by simp λb o _ e n=>u.free b o e n<|by simp λb o _ e=>u.there b o e<|by simp u.jO u.jG u.kC (λm' hm=>by obtain⟨o',es',ep',ho',r'⟩:=hm;rw[ho]at ho';cases ho';exact⟨_,es',ep',hL,r'⟩) bL I.bare
theorem Inv.call {d':Drawn}(I:Inv X pz σ H s)(u:Un (gS X.stack) ch H H' s.heap h')(bL:fH X.prog X.w H' h')(hg:uz g')(hch:∀b∈ch,(b∈X.ex\/X.s₀.heap.objs.size<=b)/\b≠X.env.locals/\(∀x c,X.env.cells.lookup x=some c->c≠b)/\∀p∈X.pn++pz,p.1≠b):Inv X pz σ H' { s with heap:=h',gens:=g',drawn:=d',toks:=t' }:=by obtain⟨m,⟨o,es,ep,ho,r⟩,_⟩:=id I.loc;obtain⟨sl,hL⟩:=u.any ho I.free λz=>(hch _ z).2.1 rfl;exact I.step hch (λb o hL hb hc e n=>u.keep b o e n (λz=>(List.mem_cons.mp<|I.L8 b z).elim hL hb) hc) (λb o _ _ hc e n=>u.any e n hc) (λb o hc e n=>u.free b o e n hc) (λb o hc e=>u.there b o e hc) u.jO u.jG u.kC (λm' hm=>by obtain⟨o',es',ep',ho',r'⟩:=hm;rw[ho]at ho';cases ho';exact⟨_,es',ep',hL,r'⟩) bL hg
theorem Inv.turned {it:Addr}(I:Inv X pz σ H s)(k:∀b o,b≠it->s.heap.get? b=some o->h'.get? b=some o)(hn:H it=none)(hL:it≠X.env.locals)(h1:it∈X.ex\/X.s₀.heap.objs.size<=it)(h2:∀x c,X.env.cells.lookup x=some c->c≠it)(h3:∀p∈X.pn++pz,p.1≠it):Inv X pz σ H { s with heap:=h',toks:=t' }:=by
 have nit:∀b u,H b=some u->b≠it:=λb u e z=>by rw[z,hn]at e;cases e
 refine I.step (ch:=[it]) (λb hb=>?_) (λb o _ _ hc e _=>k b o λz=>hc<|by simp [z] e) (λb o _ _ hc e _=>⟨_,k b o λz=>hc<|by simp [z] e⟩) (λ_ _ _ _ n=>n) (λb o hc e=>⟨o,k b o λz=>hc<|by simp [z] e⟩) (λ_ _ e=>e) (λ_ _ _ e=>e) (λb ps e=>⟨#[],by assumption⟩) (λm hm=>?_) (λb u e=>?_) I.bare
 ·have e:=by simpa using hb
  subst e;exact⟨h1,hL,h2,h3⟩
 ·obtain⟨o,es,ep,ho,r⟩:=hm;exact⟨o,es,ep,k _ o (fq hL) ho,r⟩
 ·refine(I.bL b u e).qQ (λc v hc q=>k c v ?_ q) (λ_ q=>q) λ_ _ q=>q;rcases hc with z|z;·simp_all
  ·exact nit c _ z
theorem Inv.tok (I:Inv X pz σ H s)(t:Nat):Inv X pz σ H { s with toks:=t }:=I.un (h':=s.heap) (t':=t) Un.refl I.bL
theorem Inv.kept (I:Inv X pz σ H s)(k:∀b u,s.heap.get? b=some u->h'.get? b=some u):Inv X pz σ H { s with heap:=h',toks:=t' }:=I.un (Un.kept k)<|I.bL.kept k
theorem Inv.laid {a:Addr}{o:HO}(I:Inv X pz σ H s)(k:∀b u,s.heap.get? b=some u->h'.get? b=some u)(hp:s.heap.objs.size<=a)(new:gN X.prog X.w (upd H a o) h' a o): Inv X pz σ (upd H a o) { s with heap:=h',toks:=t' }:=I.un (Un.laid k hp<|I.bL.fresh hp)<|I.bL.laid k hp new
theorem Inv.write {x e:Addr}{o:HO}(I:Inv X pz σ H s)(mu:Cc<|H x)(he:e=x\/H e=some (.own x))(k:∀b u,b≠e->s.heap.get? b=some u->h'.get? b=some u)(heo:∃u,h'.get? e=some u)(new:gN X.prog X.w (upd H x o) h' x o):Inv X pz σ (upd H x o) { s with heap:=h',toks:=t' }:=I.un (Un.write mu he k heo)<|I.bL.write mu he k heo new
theorem Inv.weak {am:List<|Option V}(I:Inv X pz σ H s)(hl:am.length=σ.length)(w:∀(i:Nat) v,am[i]? = some (some v)->σ[i]? = some (some v)):Inv X pz am H s :=⟨I.ok,I.os,I.bare,I.base,let⟨m,hn,hl'⟩:=I.loc;⟨m,hn,λi x v e1 e2 e3=>hl' i x v e1 (w i v e2) e3⟩,I.cell,I.free,I.jH,I.pin,I.bL,hl.trans I.len⟩
theorem Inv.O5 {pz':List<|Addr×Obj}(I:Inv X pz σ H s)(h:∀p∈pz',s.heap.get? p.1=some p.2/\H p.1=none/\p.1≠X.env.locals/\p.1∉X.fs/\∀v,p.2.data≠.cell v):Inv X pz' σ H s :=⟨I.ok,I.os,I.bare,I.base,I.loc,I.cell,I.free,I.jH,λp hp=>(List.mem_append.mp hp).elim (λz=>I.pin p<|fb _ z)<|h p,I.bL,I.len⟩
theorem M8 {N:List Str}(hN:N.Nodup){j:Nat}{x:Str}(a:N[i]? = some x)(b:N[j]? = some x):i=j:=by obtain⟨h1,e1⟩:=List.getElem?_eq_some_iff.mp a;obtain⟨h2,e2⟩:=List.getElem?_eq_some_iff.mp b;exact(List.getElem_inj hN).mp<|e1.trans e2.symm
theorem HI {A:c5}{x:Str}{v:V}(I:Inv X pz σ H s)(hN:X.N.Nodup)(hi:X.N[i]? = some x)(hx:Loc X.env.scope x)(r:RelV v u)(h:∀s',Inv X pz (σ.set i<|some v) H s'->(∃a,mf a s.heap s'.heap/\(a=X.env.locals\/X.env.cells.lookup x=some a))->Q () s')(hf:X.fn x=true\/X.env.scope.names.lookup x=some .local:=by first|exact .inl rfl|exact .inr rfl|assumption):wpAny M A (Abh X.env x u) Q E s:=by
 obtain⟨m,hn,hl⟩:=id I.loc;have hcls:(X.env.scope.kind == .class||X.env.scope.kind == .module&&X.env.locals != X.env.globals)=false:=by rw[I.ok.kind];rfl
 have t3:i<σ.length:=by rw[I.len];exact(List.getElem?_eq_some_iff.mp hi).1
 have CA:=I.CA;have tracked:∀{a:Addr}{h':Heap},(∃o,s.heap.get? a=some o/\H a=none)->mf a s.heap h'->fH X.prog X.w H h':=λ{a h'} ha hs b ob e=>by
  obtain⟨_,_,hfree⟩:=ha;refine(I.bL b ob e).qQ (λc w' hc q=>(hs.2 c ?_).trans q) (λ_ q=>q) λ_ _ q=>q;rintro rfl;rcases hc with rfl|hc;·rw[hfree]at e;cases e
  ·rw[hfree]at hc;cases hc
 rcases hx with hk|hk
 ·refine wpAny_storeName_local hk hn (λh' hn' hs=>?_) hcls;obtain⟨oL,_,_,hoL,_⟩:=id hn;refine h _ ⟨I.ok,I.os,I.bare,⟨λb o e n hb hx=>?_,λb o e n hb hx=>?_,I.base.free,λb o e hx=>?_,I.base.jO,I.base.jG,I.base.kC⟩,⟨_,hn',λj y v' e1 e2 e3=>?_⟩,λy c e=>?_,I.free,I.jH,λp hp=>?_,tracked ⟨oL,hoL,I.free⟩ hs,by simpa using I.len⟩ ⟨_,hs,.inl rfl⟩;·exact(hs.2 b<|cj<|cw (bc e) I.ok.above).trans<|I.base.keep b o e n hb hx
  ·obtain⟨sl,e1⟩:=I.base.slot b o e n hb hx;exact⟨sl,(hs.2 b<|cj<|cw (bc e) I.ok.above).trans e1⟩
  ·obtain⟨o',e1⟩:=I.base.there b o e hx;exact⟨o',(hs.2 b<|cj<|cw (bc e) I.ok.above).trans e1⟩
  ·by_cases hj:j=i;·subst hj;rw[hi]at e1;cases e1;rw[gu t3]at e2;cases e2;exact⟨u,r,.inl ⟨hk,by simp⟩⟩
   ·rw[fv<|fq hj]at e2;obtain⟨u',r',q⟩:=hl j y v' e1 e2 e3;refine⟨u',r',?_⟩;rcases q with⟨k,e⟩|⟨k,c,e,z⟩;·refine .inl ⟨k,?_⟩;have:y≠x:=λe=>hj<|M8 hN e1<|e▸hi;simp [this,e]
    ·exact .inr ⟨k,c,e,z.sameBut hs<|CA y c e⟩
  ·obtain⟨w',z⟩:=I.cell y c e;exact⟨w',z.sameBut hs<|CA y c e⟩
  ·obtain⟨e,n,ne,nf,d⟩:=I.pin p hp;exact⟨(hs.2 p.1 ne).trans e,n,ne,nf,d⟩
 ·have hfn:X.fn x=true:=by
   rcases hf with z|z;·exact z
   ·rw[z]at hk;cases hk
  obtain⟨c,hc⟩:=I.ok.has x<|.inl hk;obtain⟨w',z⟩:=I.cell x c hc;refine wpAny_storeName_cell I.ok.kind hk hc z λh' hc' hs=>?_;obtain⟨oc,hoc,hocd⟩:=id z;refine h { s with heap:=h' } ⟨I.ok,I.os,I.bare,⟨λb o e n hb hx=>?_,λb o e n hb hx=>?_,I.base.free,λb o e hx=>?_,I.base.jO,I.base.jG,I.base.kC⟩,⟨m,hn.sameBut hs<|fq<|CA x c hc,λj y v' e1 e2 e3=>?_⟩,λy c' e=>?_,I.free,I.jH,λp hp=>?_,tracked ⟨oc,hoc,I.jH x c hc⟩ hs,by simpa using I.len⟩ ⟨c,hs,.inr hc⟩;·exact(hs.2 b<|cj<|cw (bc e)<|I.ok.cab x c hfn hc).trans<|I.base.keep b o e n hb hx
  ·obtain⟨sl,e1⟩:=I.base.slot b o e n hb hx;exact⟨sl,(hs.2 b<|cj<|cw (bc e)<|I.ok.cab x c hfn hc).trans e1⟩
  ·obtain⟨o',e1⟩:=I.base.there b o e hx;exact⟨o',(hs.2 b<|cj<|cw (bc e)<|I.ok.cab x c hfn hc).trans e1⟩
  ·by_cases hj:j=i;·subst hj;rw[hi]at e1;cases e1;rw[gu t3]at e2;cases e2;exact⟨u,r,.inr ⟨.inl hk,c,hc,hc'⟩⟩
   ·rw[fv<|fq hj]at e2;obtain⟨u',r',q⟩:=hl j y v' e1 e2 e3;refine⟨u',r',?_⟩;rcases q with q|⟨k,c',e,z'⟩;·exact .inl q
    ·refine .inr ⟨k,c',e,z'.sameBut hs ?_⟩;rintro rfl;exact hj<|M8 hN e1<|I.ok.inj _ _ _ e hc▸hi
  ·by_cases hcc:c'=c;·subst hcc;exact⟨_,hc'⟩
   ·obtain⟨w2,z2⟩:=I.cell y c' e;exact⟨w2,z2.sameBut hs hcc⟩
  ·obtain⟨e,n,ne,nf,d⟩:=I.pin p hp;refine⟨(hs.2 p.1 ?_).trans e,n,ne,nf,d⟩;intro q;rw[q,hoc]at e;have q':=dv e;exact d w'<|by rw[<-q'];exact hocd
theorem CJ {A:c5}{x:Str}{v:V}(I:Inv X pz σ H s)(hN:X.N.Nodup)(hi:X.N[i]? = some x)(hx:Loc X.env.scope x)(r:RelV v u)(h:∀s',Inv X pz (σ.set i<|some v) H s'->Q () s')(hf:X.fn x=true\/X.env.scope.names.lookup x=some .local:=by first|exact .inl rfl|exact .inr rfl|assumption):wpAny M A (Abh X.env x u) Q E s :=HI I hN hi hx r (λs' I' _=>h s' I') hf
theorem Inv.nS {s':aj}(I:Inv X pz σ H s)(ho:s'.os=s.os)(u:Un (gS X.stack) ch H H' s.heap s'.heap)(bL:fH X.prog X.w H' s'.heap)(hg:uz s'.gens)(hch:∀b∈ch,(b∈X.ex\/X.s₀.heap.objs.size<=b)/\b≠X.env.locals/\(∀x c,X.env.cells.lookup x=some c->c≠b)/\∀p∈X.pn++pz,p.1≠b):Inv X pz σ H' s':=by obtain⟨h',g',d',t',o'⟩:=s';have e:=ho;subst e;exact I.call u bL hg hch
end
abbrev XK:=Value->Option Addr->Hp->Prop
noncomputable abbrev St:=List<|Option V
abbrev VK:=V->Hp->Prop
abbrev TE:=St->Hp->VK->Prop
abbrev TT:=St->Hp->(Bool->Hp->Prop)->Prop
abbrev TA:=St->Hp->(List V->Hp->Prop)->Prop
structure Ends where
 nx:St->Hp->Prop
 rt:VK
 bk:St->Hp->Prop:=λ_ _=>False
 ct:St->Hp->Prop:=λ_ _=>False
abbrev TS:=Ends->St->Hp->Prop
inductive EP (X:Cx)(pz:List<|Addr×Obj)(σ:St)(Q:VK)(u:Value)(s':aj):Prop |mk (v:V)(H':Hp)(i:Inv X pz σ H' s')(r:RelV v u)(q:Q v H')
inductive TP (X:Cx)(pz:List<|Addr×Obj)(σ:St)(Q:Bool->Hp->Prop)(b:Bool)(s':aj):Prop |mk (H':Hp)(i:Inv X pz σ H' s')(q:Q b H')
inductive AP (X:Cx)(pz:List<|Addr×Obj)(σ:St)(Q:List V->Hp->Prop)(us:List Value)(s':aj):Prop |mk (vs:List V)(H':Hp)(i:Inv X pz σ H' s')(r:aS vs us)(q:Q vs H')
def SP (X:Cx)(pz:List<|Addr×Obj)(D:Ends)(f:Flow)(s':aj):Prop :=match f with|.next=>∃am H',Inv X pz am H' s'/\D.nx am H'|.brk=>∃am H',Inv X pz am H' s'/\D.bk am H'|.cont=>∃am H',Inv X pz am H' s'/\D.ct am H'|.ret u=>∃v am H',Inv X pz am H' s'/\RelV v u/\D.rt v H'
def PE (X:Cx)(e:cy)(t:TE):Prop :=∀(pz:List<|Addr×Obj)(s:aj)(σ:St)(H:Hp)(Q:VK),Inv X pz σ H s->t σ H Q->wpAny (model X.prog X.w) X.A (eval e X.env) (EP X pz σ Q) X.xe s
def PT (X:Cx)(e:cy)(t:TT):Prop :=∀(pz:List<|Addr×Obj)(s:aj)(σ:St)(H:Hp)(Q:Bool->Hp->Prop),Inv X pz σ H s->t σ H Q->wpAny (model X.prog X.w) X.A (Zq e X.env<|eval e X.env) (TP X pz σ Q) X.xe s
def PW (X:Cx)(e:cy)(t:TT):Prop :=∀(whole:Sem Value)(pz:List<|Addr×Obj)(s:aj)(σ:St)(H:Hp)(Q:Bool->Hp->Prop),Inv X pz σ H s->t σ H Q->wpAny (model X.prog X.w) X.A (Zq e X.env whole) (TP X pz σ Q) X.xe s
theorem PW.pt {X:Cx}{e:cy}{t:TT}(h:PW X e t):PT X e t:=h _
def PA (X:Cx)(es:List cy)(t:TA):Prop :=∀(pos:Pos)(pz:List<|Addr×Obj)(s:aj)(σ:St)(H:Hp)(Q:List V->Hp->Prop),Inv X pz σ H s->t σ H Q->wpAny (model X.prog X.w) X.A (AaM<|jr pos<|cb es X.env) (AP X pz σ Q) X.xe s
def PS (X:Cx)(st:Stmt)(t:TS):Prop :=∀(pz:List<|Addr×Obj)(s:aj)(σ:St)(H:Hp)(D:Ends),Inv X pz σ H s->t D σ H->wpAny (model X.prog X.w) X.A (exec st X.env) (SP X pz D) X.xe s
def iY (X:Cx)(st:List Stmt)(t:TS):Prop :=∀(pz:List<|Addr×Obj)(s:aj)(σ:St)(H:Hp)(D:Ends),Inv X pz σ H s->t D σ H->wpAny (model X.prog X.w) X.A (execs st X.env) (SP X pz D) X.xe s
theorem bA {α:Type}{t:Sem α}{Q Q':α->aj->Prop}{A:c5}{s:aj}(h:wpAny M A t Q E s)(hQ:∀a s,Q a s->Q' a s):wpAny M A t Q' E s:=gh h hQ λ_ _ x=>x
end L2
namespace L2
open PySem PySem.Spec PyProof.Rows
variable {pz:List<|Addr×Obj}{σ:St}{H:Hp}{Q E:Value->aj->Prop}{pos:Pos}{u:Value}{t:TE}
section
variable {X:Cx}
theorem bin {a b:cy}{ta tb:TE}(ha:PE X a ta)(hb:PE X b tb){s:aj}{R:V->V->Hp->Prop}(I:Inv X pz σ H s)(h:ta σ H λx H1=>tb σ H1 λy H2=>R x y H2){α:Type}{Q:α->aj->Prop}{f:Value->Value->Sem α}(hf:∀v u s2 x y H2,Inv X pz σ H2 s2->RelV x v->RelV y u->R x y H2->wpAny (model X.prog X.w) X.A (f v u) Q X.xe s2):wpAny (model X.prog X.w) X.A (eval a X.env) (λv bn=>wpAny (model X.prog X.w) X.A (eval b X.env) (λu ca=>wpAny (model X.prog X.w) X.A (f v u) Q X.xe ca) X.xe bn) X.xe s:=by refine bA (ha pz s σ H _ I h) λv s1 ⟨x,H1,I1,r1,q1⟩=>?_;refine bA (hb pz s1 σ H1 _ I1 q1) λu s2 ⟨y,H2,I2,r2,q2⟩=>?_;exact hf v u s2 x y H2 I2 r1 r2 q2
noncomputable def RT (i:Nat):TE:=λσ H Q=>∃v,σ[i]? = some (some v)/\Q v H
noncomputable def tC (v:V):TE:=λ_ H Q=>Q v H
theorem Ol {i:Nat}{x:Str}(hN:X.N[i]? = some x)(hv:Bs X.env.scope x)(hd:(x==("__debug__" : Str))=false:=by cbv)(hcd:(x==("__classdict__" : Str))=false:=by cbv):PE X (.Name x pos)<|RT i:=by
 intro pz s σ H Q I h;obtain⟨v,e,h⟩:=h;obtain⟨m,hn,hl⟩:=I.loc;obtain⟨u,r,l⟩:=hl i x v hN e hv;have fin:EP X pz σ Q u s:=⟨v,H,I,r,h⟩;rcases l with⟨hk,hm⟩|⟨hk,c,hc,hcell⟩;·exact AaQ (wpAny_loadName_local I.ok.kind hk hn hm fin) hd
 ·rcases hk with hk|hk;·exact AaQ (wpAny_loadName_cell I.ok.kind hk hc hcell fin) hd
  ·exact AaQ (wpAny_loadName_free I.ok.kind hk hc hcell fin hcd) hd
theorem Lw {i j pos}:PE X (.Constant (.int i) j pos)<|tC<|.int i:=λ_ _ _ H _ I h=>wpAny_Constant_int ⟨.int i,H,I.tok _,⟨_,rfl⟩,h⟩
theorem Uc {b j pos}:PE X (.Constant (.bool b) j pos)<|tC<|.bl b:=λ_ _ _ H _ I h=>Constant_bool ⟨.bl b,H,I,rfl,h⟩
theorem WU {j pos}:PE X (.Constant .none j pos)<|tC .non:=λ_ _ _ H _ I h=>Constant_none ⟨.non,H,I,rfl,h⟩
theorem WO {x j pos}:PE X (.Constant (.str x) j pos)<|tC<|.str x:=λ_ _ _ H _ I h=>Calls.Constant_str ⟨.str x,H,I.tok _,⟨_,rfl⟩,h⟩
def Gl (X:Cx)(x:Str):Prop:=X.env.kindOf x=some .globalImplicit
theorem mV {s:aj}{x:Str}(I:Inv X pz σ H s)(hg:Gl X x)(hm:X.mg x=some u)(h:Q u s)(hd:(x==("__debug__" : Str))=false:=by cbv):wpAny (model X.prog X.w) X.A (eval (.Name x pos) X.env) Q E s :=ve I.ok.kind hg (Calls.loadGlobal_global (by rw[I.ok.glob];exact I.mod.glob.keeps I.bk) hm h) hd
theorem qF {s:aj}{x:Str}(I:Inv X pz σ H s)(hg:Gl X x)(hm:X.mg x=none)(hv:dm x=some u)(h:Q u s)(hn:x ≠"__name__":=by cbv)(hd:(x==("__debug__" : Str))=false:=by cbv):wpAny (model X.prog X.w) X.A (eval (.Name x pos) X.env) Q E s:=by obtain⟨mb,h1,h2⟩:=I.mod.blt;exact ve I.ok.kind hg (Calls.loadGlobal_builtin (by rw[I.ok.glob];exact I.mod.glob.keeps I.bk) hm (by rw[I.ok.blt];exact h1.keeps I.bk) ((h2 x hn).trans hv) h) hd
theorem FW {x:Str}{v:V}(hg:Gl X x)(hm:X.mg x=some u)(r:RelV v u)(hd:(x==("__debug__" : Str))=false:=by cbv):PE X (.Name x pos) (tC v) :=λ_ _ _ H _ I h=>mV I hg hm ⟨v,H,I,r,h⟩ hd
theorem QI {x:Str}{v:V}(hg:Gl X x)(hm:X.mg x=none)(hv:dm x=some u)(r:RelV v u)(hn:x ≠"__name__":=by cbv)(hd:(x==("__debug__" : Str))=false:=by cbv):PE X (.Name x pos) (tC v) :=λ_ _ _ H _ I h=>qF I hg hm hv ⟨v,H,I,r,h⟩ hn hd
variable {a b:cy}{ta tb:TE}
def PC (X:Cx)(op:CmpOp)(a b:cy)(t:TE):Prop :=∀(pz:List<|Addr×Obj)(s:aj)(σ:St)(H:Hp)(Q:VK),Inv X pz σ H s->t σ H Q ->wpAny (model X.prog X.w) X.A (eval a X.env) (λv bn=>wpAny (model X.prog X.w) X.A (eval b X.env) (λu ca=>wpAny (model X.prog X.w) X.A (u6 op v u) (EP X pz σ Q) X.xe ca) X.xe bn) X.xe s
theorem ZC (b:cy){op:CmpOp}(h:op≠.In)(h2:op≠.NotIn):pq op b=false:=by
 have e1:(op==CmpOp.In)=false:=by simp_all
 have e2:(op==CmpOp.NotIn)=false:=by simp_all
 cases b<;>simp [pq,e1,e2]
theorem RelV.Y0 {x:V}{v:Value}(r:RelV x v):(v==g6)=decide (x=.non):=by cases x with|non=>cases r;rfl|bl _=>cases r;rfl|int _=>obtain⟨t,rfl⟩:=r;rfl|str _=>obtain⟨t,rfl⟩:=r;rfl|byt _=>obtain⟨t,rfl⟩:=r;rfl|flt _=>obtain⟨t,rfl⟩:=r;rfl|ref _=>cases r;rfl|ty _=>cases r;rfl
noncomputable def tB (t:TE):TT:=λσ H Q=>t σ H λx H1=>∃c,x=.bl c/\Q c H1
theorem Ye {op:CmpOp}(h:PC X op a b t)(h1:pq op b=false:=by first|exact ZC _ (by decide)<|by decide|rfl):PT X (.Compare a [op] [b] pos)<|tB t:=by intro pz s σ H Q I hw;refine yz (bA (h pz s σ H _ I hw) λv s1 h1=>bA h1 λu s2 h2=>bA h2 λc s3 ⟨x,H1,I1,r1,q1⟩=>?_) h1;obtain⟨d,rfl,q⟩:=q1;cases r1;exact jc ⟨H1,I1,q⟩
theorem NZ {e:cy}(h:PE X e t)(he:∀whole,Zq e X.env whole=(do let v <-whole;og e.pos;jm [v]<|Abp v):=by intro _;rfl):PT X e<|tB t:=by intro pz s σ H Q I hw;refine isTrue_plain (bA (h pz s σ H _ I hw) λv s1 ⟨x,H1,I1,r1,q1⟩=>?_)<|he _;obtain⟨d,rfl,q⟩:=q1;cases r1;exact jc ⟨H1,I1,q⟩
variable {tA tB':TT}{rest:List cy}
noncomputable def Xg (t u:TT):TT:=λσ H Q=>t σ H λc H1=>if c=true then u σ H1 Q else Q false H1
noncomputable def Ui (t u:TT):TT:=λσ H Q=>t σ H λc H1=>if c=true then Q true H1 else u σ H1 Q
noncomputable def Jl (t:TT):TT:=λσ H Q=>t σ H λc H1=>Q (!c) H1
theorem Hg (ha:PT X a tA):PW X (.BoolOp .And [a] pos) tA:=by intro wh pz s σ H Q I h;refine isTrue_and<|bA (ha pz s σ H Q I h) λc s1 e=>?_;cases c with|true=>exact isTrue_and_nil e|false=>exact e
theorem T9 (ha:PT X a tA):PW X (.BoolOp .Or [a] pos) tA:=by intro wh pz s σ H Q I h;refine isTrue_or<|bA (ha pz s σ H Q I h) λc s1 e=>?_;cases c with|false=>exact isTrue_or_nil e|true=>exact e
theorem Mx (ha:PT X a tA)(hb:PW X (.BoolOp .And (b::rest) pos) tB'):PW X (.BoolOp .And (a::b::rest) pos)<|Xg tA tB':=by intro wh pz s σ H Q I h;refine isTrue_and<|bA (ha pz s σ H _ I h) λc s1 ⟨H1,I1,q1⟩=>?_;cases c with|true=>exact hb wh pz s1 σ H1 Q I1 q1|false=>exact⟨H1,I1,q1⟩
theorem RN (ha:PT X a tA)(hb:PW X (.BoolOp .Or (b::rest) pos) tB'):PW X (.BoolOp .Or (a::b::rest) pos)<|Ui tA tB':=by intro wh pz s σ H Q I h;refine isTrue_or<|bA (ha pz s σ H _ I h) λc s1 ⟨H1,I1,q1⟩=>?_;cases c with|true=>exact⟨H1,I1,q1⟩|false=>exact hb wh pz s1 σ H1 Q I1 q1
theorem L9 (ha:PT X a tA):PT X (.UnaryOp .Not a pos)<|Jl tA:=by intro pz s σ H Q I h;exact isTrue_not<|bA (ha pz s σ H _ I h) λc s1 ⟨H1,I1,q⟩=>⟨H1,I1,q⟩
theorem Ia {op}(h:PE X a t):PE X (.BoolOp op [a] pos) t:=λpz s σ H Q I hw=>BoolOp_one<|h pz s σ H Q I hw
end
end L2
namespace L2
open PySem PySem.Spec PyProof.Rows
def eU (K:ae)(H:Hp)(a:Addr)(xs:List V):Prop :=Rd H a (.lst xs) \/∃(o:Obj)(aD:Array Value)(n:Nat),K.lookup a=some o/\o.cls=.type "list" /\ o.dict=none/\o.data=.seq aD n/\aD.size<=sizeLine/\aS xs aD.toList
def fT (K:ae)(H:Hp)(a:Addr)(xs:List V):Prop :=Rd H a (.tup xs) \/∃(o:Obj)(aD:Array Value)(n:Nat),K.lookup a=some o/\o.cls=.type "tuple" /\ o.dict=none/\o.data=.seq aD n/\aD.size<=sizeLine/\aS xs aD.toList
noncomputable def Xa:Value->Option V|.none=>some .non|.bool b=>some<|.bl b|.int i _=>some<|.int i|.str x _=>some<|.str x|.bytes b _=>some<|.byt b|.float b _=>some<|.flt b|.ref a=>some<|.ref a|.type n=>some<|.ty n|_=>none
variable {u:Value}
theorem RelV.abs {x:V}(r:RelV x u):Xa u=some x:=by cases x with|non=>cases r;rfl|bl _=>cases r;rfl|int _=>obtain⟨t,rfl⟩:=r;rfl|str _=>obtain⟨t,rfl⟩:=r;rfl|byt _=>obtain⟨t,rfl⟩:=r;rfl|flt _=>obtain⟨t,rfl⟩:=r;rfl|ref _=>cases r;rfl|ty _=>cases r;rfl
theorem RelV.inj {x y:V}(r:RelV x u)(q:RelV y u):x=y:=dv<|r.abs.symm.trans q.abs
theorem aS.inj:∀{xs ys:List V}{us:List Value},aS xs us->aS ys us->xs=ys|_,_,_,.nil,.nil=>rfl|_,_,_,.cons r t,.cons r' t'=>by rw[r.inj r',aS.inj t t']
variable {X:Cx}{pz:List<|Addr×Obj}{σ:St}{H:Hp}
section
variable {s:aj}{a:Addr}{xs ys:List V}
theorem eU.of {K:ae}(h:H a=some (.lst xs)):eU K H a xs:=.inl<|.inl h
theorem fT.of {K:ae}(h:H a=some (.tup xs)):fT K H a xs:=.inl<|.inl h
theorem Inv.list (I:Inv X pz σ H s)(h:eU X.K H a xs):∃aD:List Value,aS xs aD/\PlainL s.heap a aD.toArray/\xs.length<=sizeLine:=by
 rcases h with h|⟨o,aD,n,hk,hc,hd,hs,hz,r⟩;·obtain⟨z,aD,n,r,e⟩:=h.ok I.bL;exact⟨aD,r,⟨_,n,e,rfl,rfl,rfl⟩,z⟩
 ·refine⟨_,r,⟨o,n,I.gR a o hk,hc,hd,by simp_all⟩,?_⟩;have e:=r.length;simp![qs]at e;lia
theorem Inv.tuple (I:Inv X pz σ H s)(h:fT X.K H a xs):∃aD:List Value,aS xs aD/\IsTup s.heap a aD.toArray/\xs.length<=sizeLine:=by
 rcases h with h|⟨o,aD,n,hk,hc,_,hs,hz,r⟩;·obtain⟨z,aD,r,p⟩:=h.ok I.bL;exact⟨aD,r,p.tup,z⟩
 ·refine⟨_,r,⟨o,I.gR a o hk,hc,n,by simp_all⟩,?_⟩;have e:=r.length;simp![qs]at e;lia
theorem Inv.wK (I:Inv X pz σ H s)(h:eU X.K H a xs)(h':eU X.K H a ys):xs=ys:=by
 obtain⟨aD,r,⟨o,n,e,_,_,d⟩,_⟩:=I.list h;obtain⟨uH,r',⟨o',n',e',_,_,d'⟩,_⟩:=I.list h';rw[e]at e';cases e';rw[d]at d';injection d' with d1 _;have:=by simpa using congrArg Zz d1
 subst this;exact r.inj r'
theorem Inv.tK (I:Inv X pz σ H s)(h:fT X.K H a xs)(h':fT X.K H a ys):xs=ys:=by
 obtain⟨aD,r,⟨o,e,_,n,d⟩,_⟩:=I.tuple h;obtain⟨uH,r',⟨o',e',_,n',d'⟩,_⟩:=I.tuple h';rw[e]at e';cases e';rw[d]at d';injection d' with d1 _;have:=by simpa using congrArg Zz d1
 subst this;exact r.inj r'
end
noncomputable abbrev Cx.gM (X:Cx)(E:Value->aj->Prop):Cx:={ X with xe:=E }
noncomputable abbrev Cx.oK (X:Cx):Cx:=X.gM λ_ _=>False
theorem Cx.Ok.gM (ok:X.Ok)(E:Value->aj->Prop):(X.gM E).Ok :=⟨ok.mod,ok.kind,ok.glob,ok.blt,ok.above,ok.inj,ok.has,ok.cab,ok.hd,ok.frames,ok.stk,ok.exf,ok.bs,ok.bsz,ok.noex,ok.exfs,ok.lA,ok.frf⟩
variable {E:Value->aj->Prop}
theorem Cx.Ok.pX (ok:(X.gM E).Ok):X.Ok :=⟨ok.mod,ok.kind,ok.glob,ok.blt,ok.above,ok.inj,ok.has,ok.cab,ok.hd,ok.frames,ok.stk,ok.exf,ok.bs,ok.bsz,ok.noex,ok.exfs,ok.lA,ok.frf⟩
section
variable {s:aj}
theorem Inv.gM (I:Inv X pz σ H s)(E:Value->aj->Prop):Inv (X.gM E) pz σ H s:=⟨I.ok.gM E,I.os,I.bare,I.base,I.loc,I.cell,I.free,I.jH,I.pin,I.bL,I.len⟩
theorem Inv.pX (I:Inv (X.gM E) pz σ H s):Inv X pz σ H s:=⟨I.ok.pX,I.os,I.bare,I.base,I.loc,I.cell,I.free,I.jH,I.pin,I.bL,I.len⟩
theorem SP.pX {D:Ends}{f:Flow}{s':aj}(h:SP (X.gM E) pz D f s'):SP X pz D f s':=by cases f with|next=>obtain⟨am,H',I,q⟩:=h;exact⟨am,H',I.pX,q⟩|brk=>obtain⟨am,H',I,q⟩:=h;exact⟨am,H',I.pX,q⟩|cont=>obtain⟨am,H',I,q⟩:=h;exact⟨am,H',I.pX,q⟩|ret u=>obtain⟨v,am,H',I,r,q⟩:=h;exact⟨v,am,H',I.pX,r,q⟩
theorem iY.oK {st:List Stmt}{t:TS}(h:iY X.oK st t):iY X st t:=λpz s σ H D I hw =>gh (h pz s σ H D (I.gM _) hw) (λ_ _ q=>q.pX) λ_ _ z=>gj z
end
variable {e:cy}{pos:Pos}
section
variable {st:Stmt}{rest:List Stmt}{t u:TS}{te:TE}
noncomputable def Rx:TS:=λD σ H=>D.nx σ H
noncomputable def Xe (t u:TS):TS:=λD σ H=>t { D with nx:=u D } σ H
theorem FG:iY X [] Rx:=λ_ _ σ H _ I h=>kg ⟨σ,H,I,h⟩
theorem CH (h1:PS X st t)(h2:iY X rest u):iY X (st::rest)<|Xe t u:=by intro pz s σ H D I h;refine ua<|bA (h1 pz s σ H _ I h) λf s1 q=>?_;cases f with|next =>obtain⟨am,H',I',q⟩:=q;exact h2 pz s1 am H' D I' q|ret v=>exact q|brk=>exact q|cont=>exact q
theorem vF (h1:PS X st t):iY X [st] t:=by intro pz s σ H D I h;refine ua<|bA (h1 pz s σ H D I h) λf s1 q=>?_;cases f with|next=>exact kg q|ret v=>exact q|brk=>exact q|cont=>exact q
theorem Inv.quiet {s:aj}(I:Inv X pz σ H s):interactive X.env=false:=by simp [interactive,I.ok.kind]
noncomputable def Sd (te:TE):TS:=λD σ H=>te σ H λ_ H1=>D.nx σ H1
theorem Cm (he:PE X e te)(hs:nq e none pos.line X.env=pure false:=by rfl):PS X (.Expr e pos)<|Sd te:=by intro pz s σ H D I h;exact wpAny_Expr_any (bA (he pz s σ H _ I h) λv s1 ⟨x,H1,I1,r1,q1⟩=>⟨σ,H1,I1,q1⟩) I.quiet hs
noncomputable def Vt (te:TE):TS:=λD σ H=>te σ H D.rt
theorem LS (he:PE X e te):PS X (.Return (some e) pos)<|Vt te:=by intro pz s σ H D I h;exact wpAny_Return_some<|bA (he pz s σ H _ I h) λv s1 ⟨x,H1,I1,r1,q1⟩=>⟨x,σ,H1,I1,r1,q1⟩
noncomputable def Mn (c:TT)(t u:TS):TS:=λD σ H=>c σ H λb H1=>if b=true then t D σ H1 else u D σ H1
theorem QU {c:cy}{a b:List Stmt}{tc:TT}(hc:PT X c tc)(ha:iY X a t)(hb:iY X b u):PS X (.If c a b pos)<|Mn tc t u:=by intro pz s σ H D I h;refine wpAny_If<|bA (hc pz s σ H _ I h) λd s1 ⟨H1,I1,q1⟩=>?_;cases d with|true=>exact ha pz s1 σ H1 D I1 q1|false=>exact hb pz s1 σ H1 D I1 q1
noncomputable def Lc:TS:=λ_ _ _=>False
theorem NB:PS X st Lc:=λ_ _ _ _ _ _ h=>h.elim
end
abbrev TG:=V->St->Hp->(St->Hp->Prop)->Prop
abbrev HM:=List V->St->Hp->(St->Hp->Prop)->Prop
def PG (X:Cx)(target:cy)(t:TG):Prop :=∀(pz:List<|Addr×Obj)(s:aj)(σ:St)(H:Hp)(v:V)(u:Value)(Q:St->Hp->Prop),Inv X pz σ H s->RelV v u->t v σ H Q ->wpAny (model X.prog X.w) X.A (qt target X.env u) (λ_ s'=>∃am H',Inv X pz am H' s'/\Q am H') X.xe s
def DJ (X:Cx)(ts:List cy)(t:HM):Prop :=∀(pz:List<|Addr×Obj)(s:aj)(σ:St)(H:Hp)(vs:List V)(us:List Value)(Q:St->Hp->Prop),Inv X pz σ H s->aS vs us->t vs σ H Q ->wpAny (model X.prog X.w) X.A (assignInOrder ((fy ts X.env).map (·.2)) us) (λ_ s'=>∃am H',Inv X pz am H' s'/\Q am H') X.xe s
abbrev YA:=V->V->V->Hp->(Hp->Prop)->Prop
def Lq (X:Cx)(t:YA):Prop :=∀(pz:List<|Addr×Obj)(s:aj)(σ:St)(H:Hp)(o i v:V)(ov iv u:Value)(Q:Hp->Prop),Inv X pz σ H s->RelV o ov->RelV i iv->RelV v u->t o i v H Q ->wpAny (model X.prog X.w) X.A (Abr ov iv u) (λ_ s'=>∃H',Inv X pz σ H' s'/\Q H') X.xe s
variable {es:List cy}{tg:cy}
section
noncomputable def DL (i:Nat):TG:=λv σ H Q=>Q (σ.set i<|some v) H
theorem uO {i:Nat}{x:Str}(hN:X.N.Nodup)(hi:X.N[i]? = some x)(hx:Loc X.env.scope x)(hf:X.fn x=true\/X.env.scope.names.lookup x=some .local:=by first|exact .inl rfl|exact .inr rfl|assumption):PG X (.Name x pos)<|DL i:=by intro pz s σ H v u Q I r h;exact Aaa<|CJ I hN hi hx r (λs' I'=>⟨_,H,I',h⟩) hf
noncomputable def Wy:HM:=λvs σ H Q=>vs=[]/\Q σ H
noncomputable def Rr (t:TG)(u:HM):HM:=λvs σ H Q=>∃v r,vs=v::r/\t v σ H λam H'=>u r am H' Q
theorem Gi:DJ X [] Wy:=by intro pz s σ H vs us Q I r h;obtain⟨e,h⟩:=h;exact assignInOrder_nil ⟨σ,H,I,h⟩
theorem YO {t:TG}{u:HM}(h1:PG X e t)(h2:DJ X es u)(hs:(fy (e::es) X.env).map (·.2)=qt e X.env::(fy es X.env).map (·.2):=by rfl):DJ X (e::es)<|Rr t u:=by intro pz s σ H vs us Q I r h;obtain⟨v,vr,e1,h⟩:=h;subst e1;cases r with|cons r rr =>rw[hs];refine assignInOrder_cons<|bA (h1 pz s σ H _ _ _ I r h) λ_ s1 ⟨f8,H1,I1,q1⟩=>?_;exact h2 pz s1 f8 H1 _ _ Q I1 rr q1
noncomputable def Kw (K:ae)(n:Nat)(t:HM):TG:=λv σ H Q=>∃a xs,v=.ref a/\fT K H a xs/\xs.length=n/\t xs σ H Q
theorem VS {k:Nat}{t:HM}{n:Nat}(hc:X.calm=true)(h:DJ X es t)(hn:(fy es X.env).length=n:=by rfl)(cM:(fy es X.env).findIdx? (·.1)=none:=by rfl):PG X (.Tuple es k pos)<|Kw X.K n t:=by intro pz s σ H v u Q I r hw;obtain⟨a,xs,e1,hq,hl,hw⟩:=hw;subst e1;cases r;obtain⟨aD,rv,ht,hz⟩:=I.tuple hq;refine assign_Tuple_tuple (I.ok.hd hc) ht (by simp [hn,<-hl,rv.length]) cM λh' hx=>?_;have I1:=I.kept (t':=s.toks) λb o e=>hx b o (cj<|bc e) e;exact h pz _ σ H xs _ Q I1 (by simp_all) hw
noncomputable def Wm (to ti:TE)(t:YA):TG:=λv σ H Q=>to σ H λo H1=>ti σ H1 λi H2=>t o i v H2 λH3=>Q σ H3
theorem Mz {o i:cy}{to ti:TE}{t:YA}(ho:PE X o to)(hi:PE X i ti)(hs:Lq X t)(ha:∀v,qt (.Subscript o i pos) X.env v=(do
  let ov <-jm [v] (eval o X.env)let iv <-jm [v,ov] (eval i X.env)og pos
  jm [v,ov,iv] (Abr ov iv v)release [v,ov,iv] []):=by intro _;rfl):PG X (.Subscript o i pos)<|Wm to ti t:=by intro pz s σ H v u Q I r h;refine ai<|kr<|bA (ho pz s σ H _ I h) λov s1 ⟨x,H1,I1,r1,q1⟩=>?_;refine ai<|kr<|bA (hi pz s1 σ H1 _ I1 q1) λiv s2 ⟨y,H2,I2,r2,q2⟩=>?_;refine ai<|Zk<|ai<|kr<|bA (hs pz s2 σ H2 x y v ov iv u _ I2 r1 r2 r q2) λ_ s3 ⟨H3,I3,q3⟩=>?_;exact wpAny_release ⟨σ,H3,I3,q3⟩
noncomputable def Xd (te:TE)(g:TG):TS:=λD σ H=>te σ H λx H1=>g x σ H1 D.nx
theorem Oe {te:TE}{g:TG}(he:PE X e te)(hg:PG X tg g)(hs:ud [tg] e pos.line X.env=pure false:=by rfl)(hw:ue [tg] e X.env=pure none:=by rfl)(h1:(fy [tg] X.env).map (·.2)=[qt tg X.env]:=by rfl):PS X (.Assign [tg] e pos)<|Xd te g:=by intro pz s σ H D I h;refine wpAny_Assign_stores (bA (he pz s σ H _ I h) λv s1 ⟨x,H1,I1,r1,q1⟩=>?_) hs hw;rw[h1];exact bA (hg pz s1 σ H1 x v _ I1 r1 q1) λ_ s2 q=>q
end
section
noncomputable def Kg (c:TT)(tb:TS):TS:=λD σ H=>∃W:Nat->St->Hp->Prop,(∃m,W m σ H)/\∀m σ H,W m σ H -> c σ H λb H1=>if b=true then ∃N:St->Hp->Prop,(∀am H',N am H'->∃m',m'<m/\W m' am H')/\tb { D with nx:=N,ct:=N,bk:=D.nx } σ H1 else D.nx σ H1
theorem XZ {c:cy}{body:List Stmt}{tc:TT}{tb:TS}(hp:u7 (model X.prog X.w) X.A X.env X.xe)(hc:PT X c tc)(hb:iY X body tb):PS X (.While c body [] pos)<|Kg tc tb:=by intro pz s σ H D I h;obtain⟨W,⟨m0,w0⟩,turn⟩:=h;refine wpAny_While<|codeAny_whileLoop (λn s'=>∃am H',Inv X pz am H' s'/\W n am H') ?_ m0 ⟨σ,H,I,w0⟩;rintro n s1 ⟨f8,H1,I1,w1⟩;refine l8 hp<|bA (hc pz s1 f8 H1 _ I1<|turn n f8 H1 w1) λb s2 ⟨H2,I2,q2⟩=>?_;cases b with
 |true =>obtain⟨N,hN,q2⟩:=q2;refine l8 hp<|bA (hb pz s2 f8 H2 _ I2 q2) λf s3 q3=>?_;cases f with|next =>obtain⟨cr,H3,I3,n3⟩:=q3;obtain⟨m',hm,w3⟩:=hN cr H3 n3;exact⟨m',hm,cr,H3,I3,w3⟩|cont =>obtain⟨cr,H3,I3,n3⟩:=q3;obtain⟨m',hm,w3⟩:=hN cr H3 n3;exact⟨m',hm,cr,H3,I3,w3⟩|brk=>exact q3|ret v=>exact q3
 |false =>exact kg ⟨f8,H2,I2,q2⟩
end
structure It where
 go:Nat->Hp->Prop
 yld:Nat->Hp->V->Hp->Prop
 stop:Nat->Hp->Prop
def nR (X:Cx)(pz:List<|Addr×Obj)(H:Hp)(b:Addr):Prop :=H b=none/\b≠X.env.locals/\b∉X.fs/\(b∈X.ex\/X.s₀.heap.objs.size<=b)/\(∀x c,X.env.cells.lookup x=some c->c≠b)/\∀p∈X.pn++pz,p.1≠b
theorem Inv.RV {H':Hp}{s:aj}{b:Addr}(I:Inv X pz σ H s)(hb:s.heap.objs.size<=b)(hn:H' b=none):nR X pz H' b:=by
 refine⟨hn,xq<|cw I.lt hb,I.Lj hb,.inr<|az I.sz hb,λx c e z=>?_,λp hp z=>?_⟩;·obtain⟨v,q⟩:=I.cell x c e;exact absurd (cw q.lt<|by simp_all)<|mr _
 ·exact absurd (cw (bc (I.pin p hp).1)<|by simp_all)<|mr _
structure Turn (P:bp)(w:dh)(K:ae)(tg:cy)(J:It)(fp:List Addr)(it:Addr)(tn:Nat->Heap->Prop):Prop where
 mem:it∈fp
 obj:∀i h,tn i h->∀b∈fp,∃o,h.get? b=some o/\∀v,o.data≠.cell v
 keep:∀i h h',tn i h->(∀b∈fp,∀o,h.get? b=some o->h'.get? b=some o)->tn i h'
 item:∀(X:Cx),X.prog=P->X.w=w->X.K=K->X.calm=true->∀(i:Nat)(pz:List<|Addr×Obj)(s:aj)(σ:St)(H:Hp)(E:Value->aj->Prop),Inv X pz σ H s->(∀b∈fp,nR X pz H b)->tn i s.heap->J.go i H ->wpAny (model P w) X.A (zl<|.ref it) (λr s1=>∃u,r=some u /\ wpAny (model P w) X.A (yo tg (.ref it) u) (λ_ s2=>∃x H',Inv X pz σ H' s2/\RelV x u/\J.yld i H x H'/\tn (i+1) s2.heap/\∀b∈fp,H' b=none) E s1) E s
 done:∀(X:Cx),X.prog=P->X.w=w->X.K=K->X.calm=true->∀(i:Nat)(pz:List<|Addr×Obj)(s:aj)(σ:St)(H:Hp)(E:Value->aj->Prop),Inv X pz σ H s->(∀b∈fp,nR X pz H b)->tn i s.heap->J.stop i H ->wpAny (model P w) X.A (zl<|.ref it) (λr s1=>r=none/\Inv X pz σ H s1) E s
 self:∀(A:c5)(i:Nat)(s:aj)(Q:Value->aj->Prop)(E:Value->aj->Prop),tn i s.heap->Q (.ref it) s->wpAny (model P w) A (zm<|.ref it) Q E s
abbrev TI:=St->Hp->(It->Hp->Prop)->Prop
def Al (X:Cx)(pz:List<|Addr×Obj)(σ:St)(tg:cy)(R:It->Hp->Prop)(itv:Value)(s2:aj):Prop :=∃(it:Addr)(fp:List Addr)(tn:Nat->Heap->Prop)(J:It)(H':Hp),itv=.ref it/\Inv X pz σ H' s2/\Turn X.prog X.w X.K tg J fp it tn/\tn 0 s2.heap/\(∀b∈fp,nR X pz H' b)/\R J H'
def PI (X:Cx)(tg iter:cy)(wi:TI):Prop :=∀(pz:List<|Addr×Obj)(s:aj)(σ:St)(H:Hp)(R:It->Hp->Prop),Inv X pz σ H s->wi σ H R ->wpAny (model X.prog X.w) X.A (eval iter X.env) (λv s1=>wpAny (model X.prog X.w) X.A (zm v) (Al X pz σ tg R) X.xe s1) X.xe s
theorem KD {M:Model}{A:c5}{s:aj}{it:Addr}{o:Obj}{n:String}{vs:Array Value}{Q:Unit->aj->Prop}(ho:s.heap.get? it=some o)(hc:o.cls=.type n)(hd:o.data=.fields vs)(hn:["enumerate","zip","dict_itemiterator","dict_reverseitemiterator","odict_iterator","itertools.zip_longest","itertools.pairwise"].contains n=false)(hQ:Q () s):wpAny M A (yo tg (.ref it) u) Q E s:=by cases tg<;>first|exact a9 hQ|(cases u<;>first|exact a9 hQ| (refine ai<|wpAny_load ho ?_;rw[hc,hd];show wpAny M A (if(["enumerate","zip","dict_itemiterator","dict_reverseitemiterator","odict_iterator","itertools.zip_longest","itertools.pairwise"].contains n&&vs[0]? == some _)=true then _ else _) Q E s;rw[if_neg<|by intro h;rw[hn]at h;cases h];exact a9 hQ))
noncomputable def Ag (K:ae)(a:Addr):It :=⟨λi H=>∃xs x,eU K H a xs/\xs[i]? = some x,λi H x H'=>H'=H/\∀xs,eU K H a xs->xs[i]? = some x,λi H=>∃xs,eU K H a xs/\xs.length<=i⟩
noncomputable def Me (K:ae)(a:Addr):It :=⟨λi H=>∃xs x,fT K H a xs/\xs[i]? = some x,λi H x H'=>H'=H/\∀xs,fT K H a xs->xs[i]? = some x,λi H=>∃xs,fT K H a xs/\xs.length<=i⟩
noncomputable def Ak (lo:Int)(n:Nat):It:=⟨λi _=>i<n,λi H x H'=>H'=H/\x=.int (lo+i),λi _=>n<=i⟩
variable {P:bp}
theorem W0 {w:dh}{K:ae}(a it:Addr):Turn P w K tg (Ag K a) [it] it λi h=>h.IsListIter it a i where
 mem:=by simp
 obj:=λi h st b hb=>by
  have e:=by simpa using hb
  subst e;obtain⟨o,e,c,d⟩:=st;exact⟨o,e,λv z=>by rw[d]at z;cases z⟩
 keep:=λi h h' st k=>st.at λo e=>k it (by simp) o e;item:=by intro X hP hw hK hc i pz s σ H E I hf st hg;subst hP hw hK;obtain⟨xs,x,hq,hx⟩:=hg;obtain⟨aD,rv,p,hz⟩:=I.list hq;obtain⟨u,hu,ru⟩:=rv.get hx;obtain⟨f0,f1,f2,f3,f4,f5⟩:=hf it (by simp);refine wpAny_pyNext_list_item st p.isList (x:=u) (by simpa using hu) λh' aA sb=>?_;have I1:=I.turned (t':=s.toks) (λb o hb e=>(sb.2 b hb).trans e) f0 f1 f3 f4 f5;obtain⟨o,e,c,d⟩:=id aA;exact⟨u,rfl,KD (s:={ s with heap:=h' }) e c d (by cbv) ⟨x,H,I1,ru,⟨rfl,λys hy=>by rw[I.wK hy hq];exact hx⟩,aA,λb hb=>(hf b hb).1⟩⟩
 done:=by intro X hP hw hK hc i pz s σ H E I hf st hg;subst hP hw hK;obtain⟨xs,hq,hx⟩:=hg;obtain⟨aD,rv,p,hz⟩:=I.list hq;obtain⟨f0,f1,f2,f3,f4,f5⟩:=hf it (by simp);have hl:=rv.length;exact wpAny_pyNext_list_end (I.ok.hd hc) st p.isList (by simp_all) λh' eb=>⟨rfl,I.turned (t':=s.toks) (λb o hb e=>eb b o hb e) f0 f1 f3 f4 f5⟩
 self:=λ_ _ _ _ _ st h=>wpAny_pyIter_listiter st h
theorem RW {w:dh}{K:ae}(a it:Addr):Turn P w K tg (Me K a) [it] it λi h=>h.IsTupleIter it a i where
 mem:=by simp
 obj:=λi h st b hb=>by
  have e:=by simpa using hb
  subst e;obtain⟨o,e,c,d⟩:=st;exact⟨o,e,λv z=>by rw[d]at z;cases z⟩
 keep:=λi h h' st k=>st.at λo e=>k it (by simp) o e;item:=by intro X hP hw hK hc i pz s σ H E I hf st hg;subst hP hw hK;obtain⟨xs,x,hq,hx⟩:=hg;obtain⟨aD,rv,p,hz⟩:=I.tuple hq;obtain⟨u,hu,ru⟩:=rv.get hx;obtain⟨f0,f1,f2,f3,f4,f5⟩:=hf it (by simp);refine wpAny_pyNext_tuple_item st (p) (x:=u) (by simpa using hu) λh' aA sb=>?_;have I1:=I.turned (t':=s.toks) (λb o hb e=>(sb.2 b hb).trans e) f0 f1 f3 f4 f5;obtain⟨o,e,c,d⟩:=id aA;exact⟨u,rfl,KD (s:={ s with heap:=h' }) e c d (by cbv) ⟨x,H,I1,ru,⟨rfl,λys hy=>by rw[I.tK hy hq];exact hx⟩,aA,λb hb=>(hf b hb).1⟩⟩
 done:=by intro X hP hw hK hc i pz s σ H E I hf st hg;subst hP hw hK;obtain⟨xs,hq,hx⟩:=hg;obtain⟨aD,rv,p,hz⟩:=I.tuple hq;obtain⟨f0,f1,f2,f3,f4,f5⟩:=hf it (by simp);have hl:=rv.length;exact wpAny_pyNext_tuple_end (I.ok.hd hc) st (p) (by simp_all) λh' eb=>⟨rfl,I.turned (t':=s.toks) (λb o hb e=>eb b o hb e) f0 f1 f3 f4 f5⟩
 self:=λ_ _ _ _ _ st h=>wpAny_pyIter_tupleiter st h
theorem TH {w:dh}{K:ae}(it:Addr)(lo:Int)(n:Nat):Turn P w K tg (Ak lo n) [it] it λi h=>IsRangeIter h it (lo+(i:Nat)*1) ((n:Int)-(i:Nat)) 1 where
 mem:=by simp
 obj:=λi h st b hb=>by
  have e:=by simpa using hb
  subst e;exact⟨_,st,λv z=>by simp_all⟩
 keep:=λi h h' st k=>k it (by simp) _ st;item:=by intro X hP hw hK hc i pz s σ H E I hf st hg;subst hP hw hK;obtain⟨f0,f1,f2,f3,f4,f5⟩:=hf it (by simp);have W:=Walks.range (prog:=X.prog) (w:=X.w) (I.ok.hd hc) it lo 1 n;refine W.item i s _ _ hg st λv h' tk hv aA kk=>?_;obtain⟨t,rfl⟩:=hv;have I1:Inv X pz σ H { s with heap:=h',toks:=tk }:=I.turned (λb o hb e=>kk b o (by simp_all) e) f0 f1 f3 f4 f5;refine⟨_,rfl,KD (s:={ s with heap:=h',toks:=tk }) (n :="range_iterator") aA rfl rfl (by cbv) ⟨.int<|lo+i,H,I1,⟨t,?_⟩,⟨rfl,rfl⟩,aA,λb hb=>(hf b hb).1⟩⟩;rw[Int.mul_one]
 done:=by intro X hP hw hK hc i pz s σ H E I hf st hg;obtain⟨f0,f1,f2,f3,f4,f5⟩:=hf it (by simp);exact wpAny_pyNext_range_end (I.ok.hd hc) st (by have:n<=i:=hg;lia) λh' eb=>⟨rfl,I.turned (t':=s.toks) (λb o hb e=>eb b o hb e) f0 f1 f3 f4 f5⟩
 self:=λ_ _ _ _ _ st h=>wpAny_pyIter_rangeiter st h
end L2
namespace L2
open PySem PySem.Spec PyProof.Rows
variable {pz:List<|Addr×Obj}{σ:St}{H:Hp}{fp:List Addr}
section
variable {X:Cx}{tg:cy}
theorem ZN {s:aj}{R:It->Hp->Prop}{E:Value->aj->Prop}{lo hi:Int}{t u v:Tok}{tk:Nat}(I:Inv X pz σ H s)(h1 : -2 ^ 62<=lo)(h2:lo<2 ^ 62)(h3 : -2 ^ 62<=hi)(h4:hi<2 ^ 62)(q:R (Ak lo (hi-lo).toNat) H):wpAny (model X.prog X.w) X.A (zm<|.ref s.heap.objs.size) (Al X pz σ tg R) E { s with heap:=s.heap.push { cls:=.type "range", data:=.fields #[.int lo t,.int hi u,.int 1 v] },toks:=tk }:=by
 refine wpAny_pyIter_range (IsRange.new ..) (small_one h1 h2 h3 h4) ?_;have I1:Inv X pz σ H { s with heap:=s.heap.push { cls:=.type "range", data:=.fields #[.int lo t,.int hi u,.int 1 v] },toks:=tk }:=I.kept λb o e=>aq _ e;refine⟨(s.heap.push { cls:=.type _,data:=.fields _ }).objs.size,[(s.heap.push { cls:=.type _,data:=.fields _ }).objs.size],_,_,H,rfl,I1.kept λb o e=>aq _ e,TH _ lo _,?_,λb hb=>?_,q⟩
 ·have e1:lo+(0:Nat)*1=lo:=by simp
  have e2:((hi-lo).toNat)-(0:Nat)=Builtin.Range.rangeSize lo hi 1:=by rw[rangeSize_one];split<;>lia
  rw[e1,e2];exact bo _ rfl
 ·have e:b=(s.heap.push { cls:=.type "range", data:=.fields #[.int lo t,.int hi u,.int 1 v] }).objs.size:=by simp_all
  subst e;exact I1.RV (av _)<|I1.bL.fresh<|av _
noncomputable def Qq (ta:TA):TI:=λσ H R=>ta σ H λvs H1=>∃j:Int,vs=[.int j]/\-2 ^ 62<=j/\j<2 ^ 62/\R (Ak 0 j.toNat) H1
theorem UZ {a:cy}{ta:TA}{p pos:Pos}(hg:Gl X "range")(hm:X.mg "range" = none)(ha:PA X [a] ta)(hs:cb [a] X.env=[(false,eval a X.env)]:=by rfl):PI X tg (.Call (.Name "range" p) [a] [] pos)<|Qq ta:=by intro pz s σ H R I h;refine Call_<|qF I hg hm boot_range<|i5 (bA (ha pos pz s σ H _ I h) λus s1 ⟨vs,H1,I1,r1,q1⟩=>?_) hs rfl;obtain⟨j,e,q1,q2,q⟩:=q1;subst e;cases r1 with|cons r rr =>cases rr;obtain⟨t,rfl⟩:=r;exact call_range_1<|ZN I1 (by lia) (by lia) q1 q2<|by simp_all
noncomputable def We (wi:TI)(g:TG)(tb:TS):TS:=λD σ H=>wi σ H λJ H1=>∃W:Nat->Nat->St->Hp->Prop,(∃m,W 0 m σ H1)/\∀i m σ H,W i m σ H -> J.stop i H/\D.nx σ H\/(J.go i H/\∃N:St->Hp->Prop,(∀am H',N am H'->∃m',m'<m/\W (i+1) m' am H')/\∀x H',J.yld i H x H'->g x σ H' λce H2=>tb { D with nx:=N,ct:=N,bk:=D.nx } ce H2)
noncomputable def yW (fp:List Addr)(h:Heap):List<|Addr×Obj:=fp.filterMap λb=>(h.get? b).map λo=>(b,o)
theorem xG {h:Heap}{b:Addr}{o:Obj}(hb:b∈fp)(e:h.get? b=some o):(b,o)∈yW fp h:=List.mem_filterMap.mpr ⟨b,hb,by simp_all⟩
theorem TZ {h:Heap}{p:Addr×Obj}(hp:p∈yW fp h):p.1∈fp/\h.get? p.1=some p.2:=by obtain⟨b,hb,e⟩:=List.mem_filterMap.mp hp;cases q:h.get? b with|none=>rw[q]at e;cases e|some o =>rw[q]at e;have e':=dv e;subst e';exact⟨hb,q⟩
theorem Inv.pinned {s:aj}(I:Inv X pz σ H s)(hf:∀b∈fp,nR X pz H b)(ho:∀b∈fp,∃o,s.heap.get? b=some o/\∀v,o.data≠.cell v):Inv X (pz++yW fp s.heap) σ H s :=I.O5 λp hp=>(List.mem_append.mp hp).elim (λz=>I.pin p<|cf _ z) λz=>by obtain⟨hb,e⟩:=TZ z;obtain⟨f0,f1,f2,_⟩:=hf _ hb;obtain⟨o,e',d⟩:=ho _ hb;rw[e]at e';cases e';exact⟨e,f0,f1,f2,d⟩
theorem Inv.wL {pl:List<|Addr×Obj}{s:aj}(I:Inv X (pz++pl) σ H s):Inv X pz σ H s:=I.O5 λp hp=>I.pin p<|cf _<|fb _ hp
theorem Kh {iter:cy}{body:List Stmt}{wi:TI}{g:TG}{tb:TS}{pos:Pos}(hp:u7 (model X.prog X.w) X.A X.env X.xe)(hc:X.calm=true)(hi:PI X tg iter wi)(hg:PG X tg g)(hb:iY X body tb) (hs:∀x,ft iter X.env x=pure x:=by intro _;rfl):PS X (.For tg iter body [] pos)<|We wi g tb:=by
 intro pz s σ H D I h;refine wpAny_For (bA (hi pz s σ H _ I h) λv s1 h1=>bA h1 λitv s2 h2=>?_) hs;obtain⟨it,fp,tn,J,H2,e,I2,T,aJ,f2,W,⟨m0,w0⟩,turn⟩:=h2;subst e;have stat:∀{H':Hp},(∀b∈fp,H' b=none)->∀b∈fp,nR X pz H' b:=λhn b hb=>⟨hn b hb,(f2 b hb).2⟩;refine codeAny_forLoop_any (λn s'=>∃i am H',Inv X pz am H' s'/\tn i s'.heap/\(∀b∈fp,H' b=none)/\W i n am H') ?_ m0 ⟨0,σ,H2,I2,aJ,λb hb=>(f2 b hb).1,w0⟩;rintro n s3 ⟨i,cr,H3,I3,aZ,fr3,w3⟩;rcases turn i n cr H3 w3 with⟨stop,qn⟩|⟨go,N,hN,step⟩;·refine l8 hp<|bA (T.done X rfl rfl rfl hc i pz s3 cr H3 X.xe I3 (stat fr3) aZ stop) λr s4 ⟨hr,I4⟩=>?_;subst hr;exact kg ⟨cr,H3,I4,qn⟩
 ·refine l8 hp<|bA (T.item X rfl rfl rfl hc i pz s3 cr H3 X.xe I3 (stat fr3) aZ go) λr s4 ⟨u,hr,h4⟩=>?_;subst hr;refine l8 hp<|bA h4 λ_ s5 ⟨x,H5,I5,r5,y5,eQ,fr5⟩=>?_;have I5':=I5.pinned (stat fr5)<|T.obj _ _ eQ;refine l8 hp<|bA (hg _ s5 cr H5 x u _ I5' r5<|step x H5 y5) λ_ s6 ⟨ww,H6,I6,q6⟩=>?_;refine l8 hp<|bA (hb _ s6 ww H6 _ I6 q6) λf s7 q7=>?_;have again:∀{ci:St}{H7:Hp},Inv X (pz++yW fp s5.heap) ci H7 s7->N ci H7->∃m,m<n/\∃i am H',Inv X pz am H' s7/\tn i s7.heap/\(∀b∈fp,H' b=none)/\W i m am H':=λ{ci H7} I7 n7=>by obtain⟨m',hm,w7⟩:=hN ci H7 n7;refine⟨m',hm,i+1,ci,H7,I7.wL,T.keep _ _ _ eQ λb hb o e=>(I7.pin (b,o)<|cf _<|cf _<|xG hb e).1,λb hb=>?_,w7⟩;obtain⟨o,e,d⟩:=T.obj _ _ eQ b hb;exact(I7.pin (b,o)<|cf _<|cf _<|xG hb e).2.1
  cases f with|next=>obtain⟨ci,H7,I7,n7⟩:=q7;exact again I7 n7|cont=>obtain⟨ci,H7,I7,n7⟩:=q7;exact again I7 n7|brk=>obtain⟨ci,H7,I7,q7⟩:=q7;exact⟨ci,H7,I7.wL,q7⟩|ret v=>obtain⟨x7,ci,H7,I7,r7,q7⟩:=q7;exact⟨x7,ci,H7,I7.wL,r7,q7⟩
end
end L2
namespace L2
open PySem PySem.Spec PyProof.Rows
abbrev R2:=V->V->Hp->VK->Prop
def hZ (X:Cx)(f:Value->Value->Sem Value)(r:R2):Prop :=∀(pz:List<|Addr×Obj)(s:aj)(σ:St)(H:Hp)(x y:V)(v u:Value)(Q:VK),Inv X pz σ H s->RelV x v->RelV y u->r x y H Q ->wpAny (model X.prog X.w) X.A (f v u) (EP X pz σ Q) X.xe s
def Ke (X:Cx)(f:Value->Sem Value)(r:V->Hp->VK->Prop):Prop :=∀(pz:List<|Addr×Obj)(s:aj)(σ:St)(H:Hp)(x:V)(v:Value)(Q:VK),Inv X pz σ H s->RelV x v->r x H Q ->wpAny (model X.prog X.w) X.A (f v) (EP X pz σ Q) X.xe s
def pH (X:Cx)(f:Value)(r:List V->Hp->VK->Prop):Prop :=∀(pz:List<|Addr×Obj)(s:aj)(σ:St)(H:Hp)(xs:List V)(us:List Value)(Q:VK),Inv X pz σ H s->aS xs us->r xs H Q ->wpAny (model X.prog X.w) X.A (call f us) (EP X pz σ Q) X.xe s
def Vz (X:Cx)(r:V->Hp->(Bool->Hp->Prop)->Prop):Prop :=∀(pz:List<|Addr×Obj)(s:aj)(σ:St)(H:Hp)(x:V)(v:Value)(Q:Bool->Hp->Prop),Inv X pz σ H s->RelV x v->r x H Q ->wpAny (model X.prog X.w) X.A (Abp v) (TP X pz σ Q) X.xe s
noncomputable def Pb (r:R2)(ta tb:TE):TE:=λσ H Q=>ta σ H λx H1=>tb σ H1 λy H2=>r x y H2 Q
noncomputable def Yi (r:V->Hp->VK->Prop)(ta:TE):TE:=λσ H Q=>ta σ H λx H1=>r x H1 Q
noncomputable def rI (C:Int->Int->Prop)(g:Int->Int->V):R2:=λx y H Q=>∃i j,x=.int i/\y=.int j/\C i j/\Q (g i j) H
noncomputable def NU (g:Int->Int->V):R2:=λx y H Q=>∃i j,x=.int i/\y=.int j/\Q (g i j) H
def rU (g:Int->V):V->Hp->VK->Prop:=λx H Q=>∃i,x=.int i/\Q (g i) H
variable {pz:List<|Addr×Obj}
section
variable {X:Cx}{a b c:cy}{ta tb tc:TE}{pos:Pos}
theorem Np (ha:PE X a ta)(hb:PE X b tb){s:aj}{σ:St}{H:Hp}{R:V->V->Hp->Prop}(I:Inv X pz σ H s)(h:ta σ H λx H1=>tb σ H1 λy H2=>R x y H2){Q:Value->aj->Prop}{f:Value->Value->Sem Value}(hf:∀v u s2 x y H2,Inv X pz σ H2 s2->RelV x v->RelV y u->R x y H2->wpAny (model X.prog X.w) X.A (f v u) Q X.xe s2):wpAny (model X.prog X.w) X.A (eval a X.env) (λv bn=>wpAny (model X.prog X.w) X.A (eval b X.env) (λu ca=>wpAny (model X.prog X.w) X.A (f v u) Q X.xe ca) X.xe bn) X.xe s:=by refine bA (ha pz s σ H _ I h) λv s1 ⟨x,H1,I1,r1,q1⟩=>?_;refine bA (hb pz s1 σ H1 _ I1 q1) λu s2 ⟨y,H2,I2,r2,q2⟩=>?_;exact hf v u s2 x y H2 I2 r1 r2 q2
theorem Pz {op:Operator}{r:R2}(ho:hZ X (jo op) r)(ha:PE X a ta)(hb:PE X b tb):PE X (.BinOp a op b pos)<|Pb r ta tb:=by intro pz s σ H Q I h;exact wpAny_BinOp<|Np ha hb I h λv u s2 x y H2 I2 rx ry q=>ho pz s2 σ H2 x y v u Q I2 rx ry q
theorem Rv {op:UnaryOp}{r:V->Hp->VK->Prop}(ho:Ke X (unaryOp op) r)(ha:PE X a ta):PE X (.UnaryOp op a pos)<|Yi r ta:=by intro pz s σ H Q I h;exact UnaryOp_<|bA (ha pz s σ H _ I h) λv s1 ⟨x,H1,I1,r1,q1⟩=>ho pz s1 σ H1 x v Q I1 r1 q1
theorem Ba {f:Value->Value->Sem Value}{C:Int->Int->Prop}{g:Int->Int->Int}(rule:∀(i j:Int)(t u:Tok)(s:aj)(Q:Value->aj->Prop)(E:Value->aj->Prop),C i j->Q (.int (g i j) s.toks) { s with toks:=s.toks+1 }->wpAny (model X.prog X.w) X.A (f (.int i t)<|.int j u) Q E s):hZ X f<|rI C λi j=>.int<|g i j:=by intro pz s σ H x y v u Q I rx ry h;obtain⟨i,j,rfl,rfl,hc,q⟩:=h;obtain⟨t,rfl⟩:=rx;obtain⟨t',rfl⟩:=ry;exact rule i j t t' s _ _ hc ⟨.int _,H,I.tok _,⟨_,rfl⟩,q⟩
theorem Iq {f:Value->Value->Sem Value}{g:Int->Int->Int}(rule:∀(i j:Int)(t u:Tok)(s:aj)(Q:Value->aj->Prop)(E:Value->aj->Prop),Q (.int (g i j) s.toks) { s with toks:=s.toks+1 }->wpAny (model X.prog X.w) X.A (f (.int i t)<|.int j u) Q E s):hZ X f<|NU λi j=>.int<|g i j:=by intro pz s σ H x y v u Q I rx ry h;obtain⟨i,j,rfl,rfl,q⟩:=h;obtain⟨t,rfl⟩:=rx;obtain⟨t',rfl⟩:=ry;exact rule i j t t' s _ _ ⟨.int _,H,I.tok _,⟨_,rfl⟩,q⟩
def Mv (i j:Int):Prop:=0<j/\j<1073741824
def Ls (i j:Int):Prop:=0<=j/\j<=1000000/\i.natAbs<2 ^ 64
def SY (i j:Int):Prop:=-2 ^ 64<i/\i<2 ^ 64\/(-2 ^ 64<j/\j<2 ^ 64)
theorem SY.ok {i j:Int}(h:SY i j):IntMulOk i j:=by
 rcases h with⟨h1,h2⟩|⟨h1,h2⟩;·exact .of_left<|intBits_le_64 h1 h2
 ·exact .of_right<|intBits_le_64 h1 h2
theorem Oh:hZ X (jo .Add)<|NU λi j=>.int<|i+j:=Iq λ_ _ _ _ _ _ _ q=>add_int q
theorem Nh:hZ X (jo .Sub)<|NU λi j=>.int<|i-j:=Iq λ_ _ _ _ _ _ _ q=>sub_int q
theorem Hr:hZ X (jo .Mult)<|rI SY λi j=>.int<|i*j:=Ba λ_ _ _ _ _ _ _ hc q=>mul_int q hc.ok
theorem De:hZ X (jo .FloorDiv)<|rI Mv λi j=>.int<|i / j:=Ba λi j _ _ _ _ _ hc q=>by have h1:0<j:=hc.1;have h2:=hc.2;exact floordiv_int (by lia) (by rw[Int.fdiv_eq_ediv_of_nonneg i<|by lia];exact q)<|.inl<|PyProof.noPylong_small<|by lia
theorem Hs:hZ X (jo .Mod)<|rI (λ_ j=>0<j) λi j=>.int<|i % j:=Ba λi j _ _ _ _ _ hc q=>by have h1:=hc;exact mod_int' (by lia)<|by rw[Int.fmod_eq_emod_of_nonneg i<|by lia];exact q
theorem Jo:hZ X (jo .Pow)<|rI Ls λi j=>.int<|i ^ j.toNat:=Ba λ_ _ _ _ _ _ _ hc q=>pow_int_small hc.1 hc.2.1 hc.2.2 q
theorem Yd {f:Value->Sem Value}{g:Int->Int}(rule:∀(i:Int)(t:Tok)(s:aj)(Q:Value->aj->Prop)(E:Value->aj->Prop),Q (.int (g i) s.toks) { s with toks:=s.toks+1 }->wpAny (model X.prog X.w) X.A (f<|.int i t) Q E s):Ke X f<|rU λi=>.int<|g i:=by intro pz s σ H x v Q I rx h;obtain⟨i,rfl,q⟩:=h;obtain⟨t,rfl⟩:=rx;exact rule i t s _ _ ⟨.int _,H,I.tok _,⟨_,rfl⟩,q⟩
theorem Od:Ke X (unaryOp .USub)<|rU λi=>.int<|-i:=Yd λ_ _ _ _ _ q=>neg_int q
end
variable {us:List Value}
section
variable {X:Cx}{a b c:cy}{ta tb tc:TE}{pos:Pos}
theorem Ox {σ:St}{H:Hp}{s:aj}{Q:VK}{k k':Bool}(I:Inv X pz σ H s)(q:Q (.bl k) H)(e:k=k'):EP X pz σ Q (.bool k') s:=by subst e;exact⟨.bl k,H,I,rfl,q⟩
theorem U4:hZ X (u6 .In) λx y H Q=>∃i j,x=.str i/\y=.str j/\Q (.bl<|!(ik j i 0 j.length 1).isEmpty) H:=by intro pz s σ H x y v u Q I rx ry h;obtain⟨i,j,rfl,rfl,q⟩:=h;obtain⟨t,rfl⟩:=rx;obtain⟨t',rfl⟩:=ry;exact in_str<|Ox I q rfl
theorem hZ.or {f:Value->Value->Sem Value}{r r':R2}(h:hZ X f r)(h':hZ X f r'):hZ X f λx y H Q=>r x y H Q\/r' x y H Q:=by
 intro pz s σ H x y v u Q I rx ry q;rcases q with q|q;·exact h pz s σ H x y v u Q I rx ry q
 ·exact h' pz s σ H x y v u Q I rx ry q
def ZD (K:ae)(x:V)(H:Hp)(k:Bool):Prop :=match x with|.non=>k=false|.bl b=>k=b|.int i=>k=(i != 0)|.str y=>y.length<=sizeLine/\k=((y.length:Int) != 0)|.byt y=>y.size<=sizeLine/\k=((y.size:Int) != 0)|.ref p=>(∃xs,eU K H p xs/\k = !xs.isEmpty)\/(∃xs,fT K H p xs/\k = !xs.isEmpty)\/∃iF,H p=some (.dK iF)/\k = !iF.isEmpty|_=>False
theorem R4 {κ:Type}{iF:List<|κ×V}{vs:List<|κ×Value}(r:KV iF vs):(!vs.isEmpty) = !iF.isEmpty:=by cases r<;>rfl
theorem DI {xs:List V}{aD:List Value}(r:aS xs aD):(!aD.toArray.isEmpty) = !xs.isEmpty:=by cases r<;>simp
theorem zR:(sizeLine:Nat)<2 ^ 63:=by rw[ku];cbv
theorem M2:Vz X λx H Q=>∃k,ZD X.K x H k/\Q k H:=by intro pz s σ H x v Q I rx h;obtain⟨k,e,q⟩:=h;have hl:=zR;have hs:sizeLine=16777216:=ku;cases x with|non =>cases rx;have e':k=false:=e;subst e';exact truthy_none ⟨H,I,q⟩|bl b =>cases rx;have e':k=b:=e;subst e';exact jc ⟨H,I,q⟩|int i =>obtain⟨t,rfl⟩:=rx;have e':k=(i != 0):=e;subst e';exact PySem.P.truthy_int ⟨H,I,q⟩|str y =>obtain⟨t,rfl⟩:=rx;obtain⟨hy,e'⟩:y.length<=sizeLine/\k=((y.length:Int) != 0):=e;subst e';exact PySem.P.truthy_str (by lia) ⟨H,I.tok _,q⟩|byt y =>obtain⟨t,rfl⟩:=rx;obtain⟨hy,e'⟩:y.size<=sizeLine/\k=((y.size:Int) != 0):=e;subst e';exact PySem.W.truthy_bytes (by lia) ⟨H,I.tok _,q⟩|ref p =>
 cases rx;have e':(∃xs,eU X.K H p xs/\k = !xs.isEmpty)\/(∃xs,fT X.K H p xs/\k = !xs.isEmpty)\/∃iF,H p=some (.dK iF)/\k = !iF.isEmpty:=e;rcases e' with⟨xs,hx,e'⟩|⟨xs,hx,e'⟩|⟨iF,hx,e'⟩;·subst e';obtain⟨aD,r,pl,hz⟩:=I.list hx;have hlen:=r.length;exact wpAny_truthy_list pl.isList (by simp![dw];lia) ⟨H,I.tok _,by rw[DI r];exact q⟩
 ·subst e';obtain⟨aD,r,pl,hz⟩:=I.tuple hx;have hlen:=r.length;exact truthy_tuple pl (by simp![dw];lia) ⟨H,I.tok _,by rw[DI r];exact q⟩
 ·subst e';obtain⟨hz,hS,vs,r,m⟩:iF.length<=sizeLine/\(p==xm)=false/\∃vs,KV iF vs/\s.heap.DictOf (GS X.prog X.w) p vs:=I.bL p _ hx;have hlen:=Aa5 r;exact wpAny_truthy_dict hS m (by lia) ⟨H,I.tok _,by rw[R4 r];exact q⟩|_=>exact(e).elim
theorem XM (ha:PE X a ta)(he:∀whole,Zq a X.env whole=do let v <-whole;og a.pos;jm [v]<|Abp v):PT X a λσ H Q=>ta σ H λx H'=>∃k,ZD X.K x H' k/\Q k H':=by intro pz s σ H Q I h;exact isTrue_plain (bA (ha pz s σ H _ I h) λv s1 ⟨x,H1,I1,r1,q1⟩=>M2 pz s1 σ H1 x v Q I1 r1 q1)<|he _
theorem Q6:hZ X (jo .Add) λx y H Q=>∃i j,x=.str i/\y=.str j/\i.length+j.length<=sizeLine/\Q (.str<|i++j) H:=by intro pz s σ H x y v u Q I rx ry h;obtain⟨i,j,rfl,rfl,hz,q⟩:=h;obtain⟨t,rfl⟩:=rx;obtain⟨t',rfl⟩:=ry;exact add_str (λt' tk=>⟨.str _,H,I.tok _,⟨_,rfl⟩,q⟩) hz
theorem vals1 {x:V}(r:aS [x] us):∃u,us=[u]/\RelV x u:=by cases r with|cons r1 r2=>cases r2;exact⟨_,rfl,r1⟩
theorem vals2 {x y:V}(r:aS [x,y] us):∃u w',us=[u,w']/\RelV x u/\RelV y w':=by cases r with|cons r1 r2 =>cases r2 with|cons r3 r4=>cases r4;exact⟨_,_,rfl,r1,r3⟩
theorem V7 (hc:X.calm=true):pH X (.builtin "max") λxs H Q=>∃i j,xs=[.int i,.int j]/\Q (.int<|if j>i then j else i) H:=by
 intro pz s σ H xs us Q I r h;obtain⟨i,j,rfl,q⟩:=h;obtain⟨u,w',rfl,⟨t,rfl⟩,⟨t',rfl⟩⟩:=vals2 r;refine max_two_ints (I.ok.hd hc) λh' tk k=>⟨_,H,I.kept k,?_,q⟩;by_cases hj:j>i;·rw[if_pos hj,if_pos hj];exact⟨_,rfl⟩
 ·rw[if_neg hj,if_neg hj];exact⟨_,rfl⟩
theorem IM:pH X (.type "int") λxs H Q=>(∃i,xs=[.int i]/\Q (.int i) H)\/∃k,xs=[.bl k]/\Q (.int<|if k then 1 else 0) H:=by
 intro pz s σ H xs us Q I r h;rcases h with⟨i,rfl,q⟩|⟨k,rfl,q⟩;·obtain⟨u,rfl,t,rfl⟩:=vals1 r;exact call_int_int ⟨.int i,H,I,⟨_,rfl⟩,q⟩
 ·obtain⟨u,rfl,r1⟩:=vals1 r;cases r1;exact call_int_bool ⟨.int _,H,I.tok _,⟨_,rfl⟩,q⟩
def Ih (K:ae)(x:V)(H:Hp)(n:Nat):Prop :=match x with|.str y=>y.length<=sizeLine/\n=y.length|.byt y=>y.size<=sizeLine/\n=y.size|.ref p=>(∃xs,eU K H p xs/\n=xs.length)\/∃xs,fT K H p xs/\n=xs.length|_=>False
theorem Z4:pH X (.builtin "len") λxs H Q=>∃x n,xs=[x]/\Ih X.K x H n/\Q (.int n) H:=by
 intro pz s σ H xs us Q I r h;obtain⟨x,n,rfl,e,q⟩:=h;obtain⟨u,rfl,rx⟩:=vals1 r;have hs:=ku;cases x with|str y =>obtain⟨t,rfl⟩:=rx;obtain⟨hy,e'⟩:y.length<=sizeLine/\n=y.length:=e;subst e';exact len_str (by lia) ⟨.int _,H,I.tok _,⟨_,rfl⟩,q⟩|byt y =>obtain⟨t,rfl⟩:=rx;obtain⟨hy,e'⟩:y.size<=sizeLine/\n=y.size:=e;subst e';exact PySem.W.len_bytes (by lia) ⟨.int _,H,I.tok _,⟨_,rfl⟩,q⟩|ref p =>
 cases rx;have e':=e;rcases e' with⟨xs,hx,e'⟩|⟨xs,hx,e'⟩;·subst e';obtain⟨aD,r',pl,hz⟩:=I.list hx;have hlen:=r'.length;exact Calls.call_len_list pl.isList (by simp![dw];lia) ⟨.int _,H,I.tok _,⟨_,by simp![dw];rw[hlen]⟩,q⟩
 ·subst e';obtain⟨aD,r',pl,hz⟩:=I.tuple hx;have hlen:=r'.length;exact Abi pl (by simp![dw];lia) ⟨.int _,H,I.tok _,⟨_,by simp![dw];rw[hlen]⟩,q⟩|_=>exact e.elim
end
end L2
namespace L2
open PySem PySem.Spec PyProof.Rows
variable {dx:Addr}{mA:Str->Option Value}
structure DC (h:Heap)(x dx C:Addr)(mA:Str->Option Value):Prop where
 obj:h.get? x=some (ph C dx)ns:h.Ns1 dx mA
 ne:dx≠x
set_option tactic.hygienic true in
theorem WB {h:Heap}(n:h.Ns1 dx mA):∃od,h.get? dx=some od/\∀name,vf name od=some (mA name):=by
 obtain⟨o,es,ep,ho,hd,hk,_,hm⟩:=n;refine⟨o,ho,λname=>?_⟩;have e:=hm name;unfold nsFind findBy at e;rw[<-Array.find?_toList]at e;unfold vf;rw[hd];dsimp only;split;·simp_all
 ·rename_i q;rw[q]at e;have a:es.toList.any (·.refKey)=false:=by rw[p8];intro y hy;obtain⟨z,t,hkey⟩:=hk y<|Array.mem_toList_iff.mp hy;simp [DictEntry.refKey,hkey]
  have a':¬es.toList.any (·.refKey)=true:=by rw[a];exact oh
  rw[if_neg a'];exact congrArg some e
variable {C:Addr}
theorem DC.look {h:Heap}{x:Addr}(I:DC h x dx C mA):∃od,kz h x (ph C dx) C (some od)/\∀name,vf name od=some (mA name) :=let⟨od,ho,hl⟩:=WB I.ns;⟨od,⟨I.obj,rfl,rfl,ho⟩,hl⟩
variable {E Q:Value->aj->Prop}{pl:Sem Bool}
section
variable {prog:bp}{w:dh}{A:c5}{s:aj}{K:ae}{x f:Addr}{name:Str}{v:Value}
theorem get_map {expr:Bool}(X:K.In s.heap)(I:DC s.heap x dx C mA)(hg:nz K C name=true)(hh:p9 K C=true)(ha:df K (.ref C) name=some none)(hv:mA name=some v)(hv':Aao v=true)(h:Q v { s with toks:=s.toks+1 }):wpAny (model prog w) A (getAttr (.ref x) name expr) Q E s:=by obtain⟨od,J,hl⟩:=I.look;exact PySem.W.get_value X J (ur hg).1 (PySem.W.findObj_own hh ha rfl<|by simp_all) hv' h
theorem ZM {Q:Value×List Value->aj->Prop}(X:K.In s.heap)(I:DC s.heap x dx C mA)(hg:nz K C name=true)(hf:df K (.ref C) name=some (some<|.ref f))(ht:u1 K (.ref f)=true)(hv:mA name=none)(h:Q (.ref f,[.ref x]) s):wpAny (model prog w) A (px (.ref x) name pl) Q E s:=by obtain⟨od,J,hl⟩:=I.look;exact PySem.W.method_fn X J (ur hg).1 (ur hg).2 hf (beq_iff_eq.mp ht) (by show(vf name od).map _=some false;rw[hl,hv];rfl) h
theorem Ge {ns:List Str}{Q:Unit->aj->Prop}(X:K.In s.heap)(I:DC s.heap x dx C mA)(hs:df K (.ref C) "__setattr__" = some (some<|.builtin "object.__setattr__"))(hp:se K C=true)(ht:yp K C name=some none)(hh:p9 K C=true)(hw:Zx mA ns)(oB:ns.length<=sizeLine)(h:∀h',DC h' x dx C (λy=>if y=name then some v else mA y)->mf dx s.heap h'->Q () { s with heap:=h',toks:=s.toks+2 }):wpAny (model prog w) A (setAttr (.ref x) name v) Q E s:=by obtain⟨od,J,hl⟩:=I.look;refine PySem.W.set_plain X J hs<|PySem.W.osa_open X J hp ht λb=>?_;obtain⟨cd,hc,hd'⟩:=PySem.W.any_some hh;have hx:=I.obj;refine ai<|a9<|ai<|ai<|wpAny_loadPart hx<|ai<|PySem.W.Looks.here (PySem.W.looks_clsIn X hc) ?_;rw[hd'];refine a9<|ai<|a9<|ai ?_;refine wpAny_nsSet1 I.ns λh' hn2 hs2=>?_;obtain⟨oD,esD,epD,hoD,hdD,hcD⟩:=hn2.count<|PySem.Within.cons name v hw;refine ai<|wpAny_lookBehind hoD (by rw[hdD];exact pastItsLine_dict<|az hcD<|by simp_all) ?_;exact a9<|h _ ⟨(hs2.2 _<|fq I.ne).trans I.obj,hn2,I.ne⟩ hs2
theorem ZW {R:Abs->aj->Prop}{vs:List Value}{kw:List<|Str×Value}(X:K.In s.heap)(hm:yq K C=true)(hi:df K (.ref C) "__init__" = some (some<|.ref f))(hf:vg K (.ref f)=some (.type "function"))(h:qm (model prog w) (A.under<|.builtin "type.__call__" ⟨.ref C::vs,kw⟩) (.call (.ref f) ⟨.ref (s.heap.objs.size+1)::vs,kw⟩) (PySem.W.InitBack (s.heap.objs.size+1) R) { s with heap:=(s.heap.push sh).push (ph C s.heap.objs.size) }):qm (model prog w) A (.call (.ref C) ⟨vs,kw⟩) R s:=by exact PySem.W.make_core (PySem.W.makes_of X hm) (qg X hi) (λself=>PySem.W.bind_fn X self hf) (.inl rfl) h
end
noncomputable def kB (f:Str)(v:V):List (Str×V)->List (Str×V)|[]=>[(f,v)]|(g,x)::r=>if g=f then(g,v)::r else(g,x)::kB f v r
theorem BO (f g:Str)(v:V):∀fs:List<|Str×V,(kB f v fs).lookup g=if g=f then some v else fs.lookup g
 |[]=>by
  show wc g [(f,v)]=_;by_cases h:g=f;·simp_all
  ·simp_all|(k,x)::r=>by
  have ih:=BO f g v r;rw[show kB f v _=if k=f then(k,v)::r else(k,x)::kB f v r from rfl];by_cases hk:k=f
  ·rw[if_pos hk];by_cases h:g=k;·simp_all
   ·have hb:=beq_eq_false_iff_ne.mpr h;simp![wc,hb,if_neg λe:g=f=>h<|e.trans hk.symm]
  ·rw[if_neg hk];by_cases h:g=k;·simp_all
   ·have hb:=beq_eq_false_iff_ne.mpr h;simp![wc,hb];exact ih
theorem AK (f:Str)(v:V):∀fs:List<|Str×V,f∈(kB f v fs).map (·.1)/\∀g,g∈fs.map (·.1)->g∈(kB f v fs).map (·.1)
 |[]=>⟨by simp [kB],λg h=>by simp at h⟩|(k,x)::r=>by
  obtain⟨i1,i2⟩:=AK f v r;rw[show kB f v _=if k=f then(k,v)::r else(k,x)::kB f v r from rfl];by_cases hk:k=f;·subst hk;exact⟨by simp,λg h=>by simp_all⟩
  ·rw[if_neg hk];refine⟨?_,λg h=>?_⟩;·exact fg _ i1
   ·rcases List.mem_cons.mp h with e|e;·simp_all
    ·exact fg _<|i2 g e
theorem B8 (f:Str)(v:V):∀fs:List<|Str×V,(kB f v fs).length<=fs.length+1
 |[]=>by simp [kB]|(k,x)::r=>by
  have ih:=B8 f v r;rw[show kB f v _=if k=f then(k,v)::r else(k,x)::kB f v r from rfl];by_cases hk:k=f;·simp_all
  simp_all
variable {v:V}
theorem wA.some_of {o:Option Value}(r:wA (some v) o):∃u,o=some u/\RelV v u:=by cases o with|none=>exact r.elim|some u=>exact⟨u,rfl,r⟩
theorem wA.none_of {o:Option Value}(r:wA none o):o=none:=by cases o with|none=>rfl|some u=>exact(show False from r).elim
variable {u:Value}
theorem WT (r:RelV v u):Aao u=true:=by cases v with|non=>cases r;rfl|bl b=>cases r;rfl|int i=>obtain⟨t,e⟩:=r;cases e;rfl|str x=>obtain⟨t,e⟩:=r;cases e;rfl|byt b=>obtain⟨t,e⟩:=r;cases e;rfl|flt b=>obtain⟨t,e⟩:=r;cases e;rfl|ref a=>cases r;rfl|ty n=>cases r;rfl
variable {H:Hp}
section
variable {P:bp}{w:dh}{H':Hp}{h h':Heap}{a:Addr}{fs fs':List<|Str×V}
theorem GG (bL:fH P w H h)(e:H a=some (.ins C dx fs)):∃mA,DC h a dx C mA/\(∀f,wA (fs.lookup f)<|mA f)/\Zx mA (fs.map (·.1))/\fs.length<=1000/\H dx=some (.own a):=by obtain⟨d,z,ne,ob,mA,n,r,q⟩:=bL a _ e;exact⟨mA,⟨ob,n,ne⟩,r,q,z,d⟩
end
structure qB (K:ae)(C:Addr):Prop where
 pg:nz K C Abj=true
 hd:p9 K C=true
 po:se K C=true
 sa:df K (.ref C) "__setattr__" = some (some<|.builtin "object.__setattr__")
theorem qB.get {K:ae}(c:qB K C)(f:Str):nz K C f=true:=c.pg
def sJ (K:ae)(C:Addr)(f:Str):Prop:=df K (.ref C) f=some none
theorem sJ.Px {K:ae}{f:Str}(n:sJ K C f):yp K C f=some none:=by unfold yp;rw[n];rfl
structure uA (K:ae)(C:Addr)(m:Str)(f:Addr):Prop where
 at_:df K (.ref C) m=some (some<|.ref f)fn:u1 K (.ref f)=true
 kp:e9 K (.ref f)=true
variable {pz:List<|Addr×Obj}
section
variable {X:Cx}{σ:St}{s:aj}{a:Addr}{fs:List<|Str×V}{f:Str}{A:c5}
theorem RS {b:Bool}(I:Inv X pz σ H s)(e:H a=some (.ins C dx fs))(c:qB X.K C)(n:sJ X.K C f)(l:fs.lookup f=some v)(h:∀u s',Inv X pz σ H s'->RelV v u->Q u s'):wpAny (model X.prog X.w) A (getAttr (.ref a) f b) Q E s:=by obtain⟨mA,O,r,_,_,_⟩:=GG I.bL e;obtain⟨u,hu,ru⟩:=wA.some_of (by rw[<-l];exact r f);exact get_map I.gR O (c.get f) c.hd n hu (WT ru)<|h u _ (I.tok _) ru
theorem xF {m:Str}{g:Addr}{Q:Value×List Value->aj->Prop}(I:Inv X pz σ H s)(e:H a=some (.ins C dx fs))(c:qB X.K C)(k:uA X.K C m g)(l:fs.lookup m=none)(h:Q (.ref g,[.ref a]) s):wpAny (model X.prog X.w) A (px (.ref a) m pl) Q E s:=by obtain⟨mA,O,r,_,_,_⟩:=GG I.bL e;have hn:=wA.none_of (by rw[<-l];exact r m);exact ZM I.gR O (c.get m) k.at_ k.fn hn h
theorem Q9 {y:V}{Q:Unit->aj->Prop}(I:Inv X pz σ H s)(e:H a=some (.ins C dx fs))(c:qB X.K C)(n:sJ X.K C f)(hl:fs.length<1000)(ry:RelV y u)(h:∀s',Inv X pz σ (upd H a<|.ins C dx<|kB f y fs) s'->Q () s'):wpAny (model X.prog X.w) A (setAttr (.ref a) f u) Q E s:=by
 obtain⟨mA,O,r,wi,_,ho⟩:=GG I.bL e;have hz:(fs.map (·.1)).length<=sizeLine:=by rw[af,ku];lia
 refine Ge I.gR O c.sa c.po n.Px c.hd wi hz λh' O' sb=>h _ ?_;have hd:∃o,h'.get? dx=some o:=let⟨o,_,_,e',_⟩:=O'.ns;⟨o,e'⟩;refine I.write (x:=a) (e:=dx) (by rw[e];exact oi) (.inr ho) (λb q hb z=>(sb.2 b hb).trans z) hd ?_;refine⟨by rw[aY O.ne];exact ho,?_,O.ne,O'.obj,_,O'.ns,λg=>?_,λg hg=>?_⟩;·have:=B8 f y fs;lia
 ·rw[BO];by_cases q:g=f;·rw[if_pos q,if_pos q];exact ry
  ·simp_all
 ·by_cases q:g=f;·rw[q];exact(AK f y fs).1
  ·refine(AK f y fs).2 g<|wi g λz=>hg ?_;show(if g=f then some u else mA g)=none;rw[if_neg q];exact z
theorem Inv.made (I:Inv X pz σ H s):Inv X pz σ (upd (upd H s.heap.objs.size<|.own<|s.heap.objs.size+1) (s.heap.objs.size+1)<|.ins C s.heap.objs.size []) { s with heap:=(s.heap.push sh).push (ph C s.heap.objs.size) }:=by
 have e1:(s.heap.push sh).get? _=some _:=bo _ rfl;have e2:=by have:=bo (s.heap.push sh) (o:=ph C s.heap.objs.size) rfl;rwa [lh]at this
 have e3:(s.heap.push _).Ns _ _:=⟨_,#[],_,e1,rfl,λe he=>absurd he<|by simp,λ_=>rfl⟩;have I1:=I.laid (o:=.own<|s.heap.objs.size+1) (t':=s.toks) (λb u q=>aq _ q) (av _) ⟨_,e1⟩;refine I1.laid (λb u q=>aq _ q) (Abt<|lh _ _) ?_;have ne:s.heap.objs.size≠s.heap.objs.size+1:=cj<|ju _;refine⟨by rw[aY ne,dX],cg _,ne,e2,_,(Heap.Ns1.of_empty e3).at λo q=>aq _ q,λ_=>oi,λy hy=>absurd rfl hy⟩
theorem Dj {prog:bp}{w:dh}{env:Env}{e:cy}{pos:Pos}(hb:ei e f env (eval e env)=eval e env)(h:wpAny (model prog w) A (eval e env) (λo bn=>wpAny (model prog w) A (getAttr o f true) Q E bn) E s):wpAny (model prog w) A (eval (.Attribute e f pos) env) Q E s :=Attribute_any_ h<|by rw[arm_eval_Attribute,hb]
end
noncomputable def Wk (K:ae)(ta:TE)(f:Str):TE:=λσ H Q=>ta σ H λx H1=>∃a C dx fs v,x=.ref a/\H1 a=some (.ins C dx fs)/\qB K C/\sJ K C f/\fs.lookup f=some v/\Q v H1
noncomputable def Vv (K:ae)(ta tv:TE)(f:Str):TS:=λD σ H=>tv σ H λy H1=>ta σ H1 λx H2=>∃a C dx fs,x=.ref a/\H2 a=some (.ins C dx fs)/\qB K C/\sJ K C f/\fs.length<1000 /\ D.nx σ (upd H2 a<|.ins C dx<|kB f y fs)
section
variable {X:Cx}{o e value:cy}{f:Str}{pos pos' tpos:Pos}{ta tv:TE}
theorem Lr (he:PE X e ta)(hb:ei e f X.env (eval e X.env)=eval e X.env):PE X (.Attribute e f pos)<|Wk X.K ta f:=by intro pz s σ H Q I h;refine Dj hb<|bA (he pz s σ H _ I h) λu s1 ⟨x,H1,I1,rx,a,C,dx,fs,v,ex,ea,c,n,l,q⟩=>?_;subst ex;obtain rfl:u=jq a:=rx;exact RS I1 ea c n l λu' s2 I2 ru=>⟨v,H1,I2,ru,q⟩
theorem Lx (ha:PE X o ta)(hv:PE X value tv)(hs:nq value (some<|.Attribute o f pos') pos.line X.env=pure false):PS X (.Assign [.Attribute o f pos'] value pos)<|Vv X.K ta tv f:=by intro pz s σ H D I h;refine plainObj_wpAny_Assign_Attribute (bA (hv pz s σ H _ I h) λu s1 ⟨y,H1,I1,ry,q⟩=>bA (ha pz s1 σ H1 _ I1 q) λov s2 ⟨x,H2,I2,rx,a,C,dx,fs,ex,ea,c,n,l,q2⟩=>?_) hs;subst ex;obtain rfl:ov=jq a:=rx;exact Q9 I2 ea c n l ry λs3 I3=>⟨σ,_,I3,q2⟩
theorem Pd {m:Str}{apos:Pos}{args:List cy}{s:aj}{σ:St}{te:TE}(he:PE X e te)(I:Inv X pz σ H s)(h:te σ H λx H1=>∃a C dx fs g,x=.ref a/\H1 a=some (.ins C dx fs)/\qB X.K C/\uA X.K C m g/\fs.lookup m=none /\∀s1,Inv X pz σ H1 s1->wpAny (model X.prog X.w) X.A (si pos (.ref g) [.ref a] (jr pos<|cb args X.env)<|qw pos<|kv [] X.env) Q X.xe s1)(ht:eval (.Call (.Attribute e m apos) args [] pos) X.env=do
  let ov <-eval e X.env
  og apos.atName let(f,first) <-jm [ov] (px ov m pl)si pos f first (jr pos<|cb args X.env)<|qw pos<|kv [] X.env):wpAny (model X.prog X.w) X.A (eval (.Call (.Attribute e m apos) args [] pos) X.env) Q X.xe s:=by refine tz (bA (he pz s σ H _ I h) λu s1 ⟨x,H1,I1,rx,a,C,dx,fs,g,ex,ea,c,k,l,q⟩=>?_) ht;subst ex;obtain rfl:u=jq a:=rx;exact xF I1 ea c k l<|q s1 I1
end
end L2
namespace L2
open PySem PySem.Spec PyProof.Rows
structure cK (k:Nat)(A:c5):Prop where
 hd:A.handled=none
 dp:A.depth+3*k+5<recursionLimit
 un:A.units+16*k+200<cLine
variable {k:Nat}
theorem cK.mono {j:Nat}{A:c5}(r:cK k A)(h:j<=k):cK j A:=⟨r.hd,by have:=r.dp;lia,by have:=r.un;lia⟩
theorem cK.deeper {A:c5}(r:cK (k+1) A)(env:Env):cK k (A.deeper env) :=⟨r.hd,by have:=r.dp;show A.depth+1+3*k+5<_;lia,by have:=r.un;show A.units+3+16*k+200<_;lia⟩
variable {C:Addr}{us:List Value}{kw:List<|Str×Value}
theorem SQ {A:c5}:(A.under<|.builtin "type.__call__" ⟨.ref C::us,kw⟩).depth=A.depth+1:=by first|rfl
theorem SO {A:c5}:(A.under<|.builtin "type.__call__" ⟨.ref C::us,kw⟩).units=A.units+1:=by first|rfl
theorem cK.make {A:c5}(r:cK (k+1) A)(C:Addr)(us:List Value)(kw:List<|Str×Value):cK k (A.under<|.builtin "type.__call__" ⟨.ref C::us,kw⟩) :=⟨r.hd,by have:=r.dp;rw[SQ];lia,by have:=r.un;rw[SO];lia⟩
theorem cK.depth {A:c5}(r:cK k A):A.depth<recursionLimit:=by have:=r.dp;lia
noncomputable def YM:TA:=λ_ H Q=>Q [] H
noncomputable def TB (ta:TE)(tr:TA):TA:=λσ H Q=>ta σ H λx H1=>tr σ H1 λxs H2=>Q (x::xs) H2
variable {X:Cx}{es:List cy}
section
variable {e:cy}{te:TE}{t:TA}{pos:Pos}
theorem D4:PA X [] YM:=λ_ _ _ _ H Q I h=>we ⟨[],H,I,.nil,h⟩
abbrev xX (X:Cx)(pos:Pos)(l:List cy):Bool:=(jr pos<|cb l X.env).all (λx=>!x.1)&&(qw pos<|kv [] X.env).all (λx=>x.1.isSome)&&decide (l.length+([]:List Keyword).length+(if([]:List Keyword).isEmpty then 0 else 1)<30)
abbrev sE (X:Cx)(e:cy)(es:List cy):Prop:=cb (e::es) X.env=(false,eval e X.env)::cb es X.env
abbrev sN (X:Cx)(pos:Pos)(es:List cy):Prop:=(jr pos<|cb es X.env).any (·.1)=false
theorem rE (ha:PE X e te)(hr:PA X es t)(hs:sE X e es:=by rfl):PA X (e::es)<|TB te t:=by intro pos pz s σ H Q I h;rw[hs];show wpAny _ _ (AaM<|(false,eval e _)::jr pos _) _ _ s;refine vh<|bA (ha pz s σ H _ I h) λu s1 ⟨x,H1,I1,r1,q1⟩=>?_;exact bA (hr pos pz s1 σ H1 _ I1 q1) λus s2 ⟨xs,H2,I2,r2,q2⟩=>⟨_,H2,I2,.cons r1 r2,q2⟩
noncomputable def Xf (t:TA):TE:=λσ H Q=>t σ H λxs H1=>xs.length<=sizeLine/\∀p,H1 p=none->Q (.ref p) (upd H1 p<|.tup xs)
noncomputable def Wq (t:TA):TE:=λσ H Q=>t σ H λxs H1=>xs.length<=sizeLine/\∀p,H1 p=none->Q (.ref p) (upd H1 p<|.lst xs)
theorem Ll {x1}(h:PA X es t):PE X (.Tuple es x1 pos)<|Xf t:=by intro pz s σ H Q I hq;refine wpAny_Tuple_spliced<|bA (h pos pz s σ H _ I hq) λus s1 ⟨xs,H1,I1,r,z,q⟩=>⟨by rw[<-r.length];exact z,?_⟩;have hf:=I1.bL.fresh<|av _;refine⟨.ref _,_,I1.laid (λb u e=>aq _ e) (av _) ?_,rfl,q _ hf⟩;exact⟨z,us,r,oS.new _ _⟩
theorem Jy (h:PA X es t):PE X (.List es pos)<|Wq t:=by intro pz s σ H Q I hq;refine wpAny_List_spliced<|bA (h pos pz s σ H _ I hq) λus s1 ⟨xs,H1,I1,r,z,q⟩=>⟨by rw[<-r.length];exact z,?_⟩;have hf:=I1.bL.fresh<|av _;refine⟨.ref _,_,I1.laid (λb u e=>aq _ e) (av _) ?_,rfl,q _ hf⟩;exact⟨z,us,0,r,bo _ rfl⟩
end
abbrev Sp:=List V->Hp->VK->XK->Prop
abbrev vC:=List Env->Hp->aj->XK->Value->aj->Prop
structure CD (P:bp)(w:dh)(K:ae)(mg:Str->Option Value)(base:Heap)(A:c5)(outer:List Env)(s:aj)(H:Hp):Prop where
 frames:A.frames=some outer
 mod:Mod K mg base
 bs:∀b o,base.get? b=some o->s.heap.get? b=some o/\H b=none
 bsz:base.objs.size<=s.heap.objs.size
 lA:s.heap.FunFrames base outer
 frf:∀b∈gS outer,H b=none
 bL:fH P w H s.heap
 bare:uz s.gens
inductive CE (outer:List Env)(P:bp)(w:dh)(H:Hp)(s:aj)(Q:VK)(u:Value)(s':aj):Prop |mk (v:V)(H':Hp)(a:s'.os=s.os)(b:uz s'.gens)(c:Un (gS outer) [] H H' s.heap s'.heap)(d:fH P w H' s'.heap)(r:RelV v u)(q:Q v H')
def CR (CX:vC)(outer:List Env)(P:bp)(w:dh)(H:Hp)(s:aj)(Q:VK)(E:XK)(r:Abs)(s':aj):Prop :=match r with|.ok<|.ret u=>CE outer P w H s Q u s'|.ok _=>False|.error e=>CX outer H s E e s'
structure cD (P:bp)(w:dh)(K:ae)(mg:Str->Option Value)(base:Heap)(CX:vC)(k:Nat)(f:Addr)(fd:fh)(ps:List Str)(sp:Sp):Prop where
 len:∀vs H Q E,sp vs H Q E->vs.length=ps.length
 run:∀(A:c5)(outer:List Env)(s:aj)(H:Hp)(args:Args)(us:List Value)(vs:List V)(Q:VK)(E:XK),cK k A->CD P w K mg base A outer s H->Zb s fd args (ps.zip us)->aS vs us->sp vs H Q E ->qm (model P w) A (.call (.ref f) args) (CR CX outer P w H s Q E) s
variable {P:bp}{H:Hp}
theorem CD.make {w:dh}{K:ae}{mg:Str->Option Value}{base:Heap}{A:c5}{outer:List Env}{s:aj}(e:CD P w K mg base A outer s H)(C:Addr)(us:List Value)(kw:List<|Str×Value): CD P w K mg base (A.under<|.builtin "type.__call__" ⟨.ref C::us,kw⟩) outer s H:=⟨by first|exact e.frames,e.mod,e.bs,e.bsz,e.lA,e.frf,e.bL,e.bare⟩
variable {pz:List<|Addr×Obj}{σ:St}{Q:VK}
section
variable {s s':aj}
theorem Inv.RB (I:Inv X pz σ H s):CD X.prog X.w X.K X.mg X.base X.A X.stack s H :=⟨I.ok.frames,I.ok.mod,I.bs,az I.ok.bsz I.sz,I.stack,I.pB,I.bL,I.bare⟩
theorem Inv.after {u:Value}(I:Inv X pz σ H s)(h:CE X.stack X.prog X.w H s Q u s'):EP X pz σ Q u s':=by obtain⟨v,H',os,bare,un,bL,r,q⟩:=h;obtain⟨hh,g,d,t,os'⟩:=s';obtain rfl:os'=s.os:=os;exact⟨v,H',I.call un bL bare λb z=>absurd z<|by simp,r,q⟩
end
noncomputable def Tx (sp:Sp)(dvs:List V)(E:XK)(t:TA):TE:=λσ H Q=>t σ H λvs H1=>sp (vs++dvs) H1 Q E
noncomputable def Bi (C:Addr)(m:Str)(sp:Sp)(dvs:List V)(E:XK)(ta:TE)(t:TA):TE:=λσ H Q=>ta σ H λx H1=>∃a dx fs,x=.ref a/\H1 a=some (.ins C dx fs)/\fs.lookup m=none /\ t σ H1 λvs H2=>sp (x::(vs++dvs)) H2 Q E
noncomputable def Qw (C:Addr)(sp:Sp)(dvs:List V)(E:XK)(t:TA):TE:=λσ H Q=>t σ H λvs H1=>∀x dx,H1 x=none->H1 dx=none->dx≠x -> sp (.ref x::(vs++dvs)) (upd (upd H1 dx<|.own x) x<|.ins C dx []) (λv H2=>v=.non/\Q (.ref x) H2) E
def Binds (K:ae)(fd:fh)(ps:List Str)(ds:List Value):Prop :=∀(s:aj)(us:List Value),K.In s.heap->(us++ds).length=ps.length->Zb s fd ⟨us,[]⟩ (ps.zip<|us++ds)
theorem Binds.all {K:ae}{fd:fh}{ps:List Str}(h:∀us:List Value,us.length=ps.length->bindArgs fd ⟨us,[]⟩=pure (ps.zip us)):Binds K fd ps []:=λs us _ hl=>by rw[dn]at hl ⊢;exact .of_eq<|h us hl
def gA (CX:vC)(X:Cx)(E:XK):Prop:=∀(pz:List<|Addr×Obj)(σ:St)(H:Hp)(s:aj)(e:Value)(s':aj),Inv X pz σ H s->CX X.stack H s E e s'->X.xe e s'
variable {CX:vC}{vs:List V}{pl:Sem Bool}
section
variable {f:Addr}{fd:fh}{ps:List Str}{sp:Sp}{dvs:List V}{ds:List Value}{E:XK}{x m:Str}{p pos apos:Pos}{e o:cy}{ta:TE}{t:TA}
theorem NN {s:aj}(F:cD X.prog X.w X.K X.mg X.base CX k f fd ps sp)(hr:cK k X.A)(hb:Binds X.K fd ps ds)(hd:aS dvs ds)(hx:gA CX X E)(I:Inv X pz σ H s)(r:aS vs us)(h:sp (vs++dvs) H Q E):wpAny (model X.prog X.w) X.A (call (.ref f) us) (EP X pz σ Q) X.xe s:=by
 have r2:=r.append hd;have hl:(us++ds).length=ps.length:=by rw[<-r2.length];exact F.len _ _ _ _ h
 refine xr<|mh (F.run _ _ s H _ _ _ Q E hr I.RB (hb s us I.gR hl) r2 h) λr s' hq=>?_;cases r with|error e=>exact hx pz σ H s e s' I hq|ok fl =>cases fl with|ret u=>exact I.after hq|next=>exact gj hq|brk=>exact gj hq|cont=>exact gj hq
theorem PV (F:cD X.prog X.w X.K X.mg X.base CX k f fd ps sp)(hr:cK k X.A)(hg:Gl X x)(hm:X.mg x=some (.ref f))(hk:e9 X.K (.ref f)=true)(hb:Binds X.K fd ps ds)(hd:aS dvs ds)(hx:gA CX X E)(ha:PA X (e::es) t)(hdb:(x==("__debug__" : Str))=false:=by cbv)(he:sE X e es:=by rfl)(cW:sN X pos es:=by rfl):PE X (.Call (.Name x p) (e::es) [] pos)<|Tx sp dvs E t:=by intro pz s σ H Q I h;refine fz<|mV I hg hm ?_ hdb;refine oj I.ok.mod.kin hk (bA (ha pos pz s σ H _ I h) λus s1 ⟨vs,H1,I1,r,q⟩=>⟨I1.gR,?_⟩) he cW;exact NN F hr hb hd hx I1 r q
theorem P7 (he:PE X o ta)(c:qB X.K C)(hm:uA X.K C m f)(F:cD X.prog X.w X.K X.mg X.base CX k f fd ps sp)(hr:cK k X.A)(hb:Binds X.K fd ps ds)(hd:aS dvs ds)(hx:gA CX X E)(ha:PA X (e::es) t)(cM:sE X e es:=by rfl)(cW:sN X pos es:=by rfl)(ht:eval (.Call (.Attribute o m apos) (e::es) [] pos) X.env=(do
  let ov <-eval o X.env
  og apos.atName let(f,first) <-jm [ov] (px ov m pl)si pos f first (jr pos<|cb (e::es) X.env)<|qw pos<|kv [] X.env):=by rfl):PE X (.Call (.Attribute o m apos) (e::es) [] pos)<|Bi C m sp dvs E ta t:=by intro pz s σ H Q I h;refine tz (bA (he pz s σ H _ I h) λu s1 ⟨x,H1,I1,rx,a,dx,fs,ex,ea,l,q⟩=>?_) ht;subst ex;obtain rfl:u=jq a:=rx;refine xF I1 ea c hm l ?_;refine oj I.ok.mod.kin hm.kp (bA (ha pos pz s1 σ H1 _ I1 q) λus s2 ⟨vs,H2,I2,r,q2⟩=>⟨I2.gR,?_⟩) cM cW;exact NN (vs:=.ref a::vs) F hr hb hd hx I2 (.cons rfl r) q2
theorem YS (he:PE X o ta)(c:qB X.K C)(hm:uA X.K C m f)(F:cD X.prog X.w X.K X.mg X.base CX k f fd ps sp)(hr:cK k X.A)(hb:Binds X.K fd ps ds)(hd:aS dvs ds)(hx:gA CX X E)(ht:eval (.Call (.Attribute o m apos) [] [] pos) X.env=(do
  let ov <-eval o X.env
  og apos.atName let(f,first) <-jm [ov] (px ov m pl)si pos f first (jr pos<|cb [] X.env)<|qw pos<|kv [] X.env):=by rfl):PE X (.Call (.Attribute o m apos) [] [] pos)<|Bi C m sp dvs E ta YM:=by intro pz s σ H Q I h;refine tz (bA (he pz s σ H _ I h) λu s1 ⟨x,H1,I1,rx,a,dx,fs,ex,ea,l,q⟩=>?_) ht;subst ex;obtain rfl:u=jq a:=rx;refine xF I1 ea c hm l ?_;exact PySem.W.callWith_K0 I1.gR hm.kp<|NN (vs:=[.ref a]) F hr hb hd hx I1 (.cons rfl .nil) q
structure Mk (K:ae)(C f:Addr):Prop where
 makes:yq K C=true
 init:df K (.ref C) "__init__" = some (some<|.ref f)fn:u1 K (.ref f)=true
 kp:e9 K (.ref C)=true
theorem Y8 {s:aj}(M:Mk X.K C f)(F:cD X.prog X.w X.K X.mg X.base CX k f fd ps sp)(hr:cK (k+1) X.A)(hb:Binds X.K fd ps ds)(hd:aS dvs ds)(hx:gA CX X E)(I:Inv X pz σ H s)(r:aS vs us)(h:∀x dx,H x=none->H dx=none->dx≠x->sp (.ref x::(vs++dvs)) (upd (upd H dx<|.own x) x<|.ins C dx []) (λv H2=>v=.non/\Q (.ref x) H2) E): wpAny (model X.prog X.w) X.A (call (.ref C) us) (EP X pz σ Q) X.xe s:=by
 have hq:=h _ _ (I.bL.fresh<|zo _) (I.bL.fresh<|av _)<|cj<|ju _;have I2:=Inv.made (C:=C) I;have r2:aS (V.ref (s.heap.objs.size+1)::(vs++dvs)) _:=.cons rfl<|r.append hd;have hl:=by have e:=r2.length;rw[F.len _ _ _ _ hq]at e;exact e.symm
 refine xr<|ZW I.gR M.makes M.init (beq_iff_eq.mp M.fn)<|mh (F.run _ _ _ _ _ _ _ _ E (hr.make C us []) (I2.RB.make C us []) (hb _ _ I2.gR hl) r2 hq) λr s' hq'=>?_;cases r with|error e=>exact hx pz σ _ _ e s' I2 hq'|ok fl =>cases fl with|ret u =>obtain⟨v,H',I3,rv,ev,q3⟩:=I2.after hq';subst ev;exact⟨rv,⟨V.ref _,H',I3,rfl,q3⟩⟩|next=>exact gj hq'|brk=>exact gj hq'|cont=>exact gj hq'
theorem Ew (M:Mk X.K C f)(F:cD X.prog X.w X.K X.mg X.base CX k f fd ps sp)(hr:cK (k+1) X.A)(hg:Gl X x)(hm:X.mg x=some (.ref C))(hb:Binds X.K fd ps ds)(hd:aS dvs ds)(hx:gA CX X E)(ha:PA X (e::es) t)(hdb:(x==("__debug__" : Str))=false:=by cbv)(he:sE X e es:=by rfl)(cW:sN X pos es:=by rfl):PE X (.Call (.Name x p) (e::es) [] pos)<|Qw C sp dvs E t:=by intro pz s σ H Q I h;refine fz<|mV I hg hm ?_ hdb;refine oj I.ok.mod.kin M.kp (bA (ha pos pz s σ H _ I h) λus s1 ⟨vs,H1,I1,r,q⟩=>⟨I1.gR,?_⟩) he cW;exact Y8 M F hr hb hd hx I1 r q
end
structure lI (N P:List Str)(sc:Scope):Prop where
 kind:sc.kind=.function
 co:sc.isCoroutine=false
 gen:sc.isGenerator=false
 nd:N.Nodup
 pre:N.take P.length=P
 par:∀x∈P,sc.names.lookup x=some .local\/sc.names.lookup x=some .cell
 nofree:∀y∈sc.names,y.2≠.free
theorem IL {kindOf:Str->Option w6}{x:Str}:∀{binds:List<|Str×Value}{m:Str->Option Value},(∀v,(x,v)∉binds)->bindL kindOf binds m x=m x
 |[],_,_=>rfl|(n,v)::r,m,h=>by
  unfold bindL;rw[IL λw hw=>h w<|fg _ hw];split
  ·have:x≠n:=by rintro rfl;exact h v gk
   simp [this]
  ·rfl
theorem IS {kindOf:Str->Option w6}{x:Str}:∀{binds:List<|Str×Value}{m:Str->Option Value},(∀v,(x,v)∉binds)->bindC kindOf binds m x=m x
 |[],_,_=>rfl|(n,v)::r,m,h=>by
  unfold bindC;rw[IS λw hw=>h w<|fg _ hw];split;·rfl
  ·have:x≠n:=by rintro rfl;exact h v gk
   simp [this]
theorem IG {kindOf:Str->Option w6}{x:Str}{v:Value}:∀{P:List Str}{vs:List Value}{i:Nat}{m:Str->Option Value},P.Nodup->P[i]? = some x->vs[i]? = some v->kindOf x=some .local -> bindL kindOf (P.zip vs) m x=some v|[],_,_,_,_,h,_,_=>by simp at h|_::_,[],_,_,_,_,h,_=>by simp at h|p::P,w::vs,0,m,nd,h1,h2,hk=>by simp at h1 h2;subst h1;subst h2;show bindL kindOf ((p,w)::P.zip vs) m p=_;unfold bindL;rw[IL λv hv=>(List.nodup_cons.mp nd).1 (yr hv).1,if_pos hk];simp|p::P,w::vs,i+1,m,nd,h1,h2,hk=>by show bindL kindOf ((p,w)::P.zip vs) m x=_;exact IG (i:=i) (List.nodup_cons.mp nd).2 (by simp_all) (by simp_all) hk
theorem HA {kindOf:Str->Option w6}{x:Str}{v:Value}:∀{P:List Str}{vs:List Value}{i:Nat}{m:Str->Option Value},P.Nodup->P[i]? = some x->vs[i]? = some v->kindOf x≠some .local -> bindC kindOf (P.zip vs) m x=some v|[],_,_,_,_,h,_,_=>by simp at h|_::_,[],_,_,_,_,h,_=>by simp at h|p::P,w::vs,0,m,nd,h1,h2,hk=>by simp at h1 h2;subst h1;subst h2;show bindC kindOf ((p,w)::P.zip vs) m p=_;unfold bindC;rw[IS λv hv=>(List.nodup_cons.mp nd).1 (yr hv).1,if_neg hk];simp|p::P,w::vs,i+1,m,nd,h1,h2,hk=>by show bindC kindOf ((p,w)::P.zip vs) m x=_;exact HA (i:=i) (List.nodup_cons.mp nd).2 (by simp_all) (by simp_all) hk
noncomputable def start (N:List Str)(vs:List V):St:=vs.map some++au (N.length-vs.length) none
noncomputable def dJ (CX:vC)(P:bp)(w:dh)(K:ae)(mg:Str->Option Value)(base:Heap)(N:List Str)(qual:Str)(scope:Scope)(f:Addr)(cd:Value)(A:c5)(outer:List Env)(s:aj)(H:Hp)(E:XK):Cx where prog:=P;w:=w;K:=K;mg:=mg;base:=base;A:=A.deeper<|jw qual scope s.heap.objs.size f cd;N:=N;s₀:=s;H₀:=H;env:=jw qual scope s.heap.objs.size f cd;outer:=outer;stack:=jw qual scope s.heap.objs.size f cd::outer;ex:=[];calm:=true;fn:=λ_=>true;pn:=[];xe:=λe s'=>wpAny (model P w) (A.deeper<|jw qual scope s.heap.objs.size f cd) (AaN (jw qual scope s.heap.objs.size f cd) e) (λ_ s''=>CX outer H s E e s'') (λe' s''=>CX outer H s E e' s'') s'
theorem MM {sc:Scope}{n:Nat}{x:Str}(h:sc.names.lookup x=some .cell):∃c,(Abk n sc.names []).lookup x=some c:=by have q:=xt _ n []<|.inl h;exact Option.isSome_iff_exists.mp q
theorem UD {w:dh}{K:ae}{mg:Str->Option Value}{base:Heap}{N ps:List Str}{qual:Str}{scope:Scope}{f:Addr}{cd:Value}{A:c5}{outer:List Env}{s s1:aj}{E:XK}(S:lI N ps scope)(hd:A.handled=none)(e0:CD P w K mg base A outer s H)(hl:vs.length=ps.length)(r:aS vs us)(x:InCallC s s.heap.objs.size (bindL (jw qual scope s.heap.objs.size f cd).kindOf (ps.zip us) λ_=>none) (Abk (s.heap.objs.size+1) scope.names []) (bindC (jw qual scope s.heap.objs.size f cd).kindOf (ps.zip us) λ_=>none) s1): Inv (dJ CX P w K mg base N qual scope f cd A outer s H E) [] (start N vs) H s1:=by
 have cW:ps.length<=N.length:=by have:=congrArg fw S.pre;rw[n4]at this;lia
 obtain⟨h1,tk,rfl,hk⟩:=x.done;have noA:∀b:Addr,b∉(dJ CX P w K mg base N qual scope f cd A outer s H E).ex:=λb z=>absurd (show b∈([]:List Addr)from z) (by simp);refine⟨⟨e0.mod,S.kind,rfl,rfl,av _,λy z c h1 h2=>?_,λy hy=>?_,λy c _ h=>?_,λ_=>hd,Around.frames_deeper e0.frames,.inr ⟨rfl,rfl⟩,λb z=>absurd z<|noA b,e0.bs,e0.bsz,λb _ _=>noA b,λb z=>absurd z<|noA b,e0.lA,e0.frf⟩,rfl,e0.bare,Un.kept hk,⟨_,x.toInCall.ns,λi y v h1 h2 h3=>?_⟩,λy c h=>⟨_,x.cell y c h⟩,e0.bL.fresh<|av _,λy c h=>?_,λp hp=>absurd (show p∈([]:List<|Addr×Obj)from hp)<|by simp,e0.bL.kept hk,?_⟩;·exact name_of_addr x.apart (ki h1)<|ki h2
 ·have hy:scope.names.lookup y=some .cell\/scope.names.lookup y=some .free:=hy;rcases hy with hy|hy;·exact MM hy
  ·exact absurd rfl<|S.nofree _<|ki hy
 ·exact xo<|x.above y c<|ki h
 ·have hi:i<vs.length:=by
   unfold start at h2;by_cases hi:i<vs.length;·exact hi
   ·rw[fe<|by simpa using hi]at h2;rw[iq]at h2;split at h2<;>cases h2
  have ha:vs[i]? = some v:=by unfold start at h2;rw[ff<|by simpa using hi,fi]at h2;cases e:vs[i]? with|none=>rw[e]at h2;cases h2|some a=>rw[e]at h2;cases h2;rfl
  obtain⟨u,hu,rv⟩:=r.get ha;have hp:ps[i]? = some y:=by rw[<-S.pre,List.getElem?_take_of_lt<|by lia];exact h1
  have ndP:ps.Nodup:=by rw[<-S.pre];exact S.nd.sublist<|List.take_sublist _ _
  refine⟨u,rv,?_⟩;rcases S.par y (dj hp)with k|k;·exact .inl ⟨k,IG ndP hp hu k⟩
  ·obtain⟨c,e⟩:=MM (n:=s.heap.objs.size+1) k;refine .inr ⟨.inl k,c,e,?_⟩;have q:=x.cell y c e;rw[HA ndP hp hu<|by show scope.names.lookup y≠_;rw[k];cbv]at q;exact q
 ·exact e0.bL.fresh<|xo<|x.above y c<|ki h
 ·unfold start;show _=N.length;rw[ah,af,t5];lia
theorem RI {w:dh}{K:ae}{mg:Str->Option Value}{base:Heap}{f:Addr}{name qual:Str}{params:Arguments}{body:List Stmt}{scope:Scope}{dV kV doc pm bV ct oc:Value}{an od:Option Addr}{osl:Array<|Option Value}{N ps:List Str}{sp:Sp}(lk:K.lookup f=some ⟨oc,od,.func<|km name qual params body scope dV kV doc pm an bV ct,osl⟩)(hcd:qh K bV qual=true)(S:lI N ps scope)(len:∀vs H Q E,sp vs H Q E->vs.length=ps.length)(hbody:∀(A:c5)(outer:List Env)(s:aj)(H:Hp)(vs:List V)(Q:VK)(E:XK),cK k (A.deeper<|jw qual scope s.heap.objs.size f bV)->sp vs H Q E -> ∃t,iY (dJ CX P w K mg base N qual scope f bV A outer s H E) body t/\t { nx:=λ_ H'=>Q .non H',rt:=Q } (start N vs) H): cD P w K mg base CX (k+1) f (km name qual params body scope dV kV doc pm an bV ct) ps sp:=by
 refine⟨len,λA outer s H args us vs Q E hr e0 hb r hsp=>?_⟩;have hl:=len _ _ _ _ hsp;have KX:=e0.mod.kin.keeps λb o e=>(e0.bs b o e).1;have lim:=e0.mod.nolimit.keeps λb o e=>(e0.bs b o e).1;have hkind:∀y∈ps.zip us,scope.names.lookup y.1=some .local\/scope.names.lookup y.1=some _/\((Abk (s.heap.objs.size+1) _ []).lookup y.1).isSome=true:=λ⟨n,v⟩ hy=>by
  rcases S.par n (yr hy).1 with q|q;·exact .inl q
  ·exact .inr ⟨q,xt _ _ _<|.inl q⟩
 refine codeAny_call_function hr.depth (KX _ _ lk) rfl S.co S.gen rfl (PySem.W.codeRec_of KX hcd)<|hb _ _ _ _ ?_;refine wpAny_newFunctionEnv_cells S.kind hkind λenv he s1 x=>?_;subst he;refine⟨lim.keeps x.toInCall.keep,codeAny_func ?_⟩;obtain⟨t,ht,hq⟩:=hbody A outer s H vs Q E (hr.deeper _) hsp;have I:Inv (dJ CX P w K mg base N qual scope f bV A outer s H E) [] _ H s1:=UD S hr.hd e0 hl r x;refine gh (ht [] s1 _ H _ I hq) (λfl s' hs=>?_) λe s' hs=>hs;have fin:∀{am:St}{H':Hp}{v:V}{u:Value},Inv (dJ CX P w K mg base N qual scope f bV A outer s H E) [] am H' s'->RelV v u->Q v H'->CE outer P w H s Q u s' :=λ{am H' v u} J rv q=>⟨v,H',J.os,J.bare,J.base,J.bL,rv,q⟩;cases fl with|ret u =>obtain⟨v,am,H',J,rv,q⟩:=hs;exact fin J rv q|next =>obtain⟨am,H',J,q⟩:=hs;exact fin (v:=V.non) J rfl q|brk =>obtain⟨_,_,_,q⟩:=hs;exact gj q|cont =>obtain⟨_,_,_,q⟩:=hs;exact gj q
end L2
namespace L2
open PySem PySem.Spec PyProof.Rows
section
variable {X:Cx}{x:Str}{p pos:Pos}{e:cy}{es:List cy}{t:TA}{id T:String}{r:List V->Hp->VK->Prop}
noncomputable def Ao (r:List V->Hp->VK->Prop)(t:TA):TE:=λσ H Q=>t σ H λvs H1=>r vs H1 Q
theorem CK (hc:pH X (.builtin id) r)(hg:Gl X x)(hm:X.mg x=none)(hv:dm x=some (.builtin id))(ha:PA X (e::es) t)(hn:x ≠"__name__":=by cbv)(hdb:(x==("__debug__" : Str))=false:=by cbv)(he:sE X e es:=by rfl)(cW:sN X pos es:=by rfl):PE X (.Call (.Name x p) (e::es) [] pos)<|Ao r t:=by intro pz s σ H Q I h;refine fz<|qF I hg hm hv ?_ hn hdb;exact PyProof.Rows.callWith_builtin1 (bA (ha pos pz s σ H _ I h) λus s1 ⟨vs,H1,I1,r1,q1⟩=>hc pz s1 σ H1 vs us Q I1 r1 q1) he cW
theorem U8 (hc:pH X (.type T) r)(hg:Gl X x)(hm:X.mg x=none)(hv:dm x=some (.type T))(ha:PA X (e::es) t)(hn:x ≠"__name__":=by cbv)(hdb:(x==("__debug__" : Str))=false:=by cbv)(he:sE X e es:=by rfl)(cW:sN X pos es:=by rfl):PE X (.Call (.Name x p) (e::es) [] pos)<|Ao r t:=by intro pz s σ H Q I h;refine fz<|qF I hg hm hv ?_ hn hdb;exact i5 (bA (ha pos pz s σ H _ I h) λus s1 ⟨vs,H1,I1,r1,q1⟩=>hc pz s1 σ H1 vs us Q I1 r1 q1) he cW
end
end L2
namespace HT
open PySem PyProof.Rows
variable {Q:Value->aj->Prop}{lo hi:Option Int}
section
variable {prog:bp}{w:dh}{A:c5}{E:Value->aj->Prop}{s:aj}
theorem Ci {t b:Addr}{vs ws:List Value}(ht:IsTup s.heap t vs.toArray)(hb:IsTup s.heap b ws.toArray)(hv:vs≠[])(h1:ws=[]->Q (.ref t) s)(h2:ws≠[]->Q (.ref s.heap.objs.size) { s with heap:=s.heap.push { cls:=.type "tuple", data:=.seq (vs++ws).toArray } })(oB:vs.length+ws.length<=sizeLine):wpAny (model prog w) A (jo .Add (.ref t)<|.ref b) Q E s:=by
 obtain⟨⟨cls,dd,data,sl⟩,ho,hc,n,hd⟩:=id ht;obtain⟨⟨cls2,dd2,data2,sl2⟩,ho2,hc2,n2,hd2⟩:=id hb;subst hc hd hc2 hd2;have e:vs.toArray++ws.toArray=(vs++ws).toArray:=by simp
 by_cases hw:ws=[];·exact Aab ⟨_,ho,rfl⟩ ⟨_,ho2,rfl⟩ w8 Zl sj rq (qx _ _) (tuple_addW1 t b _ _ n n2 dd dd2 sl sl2 (by simp_all)<|by simp [hw]) ⟨ho,ho2,h1 hw⟩
 ·refine Aab ⟨_,ho,rfl⟩ ⟨_,ho2,rfl⟩ w8 Zl sj rq (qx _ _) (tuple_addW2 t b _ _ n n2 dd dd2 sl sl2 (by simp_all) (by simp_all)<|by exact oB) ⟨ho,ho2,?_⟩;rw[e];exact h2 hw
noncomputable def cJ (n d:Nat):Option Int->Nat|none=>d|some v=>if v<0 then(v+(n:Int)).toNat else min v.toNat n
theorem VA (n d:Nat)(hd:d<=n)(o:Option Int):cJ n d o<=n:=by cases o with|none=>exact hd|some v =>
 show(if v<0 then(v+n).toNat else min _ n)<=n;by_cases hv:v<0;·rw[if_pos hv];lia
 ·rw[if_neg hv];exact Nat.min_le_right _ _
theorem nB (v:Int)(n d:Nat):(if v<0 then max (v+(n:Int)) 0 else min v (n:Int))=((cJ n d (some v):Nat):Int):=by
 show _=((if v<0 then _ else _:Nat):Int);split;·exact(Int.ofNat_toNat _).symm
 ·rw[Lean.Omega.Int.ofNat_min,nh<|Int.not_lt.mp ‹_›]
theorem Q0 (v:Int)(n d:Nat):max 0 (min (if v<0 then v+(n:Int)else v) (n:Int))=((cJ n d (some v):Nat):Int):=by
 rw[<-nB];split;·rw[Int.min_eq_left<|by lia,Int.max_comm]
 ·exact Aap<|Int.le_min.mpr ⟨Int.not_lt.mp ‹_›,Int.natCast_nonneg _⟩
theorem R5 (lo hi:Option Int)(n:Nat):vy lo hi 1 (n:Int)=(((cJ n 0 lo:Nat):Int),((cJ n n hi:Nat):Int)):=by
 refine Prod.ext ?_ ?_;·cases lo with|none=>rfl|some v=>exact nB v n 0
 ·cases hi with|none=>rfl|some v=>exact nB v n n
theorem R1 (i j:Nat):qr (i:Int) (j:Int) 1=j-i:=by unfold qr;split<;>lia
theorem FA {v:Value}{o:Option Int}{Q:Option Int->aj->Prop}(p:wq v o)(h:Q o s):wpAny (model prog w) A (Builtin.Slice.slicePartIndex v) Q E s:=by cases p with|none=>exact slicePart_none h|int i t=>exact slicePart_int h
theorem sA {sl:Addr}{vl vu:Value}{n:Nat}{Q:Int×Int×Nat->aj->Prop}(hs:s.heap.IsSliceOf sl vl vu .none)(pl:wq vl lo)(pu:wq vu hi)(h:Q (((cJ n 0 lo:Nat):Int),1,cJ n n hi-cJ n 0 lo) s):wpAny (model prog w) A (Builtin.Slice.sliceApplied (.ref sl)<|pure (n:Int)) Q E s:=by obtain⟨os,hos,hcs,hds⟩:=id hs;refine ai<|ai<|fj hos hds rfl<|ai<|fj hos hds rfl<|ai<|fj hos hds rfl<|a9 ?_;refine ai<|slicePart_none ?_;refine ai<|FA pl<|ai<|FA pu<|ai<|a9 ?_;show wpAny _ _ (match vy lo hi 1 n with|(lo,hi)=>pure (lo,(1:Int),qr lo hi 1)) _ _ s;rw[R5 lo hi n];show wpAny _ _ (pure _) _ _ s;rw[R1];exact a9 h
theorem YE (xs:Array Value)(i k:Nat):((b7 k).filterMap λ(m:Nat)=>xs[((i:Int)+(m:Int)*1).toNat]?).toArray=((xs.toList.drop i).take k).toArray:=by
 have e:(λ(m:Nat)=>xs[((i:Int)+m*1).toNat]?)=λm=>xs[i+m]?:=by
  funext m;have:((i:Int)+m*1).toNat=i+m:=by lia
  rw[this]
 rw[e];have:=pick_run xs i k;rw[List.filterMap_map]at this;have e2:((λx=>xs[x]?)∘λx=>i+x)=λm=>xs[i+m]?:=rfl;rw[e2]at this;rw[this]
theorem BM {t sl:Addr}{items:Array Value}{vl vu:Value}(ht:IsTup s.heap t items)(hs:s.heap.IsSliceOf sl vl vu .none)(pl:wq vl lo)(pu:wq vu hi)(hw:¬(cJ items.size 0 lo=0/\cJ items.size items.size hi=items.size))(h:Q (.ref s.heap.objs.size) { s with heap:=s.heap.push { cls:=.type "tuple", data:=.seq ((items.toList.drop<|cJ items.size 0 lo).take<|cJ items.size items.size hi-cJ items.size 0 lo).toArray } })(oB:items.size<=sizeLine):wpAny (model prog w) A (xw (.ref t)<|.ref sl) Q E s:=by
 have htake:=by show((items.toList.drop<|cJ items.size 0 lo).take<|cJ items.size items.size hi-cJ items.size 0 lo).toArray.size<=sizeLine;rw[dw,n4,bz,qs];omega
 obtain⟨os,hos,hcs,hds⟩:=id hs;have hTs:s.TypeIs (.ref sl) "slice":=⟨os,hos,hcs⟩;unfold xw;try with_reducible refine kr ?_
 refine ai<|wg ht.typeIs (by decide) ?_;refine ai<|ke (name:=om "__getitem__") ht.typeIs jk<|jx jk ht.typeIs Zd ?_<|Zr _ _;show wpAny _ _ (qi (.ref t) >>= _) _ _ s;refine ai<|tupleItemsOf_ ht ?_;refine ai<|xx hTs ?_;refine ai<|sA hs pl pu ?_;have hno:¬(((cJ items.size 0 lo:Int)==0&&(1:Int)==1&&(cJ items.size items.size hi-cJ items.size 0 lo)==items.size)=true):=by intro q;rw[ao,ao]at q;have q1:(cJ items.size 0 lo:Int)=0:=eq_of_beq q.1.1;have q2:=eq_of_beq q.2;exact hw ⟨by omega,by omega⟩
 show wpAny _ _ (if((cJ items.size 0 lo:Int)==0&&(1)==1&&(cJ items.size items.size hi-cJ items.size 0 lo)==items.size)=true then _ else _) _ _ s;rw[if_neg hno,YE];first|exact ai (m:=qy _)<|mi (a9 ⟨_,rfl,a9 h⟩) htake|omega|simp_all|simp_all
end
end HT
namespace L2
open PySem PySem.Spec PyProof.Rows
abbrev TO:=St->Hp->(Option Int->Hp->Prop)->Prop
def PO (X:Cx)(e:Option cy)(t:TO):Prop :=∀(pz:List<|Addr×Obj)(s:aj)(σ:St)(H:Hp)(Q:Option Int->Hp->Prop),Inv X pz σ H s->t σ H Q ->wpAny (model X.prog X.w) X.A (evalPart e X.env) (λu s'=>∃o H',Inv X pz σ H' s'/\wq u o/\Q o H') X.xe s
noncomputable def Fk:TO:=λ_ H Q=>Q none H
noncomputable def Pe (t:TE):TO:=λσ H Q=>t σ H λx H1=>∃i,x=.int i/\Q (some i) H1
section
variable {X:Cx}{e:cy}{te:TE}{lo hi:Option cy}{tl th:TO}{pos p2:Pos}
theorem Fh:PO X none Fk:=by intro pz s σ H Q I h;rw[evalPart_none];exact a9 ⟨none,H,I,.none,h⟩
theorem Dc (h:PE X e te):PO X (some e)<|Pe te:=by intro pz s σ H Q I hw;refine bA (h pz s σ H _ I hw) λu s1 ⟨x,H1,I1,r1,q1⟩=>?_;obtain⟨i,rfl,q⟩:=q1;obtain⟨t,rfl⟩:=r1;exact⟨_,H1,I1,.int i t,q⟩
def vU (X:Cx)(r:V->Option Int->Option Int->Hp->VK->Prop):Prop :=∀(pz:List<|Addr×Obj)(s:aj)(σ:St)(H:Hp)(x:V)(v vl vu:Value)(lo hi:Option Int)(sl:Addr)(Q:VK),Inv X pz σ H s->RelV x v->s.heap.IsSliceOf sl vl vu .none->wq vl lo->wq vu hi->r x lo hi H Q ->∃T id,vi (.type T) "__getitem__" = pure (some<|.builtin id)/\s.TypeIs v T/\wpAny (model X.prog X.w) X.A (xw v<|.ref sl) (EP X pz σ Q) X.xe s
theorem vU.or {r r':V->Option Int->Option Int->Hp->VK->Prop}(h:vU X r)(h':vU X r'):vU X λx lo hi H Q=>r x lo hi H Q\/r' x lo hi H Q:=by
 intro pz s σ H x v vl vu lo hi sl Q I rx hs pl pu q;rcases q with q|q;·exact h pz s σ H x v vl vu lo hi sl Q I rx hs pl pu q
 ·exact h' pz s σ H x v vl vu lo hi sl Q I rx hs pl pu q
noncomputable def Xs (r:V->Option Int->Option Int->Hp->VK->Prop)(te:TE)(tl th:TO):TE:=λσ H Q=>te σ H λx H1=>tl σ H1 λl H2=>th σ H2 λu H3=>r x l u H3 Q
theorem Z7 {r:V->Option Int->Option Int->Hp->VK->Prop}(hr:vU X r)(he:PE X e te)(hl:PO X lo tl)(hu:PO X hi th):PE X (.Subscript e (.Slice lo hi none p2) pos)<|Xs r te tl th:=by intro pz s σ H Q I h;refine Subscript_<|bA (he pz s σ H _ I h) λv s1 ⟨x,H1,I1,r1,q1⟩=>?_;refine wpAny_Slice<|bA (hl pz s1 σ H1 _ I1 q1) λvl s2 ⟨l,H2,I2,pl,q2⟩=>bA (hu pz s2 σ H2 _ I2 q2) λvu s3 ⟨u,H3,I3,pu,q3⟩=>?_;refine a9 ?_;have I4:Inv X pz σ H3 { s3 with heap:=s3.heap.push { cls:=.type "slice", data:=.fields #[vl,vu,.none] } }:=I3.kept λb ob q=>aq _ q;obtain⟨T,id,hT,ht,hg⟩:=hr pz _ σ H3 x v vl vu l u _ Q I4 r1 (Heap.IsSliceOf.new ..) pl pu q3;exact tail_any ht hT hg rfl
noncomputable def RZ (xs:List V)(lo hi:Option Int):List V:=(xs.drop<|HT.cJ xs.length 0 lo).take<|HT.cJ xs.length xs.length hi-HT.cJ xs.length 0 lo
theorem BX (xs:List V)(lo hi:Option Int):(RZ xs lo hi).length<=xs.length:=by unfold RZ;rw[n4,bz];lia
def Nk (K:ae):V->Option Int->Option Int->Hp->VK->Prop:=λx lo hi H Q=>∃a xs,x=.ref a/\fT K H a xs /\ ¬(HT.cJ xs.length 0 lo=0/\HT.cJ xs.length xs.length hi=xs.length)/\∀p,H p=none->Q (.ref p) (upd H p<|.tup<|RZ xs lo hi)
theorem MX:vU X<|Nk X.K:=by
 intro pz s σ H x v vl vu lo hi sl Q I rx hs pl pu h;obtain⟨a,xs,rfl,hx,hw,q⟩:=h;cases rx;obtain⟨aD,r,ht,hz⟩:=I.tuple hx;have hlen:aD.toArray.size=xs.length:=by exact r.length.symm
 refine⟨_,_,PyProof.Rows.slot_tuple_getitem.lookup,ht.typeIs,?_⟩;refine HT.BM ht hs pl pu (by rw[hlen];exact hw) ?_ (by simp_all);rw[hlen];refine⟨.ref _,_,I.laid (λb ob q=>aq _ q) (av _) ?_,rfl,q _<|I.bL.fresh<|av _⟩;exact⟨Nat.le_trans (BX xs lo hi) hz,_,(r.drop _).take _,oS.new _ _⟩
noncomputable def Bz (K:ae):R2:=λx y H Q=>∃a b xs ys,x=.ref a/\y=.ref b/\fT K H a xs/\fT K H b ys/\xs≠[]/\xs.length+ys.length<=sizeLine /\ (ys=[]->Q (.ref a) H)/\(ys≠[]->∀p,H p=none->Q (.ref p) (upd H p<|.tup<|xs++ys))
theorem aS.BC {xs:List V}{us:List Value}(r:aS xs us):us=[]↔xs=[]:=by cases r with|nil=>simp|cons _ _=>simp
theorem Cr:hZ X (jo .Add)<|Bz X.K:=by intro pz s σ H x y v u Q I rx ry h;obtain⟨a,b,xs,ys,rfl,rfl,ha,hb,hx,hz,q1,q2⟩:=h;cases rx;cases ry;obtain⟨aD,r1,p1,_⟩:=I.tuple ha;obtain⟨uI,r2,p2,_⟩:=I.tuple hb;refine HT.Ci p1 p2 (λz=>hx<|r1.BC.mp z) (λz=>⟨.ref a,H,I,rfl,q1<|r2.BC.mp z⟩) (λz=>?_) (by rw[<-r1.length,<-r2.length];exact hz);refine⟨.ref _,_,I.laid (λb ob q=>aq _ q) (av _) ?_,rfl,q2 (λw=>z<|r2.BC.mpr w) _<|I.bL.fresh<|av _⟩;exact⟨by simp_all,_,r1.append r2,oS.new _ _⟩
end
end L2
namespace L2
open PySem PySem.Spec PyProof.Rows
noncomputable def oJ (n:Nat)(i:Int):Option Nat:=if 0<=i then(if i<n then some i.toNat else none)else if -(n:Int)<=i then some (i+n).toNat else none
noncomputable def fI {α:Type}(xs:List α)(i:Int):Option α:=(oJ xs.length i).bind λj=>xs[j]?
theorem PQ {n:Nat}{i:Int}{j:Nat}(h:oJ n i=some j):seqIndex? i n=some j/\j<n/\-(n:Int)<=i/\i<n:=by
 unfold oJ at h;by_cases h0:0<=i
 ·rw[if_pos h0]at h;by_cases h1:i<n;·rw[if_pos h1]at h;have e:=dv h;exact⟨by rw[zp h0 h1,e],by lia,by lia,h1⟩
  ·simp_all
 ·rw[if_neg h0]at h;by_cases h1 : -n<=i;·rw[if_pos h1]at h;have e:=dv h;exact⟨by rw[Aac (by lia) h1,e],by lia,h1,by lia⟩
  simp_all
variable {xs:List α}
theorem FX {α:Type}{xs:List α}{i:Int}{v:α}(h:fI xs i=some v):∃j,seqIndex? i xs.length=some j/\xs[j]? = some v/\j<xs.length/\-(xs.length:Int)<=i/\i<xs.length:=by unfold fI at h;cases e:oJ _ i with|none=>rw[e]at h;cases h|some j =>rw[e]at h;obtain⟨h1,h2,h3,h4⟩:=PQ e;exact⟨j,h1,h,h2,h3,h4⟩
theorem iO {α:Type}{xs:List α}{j:Nat}{v:α}(h:xs[j]? = some v):fI xs (j:Int)=some v:=by
 have hj:=(List.getElem?_eq_some_iff.mp h).1;have e:oJ xs.length j=some j:=by unfold oJ;rw[if_pos<|by lia,if_pos<|by lia];simp
 unfold fI;rw[e];exact h
def F0 (b:cy):Prop:=∀o i,subscripted b false o i=operate [o,i] (xw o i)
def yT (X:Cx)(r:R2):Prop :=∀(value slice:cy)(pz:List<|Addr×Obj)(s:aj)(σ:St)(H:Hp)(x y:V)(v u:Value)(Q:VK),Inv X pz σ H s->RelV x v->RelV y u->r x y H Q ->subscripted slice false v u=operate [v,u] (xw v u)->wpAny (model X.prog X.w) X.A (subscriptTail value slice v u) (EP X pz σ Q) X.xe s
def Be (X:Cx)(id:String)(r:V->List V->Hp->VK->Prop):Prop :=∀(pz:List<|Addr×Obj)(s:aj)(σ:St)(H:Hp)(x:V)(xs:List V)(v:Value)(us:List Value)(Q:VK),Inv X pz σ H s->RelV x v->aS xs us->r x xs H Q ->wpAny (model X.prog X.w) X.A (call (.builtin id)<|v::us) (EP X pz σ Q) X.xe s
variable {xs:List V}{pz:List<|Addr×Obj}{σ:St}{H:Hp}{T:String}
section
variable {X:Cx}{a b:cy}{ta tb:TE}{pos:Pos}
theorem yT.or {r r':R2}(h:yT X r)(h':yT X r'):yT X λx y H Q=>r x y H Q\/r' x y H Q:=by
 intro value slice pz s σ H x y v u Q I rx ry q hs;rcases q with q|q;·exact h value slice pz s σ H x y v u Q I rx ry q hs
 ·exact h' value slice pz s σ H x y v u Q I rx ry q hs
theorem Qe {r:R2}(hr:yT X r)(ha:PE X a ta)(hb:PE X b tb)(hs:F0 b):PE X (.Subscript a b pos)<|Pb r ta tb:=by intro pz s σ H Q I h;exact Subscript_<|Np ha hb I h λv u s2 x y H2 I2 rx ry q=>hr a b pz s2 σ H2 x y v u Q I2 rx ry q<|hs _ _
noncomputable def Lf (K:ae):R2:=λx y H Q=>∃p xs i v,x=.ref p/\y=.int i/\eU K H p xs/\fI xs i=some v/\Q v H
noncomputable def Kq (K:ae):R2:=λx y H Q=>∃p xs i v,x=.ref p/\y=.int i/\fT K H p xs/\fI xs i=some v/\Q v H
noncomputable def Lg:R2:=λx y H Q=>∃z i c,x=.str z/\y=.int i/\z.length<=sizeLine/\fI z.cps.toList i=some c/\Q (.str ⟨#[c]⟩) H
theorem Gx:yT X<|Lf X.K:=by
 intro value slice pz s σ H x y v u Q I rx ry h hs;obtain⟨p,xs,i,z,rfl,rfl,hq,he,q⟩:=h;cases rx;obtain⟨t,rfl⟩:=ry;obtain⟨aD,r,pl,hz⟩:=I.list hq;obtain⟨j,h1,h2,h3,h4,h5⟩:=FX he;obtain⟨w,ew,rw'⟩:=r.get h2;have hl:=r.length;have hn:=zR;have fin:EP X pz σ Q w s:=⟨z,H,I,rw',q⟩;by_cases h0:0<=i
 ·have hj:=by rw[zp h0 h5]at h1;exact dv h1
  exact item_listR pl.isList h0 (by lia) (by rw[hj];simpa using ew) fin hs
 ·have hj:(i+(aD.toArray.size)).toNat=j:=by rw[Aac (by lia) h4]at h1;rw[dw,<-hl];exact dv h1
  exact xy (x:=w) pl.isList.typeIs slot_list_getitem.lookup (wpAny_getItem_list_neg (Q:=λr s'=>r=w/\EP X pz σ Q r s') pl.isList (by lia) (by rw[dw]<;>lia) (by lia) (by rw[hj];simpa using ew) ⟨rfl,fin⟩) hs
theorem jI:yT X<|Kq X.K:=by intro value slice pz s σ H x y v u Q I rx ry h hs;obtain⟨p,xs,i,z,rfl,rfl,hq,he,q⟩:=h;cases rx;obtain⟨t,rfl⟩:=ry;obtain⟨aD,r,pl,hz⟩:=I.tuple hq;obtain⟨j,h1,h2,h3,h4,h5⟩:=FX he;obtain⟨w,ew,rw'⟩:=r.get h2;have hl:=r.length;have hn:=zR;have fin:EP X pz σ Q w s:=⟨z,H,I,rw',q⟩;exact xy pl.typeIs slot_tuple_getitem.lookup (getItem_tuple (j:=j) pl (by lia) (by lia) (by simp_all) (by simpa using ew) ⟨rfl,fin⟩) hs
theorem MZ:yT X Lg:=by
 intro value slice pz s σ H x y v u Q I rx ry h hs;obtain⟨z,i,c,rfl,rfl,hz,he,q⟩:=h;obtain⟨t,rfl⟩:=rx;obtain⟨t',rfl⟩:=ry;obtain⟨j,h1,h2,h3,h4,h5⟩:=FX he;have hl:z.cps.toList.length=z.length:=by simp [g8]
 rw[hl]at h1 h4 h5;have hn:=zR;exact tail_any (vj s z t) slot_str_getitem.lookup (getItem_str (c:=c) (by have e1:decide (i < -2 ^ 63)=false:=decide_eq_false (by lia);have e2:decide (i ≥ 2 ^ 63)=false:=decide_eq_false (by lia);rw[e1,e2,ek]) (by rw[h1];simpa using h2) ⟨.str ⟨#[c]⟩,H,I.tok _,⟨_,rfl⟩,q⟩) hs
noncomputable def Ur (K:ae):R2:=λx y H Q=>Lf K x y H Q\/Kq K x y H Q\/Lg x y H Q
theorem Lb:yT X<|Ur X.K:=Gx.or<|jI.or MZ
theorem SW (aD:List Value)(n j:Nat)(u:Value):oo (·.setIfInBounds j u) { cls:=.type "list", data:=.seq aD.toArray n } = { cls:=.type "list", data:=.seq (aD.set j u).toArray n }:=by simp [oo]
theorem Inv.lst {s:aj}{p:Addr}(I:Inv X pz σ H s)(h:H p=some (.lst xs)):∃(aD:List Value)(n:Nat),aS xs aD/\s.heap.get? p=some { cls:=.type "list", data:=.seq aD.toArray n }/\xs.length<=sizeLine:=by obtain⟨z,aD,n,r,e⟩:=I.bL p _ h;exact⟨aD,n,r,e,z⟩
theorem Inv.Jk {s:aj}{p:Addr}{ys:List V}{aD uH:List Value}{n n':Nat}{f:Obj->Obj}(I:Inv X pz σ H s)(h:H p=some (.lst xs))(ho:s.heap.get? p=some { cls:=.type "list", data:=.seq aD.toArray n })(hf:f { cls:=.type "list", data:=.seq aD.toArray n } = { cls:=.type "list", data:=.seq uH.toArray n' })(r:aS ys uH)(hz:ys.length<=sizeLine)(t:Nat): Inv X pz σ (upd H p<|.lst ys) { s with heap:=s.heap.update p f,toks:=t }:=by
 have e:(s.heap.update p f).get? p=some { cls:=.type "list", data:=.seq uH.toArray n' }:=by rw[dq f ho<|by rw[hf]<;>rfl,hf]
 refine I.write (by rw[h];trivial) (.inl rfl) (λb u hb q=>(bq _ _<|fq hb).trans q) ⟨_,e⟩ ?_;exact⟨hz,uH,n',r,e⟩
def Qn:V->V->V->Hp->(Hp->Prop)->Prop:=λo i v H Q=>∃p xs k j,o=.ref p/\i=.int k/\H p=some (.lst xs)/\oJ xs.length k=some j/\Q (upd H p<|.lst<|xs.set j v)
theorem set_list:Lq X Qn:=by
 intro pz s σ H o i v ov iv u Q I ro ri rv h;obtain⟨p,xs,k,j,rfl,rfl,hp,hj,q⟩:=h;cases ro;obtain⟨t,rfl⟩:=ri;obtain⟨aD,n,r,ho,hz⟩:=I.lst hp;obtain⟨h1,h2,h3,h4⟩:=PQ hj;have hl:=r.length;have hn:=zR;have I'  :=I.Jk hp ho (SW aD n j u) (r.set rv j) (by simp_all) s.toks;by_cases h0:0<=k
 ·have hk:=by rw[zp h0 h4]at h1;exact dv h1
  exact PySem.W.ki_setAt ho h0 (by lia) (by simp_all)<|by rw[hk];exact⟨_,I',q⟩
 ·have hk:(k+(aD.toArray.size)).toNat=j:=by rw[Aac (by lia) h3]at h1;rw[dw,<-hl];exact dv h1
  exact PySem.W.ki_setBack ho (by lia) (by simp_all) (by lia)<|by rw[hk];exact⟨_,I',q⟩
theorem N3 (lo hi:Option Int)(n:Nat):(AaD lo hi none n).1=((HT.cJ n 0 lo:Nat):Int)/\(AaD lo hi none n).2.1=((HT.cJ n n hi:Nat):Int)/\(AaD lo hi none n).2.2=1:=by
 refine⟨?_,?_,rfl⟩
 ·cases lo;·rfl
  ·exact HT.Q0 _ n 0
 ·cases hi;·rfl
  ·exact HT.Q0 _ n n
theorem J0 (aD:List Value)(lo hi:Option Int):slicePick aD.toArray lo hi none=((aD.drop<|HT.cJ aD.length 0 lo).take<|HT.cJ aD.length aD.length hi-HT.cJ aD.length 0 lo).toArray:=by obtain⟨h1,h2,h3⟩:=N3 lo hi _;unfold slicePick;rw[h1,h2,h3];simp![sliceRange_one,pick_run,dw]
def Io (K:ae):V->Option Int->Option Int->Hp->VK->Prop:=λx lo hi H Q=>∃a xs,x=.ref a/\eU K H a xs/\∀p,H p=none->Q (.ref p) (upd H p<|.lst<|RZ xs lo hi)
theorem Ds:vU X<|Io X.K:=by intro pz s σ H x v vl vu lo hi sl Q I rx hs pl pu h;obtain⟨a,xs,rfl,hx,q⟩:=h;cases rx;obtain⟨aD,r,ht,hz⟩:=I.list hx;have hlen:=r.length;refine⟨_,_,slot_list_getitem.lookup,ht.isList.typeIs,?_⟩;refine wpAny_getItem_list_slice ht.isList hs pl pu .none (by simp) ?_ (by simp_all);rw[J0,<-hlen];refine⟨.ref _,_,I.laid (λb ob q=>aq _ q) (av _) ?_,rfl,q _<|I.bL.fresh<|av _⟩;exact⟨Nat.le_trans (BX xs lo hi) hz,_,0,(r.drop _).take _,bo _ rfl⟩
theorem M5:hZ X (u6 .NotIn) λx y H Q=>∃i j,x=.str i/\y=.str j/\Q (.bl<|!(!(ik j i 0 j.length 1).isEmpty)) H:=by intro pz s σ H x y v u Q I rx ry h;obtain⟨i,j,rfl,rfl,q⟩:=h;obtain⟨t,rfl⟩:=rx;obtain⟨t',rfl⟩:=ry;exact notIn_str ⟨.bl _,H,I,rfl,q⟩
theorem NG:pH X (.type "list") λxs H Q=>∃p ys,xs=[.ref p]/\(eU X.K H p ys\/fT X.K H p ys)/\∀l,H l=none->Q (.ref l) (upd H l<|.lst ys):=by
 intro pz s σ H xs us Q I r h;obtain⟨p,ys,rfl,hq,q⟩:=h;obtain⟨u,rfl,rx⟩:=vals1 r;cases rx;have fin:∀(aD:List Value),aS ys aD->ys.length<=sizeLine->∀(h':Heap)(c':Nat),(∀b o',s.heap.get? b=some o'->h'.get? b=some o') -> h'.get? _=some _->EP X pz σ Q _ _:=λaD r' hz h' c' kp e =>⟨.ref _,_,I.laid (t':=s.toks) kp (av _)<|show gN _ _ _ h' _ (.lst ys)from⟨hz,aD,c',r',e⟩,rfl,q _<|I.bL.fresh<|av _⟩;rcases hq with hq|hq;·obtain⟨aD,r',pl,hz⟩:=I.list hq;have hlen:=r'.length;obtain⟨o,ho,hc,n,hd⟩:=pl.isList;exact call_list_seq p (.inl rfl) ho hc hd (λh' c' kp e=>fin aD r' hz h' c' kp e)<|by simp_all
 ·obtain⟨aD,r',pl,hz⟩:=I.tuple hq;have hlen:=r'.length;obtain⟨o,ho,hc,n,hd⟩:=pl;exact call_list_seq p (.inr rfl) ho hc hd (λh' c' kp e=>fin aD r' hz h' c' kp e)<|by simp_all
theorem xY:pH X (.type "tuple") λxs H Q=>∃p ys,xs=[.ref p]/\((eU X.K H p ys/\∀l,H l=none->Q (.ref l) (upd H l<|.tup ys))\/(fT X.K H p ys/\Q (.ref p) H)):=by
 intro pz s σ H xs us Q I r h;obtain⟨p,ys,rfl,h⟩:=h;obtain⟨u,rfl,rx⟩:=vals1 r;cases rx;rcases h with⟨hq,q⟩|⟨hq,q⟩;·obtain⟨aD,r',pl,hz⟩:=I.list hq;have hlen:=r'.length;refine call_tuple_list pl.isList (λh' kp=>?_) (by simp_all);have I1:=I.kept (t':=s.toks) kp;have I2:Inv X pz σ (upd H _<|.tup ys) { s with heap:=h'.push _ } :=I1.laid (λb o e=>aq _ e) (av _) ⟨hz,aD,r',oS.new _ _⟩;exact⟨.ref _,_,I2,rfl,q _<|I1.bL.fresh<|av _⟩
 ·obtain⟨aD,r',pl,hz⟩:=I.tuple hq;exact call_tuple_same pl ⟨.ref p,H,I,rfl,q⟩
def XI (K:ae)(T:String)(x:V)(H:Hp):Prop:=match x with|.str _=>T ="str"|.int _=>T ="int"|.ref p=>(T ="list" /\ ∃xs,eU K H p xs)\/(T ="tuple" /\ ∃o,K.lookup p=some o/\o.cls=.type "tuple" /\ o.dict=none) \/ (T ="dict" /\ ((∃iF,H p=some (.dK iF))\/∃iF,H p=some (.dT iF)))\/(T ="set" /\ ∃S n,H p=some (.set S n))|_=>False
theorem TR {s:aj}{x:V}{v:Value}(I:Inv X pz σ H s)(r:RelV x v)(ty:XI X.K T x H): s.TypeIs v T/\∀a,v=.ref a->∃ob,s.heap.get? a=some ob/\ob.dict=none:=by
 cases x with|str z =>obtain⟨t,rfl⟩:=r;cases ty;exact⟨typeIs_str s z t,λ_ e=>nomatch e⟩|int i =>obtain⟨t,rfl⟩:=r;cases ty;exact⟨typeIs_int s i t,λ_ e=>nomatch e⟩|ref p =>
  cases r;rcases ty with⟨rfl,xs,hq⟩|⟨rfl,o,hk,hc,hd⟩|⟨rfl,hk⟩|⟨rfl,S,n,hk⟩;·obtain⟨aD,_,pl,_⟩:=I.list hq;refine⟨pl.isList.typeIs,λa e=>?_⟩;cases e;obtain⟨o,n,e,c,hd,_⟩:=pl;exact⟨o,e,hd⟩
  ·refine⟨⟨o,I.gR p o hk,hc⟩,λa e=>?_⟩;cases e;exact⟨o,I.gR _ o hk,hd⟩
  ·have z:∃o,s.heap.get? p=some o/\o.ExactDict:=by
    rcases hk with⟨iF,hk⟩|⟨iF,hk⟩;·obtain⟨_,_,_,_,o,_,_,e,ex,_⟩:=I.bL p _ hk;exact⟨o,e,ex⟩
    ·obtain⟨_,_,_,_,o,_,_,e,ex,_⟩:=I.bL p _ hk;exact⟨o,e,ex⟩
   obtain⟨o,e,ex⟩:=z;refine⟨⟨o,e,ex.1⟩,λa e2=>?_⟩;cases e2;exact⟨o,e,ex.2.1⟩
  ·obtain⟨o,_,_,_,e,ex,_⟩:=I.bL p _ hk;refine⟨⟨o,e,ex.1⟩,λa e2=>?_⟩;cases e2;exact⟨o,e,ex.2.1⟩|_=>exact gj ty
noncomputable def Vb (K:ae)(T:String)(r:V->List V->Hp->VK->Prop)(to:TE):TE:=λσ H Q=>to σ H λx H1=>XI K T x H1/\r x [] H1 Q
noncomputable def Xp (K:ae)(T:String)(r:V->List V->Hp->VK->Prop)(to:TE)(t:TA):TE:=λσ H Q=>to σ H λx H1=>XI K T x H1/\t σ H1 λxs H2=>r x xs H2 Q
variable {o e:cy}{es:List cy}{to:TE}{t:TA}{name:Str}{apos fX:Pos}{id:String}{r:V->List V->Hp->VK->Prop}
theorem Lu (pa:PlainAttrs T)(slot:Slot T name id)(hty:Zs (.builtin id)=pure (.type "method_descriptor"))(hm:Be X id r)(ho:PE X o to)(dR:ei o name X.env (eval o X.env)=eval o X.env:=by rfl)(dS:(apos.endLine==fX.line)=true:=by rfl):PE X (.Call (.Attribute o name apos) [] [] fX)<|Vb X.K T r to:=by intro pz s σ H Q I h;refine wpAny_Call_method0_late dR dS<|bA (ho pz s σ H _ I h) λv s1 ⟨x,H1,I1,r1,ty,q1⟩=>?_;obtain⟨h1,h2⟩:=TR I1 r1 ty;exact⟨T,id,pa,slot,hty,h1,h2,oq rfl<|PySem.evalArgs_none<|hm pz s1 σ H1 x [] v [] Q I1 r1 .nil q1⟩
theorem Bg (pa:PlainAttrs T)(slot:Slot T name id)(hty:Zs (.builtin id)=pure (.type "method_descriptor"))(hm:Be X id r)(ho:PE X o to)(ha:PA X (e::es) t)(dR:ei o name X.env (eval o X.env)=eval o X.env:=by rfl)(iG:xX X fX (e::es)=true:=by rfl)(dS:(apos.endLine==fX.line)=true:=by rfl)(hs:sE X e es:=by rfl)(eI:sN X fX es:=by rfl):PE X (.Call (.Attribute o name apos) (e::es) [] fX)<|Xp X.K T r to t:=by intro pz s σ H Q I h;refine yd dR iG dS rfl<|bA (ho pz s σ H _ I h) λv s1 ⟨x,H1,I1,r1,ty,q1⟩=>?_;obtain⟨h1,h2⟩:=TR I1 r1 ty;refine⟨T,id,pa,slot,hty,h1,h2,?_⟩;have hA:=ha fX pz s1 σ H1 _ I1 q1;rw[hs]at hA ⊢;refine oq (by assumption)<|qj ?_;exact bA hA λus s2 ⟨vs,H2,I2,r2,q2⟩=>hm pz s2 σ H2 x vs v us Q I2 r1 r2 q2
end
end L2
namespace L2
open PySem PySem.Spec PyProof.Rows
def Hy (X:Cx)(id:String)(r:V->List V->Hp->VK->Prop):Prop :=∀(pz:List<|Addr×Obj)(s:aj)(σ:St)(H:Hp)(x:V)(xs:List V)(v:Value)(us:List Value)(Q:VK),Inv X pz σ H s->RelV x v->aS xs us->r x xs H Q ->wpAny (model X.prog X.w) X.A (call (.builtin id)<|v::us) (EP X pz σ Q) X.xe s
theorem aS.one:∀{x:V}{us:List Value},aS [x] us->∃u,us=[u]/\RelV x u |_,_,.cons r .nil=>⟨_,rfl,r⟩
theorem aS.zero:∀{us:List Value},aS [] us->us=[] |_,.nil=>rfl
variable {xs:List V}{us:List Value}
theorem aS.dropLast (h:aS xs us):aS xs.dropLast us.dropLast:=by induction h with|nil=>exact .nil|cons r t ih =>cases t with|nil=>exact .nil|cons q t'=>exact .cons r ih
theorem aS.reverse (h:aS xs us):aS xs.reverse us.reverse:=by induction h with|nil=>exact .nil|cons r t ih=>rw[mj,mj];exact aS.append ih<|.cons r .nil
theorem aS.rep {xs:List V}{us:List Value}(h:aS xs us):∀k:Nat,aS (au k xs).flatten (au k us).flatten|0=>.nil|k+1=>by exact aS.append h<|aS.rep h k
theorem Sa {α:Type}(l:List α):l.eraseIdx (l.length-1)=l.dropLast:=by induction l with|nil=>rfl|cons a r ih =>cases r with|nil=>rfl|cons b r =>
  have e:(a::b::r).length-1=(b::r).length-1+1:=by simp_all
  rw[e,List.eraseIdx_cons_succ,ih];all_goals rfl
theorem Zc (aD:List Value):∀(k:Nat)(acc:List Value),vk (λx1 x2=>x1++x2) acc.toArray (au k aD.toArray)=(acc++(au k aD).flatten).toArray
 |0,acc=>by simp|k+1,acc=>by
  have e:acc.toArray++aD.toArray=(acc++aD).toArray:=by simp
  have e2:acc++aD++(au k aD).flatten=acc++(au (k+1) aD).flatten:=by rw[qu,qa,jd]
  rw[<-e2,<-Zc aD k _,<-e,qu,rk]
variable {aD:List Value}
section
variable {X:Cx}{pz:List<|Addr×Obj}{σ:St}{H:Hp}{s:aj}{l b:Addr}{ys zs:List V}
theorem Inv.SK {uH:List Value}{n:Nat}{f:Array Value->Array Value}{t':Nat}(I:Inv X pz σ H s)(hH:H l=some (.lst xs))(e:s.heap.get? l=some { cls:=.type "list", data:=.seq aD.toArray n })(hf:f aD.toArray=uH.toArray)(hv:aS ys uH)(hz:ys.length<=sizeLine):Inv X pz σ (upd H l<|.lst ys) { s with heap:=s.heap.update l<|oo f,toks:=t' }:=by have q:=PySem.IsL.update e f;rw[hf]at q;refine I.write (by rw[hH];exact trivial) (.inl rfl) (λb' u hb hu=>(bq _ _<|fq hb).trans hu) ⟨_,q⟩ ?_;exact⟨hz,uH,_,hv,q⟩
theorem Inv.S2 {t':Nat}(I:Inv X pz σ H s)(hv:aS ys aD)(hz:ys.length<=sizeLine):Inv X pz σ (upd H s.heap.objs.size<|.lst ys) { s with heap:=s.heap.push { cls:=.type "list", data:=.seq aD.toArray },toks:=t' } :=I.laid (λ_ _ q=>aq _ q) (av _) ⟨hz,aD,0,hv,bo _ rfl⟩
theorem Inv.fresh (I:Inv X pz σ H s):H s.heap.objs.size=none:=I.bL.fresh<|av _
theorem Inv.tY (I:Inv X pz σ H s)(hH:H l=some (.lst xs)):xs.length<=sizeLine/\∃(aD:List Value)(n:Nat),aS xs aD/\xs.length=aD.length/\s.heap.get? l=some { cls:=.type "list", data:=.seq aD.toArray n }:=by obtain⟨z,aD,n,r,e⟩:=I.bL l _ hH;exact⟨z,aD,n,r,r.length,e⟩
theorem DA {n:Nat}(h:n<=sizeLine):gb n=false:=by exact decide_eq_false<|by lia
end
section
variable {X:Cx}
def Cf:V->List V->Hp->VK->Prop:=λx vs H Q=>∃l xs y,x=.ref l/\vs=[y]/\H l=some (.lst xs)/\xs.length<sizeLine/\Q .non (upd H l<|.lst<|xs++[y])
theorem tJ:Hy X "list.append" Cf:=by intro pz s σ H x vs v us Q I rx rv h;obtain⟨l,xs,y,rfl,rfl,hH,hz,q⟩:=h;cases rx;obtain⟨u,rfl,ru⟩:=rv.one;obtain⟨z,aD,n,r,hl,e⟩:=I.tY hH;refine mv F.slot_list_append ⟨_,e,rfl⟩ F.entry_list_append (F.args_list_append_2 _ _) (PySem.list_append l _ n u<|by simp_all) ⟨e,?_⟩;refine⟨.non,_,I.SK hH e (by simp) (r.append<|.cons ru .nil) ?_,rfl,q⟩;rw[ah,List.length_singleton];lia
def Er:V->List V->Hp->VK->Prop:=λx vs H Q=>∃l b xs zs,x=.ref l/\vs=[.ref b]/\H l=some (.lst xs)/\H b=some (.lst zs)/\xs.length+zs.length<=sizeLine/\Q .non (upd H l<|.lst<|xs++zs)
theorem yS:Hy X "list.extend" Er:=by
 intro pz s σ H x vs v us Q I rx rv h;obtain⟨l,b,xs,zs,rfl,rfl,hH,hB,hz,q⟩:=h;cases rx;obtain⟨u,rfl,ru⟩:=rv.one;cases ru;obtain⟨z,aD,n,r,hl,e⟩:=I.tY hH;obtain⟨z2,uI,n2,r2,hl2,e2⟩:=I.tY hB;have oB:aD.toArray.size+uI.toArray.size<=sizeLine:=by simp_all
 have hlong:¬(!aD.toArray.isEmpty&&gb (aD.toArray.size+uI.toArray.size))=true:=by rw[DA oB,dt];exact oh
 refine mv Zu ⟨_,e,rfl⟩ Ze (zq _ _) (AutoSeq1.list_extend_list_list_0 l _ n b _ n2 hlong (by lia)<|by lia) ⟨e,e2,?_⟩;refine⟨.non,_,I.SK hH e (by simp) (r.append r2) ?_,rfl,q⟩;rw[ah];lia
def Vm:V->List V->Hp->VK->Prop:=λx vs H Q=>∃l xs y,x=.ref l/\vs=[]/\H l=some (.lst xs)/\xs[xs.length-1]? = some y/\Q y (upd H l<|.lst xs.dropLast)
theorem NR:Hy X "list.pop" Vm:=by
 intro pz s σ H x vs v us Q I rx rv h;obtain⟨l,xs,y,rfl,rfl,hH,hy,q⟩:=h;cases rx;have hus:=rv.zero;subst hus;obtain⟨z,aD,n,r,hl,e⟩:=I.tY hH;obtain⟨u,hu,ru⟩:=r.get hy;have hy':=by show aD.toArray[aD.length-1]? = some u;rw[<-Array.getElem?_toList,<-hl];exact hu
 refine mv F.slot_list_pop ⟨_,e,rfl⟩ F.entry_list_pop (F.args_list_pop_1 _) (MeetsSeq.list_pop_last l _ n u hy'<|by simp_all) ⟨e,?_⟩;refine⟨y,_,I.SK hH e ?_ r.dropLast ?_,ru,q⟩;·simp_all
 ·rw[kc];lia
noncomputable def Mg:R2:=λx y H Q=>∃l b xs zs,x=.ref l/\y=.ref b/\H l=some (.lst xs)/\H b=some (.lst zs)/\xs.length+zs.length<=sizeLine/\∀p,H p=none->Q (.ref p) (upd H p<|.lst<|xs++zs)
theorem Lp:hZ X (jo .Add) Mg:=by
 intro pz s σ H x y v u Q I rx ry h;obtain⟨l,b,xs,zs,rfl,rfl,hH,hB,hz,q⟩:=h;cases rx;cases ry;obtain⟨z,aD,n,r,hl,e⟩:=I.tY hH;obtain⟨z2,uI,n2,r2,hl2,e2⟩:=I.tY hB;refine PySem.P.add_list e e2 ?_ (by simp_all);have ea:aD.toArray++uI.toArray=(aD++uI).toArray:=by simp
 rw[ea];exact⟨.ref _,_,I.S2 (r.append r2)<|by simp_all,rfl,q _ I.fresh⟩
noncomputable def Pa:R2:=λx y H Q=>∃l k xs,x=.ref l/\y=.int k/\H l=some (.lst xs)/\-2 ^ 63<=k/\k<2 ^ 63/\xs.length*k.toNat<=sizeLine /\ ∀p,H p=none->Q (.ref p) (upd H p<|.lst (au k.toNat xs).flatten)
theorem len_rep {α:Type}(xs:List α)(k:Nat):(au k xs).flatten.length=k*xs.length:=by induction k with|zero=>simp|succ k ih=>simp_all
theorem Kx:hZ X (jo .Mult) Pa:=by
 intro pz s σ H x y v u Q I rx ry h;obtain⟨l,k,xs,rfl,rfl,hH,h1,h2,hz,q⟩:=h;cases rx;obtain⟨t,rfl⟩:=ry;obtain⟨z,aD,n,r,hl,e⟩:=I.tY hH;have hlen:aD.toArray.size*k.toNat<=sizeLine:=by rw[dw,<-hl];exact hz
 have hcap:¬aD.toArray.size*k.toNat>(2 ^ 63-1) / 8:=by
  have:(sizeLine)<=(2 ^ 63-1) / 8:=by cbv
  lia
 have oC:¬(!Builtin.List.listFitsIndex k)=true:=by rw[fitsIndex_both h1 h2];exact oh
 have hlong:¬gb (aD.toArray.size*k.toNat)=true:=by rw[DA hlen];exact oh
 have hnew:vk (λx1 x2=>x1++x2) #[] (au (if aD.toArray.isEmpty=true then 0 else k.toNat) aD.toArray)=(au k.toNat aD).flatten.toArray:=by
  have f0:∀m , vk (λx1 x2=>x1++x2) #[] (au m aD.toArray)=(au m aD).flatten.toArray:=λm=>by have:=Zc aD m [];exact this
  rw[f0];cases aD with|nil=>simp|cons a r'=>rw[if_neg<|by simp]
 refine vz (T :="list") (U :="int") (by cbv) ⟨_,e,rfl⟩ (λs'=>Zv s' k t) noFill_list_mul F.fills_int_mul AaF repeat_list F.slot_int_index.lookup<|mv AaF (Zv s k t) F.entry_int_rmul (F.args_int_rmul_2 _ _) (int___rmul___int_list k t l aD.toArray n) ⟨e,rfl,⟨_,e,rfl⟩,mv F.slot_list_mul ⟨_,e,rfl⟩ F.entry_list_mul (F.args_list_mul_2 _ _) (AutoListH.list___mul___list_int_3 l aD.toArray n k t oC hcap hlong) ⟨e,?_⟩⟩;rw[hnew];exact⟨.ref _,_,I.S2 (t':=s.toks) (r.rep k.toNat)<|by rw[len_rep,Nat.mul_comm];exact hz,rfl,q _ I.fresh⟩
end
end L2
namespace Att
open PySem PySem.W PySem.Calls PyProof.Rows
variable {P:Params}
theorem D3 {h:Heap}:∀(ns:List Int)(vs:List Value),WellAll P h vs (ns.map WData.int)->ye vs ns:=by intro ns;induction ns with|nil =>intro vs w;cases w;exact .nil|cons n ns ih =>intro vs w;cases w with|cons a b =>cases a;exact .cons _ _<|ih _ b
variable {l:OpenLaw}
theorem U7 {n:Nat}(hn:l.most=some n){h:Heap}{args:List WData}{vals:List Value}(hpre:l.row.toRowW.claim.pre args=true)(hwl:WellAll P h vals args): ∃a vs ns,vals=[jq a]/\args=[WData.list<|ns.map WData.int]/\h.get? a=some { cls:=.type "list", data:=.seq vs.toArray }/\ye vs ns/\ns.length<=n:=by
 have hsh:=(pre_splitW hpre).1;have hc:=(pre_splitW hpre).2;obtain⟨d,r,rfl,h1,h2⟩:=hasAllW_cons hsh;obtain rfl:=hasAllW_nil h2;obtain⟨xs,rfl,h3⟩:=hasW_list h1;obtain⟨ns,rfl⟩:=items_int h3;have hlen:ns.length<=n:=by
  have h4:=by have h4:=(holds_andW hc).1;rw[hn]at h4;exact h4
  have h5:=condW_of h4<|w_not<|w_lt w_lit<|w_len_list<|w_arg rfl;first |simp_all
 cases hwl with|cons w1 w2 =>cases w2;cases w1 with|list ho G9=>exact⟨_,_,ns,rfl,rfl,ho,D3 ns _ G9,hlen⟩
theorem W8 (l:OpenLaw)(args:List WData):l.row.toRowW.claim.post args (.bool true) args=true :=postW_of (by first|rfl) (w_eq_bool (w_res rfl) w_lit) rfl
theorem OV {n:Nat}{q:bp}{loose:List Str}{XP:(Str->Option Value)->Heap->Prop}{YP:dh->Heap->Prop}{d:DefRec}(hn:l.most=some n)(hdf:d.params.defaults=[])(call:∀(w:dh)(s₀ bn:aj)(mg mb:Str->Option Value)(fa:Addr)(o:Obj)(pm cd doc:Value)(a:Addr)(vs:List Value)(ns:List Int),Ground q loose [] XP w s₀ mg mb bn.heap->YP w bn.heap ->bn.heap.get? fa=some o->o.data=.func (docDef d.name d.params d.body d.scope pm cd doc)->bn.heap.CodeRec cd d.name->mg d.name=some (.ref fa) ->bn.heap.get? a=some { cls:=.type "list", data:=.seq vs.toArray }->ye vs ns->ns.length<=n->bn.gens = #[] ->qm (model l.prog w) yf (.call (.ref fa) ⟨[.ref a],[]⟩) (λr s'=>r=.ok (.ret<|.bool true)/\OldK bn.heap s'.heap/\s'.os=bn.os/\uz s'.gens) bn):WalkO q loose XP YP l.row.toRowW d [] λf vs=>AaV f vs:=by intro w s₀ bn mg mb G Y fa o pm cd doc dV kV ho hd hcd hD hmg hg args vals as hpre hlay hrd hwl hlo;obtain rfl:dV=.none:=Dflts.none hD hdf;obtain rfl:kV=.none:=Dflts.noKw hD;obtain⟨a,vs,ns,rfl,rfl,hobj,hints,hlen⟩:=U7 hn hpre hwl;refine enter_call<|mh (call w s₀ bn mg mb fa o pm cd doc a vs ns G Y ho (fd_plain hd) hcd hmg hobj hints hlen hg) λr s' hq=>?_;obtain⟨rfl,h2,h3,h4⟩:=hq;exact⟨.inl ⟨_,_,[],rfl,λ_=>rfl,.bool true,W8 l _,λ_=>⟨List.Pairwise.nil,λ_ hm=>nomatch hm⟩⟩,h2,h3,h4⟩
end Att
namespace L2
open PySem PySem.Spec PyProof.Rows
theorem IP:∀{vs:List Value}{ns:List Int},ye vs ns->aS (ns.map V.int) vs|_,_,.nil=>.nil|_,_,.cons n t h=>.cons ⟨t,rfl⟩<|IP h
def TF (H:Hp):Prop:=∀b,H b=none\/∃o xs,H b=some (.frz o<|.lst xs)
theorem Y3 {P:bp}{w:dh}{K:ae}{mg mb:Str->Option Value}{CX:vC}{k:Nat}{fa a:Addr}{fd:fh}{x:Str}{sp:Sp}{bn:aj}{vs:List Value}{ns:List Int}(KX:K.In bn.heap)(hns:bn.heap.Ns cq mg)(hb:bn.heap.Ns AaP mb)(hbb:∀x:Str,x ≠"__name__" -> mb x=dm x)(hlim:bn.heap.NoLimit)(hg:bn.gens = #[])(ha:bn.heap.get? a=some { cls:=.type "list", data:=.seq vs.toArray })(hi:ye vs ns)(hl:ns.length<=sizeLine)(hr:cK k yf)(F:∀base:Heap,K.In base->base.Ns cq mg->cD P w K mg base CX k fa fd [x] sp)(hbind:∀(s:aj)(u:Value),Zb s fd ⟨[u],[]⟩ [(x,u)])(hsp:∀H:Hp,TF H->eU K H a (ns.map V.int)->sp [.ref a] H (λv _=>v=.bl true) λ_ _ _=>False)(hCX:∀H e s',CX [] H bn (λ_ _ _=>False) e s'->False):qm (model P w) yf (.call (.ref fa) ⟨[.ref a],[]⟩) (λr s'=>r=.ok (.ret<|.bool true)/\OldK bn.heap s'.heap/\s'.os=bn.os/\uz s'.gens) bn:=by
 have rv:=IP hi;have lenV:=hi.length;have core:∀H:Hp,TF H->eU K H a (ns.map V.int)->fH P w H bn.heap->(∀b,H b≠none->b=a)->(H a≠none->K.lookup a=none) -> qm (model P w) yf (.call (.ref fa) ⟨[.ref a],[]⟩) (λr s'=>r=.ok (.ret<|.bool true)/\OldK bn.heap s'.heap/\s'.os=bn.os/\uz s'.gens) bn:=by
  intro H hO hS bL hA hK;have base_of:∀{b:Addr}{o:Obj},bn.heap.get? b=some o->H b=none->(wY bn.heap H).get? b=some o:=λe n=>ZV e n;have noA:∀{b:Addr}{o:Obj}{es:Array DictEntry}{ep:Nat},bn.heap.get? b=some o->o.data=.dict es ep->H b=none:=λ{b o es ep} e d=>by cases q:H b with|none=>rfl|some u =>have e':b=a:=hA b (by rw[q];simp);subst e';rw[ha]at e;cases e;have d':Data.seq vs.toArray _=Data.dict es ep:=d;cases d'
  have nsK:∀{b:Addr}{m:Str->Option Value},bn.heap.Ns b m->(wY bn.heap H).Ns b m:=λ{b m} ⟨o,es,ep,e,d,r⟩=>⟨o,es,ep,base_of e<|noA e d,d,r⟩;have hKb:K.In<|wY bn.heap H:=λb o e=>base_of (KX b o e) (by cases q:H b with|none=>rfl|some u =>have e':b=a:=hA b (by rw[q];simp);subst e';rw[hK<|by rw[q];simp]at e;cases e);have hM:Mod K mg<|wY bn.heap H:=⟨hKb,nsK hns,⟨mb,nsK hb,hbb⟩,let⟨mc,h1,h2⟩:=hlim;⟨mc,nsK h1,h2⟩⟩;have e0:CD P w K mg (wY bn.heap H) yf [] bn H:=⟨rfl,hM,λb o e=>Dt e,Abt<|VC _ _,trivial,λb hb=>absurd (show b∈([])from hb)<|by simp,bL,.of_eq hg⟩;refine mh ((F _ hKb<|nsK hns).run yf [] bn H ⟨[.ref a],[]⟩ [.ref a] [.ref a] _ _ hr e0 (hbind bn<|.ref a) (.cons rfl .nil)<|hsp H hO hS) λr s' h=>?_;cases r with|error e=>exact(hCX H e s' h).elim|ok fl =>cases fl with|next=>exact gj h|brk=>exact gj h|cont=>exact gj h|ret u =>obtain⟨v,H',os,bare,un,hok',r',q⟩:=h;have q':=q;subst q';obtain rfl:u=Zp true:=r';refine⟨rfl,OldK.of_keep λb o e=>?_,os,bare⟩;cases q:H b with|none=>exact un.keep b o e q (by intro z;exact absurd (show b∈([])from z)<|by simp)<|by simp|some u =>
     rcases hO b with z|⟨ob,xs,z⟩;·rw[q]at z;cases z
     ·have z2:=un.jG b ob _ z;obtain⟨e1,_⟩:=bL b _ z;obtain⟨e2,_⟩:=hok' b _ z2;rw[e]at e1;cases e1;exact e2
 cases hk:K.lookup a with|some o =>have e:=KX a o hk;rw[ha]at e;cases e;refine core (λ_=>none) (λ_=>.inl rfl) (.inr ⟨_,vs.toArray,_,hk,rfl,rfl,rfl,by rw[dw,lenV];exact hl,by simpa using rv⟩) (λb u z=>by have z':(none)=some u:=z;cases z') (λb z=>absurd rfl z) λz=>absurd rfl z|none =>
  refine core (λb=>if b=a then some (.frz { cls:=.type "list", data:=.seq vs.toArray }<|.lst<|ns.map V.int)else none) (λb=>?_) (.inl<|.inr ⟨{ cls:=.type "list", data:=.seq vs.toArray },if_pos rfl⟩) (λb u z=>?_) (λb z=>?_) λ_=>hk
  ·by_cases hb:b=a;·exact .inr ⟨_,_,if_pos hb⟩
   ·exact .inl<|if_neg hb
  ·by_cases hb:b=a;·have z':=(if_pos hb).symm.trans z;cases z';subst hb;exact⟨ha,by rw[af];exact hl,vs,_,rv,ha⟩
   ·have z':=(if_neg hb).symm.trans z;cases z'
  ·by_cases hb:b=a;·exact hb
   ·exact absurd (if_neg hb) z
end L2
namespace L2
open PySem PySem.Spec PyProof.Rows
theorem Cy {l:AaG}{n k:Nat}{q:bp}{loose:List Str}{XP:(Str->Option Value)->Heap->Prop}{YP:dh->Heap->Prop}{d:DefRec}{K:Params->ae}{CX:dh->vC}{sp:dh->Sp}{x:Str}(hn:l.most=some n)(hn2:n<=sizeLine)(hdf:d.params.defaults=[])(hr:cK k yf)(hY:∀(w:dh)(h:Heap),YP w h->(K w.params).In h)(F:∀(w:dh)(mg:Str->Option Value)(fa:Addr)(h:Heap),(K w.params).In h->h.Ns cq mg->mg d.name=some (.ref fa) ->∃fd:fh,(∀(s:aj)(u:Value),Zb s fd ⟨[u],[]⟩ [(x,u)]) /\∀base:Heap,(K w.params).In base->base.Ns cq mg->cD l.prog w (K w.params) mg base (CX w) k fa fd [x] (sp w))(hsp:∀(w:dh)(H:Hp)(a:Addr)(ns:List Int),ns.length<=n->TF H->eU (K w.params) H a (ns.map V.int)->sp w [.ref a] H (λv _=>v=.bl true) λ_ _ _=>False)(hCX:∀(w:dh)(H:Hp)(s:aj)(e:Value)(s':aj),CX w [] H s (λ_ _ _=>False) e s'->False):Aa9 q loose XP YP l.row.toRowW d [] λf vs=>AaV f vs:=by refine Att.OV hn hdf λw s₀ bn mg mb fa o pm cd doc a vs ns G Y ho hd hcd hmg hobj hints hlen hg=>?_;have KX:=hY w _ Y;obtain⟨fd,hb,hF⟩:=F w mg fa _ KX G.T.g hmg;exact Y3 KX G.T.g G.T.b G.T.builtins G.T.nolimit hg hobj hints (az hlen hn2) hr hF hb (λH hO hS=>hsp w H a ns hlen hO hS) λH e s'=>hCX w H bn e s'
end L2
namespace L2
open PySem PySem.Spec PyProof.Rows
noncomputable def nE (s:Stmt):Arguments:=match s with|.FunctionDef _ a _ _ _ _ _ _ _ _=>a|_=>{ posonlyargs:=[],args:=[],vararg:=none,kwonlyargs:=[],kw_defaults:=[],kwarg:=none,defaults:=[] }
noncomputable def gQ (s:Stmt):List Stmt:=match s with|.FunctionDef _ _ b _ _ _ _ _ _ _=>b|_=>[]
noncomputable def aP (s:Stmt):Scope:=match s with|.FunctionDef _ _ _ _ _ _ sc _ _ _=>sc|_=>{ kind:=.function,names:=[],isGenerator:=false,isCoroutine:=false }
noncomputable abbrev gG:vC:=λ_ _ _ _ _ _=>False
noncomputable abbrev E0:XK:=λ_ _ _=>False
theorem KZ {X:Cx}:gA gG X E0:=λ_ _ _ _ _ _ _ h=>h.elim
structure zK (K:ae)(x qual:Str)(st:Stmt)(f:Addr)(fd:fh):Prop where
 ex:∃(oc:Value)(od:Option Addr)(kV doc pm:Value)(an:Option Addr)(bV ct:Value)(osl:Array<|Option Value),fd=km x qual (nE st) (gQ st) (aP st) .none kV doc pm an bV ct/\K.lookup f=some ⟨oc,od,.func fd,osl⟩/\qh K bV qual=true
 kp:e9 K (.ref f)=true
variable {qual:Str}
section
variable {P:bp}{w:dh}{K:ae}{mg:Str->Option Value}{base:Heap}
theorem zK.ok {x:Str}{st:Stmt}{f:Addr}{fd:fh}{N ps:List Str}{k:Nat}{sp:Sp}(F:zK K x qual st f fd)(S:lI N ps<|aP st)(len:∀vs H Q E,sp vs H Q E->vs.length=ps.length)(hbody:∀(bV:Value)(A:c5)(outer:List Env)(s:aj)(H:Hp)(vs:List V)(Q:VK)(E:XK),cK k (A.deeper<|jw qual (aP st) s.heap.objs.size f bV)->sp vs H Q E -> ∃t,iY (dJ gG P w K mg base N qual (aP st) f bV A outer s H E).oK (gQ st) t/\t { nx:=λ_ H'=>Q .non H',rt:=Q } (start N vs) H):cD P w K mg base gG (k+1) f fd ps sp:=by obtain⟨oc,od,kV,doc,pm,an,bV,ct,osl,rfl,lk,hcd⟩:=F.ex;refine RI lk hcd S len λA outer s H vs Q E hr hsp=>?_;obtain⟨t,h,q⟩:=hbody bV A outer s H vs Q E hr hsp;exact⟨t,h.oK,q⟩
theorem zK.binds {x:Str}{st:Stmt}{f:Addr}{fd:fh}{ps:List Str}(F:zK K x qual st f fd)(h:∀(kV doc pm:Value)(an:Option Addr)(bV ct:Value)(us:List Value),us.length=ps.length->bindArgs (km x qual (nE st) (gQ st) (aP st) .none kV doc pm an bV ct) ⟨us,[]⟩=pure (ps.zip us)):Binds K fd ps []:=by obtain⟨oc,od,kV,doc,pm,an,bV,ct,osl,rfl,lk,hcd⟩:=F.ex;exact .all<|h kV doc pm an bV ct
theorem N4 {x:Str}{st:Stmt}{f:Addr}{oc:Value}{od an:Option Addr}{osl:Array<|Option Value}{kV doc pm bV ct:Value}(l:K.lookup f=some ⟨oc,od,.func<|km x qual (nE st) (gQ st) (aP st) .none kV doc pm an bV ct,osl⟩)(c:qh K bV qual=true)(k:e9 K (.ref f)=true):zK K x qual st f<|km x qual (nE st) (gQ st) (aP st) .none kV doc pm an bV ct:=⟨⟨oc,od,kV,doc,pm,an,bV,ct,osl,rfl,l,c⟩,k⟩
end
theorem UI {n:Nat}(h:n<=1000):n<sizeLine:=ot h<|by cbv
section
variable {X:Cx}
theorem pv (i:Nat){x:Str}{pos:Pos}(hN:X.N[i]? = some x:=by rfl)(hv:Bs X.env.scope x:=by first|exact Or.inl rfl|exact Or.inr<|Or.inl rfl|exact Or.inr<|Or.inr rfl)(hd:(x==("__debug__" : Str))=false:=by decide) (hcd:(x==("__classdict__" : Str))=false:=by decide):PE X (.Name x pos)<|RT i:=Ol hN hv hd hcd
end
end L2
end
section
namespace L3
set_option genInjectivity true in
inductive D where |non|bl (b:Bool)|int (i:Int)|str (x:List Nat)|tup (ds:List D)|ref (a:Nat)|cF (ks vs:List D)|bR (ds:List D)|exc (c:Nat)
inductive MO where|lst (ds:List D)|dic (ks vs:List D)/-- an instance of the class of this name: aD attributes -/|ins (c:List Nat)(fs:List<|List Nat×D)/-- a dict that is filled: aD keys are tuples of texts and of such tuples -/|tab (ks vs:List D)
noncomputable abbrev aB:=Nat->Option MO
noncomputable def put (st:aB)(a:Nat)(o:MO):aB:=λb=>if b=a then some o else st b
inductive vA where |add|sub|mul|fdiv|mod|pow
inductive pT where |eq|ne|lt|le|gt|ge|is_|isnot|in_|fP
inductive Ty where |int|str|bool|list|tuple|dict|err (c:Nat)
inductive BI where |len|all|any|max|min|sum|abs|list|tuple|int|str|bool|AU|sorted
inductive MT where |append|extend|pop|index|count|join|split|get|insert|remove|startswith|endswith|partition
inductive IK where |range|zip|enum|rev|items|keys|values
inductive Ex where|c (d:D)|v (i:Nat)|tup (es:List Ex)|lst (es:List Ex)|bin (op:vA)(a b:Ex)|neg (a:Ex)|cmp (op:pT)(a b:Ex)|chain (op op':pT)(a b c:Ex)|and_ (a b:Ex)|or_ (a b:Ex)|not_ (a:Ex)|ite (c a b:Ex)|call (f:Nat)(es:List Ex)|callx (f:Nat)(es:List Ex)|mclx (c m:List Nat)(f:Nat)(o:Ex)(es:List Ex)|bi (f:BI)(es:List Ex)|isi (a:Ex)(ts:List Ty)|bP (m:MT)(o:Ex)(es:List Ex)|ix (a b:Ex)|sl (a:Ex)(lo hi:List Ex)/-- f(g(..)), g what is walked on the spot -/|bit (f:BI)(k:IK)(es:List Ex)|comp (n:Nat)(bH:List Nat)(tg:List Nat)(one:Bool)(k:Option IK)(aD:List Ex)(ifs:List Ex)(elt:Ex)|dic (ks vs:List Ex)/-- o.f of an instance of the class c; C(..), f aD __init__; o.m(..), f the def -/|fld (c f:List Nat)(o:Ex)|mk (c:List Nat)(f:Nat)(es:List Ex)|mcl (c m:List Nat)(f:Nat)(o:Ex)(es:List Ex)/-- {}; k in d; d[k] -/|dnew|d1 (k v:Ex)|din (neg:Bool)(k d:Ex)|dix (d k:Ex)
set_option genCtorIdx false in
inductive Tg where |nm (i:Nat)|tp (is:List Nat)|ix (o i:Ex)|fl (c f:List Nat)(o:Ex)|dk (o i:Ex)
set_option genCtorIdx false in
inductive Sx where|ex (e:Ex)|asg (t:Tg)(e:Ex)|aug (i:Nat)(op:vA)(e:Ex)|iff (c:Ex)(a b:List Sx)|whl (c:Ex)(b:List Sx)|sV (t:Tg)(k:Option IK)(aD:List Ex)(b:List Sx)|ret (e:Ex)|brk|cnt|pass|rais (c:Nat)(es:List Ex)|tryy (b:List Sx)(c:Nat)(n:Option Nat)(h:List Sx)
structure Fn where
 np:Nat
 nl:Nat
 body:List Sx
structure Prog where fns:Nat->Option Fn/-- class c is class c' or stands under it -/sub:Nat->Nat->Bool
noncomputable abbrev St:=List<|Option D
abbrev VK:=D->aB->Prop
abbrev XK:=Nat->aB->Prop
abbrev aU:=Nat->List D->aB->VK->XK->Prop
noncomputable abbrev aL:Nat:=16777216
noncomputable abbrev qO:Nat:=80
def W (x:String):List Nat:=x.toList.map Char.toNat
def Ext (st aA:aB):Prop:=∀a o,st a=some o->aA a=some o
def fV (σ:St)(i:Nat)(Q:D->Prop):Prop:=match σ[i]? with|some<|some d=>Q d|_=>False
mutual
noncomputable def fJ:D->D->Bool|.non,.non=>true|.bl a,.bl b=>a==b|.bl a,.int b=>(if a then 1 else 0)==b|.int a,.bl b=>a==if b then 1 else 0|.int a,.int b=>a==b|.str a,.str b=>a==b|.tup as,.tup bs=>mG as bs|_,_=>false
noncomputable def mG:List D->List D->Bool|[],[]=>true|a::as,b::bs=>fJ a b&&mG as bs|_,_=>false
end
mutual
noncomputable def cL:D->Bool|.non=>true|.bl _=>true|.int _=>true|.str _=>true|.tup ds=>bK ds|_=>false
noncomputable def bK:List D->Bool|[]=>true|d::ds=>cL d&&bK ds
end
mutual
noncomputable def dN:D->Nat|.tup ds=>cN ds+1|_=>0
noncomputable def cN:List D->Nat|[]=>0|d::ds=>max (dN d) (cN ds)end
def plain (d:D):Prop:=cL d=true/\dN d<=qO
def sT (ds:List D):Prop:=bK ds=true/\cN ds<=qO
noncomputable def Bn:Option MO->Bool|some<|.lst ds=>bK ds&&decide (cN ds<=qO)|_=>false
mutual
noncomputable def fY (st:aB):D->Bool|.non=>true|.bl _=>true|.int _=>true|.str _=>true|.tup ds=>iX st ds|.ref a=>Bn<|st a|.bR ds=>bK ds&&decide (cN ds<=qO)|_=>false
noncomputable def iX (st:aB):List D->Bool|[]=>true|d::ds=>fY st d&&iX st ds
end
noncomputable def LN:Option MO->Option MO->Bool|some<|.lst xs,some<|.lst ys=>mG xs ys|_,_=>false
mutual
noncomputable def bZ (st:aB):D->D->Bool|.non,.non=>true|.bl a,.bl b=>a==b|.bl a,.int b=>(if a then 1 else 0)==b|.int a,.bl b=>a==if b then 1 else 0|.int a,.int b=>a==b|.str a,.str b=>a==b|.tup as,.tup bs=>mH st as bs|.ref a,.ref b=>LN (st a)<|st b|.bR xs,.ref b=>LN (some<|.lst xs)<|st b|.ref a,.bR ys=>LN (st a)<|some<|.lst ys|.bR xs,.bR ys=>mG xs ys|_,_=>false
noncomputable def mH (st:aB):List D->List D->Bool|[],[]=>true|a::as,b::bs=>bZ st a b&&mH st as bs|_,_=>false
end
def plainS (st:aB)(d:D):Prop:=fY st d=true/\dN d<=qO
def fD (st:aB)(ds:List D):Prop:=iX st ds=true/\cN ds<=qO
def Ap (x y:D)(st:aB)(P:Bool->Prop):Prop:=plainS st x/\plainS st y/\P (bZ st x y)
noncomputable def occurs (x:List Nat):List Nat->Bool|[]=>x.isEmpty|c::r=>x.isPrefixOf (c::r)||occurs x r
def cC (st:aB)(a:Nat)(K:List D->Prop):Prop:=match st a with|some<|.lst ds=>K ds|_=>False
def dM {α:Type}(o:Option α)(K:α->Prop):Prop:=match o with|some x=>K x|none=>False
def eD (st:aB)(a:Nat)(K:List D->Prop)(M:List D->List D->Prop):Prop:=match st a with|some<|.lst ds=>K ds|some<|.dic ks vs=>M ks vs|_=>False
def ID:D->D->aB->(Bool->Prop)->Prop|x,.tup ds,st,P=>plainS st x/\fD st ds/\P (ds.any λd=>bZ st d x)|x,.ref a,st,P=>eD st a (λds=>plainS st x/\fD st ds/\P (ds.any λd=>bZ st d x)) λks _=>plain x/\sT ks/\P (ks.any λd=>fJ d x)|.str w,.cF ks _,_,P=>P<|ks.any λd=>fJ d<|.str w|x,.bR ds,st,P=>plainS st x/\fD st ds/\P (ds.any λd=>bZ st d x)|.str w,.str z,_,P=>P<|occurs w z|_,_,_,_=>False
def wF (f:Int->Int->Bool):D->D->(Bool->Prop)->Prop|.int i,.int j,P=>P<|f i j|_,_,_=>False
noncomputable def jW:D->Bool|.non=>true|_=>false
noncomputable def ZI (b:Bool):D->Bool|.bl c=>c==b|_=>false
def E9:D->D->(Bool->Prop)->Prop|x,.non,P=>P<|jW x|x,.bl b,P=>P<|ZI b x|_,_,_=>False
def dI:pT->D->D->aB->(Bool->Prop)->Prop|.eq,x,y,st,P=>Ap x y st P|.ne,x,y,st,P=>Ap x y st λb=>P<|!b|.lt,x,y,_,P=>wF (λi j=>decide<|i<j) x y P|.le,x,y,_,P=>wF (λi j=>decide<|i<=j) x y P|.gt,x,y,_,P=>wF (λi j=>decide<|j<i) x y P|.ge,x,y,_,P=>wF (λi j=>decide<|j<=i) x y P|.is_,x,y,_,P=>E9 x y P|.isnot,x,y,_,P=>E9 x y λb=>P<|!b|.in_,x,y,st,P=>ID x y st P|.fP,x,y,st,P=>ID x y st λb=>P<|!b
def FC (i:Int):Prop:=-18446744073709551616<i/\i<18446744073709551616
def fW (ds:List D)(st:aB)(Q:VK):Prop:=ds.length<=aL/\∀p,st p=none->Q (.ref p) (put st p<|.lst ds)
def jD:vA->D->D->aB->VK->Prop|.add,.int i,.int j,st,Q=>Q (.int<|i+j) st|.add,.str a,.str b,st,Q=>a.length+b.length<=aL/\Q (.str<|a++b) st|.add,.tup a,.tup b,st,Q=>a.length+b.length<=aL/\Q (.tup<|a++b) st|.add,.ref a,.ref b,st,Q=>cC st a λxs=>cC st b λys=>fW (xs++ys) st Q|.sub,.int i,.int j,st,Q=>Q (.int<|i-j) st|.mul,.int i,.int j,st,Q=>(FC i\/FC j)/\Q (.int<|i*j) st|.mul,.ref a,.int k,st,Q=>cC st a λxs=>xs.length*k.toNat<=aL/\(-9223372036854775808<=k/\k<9223372036854775808)/\fW (au k.toNat xs).flatten st Q|.mul,.tup xs,.int k,st,Q=>(0<xs.length/\xs.length<=1000/\1<=k/\k<1000)/\Q (.tup (au k.toNat xs).flatten) st|.mul,.str xs,.int k,st,Q=>(xs.length<=1000/\0<=k/\k<1000)/\Q (.str (au k.toNat xs).flatten) st|.fdiv,.int i,.int j,st,Q=>(0<j/\j<1073741824)/\Q (.int<|i / j) st|.mod,.int i,.int j,st,Q=>0<j/\Q (.int<|i % j) st|.pow,.int i,.int j,st,Q=>(0<=j/\j<=1000000/\i.natAbs<18446744073709551616)/\Q (.int<|i ^ j.toNat) st|_,_,_,_,_=>False
def CZ:D->aB->VK->Prop|.int i,st,Q=>Q (.int<|-i) st|_,_,_=>False
noncomputable def jA:List (List Nat×D)->List Nat->Option D|[],_=>none|(g,d)::r,f=>if g=f then some d else jA r f
noncomputable def iK (f:List Nat)(d:D):List (List Nat×D)->List (List Nat×D)|[]=>[(f,d)]|(g,x)::r=>if g=f then(g,d)::r else(g,x)::iK f d r
def nZ (st:aB)(a:Nat)(K:List Nat->List (List Nat×D)->Prop):Prop:=match st a with|some<|.ins c fs=>K c fs|_=>False
def tabAt (st:aB)(a:Nat)(K:List D->List D->Prop):Prop:=match st a with|some<|.tab ks vs=>K ks vs|_=>False
def wC (c f:List Nat):D->aB->VK->Prop|.ref a,st,Q=>nZ st a λc' fs=>c'=c/\dM (jA fs f) λd=>Q d st|_,_,_=>False
def DY (c f:List Nat)(v:D):D->aB->(aB->Prop)->Prop|.ref a,st,Q=>nZ st a λc' fs=>c'=c/\fs.length<900/\Q (put st a<|.ins c<|iK f v fs)|_,_,_=>False
mutual
noncomputable def Wn:D->Bool|.str _=>true|.bl _=>true|.tup ds=>RC ds|_=>false
noncomputable def RC:List D->Bool|[]=>true|d::ds=>Wn d&&RC ds
end
def keyed:D->Prop|.tup ds=>RC ds=true/\cN ds<=7|_=>False
noncomputable def Ab:List D->List D->D->Option D|k::ks,v::vs,x=>if fJ k x then some v else Ab ks vs x|_,_,_=>none
def MF (x:D):D->aB->(Bool->Prop)->Prop|.ref a,st,P=>tabAt st a λks _=>keyed x/\P (ks.any λk=>fJ k x)|_,_,_=>False
def M4 (x:D):D->aB->VK->Prop|.ref a,st,Q=>tabAt st a λks vs=>keyed x/\dM (Ab ks vs x) λd=>Q d st|_,_,_=>False
def P4 (x v:D):D->aB->(aB->Prop)->Prop|.ref a,st,Q=>tabAt st a λks vs=>keyed x/\(ks.any λk=>fJ k x)=false/\ks.length<10000/\Q (put st a<|.tab (ks++[x])<|vs++[v])|_,_,_=>False
def zG (c m:List Nat):D->aB->Prop|.ref a,st=>nZ st a λc' fs=>c'=c/\jA fs m=none|_,_=>False
def eH:D->aB->(Bool->Prop)->Prop|.non,_,P=>P false|.bl b,_,P=>P b|.int i,_,P=>P<|i != 0|.str x,_,P=>x.length<=aL/\P (!x.isEmpty)|.tup ds,_,P=>P<|!ds.isEmpty|.ref a,st,P=>eD st a (λds=>P<|!ds.isEmpty) λks _=>P<|!ks.isEmpty|.bR ds,_,P=>P<|!ds.isEmpty|_,_,_=>False
def cV (sub:Nat->Nat->Bool):D->aB->Ty->(Bool->Prop)->Prop
 |.non,_,_,P=>P false|.bl _,_,t,P=>P (match t with|.bool=>true|.int=>true|_=>false)|.int _,_,t,P=>P (match t with|.int=>true|_=>false)|.str _,_,t,P=>P (match t with|.str=>true|_=>false)|.tup _,_,t,P=>P (match t with|.tuple=>true|_=>false)|.ref a,st,t,P=>eD st a (λ_=>P<|match t with|.list=>true|_=>false) λ_ _=>P (match t with|.dict=>true|_=>false)|.bR _,_,t,P=>P (match t with|.list=>true|_=>false)|.exc c,_,t,P=>match t with|.err c'=>P<|sub c c'|_=>False
 |.cF _ _,_,_,_=>False
def wN (sub:Nat->Nat->Bool)(d:D)(st:aB):List Ty->(Bool->Prop)->Prop|[],_=>False|[t],P=>cV sub d st t P|t::u::ts,P=>cV sub d st t λb=>if b=true then P true else wN sub d st (u::ts) P
noncomputable def oJ (n:Nat)(i:Int):Option Nat:=if 0<=i then(if i<n then some i.toNat else none)else if -(n:Int)<=i then some (i+n).toNat else none
noncomputable def fI {α:Type}(xs:List α)(i:Int):Option α:=(oJ xs.length i).bind λj=>xs[j]?
noncomputable def eO:List D->List D->D->Option D|k::ks,v::vs,x=>if fJ k x then some v else eO ks vs x|_,_,_=>none
def xS:D->D->aB->VK->Prop|.tup ds,.int i,st,Q=>dM (fI ds i) λd=>Q d st|.bR ds,.int i,st,Q=>dM (fI ds i) λd=>Q d st|.str z,.int i,st,Q=>z.length<=aL/\dM (fI z i) λc=>Q (.str [c]) st|.cF ks vs,.str w,st,Q=>dM (eO ks vs<|.str w) λd=>Q d st|.ref a,y,st,Q=>eD st a (λds=>match y with|.int i=>dM (fI ds i) λd=>Q d st|_=>False) λks vs=>plain y/\sT ks/\dM (eO ks vs y) λd=>Q d st|_,_,_,_=>False
noncomputable def cJ (n d:Nat):Option Int->Nat|none=>d|some v=>if v<0 then(v+(n:Int)).toNat else min v.toNat n
noncomputable def cut {α:Type}(xs:List α)(lo hi:Option Int):List α:=(xs.drop<|cJ xs.length 0 lo).take<|cJ xs.length xs.length hi-cJ xs.length 0 lo
def pJ:List D->(Option Int->Prop)->Prop|[],P=>P none|[.int i],P=>P<|some i|_,_=>False
def BV:D->Option Int->Option Int->aB->VK->Prop|.tup ds,lo,hi,st,Q=>Q (.tup<|cut ds lo hi) st|.str z,lo,hi,st,Q=>z.length<=aL/\Q (.str<|cut z lo hi) st|.ref a,lo,hi,st,Q=>cC st a λds=>∀p,st p=none->Q (.ref p) (put st p<|.lst<|cut ds lo hi)|_,_,_,_,_=>False
def dG:D->aB->(List Nat->List D->Prop)->Prop|.tup ds,_,K=>K [] ds|.ref a,st,K=>cC st a λds=>K [a] ds|.bR ds,_,K=>K [] ds|_,_,_=>False
def nK:D->aB->(List Nat->List D->Prop)->Prop|.tup ds,_,K=>K [] ds|.str x,_,K=>x.length<=aL/\K [] (x.map λc=>.str [c])|.ref a,st,K=>cC st a λds=>K [a] ds|.bR ds,_,K=>K [] ds|_,_,_=>False
noncomputable def zip2:List D->List D->List D|x::xs,y::ys=>.tup [x,y]::zip2 xs ys|_,_=>[]
noncomputable def Ay:Nat->List D->List D|_,[]=>[]|i,x::xs=>.tup [.int i,x]::Ay (i+1) xs
noncomputable def iR (lo:Int)(n:Nat):List D:=(b7 n).map λk=>.int<|lo+(k:Nat)
noncomputable def Dh (hi:Int)(n:Nat):List D:=(b7 n).map λk=>.int<|hi-(k:Nat)
def jL (i:Int):Prop:=-4611686018427387904<=i/\i<4611686018427387904
def jZ:Option IK->List D->aB->(List Nat->List D->Prop)->Prop|none,[x],st,P=>nK x st P|some .range,[.int j],_,P=>jL j/\P [] (iR 0 j.toNat)|some .range,[.int i,.int j],_,P=>jL i/\jL j/\P [] (iR i (j-i).toNat)|some .range,[.int i,.int j,.int c],_,P=>c = -1/\jL i/\jL j/\P [] (Dh i (i-j).toNat)|some .zip,[.ref a,.ref b],st,P=>cC st a λxs=>cC st b λys=>P [a,b]<|zip2 xs ys|some .enum,[.ref a],st,P=>cC st a λxs=>P [a]<|Ay 0 xs|some .rev,[x],st,P=>dG x st λas xs=>P as xs.reverse|_,_,_,_=>False
noncomputable def boolsOf:List D->Option (List Bool)|[]=>some []|.bl b::r=>(boolsOf r).map (b :: ·)|_=>none
noncomputable def intsOf:List D->Option (List Int)|[]=>some []|.int i::r=>(intsOf r).map (i :: ·)|_=>none
def rQ:D->aB->(Nat->Prop)->Prop|.tup ds,_,P=>P ds.length|.str x,_,P=>x.length<=aL/\P x.length|.ref a,st,P=>eD st a (λds=>P ds.length) λks _=>P ks.length|.bR ds,_,P=>P ds.length|_,_,_=>False
noncomputable def zP:Int->List Int->Int|m,[]=>m|m,i::r=>zP (if i>m then i else m) r
noncomputable def Mi:Int->List Int->Int|m,[]=>m|m,i::r=>Mi (if i<m then i else m) r
def eS:BI->List D->aB->VK->Prop
 |.all,xs,st,Q=>dM (boolsOf xs) λbs=>Q (.bl<|bs.all id) st|.any,xs,st,Q=>dM (boolsOf xs) λbs=>Q (.bl<|bs.any id) st|.max,xs,st,Q=>dM (intsOf xs) λis=>match is with|i::r=>Q (.int<|zP i r) st|[]=>False
 |.min,xs,st,Q=>dM (intsOf xs) λis=>match is with|i::r=>Q (.int<|Mi i r) st|[]=>False
 |.sum,xs,st,Q=>dM (intsOf xs) λis=>Q (.int is.sum) st|.list,xs,st,Q=>fW xs st Q|.tuple,xs,st,Q=>xs.length<=aL/\Q (.tup xs) st|_,_,_,_=>False
noncomputable def strsOf:List D->Option (List<|List Nat)|[]=>some []|.str w::r=>(strsOf r).map (w :: ·)|_=>none
noncomputable def nM:List (List Nat)->List (List Nat)->Nat|_,[]=>0|seen,w::r=>(if seen.any (·== w)then 0 else 1)+nM (seen++[w]) r
noncomputable def dg (n:Nat):List Nat:=if n<10 then[48+n]else dg (n / 10)++[48+n % 10]termination_by n
decreasing_by lia
noncomputable def val (w:List Nat):Nat:=w.foldl (λa c=>10*a+(c-48)) 0
noncomputable def iP (c:Nat):Bool:=decide (48<=c)&&decide (c<=57)
def iI:BI->List D->aB->VK->Prop|.len,[d],st,Q=>rQ d st λn=>Q (.int (n:Nat)) st|.AU,[.tup ds],st,Q=>dM (strsOf ds) λws=>ws.length<4000/\Q (.int (nM [] ws:Nat)) st|.max,[.int i,.int j],st,Q=>Q (.int<|if j>i then j else i) st|.min,[.int i,.int j],st,Q=>Q (.int<|if j<i then j else i) st|.abs,[.int i],st,Q=>Q (.int<|if i<0 then -i else i) st|.str,[.int i],st,Q=>(0<=i/\i<1000000)/\Q (.str<|dg i.toNat) st|.int,[.str w],st,Q=>(1<=w.length/\w.length<=6/\w.all iP=true)/\Q (.int (val w:Nat)) st|.int,[.int i],st,Q=>Q (.int i) st|.int,[.bl b],st,Q=>Q (.int<|if b then 1 else 0) st|.bool,[.int i],st,Q=>Q (.bl<|i != 0) st|.bool,[.bl b],st,Q=>Q (.bl b) st|f,[d],st,Q=>dG d st λ_ xs=>eS f xs st Q|_,_,_,_=>False
def tZ:D->aB->(List D->Prop)->Prop|.tup ds,_,K=>K ds|.ref a,st,K=>cC st a K|_,_,_=>False
noncomputable def findD (st:aB)(d:D):List D->Option Nat|[]=>none|e::r=>if bZ st e d=true then some 0 else(findD st d r).map (·+ 1)
noncomputable def aN (c:Nat):List Nat->List (List Nat)|[]=>[[]]|x::s=>if x=c then[]::aN c s else match aN c s with|w::r=>(x::w)::r|[]=>[[x]]
noncomputable def part (c:Nat)(s:List Nat):List Nat×List Nat:=(s.takeWhile (·!= c),(s.dropWhile (·!= c)).drop 1)
noncomputable def aX (s:List Nat):List (List Nat)->List Nat|[]=>[]|[w]=>w|w::v::r=>w++s++aX s (v::r)
def eT:MT->D->List D->aB->VK->Prop|.append,.ref a,[d],st,Q=>cC st a λxs=>xs.length<aL/\Q .non (put st a<|.lst<|xs++[d])|.extend,.ref a,[d],st,Q=>cC st a λxs=>tZ d st λys=>xs.length+ys.length<=aL/\Q .non (put st a<|.lst<|xs++ys)|.pop,.ref a,[],st,Q=>cC st a λxs=>dM (xs[xs.length-1]?) λd=>Q d<|put st a<|.lst xs.dropLast|.join,.str s,[d],st,Q=>tZ d st λds=>dM (strsOf ds) λws=>(ws.map fw).sum+ws.length*s.length<=aL/\Q (.str<|aX s ws) st|.startswith,.str z,[.str w],st,Q=>z.length<=aL/\Q (.bl<|w.isPrefixOf z) st|.startswith,.str z,[.str w,.int i],st,Q=>(z.length<=aL/\0<=i/\i<=z.length)/\Q (.bl<|w.isPrefixOf<|z.drop i.toNat) st|.endswith,.str z,[.str w],st,Q=>z.length<=aL/\Q (.bl<|w.isSuffixOf z) st|.split,.str z,[.str [c]],st,Q=>z.length<aL/\fW ((aN c z).map .str) st Q|.partition,.str z,[.str [c]],st,Q=>z.length<=aL/\Q (.tup [.str (part c z).1,.str (if z.any (·== c)=true then[c]else[]),.str (part c z).2]) st|.get,.cF ks vs,[.str w],st,Q=>Q ((eO ks vs<|.str w).getD .non) st|.index,x,[d],st,Q=>dG x st λ_ ds=>plainS st d/\fD st ds/\dM (findD st d ds) λi=>Q (.int (i:Nat)) st|_,_,_,_,_=>False
def oV:MT->D->aB->Prop|.append,.ref a,st=>cC st a λ_=>True|.extend,.ref a,st=>cC st a λ_=>True|.pop,.ref a,st=>cC st a λ_=>True|.index,x,st=>dG x st λ_ _=>True|.join,.str _,_=>True|.startswith,.str _,_=>True|.endswith,.str _,_=>True|.split,.str _,_=>True|.partition,.str _,_=>True|.get,.cF _ _,_=>True|_,_,_=>False
def lO:Bool->List Nat->D->St->(St->Prop)->Prop|true,[i],x,σ,P=>P<|σ.set i<|some x|false,is,.tup ds,σ,P=>ds.length=is.length/\P ((is.zip ds).foldl (λσ p=>σ.set p.1<|some p.2) σ)|_,_,_,_,_=>False
def iH (g:aB->Prop)(turn:D->aB->(Option D->aB->Prop)->Prop):List D->List D->aB->(List D->aB->Prop)->Prop|[],acc,st,R=>g st/\R acc st|x::xs,acc,st,R=>g st/\acc.length<aL/\turn x st λo aA=>iH g turn xs (match o with|none=>acc|some d=>acc++[d]) aA R
def same (as:List Nat)(st aA:aB):Prop:=∀a∈as,aA a=st a
mutual
def aI (C:aU)(sub:Nat->Nat->Bool)(E:XK):Ex->St->aB->VK->Prop|.c d,_,st,Q=>Q d st|.v i,σ,st,Q=>fV σ i λd=>Q d st|.tup es,σ,st,Q=>bB C sub E es σ st λds aA=>Q (.tup ds) aA|.lst es,σ,st,Q=>bB C sub E es σ st λds aA=>fW ds aA Q|.bin op a b,σ,st,Q=>aI C sub E a σ st λx aC=>aI C sub E b σ aC λy aJ=>jD op x y aJ Q|.neg a,σ,st,Q=>aI C sub E a σ st λx aC=>CZ x aC Q|.cmp op a b,σ,st,Q=>aI C sub E a σ st λx aC=>aI C sub E b σ aC λy aJ=>dI op x y aJ λk=>Q (.bl k) aJ|.chain op op' a b c,σ,st,Q=>aI C sub E a σ st λx aC=>aI C sub E b σ aC λy aJ=>dI op x y aJ λk =>if k=true then aI C sub E c σ aJ λz aZ=>dI op' y z aZ λk=>Q (.bl k) aZ else Q (.bl false) aJ|.and_ a b,σ,st,Q=>aI C sub E a σ st λx aC=>eH x aC λk=>if k=true then aI C sub E b σ aC Q else Q x aC|.or_ a b,σ,st,Q=>aI C sub E a σ st λx aC=>eH x aC λk=>if k=true then Q x aC else aI C sub E b σ aC Q|.not_ a,σ,st,Q=>aI C sub E a σ st λx aC=>eH x aC λk=>Q (.bl<|!k) aC|.ite c a b,σ,st,Q=>aI C sub E c σ st λx aC=>eH x aC λk=>if k=true then aI C sub E a σ aC Q else aI C sub E b σ aC Q|.call f es,σ,st,Q=>bB C sub E es σ st λds aA=>C f ds aA Q λ_ _=>False|.callx f es,σ,st,Q=>bB C sub E es σ st λds aA=>C f ds aA Q E|.bi f es,σ,st,Q=>bB C sub E es σ st λds aA=>iI f ds aA Q|.isi a ts,σ,st,Q=>aI C sub E a σ st λx aC=>wN sub x aC ts λk=>Q (.bl k) aC|.bP m o es,σ,st,Q=>aI C sub E o σ st λx aC=>oV m x aC/\bB C sub E es σ aC λds aJ=>eT m x ds aJ Q|.ix a b,σ,st,Q=>aI C sub E a σ st λx aC=>aI C sub E b σ aC λy aJ=>xS x y aJ Q|.sl a lo hi,σ,st,Q=>aI C sub E a σ st λx aC=>bB C sub E lo σ aC λls aJ=>pJ ls λl=>bB C sub E hi σ aJ λhs aZ=>pJ hs λh=>BV x l h aZ Q|.bit f k es,σ,st,Q=>bB C sub E es σ st λds aC=>jZ (some k) ds aC λ_ xs=>eS f xs aC Q|.comp n bH tg one k aD ifs elt,σ,st,Q=>bB C sub E aD σ st λds aC=>jZ k ds aC λas xs =>iH (same as aC) (λx aJ K=>lO one tg x (au n none++bH.map λi=>σ[i]?.getD none) λam =>iM C sub E ifs am aJ λb aZ=>if b=true then aI C sub E elt am aZ λd cR=>K (some d) cR else K none aZ) xs [] aC λds eQ=>fW ds eQ Q|.dic _ _,_,_,_=>False|.fld c f o,σ,st,Q=>aI C sub E o σ st λx aC=>wC c f x aC Q|.mk c f es,σ,st,Q=>bB C sub E es σ st λds aC=>∀p,aC p=none->C f (.ref p::ds) (put aC p<|.ins c []) (λd aJ=>d=.non/\Q (.ref p) aJ) λ_ _=>False|.mcl c m f o es,σ,st,Q=>aI C sub E o σ st λx aC=>zG c m x aC/\bB C sub E es σ aC λds aJ=>C f (x::ds) aJ Q λ_ _=>False|.mclx c m f o es,σ,st,Q=>aI C sub E o σ st λx aC=>zG c m x aC/\bB C sub E es σ aC λds aJ=>C f (x::ds) aJ Q E|.dnew,σ,st,Q=>∀p,st p=none->Q (.ref p) (put st p<|.tab [] [])|.d1 k v,σ,st,Q=>∀p,st p=none->aI C sub E k σ (put st p<|.tab [] []) λx aC=>aI C sub E v σ aC λy aJ=>P4 x y (.ref p) aJ λaZ=>Q (.ref p) aZ|.din neg k d,σ,st,Q=>aI C sub E k σ st λx aC=>aI C sub E d σ aC λy aJ=>MF x y aJ λb=>Q (.bl<|if neg=true then !b else b) aJ|.dix d k,σ,st,Q=>aI C sub E d σ st λy aC=>aI C sub E k σ aC λx aJ=>M4 x y aJ Q
def bB (C:aU)(sub:Nat->Nat->Bool)(E:XK):List Ex->St->aB->(List D->aB->Prop)->Prop|[],_,st,Q=>Q [] st|e::es,σ,st,Q=>aI C sub E e σ st λd aA=>bB C sub E es σ aA λds aV=>Q (d::ds) aV/-- all tests, one after another -/def iM (C:aU)(sub:Nat->Nat->Bool)(E:XK):List Ex->St->aB->(Bool->aB->Prop)->Prop|[],_,st,Q=>Q true st|e::es,σ,st,Q=>aI C sub E e σ st λd aA=>eH d aA λk=>if k=true then iM C sub E es σ aA Q else Q false aA
end
structure fA where
 nx:St->aB->Prop
 rt:D->aB->Prop
 bk:St->aB->Prop
 ct:St->aB->Prop
 ex:Nat->St->aB->Prop
def notRef:D->Prop|.ref _=>False|_=>True
def G8:D->D->D->aB->(aB->Prop)->Prop|.ref a,.int k,v,st,Q=>cC st a λxs=>dM (oJ xs.length k) λj=>Q<|put st a<|.lst<|xs.set j v|_,_,_,_,_=>False
def nH (C:aU)(sub:Nat->Nat->Bool)(E:XK):Tg->D->St->aB->(St->aB->Prop)->Prop|.nm i,d,σ,st,Q=>Q (σ.set i<|some d) st|.tp is,d,σ,st,Q=>lO false is d σ λam=>Q am st|.ix o i,d,σ,st,Q=>aI C sub E o σ st λx aC=>aI C sub E i σ aC λy aJ=>G8 x y d aJ λaZ=>Q σ aZ|.fl c f o,d,σ,st,Q=>aI C sub E o σ st λx aC=>DY c f d x aC λaJ=>Q σ aJ|.dk o i,d,σ,st,Q=>aI C sub E o σ st λx aC=>aI C sub E i σ aC λy aJ=>P4 y d x aJ λaZ=>Q σ aZ
def AH (g:aB->Prop)(turn:D->(St->aB->Prop)->St->aB->Prop)(N:St->aB->Prop):List D->St->aB->Prop|[],σ,st=>g st/\N σ st|x::xs,σ,st=>g st/\turn x (AH g turn N xs) σ st
def uP (turn:(St->aB->Prop)->St->aB->Prop):Nat->St->aB->Prop|0,_,_=>False|n+1,σ,st=>turn (uP turn n) σ st
noncomputable def CV (n:Option Nat)(o:Option D)(σ:St):St:=match n with|some i=>σ.set i o|none=>σ
noncomputable def LH (sub:Nat->Nat->Bool)(c:Nat)(n:Option Nat)(P:fA)(h:fA->St->aB->Prop):fA :=⟨P.nx,P.rt,P.bk,P.ct,λc' am aA=>if sub c' c=true then h ⟨λce aJ=>P.nx (CV n none ce) aJ,P.rt,λ_ _=>False,λ_ _=>False,λ_ _ _=>False⟩ (CV n (some<|.exc c') am) aA else P.ex c' am aA⟩
noncomputable def pQ:aU:=λ_ _ _ _ _=>False
mutual
def wpS (C:aU)(sub:Nat->Nat->Bool):Sx->fA->St->aB->Prop|.ex e,P,σ,st=>aI C sub (λc aA=>P.ex c σ aA) e σ st λ_ aA=>P.nx σ aA|.asg t e,P,σ,st=>aI C sub (λc aA=>P.ex c σ aA) e σ st λd aA=>nH C sub (λc aA=>P.ex c σ aA) t d σ aA P.nx|.aug i op e,P,σ,st=>fV σ i λx=>aI C sub (λc aA=>P.ex c σ aA) e σ st λy aA=>notRef x/\jD op x y aA λd aV=>P.nx (σ.set i<|some d) aV|.iff c a b,P,σ,st=>aI C sub (λc aA=>P.ex c σ aA) c σ st λd aA=>eH d aA λk=>if k=true then cH C sub a P σ aA else cH C sub b P σ aA|.whl c b,P,σ,st=>∃n,uP (λnext σ st=>aI C sub (λc aA=>P.ex c σ aA) c σ st λd aA=>eH d aA λk =>if k=true then cH C sub b { P with nx:=next,ct:=next,bk:=P.nx } σ aA else P.nx σ aA) n σ st|.sV t k aD b,P,σ,st=>bB C sub (λc aA=>P.ex c σ aA) aD σ st λds aC=>jZ k ds aC λas xs=>AH (same as aC) (λx next σ st=>nH C sub (λc aA=>P.ex c σ aA) t x σ st λam aA=>cH C sub b { P with nx:=next,ct:=next,bk:=P.nx } am aA) P.nx xs σ aC|.ret e,P,σ,st=>aI C sub (λc aA=>P.ex c σ aA) e σ st P.rt|.brk,P,σ,st=>P.bk σ st|.cnt,P,σ,st=>P.ct σ st|.pass,P,σ,st=>P.nx σ st|.rais c es,P,σ,st=>bB C sub (λc aA=>P.ex c σ aA) es σ st λ_ aA=>P.ex c σ aA|.tryy b c n h,P,σ,st=>cH C sub b (LH sub c n P λP' am aA=>cH pQ sub h P' am aA) σ st
def cH (C:aU)(sub:Nat->Nat->Bool):List Sx->fA->St->aB->Prop|[],P,σ,st=>P.nx σ st|s::ss,P,σ,st=>wpS C sub s { P with nx:=cH C sub ss P } σ st
end
noncomputable def start (np nl:Nat)(ds:List D):St:=ds.map some++au (nl-np) none
noncomputable def aH (G:Prog):Nat->aU|0=>λ_ _ _ _ _=>False|k+1=>λf ds st Q E=>match G.fns f with|none=>False|some fn=>ds.length=fn.np/\cH (aH G k) G.sub fn.body ⟨λ_ aA=>Q .non aA,Q,λ_ _=>False,λ_ _=>False,λc _ aA=>E c aA⟩ (start fn.np fn.nl ds) st
variable {σ:St}{i:Int}{Q Q':VK}
theorem IC {i:Nat}{Q Q':D->Prop}(h:∀d,Q d->Q' d):fV σ i Q->fV σ i Q':=by
 unfold fV;split;·exact h _
 ·exact id
variable {K':List D->Prop}{M:List D->List D->Prop}
theorem nF {st:aB}{a:Nat}{K:List D->Prop}{M':List D->List D->Prop}(h:∀ds,K ds->K' ds)(h':∀ks vs,M ks vs->M' ks vs):eD st a K M->eD st a K' M':=by
 unfold eD;split;·exact h _
 ·exact h' _ _
 ·exact id
theorem cX {st:aB}{a:Nat}{K:List D->Prop}(h:∀ds,K ds->K' ds):cC st a K->cC st a K':=by
 unfold cC;split;·exact h _
 ·exact id
variable {α:Type}
theorem eM {o:Option α}{K K':α->Prop}(h:∀x,K x->K' x):dM o K->dM o K':=by
 unfold dM;split;·exact h _
 ·exact id
variable {P P':Bool->Prop}
theorem iW {d:D}{st:aB}(h:∀b,P b->P' b):eH d st P->eH d st P':=by unfold eH;split;all_goals first|exact h _|exact id|exactλx=>⟨x.1,h _ x.2⟩|exact nF (λ_=>h _) λ_ _=>h _
variable {ds:List D}
theorem mR {st:aB}(h:∀d st,Q d st->Q' d st):fW ds st Q->fW ds st Q':=λx=>⟨x.1,λp hp=>h _ _<|x.2 p hp⟩
variable {y:D}
theorem HG {op:vA}{x:D}{st:aB}(h:∀d st,Q d st->Q' d st):jD op x y st Q->jD op x y st Q':=by cases op<;>cases x<;>first|exact id|(cases y<;>first|exact id|exact h _ _|exactλz=>⟨z.1,h _ _ z.2⟩|exact cX λ_=>cX λ_=>mR h|exact cX λ_ z=>⟨z.1,z.2.1,mR h z.2.2⟩)
theorem UW {x:D}{st:aB}(h:∀d st,Q d st->Q' d st):CZ x st Q->CZ x st Q':=by
 unfold CZ;split;·exact h _ _
 ·exact id
theorem MJ {x:D}{st:aB}(h:∀b,P b->P' b):Ap x y st P->Ap x y st P':=λz=>⟨z.1,z.2.1,h _ z.2.2⟩
theorem L5 {x:D}{st:aB}(h:∀b,P b->P' b):ID x y st P->ID x y st P':=by unfold ID;split;all_goals first|exactλz=>⟨z.1,z.2.1,h _ z.2.2⟩|exact h _|exact id|exact nF (λ_ z=>⟨z.1,z.2.1,h _ z.2.2⟩) λ_ _ z=>⟨z.1,z.2.1,h _ z.2.2⟩
theorem tT {f:Int->Int->Bool}{x:D}(h:∀b,P b->P' b):wF f x y P->wF f x y P':=by
 unfold wF;split;·exact h _
 ·exact id
theorem NJ {x:D}(h:∀b,P b->P' b):E9 x y P->E9 x y P':=by unfold E9;split;all_goals first|exact h _|exact id
theorem AJ {op:pT}{x:D}{st:aB}(h:∀b,P b->P' b):dI op x y st P->dI op x y st P':=by
 cases op;·exact MJ h
 ·exact MJ λb=>h<|!b
 ·exact tT h
 ·exact tT h
 ·exact tT h
 ·exact tT h
 ·exact NJ h
 ·exact NJ λb=>h<|!b
 ·exact L5 h
 ·exact L5 λb=>h<|!b
variable {t:Ty}
theorem EC {sub:Nat->Nat->Bool}{x:D}{st:aB}(h:∀b,P b->P' b):cV sub x st t P->cV sub x st t P':=by cases x<;>first|exact id|exact h _|(cases t<;>first|exact id|exact h _|exact nF (λ_=>h _) λ_ _=>h _)
theorem HQ {sub:Nat->Nat->Bool}{x:D}{st:aB}{P P':Bool->Prop}(h:∀b,P b->P' b):∀{ts:List Ty},wN sub x st ts P->wN sub x st ts P'
 |[]=>id|[t]=>EC h|t::u::ts=>by
  unfold wN;refine EC λb=>?_;split;·exact h _
  ·exact HQ h
theorem XY {x:D}{st:aB}(h:∀d st,Q d st->Q' d st):xS x y st Q->xS x y st Q':=by
 unfold xS;split;all_goals first|exact id|exact eM λ_=>h _ _|exactλz=>⟨z.1,eM (λ_=>h _ _) z.2⟩|exactλz=>⟨z.1,z.2.1,eM (λ_=>h _ _) z.2.2⟩|skip
 refine nF (λ_=>?_) λ_ _ z=>⟨z.1,z.2.1,eM (λ_=>h _ _) z.2.2⟩;split;·exact eM λ_=>h _ _
 ·exact id
theorem EB {P P':Option Int->Prop}(h:∀o,P o->P' o):pJ ds P->pJ ds P':=by unfold pJ;split;all_goals first|exact h _|exact id
variable {lo hi:Option Int}
theorem Y2 {x:D}{st:aB}(h:∀d st,Q d st->Q' d st):BV x lo hi st Q->BV x lo hi st Q':=by
 unfold BV;split;·exact h _ _
 ·exact λz=>⟨z.1,h _ _ z.2⟩
 ·exact cX λ_ z p hp=>h _ _<|z p hp
 ·exact id
theorem SR {d:D}{st:aB}{K K':List Nat->List D->Prop}(h:∀as xs,K as xs->K' as xs):nK d st K->nK d st K':=by unfold nK;split;all_goals first|exact h _ _|exact id|exactλz=>⟨z.1,h _ _ z.2⟩|exact cX λ_=>h _ _
theorem yN {d:D}{st:aB}{K K':List Nat->List D->Prop}(h:∀as xs,K as xs->K' as xs):dG d st K->dG d st K':=by unfold dG;split;all_goals first|exact h _ _|exact id|exact cX λ_=>h _ _
variable {k:Bool}
theorem zD {k:Option IK}{st:aB}{P P':List Nat->List D->Prop}(h:∀as xs,P as xs->P' as xs):jZ k ds st P->jZ k ds st P':=by
 rcases k with _|k;·rcases ds with _|⟨x,_|⟨y,r⟩⟩<;>first|exact id|exact SR h
 ·cases k<;>first|exact id|(rcases ds with _|⟨x,_|⟨y,_|⟨w,_|⟨v,r⟩⟩⟩⟩<;>first|exact id|exact yN λ_ _=>h _ _|(cases x<;>first|exact id|exactλz=>⟨z.1,h _ _ z.2⟩|exact cX λ_=>h _ _|(cases y<;>first|exact id|exactλz=>⟨z.1,z.2.1,h _ _ z.2.2⟩|exact cX λ_=>cX λ_=>h _ _|(cases w<;>first|exact id|exact λz=>⟨z.1,z.2.1,z.2.2.1,h _ _ z.2.2.2⟩))))
theorem WE {d:D}{st:aB}{P P':Nat->Prop}(h:∀n,P n->P' n):rQ d st P->rQ d st P':=by unfold rQ;split;all_goals first|exact h _|exact id|exactλz=>⟨z.1,h _ z.2⟩|exact nF (λ_=>h _) λ_ _=>h _
variable {xs:List D}
theorem kJ {f:BI}{st:aB}(h:∀d st,Q d st->Q' d st):eS f xs st Q->eS f xs st Q':=by
 unfold eS;split;all_goals first|exact id|exact mR h|exactλz=>⟨z.1,h _ _ z.2⟩|exact eM λ_=>h _ _|skip
 all_goals refine eM λis=>?_
 all_goals cases is
 all_goals first|exact id|exact h _ _
theorem ZL {f:BI}{st:aB}(h:∀d st,Q d st->Q' d st):iI f ds st Q->iI f ds st Q':=by
 rcases ds with _|⟨x,_|⟨y,_|⟨w,r⟩⟩⟩;·cases f<;>exact id
 ·cases f<;>first|exact WE λ_=>h _ _|exact yN λ_ _=>kJ h|(cases x<;>first|exact id|exact h _ _|exactλz=>⟨z.1,h _ _ z.2⟩|exact eM λ_ z=>⟨z.1,h _ _ z.2⟩|exact kJ (f:=.max) h|exact cX λ_=>kJ (f:=.max) h|exact kJ (f:=.min) h|exact cX λ_=>kJ (f:=.min) h)
 ·cases f<;>first|exact id|(cases x<;>first|exact id|(cases y<;>first|exact id|exact h _ _))
 ·cases f<;>first|exact id|(cases x<;>first|exact id|(cases y<;>exact id))
theorem JC {d:D}{st:aB}{K:List D->Prop}(h:∀xs,K xs->K' xs):tZ d st K->tZ d st K':=by unfold tZ;split;all_goals first|exact h _|exact id|exact cX h
set_option tactic.hygienic true in
theorem SE {m:MT}{o:D}{st:aB}(h:∀d st,Q d st->Q' d st):eT m o ds st Q->eT m o ds st Q':=by cases m<;>first|exact id|(rcases ds with _|⟨d,_|⟨e,_|⟨g,r⟩⟩⟩<;>first|exact id|exact yN λ_ _ z=>⟨z.1,z.2.1,eM (λ_=>h _ _) z.2.2⟩|(cases o<;>first|exact id|exact cX λ_ z=>⟨z.1,h _ _ z.2⟩|exact cX λ_=>JC λ_ z=>⟨z.1,h _ _ z.2⟩|exact cX λ_=>eM λ_=>h _ _|exact JC λ_=>eM λ_ z=>⟨z.1,h _ _ z.2⟩|(cases d<;>first|exact id|exact h _ _|exactλz=>⟨z.1,h _ _ z.2⟩|(rename_i s;rcases s with _|⟨c,_|⟨c',s⟩⟩<;>first|exact id|exactλz=>⟨z.1,h _ _ z.2⟩|exact λz=>⟨z.1,mR h z.2⟩)|(cases e<;>first|exact id|exact λz=>⟨z.1,h _ _ z.2⟩))))
theorem ER {one:Bool}{tg:List Nat}{x:D}{P P':St->Prop}(h:∀σ,P σ->P' σ):lO one tg x σ P->lO one tg x σ P':=by
 unfold lO;split;·exact h _
 ·exact λz=>⟨z.1,h _ z.2⟩
 ·exact id
theorem DZ {g:aB->Prop}{turn tU:D->aB->(Option D->aB->Prop)->Prop}{R R':List D->aB->Prop}(ht:∀x st K K',(∀o st,K o st->K' o st)->turn x st K->tU x st K')(h:∀ds st,R ds st->R' ds st):∀{xs acc:List D}{st:aB},iH g turn xs acc st R->iH g tU xs acc st R'|[],_,_,z=>⟨z.1,h _ _ z.2⟩|_::_,_,_,z=>⟨z.1,z.2.1,ht _ _ _ _ (λ_ _ y=>DZ ht h y) z.2.2⟩
theorem E4 {st:aB}{a:Nat}{K K':List Nat->List (List Nat×D)->Prop}(h:∀c fs,K c fs->K' c fs):nZ st a K->nZ st a K':=by
 unfold nZ;split;·exact h _ _
 ·exact id
theorem wW {st:aB}{a:Nat}{K K':List D->List D->Prop}(h:∀c fs,K c fs->K' c fs):tabAt st a K->tabAt st a K':=by
 unfold tabAt;split;·exact h _ _
 ·exact id
theorem WQ {c f:List Nat}{x:D}{st:aB}(h:∀d st,Q d st->Q' d st):wC c f x st Q->wC c f x st Q':=by
 unfold wC;split;·exact E4 λ_ _ z=>⟨z.1,eM (λ_=>h _ _) z.2⟩
 ·exact id
variable {v:D}
theorem Z8 {c f:List Nat}{x:D}{st:aB}{Q Q':aB->Prop}(h:∀st,Q st->Q' st):DY c f v x st Q->DY c f v x st Q':=by
 unfold DY;split;·exact E4 λ_ _ z=>⟨z.1,z.2.1,h _ z.2.2⟩
 ·exact id
theorem VU {x:D}{st:aB}(h:∀b,P b->P' b):MF x y st P->MF x y st P':=by
 unfold MF;split;·exact wW λ_ _ z=>⟨z.1,h _ z.2⟩
 ·exact id
theorem W4 {x:D}{st:aB}(h:∀d st,Q d st->Q' d st):M4 x y st Q->M4 x y st Q':=by
 unfold M4;split;·exact wW λ_ _ z=>⟨z.1,eM (λ_=>h _ _) z.2⟩
 ·exact id
variable {Q Q':aB->Prop}
theorem MU {x:D}{st:aB}(h:∀st,Q st->Q' st):P4 x v y st Q->P4 x v y st Q':=by
 unfold P4;split;·exact wW λ_ _ z=>⟨z.1,z.2.1,z.2.2.1,h _ z.2.2.2⟩
 ·exact id
def bU (C C':aU):Prop:=∀f ds st Q Q' E E',(∀d st,Q d st->Q' d st)->(∀c st,E c st->E' c st)->C f ds st Q E->C' f ds st Q' E'
mutual
theorem aT {C C':aU}{sub}{E E':XK}(hC:bU C C')(hE:∀c st,E c st->E' c st):∀(e:Ex){σ:St}{st:aB}{Q Q':VK},(∀d st,Q d st->Q' d st)->aI C sub E e σ st Q->aI C' sub E' e σ st Q'
 |.c d,σ,st,Q,Q',h=>by exact h _ _|.v i,σ,st,Q,Q',h=>by exact IC λd=>h _ _|.tup es,σ,st,Q,Q',h=>by exact cT hC hE es λ_ _=>h _ _|.lst es,σ,st,Q,Q',h=>by exact cT hC hE es λ_ _=>mR h|.bin op a b,σ,st,Q,Q',h=>by exact aT hC hE a λ_ _=>aT hC hE b λ_ _=>HG h|.neg a,σ,st,Q,Q',h=>by exact aT hC hE a λ_ _=>UW h|.cmp op a b,σ,st,Q,Q',h=>by exact aT hC hE a λ_ _=>aT hC hE b λ_ _=>AJ λ_=>h _ _|.chain op op' a b c,σ,st,Q,Q',h=>by
  refine aT hC hE a λ_ _=>aT hC hE b λ_ _=>AJ λk=>?_;split;·exact aT hC hE c λ_ _=>AJ λ_=>h _ _
  ·exact h _ _|.and_ a b,σ,st,Q,Q',h=>by
  refine aT hC hE a λ_ _=>iW λk=>?_;split;·exact aT hC hE b h
  ·exact h _ _|.or_ a b,σ,st,Q,Q',h=>by
  refine aT hC hE a λ_ _=>iW λk=>?_;split;·exact h _ _
  ·exact aT hC hE b h|.not_ a,σ,st,Q,Q',h=>by exact aT hC hE a λ_ _=>iW λk=>h _ _|.ite c a b,σ,st,Q,Q',h=>by
  refine aT hC hE c λ_ _=>iW λk=>?_;split;·exact aT hC hE a h
  ·exact aT hC hE b h|.call f es,σ,st,Q,Q',h=>by exact cT hC hE es λ_ _=>hC _ _ _ _ _ _ _ h λ_ _ z=>z|.callx f es,σ,st,Q,Q',h=>by exact cT hC hE es λ_ _=>hC _ _ _ _ _ _ _ h hE|.bi f es,σ,st,Q,Q',h=>by exact cT hC hE es λ_ _=>ZL h|.isi a ts,σ,st,Q,Q',h=>by exact aT hC hE a λ_ _=>HQ λ_=>h _ _|.bP m o es,σ,st,Q,Q',h=>by exact aT hC hE o λ_ _ z=>⟨z.1,cT hC hE es (λ_ _=>SE h) z.2⟩|.ix a b,σ,st,Q,Q',h=>by exact aT hC hE a λ_ _=>aT hC hE b λ_ _=>XY h|.sl a lo hi,σ,st,Q,Q',h=>by exact aT hC hE a λ_ _=>cT hC hE lo λ_ _=>EB λ_=>cT hC hE hi λ_ _=>EB λ_=>Y2 h|.bit f k es,σ,st,Q,Q',h=>by exact cT hC hE es λ_ _=>zD λ_ _=>kJ h|.comp n bH tg one k aD ifs elt,σ,st,Q,Q',h=>by
  refine cT hC hE aD λd aC=>zD λas xs=>?_;intro z;refine DZ (λx st K K' hK=>?_) (λ_ _=>mR h) z;refine ER λam=>JX hC hE ifs λb st=>?_;split;·exact aT hC hE elt λ_ _=>hK _ _
  ·exact hK _ _|.dic _ _,σ,st,Q,Q',h=>by exact id|.fld c f o,σ,st,Q,Q',h=>by exact aT hC hE o λ_ _=>WQ h|.mk c f es,σ,st,Q,Q',h=>by exact cT hC hE es λ_ _ z p hp=>hC _ _ _ _ _ _ _ (λ_ _ y=>⟨y.1,h _ _ y.2⟩) (λ_ _ z=>z)<|z p hp|.mcl c m f o es,σ,st,Q,Q',h=>by exact aT hC hE o λ_ _ z=>⟨z.1,cT hC hE es (λ_ _=>hC _ _ _ _ _ _ _ h λ_ _ z=>z) z.2⟩|.mclx c m f o es,σ,st,Q,Q',h=>by exact aT hC hE o λ_ _ z=>⟨z.1,cT hC hE es (λ_ _=>hC _ _ _ _ _ _ _ h hE) z.2⟩|.dnew,σ,st,Q,Q',h=>by exact λz p hp=>h _ _<|z p hp|.d1 k v,σ,st,Q,Q',h=>by exact λz p hp=>aT hC hE k (λ_ _=>aT hC hE v λ_ _=>MU λ_=>h _ _)<|z p hp|.din neg k d,σ,st,Q,Q',h=>by exact aT hC hE k λ_ _=>aT hC hE d λ_ _=>VU λ_=>h _ _|.dix d k,σ,st,Q,Q',h=>by exact aT hC hE d λ_ _=>aT hC hE k λ_ _=>W4 h;theorem cT {C C':aU}{sub}{E E':XK}(hC:bU C C')(hE:∀c st,E c st->E' c st):∀(es:List Ex){σ:St}{st:aB}{Q Q':List D->aB->Prop},(∀d st,Q d st->Q' d st)->bB C sub E es σ st Q->bB C' sub E' es σ st Q'|[],σ,st,Q,Q',h=>by exact h _ _|e::es,σ,st,Q,Q',h=>by exact aT hC hE e λ_ _=>cT hC hE es λ_ _=>h _ _;theorem JX {C C':aU}{sub}{E E':XK}(hC:bU C C')(hE:∀c st,E c st->E' c st):∀(es:List Ex){σ:St}{st:aB}{Q Q':Bool->aB->Prop},(∀d st,Q d st->Q' d st)->iM C sub E es σ st Q->iM C' sub E' es σ st Q'
 |[],σ,st,Q,Q',h=>by exact h _ _|e::es,σ,st,Q,Q',h=>by
  refine aT hC hE e λ_ _=>iW λk=>?_;split;·exact JX hC hE es h
  ·exact h _ _;end
structure fA.Le (P P':fA):Prop where
 nx:∀σ st,P.nx σ st->P'.nx σ st
 rt:∀d st,P.rt d st->P'.rt d st
 bk:∀σ st,P.bk σ st->P'.bk σ st
 ct:∀σ st,P.ct σ st->P'.ct σ st
 ex:∀c σ st,P.ex c σ st->P'.ex c σ st
theorem UJ {o i:D}{st:aB}(h:∀st,Q st->Q' st):G8 o i v st Q->G8 o i v st Q':=by
 unfold G8;split;·exact cX λ_=>eM λ_=>h _
 ·exact id
theorem xJ {C C':aU}{sub}{E E':XK}(hC:bU C C')(hE:∀c st,E c st->E' c st){d:D}{Q Q':St->aB->Prop}(h:∀σ st,Q σ st->Q' σ st):∀(t:Tg){σ:St}{st:aB},nH C sub E t d σ st Q->nH C' sub E' t d σ st Q'|.nm i,_,_=>by exact h _ _|.tp is,_,_=>by exact ER λ_=>h _ _|.ix o i,_,_=>by exact aT hC hE o λ_ _=>aT hC hE i λ_ _=>UJ λ_=>h _ _|.fl c f o,_,_=>by exact aT hC hE o λ_ _=>Z8 λ_=>h _ _|.dk o i,_,_=>by exact aT hC hE o λ_ _=>aT hC hE i λ_ _=>MU λ_=>h _ _
theorem HW {g:aB->Prop}{turn tU:D->(St->aB->Prop)->St->aB->Prop}{N N':St->aB->Prop}(ht:∀x M M' σ st,(∀σ st,M σ st->M' σ st)->turn x M σ st->tU x M' σ st)(h:∀σ st,N σ st->N' σ st):∀{xs:List D}{σ:St}{st:aB},AH g turn N xs σ st->AH g tU N' xs σ st|[],_,_,z=>⟨z.1,h _ _ z.2⟩|_::_,_,_,z=>⟨z.1,ht _ _ _ _ _ (λ_ _=>HW ht h) z.2⟩
theorem BW {turn tU:(St->aB->Prop)->St->aB->Prop}(ht:∀M M' σ st,(∀σ st,M σ st->M' σ st)->turn M σ st->tU M' σ st):∀{n:Nat}{σ:St}{st:aB},uP turn n σ st->uP tU n σ st|0,_,_,z=>z|n+1,_,_,z=>ht _ _ _ _ (λ_ _=>BW ht) z
theorem OJ:bU pQ pQ:=λ_ _ _ _ _ _ _ _ _ x=>x
mutual
theorem wpS_mono {C C':aU}{sub}(hC:bU C C'):∀(s:Sx){P P':fA}{σ:St}{st:aB},P.Le P'->wpS C sub s P σ st->wpS C' sub s P' σ st
 |.ex e,P,P',σ,st,h=>by exact aT hC (λ_ _=>h.ex _ _ _) e λ_ _=>h.nx _ _|.asg t e,P,P',σ,st,h=>by exact aT hC (λ_ _=>h.ex _ _ _) e λ_ _=>xJ hC (λ_ _=>h.ex _ _ _) h.nx t|.aug i op e,P,P',σ,st,h=>by exact IC λx=>aT hC (λ_ _=>h.ex _ _ _) e λ_ _ z=>⟨z.1,HG (λ_ _=>h.nx _ _) z.2⟩|.iff c a b,P,P',σ,st,h=>by
  refine aT hC (λ_ _=>h.ex _ _ _) c λ_ _=>iW λk=>?_;split;·exact iU hC a h
  ·exact iU hC b h|.whl c b,P,P',σ,st,h=>by
  rintro⟨n,z⟩;refine⟨n,BW (λM M' σ st hM=>aT hC (λ_ _=>h.ex _ _ _) c λ_ _=>iW λk=>?_) z⟩;split;·exact iU hC b ⟨hM,h.rt,h.nx,hM,h.ex⟩
  ·exact h.nx _ _|.sV t k aD b,P,P',σ,st,h=>by refine cT hC (λ_ _=>h.ex _ _ _) aD λ_ _=>zD λas xs=>?_;exact HW (λx M M' σ st hM=>xJ hC (λ_ _=>h.ex _ _ _) (λ_ _=>iU hC b (P:={ P with nx:=M,ct:=M,bk:=P.nx }) (P':={ P' with nx:=M',ct:=M',bk:=P'.nx }) ⟨hM,h.rt,h.nx,hM,h.ex⟩) t) h.nx|.ret e,P,P',σ,st,h=>by exact aT hC (λ_ _=>h.ex _ _ _) e h.rt|.brk,P,P',σ,st,h=>by exact h.bk _ _|.cnt,P,P',σ,st,h=>by exact h.ct _ _|.pass,P,P',σ,st,h=>by exact h.nx _ _|.rais c es,P,P',σ,st,h=>by exact cT hC (λ_ _=>h.ex _ _ _) es λ_ _=>h.ex _ _ _|.tryy b c n hh,P,P',σ,st,h=>by
  refine iU hC b ⟨h.nx,h.rt,h.bk,h.ct,λc' σ st=>?_⟩;show(if sub c' c=true then _ else _)->if sub c' c=true then _ else _;split;·exact iU OJ hh ⟨λ_ _=>h.nx _ _,h.rt,λ_ _=>id,λ_ _=>id,λ_ _ _=>id⟩
  ·exact h.ex _ _ _;theorem iU {C C':aU}{sub}(hC:bU C C'):∀(ss:List Sx){P P':fA}{σ:St}{st:aB},P.Le P'->cH C sub ss P σ st->cH C' sub ss P' σ st|[],P,P',σ,st,h=>by exact h.nx _ _|s::ss,P,P',σ,st,h=>by exact wpS_mono hC s ⟨λ_ _=>iU hC ss h,h.rt,h.bk,h.ct,h.ex⟩end
theorem fU (G:Prog):∀{j k:Nat},j<=k->bU (aH G j) (aH G k)
 |0,k,_=>λ_ _ _ _ _ _ _ _ _ x=>x.elim|j+1,0,h=>by lia|j+1,k+1,h=>λf ds st Q Q' E E' hQ hE=>by
  simp![aH];split;·exact id
  ·have hj:j<=k:=by lia
   exact λz=>⟨z.1,iU (fU G hj) _ (P:=⟨λ_ aA=>Q .non aA,Q,λ_ _=>False,λ_ _=>False,λc _ aA=>E c aA⟩) (P':=⟨λ_ aA=>Q' .non aA,Q',λ_ _=>False,λ_ _=>False,λc _ aA=>E' c aA⟩) ⟨λ_ _=>hQ _ _,hQ,λ_ _=>id,λ_ _=>id,λ_ _ _=>hE _ _⟩ z.2⟩
variable {y:α}{xs:List α}{ks vs:List D}{R:List Nat->List D->Prop}{R:Nat->Prop}{R:St->Prop}{ss:List Sx}
section
variable {C:aU}{sub:Nat->Nat->Bool}{E:XK}{st:aB}{Q:VK}{e a b c:Ex}{es:List Ex}{x y:D}{j:Int}{u v:List Nat}{xs ys:List D}{p q:Nat}{K:List D->Prop}
theorem aG {R:fA}:cH C sub [] R σ st=R.nx σ st:=rfl
theorem TU {R:fA}{s:Sx}:cH C sub (s::ss) R σ st=wpS C sub s { R with nx:=cH C sub ss R } σ st:=rfl
theorem dB {R:fA}{s:Sx}(h:wpS C sub s { R with nx:=cH C sub ss R } σ st):cH C sub (s::ss) R σ st:=h
theorem hV (h:st p=some (.lst ds)):eD st p K M=K ds:=by unfold eD;rw[h]
theorem aF (h:st p=some (.lst ds)):cC st p K=K ds:=by unfold cC;rw[h]
theorem aO {x:α}{K:α->Prop}:dM (some x) K=K x:=rfl
theorem W6 {K:α->Prop}:dM none K=False:=rfl
theorem Ln {d:D}{r:St}{R:D->Prop}:fV (some d::r) 0 R=R d:=rfl
theorem Ks {o:Option D}{r:St}{n:Nat}{R:D->Prop}:fV (o::r) (n+1) R=fV r n R:=rfl
theorem bE {o:MO}:put st p o p=some o:=by unfold put;rw[if_pos rfl]
theorem bS {o:MO}(h:q≠p):put st p o q=st q:=by unfold put;rw[if_neg h]
theorem Gb {o u:MO}(h:st p=none)(h':st q=some u):put st p o q=some u:=by rw[bS];exact h';intro e;rw[e,h]at h';cases h'
theorem Ej:eH .non st P=P false:=rfl
theorem nX:eH (.bl k) st P=P k:=rfl
theorem Cj:eH (.int i) st P=P (i != 0):=rfl
theorem Ef:eH (.tup ds) st P=P (!ds.isEmpty):=rfl
theorem PH:eH (.ref p) st P=eD st p (λds=>P<|!ds.isEmpty) λks _=>P<|!ks.isEmpty:=rfl
theorem XU:eH (.bR ds) st P=P (!ds.isEmpty):=rfl
theorem VG:dI .eq x y st P=(plainS st x/\plainS st y/\P (bZ st x y)):=rfl
theorem Li:dI .ne x y st P=(plainS st x/\plainS st y/\P (!bZ st x y)):=rfl
theorem Jm:dI .lt (.int i) (.int j) st P=P (decide<|i<j):=rfl
theorem Mq:dI .le (.int i) (.int j) st P=P (decide<|i<=j):=rfl
theorem cmp_gt:dI .gt (.int i) (.int j) st P=P (decide<|j<i):=rfl
theorem Kf:dI .ge (.int i) (.int j) st P=P (decide<|j<=i):=rfl
theorem Co:dI .is_ x .non st P=P (jW x):=rfl
theorem Fg:dI .is_ x (.bl k) st P=P (ZI k x):=rfl
theorem YY:dI .isnot x .non st P=P (!jW x):=rfl
theorem YT:dI .isnot x (.bl k) st P=P (!ZI k x):=rfl
theorem R6:dI .in_ x (.tup ds) st P=(plainS st x/\fD st ds/\P (ds.any λd=>bZ st d x)):=rfl
theorem RG:dI .in_ x (.ref p) st P=eD st p (λds=>plainS st x/\fD st ds/\P (ds.any λd=>bZ st d x)) λks _=>plain x/\sT ks/\P (ks.any λd=>fJ d x):=rfl
theorem OL {w:List Nat}:dI .in_ (.str w) (.cF ks vs) st P=P (ks.any λd=>fJ d<|.str w):=rfl
theorem R7:dI .in_ (.str u) (.str v) st P=P (occurs u v):=rfl
theorem OK:dI .fP x (.tup ds) st P=(plainS st x/\fD st ds/\P (!ds.any λd=>bZ st d x)):=rfl
theorem OB:dI .fP x (.ref p) st P=eD st p (λds=>plainS st x/\fD st ds/\P (!ds.any λd=>bZ st d x)) λks _=>plain x/\sT ks/\P (!ks.any λd=>fJ d x):=rfl
theorem NC {w:List Nat}:dI .fP (.str w) (.cF ks vs) st P=P (!ks.any λd=>fJ d<|.str w):=rfl
theorem ON:dI .fP (.str u) (.str v) st P=P (!occurs u v):=rfl
theorem add_int:jD .add (.int i) (.int j) st Q=Q (.int<|i+j) st:=rfl
theorem add_str:jD .add (.str u) (.str v) st Q=(u.length+v.length<=aL/\Q (.str<|u++v) st):=rfl
theorem Fw:jD .add (.tup xs) (.tup ys) st Q=(xs.length+ys.length<=aL/\Q (.tup<|xs++ys) st):=rfl
theorem Dg:jD .add (.ref p) (.ref q) st Q=cC st p λxs=>cC st q λys=>fW (xs++ys) st Q:=rfl
theorem sub_int:jD .sub (.int i) (.int j) st Q=Q (.int<|i-j) st:=rfl
theorem mul_int:jD .mul (.int i) (.int j) st Q=((FC i\/FC j)/\Q (.int<|i*j) st):=rfl
theorem mul_str {z:List Nat}:jD .mul (.str z) (.int i) st Q=((z.length<=1000/\0<=i/\i<1000)/\Q (.str (au i.toNat z).flatten) st):=rfl
theorem Ek:jD .mul (.tup xs) (.int i) st Q=((0<xs.length/\xs.length<=1000/\1<=i/\i<1000)/\Q (.tup (au i.toNat xs).flatten) st):=rfl
theorem YB:jD .fdiv (.int i) (.int j) st Q=((0<j/\j<1073741824)/\Q (.int<|i / j) st):=rfl
theorem mod_int:jD .mod (.int i) (.int j) st Q=(0<j/\Q (.int<|i % j) st):=rfl
theorem pow_int:jD .pow (.int i) (.int j) st Q=((0<=j/\j<=1000000/\i.natAbs<18446744073709551616)/\Q (.int<|i ^ j.toNat) st):=rfl
theorem neg_int:CZ (.int i) st Q=Q (.int<|-i) st:=rfl
theorem Di:wN sub x st [t] P=cV sub x st t P:=rfl
theorem Dw {t':Ty}{ts:List Ty}:wN sub x st (t::t'::ts) P=cV sub x st t λb=>if b=true then P true else wN sub x st (t'::ts) P:=rfl
theorem jI:xS (.tup ds) (.int i) st Q=dM (fI ds i) λd=>Q d st:=rfl
theorem QG:xS (.bR ds) (.int i) st Q=dM (fI ds i) λd=>Q d st:=rfl
theorem MZ:xS (.str u) (.int i) st Q=(u.length<=aL/\dM (fI u i) λc=>Q (.str [c]) st):=rfl
theorem Fe {w:List Nat}:xS (.cF ks vs) (.str w) st Q=dM (eO ks vs<|.str w) λd=>Q d st:=rfl
theorem cP (h:st p=some (.lst ds)):xS (.ref p) (.int i) st Q=dM (fI ds i) λd=>Q d st:=by show eD st p _ _=_;rw[hV h]
theorem iO {xs:List α}{n:Nat}(h:n<xs.length):fI xs (n:Int)=xs[n]?:=by unfold fI oJ;rw[if_pos<|by lia,if_pos<|by lia];simp
theorem DE {x:α}{r:List α}:fI (x::r) 0=some x:=iO (n:=0)<|by simp
theorem LF {x y:α}{r:List α}:fI (x::y::r) 1=some y:=iO (n:=1)<|by simp
theorem Q8 {x y z:α}{r:List α}:fI (x::y::z::r) 2=some z:=iO (n:=2)<|by simp
theorem Wj {x y z w:α}{r:List α}:fI (x::y::z::w::r) 3=some w:=iO (n:=3)<|by simp
theorem Wx {x y z w t:α}{r:List α}:fI (x::y::z::w::t::r) 4=some t:=iO (n:=4)<|by simp
theorem Ik {R:Option Int->Prop}:pJ [] R=R none:=rfl
theorem Ly {R:Option Int->Prop}:pJ [.int i] R=R (some i):=rfl
theorem MX:BV (.tup ds) lo hi st Q=Q (.tup<|cut ds lo hi) st:=rfl
theorem Mr {z:List Nat}:BV (.str z) lo hi st Q=(z.length<=aL/\Q (.str<|cut z lo hi) st):=rfl
theorem Jz:BV (.ref p) lo hi st Q=cC st p λds=>∀p,st p=none->Q (.ref p) (put st p<|.lst<|cut ds lo hi):=rfl
theorem Ph {d:α}{ds:List α}:cut (d::ds) (some 1) none=ds:=by simp [cut,cJ]
theorem A9 {xs:List α}:(cut xs lo hi).length<=xs.length:=by simp![cut,n4,bz];lia
theorem Hj {R:List Nat->List D->Prop}:jZ none [x] st R=nK x st R:=rfl
theorem YV {R:List Nat->List D->Prop}:nK (.tup ds) st R=R [] ds:=rfl
theorem ZT {R:List Nat->List D->Prop}:nK (.str u) st R=(u.length<=aL/\R [] (u.map λc=>.str [c])):=rfl
theorem NS {R:List Nat->List D->Prop}:nK (.ref p) st R=cC st p λds=>R [p] ds:=rfl
theorem T1 {R:List Nat->List D->Prop}:nK (.bR ds) st R=R [] ds:=rfl
theorem Ga {R:List Nat->List D->Prop}:dG (.tup ds) st R=R [] ds:=rfl
theorem Dd {R:List Nat->List D->Prop}:dG (.ref p) st R=cC st p λds=>R [p] ds:=rfl
theorem Y4 {R:List Nat->List D->Prop}:dG (.bR ds) st R=R [] ds:=rfl
theorem SJ {R:List Nat->List D->Prop}:jZ (some .range) [.int j] st R=(jL j/\R [] (iR 0 j.toNat)):=rfl
theorem RA {R:List Nat->List D->Prop}:jZ (some .range) [.int i,.int j] st R=(jL i/\jL j/\R [] (iR i (j-i).toNat)):=rfl
theorem Dy {R:List Nat->List D->Prop}:jZ (some .rev) [x] st R=dG x st λas xs=>R as xs.reverse:=rfl
theorem T6:iI .len [x] st Q=rQ x st λn=>Q (.int (n:Nat)) st:=rfl
theorem Hm {R:Nat->Prop}:rQ (.tup ds) st R=R ds.length:=rfl
theorem MQ {R:Nat->Prop}:rQ (.bR ds) st R=R ds.length:=rfl
theorem len_str {R:Nat->Prop}:rQ (.str u) st R=(u.length<=aL/\R u.length):=rfl
theorem Dp {R:Nat->Prop}:rQ (.ref p) st R=eD st p (λds=>R ds.length) λks _=>R ks.length:=rfl
theorem Iv:iI .all [x] st Q=dG x st λ_ xs=>eS .all xs st Q:=rfl
theorem Nj:iI .any [x] st Q=dG x st λ_ xs=>eS .any xs st Q:=rfl
theorem UT:iI .max [x] st Q=dG x st λ_ xs=>eS .max xs st Q:=by cases x<;>rfl
theorem Hq:iI .min [x] st Q=dG x st λ_ xs=>eS .min xs st Q:=by cases x<;>rfl
theorem Nd:iI .sum [x] st Q=dG x st λ_ xs=>eS .sum xs st Q:=by cases x<;>rfl
theorem Cn:iI .list [x] st Q=dG x st λ_ xs=>eS .list xs st Q:=rfl
theorem xO:iI .tuple [x] st Q=dG x st λ_ xs=>eS .tuple xs st Q:=rfl
theorem IJ:iI .AU [.tup ds] st Q=dM (strsOf ds) λws=>ws.length<4000/\Q (.int (nM [] ws:Nat)) st:=rfl
theorem Ct:iI .max [.int i,.int j] st Q=Q (.int<|if j>i then j else i) st:=rfl
theorem Hz:iI .int [.int i] st Q=Q (.int i) st:=rfl
theorem QM:iI .int [.bl k] st Q=Q (.int<|if k then 1 else 0) st:=rfl
theorem Ij:eS .all xs st Q=dM (boolsOf xs) λbs=>Q (.bl<|bs.all id) st:=rfl
theorem La:eS .any xs st Q=dM (boolsOf xs) λbs=>Q (.bl<|bs.any id) st:=rfl
theorem Ku:eS .sum xs st Q=dM (intsOf xs) λis=>Q (.int is.sum) st:=rfl
theorem Ha:eS .list xs st Q=fW xs st Q:=rfl
theorem wZ:eS .tuple xs st Q=(xs.length<=aL/\Q (.tup xs) st):=rfl
theorem Ed:tZ (.tup ds) st K=K ds:=rfl
theorem QP:tZ (.ref p) st K=cC st p K:=rfl
theorem S9:oV .append (.ref p) st=cC st p λ_=>True:=rfl
theorem RM:oV .extend (.ref p) st=cC st p λ_=>True:=rfl
theorem Gz:oV .pop (.ref p) st=cC st p λ_=>True:=rfl
theorem XR {z:List Nat}:oV .join (.str z) st=True:=rfl
theorem FU {z:List Nat}:oV .startswith (.str z) st=True:=rfl
theorem ML {z:List Nat}:oV .endswith (.str z) st=True:=rfl
theorem VR {z:List Nat}:oV .split (.str z) st=True:=rfl
theorem J1 {z:List Nat}:oV .partition (.str z) st=True:=rfl
theorem OI {z w:List Nat}:eT .endswith (.str z) [.str w] st Q=(z.length<=aL/\Q (.bl<|w.isSuffixOf z) st):=rfl
theorem sD {z:List Nat}{c:Nat}:eT .split (.str z) [.str [c]] st Q=(z.length<aL/\fW ((aN c z).map .str) st Q):=rfl
theorem LW {z:List Nat}{c:Nat}:eT .partition (.str z) [.str [c]] st Q=(z.length<=aL/\Q (.tup [.str (part c z).1,.str (if z.any (·== c)=true then[c]else[]),.str (part c z).2]) st):=rfl
theorem Kj:iI .str [.int i] st Q=((0<=i/\i<1000000)/\Q (.str<|dg i.toNat) st):=rfl
theorem En {w:List Nat}:iI .int [.str w] st Q=((1<=w.length/\w.length<=6/\w.all iP=true)/\Q (.int (val w:Nat)) st):=rfl
theorem Fz:oV .get (.cF ks vs) st=True:=rfl
theorem Fv {s:List Nat}{d:D}:eT .join (.str s) [d] st Q=tZ d st λds=>dM (strsOf ds) λws=>(ws.map fw).sum+ws.length*s.length<=aL/\Q (.str<|aX s ws) st:=rfl
theorem GF {z w:List Nat}:eT .startswith (.str z) [.str w] st Q=(z.length<=aL/\Q (.bl<|w.isPrefixOf z) st):=rfl
theorem J6 {z w:List Nat}:eT .startswith (.str z) [.str w,.int i] st Q=((z.length<=aL/\0<=i/\i<=z.length)/\Q (.bl<|w.isPrefixOf<|z.drop i.toNat) st):=rfl
theorem Ni {w:List Nat}:eT .get (.cF ks vs) [.str w] st Q=Q ((eO ks vs<|.str w).getD .non) st:=rfl
theorem tJ:eT .append (.ref p) [x] st Q=cC st p λxs=>xs.length<aL/\Q .non (put st p<|.lst<|xs++[x]):=rfl
theorem yS:eT .extend (.ref p) [x] st Q=cC st p λxs=>tZ x st λys=>xs.length+ys.length<=aL/\Q .non (put st p<|.lst<|xs++ys):=rfl
theorem NR:eT .pop (.ref p) [] st Q=cC st p λxs=>dM (xs[xs.length-1]?) λd=>Q d<|put st p<|.lst xs.dropLast:=rfl
theorem Ey {R:aB->Prop}:G8 (.ref p) (.int i) x st R=cC st p λxs=>dM (oJ xs.length i) λj=>R<|put st p<|.lst<|xs.set j x:=rfl
theorem Im {n:Nat}:lO true [n] x σ R=R (σ.set n<|some x):=rfl
theorem UP {is:List Nat}:lO false is (.tup ds) σ R=(ds.length=is.length/\R ((is.zip ds).foldl (λσ p=>σ.set p.1<|some p.2) σ)):=rfl
end
theorem Ext.refl {st:aB}:Ext st st:=λ_ _ h=>h
theorem Ext.trans {a b c:aB}(h:Ext a b)(h':Ext b c):Ext a c:=λx o e=>h' x o<|h x o e
theorem Ext.new {st:aB}{p:Nat}{o:MO}(h:st p=none):Ext st<|put st p o:=λa u e=>Gb h e
theorem LO {st aA:aB}:same [] st aA:=λ_ h=>nomatch h
theorem comp_map {g:aB->Prop}{turn:D->aB->(Option D->aB->Prop)->Prop}{R:List D->aB->Prop}(f:D->D):∀(xs acc:List D)(st:aB),(∀aA,Ext st aA->g aA)->(∀x∈xs,∀aA (K:Option D->aB->Prop),Ext st aA->(∀aV,Ext aA aV->K (some<|f x) aV)->turn x aA K) ->acc.length+xs.length<=aL->(∀aA,Ext st aA->R (acc++xs.map f) aA)->iH g turn xs acc st R|[],acc,st,hg,_,_,hR=>⟨hg st .refl,by simpa using hR st .refl⟩|x::xs,acc,st,hg,ht,hl,hR=>by refine⟨hg st .refl,by simp at hl;lia,ht x (by simp) st _ .refl λaV h''=>?_⟩;refine comp_map f xs _ aV (λaA h=>hg aA<|h''.trans h) (λy hy aA K h=>ht y (by simp [hy]) aA K<|h''.trans h) (by simp at hl ⊢;lia) λaA h=>?_;simpa using hR aA<|h''.trans h
theorem pE {α:Type}(f:α->Bool):∀xs:List α,boolsOf (xs.map λx=>.bl<|f x)=some (xs.map f)|[]=>rfl|x::xs=>by simp [boolsOf,pE f xs]
theorem DX {α:Type}(f:α->Int):∀xs:List α,intsOf (xs.map λx=>.int<|f x)=some (xs.map f)|[]=>rfl|x::xs=>by simp [intsOf,DX f xs]
mutual
theorem wV {st:aB}:∀d:D,cL d=true->fY st d=true|.non,_=>rfl|.bl _,_=>rfl|.int _,_=>rfl|.str _,_=>rfl|.tup ds,h=>pZ ds h|.ref _,h=>by cases h|.cF _ _,h=>by cases h|.bR _,h=>by cases h|.exc _,h=>by cases h;theorem pZ {st:aB}:∀ds:List D,bK ds=true->iX st ds=true|[],_=>rfl|d::ds,h=>by simp![bK,ao]at h;simp![iX,ao];exact⟨wV d h.1,pZ ds h.2⟩end
theorem plain.s {d:D}(h:plain d){st:aB}:plainS st d:=⟨wV d h.1,h.2⟩
theorem sT.s (h:sT ds){st:aB}:fD st ds:=⟨pZ ds h.1,h.2⟩
theorem HH {x:List Nat}:plain<|.str x:=⟨rfl,cg _⟩
theorem HD:plain<|.int i:=⟨rfl,cg _⟩
theorem LJ {b:Bool}:plain<|.bl b:=⟨rfl,cg _⟩
theorem JH:plain .non:=⟨rfl,cg _⟩
theorem nI {x:List Nat}{st:aB}:plainS st<|.str x:=HH.s
theorem SG {st:aB}:plainS st<|.int i:=HD.s
theorem T7 {b:Bool}{st:aB}:plainS st<|.bl b:=LJ.s
theorem wH {st:aB}:plainS st .non:=JH.s
theorem pF:∀xs:List<|List Nat,sT<|xs.map .str|[]=>⟨rfl,cg _⟩|x::xs=>by have h:=pF xs;assumption
theorem jN {st:aB}{x y:List Nat}:bZ st (.str x) (.str y)=(x==y):=.trans rfl rfl
theorem GJ {st:aB}{x y:Int}:bZ st (.int x) (.int y)=(x==y):=.trans rfl rfl
theorem Ht {st:aB}{x y:Bool}:bZ st (.bl x) (.bl y)=(x==y):=.trans rfl rfl
theorem Eb {x y:List Nat}:fJ (.str x) (.str y)=(x==y):=.trans rfl rfl
theorem C4 {st:aB}(x:List Nat):∀xs:List<|List Nat,((xs.map D.str).any λd=>bZ st d<|.str x)=xs.contains x|[]=>rfl|y::xs=>by simp![aw,i7,C4 x xs];congr 1;exact wt
end L3
end
section
namespace L3
open PySem PySem.Spec PyProof.Rows L2
mutual
noncomputable def Cd (w:dh):D->Int|.str x=>hashStr w ⟨x.toArray⟩|.bl b=>reduceHash<|if b=true then 1 else 0|.tup ds=>reduceHash<|Builtin.Tuple.tupleHashOf<|W7 w ds|_=>0
noncomputable def W7 (w:dh):List D->List Int|[]=>[]|d::ds=>Cd w d::W7 w ds
end
noncomputable def Xi (w:dh)(x:D×Addr×Value):DictEntry:=⟨Cd w x.1,.ref x.2.1,x.2.2⟩
def Ub (a:Addr)(xs:List<|D×Addr×Value)(w:dh)(h:Heap):Prop:=∃o es ep,h.get? a=some o/\o.ExactDict/\o.data=.dict es ep/\es.toList=xs.map (Xi w)
noncomputable def Vl (a:Addr)(xs:List<|D×Addr×Value):HO:=.ext λ_ w h=>Ub a xs w h
def clsAt (K:ae)(c:List Nat)(C:Addr):Prop:=f9 K cq ⟨c.toArray⟩=some (some<|.ref C)
theorem clsAt.inj {K:ae}{c:List Nat}{C C':Addr}(h:clsAt K c C)(h':clsAt K c C'):C=C':=by have:=h.symm.trans h';injection this with e;injection e with e;injection e
def pA (K:ae)(H:Hp)(a:Addr)(vs:List V):Prop :=(∃o,H a=some (.frz o<|.lst vs))\/∃(o:Obj)(aD:Array Value)(n:Nat),K.lookup a=some o/\o.cls=.type "list" /\ o.dict=none/\o.data=.seq aD n/\aD.size<=sizeLine/\aS vs aD.toList
variable {H:Hp}{vs:List V}
theorem pA.sq {K:ae}{a:Addr}:pA K H a vs->eU K H a vs|.inl ⟨o,h⟩=>.inl<|.inr ⟨o,h⟩|.inr h=>.inr h
noncomputable def rD:AaW->D|.bool b=>.bl b|.int i=>.int i|.str x=>.str x.cps.toList|_=>.non
noncomputable def kK:AaW->Bool|.none=>true|.bool _=>true|.int _=>true|.str _=>true|_=>false
def Na (K:ae)(a:Addr)(ks vs:List D):Prop:=∃T:List<|Str×PyData,zr wu (λb=>K.lookup b) a T=true/\(T.all λp=>kK p.2)=true/\ks=T.map (λp=>.str p.1.cps.toList)/\vs=T.map λp=>rD p.2
mutual
inductive Rep (K:ae)(H:Hp):D->V->Prop where|non:Rep K H .non .non|bl (b:Bool):Rep K H (.bl b)<|.bl b|int (i:Int):Rep K H (.int i)<|.int i|str (x:List Nat):Rep K H (.str x)<|.str ⟨x.toArray⟩|tup {ds:List D}{a:Addr}{vs:List V}(h:fT K H a vs)(r:aM K H ds vs):Rep K H (.tup ds)<|.ref a|ref (a:Addr):Rep K H (.ref a)<|.ref a|bR {ds:List D}{a:Addr}{vs:List V}(h:pA K H a vs)(r:aM K H ds vs):Rep K H (.bR ds)<|.ref a|cF {ks vs:List D}{a:Addr}(h:Na K a ks vs):Rep K H (.cF ks vs) (.ref a)inductive aM (K:ae)(H:Hp):List D->List V->Prop where|nil:aM K H [] []|cons {d:D}{v:V}{ds:List D}{vs:List V}(h:Rep K H d v)(r:aM K H ds vs):aM K H (d::ds) (v::vs)end
def gZ (K:ae)(H:Hp)(fs:List<|List Nat×D)(ws:List<|Str×V):Prop:=ws.map (·.1)=fs.map (λp=>(⟨p.1.toArray⟩:Str))/\aM K H (fs.map (·.2)) (ws.map (·.2))
noncomputable def bears:HO->Bool|.lst _=>true|.ins _ _ _=>true|.ext _=>true|_=>false
def AD (K:ae)(H:Hp)(a:Addr):MO->Prop|.lst ds=>∃vs,H a=some (.lst vs)/\aM K H ds vs|.dic _ _=>False|.ins c fs=>∃C dx ws,clsAt K c C/\H a=some (.ins C dx ws)/\gZ K H fs ws|.tab ks vs=>∃(xs:List<|D×Addr×Value)(ws:List V),H a=some (Vl a xs)/\(a==xm)=false/\xs.map (·.1)=ks/\(xs.map (·.1)).Nodup/\aM K H ks (xs.map λx=>.ref x.2.1)/\(∀x∈xs,keyed x.1)/\aS ws (xs.map (·.2.2))/\aM K H vs ws
def aQ (K:ae)(st:aB)(H:Hp):Prop:=∀a o,st a=some o->AD K H a o
def Step (H:Hp)(st:aB)(H':Hp)(aA:aB):Prop:=∀a o,H a=some o->st a=none->H' a=some o/\aA a=none
theorem Step.refl {st:aB}:Step H st H st:=λ_ _ h n=>⟨h,n⟩
theorem Step.trans {H1 H2:Hp}{st aC aJ:aB}(a:Step H st H1 aC)(b:Step H1 aC H2 aJ):Step H st H2 aJ:=λx o h n=>let⟨h1,n1⟩:=a x o h n;b x o h1 n1
variable {v:V}{ds:List D}{R:VK}
section
variable {K:ae}{H' H1:Hp}{st aA aC:aB}{a p:Addr}{d:D}
theorem AD.bears {m:MO}(h:AD K H a m):∃o,H a=some o/\L3.bears o=true:=by cases m with|lst ds=>obtain⟨vs,q,_⟩:=h;exact⟨_,q,rfl⟩|dic _ _=>exact h.elim|ins c fs=>obtain⟨_,_,_,_,q,_⟩:=h;exact⟨_,q,rfl⟩|tab ks vs=>obtain⟨_,_,q,_⟩:=h;exact⟨_,q,rfl⟩
theorem aQ.NK (ok:aQ K st H){o:HO}(h:H a=some o)(n:L3.bears o=false):st a=none:=by cases e:st a with|none=>rfl|some u =>obtain⟨o',e1,e2⟩:=(ok a u e).bears;rw[h]at e1;cases e1;rw[n]at e2;cases e2
theorem aQ.fresh (ok:aQ K st H)(h:H a=none):st a=none:=by cases e:st a with|none=>rfl|some u =>obtain⟨o',e1,e2⟩:=(ok a u e).bears;rw[h]at e1;cases e1
theorem vX (ok:aQ K st H)(s:Step H st H' aA)(h:fT K H a vs):fT K H' a vs:=by
 rcases h with(h|⟨o,h⟩)|h;·exact .inl<|.inl (s a _ h<|ok.NK h rfl).1
 ·exact .inl<|.inr ⟨o,(s a _ h<|ok.NK h rfl).1⟩
 ·exact .inr h
theorem tO (ok:aQ K st H)(s:Step H st H' aA)(h:pA K H a vs):pA K H' a vs:=by
 rcases h with⟨o,h⟩|h;·exact .inl ⟨o,(s a _ h<|ok.NK h rfl).1⟩
 ·exact .inr h
mutual
theorem Rep.step (ok:aQ K st H)(s:Step H st H' aA):∀{d:D}{v:V},Rep K H d v->Rep K H' d v|_,_,.non=>.non|_,_,.bl b=>.bl b|_,_,.int i=>.int i|_,_,.str x=>.str x|_,_,.tup h r=>.tup (vX ok s h)<|aM.step ok s r|_,_,.ref a=>.ref a|_,_,.bR h r=>.bR (tO ok s h)<|aM.step ok s r|_,_,.cF h=>.cF h
theorem aM.step (ok:aQ K st H)(s:Step H st H' aA):∀{ds:List D}{vs:List V},aM K H ds vs->aM K H' ds vs|_,_,.nil=>.nil|_,_,.cons h r=>.cons (Rep.step ok s h) (aM.step ok s r)end
theorem AD.step (ok:aQ K st H)(s:Step H st H' aA){m:MO}(h:AD K H a m)(e:H' a=H a):AD K H' a m:=by cases m with|lst ds=>obtain⟨vs,q,r⟩:=h;exact⟨vs,e.trans q,r.step ok s⟩|dic _ _=>exact h|ins c fs=>obtain⟨C,dx,ws,q,q2,q3,r⟩:=h;exact⟨C,dx,ws,q,e.trans q2,q3,r.step ok s⟩|tab ks vs=>obtain⟨xs,ws,q,q0,q1,q2,q3,q4,q5,r⟩:=h;exact⟨xs,ws,e.trans q,q0,q1,q2,q3.step ok s,q4,q5,r.step ok s⟩
theorem aM.length:∀{ds:List D}{vs:List V},aM K H ds vs->ds.length=vs.length|_,_,.nil=>rfl|_,_,.cons _ r=>by simp [aM.length r]
theorem aM.get:∀{ds:List D}{vs:List V}{i:Nat}{d:D},aM K H ds vs->ds[i]? = some d->∃v,vs[i]? = some v/\Rep K H d v|_,_,_,_,.nil,e=>by simp at e|_,_,0,_,.cons h _,e=>by simp_all|_,_,i+1,d,.cons _ r,e=>by obtain⟨v,e1,e2⟩:=aM.get (i:=i) (d:=d) r (by simp_all);exact⟨v,by simp_all,e2⟩
theorem aM.append:∀{ds es:List D}{vs us:List V},aM K H ds vs->aM K H es us->aM K H (ds++es) (vs++us)|_,_,_,_,.nil,s=>s|_,_,_,_,.cons h r,s=>.cons h<|aM.append r s
theorem aM.take:∀{ds:List D}{vs:List V}(n:Nat),aM K H ds vs->aM K H (ds.take n) (vs.take n)|_,_,0,_=>by exact .nil|_,_,_+1,.nil=>by exact .nil|_,_,n+1,.cons h r=>by exact .cons h<|aM.take n r
theorem aM.drop:∀{ds:List D}{vs:List V}(n:Nat),aM K H ds vs->aM K H (ds.drop n) (vs.drop n)|_,_,0,r=>by simp_all|_,_,_+1,.nil=>by exact .nil|_,_,n+1,.cons _ r=>by exact aM.drop n r
theorem aM.set (h:Rep K H d v):∀{ds:List D}{vs:List V}(i:Nat),aM K H ds vs->aM K H (ds.set i d) (vs.set i v)|_,_,_,.nil=>by exact .nil|_,_,0,.cons _ r=>by exact .cons h r|_,_,i+1,.cons q r=>by exact .cons q<|aM.set h i r
theorem aM.dropLast (r:aM K H ds vs):aM K H ds.dropLast vs.dropLast:=by rw[lx,lx,r.length];exact r.take _
theorem aM.reverse:∀{ds:List D}{vs:List V},aM K H ds vs->aM K H ds.reverse vs.reverse|_,_,.nil=>by exact .nil|_,_,.cons h r=>by simp![mj];exact(aM.reverse r).append<|.cons h .nil
inductive QD (K:ae)(H:Hp)(st:aB)(R:VK)(v:V)(H':Hp):Prop where |mk (d:D)(aA:aB)(s:Step H st H' aA)(ok:aQ K aA H')(r:Rep K H' d v)(q:R d aA):QD K H st R v H'
inductive Ug (K:ae)(H:Hp)(st:aB)(R:List D->aB->Prop)(vs:List V)(H':Hp):Prop where |mk (ds:List D)(aA:aB)(s:Step H st H' aA)(ok:aQ K aA H')(r:aM K H' ds vs)(q:R ds aA):Ug K H st R vs H'
inductive QX (K:ae)(H:Hp)(st:aB)(R:aB->Prop)(H':Hp):Prop where |mk (aA:aB)(s:Step H st H' aA)(ok:aQ K aA H')(q:R aA):QX K H st R H'
theorem QD.here (ok:aQ K st H)(r:Rep K H d v)(h:R d st):QD K H st R v H:=⟨d,st,.refl,ok,r,h⟩
theorem QD.after (s:Step H st H1 aC)(h:QD K H1 aC R v H'):QD K H st R v H':=let⟨d,aA,s',ok,r,q⟩:=h;⟨d,aA,s.trans s',ok,r,q⟩
theorem kA {o:HO}(hp:H p=none):Step H st (upd H p o) st:=λa u h n=>by
 have e:a≠p:=λe=>by simp_all
 exact⟨by rw[aY e];exact h,n⟩
theorem tI {o:HO}{m:MO}(hp:H p=none):Step H st (upd H p o)<|put st p m:=λa u h n=>by
 have e:a≠p:=λe=>by simp_all
 exact⟨by rw[aY e];exact h,by rw[bS e];exact n⟩
theorem aQ.new {o:HO}(ok:aQ K st H)(hp:H p=none):aQ K st<|upd H p o:=λa u e=>by
 have ne:a≠p:=λz=>by obtain⟨o',q,_⟩:=(ok a u e).bears;rw[z,hp]at q;cases q
 exact(ok a u e).step ok (kA hp)<|aY ne
theorem aQ.Vk {o:HO}{m:MO}(ok:aQ K st H)(hp:H p=none)(r:AD K (upd H p o) p m):aQ K (put st p m)<|upd H p o:=λa u e=>by
 have s:Step H st (upd H p o)<|put st p m:=tI hp;by_cases ha:a=p;·subst ha;rw[bE]at e;cases e;exact r
 ·rw[bS ha]at e;exact(ok a u e).step ok s<|aY ha
theorem aQ.fW (ok:aQ K st H)(hp:H p=none)(r:aM K H ds vs):aQ K (put st p<|.lst ds)<|upd H p<|.lst vs:=λa u e=>by
 have s:Step H st (upd H p<|.lst vs)<|put st p<|.lst ds:=tI hp;by_cases ha:a=p;·subst ha;rw[bE]at e;cases e;exact⟨vs,dX,r.step ok s⟩
 ·rw[bS ha]at e;exact(ok a u e).step ok s<|aY ha
theorem QD.F9 (ok:aQ K st H)(r:aM K H ds vs)(hp:H p=none)(h:R (.tup ds) st):QD K H st R (.ref p) (upd H p<|.tup vs) :=⟨_,st,kA hp,ok.new hp,.tup (fT.of dX)<|r.step ok<|kA hp,h⟩
theorem QD.fW (ok:aQ K st H)(r:aM K H ds vs)(hp:H p=none)(h:∀p,st p=none->R (.ref p) (put st p<|.lst ds)):QD K H st R (.ref p) (upd H p<|.lst vs) :=⟨_,_,tI hp,ok.fW hp r,.ref p,h p<|ok.fresh hp⟩
theorem aQ.lst (ok:aQ K st H)(h:st a=some (.lst ds)):∃vs,H a=some (.lst vs)/\aM K H ds vs:=ok a _ h
theorem oR {o:HO}{m m':MO}(h:st a=some m):Step H st (upd H a o)<|put st a m':=λb u hb n=>by
 have e:b≠a:=λe=>by simp_all
 exact⟨by rw[aY e];exact hb,by rw[bS e];exact n⟩
theorem aQ.set (ok:aQ K st H){m:MO}(h:st a=some m)(r:aM K H ds vs):aQ K (put st a<|.lst ds)<|upd H a<|.lst vs:=λb u e=>by
 have s:Step H st (upd H a<|.lst vs)<|put st a<|.lst ds:=oR h;by_cases ha:b=a;·subst ha;rw[bE]at e;cases e;exact⟨vs,dX,r.step ok s⟩
 ·rw[bS ha]at e;exact(ok b u e).step ok s<|aY ha
theorem aQ.CV {o:HO}{m m':MO}(ok:aQ K st H)(h:st a=some m)(r:AD K (upd H a o) a m'):aQ K (put st a m')<|upd H a o:=λb u e=>by
 have s:Step H st (upd H a o)<|put st a m':=oR h;by_cases ha:b=a;·subst ha;rw[bE]at e;cases e;exact r
 ·rw[bS ha]at e;exact(ok b u e).step ok s<|aY ha
theorem QD.set (ok:aQ K st H){m:MO}(h:st a=some m)(r:aM K H ds vs)(rd:Rep K H d v)(q:R d<|put st a<|.lst ds):QD K H st R v (upd H a<|.lst vs) :=⟨d,_,oR h,ok.set h r,rd.step ok<|oR (m':=.lst ds) h,q⟩
end
def cQ (K:ae)(H:Hp)(ac:St)(σ:L2.St):Prop:=ac.length=σ.length/\∀(i:Nat)(d:D),ac[i]? = some (some d)->∃v,σ[i]? = some (some v)/\Rep K H d v
variable {ac:St}{σ:L2.St}
theorem cQ.step {K:ae}{H':Hp}{st aA:aB}(r:cQ K H ac σ)(ok:aQ K st H)(s:Step H st H' aA):cQ K H' ac σ :=⟨r.1,λi d e=>let⟨v,e1,e2⟩:=r.2 i d e;⟨v,e1,e2.step ok s⟩⟩
theorem cQ.set {K:ae}{d:D}(r:cQ K H ac σ)(i:Nat)(h:Rep K H d v):cQ K H (ac.set i<|some d)<|σ.set i<|some v:=by
 refine⟨by simpa using r.1,λj e hj=>?_⟩;by_cases q:j=i
 ·subst q;by_cases hl:j<ac.length;·rw[gu hl]at hj;cases hj;exact⟨v,by rw[gu<|by rw[<-r.1];exact hl],h⟩
  simp_all
 ·rw[fv<|fq q]at hj;obtain⟨u,e1,e2⟩:=r.2 j e hj;exact⟨u,by rw[fv<|fq q];exact e1,e2⟩
abbrev Jn:=St->aB->VK->Prop
inductive bW (K:ae)(te:Jn)(σ:L2.St)(H:Hp)(Q:L2.VK):Prop where |mk (ac:St)(st:aB)(R:VK)(r:cQ K H ac σ)(ok:aQ K st H)(q:te ac st R)(hq:∀v H',QD K H st R v H'->Q v H'):bW K te σ H Q
inductive gY (K:ae)(te:St->aB->(List D->aB->Prop)->Prop)(σ:L2.St)(H:Hp)(Q:List V->Hp->Prop):Prop where |mk (ac:St)(st:aB)(R:List D->aB->Prop)(r:cQ K H ac σ)(ok:aQ K st H)(q:te ac st R)(hq:∀vs H',Ug K H st R vs H'->Q vs H'):gY K te σ H Q
inductive jV (K:ae)(te:Jn)(σ:L2.St)(H:Hp)(Q:Bool->Hp->Prop):Prop where |mk (ac:St)(st:aB)(R:Bool->aB->Prop)(r:cQ K H ac σ)(ok:aQ K st H)(q:te ac st λd aA=>eH d aA λb=>R b aA)(hq:∀(b:Bool) H',QX K H st (R b) H'->Q b H'):jV K te σ H Q
variable {X:Cx}{e:cy}
theorem _root_.L2.PE.imp {t t':L2.TE}(i:∀σ H Q,t' σ H Q->t σ H Q)(h:PE X e t):PE X e t':=λpz s σ H Q I q=>h pz s σ H Q I<|i σ H Q q
variable {t:L2.TT}
theorem _root_.L2.PT.imp {t':L2.TT}(i:∀σ H Q,t' σ H Q->t σ H Q)(h:PT X e t):PT X e t':=λpz s σ H Q I q=>h pz s σ H Q I<|i σ H Q q
theorem _root_.L2.PW.imp {t':L2.TT}(i:∀σ H Q,t' σ H Q->t σ H Q)(h:PW X e t):PW X e t':=λwh pz s σ H Q I q=>h wh pz s σ H Q I<|i σ H Q q
variable {es:List cy}
theorem _root_.L2.PA.imp {t t':L2.TA}(i:∀σ H Q,t' σ H Q->t σ H Q)(h:PA X es t):PA X es t':=λpos pz s σ H Q I q=>h pos pz s σ H Q I<|i σ H Q q
variable {t:L2.TS}
theorem _root_.L2.PS.imp {e:Stmt}{t':L2.TS}(i:∀D σ H,t' D σ H->t D σ H)(h:PS X e t):PS X e t':=λpz s σ H D I q=>h pz s σ H D I<|i D σ H q
theorem _root_.L2.iY.imp {e:List Stmt}{t':L2.TS}(i:∀D σ H,t' D σ H->t D σ H)(h:iY X e t):iY X e t':=λpz s σ H D I q=>h pz s σ H D I<|i D σ H q
theorem nD:sizeLine=aL:=ku
variable {E:Value->aj->Prop}{xs:List Ex}{P:List D->Prop}
section
variable {C:aU}{sub:Nat->Nat->Bool}{E:XK}{a b c:cy}{x y z:Ex}{pos:Pos}
theorem vO {d:D}(h:PE X e<|tC v)(r:∀H,Rep X.K H d v):PE X e (bW X.K<|aI C sub E<|.c d) :=h.imp λσ H Q ⟨ac,st,R,_,ok,q,hq⟩=>by exact hq v H<|.here ok (r H) q
set_option tactic.hygienic true in
theorem Aw {i:Nat}(h:PE X e<|RT i):PE X e (bW X.K<|aI C sub E<|.v i) :=h.imp λσ H Q ⟨ac,st,R,r,ok,q,hq⟩=>by
 have q:fV ac i λd=>R d st:=q;unfold fV at q;split at q;·rename_i d ed;obtain⟨v,e1,e2⟩:=r.2 i d ed;exact⟨v,e1,hq v H<|.here ok e2 q⟩
 ·exact q.elim
theorem Qi:PA X [] (gY X.K<|bB C sub E []) :=D4.imp λσ H Q ⟨ac,st,R,r,ok,q,hq⟩=>by exact hq [] H ⟨[],st,.refl,ok,.nil,q⟩
theorem Ji (h:PE X e<|bW X.K<|aI C sub E x)(hs:PA X es<|gY X.K<|bB C sub E xs)(cM:sE X e es):PA X (e::es) (gY X.K<|bB C sub E<|x::xs) :=(rE h hs cM).imp λσ H Q ⟨ac,st,R,r,ok,q,hq⟩=>by refine⟨ac,st,_,r,ok,q,λv H1 ⟨d,aC,s1,aR,r1,q1⟩=>?_⟩;refine⟨ac,aC,_,r.step ok s1,aR,q1,λvs H2 ⟨ds,aJ,s2,cG,r2,q2⟩=>?_⟩;exact hq _ _ ⟨_,aJ,s1.trans s2,cG,.cons (r1.step aR s2) r2,q2⟩
theorem CG:∀(xs:List Ex){σ:St}{st:aB}{R:List D->aB->Prop},bU C C->bB C sub E xs σ st R->bB C sub E xs σ st λds aA=>ds.length=xs.length/\R ds aA|[],σ,st,R,_,h=>by exact⟨rfl,h⟩|x::xs,σ,st,R,hC,h=>by refine aT hC (λ_ _ z=>z) x (λd aA h'=>?_) h;exact cT hC (λ_ _ z=>z) xs (λds aV z=>⟨by simp_all,z.2⟩)<|CG xs hC h'
theorem Qs {k:Nat}(hC:bU C C)(hs:PA X es<|gY X.K<|bB C sub E xs)(hl:xs.length<=aL):PE X (.Tuple es k pos) (bW X.K<|aI C sub E<|.tup xs) :=(Ll hs).imp λσ H Q ⟨ac,st,R,r,ok,q,hq⟩=>by
 refine⟨ac,st,_,r,ok,CG xs hC q,λvs H1 ⟨ds,aC,s1,aR,r1,l1,q1⟩=>⟨?_,λp hp=>?_⟩⟩;·rw[<-r1.length,l1];exact hl
 ·exact hq _ _<|.after s1<|.F9 aR r1 hp q1
theorem Tw (hs:PA X es<|gY X.K<|bB C sub E xs):PE X (.List es pos) (bW X.K<|aI C sub E<|.lst xs) :=(Jy hs).imp λσ H Q ⟨ac,st,R,r,ok,q,hq⟩=>by
 refine⟨ac,st,_,r,ok,q,λvs H1 ⟨ds,aC,s1,aR,r1,q1⟩=>⟨?_,λp hp=>?_⟩⟩;·rw[<-r1.length];exact q1.1
 ·exact hq _ _<|.after s1<|.fW aR r1 hp q1.2
theorem two {r:R2}{te tf:Jn}{Q:L2.VK}{st:aB}{W:D->D->aB->Prop}(sr:cQ X.K H ac σ)(ok:aQ X.K st H)(q:te ac st λd aC=>tf ac aC λd' aJ=>W d d' aJ)(hq:∀v H',QD X.K H st R v H'->Q v H')(op:∀d d' v v' H2 aJ,aQ X.K aJ H2->Rep X.K H2 d v->Rep X.K H2 d' v'->W d d' aJ->r v v' H2 (QD X.K H2 aJ R))(mono:∀v v' H (Q Q':L2.VK),(∀v H,Q v H->Q' v H)->r v v' H Q->r v v' H Q'):Pb r (bW X.K te) (bW X.K tf) σ H Q:=by refine⟨ac,st,_,sr,ok,q,λv H1 ⟨d,aC,s1,aR,r1,q1⟩=>?_⟩;refine⟨ac,aC,_,sr.step ok s1,aR,q1,λv' H2 ⟨d',aJ,s2,cG,r2,q2⟩=>?_⟩;refine mono _ _ _ _ _ (λu H' z=>hq u H'<|.after (s1.trans s2) z)<|op d d' v v' H2 aJ cG (r1.step aR s2) r2 q2
theorem NM {g:Int->Int->V}(v v':V)(H:Hp)(Q Q':L2.VK)(h:∀v H,Q v H->Q' v H)(z:NU g v v' H Q):NU g v v' H Q':=let⟨i,j,e,e',q⟩:=z;⟨i,j,e,e',h _ _ q⟩
theorem A5 {P:Int->Int->Prop}{g:Int->Int->V}(v v':V)(H:Hp)(Q Q':L2.VK)(h:∀v H,Q v H->Q' v H)(z:rI P g v v' H Q):rI P g v v' H Q':=let⟨i,j,e,e',p,q⟩:=z;⟨i,j,e,e',p,h _ _ q⟩
end
theorem C6:fillsNumberSlot (.type "tuple") "mul" = pure false:=by z_go
theorem K9:seqRepeat? (.type "tuple")=pure (some<|.builtin "tuple.__mul__"):=by z_go
theorem GR (a:Int)(t:Tok)(l:Addr)(items:Array Value)(n:Nat)(dd:Option Addr)(sl:Array<|Option Value):Meets (Builtin.«int.__rmul__» ⟨[.int a t,.ref l],[]⟩) λ_ R s=>s.heap.get? l=some { cls:=.type "tuple", dict:=dd,data:=.seq items n,slots:=sl }/\R (.ok<|.ret Value.notImplemented) s :=.of_wp λprog w A R s h=>by obtain⟨hl,h⟩:=h;wp_walk;exact⟨_,rfl,h⟩
section
variable {prog:bp}{w:dh}{A:c5}{s:aj}
theorem N6 {l:Addr}{items:Array Value}{n:Nat}{dd:Option Addr}{sl:Array<|Option Value}{k:Int}{t:Tok}{Q:PySem.Fin->aj->Prop}(hl:s.heap.get? l=some { cls:=.type "tuple", dict:=dd,data:=.seq items n,slots:=sl })(h1:1<=k)(h2:k<1000)(hm:0<items.size)(hm2:items.size<=1000)(lH:k=1->Q (.done<|.ret<|.ref l) s)(h:Q (.done<|.ret<|.ref s.heap.objs.size) { s with heap:=s.heap.push { cls:=.type "tuple", data:=.seq ((au k.toNat items).foldl (·++ ·) #[]) } }):wpAny (model prog w) A (Builtin.«tuple.__mul__» ⟨[.ref l,.int k t],[]⟩) Q E s:=by
 have hT:s.TypeIs (.ref l) "tuple":=⟨_,hl,rfl⟩;unfold Builtin.«tuple.__mul__»;wp_walk;rw[if_neg<|by simp;lia];show wpAny _ _ (qi (.ref l) >>= _) _ _ s;refine ai<|wpAny_tupleItemsOf hl rfl ?_;have hne:items.isEmpty=false:=by rw[Array.isEmpty_eq_false_iff];intro z;rw[z]at hm;simp at hm
 have jp:wpAny (model prog w) A (if(decide (k<=0)||items.isEmpty)=true then do let __do_lift <-qy #[]ret __do_lift else have __do_jp:=λ(__r:Unit) =>have __do_jp:=λ(__r:Unit)=>do let __do_lift <- qy (vk (λx1 x2=>x1++x2) #[]<|au k.toNat items)ret __do_lift;;if vm (↑items.size*k)=true then do let __r <-unsupported "tuple.__mul__:memory"__do_jp __r else __do_jp ();if ↑items.size*k>(2 ^ 63-1) / 8 then do
      rule "tuple.repeat.no-memory"let __do_lift <-newExc (g7 "MemoryError") []let __r <-raiseNew __do_lift
      __do_jp __r else __do_jp ()) Q E s:=by
  rw[if_neg<|by rw[hne];simp;lia];have hmul:(items.size:Int)*k<=1000*1000:=AaX (by lia) (by lia) (by lia) (by cbv);have hmul0:0<=(items.size:Int)*k:=Int.mul_nonneg (by lia) (by lia);dsimp only;rw[if_neg<|by lia,if_neg<|by simp [vm,ku];lia];wp_walk;have oB:¬(vk (λx1 x2=>x1++x2) #[]<|au k.toNat items).size>sizeLine:=by
   have e1:=Zc items.toList k.toNat [];rw[bh]at e1;have e2:vk (λx1 x2=>x1++x2) #[] (au k.toNat items)=(au k.toNat items.toList).flatten.toArray:=by simpa using e1
   rw[e2,dw,uv,List.map_replicate,List.sum_replicate_nat,qs,ku];have:k.toNat*items.size<=1000*1000:=qk (by lia) hm2;lia
  rw[if_neg oB];wp_walk;exact h
 show wpAny _ _ (if(items.isEmpty||k==1)=true then _ else _) _ _ s;by_cases hk:k=1;·subst hk;rw[if_pos<|by simp];wp_walk;exact lH rfl
 ·rw[if_neg<|by rw[hne];simpa using hk];exact jp
end
noncomputable def By (K:ae):R2:=λx y H Q=>∃(a:Addr)(k:Int)(xs:List V),x=.ref a/\y=.int k/\fT K H a xs/\0<xs.length/\xs.length<=1000/\1<=k/\k<1000/\(k=1->Q (.ref a) H)/\∀p,H p=none->Q (.ref p) (upd H p<|.tup (au k.toNat xs).flatten)
theorem Ec:hZ X (jo .Mult)<|By X.K:=by
 intro pz s σ H x y v u Q I rx ry h;obtain⟨a,k,xs,rfl,rfl,hH,h0,h00,h1,h2,lH,q⟩:=h;cases rx;obtain⟨t,rfl⟩:=ry;obtain⟨aD,r,⟨⟨cls,dd,data,sl⟩,ho,hc,n,hd⟩,z⟩:=I.tuple hH;subst hc hd;have hl:=r.length;have hnew:=by have:=Zc aD k.toNat [];exact this
 refine vz (T :="tuple") (U :="int") (by cbv) ⟨_,ho,rfl⟩ (λs'=>Zv s' k t) C6 PySem.F.fills_int_mul y9 K9 PySem.F.slot_int_index.lookup<|mv y9 (Zv s k t) PySem.F.entry_int_rmul (PySem.F.args_int_rmul_2 _ _) (GR k t a aD.toArray n dd sl) ⟨ho,rfl,⟨_,ho,rfl⟩,jx PySem.F.slot_tuple_mul ⟨_,ho,rfl⟩ PySem.F.entry_tuple_mul (N6 ho h1 h2 (by simp_all) (by simp_all) (λe=>?_) ?_)<|PySem.F.args_tuple_mul_2 _ _⟩;·exact⟨_,rfl,.ref a,H,I,rfl,lH e⟩
 ·refine⟨_,rfl,.ref s.heap.objs.size,_,I.laid (λb u e=>aq _ e) (av _) ?_,rfl,q _<|I.bL.fresh<|av _⟩;refine⟨by rw[len_rep,ku];have:k.toNat*xs.length<=1000*1000:=qk (by lia) h00;lia,_,r.rep k.toNat,?_⟩;rw[hnew];exact oS.new s.heap _
section
theorem Cw {prog:bp}{w:dh}{A:c5}{s:aj}{t b:Addr}{ws:List Value}{Q:Value->aj->Prop}(ht:IsTup s.heap t #[])(hb:IsTup s.heap b ws.toArray)(h:Q (.ref b) s):wpAny (model prog w) A (jo .Add (.ref t)<|.ref b) Q E s:=by obtain⟨⟨cls,dd,data,sl⟩,ho,hc,n,hd⟩:=id ht;obtain⟨⟨cls2,dd2,data2,sl2⟩,ho2,hc2,n2,hd2⟩:=id hb;subst hc hd hc2 hd2;exact Aab ⟨_,ho,rfl⟩ ⟨_,ho2,rfl⟩ w8 Zl sj rq (qx _ _) (tuple_addW0 t b _ _ n n2 dd dd2 sl sl2<|by simp) ⟨ho,ho2,h⟩
noncomputable def Bo (K:ae):R2:=λx y H Q=>∃a b ys,x=.ref a/\y=.ref b/\fT K H a []/\fT K H b ys/\Q (.ref b) H
theorem Cq:hZ X (jo .Add)<|Bo X.K:=by intro pz s σ H x y v u Q I rx ry h;obtain⟨a,b,ys,rfl,rfl,ha,hb,q⟩:=h;cases rx;cases ry;obtain⟨aD,r1,p1,_⟩:=I.tuple ha;obtain⟨uI,r2,p2,_⟩:=I.tuple hb;have e:=r1.BC.mpr rfl;subst e;exact Cw p1 p2 ⟨.ref b,H,I,rfl,q⟩
noncomputable def Rf:R2:=λx y H Q=>∃i j,x=.str i/\y=.str j/\i.length+j.length<=sizeLine/\Q (.str<|i++j) H
noncomputable abbrev Bq (K:ae):R2:=λx y H Q=>NU (λi j=>.int<|i+j) x y H Q\/Rf x y H Q\/Bz K x y H Q\/Bo K x y H Q\/Mg x y H Q
theorem Gn:hZ X (jo .Add)<|Bq X.K:=hZ.or Oh<|hZ.or Q6<|hZ.or Cr<|hZ.or Cq Lp
theorem IU (x:Array Nat):∀(n:Nat)(acc:Array Nat),((au n x).foldl (·++ ·) acc).toList=acc.toList++(au n x.toList).flatten|0,acc=>by simp|n+1,acc=>by rw[qu,rk,IU x n _,qu,qa,uw,jd]
theorem Gq (x:List Nat){n:Int}(h0:0<=n):Abu ⟨x.toArray⟩ n=⟨((au n.toNat x).flatten).toArray⟩:=by
 unfold Abu;by_cases h1:n<1
 ·have e:n.toNat=0:=by lia
  rw[if_pos h1,e];rfl
 rw[if_neg h1];by_cases h2:n=1;·subst h2;simp
 by_cases h3:x=[];·subst h3;rw[if_pos<|by simp [g8]];simp
 ·rw[if_neg<|by simp![b9,beq_iff_eq,not_or];refine⟨h2,?_⟩;cases x with|nil=>exact absurd rfl h3|cons a r=>simp [g8]];congr 1;apply Array.ext';rw[IU];simp
noncomputable def Ah:R2:=λx y H Q=>∃z k,x=.str z/\y=.int k/\z.length<=1000/\0<=k/\k<1000/\Q (.str<|Abu z k) H
theorem Ee:hZ X (jo .Mult) Ah:=by
 intro pz s σ H x y v u Q I rx ry h;obtain⟨z,k,rfl,rfl,hl,h0,h1,q⟩:=h;obtain⟨t,rfl⟩:=rx;obtain⟨t',rfl⟩:=ry;refine SB.mul ⟨?_,λa b=>?_,λa b=>?_⟩ λt' tk=>⟨.str<|Abu z k,H,I.tok _,⟨_,rfl⟩,q⟩;·simp![zt,decide_eq_false_iff_not];lia
 ·have e:(z.length)*k<=1000*1000:=AaX (by lia) (by lia) (by lia) (by lia);have:=Int.le_ediv_of_mul_le (by lia)<|Int.le_trans e (by cbv:(1000*1000:Int)<=2 ^ 63-1);lia
 ·unfold Builtin.Str.tooLong sizeLine;have:z.length*k.toNat<=1000*1000:=qk hl (by lia);simp![decide_eq_false_iff_not];lia
noncomputable abbrev Bm (K:ae):R2:=λx y H Q=>rI SY (λi j=>.int<|i*j) x y H Q\/Pa x y H Q\/By K x y H Q\/Ah x y H Q
theorem Dm:hZ X (jo .Mult)<|Bm X.K:=hZ.or Hr<|hZ.or Kx<|hZ.or Ec Ee
noncomputable def Mb:vA->Operator |.add=>.Add|.sub=>.Sub|.mul=>.Mult|.fdiv=>.FloorDiv|.mod=>.Mod|.pow=>.Pow
noncomputable def RR (K:ae):vA->R2|.add=>Bq K|.sub=>NU λi j=>.int<|i-j|.mul=>Bm K|.fdiv=>rI Mv λi j=>.int<|i / j|.mod=>rI (λ_ j=>0<j) λi j=>.int<|i % j|.pow=>rI Ls λi j=>.int<|i ^ j.toNat
theorem Ow:∀op:vA,hZ X (jo<|Mb op)<|RR X.K op|.add=>Gn|.sub=>Nh|.mul=>Dm|.fdiv=>De|.mod=>Hs|.pow=>Jo
theorem VW {K:ae}:∀(op:vA)(v v':V)(H:Hp)(Q Q':L2.VK),(∀v H,Q v H->Q' v H)->RR K op v v' H Q->RR K op v v' H Q'
 |.add,v,v',H,Q,Q',h,z=>by
  rcases z with z|⟨i,j,e,e',l,q⟩|⟨a,b,xs,ys,e,e',s,s',n,l,q,q'⟩|⟨a,b,ys,e,e',s,s',q⟩|⟨l,b,xs,zs,e,e',s,s',n,q⟩;·exact .inl<|NM _ _ _ _ _ h z
  ·exact .inr<|.inl ⟨i,j,e,e',l,h _ _ q⟩
  ·exact .inr<|.inr<|.inl ⟨a,b,xs,ys,e,e',s,s',n,l,λz=>h _ _<|q z,λz p hp=>h _ _<|q' z p hp⟩
  ·exact .inr<|.inr<|.inr<|.inl ⟨a,b,ys,e,e',s,s',h _ _ q⟩
  ·exact .inr<|.inr<|.inr<|.inr ⟨l,b,xs,zs,e,e',s,s',n,λp hp=>h _ _<|q p hp⟩|.sub,v,v',H,Q,Q',h,z=>NM _ _ _ _ _ h z|.mul,v,v',H,Q,Q',h,z=>by
  rcases z with z|⟨l,k,xs,e,e',s,b1,b2,b3,q⟩|⟨l,k,xs,e,e',s,b1,b2,b3,b4,q0,q⟩|⟨z,k,e,e',b1,b2,b3,q⟩;·exact .inl<|A5 _ _ _ _ _ h z
  ·exact .inr<|.inl ⟨l,k,xs,e,e',s,b1,b2,b3,λp hp=>h _ _<|q p hp⟩
  ·exact .inr<|.inr<|.inl ⟨l,k,xs,e,e',s,b1,b2,b3,b4,λz=>h _ _<|q0 z,λp hp=>h _ _<|q p hp⟩
  ·exact .inr<|.inr<|.inr ⟨z,k,e,e',b1,b2,b3,h _ _ q⟩|.fdiv,v,v',H,Q,Q',h,z=>A5 _ _ _ _ _ h z|.mod,v,v',H,Q,Q',h,z=>A5 _ _ _ _ _ h z|.pow,v,v',H,Q,Q',h,z=>A5 _ _ _ _ _ h z
end
variable {P:Bool->Prop}
section
variable {K:ae}{st:aB}
theorem Rep.int_inv {i:Int}(r:Rep K H (.int i) v):v=.int i:=by cases r;rfl
theorem Rep.str_inv {x:List Nat}(r:Rep K H (.str x) v):v=.str ⟨x.toArray⟩:=by cases r;rfl
theorem Rep.gK {b:Bool}(r:Rep K H (.bl b) v):v=.bl b:=by cases r;rfl
theorem Rep.gE (r:Rep K H .non v):v=.non:=by cases r;rfl
theorem Rep.cY {a:Addr}(r:Rep K H (.ref a) v):v=.ref a:=by cases r;rfl
theorem Rep.cA (r:Rep K H (.tup ds) v):∃a vs,v=.ref a/\fT K H a vs/\aM K H ds vs:=by cases r with|tup h r=>exact⟨_,_,rfl,h,r⟩
theorem Rep.C2 {ks vs:List D}(r:Rep K H (.cF ks vs) v):∃a,v=.ref a/\Na K a ks vs:=by cases r with|cF h=>exact⟨_,rfl,h⟩
theorem Rep.mL (r:Rep K H (.bR ds) v):∃a vs,v=.ref a/\pA K H a vs/\aM K H ds vs:=by cases r with|bR h r=>exact⟨_,_,rfl,h,r⟩
set_option tactic.hygienic true in
theorem dP {a:Nat}{P:List D->Prop}(h:cC st a P):∃ds,st a=some (.lst ds)/\P ds:=by
 unfold cC at h;split at h;·rename_i ds e;exact⟨ds,e,h⟩
 ·exact h.elim
set_option tactic.hygienic true in
theorem tQ {a:Nat}{P:List D->Prop}{M:List D->List D->Prop}(ok:aQ K st H)(h:eD st a P M):∃ds,st a=some (.lst ds)/\P ds:=by
 unfold eD at h;split at h;·rename_i ds e;exact⟨ds,e,h⟩
 ·rename_i e;exact(ok _ _ e).elim
 ·exact h.elim
theorem fO {α:Type}{o:Option α}{P:α->Prop}(h:dM o P):∃x,o=some x/\P x:=by
 unfold dM at h;split at h;·exact⟨_,rfl,h⟩
 ·exact h.elim
theorem F8 (x y:List Nat):(⟨x.toArray⟩:Str)++⟨y.toArray⟩=⟨(x++y).toArray⟩:=by show Str.mk _=Str.mk _;simp
theorem aM.nil_inv (r:aM K H [] vs):vs=[]:=by cases r;rfl
theorem aM.flat {ds:List D}{vs:List V}(r:aM K H ds vs):∀k:Nat,aM K H (au k ds).flatten (au k vs).flatten|0=>.nil|k+1=>by exact r.append<|aM.flat r k
set_option tactic.hygienic true in
theorem U0 {op:vA}{d d':D}{v':V}(ok:aQ K st H)(r:Rep K H d v)(r':Rep K H d' v')(h:jD op d d' st R):RR K op v v' H<|QD K H st R:=by
 cases op<;>cases d<;>first|exact(show False from h).elim|(cases d'<;>first|exact(show False from h).elim|skip)
 ·cases r.int_inv;cases r'.int_inv;exact .inl ⟨_,_,rfl,rfl,.here ok (.int _) h⟩
 ·rename_i a b;cases r.str_inv;cases r'.str_inv;refine .inr<|.inl ⟨_,_,rfl,rfl,?_,?_⟩;·rw[nD];simpa [g8]using h.1
  ·rw[F8];exact .here ok (.str _) h.2
 ·rename_i ds es;obtain⟨a,vs,rfl,s1,q1⟩:=r.cA;obtain⟨b,us,rfl,s2,q2⟩:=r'.cA;cases ds with|nil =>cases q1.nil_inv;exact .inr<|.inr<|.inr<|.inl ⟨a,b,us,rfl,rfl,s1,s2,.here ok r'<|by simpa using h.2⟩|cons d ds =>
   refine .inr<|.inr<|.inl ⟨a,b,vs,us,rfl,rfl,s1,s2,?_,?_,λe=>?_,λ_ p hp=>.F9 ok (q1.append q2) hp h.2⟩;·intro e;subst e;cases q1
   ·rw[nD,<-q1.length,<-q2.length];exact h.1
   ·subst e;cases q2;exact .here ok r<|by simpa using h.2
 ·rename_i a b;cases r.cY;cases r'.cY;obtain⟨xs,e1,h⟩:=dP h;obtain⟨ys,e2,h⟩:=dP h;obtain⟨vs,g1,q1⟩:=ok.lst e1;obtain⟨us,g2,q2⟩:=ok.lst e2;refine .inr<|.inr<|.inr<|.inr ⟨a,b,vs,us,rfl,rfl,g1,g2,?_,λp hp=>.fW ok (q1.append q2) hp h.2⟩;rw[nD,<-q1.length,<-q2.length];simpa using h.1
 ·cases r.int_inv;cases r'.int_inv;exact⟨_,_,rfl,rfl,.here ok (.int _) h⟩
 ·cases r.int_inv;cases r'.int_inv;exact .inl ⟨_,_,rfl,rfl,h.1.imp (λz=>z) λz=>z,.here ok (.int _) h.2⟩
 ·rename_i xs k;cases r.str_inv;cases r'.int_inv;obtain⟨⟨c1,c2,c3⟩,h⟩:=h;refine .inr<|.inr<|.inr ⟨_,k,rfl,rfl,by simpa [g8]using c1,c2,c3,?_⟩;rw[Gq xs c2];exact .here ok (.str _) h
 ·rename_i xs k;obtain⟨a,vs,rfl,f,g⟩:=r.cA;cases r'.int_inv;obtain⟨⟨c1,c2,c3,c4⟩,h⟩:=h;refine .inr<|.inr<|.inl ⟨a,k,vs,rfl,rfl,f,by rw[<-g.length];exact c1,by rw[<-g.length];exact c2,c3,c4,λe=>?_,λp hp=>.F9 ok (g.flat _) hp h⟩;subst e;have e1:(au (1:Int).toNat xs).flatten=xs:=by simp
  rw[e1]at h;exact .here ok r h
 ·rename_i a k;cases r.cY;cases r'.int_inv;obtain⟨xs,e1,h1,h2,h⟩:=dP h;obtain⟨vs,g1,q1⟩:=ok.lst e1;refine .inr<|.inl ⟨a,k,vs,rfl,rfl,g1,by omega,by omega,?_,λp hp=>.fW ok (q1.flat _) hp h.2⟩;rw[nD,<-q1.length];exact h1
 ·cases r.int_inv;cases r'.int_inv;exact⟨_,_,rfl,rfl,h.1,.here ok (.int _) h.2⟩
 ·cases r.int_inv;cases r'.int_inv;exact⟨_,_,rfl,rfl,h.1,.here ok (.int _) h.2⟩
 ·cases r.int_inv;cases r'.int_inv;exact⟨_,_,rfl,rfl,h.1,.here ok (.int _) h.2⟩
end
variable {op:BoolOp}
section
variable {C:aU}{sub:Nat->Nat->Bool}{E:XK}{a b c:cy}{x y z:Ex}{pos:Pos}
theorem Pm {op:vA}(ha:PE X a<|bW X.K<|aI C sub E x)(hb:PE X b<|bW X.K<|aI C sub E y):PE X (.BinOp a (Mb op) b pos) (bW X.K<|aI C sub E<|.bin op x y) :=(Pz (Ow op) ha hb).imp λσ H Q ⟨ac,st,R,r,ok,q,hq⟩=>by exact two r ok q hq (λd d' v v' H2 aJ cG r1 r2 h=>U0 cG r1 r2 h)<|VW op
theorem Sr (ha:PE X a<|bW X.K<|aI C sub E x):PE X (.UnaryOp .USub a pos) (bW X.K<|aI C sub E<|.neg x) :=(Rv Od ha).imp λσ H Q ⟨ac,st,R,r,ok,q,hq⟩=>by
 refine⟨ac,st,_,r,ok,q,λv H1 ⟨d,aC,s1,aR,r1,q1⟩=>?_⟩;unfold CZ at q1;split at q1;·cases r1.int_inv;exact⟨_,rfl,hq _ _<|.after s1<|.here aR (.int _) q1⟩
 ·exact q1.elim
noncomputable def Xb (d:D)(st:aB):Option Bool:=match d with
 |.non=>some false|.bl b=>some b|.int i=>some<|i != 0|.str x=>if x.length<=aL then some (!x.isEmpty)else none|.tup ds=>some<|!ds.isEmpty|.ref a=>match st a with|some<|.lst ds=>some<|!ds.isEmpty|some<|.dic ks _=>some<|!ks.isEmpty|some _=>none|none=>none
 |.bR ds=>some<|!ds.isEmpty|_=>none
set_option tactic.hygienic true in
theorem xC {d:D}{st:aB}:eH d st P↔∃k,Xb d st=some k/\P k:=by cases d with
 |str x =>
  show x.length<=aL/\P _↔∃k,(if x.length<=aL then some _ else none)=some k/\P k;split;·rename_i h;exact⟨λz=>⟨_,rfl,z.2⟩,λ⟨k,e,q⟩=>⟨h,by simp_all⟩⟩
  ·rename_i h;exact⟨λz=>(h z.1).elim,λ⟨k,e,q⟩=>by cases e⟩|ref a =>show eD st a _ _↔∃k,(match st a with|some<|.lst ds=>some _|some<|.dic ks _=>some _|some _=>none|none=>none)=some k/\P k;unfold eD;cases st a with|none=>simp_all|some o=>cases o with|lst ds=>exact⟨λz=>⟨_,rfl,z⟩,λ⟨k,e,q⟩=>by simp_all⟩|dic ks vs=>exact⟨λz=>⟨_,rfl,z⟩,λ⟨k,e,q⟩=>by simp_all⟩|ins _ _=>simp|tab _ _=>simp
 |cF _ _=>exact⟨λz=>z.elim,λ⟨k,e,q⟩=>by cases e⟩|exc _=>exact⟨λz=>z.elim,λ⟨k,e,q⟩=>by cases e⟩|_=>exact⟨λz=>⟨_,rfl,z⟩,λ⟨k,e,q⟩=>by cases e;exact q⟩
theorem jB {α:Type}(x:List α):(!x.isEmpty)=(((x.length:Nat):Int) != 0):=by cases x with|nil=>rfl|cons a r =>simp![sk,bu,ag];symm;rw[bne_iff_ne];lia
theorem yH {K:ae}{st:aB}{d:D}(ok:aQ K st H)(r:Rep K H d v)(h:eH d st P):∃k,ZD K v H k/\P k:=by
 unfold eH at h;split at h;·cases r.gE;exact⟨_,rfl,h⟩
 ·cases r.gK;exact⟨_,rfl,h⟩
 ·cases r.int_inv;exact⟨_,rfl,h⟩
 ·cases r.str_inv;refine⟨_,⟨by rw[nD];simpa [g8]using h.1,?_⟩,h.2⟩;rw[jB];simp [g8]
 ·obtain⟨a,vs,rfl,s1,q1⟩:=r.cA;refine⟨_,.inr<|.inl ⟨vs,s1,?_⟩,h⟩;rw[jB,jB,q1.length]
 ·cases r.cY;obtain⟨ds,e,h⟩:=tQ ok h;obtain⟨vs,g,q⟩:=ok.lst e;refine⟨_,.inl ⟨vs,eU.of g,?_⟩,h⟩;rw[jB,jB,q.length]
 ·obtain⟨a,vs,rfl,s1,q1⟩:=r.mL;refine⟨_,.inl ⟨vs,s1.sq,?_⟩,h⟩;rw[jB,jB,q1.length]
 ·exact h.elim
theorem Y6 (h:PE X e<|bW X.K<|aI C sub E x)(he:∀whole,Zq e X.env whole=do let v <-whole;og e.pos;jm [v]<|Abp v):PT X e (jV X.K<|aI C sub E x) :=(XM h he).imp λσ H Q ⟨ac,st,R,r,ok,q,hq⟩=>by refine⟨ac,st,_,r,ok,q,λv H1 ⟨d,aC,s1,aR,r1,q1⟩=>?_⟩;obtain⟨k,t,z⟩:=yH aR r1 q1;exact⟨k,t,hq _ _ ⟨aC,s1,aR,z⟩⟩
theorem Mm (h:PT X e<|jV X.K<|aI C sub E x):PT X (.UnaryOp .Not e pos) (jV X.K<|aI C sub E<|.not_ x) :=(L9 h).imp λσ H Q ⟨ac,st,R,r,ok,q,hq⟩=>by exact⟨ac,st,_,r,ok,q,λb H1 z=>hq _ _ z⟩
theorem Sk (h:PE X e<|bW X.K<|aI C sub E x):PE X (.UnaryOp .Not e pos)<|bW X.K<|aI C sub E<|.not_ x:=by intro pz s σ H Q I ⟨ac,st,R,r,ok,q,hq⟩;refine UnaryOp_<|bA (h pz s σ H _ I ⟨ac,st,_,r,ok,q,λv H' z=>z⟩) λu s1 ⟨v,H1,I1,rv,d,aC,st1s,aR,r1,q1⟩=>?_;obtain⟨k,t,z⟩:=yH aR r1 q1;exact not_of<|bA (M2 pz s1 σ H1 v u _ I1 rv ⟨k,t,hq _ _<|.after st1s<|.here aR (.bl _) z⟩) λb s2 ⟨H2,I2,w⟩=>⟨.bl !b,H2,I2,rfl,w⟩
theorem Kt (h:PT X e<|jV X.K<|aI C sub E x):PW X (.BoolOp op [e] pos)<|jV X.K<|aI C sub E x:=by
 cases op;·exact Hg h
 ·exact T9 h
theorem Jj {rest:List cy}(hC:bU C C)(ha:PT X a<|jV X.K<|aI C sub E x)(hb:PW X (.BoolOp .And (b::rest) pos)<|jV X.K<|aI C sub E y):PW X (.BoolOp .And (a::b::rest) pos) (jV X.K<|aI C sub E<|.and_ x y) :=(Mx ha hb).imp λσ H Q ⟨ac,st,R,r,ok,q,hq⟩=>by
 refine⟨ac,st,λk aC=>if k=true then aI C sub E y ac aC λd aA=>eH d aA λb=>R b aA else R false aC,r,ok,aT hC (λ_ _ z=>z) x (λd aC z=>?_) q,λk H1 ⟨aC,s1,aR,z⟩=>?_⟩;·rw[xC]at z ⊢;obtain⟨k,t,z⟩:=z;refine⟨k,t,?_⟩;cases k with|true=>exact z|false =>have z':eH d aC λb=>R b aC:=z;rw[xC]at z';obtain⟨k',t',z'⟩:=z';rw[t]at t';cases t';exact z'
 ·cases k with|true=>exact⟨ac,aC,R,r.step ok s1,aR,z,λk H2 ⟨aJ,s2,cG,w⟩=>hq _ _ ⟨aJ,s1.trans s2,cG,w⟩⟩|false=>exact hq _ _ ⟨aC,s1,aR,z⟩
theorem Te {rest:List cy}(hC:bU C C)(ha:PT X a<|jV X.K<|aI C sub E x)(hb:PW X (.BoolOp .Or (b::rest) pos)<|jV X.K<|aI C sub E y):PW X (.BoolOp .Or (a::b::rest) pos) (jV X.K<|aI C sub E<|.or_ x y) :=(RN ha hb).imp λσ H Q ⟨ac,st,R,r,ok,q,hq⟩=>by
 refine⟨ac,st,λk aC=>if k=true then R true aC else aI C sub E y ac aC λd aA=>eH d aA λb=>R b aA,r,ok,aT hC (λ_ _ z=>z) x (λd aC z=>?_) q,λk H1 ⟨aC,s1,aR,z⟩=>?_⟩;·rw[xC]at z ⊢;obtain⟨k,t,z⟩:=z;refine⟨k,t,?_⟩;cases k with|false=>exact z|true =>have z':eH d aC λb=>R b aC:=z;rw[xC]at z';obtain⟨k',t',z'⟩:=z';rw[t]at t';cases t';exact z'
 ·cases k with|false=>exact⟨ac,aC,R,r.step ok s1,aR,z,λk H2 ⟨aJ,s2,cG,w⟩=>hq _ _ ⟨aJ,s1.trans s2,cG,w⟩⟩|true=>exact hq _ _ ⟨aC,s1,aR,z⟩
theorem Sj {rest:List cy}(ha:PE X a<|bW X.K<|aI C sub E x)(hb:PE X (.BoolOp .And (b::rest) pos)<|bW X.K<|aI C sub E y):PE X (.BoolOp .And (a::b::rest) pos)<|bW X.K<|aI C sub E<|.and_ x y:=by intro pz s σ H Q I ⟨ac,st,R,r,ok,q,hq⟩;refine BoolOp_and<|bA (ha pz s σ H _ I ⟨ac,st,_,r,ok,q,λv H' z=>z⟩) λu s1 ⟨v,H1,I1,rv,d,aC,st1s,aR,r1,q1⟩=>?_;obtain⟨k,t,z⟩:=yH aR r1 q1;refine bA (M2 pz s1 σ H1 v u (λb H'=>b=k/\H'=H1) I1 rv ⟨k,t,rfl,rfl⟩) λb s2 ⟨H2,I2,e,e'⟩=>?_;subst e e';cases b with|true=>exact hb pz s2 σ H2 Q I2 ⟨ac,aC,R,r.step ok st1s,aR,z,λv H' w=>hq _ _<|.after st1s w⟩|false=>exact⟨v,H2,I2,rv,hq _ _<|.after st1s<|.here aR r1 z⟩
theorem Tv (h:PE X e<|bW X.K<|aI C sub E x):PE X (.BoolOp op [e] pos)<|bW X.K<|aI C sub E x:=Ia h
end
end L3
end
section
namespace L3
open PySem PySem.Spec PyProof.Rows L2 PySem.SeqAt
mutual
theorem MS:∀d:D,cL d=true->fJ d d=true|.non,_=>rfl|.bl b,_=>beq_self_eq_true b|.int i,_=>beq_self_eq_true i|.str x,_=>beq_self_eq_true x|.tup ds,h=>pS ds h|.ref _,h=>by simp [cL]at h|.cF _ _,h=>by simp [cL]at h|.bR _,h=>by simp [cL]at h|.exc _,h=>by simp [cL]at h;theorem pS:∀ds:List D,bK ds=true->mG ds ds=true|[],_=>rfl|d::ds,h=>by simp![bK,ao]at h;simp![mG,ao];exact⟨MS d h.1,pS ds h.2⟩end
theorem nU:∀{ds:List D}{d:D},bK ds=true->d∈ds->cL d=true
 |e::ds,d,h,m=>by
  simp![bK,ao]at h;rcases List.mem_cons.mp m with rfl|m;·exact h.1
  ·exact nU h.2 m
theorem qC:∀{ds:List D}{d:D},d∈ds->dN d<=cN ds
 |e::ds,d,m=>by
  simp![cN];rcases List.mem_cons.mp m with rfl|m;·lia
  ·have:=qC m;lia
theorem DB:∀{ds es:List D}(e:Nat->Bool),(∀j d d',ds[j]? = some d->es[j]? = some d'->e j=fJ d d')->((b7<|min ds.length es.length).all e&&ds.length==es.length)=mG ds es
 |[],[],e,h=>rfl|[],_::_,e,h=>rfl|_::_,[],e,h=>rfl|d::ds,d'::es,e,h=>by
  have ih:=DB (λj=>e<|j+1) λj x x' e1 e2=>h _ x x' (by assumption) (by assumption);have h0:=h 0 d d' rfl rfl;simp![mG,ag,zd,ou,fm,je,sv];rw[<-ih,h0];have hl:(ds.length+1==es.length+1)=(ds.length==es.length):=by simp
  rw[hl,zu]
variable {ds:List D}
theorem TQ {es:List D}(e:Nat->Bool)(hl:ds.length=es.length)(h:∀j d d',ds[j]? = some d->es[j]? = some d'->e j=fJ d d'):(b7 ds.length).all e=mG ds es:=by rw[<-DB e h,<-hl];simp
theorem NA:∀{ds es:List D},ds.length≠es.length->mG ds es=false|[],[],h=>(h rfl).elim|[],_::_,h=>rfl|_::_,[],h=>rfl|d::ds,d'::es,h=>by simp![mG,NA (ds:=ds) (es:=es)<|by simp_all,dt]
variable {X:Cx}{pz:List<|Addr×Obj}{σ:L2.St}{H:Hp}{vs us:List V}{aD:Array Value}{d':D}{v v':V}{u u':Value}{l b:Addr}
section
variable {s:aj}{st:aB}
theorem aS.at {aD:List Value}(r:aS vs aD){j:Nat}(h:j<aD.toArray.size):∃v,vs[j]? = some v/\RelV v aD.toArray[j]:=by
 have hl:=r.length;have hj:j<vs.length:=by simp_all
 obtain⟨u,e1,e2⟩:=aS.get r<|br hj;refine⟨_,br hj,?_⟩;rw[v5]at e1;obtain⟨h1,e1⟩:=e1;simp![List.getElem_toArray,e1];exact e2
theorem aM.get' {K:ae}:∀{ds:List D}{vs:List V}{i:Nat}{v:V},aM K H ds vs->vs[i]? = some v->∃d,ds[i]? = some d/\Rep K H d v|_,_,_,_,.nil,e=>by simp at e|_,_,0,_,.cons h _,e=>by simp_all|_,_,i+1,v,.cons _ r,e=>by obtain⟨d,e1,e2⟩:=aM.get' (i:=i) (v:=v) r (by simp_all);exact⟨d,by simp_all,e2⟩
set_option tactic.hygienic true in
theorem FP (I:Inv X pz σ H s):∀(n:Nat){d d':D}{v:V},dN d<=n->cL d=true->cL d'=true->Rep X.K H d v->Rep X.K H d' v->d=d':=by
 have key:∀(n:Nat){d d':D}{v:V},dN d<n->cL d=true->cL d'=true->Rep X.K H d v->Rep X.K H d' v->d=d':=by intro n;induction n with|zero=>exact λhn=>absurd hn<|uh _|succ n ih =>
   intro d d' v hn p p' r r';cases r<;>cases r'<;>first|rfl|(simp [cL]at p;done)|(simp [cL]at p')|skip
   rename_i ds a vs h r es us r' h';cases I.tK h h';have go:∀(ds es:List D)(vs:List V),cN ds<n->bK ds=true->bK es=true->aM X.K H ds vs->aM X.K H es vs->ds=es:=by intro ds;induction ds with|nil=>intro es vs _ _ _ r r';cases r;cases r';rfl|cons d ds ihs =>intro es vs hd pp pp' r r';cases r with|cons r1 r2=>cases r' with |cons r1' r2' =>simp only[cN]at hd;simp only[bK,ao]at pp pp';rw[ih (by omega) pp.1 pp'.1 r1 r1',ihs _ _ (by omega) pp.2 pp'.2 r2 r2']
   rw[go ds es vs (by simp only[dN]at hn;omega) (by assumption) (by simp_all) r r']
 intro n d d' v hn;exact key (n+1)<|sy hn
def vK (A:c5)(s:aj)(u u':Value)(b:Bool):Prop:=RcAt A s u u' b/\EqAt A s u u' b/\RcNeAt A s u u' (!b)
noncomputable def pK:D->Bool|.non=>true|.bl _=>true|.int _=>true|.str _=>true|_=>false
theorem Ip (x y:List Nat):((⟨x.toArray⟩:Str)==⟨y.toArray⟩)=(x==y):=by rw[<-str_beq]
theorem CL {K:ae}{A:c5}{d:D}(p:pK d=true)(p':pK d'=true)(r:Rep K H d v)(rv:RelV v u)(r':Rep K H d' v')(bQ:RelV v' u'):vK A s u u'<|fJ d d':=by cases d with
 |non=>cases d' with|non =>cases r.gE;cases rv;cases r'.gE;cases bQ;exact⟨RcAt.none_none,Abl _,RcNeAt.none_none⟩|bl b' =>cases r.gE;cases rv;cases r'.gK;cases bQ;exact⟨RcAt.none_bool _,EqAt.none_bool _,RcNeAt.none_bool _⟩|int i' =>cases r.gE;cases rv;cases r'.int_inv;obtain⟨_,rfl⟩:=bQ;exact⟨RcAt.none_int _ _,EqAt.none_int _ _,RcNeAt.none_int _ _⟩|str x' =>cases r.gE;cases rv;cases r'.str_inv;obtain⟨_,rfl⟩:=bQ;exact⟨RcAt.none_str _ _,EqAt.none_str _ _,RcNeAt.none_str _ _⟩|_=>cases p'
 |bl b=>cases d' with|non =>cases r.gK;cases rv;cases r'.gE;cases bQ;exact⟨RcAt.bool_none _,EqAt.bool_none _,RcNeAt.bool_none _⟩|bl b' =>cases r.gK;cases rv;cases r'.gK;cases bQ;exact⟨RcAt.bool_bool _ _,EqAt.bool_bool _ _,RcNeAt.bool_bool _ _⟩|int i' =>cases r.gK;cases rv;cases r'.int_inv;obtain⟨_,rfl⟩:=bQ;exact⟨RcAt.bool_int _ _ _,EqAt.bool_int _ _ _,RcNeAt.bool_int _ _ _⟩|str x' =>cases r.gK;cases rv;cases r'.str_inv;obtain⟨_,rfl⟩:=bQ;exact⟨RcAt.bool_str _ _ _,EqAt.bool_str _ _ _,RcNeAt.bool_str _ _ _⟩|_=>cases p'
 |int i=>cases d' with|non =>cases r.int_inv;obtain⟨_,rfl⟩:=rv;cases r'.gE;cases bQ;exact⟨RcAt.int_none _ _,EqAt.int_none _ _,RcNeAt.int_none _ _⟩|bl b' =>cases r.int_inv;obtain⟨_,rfl⟩:=rv;cases r'.gK;cases bQ;exact⟨RcAt.int_bool _ _ _,EqAt.int_bool _ _ _,RcNeAt.int_bool _ _ _⟩|int i' =>cases r.int_inv;obtain⟨_,rfl⟩:=rv;cases r'.int_inv;obtain⟨_,rfl⟩:=bQ;exact⟨RcAt.int_int _ _ _ _,EqAt.int_int _ _ _ _,RcNeAt.int_int _ _ _ _⟩|str x' =>cases r.int_inv;obtain⟨_,rfl⟩:=rv;cases r'.str_inv;obtain⟨_,rfl⟩:=bQ;exact⟨RcAt.int_str _ _ _ _,EqAt.int_str _ _ _ _,RcNeAt.int_str _ _ _ _⟩|_=>cases p'
 |str x=>cases d' with|non =>cases r.str_inv;obtain⟨_,rfl⟩:=rv;cases r'.gE;cases bQ;exact⟨RcAt.str_none _ _,EqAt.str_none _ _,RcNeAt.str_none _ _⟩|bl b' =>cases r.str_inv;obtain⟨_,rfl⟩:=rv;cases r'.gK;cases bQ;exact⟨RcAt.str_bool _ _ _,EqAt.str_bool _ _ _,RcNeAt.str_bool _ _ _⟩|int i' =>cases r.str_inv;obtain⟨_,rfl⟩:=rv;cases r'.int_inv;obtain⟨_,rfl⟩:=bQ;exact⟨RcAt.str_int _ _ _ _,EqAt.str_int _ _ _ _,RcNeAt.str_int _ _ _ _⟩|str x' =>
   cases r.str_inv;obtain⟨_,rfl⟩:=rv;cases r'.str_inv;obtain⟨_,rfl⟩:=bQ;have e:fJ (.str x) (.str x')=((⟨x.toArray⟩:Str)==⟨x'.toArray⟩):=by rw[Ip];rfl
   rw[e];exact⟨RcAt.str_str _ _ _ _,EqAt.str_str _ _ _ _,RcNeAt.str_str _ _ _ _⟩|_=>cases p'
 |_=>cases p
theorem jJ {K:ae}{A:c5}(hl:s.heap.IsTuple l aD)(hu:A.units<cLine)(p':pK d'=true)(r':Rep K H d' v')(bQ:RelV v' u'):vK A s (.ref l) u' false/\vK A s u' (.ref l) false:=by cases d' with|non =>cases r'.gE;cases bQ;exact⟨⟨RcAt.tuple_none hl hu,EqAt.tuple_none hl hu,RcNeAt.tuple_none hl hu⟩,⟨RcAt.none_tuple hl hu,EqAt.none_tuple hl hu,RcNeAt.none_tuple hl hu⟩⟩|bl b =>cases r'.gK;cases bQ;exact⟨⟨RcAt.tuple_bool _ hl hu,EqAt.tuple_bool _ hl hu,RcNeAt.tuple_bool _ hl hu⟩,⟨RcAt.bool_tuple _ hl hu,EqAt.bool_tuple _ hl hu,RcNeAt.bool_tuple _ hl hu⟩⟩|int i =>cases r'.int_inv;obtain⟨_,rfl⟩:=bQ;exact⟨⟨RcAt.tuple_int _ _ hl hu,EqAt.tuple_int _ _ hl hu,RcNeAt.tuple_int _ _ hl hu⟩,⟨RcAt.int_tuple _ _ hl hu,EqAt.int_tuple _ _ hl hu,RcNeAt.int_tuple _ _ hl hu⟩⟩|str x =>cases r'.str_inv;obtain⟨_,rfl⟩:=bQ;exact⟨⟨RcAt.tuple_str _ _ hl hu,EqAt.tuple_str _ _ hl hu,RcNeAt.tuple_str _ _ hl hu⟩,⟨RcAt.str_tuple _ _ hl hu,EqAt.str_tuple _ _ hl hu,RcNeAt.str_tuple _ _ hl hu⟩⟩|_=>cases p'
theorem xZ {K:ae}{A:c5}(hl:s.heap.IsList l aD)(hu:A.units<cLine)(p':pK d'=true)(r':Rep K H d' v')(bQ:RelV v' u'):vK A s (.ref l) u' false/\vK A s u' (.ref l) false:=by cases d' with|non =>cases r'.gE;cases bQ;exact⟨⟨RcAt.list_none hl hu,EqAt.list_none hl hu,RcNeAt.list_none hl hu⟩,⟨RcAt.none_list hl hu,EqAt.none_list hl hu,RcNeAt.none_list hl hu⟩⟩|bl b =>cases r'.gK;cases bQ;exact⟨⟨RcAt.list_bool _ hl hu,EqAt.list_bool _ hl hu,RcNeAt.list_bool _ hl hu⟩,⟨RcAt.bool_list _ hl hu,EqAt.bool_list _ hl hu,RcNeAt.bool_list _ hl hu⟩⟩|int i =>cases r'.int_inv;obtain⟨_,rfl⟩:=bQ;exact⟨⟨RcAt.list_int _ _ hl hu,EqAt.list_int _ _ hl hu,RcNeAt.list_int _ _ hl hu⟩,⟨RcAt.int_list _ _ hl hu,EqAt.int_list _ _ hl hu,RcNeAt.int_list _ _ hl hu⟩⟩|str x =>cases r'.str_inv;obtain⟨_,rfl⟩:=bQ;exact⟨⟨RcAt.list_str _ _ hl hu,EqAt.list_str _ _ hl hu,RcNeAt.list_str _ _ hl hu⟩,⟨RcAt.str_list _ _ hl hu,EqAt.str_list _ _ hl hu,RcNeAt.str_list _ _ hl hu⟩⟩|_=>cases p'
theorem M6 (I:Inv X pz σ H s){A:c5}{a:Addr}{b0:Bool}(e:Nat->Bool)(ha:fT X.K H a vs)(hb:fT X.K H b us)(hu:A.units<cLine)(hs:a=b->b0=true)(he:∀j v v' u u',vs[j]? = some v->us[j]? = some v'->RelV v u->RelV v' u'->EqAt A.in1 s u u' (e j))(hb0:((b7<|min vs.length us.length).all e&&vs.length==us.length)=b0):vK A s (.ref a) (.ref b) b0:=by
 obtain⟨aD,r1,p1,_⟩:=I.tuple ha;obtain⟨jts,r2,p2,_⟩:=I.tuple hb;have l1:aD.toArray.size=vs.length:=by exact r1.length.symm
 have l2:jts.toArray.size=us.length:=by exact r2.length.symm
 have hi:∀j (h1:j<aD.toArray.size)(h2:j<jts.toArray.size),EqAt A.in1 s aD.toArray[j] jts.toArray[j]<|e j:=λj h1 h2=>by obtain⟨v,e1,q1⟩:=aS.at r1 h1;obtain⟨v',e2,q2⟩:=aS.at r2 h2;exact he j v v' _ _ e1 e2 q1 q2
 have rc:=by have:=RcAt.tuples (e:=e) p1 p2 hu hi;rw[l1,l2,hb0]at this;exact this
 have rn:=by have:=RcNeAt.tuples (e:=e) p1 p2 hu hi;rw[l1,l2,hb0]at this;exact this
 refine⟨rc,?_,rn⟩;by_cases q:a=b;·rw[hs q,q];exact Abl _
 ·exact Abv q rc
theorem ZE (I:Inv X pz σ H s){A:c5}{a:Addr}{b0:Bool}(e:Nat->Bool)(ha:eU X.K H a vs)(hb:eU X.K H b us)(hu:A.units<cLine)(hs:a=b->b0=true)(he:∀j v v' u u',vs[j]? = some v->us[j]? = some v'->RelV v u->RelV v' u'->EqAt A.in1 s u u' (e j))(hn:vs.length≠us.length->b0=false)(hb0:vs.length=us.length->(b7 vs.length).all e=b0):vK A s (.ref a) (.ref b) b0:=by
 obtain⟨aD,r1,p1,_⟩:=I.list ha;obtain⟨jts,r2,p2,_⟩:=I.list hb;have l1:aD.toArray.size=vs.length:=by exact r1.length.symm
 have l2:jts.toArray.size=us.length:=by exact r2.length.symm
 have hi:∀j (h1:j<aD.toArray.size)(h2:j<jts.toArray.size),EqAt A.in1 s aD.toArray[j] jts.toArray[j]<|e j:=λj h1 h2=>by obtain⟨v,e1,q1⟩:=aS.at r1 h1;obtain⟨v',e2,q2⟩:=aS.at r2 h2;exact he j v v' _ _ e1 e2 q1 q2
 have both:RcAt A s (.ref a) (.ref b) b0/\RcNeAt A s (.ref a) (.ref b) (!b0):=by
  by_cases hl:vs.length=us.length;·have:=RcAt.lists (e:=e) p1.isList p2.isList (by rw[l1,l2,hl]) hu hi;have rn:=RcNeAt.lists (e:=e) p1.isList p2.isList (by rw[l1,l2,hl]) hu hi;rw[l1,hb0 hl]at this rn;exact⟨this,rn⟩
  ·rw[hn hl];have hz:(aD.toArray.size != jts.toArray.size)=true:=by rw[l1,l2,bne_iff_ne];exact hl
   exact⟨RcAt.lists_lengths p1.isList p2.isList hz hu,RcNeAt.lists_lengths p1.isList p2.isList hz hu⟩
 refine⟨both.1,?_,both.2⟩;by_cases q:a=b;·rw[hs q,q];exact Abl _
 ·exact Abv q both.1
theorem vD {d:D}(p:cL d=true):pK d=true\/∃ds,d=.tup ds:=by cases d<;>first|exact .inl rfl|exact .inr ⟨_,rfl⟩|cases p
theorem Xx (I:Inv X pz σ H s):∀(n:Nat){d d':D}{A:c5}{v v':V}{u u':Value},dN d<=n->cL d=true->cL d'=true->Rep X.K H d v->RelV v u->Rep X.K H d' v'->RelV v' u'->A.units+n+2<cLine -> vK A s u u' (fJ d d'):=by
 intro n;induction n with|zero =>
  intro d d' A v v' u u' hn p p' r rv r' bQ hu;have vV:A.units<cLine:=by omega
  rcases vD p with q|⟨ds,rfl⟩
  ·rcases vD p' with q'|⟨oN,rfl⟩;·exact CL q q' r rv r' bQ
   ·obtain⟨b,us,rfl,h2,q2⟩:=r'.cA;cases bQ;obtain⟨aD,r1,p1,_⟩:=I.tuple h2;have:=(jJ p1 vV q r rv).2;have e:fJ d (.tup oN)=false:=by cases d<;>first|rfl|cases q
    rw[e];exact this
  ·simp only[dN]at hn;omega|succ n ih =>
  intro d d' A v v' u u' hn p p' r rv r' bQ hu;have vV:A.units<cLine:=by omega
  rcases vD p with q|⟨ds,rfl⟩
  ·rcases vD p' with q'|⟨oN,rfl⟩;·exact CL q q' r rv r' bQ
   ·obtain⟨b,us,rfl,h2,q2⟩:=r'.cA;cases bQ;obtain⟨aD,r1,p1,_⟩:=I.tuple h2;have:=(jJ p1 vV q r rv).2;have e:fJ d (.tup oN)=false:=by cases d<;>first|rfl|cases q
    rw[e];exact this
  ·obtain⟨a,vs,rfl,h1,q1⟩:=r.cA;cases rv;rcases vD p' with q'|⟨oN,rfl⟩
   ·obtain⟨aD,r1,p1,_⟩:=I.tuple h1;have:=(jJ p1 vV q' r' bQ).1;have e:fJ (.tup ds) d'=false:=by cases d'<;>first|rfl|cases q'
    rw[e];exact this
   ·obtain⟨b,us,rfl,h2,q2⟩:=r'.cA;cases bQ;have pd:=by simpa [cL]using p
    have pd':=by simpa [cL]using p'
    refine M6 I (λj=>match ds[j]?,oN[j]? with|some x,some y=>fJ x y|_,_=>true) h1 h2 vV (λe=>?_) (λj v v' u u' e1 e2 rv bQ=>?_) ?_;·subst e;have:=FP I (dN<|.tup ds) (av _) p p' r r';cases this;exact pS ds pd
    ·obtain⟨x,f1,g1⟩:=aM.get' q1 e1;obtain⟨y,f2,g2⟩:=aM.get' q2 e2;simp only[f1,f2];have hx:=qC<|dj f1;simp only[dN]at hn;exact(ih (by omega) (nU pd<|dj f1) (nU pd'<|dj f2) g1 rv g2 bQ<|by simp only[ub];omega).2.1
    ·rw[<-q1.length,<-q2.length];exact DB _ λj x y e1 e2=>by simp only[e1,e2]
end
noncomputable def rY (st:aB):D->Option (List D)
 |.ref a=>match st a with|some<|.lst xs=>some xs|_=>none
 |.bR xs=>some xs|_=>none
variable {xs ys:List D}
theorem kinds {st:aB}{d:D}(p:fY st d=true):pK d=true\/(∃ds,d=.tup ds/\iX st ds=true)\/∃xs,rY st d=some xs/\bK xs=true/\cN xs<=qO:=by cases d with
 |tup ds=>exact .inr<|.inl ⟨ds,rfl,by assumption⟩|ref a =>simp![fY]at p;cases q:st a with|none=>rw[q]at p;cases p|some o=>cases o with|lst xs =>rw[q]at p;simp![Bn,ao,decide_eq_true_eq]at p;exact .inr<|.inr ⟨xs,by simp [rY,q],p⟩|dic _ _=>rw[q]at p;cases p|ins _ _=>rw[q]at p;cases p|tab _ _=>rw[q]at p;cases p
 |bR xs =>simp![fY,ao,decide_eq_true_eq]at p;exact .inr<|.inr ⟨xs,rfl,p⟩|cF _ _=>cases p|exc _=>cases p|_=>exact .inl rfl
set_option tactic.hygienic true in
theorem WN {st:aB}{d:D}(h:rY st d=some xs)(h':rY st d'=some ys):bZ st d d'=mG xs ys:=by cases d with
 |ref a =>
  simp![rY]at h;split at h;·rename_i zs e;cases h;cases d' with
   |ref b =>
    simp![rY]at h';split at h';·rename_i ws e';cases h';show LN (st a) (st b)=_;rw[e,e'];rfl
    ·cases h'|bR ws=>cases h';show LN (st a) _=_;rw[e];rfl|_=>cases h'
  ·cases h|bR zs =>cases h;cases d' with
  |ref b =>
   simp![rY]at h';split at h';·rename_i ws e';cases h';show LN _ (st b)=_;rw[e'];rfl
   ·cases h'|bR ws=>cases h';rfl|_=>cases h'
 |_=>cases h
theorem VY {st:aB}{d:D}(h:rY st d=some xs)(p:pK d'=true):bZ st d d'=false/\bZ st d' d=false:=by
 cases d<;>first|(cases h;done)|skip
 all_goals (cases d'<;>first|(cases p;done)|exact⟨rfl,rfl⟩)
theorem XB {st:aB}{d:D}(h:rY st d=some xs):bZ st d (.tup ds)=false/\bZ st (.tup ds) d=false:=by cases d<;>first|(cases h;done)|exact⟨rfl,rfl⟩
theorem T8 {st:aB}{d:D}(p:pK d=true)(p':pK d'=true):bZ st d d'=fJ d d':=by
 cases d<;>first|(cases p;done)|skip
 all_goals (cases d'<;>first|rfl)
theorem VV {st:aB}{d:D}(p:pK d=true):bZ st d (.tup ds)=false/\bZ st (.tup ds) d=false:=by cases d<;>first|(cases p;done)|exact⟨rfl,rfl⟩
theorem lK {st:aB}:∀{ds:List D}{d:D},iX st ds=true->d∈ds->fY st d=true
 |e::ds,d,h,m=>by
  simp![iX,ao]at h;rcases List.mem_cons.mp m with rfl|m;·exact h.1
  ·exact lK h.2 m
theorem K7 {st:aB}:∀{ds es:List D}(e:Nat->Bool),(∀j d d',ds[j]? = some d->es[j]? = some d'->e j=bZ st d d')->((b7<|min ds.length es.length).all e&&ds.length==es.length)=mH st ds es
 |[],[],e,h=>rfl|[],_::_,e,h=>rfl|_::_,[],e,h=>rfl|d::ds,d'::es,e,h=>by
  have ih:=K7 (λj=>e<|j+1) λj x x' e1 e2=>h _ x x' (by assumption) (by assumption);have h0:=h 0 d d' rfl rfl;simp![mH,ag,zd,ou,fm,je,sv];rw[<-ih,h0];have hl:(ds.length+1==es.length+1)=(ds.length==es.length):=by simp
  rw[hl,zu]
section
variable {s:aj}{st:aB}
set_option tactic.hygienic true in
theorem lX {K:ae}{d:D}(ok:aQ K st H)(h:rY st d=some xs)(r:Rep K H d v):∃a vs,v=.ref a/\eU K H a vs/\aM K H xs vs:=by cases r with
 |ref a =>
 simp![rY]at h;split at h;·rename_i zs e;cases h;obtain⟨vs,g,q⟩:=ok.lst e;exact⟨a,vs,rfl,eU.of g,q⟩
 ·cases h|bR f q=>cases h;exact⟨_,_,rfl,f.sq,q⟩|_=>cases h
theorem wJ (I:Inv X pz σ H s):∀{ds es:List D}{vs:List V},bK ds=true->bK es=true->aM X.K H ds vs->aM X.K H es vs->ds=es|_,_,_,_,_,.nil,.nil=>rfl|_,_,_,p,p',.cons h r,.cons h' r'=>by simp![bK,ao]at p p';rw[FP I _ (av _) p.1 p'.1 h h',wJ I p.2 p'.2 r r']
theorem QV (I:Inv X pz σ H s){a:Addr}(h:eU X.K H a vs)(h':fT X.K H a us):False:=by obtain⟨aD,_,p1,_⟩:=I.list h;obtain⟨jts,_,p2,_⟩:=I.tuple h';exact ne_of_list_tuple p1.isList p2 rfl
theorem Dk (I:Inv X pz σ H s)(ok:aQ X.K st H):∀(n:Nat){d d':D}{v:V},dN d<=n->fY st d=true->fY st d'=true->Rep X.K H d v->Rep X.K H d' v->bZ st d d'=true:=by
 have key:∀(n:Nat){d d':D}{v:V},dN d<n->fY st d=true->fY st d'=true->Rep X.K H d v->Rep X.K H d' v->bZ st d d'=true:=by intro n;induction n with|zero=>exact λhn=>absurd hn<|uh _|succ n ih =>
   intro d d' v hn p p' r r';rcases kinds p with q|⟨ds,rfl,q⟩|⟨xs,q,q1,q2⟩
   ·rcases kinds p' with q'|⟨oN,rfl,q'⟩|⟨ys,q',q1',q2'⟩
    ·rw[T8 q q'];have pd:cL d=true:=by cases d<;>first|rfl|cases q
     have pd':cL d'=true:=by cases d'<;>first|rfl|cases q'
     rw[FP I _ (av _) pd pd' r r'];exact MS d' pd'
    ·obtain⟨a,vs,rfl,_⟩:=r'.cA;cases r<;>cases q
    ·obtain⟨a,vs,rfl,_⟩:=lX ok q' r';cases r<;>cases q
   ·obtain⟨a,vs,rfl,f1,g1⟩:=r.cA;rcases kinds p' with q'|⟨oN,rfl,q'⟩|⟨ys,q',q1',q2'⟩;·cases r'<;>cases q'
    ·obtain⟨b,us,e,f2,g2⟩:=r'.cA;cases e;cases I.tK f1 f2;simp only[dN]at hn;have go:∀(ds es:List D)(vs:List V),cN ds<n->iX st ds=true->iX st es=true->aM X.K H ds vs->aM X.K H es vs->mH st ds es=true:=by intro ds;induction ds with|nil=>intro es vs _ _ _ r r';cases r;cases r';rfl|cons d ds ihs =>intro es vs hd pp pp' r r';cases r with|cons r1 r2=>cases r' with |cons r1' r2' =>simp only[cN]at hd;simp only[iX,ao]at pp pp';simp only[mH,ao];exact⟨ih (by omega) pp.1 pp'.1 r1 r1',ihs _ _ (by omega) pp.2 pp'.2 r2 r2'⟩
     exact go ds oN vs (by omega) q q' g1 g2
    ·obtain⟨b,us,e,f2,g2⟩:=lX ok q' r';cases e;exact(QV I f2 f1).elim
   ·obtain⟨a,vs,rfl,f1,g1⟩:=lX ok q r;rcases kinds p' with q'|⟨oN,rfl,q'⟩|⟨ys,q',q1',q2'⟩;·cases r'<;>cases q'
    ·obtain⟨b,us,e,f2,g2⟩:=r'.cA;cases e;exact(QV I f1 f2).elim
    ·obtain⟨b,us,e,f2,g2⟩:=lX ok q' r';cases e;cases I.wK f1 f2;rw[WN q q',wJ I q1 q1' g1 g2];exact pS _ q1'
 intro n d d' v hn;exact key (n+1)<|sy hn
theorem uW {A:c5}{jts:Array Value}(hl:s.heap.IsList l aD)(hb:s.heap.IsTuple b jts)(hu:A.units<cLine):vK A s (.ref l) (.ref b) false/\vK A s (.ref b) (.ref l) false :=⟨⟨RcAt.list_tuple hl hb hu,EqAt.list_tuple hl hb hu,RcNeAt.list_tuple hl hb hu⟩,⟨RcAt.tuple_list hb hl hu,EqAt.tuple_list hb hl hu,RcNeAt.tuple_list hb hl hu⟩⟩
theorem Ju (I:Inv X pz σ H s){A:c5}{a:Addr}(f1:eU X.K H a vs)(g1:aM X.K H xs vs)(f2:eU X.K H b us)(g2:aM X.K H ys us)(p1:bK xs=true)(d1:cN xs<=qO)(p2:bK ys=true)(hu:A.units+85<cLine):vK A s (.ref a) (.ref b)<|mG xs ys:=by
 refine ZE I (λj=>match xs[j]?,ys[j]? with|some x,some y=>fJ x y|_,_=>true) f1 f2 (by lia) (λe=>?_) (λj v v' u u' e1 e2 rv bQ=>?_) (λh=>?_) λh=>?_;·subst e;cases I.wK f1 f2;rw[wJ I p1 p2 g1 g2];exact pS _ p2
 ·obtain⟨x,h1,k1⟩:=aM.get' g1 e1;obtain⟨y,h2,k2⟩:=aM.get' g2 e2;simp![h1,h2];have hx:=qC<|dj h1;have hD:qO=80:=rfl;exact(Xx I qO (by lia) (nU p1<|dj h1) (nU p2<|dj h2) k1 rv k2 bQ<|by simp![ub];lia).2.1
 ·exact NA<|by rw[g1.length,g2.length];exact h
 ·rw[<-g1.length];exact TQ _ (by rw[g1.length,g2.length];exact h) λj x y e1 e2=>by simp_all
theorem Y5 (I:Inv X pz σ H s)(ok:aQ X.K st H):∀(n:Nat){d d':D}{A:c5}{v v':V}{u u':Value},dN d<=n->fY st d=true->fY st d'=true->Rep X.K H d v->RelV v u->Rep X.K H d' v'->RelV v' u'->A.units+n+85<cLine -> vK A s u u' (bZ st d d'):=by
 have key:∀(n:Nat){d d':D}{A:c5}{v v':V}{u u':Value},dN d<n->fY st d=true->fY st d'=true->Rep X.K H d v->RelV v u->Rep X.K H d' v'->RelV v' u'->A.units+n+84<cLine ->vK A s u u' (bZ st d d'):=by intro n;induction n with|zero=>exact λhn=>absurd hn<|uh _|succ n ih =>
   intro d d' A v v' u u' hn p p' r rv r' bQ hu;have vV:A.units<cLine:=by lia
   rcases kinds p with q|⟨ds,rfl,q⟩|⟨xs,q,q1,q2⟩
   ·rcases kinds p' with q'|⟨oN,rfl,q'⟩|⟨ys,q',q1',q2'⟩;·rw[T8 q q'];exact CL q q' r rv r' bQ
    ·obtain⟨b,us,rfl,h2,g2⟩:=r'.cA;cases bQ;obtain⟨aD,r1,p1,_⟩:=I.tuple h2;rw[(VV q).1];exact(jJ p1 vV q r rv).2
    ·obtain⟨b,us,rfl,h2,g2⟩:=lX ok q' r';cases bQ;obtain⟨aD,r1,p1,_⟩:=I.list h2;rw[(VY q' q).2];exact(xZ p1.isList vV q r rv).2
   ·obtain⟨a,vs,rfl,f1,g1⟩:=r.cA;cases rv;obtain⟨aD,r1,p1,_⟩:=I.tuple f1;rcases kinds p' with q'|⟨oN,rfl,q'⟩|⟨ys,q',q1',q2'⟩;·rw[(VV q').2];exact(jJ p1 vV q' r' bQ).1
    ·obtain⟨b,us,rfl,h2,g2⟩:=r'.cA;cases bQ;have e0:bZ st (.tup ds) (.tup oN)=mH st ds oN:=rfl;refine M6 I (λj=>match ds[j]?,oN[j]? with|some x,some y=>bZ st x y|_,_=>true) f1 h2 vV (λe=>?_) (λj v v' u u' e1 e2 rv bQ=>?_) ?_;·subst e;exact Dk I ok _ (av _) p p' r r'
     ·obtain⟨x,k1,l1⟩:=aM.get' g1 e1;obtain⟨y,k2,l2⟩:=aM.get' g2 e2;simp![k1,k2];have hx:=qC<|dj k1;simp![dN]at hn;exact(ih (by lia) (lK q<|dj k1) (lK q'<|dj k2) l1 rv l2 bQ<|by simp![ub];lia).2.1
     ·rw[<-g1.length,<-g2.length,e0];exact K7 _ λj x y e1 e2=>by simp![e1,e2]
    ·obtain⟨b,us,rfl,h2,g2⟩:=lX ok q' r';cases bQ;obtain⟨jts,r2,p2,_⟩:=I.list h2;rw[(XB q').2];exact(uW p2.isList p1 vV).2
   ·obtain⟨a,vs,rfl,f1,g1⟩:=lX ok q r;cases rv;obtain⟨aD,r1,p1,_⟩:=I.list f1;rcases kinds p' with q'|⟨oN,rfl,q'⟩|⟨ys,q',q1',q2'⟩;·rw[(VY q q').1];exact(xZ p1.isList vV q' r' bQ).1
    ·obtain⟨b,us,rfl,h2,g2⟩:=r'.cA;cases bQ;obtain⟨jts,r2,p2,_⟩:=I.tuple h2;rw[(XB q).1];exact(uW p1.isList p2 vV).1
    ·obtain⟨b,us,rfl,h2,g2⟩:=lX ok q' r';cases bQ;rw[WN q q'];exact Ju I f1 g1 h2 g2 q1 q2 q1'<|by lia
 intro n d d' A v v' u u' hn p p' r rv r' bQ hu;exact key (n+1) (sy hn) p p' r rv r' bQ<|by lia
end
mutual
inductive Ae (h:Heap):D->Value->Prop where|str (x:List Nat)(t:Tok):Ae h (.str x)<|.str ⟨x.toArray⟩ t|bl (b:Bool):Ae h (.bl b)<|.bool b|tup {ds:List D}{a:Addr}{o:Obj}{aD:Array Value}{n:Nat}(e:h.get? a=some o)(c:o.cls=.type "tuple")(d:o.data=.seq aD n)(r:S6 h ds aD.toList):Ae h (.tup ds) (.ref a)inductive S6 (h:Heap):List D->List Value->Prop where|nil:S6 h [] []|cons {d:D}{ds:List D}{v:Value}{vs:List Value}(r:Ae h d v)(rs:S6 h ds vs):S6 h (d::ds) (v::vs)end
noncomputable instance decD:DecidableEq D:=λa b=>Classical.propDecidable<|a=b
def qP (X:Cx)(op:CmpOp)(W:D->D->aB->(Bool->Prop)->Prop):Prop :=∀(pz:List<|Addr×Obj)(s:aj)(σ:L2.St)(H:Hp)(st:aB)(d d':D)(v v':V)(u u':Value)(P:Bool->Prop),Inv X pz σ H s->aQ X.K st H->Rep X.K H d v->RelV v u->Rep X.K H d' v'->RelV v' u'->W d d' st P ->wpAny (model X.prog X.w) X.A (u6 op u u') (λr s'=>∃k,r=.bool k/\P k/\Inv X pz σ H s') X.xe s
theorem EK (w:List Nat):∀z:List Nat,occurs w z=true↔∃i,i+w.length<=z.length/\(z.drop i).take w.length=w
 |[]=>by
  unfold occurs;constructor;·intro h;rw[Aaq]at h;subst h;simp
  ·rintro⟨i,h,_⟩;rw[Aaq];exact List.length_eq_zero_iff.mp<|by simp_all|c::r=>by
  unfold occurs;rw[b9,EK w r,vn];constructor
  ·rintro(h|⟨i,h1,h2⟩);·exact⟨0,by have:=h.length_le;lia,by exact(List.prefix_iff_eq_take.mp h).symm⟩
   ·exact⟨i+1,by simp;lia,by simp_all⟩
  ·rintro⟨i,h1,h2⟩;cases i with|zero=>exact .inl<|by rw[List.prefix_iff_eq_take];exact h2.symm|succ i=>exact .inr ⟨i,by simp at h1;lia,by simp_all⟩
theorem JK (w z:List Nat):(!(ik ⟨z.toArray⟩ ⟨w.toArray⟩ 0 (⟨z.toArray⟩:Str).length 1).isEmpty)=occurs w z:=by
 rw[fc,PySem.StrLaws.found_iff,EK];refine⟨λ⟨i,h1,h2⟩=>⟨i,by assumption,?_⟩,λ⟨i,h1,h2⟩=>⟨i,by assumption,?_⟩⟩;·have:=eq_of_beq h2;have e:=congrArg Zz this;simp![zv,v7,w9]at e;exact e
 ·unfold Builtin.Str.subAt;rw[beq_iff_eq];apply Array.toList_inj.mp;simp![zv,v7,w9];exact h2
section
variable {C:aU}{sub:Nat->Nat->Bool}{E:XK}{a b c e:cy}{x y z:Ex}{pos:Pos}
theorem Vx (hu:X.A.units+180<cLine):qP X .Eq<|dI .eq:=by intro pz s σ H st d d' v v' u u' P I ok r rv r' bQ ⟨p,p',q⟩;exact(Y5 I ok 80 (by have:=p.2;lia) p.1 p'.1 r rv r' bQ<|by lia).1 _ _ _ _ ⟨_,rfl,q,I⟩
theorem Xh (hu:X.A.units+180<cLine):qP X .NotEq<|dI .ne:=by intro pz s σ H st d d' v v' u u' P I ok r rv r' bQ ⟨p,p',q⟩;exact(Y5 I ok 80 (by have:=p.2;lia) p.1 p'.1 r rv r' bQ<|by lia).2.2 _ _ _ _ ⟨_,rfl,q,I⟩
theorem KY {op:CmpOp}{o:pT}{f:Int->Int->Bool}(hW:∀d d' st P,dI o d d' st P=wF f d d' P) (rule:∀(i j:Int)(t u:Tok)(Q:Value->aj->Prop)(s:aj),Q (.bool<|f i j) s->wpAny (model X.prog X.w) X.A (u6 op (.int i t)<|.int j u) Q X.xe s):qP X op<|dI o:=by
 intro pz s σ H st d d' v v' u u' P I ok r rv r' bQ q;rw[hW]at q;unfold wF at q;split at q;·cases r.int_inv;cases r'.int_inv;obtain⟨t,rfl⟩:=rv;obtain⟨t',rfl⟩:=bQ;exact rule _ _ _ _ _ _ ⟨_,rfl,q,I⟩
 ·exact q.elim
theorem Wp:qP X .Lt<|dI .lt:=KY (λ_ _ _ _=>rfl) λ_ _ _ _ _ _ h=>lt_int h
theorem Wu:qP X .LtE<|dI .le:=KY (λ_ _ _ _=>rfl) λ_ _ _ _ _ _ h=>le_int h
theorem Wt:qP X .Gt<|dI .gt:=KY (λ_ _ _ _=>rfl) λ_ _ _ _ _ _ h=>gt_int h
theorem Vi:qP X .GtE<|dI .ge:=KY (λ_ _ _ _=>rfl) λ_ _ _ _ _ _ h=>ge_int h
theorem VQ {s:aj}{a:Addr}(I:Inv X pz σ H s)(h:H a=some (.lst vs))(f:pA X.K H a us):False:=by
 rcases f with⟨o,e⟩|⟨o,_,_,e,_⟩;·rw[h]at e;cases e
 ·have:=(I.bs a o<|I.ok.mod.kin a o e).2;rw[h]at this;cases this
set_option tactic.hygienic true in
theorem X7 {s:aj}{st:aB}(I:Inv X pz σ H s)(ok:aQ X.K st H):∀(n:Nat){d d':D}{v:V},dN d<=n->fY st d=true->fY st d'=true->Rep X.K H d v->Rep X.K H d' v->d=d':=by
 have lists:∀{d d':D}{v:V}{xs ys:List D},rY st d=some xs->rY st d'=some ys->bK xs=true->bK ys=true->Rep X.K H d v->Rep X.K H d' v->d=d':=by intro d d' v xs ys q q' p p' r r';cases r with
  |ref a=>cases r' with
   |ref _=>rfl|bR f g =>
    simp only[rY]at q;split at q;·rename_i e;obtain⟨vs,h,_⟩:=ok.lst e;exact(VQ I h f).elim
    ·cases q|_=>cases q'
  |bR f g=>cases r' with
   |ref _ =>
    simp only[rY]at q';split at q';·rename_i e;obtain⟨vs,h,_⟩:=ok.lst e;exact(VQ I h f).elim
    ·cases q'|bR f' g' =>cases q;cases q';cases I.wK f.sq f'.sq;rw[wJ I p p' g g']|_=>cases q'
  |_=>cases q
 have key:∀(n:Nat){d d':D}{v:V},dN d<n->fY st d=true->fY st d'=true->Rep X.K H d v->Rep X.K H d' v->d=d':=by intro n;induction n with|zero=>exact λhn=>absurd hn<|uh _|succ n ih =>
   intro d d' v hn p p' r r';rcases kinds p with q|⟨ds,rfl,q⟩|⟨xs,q,q1,q2⟩;·cases r<;>cases r'<;>first|rfl|(cases q;done)|skip
   ·obtain⟨a,vs,rfl,f1,g1⟩:=r.cA;rcases kinds p' with q'|⟨oN,rfl,q'⟩|⟨ys,q',q1',q2'⟩;·cases r'<;>cases q'
    ·obtain⟨b,us,e,f2,g2⟩:=r'.cA;cases e;cases I.tK f1 f2;simp only[dN]at hn;have go:∀(ds es:List D)(vs:List V),cN ds<n->iX st ds=true->iX st es=true->aM X.K H ds vs->aM X.K H es vs->ds=es:=by intro ds;induction ds with|nil=>intro es vs _ _ _ r r';cases r;cases r';rfl|cons d ds ihs =>intro es vs hd pp pp' r r';cases r with|cons r1 r2=>cases r' with |cons r1' r2' =>simp only[cN]at hd;simp only[iX,ao]at pp pp';rw[ih (by omega) pp.1 pp'.1 r1 r1',ihs _ _ (by omega) pp.2 pp'.2 r2 r2']
     rw[go ds oN vs (by omega) q q' g1 g2]
    ·obtain⟨b,us,e,f2,g2⟩:=lX ok q' r';cases e;exact(QV I f2 f1).elim
   ·obtain⟨a,vs,rfl,f1,g1⟩:=lX ok q r;rcases kinds p' with q'|⟨oN,rfl,q'⟩|⟨ys,q',q1',q2'⟩;·cases r'<;>cases q'
    ·obtain⟨b,us,e,f2,g2⟩:=r'.cA;cases e;exact(QV I f1 f2).elim
    ·exact lists q q' q1 q1' r r'
 intro n d d' v hn;exact key (n+1)<|sy hn
theorem HJ {s:aj}{st:aB}(I:Inv X pz σ H s)(ok:aQ X.K st H){aD:List Value}{d:D}{A:c5}(g:aM X.K H ds vs)(r:aS vs aD)(p:fD st ds)(pd:plainS st d)(rd:Rep X.K H d v)(rv:RelV v u)(hu:A.units+178<cLine): ∃e:Value->Bool,(∀y,y∈aD.toArray->EqAt A.in1 s y u (e y))/\aD.toArray.any e=ds.any λd'=>bZ st d' d:=by classical
 have hD:qO=80:=rfl;have item:∀(d':D)(v':V)(y:Value),d'∈ds->Rep X.K H d' v'->RelV v' y->EqAt A.in1 s y u (bZ st d' d):=λd' v' y m r' bQ=>by have h1:=qC m;have h2:=p.2;exact(Y5 I ok 80 (by lia) (lK p.1 m) pd.1 r' bQ rd rv<|by simp![ub];lia).2.1
 let e:=λy=>decide<|∃d' v',d'∈ds/\Rep X.K H d' v'/\RelV v' y/\bZ st d' d=true;have he:∀(d':D)(v':V)(y:Value),d'∈ds->Rep X.K H d' v'->RelV v' y->e y=bZ st d' d:=λd' v' y m r' bQ=>by cases q:bZ st d' d with|true=>exact decide_eq_true ⟨d',v',m,r',bQ,q⟩|false =>refine decide_eq_false λ⟨d2,v2,m2,r2,rv2,q2⟩=>?_;cases RelV.inj bQ rv2;have:=X7 I ok _ (av _) (lK p.1 m) (lK p.1 m2) r' r2;subst this;rw[q]at q2;cases q2
 refine⟨e,λy hy=>?_,?_⟩;·obtain⟨j,hj,rfl⟩:=Array.mem_iff_getElem.mp hy;obtain⟨v',e1,e2⟩:=aS.at r hj;obtain⟨d',e3,e4⟩:=aM.get' g e1;rw[he d' v' _ (dj e3) e4 e2];exact item d' v' _ (dj e3) e4 e2
 ·have go:∀(es:List D)(vs:List V)(aD:List Value),(∀d∈es,d∈ds)->aM X.K H es vs->aS vs aD->aD.any e=es.any λd'=>bZ st d' d:=by intro es;induction es with|nil=>intro vs aD _ g r;cases g;cases r;rfl|cons d1 es ih =>intro vs aD hm g r;cases g with|cons g1 g2=>cases r with |cons r1 r2 =>simp![i7];rw[he d1 _ _ (hm d1<|by simp) g1 r1,ih _ _ λd m=>hm d<|by simp [m] g2 r2]
  rw[List.any_toArray];exact go ds vs aD (λ_ m=>m) g r
theorem NI (k x:Str):(decide<|k=x)=(x.cps.toList==k.cps.toList):=by
 by_cases h:k=x;·subst h;simp
 ·rw[decide_eq_false h];symm;refine beq_eq_false_iff_ne.mpr λe=>h ?_;obtain⟨⟨k⟩⟩:=k;subst e;rfl
theorem vI {s:aj}{a:Addr}{T:List<|Str×PyData}(I:Inv X pz σ H s)(h:zr wu (λb=>X.K.lookup b) a T=true):KTD.Here s.heap s.heap a (T.map λp=>(p.1,u4 p.2)) :=⟨(KTD.tab_of_look (λd v=>KTD.flat_of_looks) (λa o e=>I.gR a o e) h).text,λ_ _ e=>e⟩
theorem PX (k:List Nat):∀(T:List<|Str×PyData),KTD.inKeys (⟨k.toArray⟩:Str) (T.map λp=>(p.1,u4 p.2))=(T.map λp=>D.str p.1.cps.toList).any λd=>fJ d<|.str k|[]=>rfl|(x,d)::T=>by show(decide _||KTD.inKeys _ _)=(x.cps.toList==k||_);rw[PX k T,NI]
theorem Nb (hu:X.A.units+180<cLine):qP X .In (dI .in_)/\qP X .NotIn (dI .fP):=by
 have main:∀(neg:Bool)(pz:List<|Addr×Obj)(s:aj)(σ:L2.St)(H:Hp)(st:aB)(d d':D)(v v':V)(u u':Value)(P:Bool->Prop),Inv X pz σ H s->aQ X.K st H->Rep X.K H d v->RelV v u->Rep X.K H d' v'->RelV v' u' -> ID d d' st (λb=>P<|if neg then !b else b)->wpAny (model X.prog X.w) X.A (u6 (if neg then .NotIn else .In) u u') (λr s'=>∃k,r=.bool k/\P k/\Inv X pz σ H s') X.xe s:=by
  intro neg pz s σ H st d d' v v' u u' P I ok r rv r' bQ q;have lst:∀(a:Addr)(vs:List V)(ds:List D),eU X.K H a vs->aM X.K H ds vs->plainS st d->fD st ds->P (if neg then !(ds.any λd'=>bZ st d' d)else ds.any λd'=>bZ st d' d) -> wpAny (model X.prog X.w) X.A (u6 (if neg then .NotIn else .In) u<|.ref a) (λr s'=>∃k,r=.bool k/\P k/\Inv X pz σ H s') X.xe s:=by intro a vs ds f g pd ps q;obtain⟨aD,r1,p1,_⟩:=I.list f;obtain⟨e,he,ha⟩:=HJ I ok g r1 ps pd r rv (A:=X.A) (by lia);rw[<-ha]at q;cases neg with|true=>exact notIn_listAt e p1.isList he ⟨_,rfl,q,I⟩|false=>exact in_listAt e p1.isList he ⟨_,rfl,q,I⟩
  unfold ID at q;split at q;·obtain⟨a,vs,rfl,f,g⟩:=r'.cA;cases bQ;obtain⟨aD,r1,p1,_⟩:=I.tuple f;obtain⟨pd,ps,q⟩:=q;obtain⟨e,he,ha⟩:=HJ I ok g r1 ps pd r rv (A:=X.A) (by lia);rw[<-ha]at q;cases neg with|true=>exact notIn_tupleAt e p1 he ⟨_,rfl,q,I⟩|false=>exact in_tupleAt e p1 he ⟨_,rfl,q,I⟩
  ·cases r'.cY;cases bQ;obtain⟨ds,e1,pd,ps,q⟩:=tQ ok q;obtain⟨vs,g1,g2⟩:=ok.lst e1;exact lst _ vs ds (eU.of g1) g2 pd ps q
  ·obtain⟨a,rfl,T,h1,_,h2,_⟩:=r'.C2;cases bQ;cases r.str_inv;obtain⟨t,rfl⟩:=rv;rw[h2,<-PX]at q;cases neg with|true=>exact KTD.notin_text (vI I h1) ⟨_,rfl,q,I.tok _⟩|false=>exact KTD.in_text (vI I h1) ⟨_,rfl,q,I.tok _⟩
  ·obtain⟨a,vs,rfl,f,g⟩:=r'.mL;cases bQ;exact lst a vs _ f.sq g q.1 q.2.1 q.2.2
  ·cases r.str_inv;cases r'.str_inv
   cases neg with|true =>
    refine bA (M5 (X:=X) pz s σ H _ _ _ _ (λv H'=>H'=H/\∃k,v=.bl k/\P k) I rv bQ ⟨_,_,rfl,rfl,rfl,_,rfl,?_⟩) λr s1 ⟨v,H',I1,r1,e,k,e',q'⟩=>?_;·rw[JK];exact q
    ·subst e e';cases r1;exact⟨k,rfl,q',I1⟩|false =>
    refine bA (U4 (X:=X) pz s σ H _ _ _ _ (λv H'=>H'=H/\∃k,v=.bl k/\P k) I rv bQ ⟨_,_,rfl,rfl,rfl,_,rfl,?_⟩) λr s1 ⟨v,H',I1,r1,e,k,e',q'⟩=>?_;·rw[JK];exact q
    ·subst e e';cases r1;exact⟨k,rfl,q',I1⟩
  ·exact q.elim
 exact⟨λpz s σ H st d d' v v' u u' P I ok r rv r' bQ q=>main false pz s σ H st d d' v v' u u' P I ok r rv r' bQ q,λpz s σ H st d d' v v' u u' P I ok r rv r' bQ q=>main true pz s σ H st d d' v v' u u' P I ok r rv r' bQ q⟩
theorem HZ {K:ae}{d:D}(r:Rep K H d v)(rv:RelV v u):(u==g6)=jW d:=by rw[rv.Y0];cases r<;>rfl
set_option tactic.hygienic true in
theorem Mp:qP X .Is (dI .is_)/\qP X .IsNot (dI .isnot):=by
 constructor
 ·intro pz s σ H st d d' v v' u u' P I ok r rv r' bQ q;have q:E9 d d' P:=q;unfold E9 at q;split at q;·cases r'.gE;cases bQ;exact is_none_gen ⟨_,rfl,by rw[HZ r rv];exact q,I⟩
  ·rename_i b;cases r'.gK;cases bQ;cases r with|bl c=>cases rv;exact is_bool ⟨_,rfl,q,I⟩|non=>cases rv;exact n5 rfl (by intro z;cases z) ⟨_,rfl,q,I⟩|int i=>obtain⟨t,rfl⟩:=rv;exact n5 rfl (by intro z;cases z) ⟨_,rfl,q,I⟩|str z=>obtain⟨t,rfl⟩:=rv;exact n5 rfl (by intro z;cases z) ⟨_,rfl,q,I⟩|tup _ _=>cases rv;exact n5 rfl (by intro z;cases z) ⟨_,rfl,q,I⟩|ref _=>cases rv;exact n5 rfl (by intro z;cases z) ⟨_,rfl,q,I⟩|bR _ _=>cases rv;exact n5 rfl (by intro z;cases z) ⟨_,rfl,q,I⟩|cF _=>cases rv;exact n5 rfl (by intro z;cases z) ⟨_,rfl,q,I⟩
  ·exact q.elim
 ·intro pz s σ H st d d' v v' u u' P I ok r rv r' bQ q;have q:E9 d d' λb=>P<|!b:=q;unfold E9 at q;split at q;·cases r'.gE;cases bQ;exact isnot_none_gen ⟨_,rfl,by rw[HZ r rv];exact q,I⟩
  ·cases r'.gK;cases bQ;cases r with|bl c=>cases rv;exact isnot_bool ⟨_,rfl,q,I⟩|non=>cases rv;exact kf rfl (by intro z;cases z) ⟨_,rfl,q,I⟩|int i=>obtain⟨t,rfl⟩:=rv;exact kf rfl (by intro z;cases z) ⟨_,rfl,q,I⟩|str z=>obtain⟨t,rfl⟩:=rv;exact kf rfl (by intro z;cases z) ⟨_,rfl,q,I⟩|tup _ _=>cases rv;exact kf rfl (by intro z;cases z) ⟨_,rfl,q,I⟩|ref _=>cases rv;exact kf rfl (by intro z;cases z) ⟨_,rfl,q,I⟩|bR _ _=>cases rv;exact kf rfl (by intro z;cases z) ⟨_,rfl,q,I⟩|cF _=>cases rv;exact kf rfl (by intro z;cases z) ⟨_,rfl,q,I⟩
  ·exact q.elim
noncomputable def kG:pT->CmpOp |.eq=>.Eq|.ne=>.NotEq|.lt=>.Lt|.le=>.LtE|.gt=>.Gt|.ge=>.GtE|.is_=>.Is|.isnot=>.IsNot|.in_=>.In|.fP=>.NotIn
theorem A1 (hu:X.A.units+180<cLine):∀o:pT,qP X (kG o)<|dI o|.eq=>Vx hu|.ne=>Xh hu|.lt=>Wp|.le=>Wu|.gt=>Wt|.ge=>Vi|.is_=>Mp.1|.isnot=>Mp.2|.in_=>(Nb hu).1|.fP=>(Nb hu).2
theorem Rg {o:pT}(hu:X.A.units+180<cLine)(ha:PE X a<|bW X.K<|aI C sub E x)(hb:PE X b<|bW X.K<|aI C sub E y)(hm:pq (kG o) b=false):PE X (.Compare a [kG o] [b] pos)<|bW X.K<|aI C sub E<|.cmp o x y:=by intro pz s σ H Q I ⟨ac,st,R,r,ok,q,hq⟩;refine wpAny_Compare1 (bA (ha pz s σ H _ I ⟨ac,st,_,r,ok,q,λv H' z=>z⟩) λu s1 ⟨v,H1,I1,rv,d,aC,dU,aR,r1,q1⟩ =>bA (hb pz s1 σ H1 _ I1 ⟨ac,aC,_,r.step ok dU,aR,q1,λv H' z=>z⟩) λu' s2 ⟨v',H2,I2,bQ,d',aJ,kR,cG,r2,q2⟩ =>bA (A1 hu o pz s2 σ H2 aJ d d' v v' u u' _ I2 cG (r1.step aR kR) rv r2 bQ q2) λw s3 ⟨k,e,q3,I3⟩=>?_) hm;subst e;exact⟨.bl k,H2,I3,rfl,hq _ _<|.after (dU.trans kR)<|.here cG (.bl k) q3⟩
theorem Js {o:pT}(hu:X.A.units+180<cLine)(ha:PE X a<|bW X.K<|aI C sub E x)(hb:PE X b<|bW X.K<|aI C sub E y)(hm:pq (kG o) b=false):PT X (.Compare a [kG o] [b] pos)<|jV X.K<|aI C sub E<|.cmp o x y:=by intro pz s σ H Q I ⟨ac,st,R,r,ok,q,hq⟩;refine yz (bA (ha pz s σ H _ I ⟨ac,st,_,r,ok,q,λv H' z=>z⟩) λu s1 ⟨v,H1,I1,rv,d,aC,dU,aR,r1,q1⟩ =>bA (hb pz s1 σ H1 _ I1 ⟨ac,aC,_,r.step ok dU,aR,q1,λv H' z=>z⟩) λu' s2 ⟨v',H2,I2,bQ,d',aJ,kR,cG,r2,q2⟩ =>bA (A1 hu o pz s2 σ H2 aJ d d' v v' u u' _ I2 cG (r1.step aR kR) rv r2 bQ q2) λw s3 ⟨k,e,q3,I3⟩=>?_) hm;subst e;exact jc ⟨H2,I3,hq _ _ ⟨aJ,dU.trans kR,cG,q3⟩⟩
theorem Fo {o o':pT}(hu:X.A.units+180<cLine)(ha:PE X a<|bW X.K<|aI C sub E x)(hb:PE X b<|bW X.K<|aI C sub E y)(hc:PE X c<|bW X.K<|aI C sub E z)(hm:Aar [kG o,kG o'] [b,c]=false):PE X (.Compare a [kG o,kG o'] [b,c] pos)<|bW X.K<|aI C sub E<|.chain o o' x y z:=by intro pz s σ H Q I ⟨ac,st,R,r,ok,q,hq⟩;refine Compare_chain (bA (ha pz s σ H _ I ⟨ac,st,_,r,ok,q,λv H' z=>z⟩) λu s1 ⟨v,H1,I1,rv,d,aC,dU,aR,r1,q1⟩ =>chain_link<|bA (hb pz s1 σ H1 _ I1 ⟨ac,aC,_,r.step ok dU,aR,q1,λv H' z=>z⟩) λu' s2 ⟨v',H2,I2,bQ,d',aJ,kR,cG,r2,q2⟩ =>bA (A1 hu o pz s2 σ H2 aJ d d' v v' u u' _ I2 cG (r1.step aR kR) rv r2 bQ q2) λw s3 ⟨k,e,q3,I3⟩=>?_) hm;subst e;refine jc ?_;cases k with|false=>exact ite_ff ⟨.bl false,H2,I3,rfl,hq _ _<|.after (dU.trans kR)<|.here cG (.bl _) q3⟩|true =>refine ite_tt<|chain_last<|bA (hc pz s3 σ H2 _ I3 ⟨ac,aJ,_,(r.step ok dU).step aR kR,cG,q3,λv H' z=>z⟩) λu3 s4 ⟨v3,H4,I4,rv3,d3,cR,s4s,N8,r4,q4⟩ =>bA (A1 hu o' pz s4 σ H4 cR d' d3 v' v3 u' u3 _ I4 N8 (r2.step cG s4s) bQ r4 rv3 q4) λw s5 ⟨k,e,q5,I5⟩=>?_;subst e;exact⟨.bl k,H4,I5,rfl,hq _ _<|.after ((dU.trans kR).trans s4s)<|.here N8 (.bl k) q5⟩
theorem YW {o o':pT}(hu:X.A.units+180<cLine)(ha:PE X a<|bW X.K<|aI C sub E x)(hb:PE X b<|bW X.K<|aI C sub E y)(hc:PE X c<|bW X.K<|aI C sub E z)(hm:Aar [kG o,kG o'] [b,c]=false):PT X (.Compare a [kG o,kG o'] [b,c] pos)<|jV X.K<|aI C sub E<|.chain o o' x y z:=by intro pz s σ H Q I ⟨ac,st,R,r,ok,q,hq⟩;refine isTrue_chain (bA (ha pz s σ H _ I ⟨ac,st,_,r,ok,q,λv H' z=>z⟩) λu s1 ⟨v,H1,I1,rv,d,aC,dU,aR,r1,q1⟩ =>test_link<|bA (hb pz s1 σ H1 _ I1 ⟨ac,aC,_,r.step ok dU,aR,q1,λv H' z=>z⟩) λu' s2 ⟨v',H2,I2,bQ,d',aJ,kR,cG,r2,q2⟩ =>bA (A1 hu o pz s2 σ H2 aJ d d' v v' u u' _ I2 cG (r1.step aR kR) rv r2 bQ q2) λw s3 ⟨k,e,q3,I3⟩=>?_) hm;subst e;refine jc ?_;cases k with|false=>exact ite_ff ⟨H2,I3,hq _ _ ⟨aJ,dU.trans kR,cG,q3⟩⟩|true =>refine ite_tt<|test_last<|bA (hc pz s3 σ H2 _ I3 ⟨ac,aJ,_,(r.step ok dU).step aR kR,cG,q3,λv H' z=>z⟩) λu3 s4 ⟨v3,H4,I4,rv3,d3,cR,s4s,N8,r4,q4⟩ =>bA (A1 hu o' pz s4 σ H4 cR d' d3 v' v3 u' u3 _ I4 N8 (r2.step cG s4s) bQ r4 rv3 q4) λw s5 ⟨k,e,q5,I5⟩=>?_;subst e;exact jc ⟨H4,I5,hq _ _ ⟨cR,(dU.trans kR).trans s4s,N8,q5⟩⟩
end
end L3
end
section
namespace L3
open PySem PySem.Spec PyProof.Rows PyProof.V L2
variable {X:Cx}{H:Hp}{ds:List D}{vs:List V}{v:V}{lo hi:Option Int}{Q:L2.VK}{xs:List Ex}{es:List cy}
section
variable {C:aU}{sub:Nat->Nat->Bool}{E:XK}{a b c e:cy}{x y z:Ex}{pos:Pos}
theorem Ng (n:Nat)(i:Int):L2.oJ n i=oJ n i:=rfl
theorem GN {K:ae}{i:Int}{d:D}(r:aM K H ds vs)(h:fI ds i=some d):∃v,L2.fI vs i=some v/\Rep K H d v:=by unfold fI at h;unfold L2.fI;rw[Ng,<-r.length];cases e:oJ _ i with|none=>rw[e]at h;cases h|some j =>rw[e]at h;obtain⟨v,e1,e2⟩:=r.get h;exact⟨v,e1,e2⟩
noncomputable def Oz (K:ae):R2:=λx y H Q=>∃(p:Addr)(T:List<|Str×PyData)(k:Str)(d:AaW),x=.ref p/\y=.str k/\zr wu (λb=>K.lookup b) p T=true/\mn k T=some d/\kK d=true/\∀v u,RelV v u->Flat u d->Q v H
noncomputable def SI (K:ae):R2:=λx y H Q=>Ur K x y H Q\/Oz K x y H Q
theorem wO {k:Str}{d:AaW}:∀{T:List<|Str×PyData},mn k T=some d->mn k (T.map λp=>(p.1,u4 p.2))=some (.flat d)
 |[],h=>by cases h|(x,e)::T,h=>by
  show(if decide _=true then some _ else _)=_;have h:(if decide _=true then some e else mn k T)=some d:=h;by_cases c:decide (k=x)=true;·simp_all
  ·rw[if_neg c]at h ⊢;exact wO h
theorem Rk:yT X<|Oz X.K:=by
 intro value slice pz s σ H x y v u Q I rx ry h hs;obtain⟨p,T,k,d,rfl,rfl,hT,hd,hsd,q⟩:=h;cases rx;obtain⟨t,rfl⟩:=ry;have hh:=vI I hT;refine subscriptTail_builtin_flat hh.typeIs slot_dict_getitem.lookup ?_ hs;unfold xw;try with_reducible refine kr ?_
 refine ai<|wg hh.typeIs (by decide) ?_;refine ai<|ke (name:=om "__getitem__") hh.typeIs Aad<|jx Aad hh.typeIs entry_dict_getitem ?_<|args_dict_getitem _ _;show wpAny _ _ (dictGet p (.str k t) >>= _) _ _ s;refine ai<|KTD.dictGet_text hh (λd' v ha hv=>?_) λhn=>?_
 ·rw[wO hd]at ha;cases ha;have hv:Flat v d:=hv;refine a9 ⟨v,rfl,a9 ⟨Flat.notRef hv,?_⟩⟩;obtain⟨w,rw'⟩:∃w,RelV w v:=by cases d with|none=>cases Flat.none_inv hv;exact⟨.non,rfl⟩|bool b=>cases Flat.bool_inv hv;exact⟨.bl b,rfl⟩|int i=>obtain⟨t,rfl⟩:=Flat.int_inv hv;exact⟨.int i,⟨t,rfl⟩⟩|str x=>obtain⟨t,rfl⟩:=Flat.str_inv hv;exact⟨.str x,⟨t,rfl⟩⟩|_=>cases hsd
  exact⟨w,H,I.tok _,rw',q w v rw' hv⟩
 ·rw[wO hd]at hn;cases hn
theorem Oa:yT X<|SI X.K:=Lb.or Rk
theorem V9 {K:ae}(v v':V)(H:Hp)(Q Q':L2.VK)(h:∀v H,Q v H->Q' v H)(z:SI K v v' H Q):SI K v v' H Q':=by
 rcases z with z|⟨p,T,k,d,e,e',e1,e2,e3,q⟩
 ·refine .inl ?_;rcases z with⟨p,xs,i,v,e,e',s,t,q⟩|⟨p,xs,i,v,e,e',s,t,q⟩|⟨z,i,c,e,e',s,t,q⟩;·exact .inl ⟨p,xs,i,v,e,e',s,t,h _ _ q⟩
  ·exact .inr<|.inl ⟨p,xs,i,v,e,e',s,t,h _ _ q⟩
  ·exact .inr<|.inr ⟨z,i,c,e,e',s,t,h _ _ q⟩
 ·exact .inr ⟨p,T,k,d,e,e',e1,e2,e3,λv u r f=>h _ _<|q v u r f⟩
theorem N5 {k:List Nat}{d:D}:∀{T:List<|Str×PyData},(T.all λp=>kK p.2)=true->eO (T.map λp=>.str p.1.cps.toList) (T.map λp=>rD p.2) (.str k)=some d->∃e,mn (⟨k.toArray⟩:Str) T=some e/\kK e=true/\d=rD e
 |[],_,h=>by cases h|(x,e)::T,a,h=>by
  simp![fm,ao]at a;have h:(if(x.cps.toList==k)=true then some _ else eO _ _ _)=some d:=h;show ∃e',(if decide _=true then some e else mn _ T)=some e'/\_;rw[NI];by_cases c:(x.cps.toList==k)=true;·simp_all
  ·rw[if_neg c]at h;obtain⟨e',h1,h2⟩:=N5 a.2 h;simp_all
theorem LM {K:ae}{e:AaW}{u:Value}(s:kK e=true)(r:RelV v u)(f:Flat u e):Rep K H (rD e) v:=by cases e with|none=>cases Flat.none_inv f;cases RelV.inj r<|show RelV .non _ from rfl;exact .non|bool b=>cases Flat.bool_inv f;cases RelV.inj r<|show RelV (.bl b) _ from rfl;exact .bl b|int i=>obtain⟨t,rfl⟩:=Flat.int_inv f;cases RelV.inj r<|show RelV (.int i) _ from⟨t,rfl⟩;exact .int i|str x=>obtain⟨t,rfl⟩:=Flat.str_inv f;cases RelV.inj r<|show RelV (.str x) _ from⟨t,rfl⟩;exact .str _|_=>cases s
theorem YQ {K:ae}{st:aB}{R:VK}{d d':D}{v':V}(ok:aQ K st H)(r:Rep K H d v)(r':Rep K H d' v')(h:xS d d' st R):SI K v v' H<|QD K H st R:=by
 unfold xS at h;split at h;·obtain⟨a,vs,rfl,f,g⟩:=r.cA;cases r'.int_inv;obtain⟨d,e,q⟩:=fO h;obtain⟨v,e1,e2⟩:=GN g e;exact .inl<|.inr<|.inl ⟨a,vs,_,v,rfl,rfl,f,e1,.here ok e2 q⟩
 ·obtain⟨a,vs,rfl,f,g⟩:=r.mL;cases r'.int_inv;obtain⟨d,e,q⟩:=fO h;obtain⟨v,e1,e2⟩:=GN g e;exact .inl<|.inl ⟨a,vs,_,v,rfl,rfl,f.sq,e1,.here ok e2 q⟩
 ·cases r.str_inv;cases r'.int_inv;obtain⟨l,h⟩:=h;obtain⟨c,e,q⟩:=fO h;exact .inl<|.inr<|.inr ⟨_,_,c,rfl,rfl,by assumption,e,.here ok (.str [c]) q⟩
 ·obtain⟨a,rfl,T,h1,h2,h3,h4⟩:=r.C2;cases r'.str_inv;obtain⟨d,e,q⟩:=fO h;rw[h3,h4]at e;obtain⟨e',e1,e2,rfl⟩:=N5 h2 e;exact .inr ⟨a,T,_,e',rfl,rfl,h1,e1,e2,λv u r f=>.here ok (LM e2 r f) q⟩
 ·cases r.cY;obtain⟨ds,e,q⟩:=tQ ok h;obtain⟨vs,g1,g2⟩:=ok.lst e;split at q;·cases r'.int_inv;obtain⟨d,e,q⟩:=fO q;obtain⟨v,e1,e2⟩:=GN g2 e;exact .inl<|.inl ⟨_,vs,_,v,rfl,rfl,eU.of g1,e1,.here ok e2 q⟩
  ·exact q.elim
 ·exact h.elim
theorem Vr (ha:PE X a<|bW X.K<|aI C sub E x)(hb:PE X b<|bW X.K<|aI C sub E y)(hp:F0 b):PE X (.Subscript a b pos) (bW X.K<|aI C sub E<|.ix x y) :=(Qe Oa ha hb hp).imp λσ H Q ⟨ac,st,R,r,ok,q,hq⟩=>by exact two r ok q hq (λd d' v v' H2 aJ cG r1 r2 h=>YQ cG r1 r2 h) V9
theorem yG {prog:bp}{w:dh}{A:c5}{E:Value->aj->Prop}{s:aj}{t sl:Addr}{items:Array Value}{vl vu:Value}{Q:Value->aj->Prop}(ht:IsTup s.heap t items)(hs:s.heap.IsSliceOf sl vl vu .none)(pl:wq vl lo)(pu:wq vu hi)(hw:HT.cJ items.size 0 lo=0/\HT.cJ items.size items.size hi=items.size)(h:Q (.ref t) s):wpAny (model prog w) A (xw (.ref t)<|.ref sl) Q E s:=by
 obtain⟨os,hos,hcs,hds⟩:=id hs;have hTs:s.TypeIs (.ref sl) "slice":=⟨os,hos,hcs⟩;unfold xw;try with_reducible refine kr ?_
 refine ai<|wg ht.typeIs (by decide) ?_;refine ai<|ke ht.typeIs jk<|jx jk ht.typeIs Zd ?_<|Zr _ _;show wpAny _ _ (qi (.ref t) >>= _) _ _ s;refine ai<|tupleItemsOf_ ht ?_;refine ai<|xx hTs ?_;refine ai<|HT.sA hs pl pu ?_;have hyes:((HT.cJ items.size 0 lo:Int)==0&&(1:Int)==1&&HT.cJ items.size items.size hi-HT.cJ items.size 0 lo==items.size)=true:=by simp_all
 show wpAny _ _ (if((HT.cJ items.size 0 lo:Int)==0&&1==1&&HT.cJ items.size items.size hi-HT.cJ items.size 0 lo==items.size)=true then _ else _) _ _ s;rw[if_pos hyes];have hex:∀{Q:Bool->aj->Prop},Q true s->wpAny (model prog w) A.in1 (Builtin.Tuple.tupleIsExact<|.ref t) Q E s:=λh=>by exact ai<|xx ht.typeIs<|a9 h
 refine ai<|hex ?_;exact ai<|yg<|a9 ⟨_,rfl,a9 h⟩
theorem WG (n d:Nat)(o:Option Int):HT.cJ n d o=cJ n d o:=rfl
theorem aM.cut {K:ae}(r:aM K H ds vs)(lo hi:Option Int):aM K H (cut ds lo hi)<|cut vs lo hi:=by unfold L3.cut;rw[r.length];exact(r.drop _).take _
def Jw (K:ae):V->Option Int->Option Int->Hp->L2.VK->Prop:=λx lo hi H Q=>∃a xs,x=.ref a/\fT K H a xs/\(HT.cJ xs.length 0 lo=0/\HT.cJ xs.length xs.length hi=xs.length)/\Q (.ref a) H
theorem Gr:vU X<|Jw X.K:=by
 intro pz s σ H x v vl vu lo hi sl Q I rx hs pl pu h;obtain⟨a,xs,rfl,hx,hw,q⟩:=h;cases rx;obtain⟨aD,r,ht,hz⟩:=I.tuple hx;have hlen:aD.toArray.size=xs.length:=by exact r.length.symm
 refine⟨_,_,PyProof.Rows.slot_tuple_getitem.lookup,ht.typeIs,?_⟩;exact yG ht hs pl pu (by rw[hlen];exact hw) ⟨.ref a,H,I,rfl,q⟩
theorem xB (a b:Nat):sliceRange (a:Int) (b:Int) 1=(b7<|b-a).map λk=>a+k:=by
 unfold sliceRange;simp![show((1:Int)>0)=True from by simp,if_true];by_cases h:(a:Int)<b;·rw[if_pos h,Int.add_sub_cancel,Int.ediv_one,Int.toNat_sub];refine ni λk _=>?_;lia
 ·rw[if_neg h,show b-a=0 from by lia];rfl
theorem nB (v:Int)(n d:Nat):max 0 (min (if v<0 then v+(n:Int)else v) (n:Int))=((L3.cJ n d (some v):Nat):Int):=by exact HT.Q0 v n d
theorem idx_eq (lo hi:Option Int)(n:Nat):ko lo hi 1 n=(b7<|L3.cJ n n hi-L3.cJ n 0 lo).map λk=>L3.cJ n 0 lo+k:=by cases lo with
 |none =>cases hi with|none =>exact xB 0 n|some u =>simp![ko];rw[nB u n n];exact xB 0 _
 |some v =>cases hi with|none =>simp![ko];rw[nB v n 0];exact xB _ n|some u =>simp![ko];rw[nB v n 0,nB u n n];exact xB _ _
theorem VA (n:Nat)(o:Option Int):L3.cJ n n o<=n:=by
 unfold L3.cJ;split;·exact av _
 ·split<;>lia
theorem WJ (x:Str)(lo hi:Option Int):Aas x lo hi=⟨(L3.cut x.cps.toList lo hi).toArray⟩:=by
 have hn:x.cps.toList.length=x.length:=rfl;have hb:=VA x.length hi;unfold Aas;rw[idx_eq];unfold L3.cut;rw[hn];generalize L3.cJ x.length 0 lo=a;generalize L3.cJ x.length x.length hi=b at hb;by_cases h:b-a=x.length
 ·rw[if_pos<|by simp [h]];by_cases z:x.length=0
  ·have:=by simpa [g8]using z
   apply Str.ext';rw[this];simp
  ·have ha:a=0:=by lia
   subst ha;rw[h,n6,<-hn,xa]
 ·rw[if_neg<|by simp [h]];by_cases q:a<=b
  ·have:=StrLaws.picks x.cps.toList (b-a) a (by lia);have e:((b7<|b-a).map λk=>a+k).filterMap (λi=>x.cps[i]?)=((b7<|b-a).map λk=>a+k).filterMap λi=>x.cps.toList[i]?:=by simp
   rw[e];rw[this]
  ·rw[show b-a=0 from by lia];rfl
def Kn:V->Option Int->Option Int->Hp->L2.VK->Prop:=λx lo hi H Q=>∃z:Str,x=.str z/\z.length<=sizeLine/\Q (.str ⟨(L3.cut z.cps.toList lo hi).toArray⟩) H
theorem part_of {v:Value}{o:Option Int}(h:wq v o):∃p:Option<|Int×Tok,v=partValue p/\p.map (·.1)=o:=by cases h with|none=>exact⟨none,rfl,rfl⟩|int i t=>exact⟨some (i,t),rfl,rfl⟩
theorem Fj:vU X Kn:=by intro pz s σ H x v vl vu lo hi sl Q I rx hs pl pu h;obtain⟨z,rfl,hz,q⟩:=h;obtain⟨t,rfl⟩:=rx;obtain⟨p1,rfl,rfl⟩:=part_of pl;obtain⟨p2,rfl,rfl⟩:=part_of pu;obtain⟨o,e1,e2,e3⟩:=hs;refine⟨"str", _,F.slot_str_getitem.lookup,vj _ _ _,wpAny_getItem_str_slice (l:=p1) (u:=p2) (st:=none) ⟨o,e1,e2,e3⟩ rfl<|post_val_or_str ?_⟩;show(Aas z _ _).length<=sizeLine/\∀t' k,EP X pz σ Q (.str (Aas z _ _) t') { s with toks:=k };refine⟨Nat.le_trans (Txt.slice_le z _ _) hz,λt' k=>?_⟩;rw[WJ];exact⟨.str _,H,I.tok _,⟨_,rfl⟩,q⟩
abbrev Ov (K:ae):V->Option Int->Option Int->Hp->L2.VK->Prop:=λx lo hi H Q=>Nk K x lo hi H Q\/Jw K x lo hi H Q\/Kn x lo hi H Q\/Io K x lo hi H Q
theorem Nx:vU X<|Ov X.K:=vU.or L2.MX<|vU.or Gr<|vU.or Fj Ds
set_option tactic.hygienic true in
theorem X8 {K:ae}{st:aB}{R:VK}{d:D}(ok:aQ K st H)(r:Rep K H d v)(h:BV d lo hi st R)(hq:∀v H',QD K H st R v H'->Q v H'):Ov K v lo hi H Q:=by
 unfold BV at h;split at h
 ·rename_i ds0;obtain⟨a,vs,rfl,f,g⟩:=r.cA;by_cases hw:HT.cJ vs.length 0 lo=0/\HT.cJ vs.length vs.length hi=vs.length
  ·refine .inr<|.inl ⟨a,vs,rfl,f,hw,hq _ _<|.here ok r ?_⟩;have e:L3.cut ds0 lo hi=ds0:=by unfold L3.cut;rw[g.length,<-WG,<-WG,hw.1,hw.2,n6,Nat.sub_zero,<-g.length,xa]
   rw[e]at h;exact h
  ·exact .inl ⟨a,vs,rfl,f,hw,λp hp=>hq _ _<|.F9 ok (g.cut lo hi) hp h⟩
 ·cases r.str_inv;exact .inr<|.inr<|.inl ⟨_,rfl,by rw[nD];simpa [g8]using h.1,hq _ _<|.here ok (.str _)<|by simp_all⟩
 ·cases r.cY;obtain⟨ds,e,h⟩:=dP h;obtain⟨vs,g1,g2⟩:=ok.lst e;exact .inr<|.inr<|.inr ⟨_,vs,rfl,eU.of g1,λp hp=>hq _ _<|.fW ok (g2.cut lo hi) hp h⟩
 ·exact h.elim
inductive GA (K:ae)(te:St->aB->(List D->aB->Prop)->Prop)(σ:L2.St)(H:Hp)(Q:Option Int->Hp->Prop):Prop where |mk (ac:St)(st:aB)(R:Option Int->aB->Prop)(r:cQ K H ac σ)(ok:aQ K st H)(q:te ac st λds aA=>pJ ds λo=>R o aA)(hq:∀(o:Option Int) H',QX K H st (R o) H'->Q o H'):GA K te σ H Q
theorem _root_.L2.PO.imp {e:Option cy}{t t':TO}(i:∀σ H Q,t' σ H Q->t σ H Q)(h:PO X e t):PO X e t':=λpz s σ H Q I q=>h pz s σ H Q I<|i σ H Q q
theorem Hl:PO X none (GA X.K<|bB C sub E []) :=Fh.imp λσ H Q ⟨ac,st,R,r,ok,q,hq⟩=>by exact hq _ _ ⟨st,.refl,ok,q⟩
theorem Cs (h:PE X e<|bW X.K<|aI C sub E x):PO X (some e) (GA X.K<|bB C sub E [x]) :=(Dc h).imp λσ H Q ⟨ac,st,R,r,ok,q,hq⟩=>by refine⟨ac,st,_,r,ok,q,λv H1 ⟨d,aC,s1,aR,r1,q1⟩=>?_⟩;cases d with|int i=>cases r1.int_inv;exact⟨i,rfl,hq _ _ ⟨aC,s1,aR,q1⟩⟩|_=>exact q1.elim
theorem Vq {lo hi:Option cy}{xl xh:List Ex}{p2:Pos}(ha:PE X a<|bW X.K<|aI C sub E x)(hl:PO X lo<|GA X.K<|bB C sub E xl)(hh:PO X hi<|GA X.K<|bB C sub E xh):PE X (.Subscript a (.Slice lo hi none p2) pos) (bW X.K<|aI C sub E<|.sl x xl xh) :=(Z7 Nx ha hl hh).imp λσ H Q ⟨ac,st,R,r,ok,q,hq⟩=>by refine⟨ac,st,_,r,ok,q,λv H1 ⟨d,aC,s1,aR,r1,q1⟩=>?_⟩;refine⟨ac,aC,_,r.step ok s1,aR,q1,λlo H2 ⟨aJ,s2,cG,q2⟩=>?_⟩;refine⟨ac,aJ,_,(r.step ok s1).step aR s2,cG,q2,λhi H3 ⟨aZ,s3,JY,q3⟩=>?_⟩;exact X8 JY ((r1.step aR s2).step cG s3) q3 λv H' z=>hq _ _<|.after ((s1.trans s2).trans s3) z
def tH (X:Cx)(f:Value)(W:List D->aB->VK->Prop):Prop :=∀(pz:List<|Addr×Obj)(s:aj)(σ:L2.St)(H:Hp)(st:aB)(ds:List D)(vs:List V)(us:List Value)(R:VK),Inv X pz σ H s->aQ X.K st H->aM X.K H ds vs->aS vs us->W ds st R ->wpAny (model X.prog X.w) X.A (call f us) (EP X pz σ<|QD X.K H st R) X.xe s
inductive Lz (K:ae)(W:List D->aB->VK->Prop)(vs:List V)(H:Hp)(Q:L2.VK):Prop where |mk (ds:List D)(st:aB)(R:VK)(r:aM K H ds vs)(ok:aQ K st H)(q:W ds st R)(hq:∀v H',QD K H st R v H'->Q v H'):Lz K W vs H Q
theorem tH.call {f:Value}{W:List D->aB->VK->Prop}(h:tH X f W):pH X f<|Lz X.K W:=λpz s σ H vs us Q I rv ⟨ds,st,R,r,ok,q,hq⟩ =>bA (h pz s σ H st ds vs us R I ok r rv q) λu s' ⟨v,H',I',r',z⟩=>⟨v,H',I',r',hq _ _ z⟩
theorem LC {K:ae}{W:List D->aB->VK->Prop}{σ:L2.St}(h:bW K (λσ st R=>bB C sub E xs σ st λds aA=>W ds aA R) σ H Q):Ao (Lz K W) (gY K<|bB C sub E xs) σ H Q:=by obtain⟨ac,st,R,r,ok,q,hq⟩:=h;refine⟨ac,st,_,r,ok,q,λvs H1 ⟨ds,aC,s1,aR,r1,q1⟩=>?_⟩;exact⟨ds,aC,R,r1,aR,q1,λv H' z=>hq _ _<|.after s1 z⟩
theorem Qm {W:List D->aB->VK->Prop}{n:Str}{id:String}{p:Pos}(hW:tH X (.builtin id) W)(hg:Gl X n)(hm:X.mg n=none)(hv:dm n=some (.builtin id))(ha:PA X (e::es)<|gY X.K<|bB C sub E xs)(hn:n ≠"__name__")(hdb:(n==("__debug__" : Str))=false)(he:sE X e es)(cW:sN X pos es):PE X (.Call (.Name n p) (e::es) [] pos) (bW X.K λσ st R=>bB C sub E xs σ st λds aA=>W ds aA R) :=(CK hW.call hg hm hv ha hn hdb he cW).imp λσ H Q h=>LC h
theorem Mw {W:List D->aB->VK->Prop}{n:Str}{T:String}{p:Pos}(hW:tH X (.type T) W)(hg:Gl X n)(hm:X.mg n=none)(hv:dm n=some (.type T))(ha:PA X (e::es)<|gY X.K<|bB C sub E xs)(hn:n ≠"__name__")(hdb:(n==("__debug__" : Str))=false)(he:sE X e es)(cW:sN X pos es):PE X (.Call (.Name n p) (e::es) [] pos) (bW X.K λσ st R=>bB C sub E xs σ st λds aA=>W ds aA R) :=(U8 hW.call hg hm hv ha hn hdb he cW).imp λσ H Q h=>LC h
theorem aM.one {K:ae}{d:D}(r:aM K H [d] vs):∃v,vs=[v]/\Rep K H d v:=by cases r with|cons h r=>cases r;exact⟨_,rfl,h⟩
theorem UK {K:ae}{st:aB}{d:D}{P:Nat->Prop}(ok:aQ K st H)(r:Rep K H d v)(h:rQ d st P):∃n,Ih K v H n/\P n:=by
 unfold rQ at h;split at h;·obtain⟨a,vs,rfl,f,g⟩:=r.cA;exact⟨_,.inr ⟨vs,f,g.length⟩,h⟩
 ·cases r.str_inv;exact⟨_,⟨by rw[nD];simpa [g8]using h.1,rfl⟩,h.2⟩
 ·cases r.cY;obtain⟨ds,e,h⟩:=tQ ok h;obtain⟨vs,g1,g2⟩:=ok.lst e;exact⟨_,.inl ⟨vs,eU.of g1,g2.length⟩,h⟩
 ·obtain⟨a,vs,rfl,f,g⟩:=r.mL;exact⟨_,.inl ⟨vs,f.sq,g.length⟩,h⟩
 ·exact h.elim
theorem bJ:tH X (.builtin "len")<|iI .len:=by intro pz s σ H st ds vs us R I ok r rv q;match ds,q with|[d],q =>obtain⟨v,rfl,rd⟩:=r.one;obtain⟨n,l,q⟩:=UK ok rd q;exact Z4 pz s σ H _ us _ I rv ⟨v,n,rfl,l,.here ok (.int _) q⟩|[],q=>exact q.elim|_::_::_,q=>exact q.elim
end
end L3
end
section
namespace L3
open PySem PySem.Spec PyProof.Rows L2
variable {X:Cx}{pz:List<|Addr×Obj}{σ:L2.St}{H:Hp}{E:XK}{vs:List V}{v:V}{P:fA}{k:Nat}
section
variable {s:aj}
def U9 (K:ae)(H:Hp)(a:Addr)(vs:List V):Prop:=eU K H a vs\/fT K H a vs
theorem CF {A:c5}{E:Value->aj->Prop}{a:Addr}{Q:Value->aj->Prop}(hh:A.handled=none)(I:Inv X pz σ H s)(h:U9 X.K H a vs)(hQ:∀(aD:List Value)(I0:Addr)(fp wr:List Addr)(St:Nat->Heap->Prop)(ca:aj),aS vs aD->Walks X.prog X.w A I0 fp wr aD.length (λi v=>aD[i]? = some v) St->St 0 ca.heap->(∀b∈fp,b<ca.heap.objs.size) -> (∀h' tk,(∀b o,b∉wr->ca.heap.get? b=some o->h'.get? b=some o)->Inv X pz σ H { ca with heap:=h',toks:=tk })->Q (.ref I0) ca):wpAny (model X.prog X.w) A (zm<|.ref a) Q E s:=by
 rcases h with h|h
 ·obtain⟨aD,r,p,hz⟩:=I.list h;have hl:=p.isList;have oO:a<s.heap.objs.size:=by obtain⟨_,e,_⟩:=hl;exact bc e
  have W:=Walks.list (prog:=X.prog) (w:=X.w) (A:=A) hh s.heap.objs.size a (cj oO) aD.toArray;have e1:aD.toArray.size=aD.length:=by simp
  have e2:λ(i:Nat) (v)=>aD.toArray[i]? = some v=λi v=>aD[i]? = some v:=by simp
  rw[e1,e2]at W;refine Aae hl<|hQ aD s.heap.objs.size _ _ _ _ r W ⟨⟨_,bo _ rfl,rfl,rfl⟩,hl.push _⟩ (λb hb=>?_) λh' tk hk=>?_
  ·rw[lh];rcases List.mem_cons.mp hb with rfl|hb;·exact ju _
   ·rcases List.mem_cons.mp hb with rfl|hb;·exact mq oO
    ·cases hb
  ·exact I.kept (t':=tk)<|old_kept hk
 ·obtain⟨aD,r,p,hz⟩:=I.tuple h;have hl:=p;have oO:a<s.heap.objs.size:=by obtain⟨_,e,_⟩:=hl;exact bc e
  have W:=AbB (prog:=X.prog) (w:=X.w) (A:=A) hh s.heap.objs.size a (cj oO) aD.toArray;have e1:aD.toArray.size=aD.length:=by simp
  have e2:λ(i:Nat) (v)=>aD.toArray[i]? = some v=λi v=>aD[i]? = some v:=by simp
  rw[e1,e2]at W;refine vo hl<|hQ aD s.heap.objs.size _ _ _ _ r W ⟨⟨_,bo _ rfl,rfl,rfl⟩,hl.push _⟩ (λb hb=>?_) λh' tk hk=>?_
  ·rw[lh];rcases List.mem_cons.mp hb with rfl|hb;·simp
   ·rcases List.mem_cons.mp hb with rfl|hb;·exact mq oO
    ·cases hb
  ·refine I.kept (t':=tk) λb o e=>hk b o (λhm=>?_)<|aq _ e;rcases List.mem_cons.mp hm with e1|hm;·exact absurd (e1▸Heap.lt_size e)<|mr _
   ·cases hm
theorem mU {K:ae}{st:aB}{d:D}{P:List Nat->List D->Prop}(ok:aQ K st H)(r:Rep K H d v)(h:dG d st P):∃a vs as ds,v=.ref a/\U9 K H a vs/\aM K H ds vs/\P as ds:=by
 unfold dG at h;split at h;·obtain⟨a,vs,rfl,f,g⟩:=r.cA;exact⟨a,vs,_,_,rfl,.inr f,g,h⟩
 ·cases r.cY;obtain⟨ds,e,h⟩:=dP h;obtain⟨vs,g1,g2⟩:=ok.lst e;exact⟨_,vs,_,ds,rfl,.inl<|eU.of g1,g2,h⟩
 ·obtain⟨a,vs,rfl,f,g⟩:=r.mL;exact⟨a,vs,_,_,rfl,.inl f.sq,g,h⟩
 ·exact h.elim
theorem CI {K:ae}:∀{ds:List D}{vs:List V}{aD:List Value}{bs:List Bool},boolsOf ds=some bs->aM K H ds vs->aS vs aD->aD=bs.map Zp|_,_,_,_,h,.nil,.nil=>by cases h;rfl|d::ds,_,_,bs,h,.cons r1 r2,.cons v1 v2=>by cases d with|bl b =>simp![boolsOf,ay]at h;obtain⟨bs',e,rfl⟩:=h;cases r1.gK;cases v1;rw[CI e r2 v2];rfl|_=>simp [boolsOf]at h
theorem all_range (bs:List Bool):(b7 bs.length).all (λi=>bs[i]?.getD true)=bs.all id:=by induction bs with|nil=>rfl|cons b bs ih =>simp![ag,ou,fm,je,sv,rz,r8,d5,id];rw[<-ih]
theorem any_range (bs:List Bool):(b7 bs.length).any (λi=>bs[i]?.getD true)=bs.any id:=by induction bs with|nil=>rfl|cons b bs ih =>simp![ag,ou,i7,qo,sv,rz,r8,d5,id];rw[<-ih]
theorem BQ {prog:bp}{w:dh}{A:c5}(bs:List Bool):TruthOf prog w A (λi v=>(bs.map Zp)[i]? = some v) λi=>bs[i]?.getD true:=λi v s Q E hP hQ=>by have hP:(bs.map _)[i]? = some v:=hP;rw[fi,ay]at hP;obtain⟨b,e,rfl⟩:=hP;simp![e]at hQ;exact jc hQ
theorem mW (hh:X.A.handled=none):tH X (.builtin "all")<|iI .all:=by intro pz s σ H st ds vs us R I ok r rv q;match ds,q with|[d],q =>obtain⟨v,rfl,rd⟩:=r.one;obtain⟨u,rfl,ru⟩:=vals1 rv;obtain⟨a,ws,as,xs,rfl,sa,g,q⟩:=mU ok rd q;cases ru;obtain⟨bs,e,q⟩:=fO q;refine call_all_walk<|CF hh I sa λaD I0 fp wr St ca rr W h0 hfp hk=>?_;cases CI e g rr;refine⟨I0,fp,wr,_,_,St,_,rfl,W,h0,BQ bs,λh' tk hk'=>⟨.bl _,H,hk h' tk hk',rfl,?_⟩⟩;rw[af,all_range];exact .here ok (.bl _) q|[],q=>exact q.elim|_::_::_,q=>exact q.elim
theorem IW (hh:X.A.handled=none):tH X (.builtin "any")<|iI .any:=by intro pz s σ H st ds vs us R I ok r rv q;match ds,q with|[d],q =>obtain⟨v,rfl,rd⟩:=r.one;obtain⟨u,rfl,ru⟩:=vals1 rv;obtain⟨a,ws,as,xs,rfl,sa,g,q⟩:=mU ok rd q;cases ru;obtain⟨bs,e,q⟩:=fO q;refine call_any_walk<|CF hh I sa λaD I0 fp wr St ca rr W h0 hfp hk=>?_;cases CI e g rr;refine⟨I0,fp,wr,_,_,St,_,rfl,W,h0,BQ bs,λh' tk hk'=>⟨.bl _,H,hk h' tk hk',rfl,?_⟩⟩;rw[af,any_range];exact .here ok (.bl _) q|[],q=>exact q.elim|_::_::_,q=>exact q.elim
theorem D7:tH X (.type "list")<|iI .list:=by intro pz s σ H st ds vs us R I ok r rv q;match ds,q with|[d],q =>obtain⟨v,rfl,rd⟩:=r.one;obtain⟨a,ws,as,xs,rfl,sa,g,q⟩:=mU ok rd q;exact NG pz s σ H _ us _ I rv ⟨a,ws,rfl,sa,λl hl=>.fW ok g hl q.2⟩|[],q=>exact q.elim|_::_::_,q=>exact q.elim
theorem dC:tH X (.type "tuple")<|iI .tuple:=by intro pz s σ H st ds vs us R I ok r rv q;match ds,q with
 |[d],q =>
 obtain⟨v,rfl,rd⟩:=r.one;obtain⟨a,ws,as,xs,rfl,sa,g,q⟩:=mU ok rd q;rcases sa with sa|sa;·exact xY pz s σ H _ us _ I rv ⟨a,ws,rfl,.inl ⟨sa,λl hl=>.F9 ok g hl q.2⟩⟩
 ·exact xY pz s σ H _ us _ I rv ⟨a,ws,rfl,.inr ⟨sa,.here ok (.tup sa g) q.2⟩⟩|[],q=>exact q.elim|_::_::_,q=>exact q.elim
theorem QF {K:ae}:∀{ds:List D}{vs:List V}{aD:List Value}{is:List Int},intsOf ds=some is->aM K H ds vs->aS vs aD->ye aD is|_,_,_,_,h,.nil,.nil=>by cases h;exact .nil|d::ds,_,_,bs,h,.cons r1 r2,.cons v1 v2=>by cases d with|int i =>simp![intsOf,ay]at h;obtain⟨bs',e,rfl⟩:=h;cases r1.int_inv;obtain⟨t,rfl⟩:=v1;exact .cons _ _<|QF e r2 v2|_=>simp [intsOf]at h
noncomputable def CT (is:List Int)(i:Nat):Int:=is[i]?.getD 0
theorem MN:∀{aD:List Value}{is:List Int},ye aD is->∀(i:Nat)(v:Value),aD[i]? = some v->∃t,v=.int (CT is i) t|_,_,.nil,i,v,e=>by simp at e|_,_,.cons n t r,0,v,e=>by simp at e;exact⟨t,e.symm⟩|_,_,.cons n t r,i+1,v,e=>by obtain⟨t',e'⟩:=MN r i v (by simp_all);exact⟨t',by assumption⟩
theorem O6:∀{aD:List Value}{is:List Int},ye aD is->aD.length=is.length|_,_,.nil=>rfl|_,_,.cons _ _ r=>by simp [O6 r]
theorem JV:∀(r:List Int)(m x:Int),zP m (r++[x])=if x>zP m r then x else zP m r|[],m,x=>rfl|y::r,m,x=>by exact JV r _ x
theorem take_snoc {r:List Int}(h:k<r.length):r.take (k+1)=r.take k++[r[k]]:=by rw[List.take_succ_eq_append_getElem h]
theorem B4 (i:Int)(r:List Int):∀k,k<=r.length->CT (i::r) (argBest (λa b=>decide<|CT (i::r) a>CT (i::r) b) k)=zP i (r.take k)
 |0,_=>rfl|k+1,h=>by
  have ih:=B4 i r k (by lia);rw[take_snoc<|by lia,JV,<-ih];have e:CT (i::r) (k+1)=r[k]:=by simp [CT,br<|show k<r.length by lia]
  rw[<-e];simp![argBest,decide_eq_true_eq];split<;>rfl
theorem WZ (hh:X.A.handled=none)(hc:X.calm=true):tH X (.builtin "max")<|iI .max:=by intro pz s σ H st ds vs us R I ok r rv q;match ds,q with
 |[d],q =>have q:iI .max [d] st R:=q;rw[UT]at q;obtain⟨v,rfl,rd⟩:=r.one;obtain⟨u,rfl,ru⟩:=vals1 rv;obtain⟨a,ws,as,xs,rfl,sa,g,q⟩:=mU ok rd q;cases ru;obtain⟨is,e,q⟩:=fO q;refine call_max_walk<|CF (A:=X.A.in1) hh I sa λaD I0 fp wr St ca rr W h0 hfp hk=>?_;have ia:=QF e g rr;cases is with|nil=>exact q.elim|cons i r =>
   have hl:=O6 ia;refine⟨I0,fp,wr,_,_,St,_,rfl,W,h0,hfp,by rw[hl];simp,CmpOf.ints_gt (CT<|i::r) λj v e=>MN ia j v e,λv h' tk hP hk'=>?_⟩;obtain⟨t,rfl⟩:=MN ia _ _ hP;refine⟨.int _,H,hk h' tk hk',⟨t,rfl⟩,?_⟩;have e2:aD.length-1=r.length:=by rw[hl];simp
   rw[e2,B4 i r r.length<|av _,xa];exact .here ok (.int _) q
 |[],q=>exact(q).elim|[a,b],q =>
  have q:=q;cases a<;>cases b<;>first|exact(q).elim|skip
  cases r with|cons r1 r2=>cases r2 with|cons r2 r3 =>cases r3;cases r1.int_inv;cases r2.int_inv;exact V7 hc pz s σ H _ us _ I rv ⟨_,_,rfl,.here ok (.int _) q⟩
 |a::b::c::r,q=>exact(show False by cases a<;>cases b<;>exact q).elim
theorem Cz {w:List Nat}(h1:1<=w.length)(h6:w.length<=6)(ha:w.all iP=true):PySem.intText? ⟨w.toArray⟩=some ((val w:Nat):Int):=by have h:=PySem.intText_digits (x:=⟨w.toArray⟩) (fun c hc=>by have:=List.all_eq_true.mp ha c (by simp_all);simp![iP,ao,decide_eq_true_eq]at this;exact this) fun z=>by simp_all (by simp [g8];lia);rw[h];show some ((w.foldl _ 0:Nat):Int)=_;congr 3;funext a c;lia
theorem tM:tH X (.type "int")<|iI .int:=by intro pz s σ H st ds vs us R I ok r rv q;match ds,q with
 |[d],q =>
 have q:=q;cases d<;>first|exact q.elim|skip
 ·obtain⟨v,rfl,rd⟩:=r.one;cases rd.gK;exact IM pz s σ H _ us _ I rv<|.inr ⟨_,rfl,.here ok (.int _) q⟩
 ·obtain⟨v,rfl,rd⟩:=r.one;cases rd.int_inv;exact IM pz s σ H _ us _ I rv<|.inl ⟨_,rfl,.here ok (.int _) q⟩
 ·obtain⟨v,rfl,rd⟩:=r.one;cases rd.str_inv;obtain⟨u,rfl,t,rfl⟩:=vals1 rv;have q:(1<=_/\_<=6/\_)/\R _ st:=q;exact PySem.W.KIN.call_text (Cz q.1.1 q.1.2.1 q.1.2.2) (by simp [g8];omega) ⟨.int _,H,I.tok _,⟨_,rfl⟩,.here ok (.int _) q.2⟩
 ·exact(dP q).elim λ_ z=>z.2.elim|[],q=>exact q.elim|a::_::_,q=>exact(show False by cases a<;>exact q).elim
theorem Ym {K:ae}{a:Addr}(h:H a=some (.lst vs)):XI K "list" (.ref a) H:=.inl ⟨rfl,vs,eU.of h⟩
theorem BN (l:Addr)(items:Array Value)(n:Nat)(b:Addr)(items2:Array Value)(n2:Nat)(dd:Option Addr)(sl:Array<|Option Value)(hs0:¬(!items.isEmpty&&gb (items.size+items2.size))=true)(hs1:items.size<=sizeLine)(hs2:items.size+items2.size<=sizeLine+1):Meets (Builtin.«list.extend» ⟨[.ref l,.ref b],[]⟩) λ_ R s=>s.heap.get? l=some { cls:=.type "list", dict:=none,data:=.seq items n,slots:=#[] }/\s.heap.get? b=some { cls:=.type "tuple", dict:=dd,data:=.seq items2 n2,slots:=sl }/\R (.ok<|.ret g6) { s with heap:=s.heap.update l<|oo λx=>x++items2,toks:=s.toks } :=.of_wp λprog w A R s h=>by
 obtain⟨hp,g,d,tk,os⟩:=s;obtain⟨hl,hb,h⟩:=h;have f1:=AutoSeq1.idx_int;have f2:=AutoSeq1.sub_tuple_tuple;have f3:=AutoSeq1.sub_list_list;have f4:=AutoSeq1.sub_tuple_list;have f5:=AutoSeq1.sub_list_tuple;have hz':(items++items2).size<=sizeLine+1:=by rw[Array.size_append];exact hs2
 wp_walk using ui hl rfl (hz:=hs1) (_hz':=hz'),wx hl,wx hb;exact⟨_,rfl,h⟩
def ZP (K:ae):V->List V->Hp->L2.VK->Prop:=λx vs H Q=>∃l b xs zs,x=.ref l/\vs=[.ref b]/\H l=some (.lst xs)/\fT K H b zs/\xs.length+zs.length<=sizeLine/\Q .non (upd H l<|.lst<|xs++zs)
theorem S7:Be X "list.extend"<|ZP X.K:=by
 intro pz s σ H x vs v us Q I rx rv h;obtain⟨l,b,xs,zs,rfl,rfl,hH,hB,hz,q⟩:=h;cases rx;obtain⟨u,rfl,ru⟩:=rv.one;cases ru;obtain⟨z,aD,n,r,hl,e⟩:=I.tY hH;obtain⟨uI,r2,p2,_⟩:=I.tuple hB;have hl2:=r2.length;obtain⟨⟨cls,dd,data,sl⟩,ho,hc,n2,hd⟩:=id p2;subst hc hd;have oB:aD.toArray.size+uI.toArray.size<=sizeLine:=by simp_all
 have hlong:¬(!aD.toArray.isEmpty&&gb (aD.toArray.size+uI.toArray.size))=true:=by rw[DA oB,dt];exact oh
 refine mv Zu ⟨_,e,rfl⟩ Ze (zq _ _) (BN l _ n b _ n2 dd sl hlong (by lia)<|by lia) ⟨e,ho,?_⟩;refine⟨.non,_,I.SK hH e (by simp) (r.append r2) ?_,rfl,q⟩;rw[ah];lia
def vB (X:Cx)(T id:String)(W:D->List D->aB->VK->Prop):Prop :=∀(pz:List<|Addr×Obj)(s:aj)(σ:L2.St)(H:Hp)(st:aB)(d:D)(ds:List D)(v:V)(vs:List V)(u:Value)(us:List Value)(R:VK),Inv X pz σ H s->aQ X.K st H->Rep X.K H d v->RelV v u->aM X.K H ds vs->aS vs us->W d ds st R ->wpAny (model X.prog X.w) X.A (call (.builtin id)<|u::us) (EP X pz σ<|QD X.K H st R) X.xe s
inductive Jg (K:ae)(W:D->List D->aB->VK->Prop)(v:V)(vs:List V)(H:Hp)(Q:L2.VK):Prop where |mk (d:D)(ds:List D)(st:aB)(R:VK)(r:Rep K H d v)(rs:aM K H ds vs)(ok:aQ K st H)(q:W d ds st R)(hq:∀v H',QD K H st R v H'->Q v H'):Jg K W v vs H Q
theorem vB.mt {T id:String}{W:D->List D->aB->VK->Prop}(h:vB X T id W):Be X id<|Jg X.K W:=λpz s σ H v vs u us Q I rv rvs ⟨d,ds,st,R,r,rs,ok,q,hq⟩ =>bA (h pz s σ H st d ds v vs u us R I ok r rv rs rvs q) λu s' ⟨v,H',I',r',z⟩=>⟨v,H',I',r',hq _ _ z⟩
theorem WS:vB X "list" "list.append"<|eT .append:=by
 intro pz s σ H st d ds v vs u us R I ok r rv rs rvs q;cases d<;>first|exact q.elim|skip
 match ds,q with|[d],q =>cases r.cY;obtain⟨w,rfl,rd⟩:=rs.one;obtain⟨xs,e,q⟩:=dP q;obtain⟨ys,g1,g2⟩:=ok.lst e;exact L2.tJ pz s σ H _ _ u us _ I rv rvs ⟨_,ys,w,rfl,rfl,g1,by rw[<-g2.length];exact q.1,.set ok e (g2.append<|.cons rd .nil) .non q.2⟩|[],q=>exact q.elim|_::_::_,q=>exact q.elim
theorem UL:vB X "list" "list.extend"<|eT .extend:=by
 intro pz s σ H st d ds v vs u us R I ok r rv rs rvs q;cases d<;>first|exact q.elim|skip
 match ds,q with
 |[d],q =>
 cases r.cY;obtain⟨w,rfl,rd⟩:=rs.one;obtain⟨xs,e,q⟩:=dP q;obtain⟨ys,g1,g2⟩:=ok.lst e;cases d<;>first|exact q.elim|skip
 ·obtain⟨b,ws,rfl,f,g⟩:=rd.cA;exact S7 pz s σ H _ _ u us _ I rv rvs ⟨_,b,ys,ws,rfl,rfl,g1,f,by rw[<-g2.length,<-g.length];exact q.1,.set ok e (g2.append g) .non q.2⟩
 ·cases rd.cY;obtain⟨zs,e2,q⟩:=dP q;obtain⟨ws,k1,k2⟩:=ok.lst e2;exact L2.yS pz s σ H _ _ u us _ I rv rvs ⟨_,_,ys,ws,rfl,rfl,g1,k1,by rw[<-g2.length,<-k2.length];exact q.1,.set ok e (g2.append k2) .non q.2⟩|[],q=>exact q.elim|_::_::_,q=>exact q.elim
theorem Oo:vB X "list" "list.pop"<|eT .pop:=by
 intro pz s σ H st d ds v vs u us R I ok r rv rs rvs q;cases d<;>first|exact q.elim|skip
 match ds,q with|[],q =>cases r.cY;cases rs;obtain⟨xs,e,q⟩:=dP q;obtain⟨ys,g1,g2⟩:=ok.lst e;obtain⟨d,e2,q⟩:=fO q;obtain⟨w,k1,k2⟩:=g2.get e2;exact L2.NR pz s σ H _ _ u us _ I rv rvs ⟨_,ys,w,rfl,rfl,g1,by rw[<-g2.length];exact k1,.set ok e g2.dropLast k2 q⟩|_::_,q=>exact q.elim
theorem WM {K:ae}{m:MT}{st:aB}{d:D}(hm:m=.append\/m=.extend\/m=.pop)(ok:aQ K st H)(r:Rep K H d v)(h:oV m d st):XI K "list" v H:=by
 have h':∃a ds,d=.ref a/\st a=some (.lst ds):=by rcases hm with rfl|rfl|rfl<;>(cases d<;>first|exact h.elim|(obtain⟨ds,e,_⟩:=dP h;exact⟨_,ds,rfl,e⟩))
 obtain⟨a,ds,rfl,e⟩:=h';cases r.cY;obtain⟨vs,g,_⟩:=ok.lst e;exact Ym g
end
variable {C:aU}{b e:cy}{y:Ex}{pos apos:Pos}{es:List cy}{xs:List Ex}
section
variable {sub:Nat->Nat->Bool}{a c o:cy}{x z:Ex}{fX:Pos}
theorem XH {m:MT}{name:Str}{id:String}(hmi:m=.append\/m=.extend\/m=.pop)(slot:Slot "list" name id)(hty:Zs (.builtin id)=pure (.type "method_descriptor"))(hm:vB X "list" id<|eT m)(ho:PE X o<|bW X.K<|aI C sub E x)(ha:PA X (e::es)<|gY X.K<|bB C sub E xs)(dR:ei o name X.env (eval o X.env)=eval o X.env)(iG:xX X fX (e::es)=true)(dS:(apos.endLine==fX.line)=true)(hs:sE X e es)(eI:sN X fX es):PE X (.Call (.Attribute o name apos) (e::es) [] fX) (bW X.K<|aI C sub E<|.bP m x xs) :=(Bg xb slot hty hm.mt ho ha dR iG dS hs eI).imp λσ H Q ⟨ac,st,R,r,ok,q,hq⟩=>by refine⟨ac,st,_,r,ok,q,λv H1 ⟨d,aC,s1,aR,r1,q1⟩=>⟨WM hmi aR r1 q1.1,?_⟩⟩;refine⟨ac,aC,_,r.step ok s1,aR,q1.2,λvs H2 ⟨ds,aJ,s2,cG,r2,q2⟩=>?_⟩;exact⟨d,ds,aJ,R,r1.step aR s2,r2,cG,q2,λv H' z=>hq _ _<|.after (s1.trans s2) z⟩
theorem Fm {m:MT}{name:Str}{id:String}(hmi:m=.append\/m=.extend\/m=.pop)(slot:Slot "list" name id)(hty:Zs (.builtin id)=pure (.type "method_descriptor"))(hm:vB X "list" id<|eT m)(ho:PE X o<|bW X.K<|aI C sub E x)(dR:ei o name X.env (eval o X.env)=eval o X.env)(dS:(apos.endLine==fX.line)=true):PE X (.Call (.Attribute o name apos) [] [] fX) (bW X.K<|aI C sub E<|.bP m x []) :=(Lu xb slot hty hm.mt ho dR dS).imp λσ H Q ⟨ac,st,R,r,ok,q,hq⟩=>by refine⟨ac,st,_,r,ok,q,λv H1 ⟨d,aC,s1,aR,r1,q1⟩=>⟨WM hmi aR r1 q1.1,?_⟩⟩;exact⟨d,[],aC,R,r1,.nil,aR,q1.2,λv H' z=>hq _ _<|.after s1 z⟩
inductive jK (K:ae)(C:aU)(f:Nat)(vs:List V)(H:Hp)(Q:L2.VK)(E:L2.XK):Prop where |mk (ds:List D)(st:aB)(R:VK)(r:aM K H ds vs)(ok:aQ K st H)(q:C f ds st R λ_ _=>False)(hq:∀v H',QD K H st R v H'->Q v H'):jK K C f vs H Q E
theorem Jh {CX:vC}{f:Addr}{fid:Nat}{fd:fh}{ps:List Str}{n:Str}{p:Pos}(F:cD X.prog X.w X.K X.mg X.base CX k f fd ps<|jK X.K C fid)(hr:cK k X.A)(hg:Gl X n)(hm:X.mg n=some (.ref f))(hk:e9 X.K (.ref f)=true)(hb:Binds X.K fd ps [])(hx:gA CX X E0)(ha:PA X (e::es)<|gY X.K<|bB C sub E xs)(hdb:(n==("__debug__" : Str))=false)(he:sE X e es)(cW:sN X pos es):PE X (.Call (.Name n p) (e::es) [] pos) (bW X.K<|aI C sub E<|.call fid xs) :=(PV F hr hg hm hk hb .nil hx ha hdb he cW).imp λσ H Q ⟨ac,st,R,r,ok,q,hq⟩=>by refine⟨ac,st,_,r,ok,q,λvs H1 ⟨ds,aC,s1,aR,r1,q1⟩=>?_⟩;rw[dn];exact⟨ds,aC,R,r1,aR,q1,λv H' z=>hq _ _<|.after s1 z⟩
end
noncomputable abbrev EF:XK:=λ_ _=>False
structure yY (K:ae)(EX:XK)(H:Hp)(st:aB)(P:fA)(D:Ends):Prop where
 nx:∀am H' cS aA,cQ K H' cS am->Step H st H' aA->aQ K aA H'->P.nx cS aA->D.nx am H'
 rt:∀v H',QD K H st P.rt v H'->D.rt v H'
 bk:∀am H' cS aA,cQ K H' cS am->Step H st H' aA->aQ K aA H'->P.bk cS aA->D.bk am H'
 ct:∀am H' cS aA,cQ K H' cS am->Step H st H' aA->aQ K aA H'->P.ct cS aA->D.ct am H'
 ex:∀c ac st,P.ex c ac st->EX c st
variable {EX:XK}{H1:Hp}{aC:aB}
theorem yY.after {K:ae}{st:aB}{D:Ends}(h:yY K EX H st P D)(s:Step H st H1 aC):yY K EX H1 aC P D :=⟨λam H' cS aA r t ok q=>h.nx am H' cS aA r (s.trans t) ok q,λv H' z=>h.rt v H'<|.after s z,λam H' cS aA r t ok q=>h.bk am H' cS aA r (s.trans t) ok q,λam H' cS aA r t ok q=>h.ct am H' cS aA r (s.trans t) ok q,h.ex⟩
inductive jF (K:ae)(EX:XK)(ts:fA->St->aB->Prop)(D:Ends)(σ:L2.St)(H:Hp):Prop where |mk (ac:St)(st:aB)(P:fA)(r:cQ K H ac σ)(ok:aQ K st H)(q:ts P ac st)(h:yY K EX H st P D):jF K EX ts D σ H
variable {ss as:List Stmt}{ac:St}{ax bx:List Sx}{t:Ty}{i:Nat}{tg:cy}
section
variable {sub:Nat->Nat->Bool}{a c:cy}{x z:Ex}{s:Stmt}{xs:List Sx}{sx:Sx}
theorem Bd:iY X [] (jF X.K EX<|cH C sub []) :=FG.imp λD σ H ⟨ac,st,P,r,ok,q,h⟩=>by exact h.nx _ _ _ _ r .refl ok q
theorem Ob (h1:PS X s<|jF X.K EX<|wpS C sub sx)(h2:iY X ss<|jF X.K EX<|cH C sub xs):iY X (s::ss) (jF X.K EX<|cH C sub<|sx::xs) :=(CH h1 h2).imp λD σ H ⟨ac,st,P,r,ok,q,h⟩=>by exact⟨ac,st,_,r,ok,q,⟨λam H' cS aA r' s' dD q'=>⟨cS,aA,P,r',dD,q',h.after s'⟩,h.rt,h.bk,h.ct,h.ex⟩⟩
theorem zB {st:aB}{Q:VK}(hC:bU C C)(he:∀c ac st,P.ex c ac st->EX c st)(q:aI C sub (λc aA=>P.ex c ac aA) x ac st Q):aI C sub EX x ac st Q :=aT hC (λc st z=>he _ _ _ z) x (λ_ _ z=>z) q
theorem Sv {st:aB}{xs:List Ex}{Q:List D->aB->Prop}(hC:bU C C)(he:∀c ac st,P.ex c ac st->EX c st)(q:bB C sub (λc aA=>P.ex c ac aA) xs ac st Q):bB C sub EX xs ac st Q :=cT hC (λc st z=>he _ _ _ z) xs (λ_ _ z=>z) q
theorem Si (hC:bU C C)(h:PE X e<|bW X.K<|aI C sub EX x):PS X (.Return (some e) pos) (jF X.K EX<|wpS C sub<|.ret x) :=(LS h).imp λD σ H ⟨ac,st,P,r,ok,q,h⟩=>by exact⟨ac,st,_,r,ok,zB hC h.ex q,h.rt⟩
theorem Wl (hC:bU C C)(h:PE X e<|bW X.K<|aI C sub EX x)(hs:nq e none pos.line X.env=pure false):PS X (.Expr e pos) (jF X.K EX<|wpS C sub<|.ex x) :=(Cm h hs).imp λD σ H ⟨ac,st,P,r,ok,q,h⟩=>by exact⟨ac,st,_,r,ok,zB hC h.ex q,λv H' ⟨d,aA,s',dD,_,q'⟩=>h.nx _ _ _ _ (r.step ok s') s' dD q'⟩
theorem Vj {bs:List Stmt}(hC:bU C C)(hc:PT X c<|jV X.K<|aI C sub EX x)(ha:iY X as<|jF X.K EX<|cH C sub ax)(hb:iY X bs<|jF X.K EX<|cH C sub bx):PS X (.If c as bs pos) (jF X.K EX<|wpS C sub<|.iff x ax bx) :=(QU hc ha hb).imp λD σ H ⟨ac,st,P,r,ok,q,h⟩=>by refine⟨ac,st,_,r,ok,zB hC h.ex q,λk H' ⟨aA,s',dD,q'⟩=>?_⟩;cases k with|true=>exact⟨ac,aA,P,r.step ok s',dD,q',h.after s'⟩|false=>exact⟨ac,aA,P,r.step ok s',dD,q',h.after s'⟩
theorem Mc {cl:Nat}{es:List Ex}(hC:bU C C)(hn:∀ac st,¬bB C sub EF es ac st λ_ _=>False):PS X s (jF X.K EF<|wpS C sub<|.rais cl es) :=NB.imp λD σ H ⟨ac,st,P,r,ok,q,h⟩=>by exact hn ac st<|cT hC (λc st z=>(h.ex _ _ _ z).elim) es (λ_ _ z=>(h.ex _ _ _ z).elim) q
inductive LV (K:ae)(g:D->St->aB->(St->aB->Prop)->Prop)(v:V)(σ:L2.St)(H:Hp)(Q:L2.St->Hp->Prop):Prop where |mk (d:D)(ac:St)(st:aB)(M:St->aB->Prop)(r:Rep K H d v)(sr:cQ K H ac σ)(ok:aQ K st H)(q:g d ac st M)(hq:∀am H' cS aA,cQ K H' cS am->Step H st H' aA->aQ K aA H'->M cS aA->Q am H'):LV K g v σ H Q
theorem _root_.L2.PG.imp {t t':TG}(i:∀v σ H Q,t' v σ H Q->t v σ H Q)(h:PG X e t):PG X e t':=λpz s σ H v u Q I r q=>h pz s σ H v u Q I r<|i v σ H Q q
theorem X1 (h:PG X e<|DL i):PG X e (LV X.K<|nH C sub E<|.nm i) :=h.imp λv σ H Q ⟨d,ac,st,M,rd,r,ok,q,hq⟩=>by exact hq _ _ _ _ (r.set i rd) .refl ok q
theorem SF {t:Tg}(hC:bU C C)(he:PE X e<|bW X.K<|aI C sub EX x)(hg:PG X tg<|LV X.K<|nH C sub EX t)(hs:ud [tg] e pos.line X.env=pure false)(hw:ue [tg] e X.env=pure none)(h1:(fy [tg] X.env).map (·.2)=[qt tg X.env]):PS X (.Assign [tg] e pos) (jF X.K EX<|wpS C sub<|.asg t x) :=(Oe he hg hs hw h1).imp λD σ H ⟨ac,st,P,r,ok,q,h⟩=>by refine⟨ac,st,_,r,ok,zB hC h.ex q,λv H' ⟨d,aA,s',dD,rd,q'⟩=>?_⟩;refine⟨d,ac,aA,_,rd,r.step ok s',dD,xJ hC (λc st z=>h.ex _ _ _ z) (λ_ _ z=>z) t q',λce H2 tV aJ r2 s2 cG q2=>?_⟩;exact h.nx _ _ _ _ r2 (s'.trans s2) cG q2
theorem Ff {bs:List Stmt}(hC:bU C C)(hp:u7 (model X.prog X.w) X.A X.env X.xe)(hc:PT X c<|jV X.K<|aI C sub EX x)(hb:iY X bs<|jF X.K EX<|cH C sub bx):PS X (.While c bs [] pos) (jF X.K EX<|wpS C sub<|.whl x bx) :=(XZ hp hc hb).imp λD σ H ⟨ac,st,P,r,ok,q,h⟩=>by obtain⟨n,q⟩:=q;refine⟨λm am H'=>∃cS aA,cQ _ H' cS am/\Step H st H' aA/\aQ _ aA H'/\uP _ m cS aA,⟨n,ac,st,r,.refl,ok,q⟩,λm f8 H1 ⟨ut,aC,r1,s1,aR,q1⟩=>?_⟩;cases m with|zero=>exact q1.elim|succ m =>refine⟨ut,aC,_,r1,aR,zB hC h.ex q1,λk H2 ⟨aJ,s2,cG,q2⟩=>?_⟩;cases k with|false=>exact h.nx _ _ _ _ (r1.step aR s2) (s1.trans s2) cG q2|true =>refine⟨_,λam H' z=>⟨m,ju _,z⟩,?_⟩;refine⟨ut,aJ,_,r1.step aR s2,cG,q2,⟨λam H' cS aA r' s' dD q'=>⟨cS,aA,r',(s1.trans s2).trans s',dD,q'⟩,λv H' z=>h.rt _ _<|.after (s1.trans s2) z,λam H' cS aA r' s' dD q'=>h.nx _ _ _ _ r' ((s1.trans s2).trans s') dD q',λam H' cS aA r' s' dD q'=>⟨cS,aA,r',(s1.trans s2).trans s',dD,q'⟩,h.ex⟩⟩
end
noncomputable def Aa (x:Str):It:=⟨λi _=>i<x.cps.size,λi H v H'=>H'=H/\∃c,x.cps[i]? = some c/\v=.str ⟨#[c]⟩,λi _=>x.cps.size<=i⟩
variable {P:bp}
theorem N7 {w:dh}{K:ae}(it:Addr)(x:Str)(t:Tok)(ty:String)(hty:["enumerate","zip","dict_itemiterator","dict_reverseitemiterator","odict_iterator","itertools.zip_longest","itertools.pairwise"].contains ty=false)(W:∀A:c5,A.handled=none->Walks P w A it [it] [it] x.cps.size (SignAt x) λi h=>h.IsStrIter it ty x t i)(hd:∀(A:c5)(i:Nat)(s:aj)(Q:Option Value->aj->Prop)(E:Value->aj->Prop),A.handled=none->s.heap.IsStrIter it ty x t i->x.cps.size<=i->(∀h',(∀b o,b≠it->s.heap.get? b=some o->h'.get? b=some o)->Q none { s with heap:=h' })->wpAny (model P w) A (zl<|.ref it) Q E s)(hself:∀(A:c5)(i:Nat)(s:aj)(Q:Value->aj->Prop)(E:Value->aj->Prop),s.heap.IsStrIter it ty x t i->Q (.ref it) s->wpAny (model P w) A (zm<|.ref it) Q E s):Turn P w K tg (Aa x) [it] it λi h=>h.IsStrIter it ty x t i where
 mem:=by simp
 obj:=λi h st b hb=>by
  have e:=by simpa using hb
  subst e;obtain⟨o,e,c,d⟩:=st;exact⟨o,e,λv z=>by simp_all⟩
 keep:=λi h h' st k=>let⟨o,e,r⟩:=st;⟨o,k it (by simp) o e,r⟩;item:=by intro X hP hw hK hc i pz s σ H E I hf st hg;obtain⟨f0,f1,f2,f3,f4,f5⟩:=hf it (by simp);refine(W X.A<|I.ok.hd hc).item i s _ _ hg st λv h' tk hv aA kk=>?_;obtain⟨c,u,hc',rfl⟩:=hv;have I1:Inv X pz σ H { s with heap:=h',toks:=tk }:=I.turned (λb o hb e=>kk b o (by simpa using hb) e) f0 f1 f3 f4 f5;obtain⟨o,e,c1,d⟩:=id aA;exact⟨_,rfl,KD (s:={ s with heap:=h',toks:=tk }) e c1 d hty ⟨.str ⟨#[c]⟩,H,I1,⟨u,rfl⟩,⟨rfl,c,hc',rfl⟩,aA,λb hb=>(hf b hb).1⟩⟩
 done:=by intro X hP hw hK hc i pz s σ H E I hf st hg;subst hP hw hK;obtain⟨f0,f1,f2,f3,f4,f5⟩:=hf it (by simp);exact hd X.A i s _ _ (I.ok.hd hc) st hg λh' eb=>⟨rfl,I.turned (t':=s.toks) (λb o hb e=>eb b o hb e) f0 f1 f3 f4 f5⟩
 self:=λA i s Q E st h=>hself A i s Q E st h
structure EG (K:ae)(J:It)(as:List Nat)(xs:List D)(H1:Hp)(aC:aB):Prop where
 go:∀i H st d,Step H1 aC H st->aQ K st H->same as aC st->xs[i]? = some d->J.go i H
 yld:∀i H st d x H',Step H1 aC H st->aQ K st H->same as aC st->xs[i]? = some d->J.yld i H x H'->Step H st H' st/\aQ K st H'/\Rep K H' d x
 stop:∀i H st,Step H1 aC H st->aQ K st H->same as aC st->xs.length<=i->J.stop i H
inductive QJ (K:ae)(H:Hp)(st:aB)(M:List Nat->List D->aB->Prop)(J:It)(H1:Hp):Prop where |mk (as:List Nat)(xs:List D)(aC:aB)(s:Step H st H1 aC)(ok:aQ K aC H1)(j:EG K J as xs H1 aC)(q:M as xs aC):QJ K H st M J H1
inductive yZ (K:ae)(te:St->aB->(List Nat->List D->aB->Prop)->Prop)(σ:L2.St)(H:Hp)(R:It->Hp->Prop):Prop where |mk (ac:St)(st:aB)(M:List Nat->List D->aB->Prop)(r:cQ K H ac σ)(ok:aQ K st H)(q:te ac st M)(hq:∀J H1,QJ K H st M J H1->R J H1):yZ K te σ H R
section
variable {K:ae}{a:Addr}{xs:List D}
theorem Hn (aR:aQ K aC H1)(f:fT K H1 a vs)(g:aM K H1 xs vs):EG K (Me K a) [] xs H1 aC where
 go:=λi H st d s ok _ e=>let⟨v,e1,_⟩:=g.get e;⟨vs,v,vX aR s f,e1⟩;yld:=λi H st d x H' s ok _ e ⟨e',h⟩=>by subst e';obtain⟨v,e1,e2⟩:=g.get e;have:=h vs<|vX aR s f;rw[e1]at this;cases this;exact⟨.refl,ok,e2.step aR s⟩
 stop:=λi H st s ok _ l=>⟨vs,vX aR s f,by rw[<-g.length];exact l⟩
theorem X2 (aR:aQ K aC H1)(f:pA K H1 a vs)(g:aM K H1 xs vs):EG K (Ag K a) [] xs H1 aC where
 go:=λi H st d s ok _ e=>let⟨v,e1,_⟩:=g.get e;⟨vs,v,(tO aR s f).sq,e1⟩;yld:=λi H st d x H' s ok _ e ⟨e',h⟩=>by subst e';obtain⟨v,e1,e2⟩:=g.get e;have:=h vs (tO aR s f).sq;rw[e1]at this;cases this;exact⟨.refl,ok,e2.step aR s⟩
 stop:=λi H st s ok _ l=>⟨vs,(tO aR s f).sq,by rw[<-g.length];exact l⟩
theorem Gf (aR:aQ K aC H1)(e0:aC a=some (.lst xs)):EG K (Ag K a) [a] xs H1 aC where
 go:=λi H st d s ok sm e=>by have e':=(sm a<|by simp).trans e0;obtain⟨us,g1,g2⟩:=ok.lst e';obtain⟨v,e1,_⟩:=g2.get e;exact⟨us,v,eU.of g1,e1⟩
 yld:=λi H st d x H' s ok sm e ⟨e',h⟩=>by subst e';have e':=(sm a<|by simp).trans e0;obtain⟨us,g1,g2⟩:=ok.lst e';obtain⟨v,e1,e2⟩:=g2.get e;have:=h us<|eU.of g1;rw[e1]at this;cases this;exact⟨.refl,ok,e2⟩
 stop:=λi H st s ok sm l=>by have e':=(sm a<|by simp).trans e0;obtain⟨us,g1,g2⟩:=ok.lst e';exact⟨us,eU.of g1,by rw[<-g2.length];exact l⟩
theorem UG (lo:Int)(n:Nat):EG K (Ak lo n) [] (iR lo n) H1 aC where
 go:=λi H st d s ok _ e=>by have:=(List.getElem?_eq_some_iff.mp e).1;show i<n;simpa [iR]using this
 yld:=λi H st d x H' s ok _ e ⟨e',h⟩=>by
  subst e' h;simp![iR,fi,ay]at e;obtain⟨k,e1,rfl⟩:=e;have:k=i:=by rw[v5]at e1;obtain⟨_,e2⟩:=e1;simp at e2;exact e2.symm
  subst this;exact⟨.refl,ok,.int _⟩
 stop:=λi H st s ok _ l=>by show n<=i;simpa [iR]using l
theorem QE (x:List Nat):EG K (Aa ⟨x.toArray⟩) [] (x.map λc=>.str [c]) H1 aC where
 go:=λi H st d s ok _ e=>by have:=(List.getElem?_eq_some_iff.mp e).1;show i<(⟨_⟩:Str).cps.size;simpa using this
 yld:=λi H st d v H' s ok _ e ⟨e',c,ec,ev⟩=>by
  subst e' ev;simp![fi,ay]at e;obtain⟨c',e1,rfl⟩:=e;have:=by simp at ec;rw[ec]at e1;exact dv e1
  subst this;exact⟨.refl,ok,.str _⟩
 stop:=λi H st s ok _ l=>by show(⟨_⟩:Str).cps.size<=i;simpa using l
end
variable {aD:List Ex}{iter:cy}
section
variable {sub:Nat->Nat->Bool}{a c:cy}{x z:Ex}
theorem _root_.L2.PI.imp {t t':TI}(i:∀σ H Q,t' σ H Q->t σ H Q)(h:PI X tg e t):PI X tg e t':=λpz s σ H Q I q=>h pz s σ H Q I<|i σ H Q q
theorem Oq (h:PE X e<|bW X.K<|aI C sub E x):PI X tg e<|yZ X.K λσ st M=>bB C sub E [x] σ st λds aC=>jZ none ds aC λas xs=>M as xs aC:=by
 intro pz s σ H R I ⟨ac,st,M,r,ok,q,hq⟩;refine bA (h pz s σ H _ I ⟨ac,st,_,r,ok,q,λv H' z=>z⟩) λu s1 ⟨v,H1,I1,rv,d,aC,dU,aR,r1,q1⟩=>?_;have fresh:∀{b:Addr},b∈[s1.heap.objs.size]->nR X pz H1 b:=λ{b} hb=>by
  have e:b=s1.heap.objs.size:=by simpa using hb
  subst e;exact I1.RV (av _)<|I1.bL.fresh<|av _
 have tup:∀(a:Addr)(vs:List V)(as:List Nat)(xs:List D),v=.ref a->fT X.K H1 a vs->EG X.K (Me X.K a) as xs H1 aC->M as xs aC->wpAny (model X.prog X.w) X.A (zm u) (Al X pz σ tg R) X.xe s1:=by intro a vs as xs e f j q;subst e;cases rv;obtain⟨aD,rr,p,hz⟩:=I1.tuple f;exact vo (show s1.heap.IsTuple a aD.toArray from p) ⟨s1.heap.objs.size,[s1.heap.objs.size],_,_,H1,rfl,I1.kept (t':=s1.toks) λb o e=>aq _ e,RW a _,⟨_,bo _ rfl,rfl,rfl⟩,λb hb=>fresh hb,hq _ _ ⟨as,xs,aC,dU,aR,j,q⟩⟩
 have lst:∀(a:Addr)(vs:List V)(as:List Nat)(xs:List D),v=.ref a->eU X.K H1 a vs->EG X.K (Ag X.K a) as xs H1 aC->M as xs aC->wpAny (model X.prog X.w) X.A (zm u) (Al X pz σ tg R) X.xe s1:=by intro a vs as xs e f j q;subst e;cases rv;obtain⟨aD,rr,p,hz⟩:=I1.list f;exact Aae p.isList ⟨s1.heap.objs.size,[s1.heap.objs.size],_,_,H1,rfl,I1.kept (t':=s1.toks) λb o e=>aq _ e,W0 a _,⟨_,bo _ rfl,rfl,rfl⟩,λb hb=>fresh hb,hq _ _ ⟨as,xs,aC,dU,aR,j,q⟩⟩
 have q1:nK d aC λas xs=>M as xs aC:=q1;cases d with|tup ds =>obtain⟨a,vs,e,f,g⟩:=r1.cA;exact tup a vs _ _ e f (Hn aR f g) q1|str z =>
  have q1:z.length<=aL/\M [] (z.map λc=>.str [c]) aC:=q1;cases r1.str_inv;obtain⟨t,rfl⟩:=rv;cases ha:(⟨z.toArray⟩:Str).cps.all (·< 128);·exact wpAny_pyIter_wide ha ⟨s1.heap.objs.size,[s1.heap.objs.size],_,Aa ⟨z.toArray⟩,H1,rfl,I1.kept (t':=s1.toks) λb o e=>aq _ e,N7 s1.heap.objs.size ⟨z.toArray⟩ t "str_iterator" (by cbv) (λA hA=>Walks.strWide hA _ _ t) (λA i s Q E hA hi hn hQ=>wpAny_pyNext_wide_end hA hi (by simpa using hn) λh' he=>hQ h' he) λA i s Q E hi hQ=>wpAny_pyIter_striter_wide hi hQ,⟨_,bo _ rfl,rfl,rfl⟩,λb hb=>fresh hb,hq _ _ ⟨_,_,aC,dU,aR,QE z,q1.2⟩⟩
  ·exact wpAny_pyIter_ascii ha ⟨s1.heap.objs.size,[s1.heap.objs.size],_,Aa ⟨z.toArray⟩,H1,rfl,I1.kept (t':=s1.toks) λb o e=>aq _ e,N7 s1.heap.objs.size ⟨z.toArray⟩ t "str_ascii_iterator" (by cbv) (λA hA=>Walks.strAscii hA _ _ t) (λA i s Q E hA hi hn hQ=>wpAny_pyNext_ascii_end hA hi (by simpa using hn) λh' he=>hQ h' he) λA i s Q E hi hQ=>wpAny_pyIter_striter_ascii hi hQ,⟨_,bo _ rfl,rfl,rfl⟩,λb hb=>fresh hb,hq _ _ ⟨_,_,aC,dU,aR,QE z,q1.2⟩⟩|ref a =>cases r1.cY;obtain⟨ds,e,q1⟩:=dP (st:=aC) q1;obtain⟨vs,g1,g2⟩:=aR.lst e;exact lst _ vs _ _ rfl (eU.of g1) (Gf aR e) q1|bR ds =>obtain⟨a,vs,e,f,g⟩:=r1.mL;exact lst a vs _ _ e f.sq (X2 aR f g) q1|_=>exact(q1).elim
theorem Et {p:Pos}(hC:bU C C)(hg:Gl X "range")(hm:X.mg "range" = none)(ha:PA X [a]<|gY X.K<|bB C sub E [x])(hs:cb [a] X.env=[(false,eval a X.env)]):PI X tg (.Call (.Name "range" p) [a] [] pos) (yZ X.K λσ st M=>bB C sub E [x] σ st λds aC=>jZ (some .range) ds aC λas xs=>M as xs aC) :=(UZ hg hm ha hs).imp λσ H R ⟨ac,st,M,r,ok,q,hq⟩=>by refine⟨ac,st,_,r,ok,CG _ hC q,λvs H1 ⟨ds,aC,s1,aR,r1,l1,q1⟩=>?_⟩;match ds,l1,q1 with|[d],_,q1 =>obtain⟨v,rfl,rd⟩:=r1.one;cases d with|int j =>cases rd.int_inv;exact⟨j,rfl,q1.1.1,q1.1.2,hq _ _ ⟨_,_,aC,s1,aR,UG 0 _,q1.2⟩⟩|_=>exact q1.elim
theorem Ai {k:Option IK}{t:Tg}{bs:List Stmt}(hC:bU C C)(hp:u7 (model X.prog X.w) X.A X.env X.xe)(hc:X.calm=true)(hi:PI X tg iter<|yZ X.K λσ st M=>bB C sub EX aD σ st λds aC=>jZ k ds aC λas xs=>M as xs aC)(hg:PG X tg<|LV X.K<|nH C sub EX t)(hb:iY X bs<|jF X.K EX<|cH C sub bx)(hs:∀x,ft iter X.env x=pure x):PS X (.For tg iter bs [] pos) (jF X.K EX<|wpS C sub<|.sV t k aD bx) :=(Kh hp hc hi hg hb hs).imp λDD σ H ⟨ac,st,P,r,ok,q,h⟩=>by
 refine⟨ac,st,_,r,ok,Sv hC h.ex q,λJ H1 ⟨as,xs,aC,s1,aR,j,q1⟩=>?_⟩;refine⟨λi m am H'=>∃cS aA,cQ X.K H' cS am/\Step H1 aC H' aA/\aQ X.K aA H'/\m+i=xs.length/\AH (same as aC) (λ(x) next σ st=>nH C sub (λc aA=>P.ex c σ aA) t x σ st λam aA=>cH C sub bx { P with nx:=next,ct:=next,bk:=P.nx } am aA) P.nx (xs.drop i) cS aA,⟨xs.length,ac,aC,r.step ok s1,.refl,aR,by lia,by simpa using q1⟩,λi m ce H2 ⟨tV,aJ,r2,s2,cG,e2,q2⟩=>?_⟩;by_cases hi':i<xs.length;·have ed:=fx hi';rw[ed]at q2;obtain⟨g2,q2⟩:=q2;refine .inr ⟨j.go i H2 aJ xs[i] s2 cG g2<|br hi',λam H'=>∃cS aA,cQ X.K H' cS am/\Step H1 aC H' aA/\aQ X.K aA H'/\AH (same as aC) (λ(x) next σ st=>nH C sub (λc aA=>P.ex c σ aA) t x σ st λam aA=>cH C sub bx { P with nx:=next,ct:=next,bk:=P.nx } am aA) P.nx (xs.drop<|i+1) cS aA,λam H' ⟨cS,aA,r',s',dD,q'⟩=>⟨m-1,by lia,cS,aA,r',s',dD,by lia,q'⟩,λv H3 y3=>?_⟩;obtain⟨s3,JY,r3⟩:=j.yld i H2 aJ xs[i] v H3 s2 cG g2 (br hi') y3;refine⟨xs[i],tV,aJ,_,r3,r2.step cG s3,JY,xJ hC (λc st z=>h.ex _ _ _ z) (λ_ _ z=>z) t q2,λAC H4 wE cR r4 s4 N8 q4=>?_⟩;refine⟨wE,cR,_,r4,N8,q4,⟨λam H' cS aA r' s' dD q'=>⟨cS,aA,r',((s2.trans s3).trans s4).trans s',dD,q'⟩,λv H' z=>h.rt _ _<|.after (((s1.trans s2).trans s3).trans s4) z,λam H' cS aA r' s' dD q'=>h.nx _ _ _ _ r' ((((s1.trans s2).trans s3).trans s4).trans s') dD q',λam H' cS aA r' s' dD q'=>⟨cS,aA,r',((s2.trans s3).trans s4).trans s',dD,q'⟩,h.ex⟩⟩
 ·have ed:xs.drop i=[]:=fk (by lia);rw[ed]at q2;exact .inl ⟨j.stop i H2 aJ s2 cG q2.1<|by lia,h.nx _ _ _ _ r2 (s1.trans s2) cG q2.2⟩
end
variable {is:List Nat}
section
variable {sub:Nat->Nat->Bool}{a c o i:cy}{x z:Ex}
noncomputable def nJ (is:List Nat)(vs:List V)(σ:L2.St):L2.St:=(is.zip vs).foldl (λσ p=>σ.set p.1<|some p.2) σ
noncomputable def uY (is:List Nat):HM:=λvs σ H Q=>vs.length=is.length/\Q (nJ is vs σ) H
theorem Nu:DJ X []<|uY []:=λpz s σ H vs us Q I r h=>by have:=List.length_eq_zero_iff.mp h.1;subst this;exact Gi pz s σ H [] us Q I r ⟨rfl,h.2⟩
theorem Dl {i:Nat}(h1:PG X e<|DL i)(h2:DJ X es<|uY is)(hs:(fy (e::es) X.env).map (·.2)=qt e X.env::(fy es X.env).map (·.2)):DJ X (e::es)<|uY<|i::is:=λpz s σ H vs us Q I r h=>by obtain⟨hl,h⟩:=h;cases vs with|nil=>simp at hl|cons v vs=>exact YO h1 h2 hs pz s σ H _ us Q I r ⟨v,vs,rfl,by simp_all,h⟩
theorem cQ.XQ {K:ae}{H:Hp}:∀(is:List Nat){ds:List D}{vs:List V}{ac:St}{σ:L2.St},cQ K H ac σ->aM K H ds vs->cQ K H ((is.zip ds).foldl (λσ p=>σ.set p.1<|some p.2) ac) (nJ is vs σ)|[],_,_,_,_,r,_=>by assumption|_::_,_,_,_,_,r,.nil=>by assumption|i::is,_,_,_,_,r,.cons h t=>by have:=cQ.XQ is (r.set i h) t;simpa [nJ]using this
theorem Vu (hc:X.calm=true)(h:DJ X es<|uY is)(hn:(fy es X.env).length=is.length)(cM:(fy es X.env).findIdx? (·.1)=none):PG X (.Tuple es k pos) (LV X.K<|nH C sub E<|.tp is) :=(VS hc h hn cM).imp λv σ H Q ⟨d,ac,st,M,rd,r,ok,q,hq⟩=>by cases d with|tup ds0 =>obtain⟨a,vs,rfl,f,g⟩:=rd.cA;exact⟨a,vs,rfl,f,by rw[<-g.length];exact q.1,by rw[<-g.length];exact q.1,hq _ _ _ _ (r.XQ is g) .refl ok q.2⟩|_=>exact(show False by cases is<;>exact q).elim
theorem Vs (ho:PE X o<|bW X.K<|aI C sub E x)(hi:PE X i<|bW X.K<|aI C sub E y)(ha:∀v,qt (.Subscript o i pos) X.env v=do
  let ov <-jm [v] (eval o X.env)let iv <-jm [v,ov] (eval i X.env)og pos
  jm [v,ov,iv] (Abr ov iv v)release [v,ov,iv] []):PG X (.Subscript o i pos) (LV X.K<|nH C sub E<|.ix x y) :=(Mz ho hi set_list ha).imp λv σ H Q ⟨d,ac,st,M,rd,r,ok,q,hq⟩=>by
 refine⟨ac,st,_,r,ok,q,λv1 H1 ⟨d1,aC,s1,aR,r1,q1⟩=>?_⟩;refine⟨ac,aC,_,r.step ok s1,aR,q1,λv2 H2 ⟨d2,aJ,s2,cG,r2,q2⟩=>?_⟩;have r1':=r1.step aR s2;have rd':=(rd.step ok s1).step aR s2;cases d1<;>first|exact q2.elim|skip
 cases d2<;>first|exact q2.elim|skip
 cases r1'.cY;cases r2.int_inv;obtain⟨xs,e,q2⟩:=dP q2;obtain⟨j,ej,q2⟩:=fO q2;obtain⟨vs,g1,g2⟩:=cG.lst e;refine⟨_,vs,_,j,rfl,rfl,g1,by rw[<-g2.length];exact ej,?_⟩;have s3:=oR (H:=H2) (o:=.lst<|vs.set j v) (m':=.lst<|xs.set j d) e;exact hq _ _ _ _ (((r.step ok s1).step aR s2).step cG s3) ((s1.trans s2).trans s3) (cG.set e<|g2.set rd' j) q2
end
noncomputable def nG (cells:List<|Str×Addr):List (Str×NameKind)->List (Str×Addr)->List (Str×Addr)|[],cs=>cs|(n,k)::r,cs=>nG cells r<|if k == .free then(n,(cells.lookup n).getD 0)::cs else cs
theorem DK {env:Env}:∀(names:List<|Str×NameKind)(cs:List<|Str×Addr),(∀p∈names,p.2=.free->∃c,env.cells.lookup p.1=some c) -> (forIn names cs λ(p:Str×NameKind)(cs:List<|Str×Addr)=>(if p.2 == .free then do let c <-cellOf env p.1;pure (pj<|(p.1,c)::cs)else pure (pj cs):Sem<|ForInStep<|List<|Str×Addr))=pure (nG env.cells names cs)|[],cs,_=>rfl|(n,k)::r,cs,h=>by have ih:=λcs=>DK r cs λp hp=>h p<|fg _ hp;simp![yt,nG];cases e:k==qz with|true =>obtain⟨c,hc⟩:=h _ (gk ..) (by simp_all);simp![cellOf,hc];exact ih _|false =>exact ih _
variable {scope:Scope}
theorem qS {env:Env}(h:∀p∈scope.names,p.2=.free->∃c,env.cells.lookup p.1=some c):closureFor scope env=pure (nG env.cells scope.names []):=by rw[<-DK _ [] h];unfold closureFor;simp![bind_pure]
set_option tactic.hygienic true in
theorem mJ {cells:List<|Str×Addr}:∀(names:List<|Str×NameKind)(cs:List<|Str×Addr){x:Str}{c:Addr},(∀p∈names,p.2=.free->∃c,cells.lookup p.1=some c)->(∀x c,cs.lookup x=some c->cells.lookup x=some c)->(nG cells names cs).lookup x=some c->cells.lookup x=some c
 |[],cs,x,c,_,h,e=>h x c e|(n,k)::r,cs,x,c,hn,h,e=>by
  refine mJ r _ (λp hp=>hn p<|fg _ hp) (λy d ed=>?_) e;split at ed
  ·rename_i hk;obtain⟨c',hc'⟩:=hn _ (gk ..) (by simpa using hk);rw[gf]at ed;split at ed;·simp_all
   ·exact h y d ed
  ·exact h y d ed
theorem IY {cells:List<|Str×Addr}:∀(names:List<|Str×NameKind)(cs:List<|Str×Addr){x:Str},(∃c,cs.lookup x=some c)->∃c,(nG cells names cs).lookup x=some c
 |[],cs,x,h=>h|(n,k)::r,cs,x,h=>by
  refine IY r _ ?_;split
  ·rw[gf];split;·exact⟨_,rfl⟩
   ·exact h
  ·exact h
set_option tactic.hygienic true in
theorem CW {cells:List<|Str×Addr}:∀(names:List<|Str×NameKind)(cs:List<|Str×Addr){x:Str},names.lookup x=some .free->∃c,(nG cells names cs).lookup x=some c
 |[],cs,x,h=>by simp at h|(n,k)::r,cs,x,h=>by
  rw[gf]at h;split at h;·rename_i q;cases h;refine IY r _ ?_;simp![beq_self_eq_true,if_true];rw[gf,q];exact⟨_,rfl⟩
  ·exact CW r _ h
theorem sS {env:Env}:∀{names:List<|Str×NameKind}{x:Str}{k:w6},(names.map λ(n,k)=>if(k==qz&&env.scope.kind == .function&&env.kindOf n==some .cell)then(n,Zm)else(n,k)).lookup x=some k->∃k',names.lookup x=some k'/\(k'=k\/(k'=.free/\k=.cell))|[],x,k,h=>by simp at h|(n,k0)::r,x,k,h=>by simp![aw]at h;cases q:x==n with
  |true =>
   refine⟨k0,by simp_all,?_⟩;by_cases hc:(k0==qz&&env.scope.kind == .function&&env.kindOf n==some .cell)=true;·simp![hc,if_true,gf,q]at h;cases h;exact .inr ⟨by simp_all,rfl⟩
   ·simp_all|false =>
   simp![gf,q];refine sS (env:=env) ?_;by_cases hc:(k0==qz&&env.scope.kind == .function&&env.kindOf n==some .cell)=true;·simp![hc,if_true,gf,q]at h;exact h
   ·simp![hc,if_false,gf,q,aa]at h;exact h
set_option tactic.hygienic true in
theorem sF {env:Env}:∀{names:List<|Str×NameKind}{x:Str},names.lookup x=some .free->(names.map λ(n,k)=>if(k==qz&&env.scope.kind == .function&&env.kindOf n==some .cell)then(n,Zm)else(n,k)).lookup x=some .cell\/(names.map λ(n,k)=>if(k==qz&&env.scope.kind == .function&&env.kindOf n==some .cell)then(n,Zm)else(n,k)).lookup x=some .free
 |[],x,h=>by simp at h|(n,k0)::r,x,h=>by
  simp![aw];rw[gf]at h;split at h
  ·rename_i q;cases h;split;·exact .inl<|by simp_all
   ·exact .inr<|by simp_all
  ·rename_i q;split;·rw[gf,q];exact sF h
   ·rw[gf,q];exact sF h
structure iV (X:Cx)(scope:Scope)(cn:List Str)(bH:List Nat):Prop where
 kind:scope.kind=.function
 nocell:∀y∈scope.names,y.2≠.cell
 names:∀y∈scope.names,y.2=.local->scope.names.lookup y.1=some .local
 free:∀y∈scope.names,y.2=.free->X.env.kindOf y.1=some .cell\/X.env.kindOf y.1=some .free
 len:cn.length=bH.length
 cap:∀(j:Nat)(y:Str),cn[j]? = some y->scope.names.lookup y=some .free/\∃i,bH[j]? = some i/\X.N[i]? = some y/\(X.env.kindOf y=some .cell\/X.env.kindOf y=some .free)
noncomputable def hJ (X:Cx)(scope:Scope)(own cn:List Str)(fp:List Addr)(s:aj)(H:Hp)(Ca:Addr):Cx :={ X with N:=own++cn,s₀:=s,H₀:=H,env:=zw scope (nG X.env.cells scope.names []) Ca X.env,outer:=X.stack,ex:=fp,fn:=λ_=>false,calm:=true,pn:=[],xe:=λ_ _=>False }
noncomputable def qK (bH:List Nat)(σ:L2.St):L2.St:=bH.map λi=>σ[i]?.getD none
variable {bH:List Nat}{fp:List Addr}{Ca:Addr}
section
variable {own cn:List Str}{s:aj}
theorem iV.cells (S:iV X scope cn bH)(ok:X.Ok):∀p∈scope.names,p.2=.free->∃c,X.env.cells.lookup p.1=some c:=λp hp e=>ok.has _<|S.free p hp e
theorem YI (S:iV X scope cn bH)(hc:X.calm=true)(I:Inv X pz σ H s)(hf:∀b∈fp,nR X pz H b)(oO:∀b∈fp,b<s.heap.objs.size)(hC:s.heap.objs.size<=Ca):(hJ X scope own cn fp s H Ca).Ok where
 mod:=I.ok.mod;kind:=S.kind;glob:=I.ok.glob;blt:=I.ok.blt;above:=hC;inj:=λx y c h1 h2=>I.ok.inj x y c (mJ _ [] (S.cells I.ok) (λ_ _ h=>by simp at h) h1)<|mJ _ [] (S.cells I.ok) (λ_ _ h=>by simp at h) h2;has:=λx h=>by
  refine CW _ [] ?_;rcases h with h|h
  ·obtain⟨k,e,r⟩:=sS h;rcases r with rfl|⟨rfl,_⟩;·exact absurd rfl<|S.nocell _<|ki e
   ·exact e
  ·obtain⟨k,e,r⟩:=sS h;rcases r with rfl|⟨rfl,r⟩;·exact e
   ·cases r
 cab:=λx c h _=>by cases h
 hd:=λ_=>I.ok.hd hc;frames:=I.ok.frames;stk:=.inl rfl;exf:=λb hb=>⟨λe=>absurd (oO b hb)<|by rw[e];exact Nat.not_lt.mpr hC,λx c h=>(hf b hb).2.2.2.2.1 x c<|mJ _ [] (S.cells I.ok) (λ_ _ h=>by simp at h) h⟩;bs:=I.bs;bsz:=az I.ok.bsz I.sz;noex:=λb o e hb=>by
  rcases(hf b hb).2.2.2.1 with z|z;·exact I.ok.noex b o e z
  ·exact absurd (cw (bc e)<|az I.ok.bsz z)<|mr _
 exfs:=λb hb z=>by
  rcases List.mem_cons.mp (I.L8 b z)with e|e;·exact(hf b hb).2.1 e
  ·exact(hf b hb).2.2.1 e
 lA:=I.stack;frf:=I.pB
theorem OD (S:iV X scope cn bH)(hc:X.calm=true)(I:Inv X pz σ H s)(hf:∀b∈fp,nR X pz H b)(oO:∀b∈fp,b<s.heap.objs.size)(hC:s.heap.objs.size<=Ca){h1:Heap}{tk:Nat}{m:Str->Option Value}(hn:h1.Ns Ca m)(hk:∀b o,s.heap.get? b=some o->h1.get? b=some o): Inv (hJ X scope own cn fp s H Ca) [] (au own.length none++qK bH σ) H { s with heap:=h1,toks:=tk } where
 ok:=YI S hc I hf oO hC;os:=rfl;bare:=I.bare;base:=Un.kept hk;loc:=⟨m,hn,λi y v h1' h2 h3=>by
  have hi:own.length<=i:=by refine Nat.le_of_not_lt λhi=>?_;rw[ff<|by simpa using hi,iq]at h2;split at h2<;>cases h2
  rw[fe<|by simpa using hi]at h2;have h1':(own++cn)[i]? = some y:=h1';rw[fe hi]at h1';simp![t5,qK,fi,ay]at h2;obtain⟨k,e1,e2⟩:=h2;obtain⟨hfr,i',e3,e4,e5⟩:=S.cap _ y h1';rw[e1]at e3;cases e3;cases e6:σ[k]? with|none=>rw[e6]at e2;cases e2|some u =>
   rw[e6]at e2;have e2:=e2;subst e2;obtain⟨m0,hn0,hl0⟩:=I.loc;obtain⟨w,rw',lk⟩:=hl0 k y v e4 e6<|e5.elim (λz=>.inr<|.inl z) λz=>.inr<|.inr z;refine⟨w,rw',?_⟩;rcases lk with⟨z,_⟩|⟨_,c,ec,⟨oc,hoc,hdc⟩⟩
   ·rcases e5 with e5|e5;·rw[e5]at z;cases z
    ·rw[e5]at z;cases z
   ·obtain⟨c',ec'⟩:=CW (cells:=X.env.cells) scope.names [] hfr;have:=mJ _ [] (S.cells I.ok) (λ_ _ h=>by simp at h) ec';rw[ec]at this;cases this;exact .inr ⟨sF (env:=X.env) hfr,c,ec',⟨oc,hk _ _ hoc,hdc⟩⟩⟩;cell:=λx c h=>by obtain⟨v,o,ho,hd⟩:=I.cell x c<|mJ _ [] (S.cells I.ok) (λ_ _ h=>by simp at h) h;exact⟨v,o,hk _ _ ho,hd⟩
 free:=I.bL.fresh hC;jH:=λx c h=>I.jH x c<|mJ _ [] (S.cells I.ok) (λ_ _ h=>by simp at h) h;pin:=λp hp=>absurd (show p∈([])from hp) (by simp);bL:=I.bL.kept hk;len:=by show(au own.length none++qK bH σ).length=(own++cn).length;simp [qK,S.len]
end
noncomputable def BB (ifs:List cy)(env:Env):Sem Bool:=forIn ifs true λc r=>if r=true then do let ok <-Zq c env<|eval c env;pure (pj ok)else pure<|pj r
def JU (X:Cx)(ifs:List cy)(t:L2.TT):Prop :=∀(pz:List<|Addr×Obj)(s:aj)(σ:L2.St)(H:Hp)(Q:Bool->Hp->Prop),Inv X pz σ H s->t σ H Q->wpAny (model X.prog X.w) X.A (BB ifs X.env) (TP X pz σ Q) X.xe s
inductive vY (K:ae)(te:St->aB->(Bool->aB->Prop)->Prop)(σ:L2.St)(H:Hp)(Q:Bool->Hp->Prop):Prop where |mk (ac:St)(st:aB)(R:Bool->aB->Prop)(r:cQ K H ac σ)(ok:aQ K st H)(q:te ac st R)(hq:∀(b:Bool) H',QX K H st (R b) H'->Q b H'):vY K te σ H Q
section
variable {sub:Nat->Nat->Bool}{a c o i:cy}{x z:Ex}
theorem BR (env:Env):∀(ifs:List cy),(forIn ifs false λc r=>if r=true then do let ok <-Zq c env<|eval c env;pure (pj ok)else pure (pj r):Sem Bool)=pure false|[]=>by simp|c::r=>by simp![yt,aa,if_false,pure_bind];exact BR env r
theorem Ie:JU X []<|vY X.K<|iM C sub E []:=λpz s σ H Q I ⟨ac,st,R,r,ok,q,hq⟩=>by unfold BB;simp![List.forIn_nil];exact a9 ⟨H,I,hq true H ⟨st,.refl,ok,q⟩⟩
theorem Dr (h:PT X e<|jV X.K<|aI C sub E x)(hs:JU X es<|vY X.K<|iM C sub E xs):JU X (e::es)<|vY X.K<|iM C sub E<|x::xs:=λpz s σ H Q I ⟨ac,st,R,r,ok,q,hq⟩=>by unfold BB;simp![yt,if_true];refine ai<|ai<|bA (h pz s σ H _ I ⟨ac,st,λk aA=>if k=true then iM C sub E xs ac aA R else R false aA,r,ok,q,λb H' z=>z⟩) λk s1 ⟨H1,I1,aC,dU,aR,q1⟩=>a9 ?_;cases k with|true =>have q1:iM C sub E xs ac aC R:=q1;refine hs pz s1 σ H1 _ I1 ⟨ac,aC,R,r.step ok dU,aR,q1,λb H' ⟨aA,s',dD,q'⟩=>hq b H' ⟨aA,dU.trans s',dD,q'⟩⟩|false =>show wpAny _ _ (forIn es false _) _ _ _;rw[BR];exact a9 ⟨H1,I1,hq false H1 ⟨aC,dU,aR,q1⟩⟩
end
variable {elt:cy}{ifs:List cy}
theorem M9 {prog:bp}{w:dh}{A:c5}{s:aj}{R:Abs->aj->Prop}{target:cy}{it acc:Value}{env:Env}{XE:Value->aj->Prop}(hXE:∀x s',XE x s'->notedBy (model prog w) A env (λx s'=>R (.error x) s') x s')(I:Nat->aj->Prop)(turn:∀n s,I n s->wpAny (model prog w) A (zl it) (λr bn=>match r with|none=>R (.ok .next) bn|some v=>wpAny (model prog w) A (yo target it v) (λ_ v4=>wpAny (model prog w) A (qt target env v) (λ_ ca =>wpAny (model prog w) A (BB ifs env) (λok bv =>if ok=true then wpAny (model prog w) A (eval elt env) (λx pc =>wpAny (model prog w) A (call (.builtin "list.append") [acc,x]) (λ_ sK=>∃m,m<n/\I m sK) XE pc) XE bv else ∃m,m<n/\I m bv) XE ca) XE v4) XE bn) XE s)(n:Nat)(h:I n s):qm (model prog w) A (.compLoop (.ListComp elt [⟨target,iter,ifs,0⟩] scope pos) 0 it acc env) R s:=by refine codeAny_loop rfl I (λn s hI=>?_) n h;show wpAny _ A ((compTurn (.ListComp elt [⟨target,iter,ifs,0⟩] scope pos) 0 it acc env).onRaise λx=>do l9 x env;theTreesLotGoes x) _ _ s;refine wpAny_noted ?_;rw[compTurn_list];refine ai<|Zk<|ai<|gh (turn n s hI) (λr bn db=>?_) hXE;cases r with|none=>exact a9 db|some v =>refine ai<|gh db (λ_ v4 wS=>?_) hXE;refine ai<|gh wS (λ_ ca wf=>ai<|gh wf (λok bv sB=>?_) hXE) hXE;cases ok with|false=>exact a9 ⟨rfl,sB⟩|true =>exact ai<|ai<|gh sB (λx pc xz=>ai<|gh xz (λ_ sK v6=>a9<|a9 ⟨rfl,v6⟩) hXE) hXE
noncomputable def PM (K:ae):Bool->Nat->TG|true,_=>DL 0|false,n=>Kw K n<|uY<|b7 n
theorem EI:∀(is:List Nat)(vs:List V)(σ:L2.St)(n i:Nat),(∀j∈is,j<n)->n<=i->(nJ is vs σ)[i]? = σ[i]?|[],_,_,_,_,_,_=>by simp [nJ]|_::_,[],_,_,_,_,_=>by simp [nJ]|j::is,v::vs,σ,n,i,h,hi=>by have:=EI is vs (σ.set j<|some v) n i (λk hk=>h k<|fg _ hk) hi;simp![nJ,vp,rk]at this ⊢;rw[this];have:=h j<|gk ..;rw[fv<|by lia]
theorem JP:∀(is:List Nat)(vs:List V)(σ:L2.St),(nJ is vs σ).length=σ.length|[],_,_=>by simp [nJ]|_::_,[],_=>by simp [nJ]|j::is,v::vs,σ=>by have:=JP is vs<|σ.set j<|some v;simp![nJ,vp,rk,AaH]at this ⊢;exact this
theorem RE {K:ae}{one:Bool}{n:Nat}{d:D}{P:St->Prop}{Q:L2.St->Hp->Prop}(hn:one=true->n=1)(h:lO one (b7 n) d ac P)(r:cQ K H ac σ)(rd:Rep K H d v)(hQ:∀ce tV,cQ K H tV ce->P tV->(∀i,n<=i->ce[i]? = σ[i]?)->ce.length=σ.length->Q ce H):PM K one n v σ H Q:=by cases one with
 |true =>cases hn rfl;have h:P<|ac.set 0<|some d:=h;refine hQ _ _ (r.set 0 rd) h (λi hi=>?_) (by simp);rw[fv<|by lia]
 |false =>cases d with|tup ds =>
  rw[UP]at h;obtain⟨a,vs,rfl,f,g⟩:=rd.cA;have hl:vs.length=n:=by rw[<-g.length,h.1];simp
  refine⟨a,vs,rfl,f,hl,by simp [hl],hQ _ _ (r.XQ _ g) h.2 (λi hi=>EI _ _ _ n i (λj hj=>by simpa using hj) hi)<|JP _ _ _⟩|_=>exact(show False by cases n<;>exact h).elim
variable {ds:List D}
section
variable {K:ae}{st:aB}{Da:Addr}{ys zs:List V}
theorem Gk (hD:H Da=some (.lst ys)){a:Addr}(h:fT K H a vs):fT K (upd H Da<|.lst zs) a vs:=by
 rcases h with(h|⟨o,h⟩)|h;·exact .inl<|.inl<|by rw[aY<|RD h hD<|by simp];exact h
 ·exact .inl<|.inr ⟨o,by rw[aY<|RD h hD<|by simp];exact h⟩
 ·exact .inr h
theorem YD (hD:H Da=some (.lst ys)){a:Addr}(h:pA K H a vs):pA K (upd H Da<|.lst zs) a vs:=by
 rcases h with⟨o,h⟩|h;·exact .inl ⟨o,by rw[aY<|RD h hD<|by simp];exact h⟩
 ·exact .inr h
mutual
theorem Rep.alt (hD:H Da=some (.lst ys)):∀{d:D}{v:V},Rep K H d v->Rep K (upd H Da<|.lst zs) d v|_,_,.non=>.non|_,_,.bl b=>.bl b|_,_,.int i=>.int i|_,_,.str x=>.str x|_,_,.tup h r=>.tup (Gk hD h)<|aM.alt hD r|_,_,.ref a=>.ref a|_,_,.bR h r=>.bR (YD hD h)<|aM.alt hD r|_,_,.cF h=>.cF h
theorem aM.alt (hD:H Da=some (.lst ys)):∀{ds:List D}{vs:List V},aM K H ds vs->aM K (upd H Da<|.lst zs) ds vs|_,_,.nil=>.nil|_,_,.cons h r=>.cons (Rep.alt hD h) (aM.alt hD r)end
theorem aQ.alt (ok:aQ K st H)(hD:H Da=some (.lst ys))(hn:st Da=none):aQ K st<|upd H Da<|.lst zs:=λa o e=>by
 have ne:a≠Da:=λz=>by rw[z,hn]at e;cases e
 have:=ok a o e;cases o with|lst ds =>obtain⟨vs,q,r⟩:=this;exact⟨vs,by rw[aY ne];exact q,r.alt hD⟩|dic _ _=>exact this.elim|ins c fs =>obtain⟨C,dx,ws,q,q2,q3,r⟩:=this;exact⟨C,dx,ws,q,by rw[aY ne];exact q2,q3,r.alt hD⟩|tab ks vs =>obtain⟨xs,ws,q,q0,q1,q2,q3,q4,q5,r⟩:=this;exact⟨xs,ws,by rw[aY ne];exact q,q0,q1,q2,q3.alt hD,q4,q5,r.alt hD⟩
theorem aQ.take (ok:aQ K st H)(hD:H Da=some (.lst ys))(r:aM K H ds ys):aQ K (put st Da<|.lst ds) H:=λa o e=>by
 by_cases ha:a=Da;·subst ha;rw[bE]at e;cases e;exact⟨ys,hD,r⟩
 ·rw[bS ha]at e;exact ok a o e
end
theorem ZG {K:ae}(r:cQ K H ac σ)(n:Nat)(bH:List Nat):cQ K H (au n none++bH.map λi=>ac[i]?.getD none)<|au n none++qK bH σ:=by
 refine⟨by simp [qK],λi d e=>?_⟩;by_cases hi:i<n;·rw[ff<|by simpa using hi,iq]at e;split at e<;>cases e
 ·rw[fe<|by simpa using hi]at e ⊢;simp![t5,fi,ay]at e ⊢;obtain⟨k,e1,e2⟩:=e;cases q:ac[k]? with|none=>rw[q]at e2;cases e2|some u =>rw[q]at e2;have e2:u=some d:=e2;subst e2;obtain⟨v,h1,h2⟩:=r.2 k d q;refine⟨v,?_,h2⟩;simp![qK,fi,ay];exact⟨k,e1,by rw[h1];rfl⟩
theorem PR {w:dh}{h h':Heap}(ok:fH P w H h)(hn:H Ca=none)(hs:mf Ca h h'):fH P w H h':=λb u e=>by
 refine(ok b u e).qQ (λc v hc q=>hs.extBut c v ?_ q) (λ_ q=>q) λ_ _ q=>q;rcases hc with z|z;·rw[z];exact λy=>by rw[y,hn]at e;cases e
 ·exact λy=>by rw[y,hn]at z;cases z
variable {iN:List Ex}
section
variable {sub:Nat->Nat->Bool}{xe:Ex}{own cn:List Str}{one:Bool}{k:Option IK}
theorem AA (hC:bU C C)(S:iV X scope cn bH)(hc:X.calm=true)(lH:one=true->own.length=1){use:Option<|Value->Sem Unit}{Qf:Value->aj->Prop}{ca:aj}{J:It}{it:Addr}{tn:Nat->Heap->Prop}{as:List Nat}{xs:List D}{R:List D->aB->Prop}(I2:Inv X pz σ H1 ca)(T:Turn X.prog X.w X.K tg J fp it tn)(t0:tn 0 ca.heap)(f2:∀b∈fp,nR X pz H1 b)(r:cQ X.K H1 ac σ)(aR:aQ X.K aC H1)(j:EG X.K J as xs H1 aC)(hh:∀(Da:Addr)(bv:aj),Inv X pz σ (upd H1 Da<|.lst []) bv->∃XE:Value->aj->Prop,(∀x s',XE x s'->notedBy (model X.prog X.w) X.A (zw scope (nG X.env.cells scope.names []) bv.heap.objs.size X.env) (λx s'=>Aaf (model X.prog X.w) X.A X.xe use Qf (.ref Da) bv.heap.objs.size (.error x) s') x s') /\PG ((hJ X scope own cn fp bv (upd H1 Da<|.lst []) bv.heap.objs.size).gM XE) tg (PM X.K one own.length)/\JU ((hJ X scope own cn fp bv (upd H1 Da<|.lst []) bv.heap.objs.size).gM XE) ifs (vY X.K<|iM C sub EX iN)/\PE ((hJ X scope own cn fp bv (upd H1 Da<|.lst []) bv.heap.objs.size).gM XE) elt (bW X.K<|aI C sub EX xe))(q:iH (same as aC) (λx aJ K=>lO one (b7 own.length) x (au own.length none++bH.map λi=>ac[i]?.getD none) λam =>iM C sub EX iN am aJ λb aZ=>if b=true then aI C sub EX xe am aZ λd cR=>K (some d) cR else K none aZ) xs [] aC R)(fin:∀(Da Ca:Addr)(H':Hp)(aA:aB)(ds:List D)(m:Str->Option Value)(s':aj),s'.heap.Ns Ca m->(∀h',mf Ca s'.heap h'->Inv X pz σ H' { s' with heap:=h' })->Inv X pz σ H' s'->Ca≠X.env.locals->(∀x c,X.env.cells.lookup x=some c->c≠Ca)->Ca∉X.fs->X.s₀.heap.objs.size<=Ca->(∀p∈X.pn++pz,p.1≠Ca)->H' Ca=none->Step H1 aC H' aA->aQ X.K (put aA Da<|.lst ds) H'->H1 Da=none->aA Da=none->R ds aA ->Aaf (model X.prog X.w) X.A X.xe use Qf (.ref Da) Ca (.ok .next) s'):wpAny (model X.prog X.w) X.A (newList []) (λacc bv =>wpAny (model X.prog X.w) X.A (newFunctionEnv scope X.env.globals (nG X.env.cells scope.names []) [] X.env.qual none .none<|some X.env) (λcenv pc =>qm (model X.prog X.w) X.A (.compStart (.ListComp elt [⟨tg,iter,ifs,0⟩] scope pos) 0 (.ref it) acc { cenv with scope:=relabel scope X.env }) (Aaf (model X.prog X.w) X.A X.xe use Qf acc cenv.locals) pc) X.xe bv) X.xe ca:=by
 have hD1:H1 ca.heap.objs.size=none:=I2.fresh;obtain⟨tf,htf0⟩:∃tf:D->aB->(Option D->aB->Prop)->Prop,tf=λx aJ K=>lO one (b7 own.length) x (au own.length none++bH.map λi=>ac[i]?.getD none) λam =>iM C sub EX iN am aJ λb aZ=>if b=true then aI C sub EX xe am aZ λd cR=>K (some d) cR else K none aZ:=⟨_,rfl⟩;have htf:∀x aJ (K:Option D->aB->Prop),tf x aJ K->lO one (b7 own.length) x (au own.length none++bH.map λi=>ac[i]?.getD none) λam =>iM C sub EX iN am aJ λb aZ=>if b=true then aI C sub EX xe am aZ λd cR=>K (some d) cR else K none aZ:=λx aJ K h=>by rw[htf0]at h;exact h
 rw[<-htf0]at q;refine mi ?_;have I3:=I2.S2 (aD:=[]) (ys:=[]) (t':=ca.toks) .nil<|cg _;generalize hS3:({ ca with heap:=ca.heap.push { cls:=.type "list", dict:=none,data:=.seq ([]:List Value).toArray } }:aj)=bv;have I3:Inv X pz σ (upd H1 ca.heap.objs.size<|.lst []) bv:=by rw[<-hS3];exact I3
 have lt3:ca.heap.objs.size<bv.heap.objs.size:=by rw[<-hS3];show _<(ca.heap.push _).objs.size;rw[lh];exact ju _
 have old3:∀b o,ca.heap.get? b=some o->bv.heap.get? b=some o:=λb o e=>by rw[<-hS3];exact aq _ e
 generalize hDa:ca.heap.objs.size=Da at *;have hlt2:∀b∈fp,b<Da:=λb hb=>by obtain⟨o,e,_⟩:=T.obj _ _ t0 b hb;rw[<-hDa];exact bc e
 have f3:∀b∈fp,nR X pz (upd H1 Da<|.lst []) b:=λb hb=>⟨by rw[aY<|cj<|hlt2 b hb];exact(f2 b hb).1,(f2 b hb).2⟩;have hlt3:∀b∈fp,b<bv.heap.objs.size:=λb hb=>yh (hlt2 b hb) lt3;refine wpAny_newFunctionEnv S.nocell (by intro y hy;simp at hy) (λdb hns hsb=>?_) S.kind;have keep1:∀b o,bv.heap.get? b=some o->db.get? b=some o:=λb o e=>hsb.extBut b o (cj<|bc e)<|aq _ e;have t1:tn 0 db:=T.keep _ _ _ t0 λb hb o e=>keep1 b o<|old3 b o e;have B0:=OD (own:=own) S hc I3 f3 hlt3 (av _) (tk:=bv.toks+([]:List<|Str×Value).length) hns keep1;have hch0:∀b∈fp,(b∈X.ex\/X.s₀.heap.objs.size<=b)/\b≠X.env.locals/\(∀x c,X.env.cells.lookup x=some c->c≠b)/\∀p∈X.pn++pz,p.1≠b:=λb hb=>⟨(f2 b hb).2.2.2.1,(f2 b hb).2.1,(f2 b hb).2.2.2.2.1,(f2 b hb).2.2.2.2.2⟩;obtain⟨XE,hXE,hgc,htc,hec⟩:=hh Da bv I3;have B0:=B0.gM XE;generalize hXc:(hJ X scope own cn fp bv (upd H1 Da<|.lst []) bv.heap.objs.size).gM XE=Xc at B0 hgc htc hec;have eP:Xc.prog=X.prog:=by rw[<-hXc];rfl
 have eW:Xc.w=X.w:=by rw[<-hXc];rfl
 have eK:Xc.K=X.K:=by rw[<-hXc];rfl
 have eA:Xc.A=X.A:=by rw[<-hXc];rfl
 have eX:Xc.xe=XE:=by rw[<-hXc]
 have eN:Xc.env=zw scope (nG X.env.cells scope.names []) bv.heap.objs.size X.env:=by rw[<-hXc];rfl
 rw[<-eN]at hXE;have eL:Xc.env.locals=bv.heap.objs.size:=by rw[eN];rfl
 have eC:Xc.calm=true:=by rw[<-hXc];rfl
 have fC:∀{H':Hp},(∀b∈fp,H' b=none)->∀b∈fp,nR Xc [] H' b:=λ{H'} hn b hb=>by
  have ok:=B0.ok;refine⟨hn b hb,by rw[eL];exact cj<|hlt3 b hb,ok.exfs b<|by rw[<-hXc];exact hb,.inl<|by rw[<-hXc];exact hb,λx c e=>(ok.exf b<|by rw[<-hXc];exact hb).2 x c e,λp hp=>?_⟩;have:p∈([]:List<|Addr×Obj):=by rw[<-hXc]at hp;exact hp
  cases this
 have capsRel:∀{H':Hp}{aA:aB},Step H1 aC H' aA->cQ X.K H' (au own.length none++bH.map λi=>ac[i]?.getD none) (au own.length none++qK bH σ):=λs'=>(ZG r _ _).step aR s';have loop:∀s4:aj,s4 = { bv with heap:=db,toks:=bv.toks+([]:List<|Str×Value).length }->qm (model X.prog X.w) X.A (.compLoop (.ListComp elt [⟨tg,iter,ifs,0⟩] scope pos) 0 (.ref it) (.ref Da) Xc.env) (Aaf (model X.prog X.w) X.A X.xe use Qf (.ref Da) bv.heap.objs.size) s4:=by
  rintro s4 rfl;refine M9 hXE (λn s'=>∃i H' aA ds ys,n+i=xs.length/\Inv Xc [] (au own.length none++qK bH σ) H' s'/\tn i s'.heap/\(∀b∈fp,H' b=none)/\Step H1 aC H' aA/\aQ X.K aA H'/\H' Da=some (.lst ys)/\aA Da=none/\aM X.K H' ds ys /\iH (same as aC) tf (xs.drop i) ds aA R) ?_ xs.length ⟨0,_,aC,[],[],rfl,B0,t1,λb hb=>(f3 b hb).1,kA hD1,aR.new hD1,dX,aR.fresh hD1,.nil,by simpa using q⟩;rintro n s' ⟨i,H',aA,ds,ys,hni,I',ti,fr',dU,dD,hD',hst',rs,q'⟩;by_cases hi:i<xs.length;·-- a turn
   have ed:xs.drop i=xs[i]::xs.drop (i+1):=fx hi;rw[ed]at q';obtain⟨g1,gl,q'⟩:=q';have hx:xs[i]? = some xs[i]:=br hi;have hpn:=T.item Xc eP eW eK eC i [] s' _ H' XE I' (fC fr') ti<|j.go i H' aA xs[i] dU dD g1 hx;rw[eA]at hpn;refine bA hpn λrr s5 ⟨u,hu,h5⟩=>?_;subst hu;refine bA h5 λ_ s6 ⟨v,H6,I6,rv,y6,t6,fr6⟩=>?_;obtain⟨s6s,Pc,rd⟩:=j.yld i H' aA xs[i] v H6 dU dD g1 hx y6;have D6:=s6s Da _ hD' hst';have I6':=I6.pinned (fC fr6)<|T.obj _ _ t6;have hasg:=hgc _ s6 _ H6 v u (λce H2=>∃tV,H2=H6/\cQ X.K H6 tV ce/\(∀i,own.length<=i->ce[i]? = (au own.length none++qK bH σ)[i]?)/\ce.length=(au own.length none++qK bH σ).length /\iM C sub EX iN tV aA λb aZ=>if b=true then aI C sub EX xe tV aZ λd cR=>iH (same as aC) tf (xs.drop<|i+1) (ds++[d]) cR R else iH (same as aC) tf (xs.drop<|i+1) ds aZ R) I6' rv<|RE lH (htf _ _ _ q') ((capsRel dU).step dD s6s) rd λce tV r2 p2 k2 l2=>⟨tV,rfl,r2,k2,l2,p2⟩;rw[eP,eW,eA,eX]at hasg;refine bA hasg λ_ s7 ⟨ce,H7,I7,tV,e7,r7,k7,l7,q7⟩=>?_;subst e7;have hte:=htc _ s7 ce H7 _ I7 ⟨tV,aA,_,r7,Pc,q7,λb H' z=>z⟩;rw[eP,eW,eA,eX]at hte;have again:∀{H8:Hp}{s8:aj}{kS:aB}{ds8:List D}{ys8:List V},Inv Xc ([]++yW fp s6.heap) ce H8 s8->Step H1 aC H8 kS->aQ X.K kS H8->H8 Da=some (.lst ys8)->kS Da=none->aM X.K H8 ds8 ys8->iH (same as aC) tf (xs.drop<|i+1) ds8 kS R -> ∃m,m<n/\∃i H' aA ds ys,m+i=xs.length/\Inv Xc [] (au own.length none++qK bH σ) H' s8/\tn i s8.heap/\(∀b∈fp,H' b=none)/\Step H1 aC H' aA/\aQ X.K aA H'/\H' Da=some (.lst ys)/\aA Da=none/\aM X.K H' ds ys/\iH (same as aC) tf (xs.drop i) ds aA R:=λ{H8 s8 kS ds8 ys8} I8 s8s XJ hD8 hs8 rs8 q8=>by
    have pinned:∀b∈fp,∀o,s6.heap.get? b=some o->s8.heap.get? b=some o/\H8 b=none:=λb hb o e=>by have:=I8.pin (b,o)<|cf _<|cf _<|xG hb e;exact⟨this.1,this.2.1⟩
    refine⟨n-1,by lia,i+1,H8,kS,ds8,ys8,by lia,?_,T.keep _ _ _ t6 λb hb o e=>(pinned b hb o e).1,λb hb=>?_,s8s,XJ,hD8,hs8,rs8,q8⟩
    ·refine I8.wL.weak (by rw[l7]) λi0 v0 e0=>?_;by_cases hi0:i0<own.length;·rw[ff<|by simpa using hi0,iq]at e0;split at e0<;>cases e0
     ·rw[k7 i0<|by lia];exact e0
    ·obtain⟨o,e,_⟩:=T.obj _ _ t6 b hb;exact(pinned b hb o e).2
   have s17:=dU.trans s6s;have rs7:=rs.step dD s6s;refine bA hte λb s8 ⟨H8,I8,kS,s8s,XJ,q8⟩=>?_;have D8:=s8s Da _ D6.1 D6.2;have rs8:=rs7.step Pc s8s;cases b with|false=>exact again I8 (s17.trans s8s) XJ D8.1 D8.2 rs8 q8|true =>have hel:=hec _ s8 ce H8 _ I8 ⟨tV,kS,_,r7.step Pc s8s,XJ,q8,λv H' z=>z⟩;rw[eP,eW,eA,eX]at hel;refine bA hel λu9 s9 ⟨v9,H9,I9,rv9,d9,QT,s9s,Yr,rd9,q9⟩=>?_;have D9:=s9s Da _ D8.1 D8.2;have rs9:=rs8.step XJ s9s;have hap:=L2.tJ _ s9 ce H9 (.ref Da) [v9] (.ref Da) [u9] (λ_ H'=>H'=upd H9 Da (.lst<|ys++[v9])) I9 rfl (.cons rv9 .nil) ⟨Da,ys,v9,rfl,rfl,D9.1,by rw[nD,<-rs9.length];exact gl,rfl⟩;rw[eP,eW,eA,eX]at hap;refine bA hap λ_ s10 ⟨_,H10,I10,_,e10⟩=>?_;subst e10;refine again I10 (λa o e0 n0=>?_) (Yr.alt D9.1 D9.2) dX D9.2 ((rs9.append<|.cons rd9 .nil).alt D9.1) q9;have:=((s17.trans s8s).trans s9s) a o e0 n0;exact⟨by rw[aY<|dF e0 hD1];exact this.1,this.2⟩
  ·-- the end
   have ed:xs.drop i=[]:=fk (by lia);rw[ed]at q';have hpn:=T.done Xc eP eW eK eC i [] s' _ H' XE I' (fC fr') ti (j.stop i H' aA dU dD q'.1<|by lia);rw[eA]at hpn;refine bA hpn λrr s5 ⟨hr,I5⟩=>?_;subst hr;have un5:Un (gS X.stack) fp (upd H1 Da<|.lst []) H' bv.heap s5.heap:=by have:=I5.base;rw[<-hXc]at this;exact this
   have os5:s5.os=bv.os:=by have:=I5.os;rw[<-hXc]at this;exact this
   have fC5:H' bv.heap.objs.size=none:=by have:=I5.free;rw[eL]at this;exact this
   have hch:=hch0;have hok5:fH X.prog X.w H' s5.heap:=by have:=I5.bL;rw[eP,eW]at this;exact this
   have Iall:∀h',(∀b o,b≠bv.heap.objs.size->s5.heap.get? b=some o->h'.get? b=some o)->fH X.prog X.w H' h'->Inv X pz σ H' { s5 with heap:=h' }:=λh' kk bL=>by
    have ne:∀b o,bv.heap.get? b=some o->b≠bv.heap.objs.size:=λb o e=>cj<|bc e;refine I3.nS (s':={ s5 with heap:=h' }) (ch:=fp) os5 ⟨λb o e n hb hx=>kk b o (ne b o e)<|un5.keep b o e n hb hx,λb o e n hb hx=>?_,un5.free,λb o e hx=>?_,un5.jO,un5.jG,un5.kC⟩ bL I5.bare hch;·obtain⟨sl,e'⟩:=un5.slot b o e n hb hx;exact⟨sl,kk b _ (ne b o e) e'⟩
    ·obtain⟨o',e'⟩:=un5.there b o e hx;exact⟨o',kk b o' (ne b o e) e'⟩
   obtain⟨m5,ns5,_⟩:=I5.loc;rw[eL]at ns5;refine fin Da bv.heap.objs.size H' aA ds m5 s5 ns5 (λh' hs=>Iall h' (λb o hb e=>hs.extBut b o hb e)<|PR hok5 fC5 hs) (Iall s5.heap (λb o _ e=>e) hok5) (xq I3.lt) (λx c e=>?_) (I3.Lj<|av _) I3.sz (λp hp=>cj<|bc (I3.pin p hp).1) fC5 dU (dD.take hD' rs) hD1 hst' q'.2;obtain⟨v,o,ho,_⟩:=I3.cell x c e;exact cj<|bc ho
 have hl:=loop _ rfl;rw[eN]at hl;exact codeAny_compStart_list hl<|T.self X.A 0 _ _ _ t1 hl
theorem CN {H':Hp}{st aA:aB}{Da:Addr}{o:MO}(s1:Step H st H1 aC)(s2:Step H1 aC H' aA)(hD:H1 Da=none):Step H st H'<|put aA Da o:=λa u e n=>by have e1:=s1 a u e n;have e2:=s2 a u e1.1 e1.2;exact⟨e2.1,by rw[bS<|dF e1.1 hD];exact e2.2⟩
theorem Km (hC:bU C C)(S:iV X scope cn bH)(hc:X.calm=true)(lH:one=true->own.length=1)(hi:PI X tg iter<|yZ X.K λσ st M=>bB C sub EF aD σ st λds aC=>jZ k ds aC λas xs=>M as xs aC)(hg:∀fp s H Ca,PG (hJ X scope own cn fp s H Ca) tg<|PM X.K one own.length)(hts:∀fp s H Ca,JU (hJ X scope own cn fp s H Ca) ifs<|vY X.K<|iM C sub EF iN)(he:∀fp s H Ca,PE (hJ X scope own cn fp s H Ca) elt<|bW X.K<|aI C sub EF xe)(hs:∀x,ft iter X.env x=pure x):PE X (.ListComp elt [⟨tg,iter,ifs,0⟩] scope pos)<|bW X.K<|aI C sub EF<|.comp own.length bH (b7 own.length) one k aD iN xe:=by intro pz s σ H Q I ⟨ac,st,R,r,ok,q,hq⟩;rw[eval_ListComp];refine rf (use:=none) rfl hs (qS<|S.cells I.ok) S.kind S.names ?_;refine bA (hi pz s σ H _ I ⟨ac,st,_,r,ok,q,λJ H1 z=>z⟩) λv s1 h1=>bA h1 λitv s2 h2=>?_;obtain⟨it,fp,tn,J,H1,rfl,I2,T,t0,f2,as,xs,aC,dU,aR,j,q1⟩:=h2;refine AA (use:=none) hC S hc lH I2 T t0 f2 (r.step ok dU) aR j (λ_ _ _=>⟨λ_ _=>False,λ_ _ h=>h.elim,hg _ _ _ _,hts _ _ _ _,he _ _ _ _⟩) q1 ?_;intro Da Ca H' aA ds m s' hns G9 hI _ _ _ _ _ _ kR okp hD1 hst' hR;exact⟨m,hns,λh' hh=>⟨.ref Da,H',G9 h' hh,rfl,hq _ _ ⟨.ref Da,_,CN dU kR hD1,okp,.ref Da,hR.2 Da hst'⟩⟩⟩
theorem Ky {y:Str}{py spos:Pos}(hC:bU C C)(S:iV X scope cn bH)(hc:X.calm=true)(lH:one=true->own.length=1)(hi:PI X tg iter<|yZ X.K λσ st M=>bB C sub EF aD σ st λds aC=>jZ k ds aC λas xs=>M as xs aC)(hg:∀fp s H Ca,PG (hJ X scope own cn fp s H Ca) tg<|PM X.K one own.length)(hts:∀fp s H Ca,JU (hJ X scope own cn fp s H Ca) ifs<|vY X.K<|iM C sub EF iN)(he:∀fp s H Ca,PE (hJ X scope own cn fp s H Ca) elt<|bW X.K<|aI C sub EF xe)(hN:X.N.Nodup)(hy:X.N[i]? = some y)(hx:Loc X.env.scope y)(hf:X.fn y=true\/X.env.scope.names.lookup y=some .local)(hsw:nq (.ListComp elt [⟨tg,iter,ifs,0⟩] scope pos) (some<|.Name y py) spos.line X.env=pure true)(hs:∀x,ft iter X.env x=pure x): PS X (.Assign [.Name y py] (.ListComp elt [⟨tg,iter,ifs,0⟩] scope pos) spos)<|jF X.K EF<|wpS C sub<|.asg (.nm i)<|.comp own.length bH (b7 own.length) one k aD iN xe:=by
 intro pz s σ H D I ⟨ac,st,P,r,ok,q,h⟩;have q:=zB hC h.ex q;rw[exec_Assign_Name_used _ _ _ _ hsw];refine ai<|Zk<|ai ?_;show wpAny _ X.A (do let _ <-comprehension (.ListComp elt [⟨tg,iter,ifs,0⟩] scope pos) scope X.env _ (newList []) false (eval iter X.env)<|some<|qt (.Name y py) X.env) _ _ s;refine ai<|gh (rf (use:=some<|qt (.Name y py) X.env) (Q:=λ_ s'=>SP X pz D .next s') rfl hs (qS<|S.cells I.ok) S.kind S.names ?_) (λ_ s' hq=>a9<|a9 hq) λ_ _ e=>e;refine bA (hi pz s σ H _ I ⟨ac,st,_,r,ok,q,λJ H1 z=>z⟩) λv s1 h1=>bA h1 λitv s2 h2=>?_;obtain⟨it,fp,tn,J,H1,rfl,I2,T,t0,f2,as,xs,aC,dU,aR,j,q1⟩:=h2;refine AA (use:=some<|qt (.Name y py) X.env) hC S hc lH I2 T t0 f2 (r.step ok dU) aR j (λ_ _ _=>⟨λ_ _=>False,λ_ _ h=>h.elim,hg _ _ _ _,hts _ _ _ _,he _ _ _ _⟩) q1 ?_;intro Da Ca H' aA ds m s' hns G9 hI hL hcl hfs oB hpins hn kR okp hD1 hst' hR;show wpAny _ X.A (qt (.Name y py) X.env<|.ref Da) _ _ _;refine Aaa<|HI hI hN hy hx (v:=.ref Da) rfl (λs'' I'' kk=>?_) hf;obtain⟨ad,sb,had⟩:=kk;have nad:Ca≠ad:=λz=>by
  rcases had with e|e;·exact hL<|z.trans e
  ·exact hcl y ad e z.symm
 refine⟨m,hns.at' λo e=>(sb.2 Ca nad).trans e,λh' hh=>?_⟩;refine⟨σ.set i<|some<|.ref Da,H',I''.turned (t':=s''.toks) (λb o hb e=>hh.extBut b o hb e) hn hL (.inr oB) hcl hpins,?_⟩;have aZ:=CN (o:=.lst ds) dU kR hD1;exact h.nx _ _ _ _ ((r.step ok aZ).set i<|.ref Da) aZ okp<|hR.2 Da hst'
end
theorem zO {K:ae}(r:aM K H ds vs){N:List Str}{np:Nat}(h:ds.length=np):cQ K H (start np N.length ds)<|L2.start N vs:=by
 refine⟨by simp [start,L2.start,r.length,<-h],λi d e=>?_⟩;unfold start at e;by_cases hi:i<ds.length;·rw[ff<|by simp_all,fi,ay]at e;obtain⟨d',e1,e2⟩:=e;cases e2;obtain⟨v,e3,e4⟩:=r.get e1;refine⟨v,?_,e4⟩;unfold L2.start;rw[ff<|by rw[af,<-r.length];exact hi,fi,e3];rfl
 ·rw[fe<|by simp_all,iq]at e;split at e<;>cases e
theorem Fu {w:dh}{K:ae}{mg:Str->Option Value}{base:Heap}{G:Prog}{f:Nat}{a:Addr}{fd:fh}{ps:List Str}:cD P w K mg base gG 0 a fd ps<|jK K (aH G 0) f:=by have no:∀vs H Q E,¬jK K (aH G 0) f vs H Q E:=λvs H Q E ⟨_,_,_,_,_,h,_⟩=>h;exact⟨λvs H Q E h=>absurd h<|no vs H Q E,λA outer s H args us vs Q E _ _ _ _ h=>absurd h<|no vs H Q E⟩
theorem cI:dm "len" = some (.builtin "len"):=by x_go
theorem uU:dm "all" = some (.builtin "all"):=by x_go
theorem TY:dm "any" = some (.builtin "any"):=by x_go
theorem Ou:dm "max" = some (.builtin "max"):=by x_go
theorem xV:dm "isinstance" = some (.builtin "isinstance"):=by x_go
theorem AL:dm "int" = some (.type "int"):=by x_go
theorem qI:dm "str" = some (.type "str"):=by x_go
theorem Cu:dm "bool" = some (.type "bool"):=by x_go
theorem FO:dm "list" = some (.type "list"):=by x_go
theorem eJ:dm "tuple" = some (.type "tuple"):=by x_go
theorem Jx:dm "set" = some (.type "set"):=by x_go
theorem OG:dm "reversed" = some (.type "reversed"):=by x_go
noncomputable def QC:Ty->String|.int =>"int"|.str =>"str"|.bool =>"bool"|.list =>"list"|.tuple =>"tuple"|.dict =>"dict"|.err _ =>"?"
noncomputable def KJ:Ty->Bool|.err _=>false|_=>true
section
variable {s:aj}{st:aB}{sub:Nat->Nat->Bool}
abbrev Mu (X:Cx)(s:aj)(u:Value)(t:Ty)(b:Bool):Prop:=∀(A:c5)(Q:Value->aj->Prop)(E:Value->aj->Prop),(∀tk,Q (.bool b) { s with toks:=tk })->wpAny (model X.prog X.w) A (call (.builtin "isinstance") [u,.type<|QC t]) Q E s
theorem A4 {a:Addr}(I:Inv X pz σ H s)(h:∃o,s.heap.get? a=some o/\o.cls=.type "list"){b:Bool}(e:AaY X.K (.type "list") (.type<|QC t)=some b):Mu X s (.ref a) t b:=λA Q E hQ =>gy PySem.W.kitx_list I.gR h e (λz=>nomatch z) hQ
theorem PF {a:Addr}(I:Inv X pz σ H s)(h:∃o,s.heap.get? a=some o/\o.cls=.type "tuple"){b:Bool}(e:AaY X.K (.type "tuple") (.type<|QC t)=some b):Mu X s (.ref a) t b:=λA Q E hQ =>gy PySem.W.kitx_tuple I.gR h e (λz=>nomatch z) hQ
theorem VP {d:D}{u:Value}{P:Bool->Prop}(I:Inv X pz σ H s)(ok:aQ X.K st H)(r:Rep X.K H d v)(rv:RelV v u)(ht:KJ t=true)(h:cV sub d st t P):∃b,P b/\Mu X s u t b:=by cases d with
 |non =>cases r.gE;cases rv;refine⟨false,by cases t<;>exact h,λA Q E hQ=>gy PySem.W.kitx_none I.gR oi ?_ (λz=>nomatch z) hQ⟩;cases t<;>first|rfl|cases ht
 |bl k =>cases r.gK;cases rv;cases t with|bool=>exact⟨true,h,λA Q E hQ=>gy wj I.gR oi rfl (λz=>nomatch z) hQ⟩|int=>exact⟨true,h,λA Q E hQ=>gy wj I.gR oi rfl (λz=>nomatch z) hQ⟩|err _=>cases ht|_=>exact⟨false,h,λA Q E hQ=>gy wj I.gR oi rfl (λz=>nomatch z) hQ⟩
 |int k =>cases r.int_inv;obtain⟨tk,rfl⟩:=rv;cases t with|int=>exact⟨true,h,λA Q E hQ=>gy Aat I.gR oi rfl (λz=>nomatch z) hQ⟩|err _=>cases ht|_=>exact⟨false,h,λA Q E hQ=>gy Aat I.gR oi rfl (λz=>nomatch z) hQ⟩
 |str k =>cases r.str_inv;obtain⟨tk,rfl⟩:=rv;cases t with|str=>exact⟨true,h,λA Q E hQ=>gy Aau I.gR oi rfl (λz=>nomatch z) hQ⟩|err _=>cases ht|_=>exact⟨false,h,λA Q E hQ=>gy Aau I.gR oi rfl (λz=>nomatch z) hQ⟩
 |tup ds =>obtain⟨a,vs,rfl,f,g⟩:=r.cA;cases rv;obtain⟨aD,_,⟨o,h1,h2,_⟩,_⟩:=I.tuple f;cases t with|tuple=>exact⟨true,h,PF I ⟨o,h1,h2⟩ rfl⟩|err _=>cases ht|_=>exact⟨false,h,PF I ⟨o,h1,h2⟩ rfl⟩
 |ref a =>
  cases r.cY;cases rv;have key:∃ds,st a=some (.lst ds):=by cases e:st a with
   |none=>exfalso;cases t<;>first|(simp only[cV,eD,e]at h)|cases ht
   |some o =>cases o with
    |lst ds=>exact⟨ds,rfl⟩|dic _ _=>exact(ok a _ e).elim|ins _ _=>exfalso;cases t<;>first|(simp only[cV,eD,e]at h)|cases ht
    |tab _ _=>exfalso;cases t<;>first|(simp only[cV,eD,e]at h)|cases ht
  obtain⟨ds,e⟩:=key;obtain⟨vs,g1,_⟩:=ok.lst e;obtain⟨_,aD,n,_,_,e1⟩:=I.tY g1;have ho:∃o,s.heap.get? a=some o/\o.cls=.type "list":=⟨_,e1,rfl⟩;cases t with|list=>simp only[cV]at h;rw[hV e]at h;exact⟨true,h,A4 I ho rfl⟩|err _=>cases ht|_=>simp only[cV]at h;rw[hV e]at h;exact⟨false,h,A4 I ho rfl⟩
 |bR ds =>obtain⟨a,vs,rfl,f,g⟩:=r.mL;cases rv;obtain⟨aD,_,p,_⟩:=I.list f.sq;obtain⟨o,h1,h2,_⟩:=p.isList;cases t with|list=>exact⟨true,h,A4 I ⟨o,h1,h2⟩ rfl⟩|err _=>cases ht|_=>exact⟨false,h,A4 I ⟨o,h1,h2⟩ rfl⟩
 |cF _ _=>cases t<;>exact(show False from h).elim|exc c=>cases r
end
variable {t:String}
section
variable {sub:Nat->Nat->Bool}{a:cy}{x:Ex}{p p2:Pos}
def Ws (K:ae)(sub:Nat->Nat->Bool)(t:Ty):List V->Hp->L2.VK->Prop:=λvs H Q=>∃d v st R,vs=[v,.ty<|QC t]/\Rep K H d v/\aQ K st H/\cV sub d st t (λb=>R (.bl b) st)/\∀v H',QD K H st R v H'->Q v H'
theorem YG {t:Ty}(ht:KJ t=true):pH X (.builtin "isinstance")<|Ws X.K sub t:=by intro pz s σ H vs us Q I rv h;obtain⟨d,v,st,R,rfl,r,ok,h,hq⟩:=h;cases rv with|cons r1 r2=>cases r2 with|cons r2 r3 =>cases r3;cases r2;obtain⟨b,hb,hi⟩:=VP I ok r r1 ht h;exact hi _ _ _ λtk=>⟨.bl b,H,I.tok tk,rfl,hq _ _<|.here ok (.bl b) hb⟩
theorem Sz {t:Ty}{n:Str}(ht:KJ t=true)(hg:Gl X "isinstance")(hm:X.mg "isinstance" = none)(hg2:Gl X n)(hm2:X.mg n=none)(hv2:dm n=some (.type<|QC t))(ha:PE X a<|bW X.K<|aI C sub E x)(hn2:n ≠"__name__")(hd2:(n==("__debug__" : Str))=false)(he:cb [a,.Name n p2] X.env=(false,eval a X.env)::cb [.Name n p2] X.env)(he2:cb [.Name n p2] X.env=[(false,eval (.Name n p2) X.env)])(cW:(jr pos<|cb [.Name n p2] X.env).any (·.1)=false):PE X (.Call (.Name "isinstance" p) [a,.Name n p2] [] pos) (bW X.K<|aI C sub E<|.isi x [t]) :=(CK (YG ht) hg hm xV (rE ha (rE (QI hg2 hm2 hv2 (v:=.ty _) rfl hn2 hd2) D4 he2) he) (by cbv) (by cbv) he cW).imp λσ H Q ⟨ac,st,R,r,ok,q,hq⟩=>by refine⟨ac,st,_,r,ok,q,λv H1 ⟨d,aC,s1,aR,r1,q1⟩=>?_⟩;exact⟨d,v,aC,R,rfl,r1,aR,q1,λv H' z=>hq _ _<|.after s1 z⟩
theorem Qa {j:Nat}(h:om t=⟨(W t).toArray⟩):PE X (.Constant (.str<|om t) j pos) (bW X.K<|aI C sub E<|.c<|.str<|W t) :=vO WO λH=>by rw[h];exact .str _
end
structure JE (X:Cx)(C:aU)(sub:Nat->Nat->Bool)(E:XK)(e:cy)(x:Ex):Prop where h:PE X e<|bW X.K<|aI C sub E x
structure JT (X:Cx)(C:aU)(sub:Nat->Nat->Bool)(E:XK)(e:cy)(x:Ex):Prop where h:PT X e<|jV X.K<|aI C sub E x
structure JW (X:Cx)(C:aU)(sub:Nat->Nat->Bool)(E:XK)(e:cy)(x:Ex):Prop where h:PW X e<|jV X.K<|aI C sub E x
structure JA (X:Cx)(C:aU)(sub:Nat->Nat->Bool)(E:XK)(es:List cy)(xs:List Ex):Prop where h:PA X es<|gY X.K<|bB C sub E xs
structure JO (X:Cx)(C:aU)(sub:Nat->Nat->Bool)(E:XK)(e:Option cy)(xs:List Ex):Prop where h:PO X e<|GA X.K<|bB C sub E xs
structure JI (X:Cx)(C:aU)(sub:Nat->Nat->Bool)(E:XK)(tg e:cy)(k:Option IK)(xs:List Ex):Prop where h:PI X tg e<|yZ X.K λσ st M=>bB C sub E xs σ st λds aC=>jZ k ds aC λas ys=>M as ys aC
structure JG (X:Cx)(C:aU)(sub:Nat->Nat->Bool)(E:XK)(tg:cy)(t:Tg):Prop where h:PG X tg<|LV X.K<|nH C sub E t
structure JN (X:Cx)(tg:cy)(i:Nat):Prop where h:PG X tg<|DL i
structure WD (X:Cx)(es:List cy)(is:List Nat):Prop where h:DJ X es<|uY is
structure JB (X:Cx)(tg:cy)(one:Bool)(n:Nat):Prop where h:PG X tg<|PM X.K one n
structure JQ (X:Cx)(C:aU)(sub:Nat->Nat->Bool)(E:XK)(es:List cy)(xs:List Ex):Prop where h:JU X es<|vY X.K<|iM C sub E xs
structure JS (X:Cx)(C:aU)(sub:Nat->Nat->Bool)(EX:XK)(s:Stmt)(x:Sx):Prop where h:PS X s<|jF X.K EX<|wpS C sub x
structure xR (X:Cx)(C:aU)(sub:Nat->Nat->Bool)(EX:XK)(ss:List Stmt)(xs:List Sx):Prop where h:iY X ss<|jF X.K EX<|cH C sub xs
structure pV (X:Cx)(C:aU)(n:Str)(fid:Nat):Prop where h:∃k f fd ps,cD X.prog X.w X.K X.mg X.base gG k f fd ps (jK X.K C fid)/\cK k X.A/\X.mg n=some (.ref f)/\e9 X.K (.ref f)=true/\Binds X.K fd ps []
def GC (K:ae)(mg:Str->Option Value)(n:Str)(d:D):Prop:=∃u v,mg n=some u/\RelV v u/\∀H,Rep K H d v
variable {sxs:List Sx}{kk:Option IK}
section
variable {sub:Nat->Nat->Bool}{a c o:cy}{x z:Ex}{p p2:Pos}{n:Str}{s:Stmt}
theorem jv (i:Nat)(hN:X.N[i]? = some n:=by z_go)(hv:X.env.scope.names.lookup n=some .local:=by z_go)(hd:(n==("__debug__" : Str))=false:=by z_go) (hcd:(n==("__classdict__" : Str))=false:=by z_go):JE X C sub E (.Name n pos)<|.v i:=⟨Aw<|pv i hN (.inl hv) hd hcd⟩
theorem fL (i:Nat)(hN:X.N[i]? = some n:=by z_go)(hv:X.env.scope.names.lookup n=some .cell:=by z_go)(hd:(n==("__debug__" : Str))=false:=by z_go) (hcd:(n==("__classdict__" : Str))=false:=by z_go):JE X C sub E (.Name n pos)<|.v i:=⟨Aw<|pv i hN (.inr<|.inl hv) hd hcd⟩
theorem ji {i:Int}:JE X C sub E (.Constant (.int i) k pos)<|.c<|.int i:=⟨vO Lw λ_=>.int _⟩
theorem jb {i:Bool}:JE X C sub E (.Constant (.bool i) k pos)<|.c<|.bl i:=⟨vO Uc λ_=>.bl _⟩
theorem jn:JE X C sub E (.Constant .none k pos)<|.c .non:=⟨vO WU λ_=>.non⟩
theorem js (h:om t=⟨(W t).toArray⟩:=by z_go):JE X C sub E (.Constant (.str<|om t) k pos)<|.c<|.str<|W t:=⟨Qa h⟩
theorem jg {d:D}(h:GC X.K X.mg n d)(hg:X.env.kindOf n=some .globalImplicit:=by z_go)(hd:(n==("__debug__" : Str))=false:=by z_go):JE X C sub E (.Name n pos)<|.c d:=⟨let⟨u,v,h1,h2,h3⟩:=h;vO (FW hg h1 h2 hd) h3⟩
theorem ja (h:JE X C sub E e x)(hs:JA X C sub E es xs)(cM:sE X e es:=by z_go):JA X C sub E (e::es)<|x::xs:=⟨Ji h.h hs.h cM⟩
theorem jt (m:bU C C)(hs:JA X C sub E es xs)(hl:xs.length<=aL:=by cbv):JE X C sub E (.Tuple es k pos)<|.tup xs:=⟨Qs m hs.h hl⟩
theorem B7 {o:pT}(u:X.A.units+180<cLine)(ha:JE X C sub E a x)(hb:JE X C sub E b y)(hm:pq (kG o) b=false:=by z_go):JE X C sub E (.Compare a [kG o] [b] pos)<|.cmp o x y:=⟨Rg u ha.h hb.h hm⟩
theorem bX {o:pT}(u:X.A.units+180<cLine)(ha:JE X C sub E a x)(hb:JE X C sub E b y)(hm:pq (kG o) b=false:=by z_go):JT X C sub E (.Compare a [kG o] [b] pos)<|.cmp o x y:=⟨Js u ha.h hb.h hm⟩
theorem Mt {o o':pT}(u:X.A.units+180<cLine)(ha:JE X C sub E a x)(hb:JE X C sub E b y)(hc:JE X C sub E c z)(hm:Aar [kG o,kG o'] [b,c]=false:=by z_go):JE X C sub E (.Compare a [kG o,kG o'] [b,c] pos)<|.chain o o' x y z:=⟨Fo u ha.h hb.h hc.h hm⟩
theorem Yl {o o':pT}(u:X.A.units+180<cLine)(ha:JE X C sub E a x)(hb:JE X C sub E b y)(hc:JE X C sub E c z)(hm:Aar [kG o,kG o'] [b,c]=false:=by z_go):JT X C sub E (.Compare a [kG o,kG o'] [b,c] pos)<|.chain o o' x y z:=⟨YW u ha.h hb.h hc.h hm⟩
theorem tp (h:JE X C sub E e x)(he:∀whole,Zq e X.env whole=(do let v <-whole;og e.pos;jm [v]<|Abp v):=by intro _;rfl):JT X C sub E e x:=⟨Y6 h.h he⟩
theorem bG (ha:JE X C sub E a x)(hb:JE X C sub E b y)(hp:F0 b:=by intro _ _;rfl):JE X C sub E (.Subscript a b pos)<|.ix x y:=⟨Vr ha.h hb.h hp⟩
theorem bM {fid:Nat}(h:pV X C n fid)(ha:JA X C sub E (e::es) xs)(hg:X.env.kindOf n=some .globalImplicit:=by z_go)(hdb:(n==("__debug__" : Str))=false:=by z_go)(he:sE X e es:=by z_go)(cW:sN X pos es:=by z_go): JE X C sub E (.Call (.Name n p) (e::es) [] pos)<|.call fid xs:=⟨let⟨k,f,fd,ps,h1,h2,h3,h4,h5⟩:=h.h;Jh h1 h2 hg h3 h4 h5 KZ ha.h hdb he cW⟩
theorem dA {f:BI}{id:String}(hW:tH X (.builtin id)<|iI f)(hv:dm n=some (.builtin id))(hm:X.mg n=none)(ha:JA X C sub E (e::es) xs)(hg:X.env.kindOf n=some .globalImplicit:=by z_go)(hn:n ≠"__name__":=by cbv)(hdb:(n==("__debug__" : Str))=false:=by z_go)(he:sE X e es:=by z_go)(cW:sN X pos es:=by z_go):JE X C sub E (.Call (.Name n p) (e::es) [] pos)<|.bi f xs:=⟨(Qm hW hg hm hv ha.h hn hdb he cW).imp λσ H Q ⟨ac,st,R,r,ok,q,hq⟩=>⟨ac,st,R,r,ok,by assumption,hq⟩⟩
theorem iL {f:BI}{id:String}(hW:tH X (.type id)<|iI f)(hv:dm n=some (.type id))(hm:X.mg n=none)(ha:JA X C sub E (e::es) xs)(hg:X.env.kindOf n=some .globalImplicit:=by z_go)(hn:n ≠"__name__":=by cbv)(hdb:(n==("__debug__" : Str))=false:=by z_go)(he:sE X e es:=by z_go)(cW:sN X pos es:=by z_go):JE X C sub E (.Call (.Name n p) (e::es) [] pos)<|.bi f xs:=⟨(Mw hW hg hm hv ha.h hn hdb he cW).imp λσ H Q ⟨ac,st,R,r,ok,q,hq⟩=>⟨ac,st,R,r,ok,by assumption,hq⟩⟩
theorem B2 {t:Ty}(hv:dm n=some (.type<|QC t))(hm:X.mg "isinstance" = none)(hm2:X.mg n=none)(ha:JE X C sub E a x)(ht:KJ t=true:=by z_go)(hg:X.env.kindOf "isinstance" = some .globalImplicit:=by z_go)(hg2:X.env.kindOf n=some .globalImplicit:=by z_go)(hn2:n ≠"__name__":=by cbv)(hd2:(n==("__debug__" : Str))=false:=by z_go)(he:cb [a,.Name n p2] X.env=(false,eval a X.env)::cb [.Name n p2] X.env:=by z_go)(he2:cb [.Name n p2] X.env=[(false,eval (.Name n p2) X.env)]:=by z_go)(cW:(jr pos<|cb [.Name n p2] X.env).any (·.1)=false:=by z_go):JE X C sub E (.Call (.Name "isinstance" p) [a,.Name n p2] [] pos)<|.isi x [t]:=⟨Sz ht hg hm hg2 hm2 hv ha.h hn2 hd2 he he2 cW⟩
theorem zQ (ho:JE X C sub E o x)(ha:JA X C sub E (e::es) xs)(dR:ei o "append" X.env (eval o X.env)=eval o X.env:=by z_go)(iG:xX X pos (e::es)=true:=by z_go)(dS:(apos.endLine==pos.line)=true:=by z_go)(hs:sE X e es:=by z_go)(eI:sN X pos es:=by z_go):JE X C sub E (.Call (.Attribute o "append" apos) (e::es) [] pos)<|.bP .append x xs:=⟨XH (.inl rfl) PySem.F.slot_list_append PySem.F.type_list_append WS ho.h ha.h dR iG dS hs eI⟩
theorem QL (ho:JE X C sub E o x)(ha:JA X C sub E (e::es) xs)(dR:ei o "extend" X.env (eval o X.env)=eval o X.env:=by z_go)(iG:xX X pos (e::es)=true:=by z_go)(dS:(apos.endLine==pos.line)=true:=by z_go)(hs:sE X e es:=by z_go)(eI:sN X pos es:=by z_go):JE X C sub E (.Call (.Attribute o "extend" apos) (e::es) [] pos)<|.bP .extend x xs:=⟨XH (.inr<|.inl rfl) PySem.F.slot_list_extend PySem.F.type_list_extend UL ho.h ha.h dR iG dS hs eI⟩
theorem Uq (ho:JE X C sub E o x)(dR:ei o "pop" X.env (eval o X.env)=eval o X.env:=by z_go)(dS:(apos.endLine==pos.line)=true:=by z_go): JE X C sub E (.Call (.Attribute o "pop" apos) [] [] pos)<|.bP .pop x []:=⟨Fm (.inr<|.inr rfl) PySem.F.slot_list_pop PySem.F.type_list_pop Oo ho.h dR dS⟩
theorem sx (m:bU C C)(h:JE X C sub EX e x)(hs:nq e none pos.line X.env=pure false:=by z_go):JS X C sub EX (.Expr e pos)<|.ex x:=⟨Wl m h.h hs⟩
theorem sn (m:bU C C)(nd:X.N.Nodup)(he:JE X C sub EX e x)(hi:X.N[i]? = some n:=by z_go)(hx:X.env.scope.names.lookup n=some .local:=by z_go)(hs:ud [.Name n p] e pos.line X.env=pure false:=by z_go)(hw:ue [.Name n p] e X.env=pure none:=by z_go)(h1:(fy [.Name n p] X.env).map (·.2)=[qt (.Name n p) X.env]:=by z_go):JS X C sub EX (.Assign [.Name n p] e pos)<|.asg (.nm i) x:=⟨SF m he.h (X1<|uO nd hi (.inl hx)<|.inr hx) hs hw h1⟩
theorem Ja (m:bU C C)(nd:X.N.Nodup)(he:JE X C sub EX e x)(hi:X.N[i]? = some n:=by z_go)(hx:X.env.scope.names.lookup n=some .cell:=by z_go)(hf:X.fn n=true:=by z_go)(hs:ud [.Name n p] e pos.line X.env=pure false:=by z_go)(hw:ue [.Name n p] e X.env=pure none:=by z_go)(h1:(fy [.Name n p] X.env).map (·.2)=[qt (.Name n p) X.env]:=by z_go):JS X C sub EX (.Assign [.Name n p] e pos)<|.asg (.nm i) x:=⟨SF m he.h (X1<|uO nd hi (.inr hx)<|.inl hf) hs hw h1⟩
theorem gn (nd:X.N.Nodup)(hi:X.N[i]? = some n:=by z_go)(hx:X.env.scope.names.lookup n=some .local:=by z_go):JN X (.Name n p) i:=⟨uO nd hi (.inl hx)<|.inr hx⟩
theorem Yk (nd:X.N.Nodup)(hi:X.N[i]? = some n:=by z_go)(hx:X.env.scope.names.lookup n=some .cell:=by z_go)(hf:X.fn n=true:=by z_go):JN X (.Name n p) i:=⟨uO nd hi (.inr hx)<|.inl hf⟩
theorem gc (h1:JN X e i)(h2:WD X es is)(hs:(fy (e::es) X.env).map (·.2)=qt e X.env::(fy es X.env).map (·.2):=by z_go):WD X (e::es)<|i::is:=⟨Dl h1.h h2.h hs⟩
theorem gt (h:WD X es is)(hc:X.calm=true:=by z_go)(hn:(fy es X.env).length=is.length:=by z_go)(cM:(fy es X.env).findIdx? (·.1)=none:=by z_go):JG X C sub E (.Tuple es k pos)<|.tp is:=⟨Vu hc h.h hn cM⟩
theorem gi (ho:JE X C sub E o x)(hi:JE X C sub E a y)(ha:∀v,qt (.Subscript o a pos) X.env v=(do
  let ov <-jm [v] (eval o X.env)let iv <-jm [v,ov] (eval a X.env)og pos
  jm [v,ov,iv] (Abr ov iv v)release [v,ov,iv] []):=by intro _;rfl):JG X C sub E (.Subscript o a pos)<|.ix x y:=⟨Vs ho.h hi.h ha⟩
theorem sg {t:Tg}(m:bU C C)(he:JE X C sub EX e x)(hg:JG X C sub EX tg t) (hs:ud [tg] e pos.line X.env=pure false:=by z_go)(hw:ue [tg] e X.env=pure none:=by z_go)(h1:(fy [tg] X.env).map (·.2)=[qt tg X.env]:=by z_go):JS X C sub EX (.Assign [tg] e pos)<|.asg t x:=⟨SF m he.h hg.h hs hw h1⟩
theorem sw (m:bU C C)(hc:JT X C sub EX c x)(hb:xR X C sub EX ss sxs)(hp:u7 (model X.prog X.w) X.A X.env X.xe:=by exact yu):JS X C sub EX (.While c ss [] pos)<|.whl x sxs:=⟨Ff m hp hc.h hb.h⟩
theorem sf {t:Tg}(m:bU C C)(hi:JI X C sub EX tg e kk xs)(hg:JG X C sub EX tg t)(hb:xR X C sub EX ss sxs)(hp:u7 (model X.prog X.w) X.A X.env X.xe:=by exact yu)(hc:X.calm=true:=by z_go)(hs:∀x,ft e X.env x=pure x:=by intro _;rfl):JS X C sub EX (.For tg e ss [] pos)<|.sV t kk xs sxs:=⟨Ai m hp hc hi.h hg.h hb.h hs⟩
theorem Af (m:bU C C)(nd:X.N.Nodup)(hi:JI X C sub EX (.Name n p) e kk xs)(hb:xR X C sub EX ss sxs)(hN:X.N[i]? = some n:=by z_go)(hx:X.env.scope.names.lookup n=some .local:=by z_go)(hp:u7 (model X.prog X.w) X.A X.env X.xe:=by exact yu)(hc:X.calm=true:=by z_go)(hs:∀x,ft e X.env x=pure x:=by intro _;rfl):JS X C sub EX (.For (.Name n p) e ss [] pos)<|.sV (.nm i) kk xs sxs:=⟨Ai m hp hc hi.h (X1<|uO nd hN (.inl hx)<|.inr hx) hb.h hs⟩
theorem Iw (m:bU C C)(hm:X.mg "range" = none)(ha:JA X C sub E [a] [x])(hg:X.env.kindOf "range" = some .globalImplicit:=by z_go)(hs:cb [a] X.env=[(false,eval a X.env)]:=by z_go): JI X C sub E tg (.Call (.Name "range" p) [a] [] pos) (some .range) [x]:=⟨Et m hg hm ha.h hs⟩
theorem Xo {cl:Nat}(m:bU C C):JS X C sub EF s<|.rais cl [.c<|.str<|W t]:=⟨Mc m λac st h=>by assumption⟩
end
variable {op:BoolOp}
section
variable {sub:Nat->Nat->Bool}{a c o:cy}{rest:List cy}{x z:Ex}{p p2:Pos}{n:Str}{s:Stmt}{bs:List Stmt}{sx1:Sx}
theorem an:JA X C sub E [] []:=⟨Qi⟩
theorem jl (hs:JA X C sub E es xs):JE X C sub E (.List es pos)<|.lst xs:=⟨Tw hs.h⟩
theorem aW {op:vA}(ha:JE X C sub E a x)(hb:JE X C sub E b y):JE X C sub E (.BinOp a (Mb op) b pos)<|.bin op x y:=⟨Pm ha.h hb.h⟩
theorem Br (ha:JE X C sub E a x):JE X C sub E (.UnaryOp .USub a pos)<|.neg x:=⟨Sr ha.h⟩
theorem Ul (ha:JE X C sub E a x):JE X C sub E (.UnaryOp .Not a pos)<|.not_ x:=⟨Sk ha.h⟩
theorem BS (ha:JE X C sub E a x):JE X C sub E (.BoolOp op [a] pos) x:=⟨Tv ha.h⟩
theorem uR (ha:JE X C sub E a x)(hb:JE X C sub E (.BoolOp .And (b::rest) pos) y):JE X C sub E (.BoolOp .And (a::b::rest) pos)<|.and_ x y:=⟨Sj ha.h hb.h⟩
theorem on:JO X C sub E none []:=⟨Hl⟩
theorem os (h:JE X C sub E e x):JO X C sub E (some e) [x]:=⟨Cs h.h⟩
theorem gH {lo hi:Option cy}{xl xh:List Ex}(ha:JE X C sub E a x)(hl:JO X C sub E lo xl)(hh:JO X C sub E hi xh):JE X C sub E (.Subscript a (.Slice lo hi none p2) pos)<|.sl x xl xh:=⟨Vq ha.h hl.h hh.h⟩
theorem mT (h:JT X C sub E e x):JT X C sub E (.UnaryOp .Not e pos)<|.not_ x:=⟨Mm h.h⟩
theorem jR (h:JW X C sub E e x):JT X C sub E e x:=⟨h.h.pt⟩
theorem jS (h:JT X C sub E e x):JW X C sub E (.BoolOp op [e] pos) x:=⟨Kt h.h⟩
theorem PU (m:bU C C)(ha:JT X C sub E a x)(hb:JW X C sub E (.BoolOp .And (b::rest) pos) y):JW X C sub E (.BoolOp .And (a::b::rest) pos)<|.and_ x y:=⟨Jj m ha.h hb.h⟩
theorem jQ (m:bU C C)(ha:JT X C sub E a x)(hb:JW X C sub E (.BoolOp .Or (b::rest) pos) y):JW X C sub E (.BoolOp .Or (a::b::rest) pos)<|.or_ x y:=⟨Te m ha.h hb.h⟩
theorem iv (h:JE X C sub E e x):JI X C sub E tg e none [x]:=⟨Oq h.h⟩
theorem qn:JQ X C sub E [] []:=⟨Ie⟩
theorem qc (h:JT X C sub E e x)(hs:JQ X C sub E es xs):JQ X C sub E (e::es)<|x::xs:=⟨Dr h.h hs.h⟩
theorem nn:WD X [] []:=⟨Nu⟩
theorem b1 (h:JN X tg 0):JB X tg true 1:=⟨h.h⟩
theorem bt {q:Nat}(h:WD X es is)(hi:is=b7 q:=by rfl)(hc:X.calm=true:=by z_go)(hn:(fy es X.env).length=q:=by z_go)(cM:(fy es X.env).findIdx? (·.1)=none:=by z_go):JB X (.Tuple es k pos) false q:=⟨by subst hi;exact VS hc h.h hn cM⟩
theorem c0:xR X C sub EX [] []:=⟨Bd⟩
theorem cc (h1:JS X C sub EX s sx1)(h2:xR X C sub EX ss sxs):xR X C sub EX (s::ss)<|sx1::sxs:=⟨Ob h1.h h2.h⟩
theorem cO (m:bU C C)(hc:JT X C sub EX c x)(ha:xR X C sub EX as ax)(hb:xR X C sub EX bs bx):JS X C sub EX (.If c as bs pos)<|.iff x ax bx:=⟨Vj m hc.h ha.h hb.h⟩
theorem bI (m:bU C C)(h:JE X C sub EX e x):JS X C sub EX (.Return (some e) pos)<|.ret x:=⟨Si m h.h⟩
end
section
variable {sub:Nat->Nat->Bool}{xe:Ex}{own cn:List Str}{one:Bool}{k:Option IK}
theorem Uu (m:bU C C)(S:iV X scope cn bH)(hi:JI X C sub EF tg iter k aD)(hg:∀fp s H Ca,JB (hJ X scope own cn fp s H Ca) tg one own.length)(hts:∀fp s H Ca,JQ (hJ X scope own cn fp s H Ca) C sub EF ifs iN)(he:∀fp s H Ca,JE (hJ X scope own cn fp s H Ca) C sub EF elt xe)(hc:X.calm=true:=by z_go)(lH:one=true->own.length=1:=by cbv)(hs:∀x,ft iter X.env x=pure x:=by intro _;rfl):JE X C sub EF (.ListComp elt [⟨tg,iter,ifs,0⟩] scope pos) (.comp own.length bH (b7 own.length) one k aD iN xe) :=⟨Km m S hc lH hi.h (λa b c d=>(hg a b c d).h) (λa b c d=>(hts a b c d).h) (λa b c d=>(he a b c d).h) hs⟩
theorem Uh {y:Str}{py spos:Pos}(m:bU C C)(nd:X.N.Nodup)(S:iV X scope cn bH)(hi:JI X C sub EF tg iter k aD)(hg:∀fp s H Ca,JB (hJ X scope own cn fp s H Ca) tg one own.length)(hts:∀fp s H Ca,JQ (hJ X scope own cn fp s H Ca) C sub EF ifs iN)(he:∀fp s H Ca,JE (hJ X scope own cn fp s H Ca) C sub EF elt xe)(hy:X.N[i]? = some y:=by z_go)(hx:X.env.scope.names.lookup y=some .local:=by z_go)(hsw:nq (.ListComp elt [⟨tg,iter,ifs,0⟩] scope pos) (some<|.Name y py) spos.line X.env=pure true:=by z_go)(hc:X.calm=true:=by z_go)(lH:one=true->own.length=1:=by cbv)(hs:∀x,ft iter X.env x=pure x:=by intro _;rfl):JS X C sub EF (.Assign [.Name y py] (.ListComp elt [⟨tg,iter,ifs,0⟩] scope pos) spos) (.asg (.nm i)<|.comp own.length bH (b7 own.length) one k aD iN xe) :=⟨Ky m S hc lH hi.h (λa b c d=>(hg a b c d).h) (λa b c d=>(hts a b c d).h) (λa b c d=>(he a b c d).h) nd hy (.inl hx) (.inr hx) hsw hs⟩
end
noncomputable def S8 (k:Option w6):Bool:=k==some .cell||k==some .free
noncomputable def S0 (names on:List<|Str×NameKind)(N cn:List Str)(bH:List Nat):Bool :=names.all (λy=>!(y.2 == .cell)&&(!(y.2 == .local)||names.lookup y.1==some .local)&&(!(y.2 == .free)||S8 (on.lookup y.1)))&&(cn.length==bH.length) &&(cn.zip bH).all λp=>names.lookup p.1==some .free&&N[p.2]? == some p.1&&S8 (on.lookup p.1)
theorem PL {k:Option w6}(h:S8 k=true):k=some .cell\/k=some .free:=by
 unfold S8 at h;rw[b9]at h;rcases h with h|h;·exact .inl<|by simp_all
 ·exact .inr<|by simp_all
theorem Ya {cn:List Str}{on:List<|Str×NameKind}{N:List Str}(h:S0 scope.names on N cn bH=true)(hE:X.env.scope.names=on:=by z_go)(hN:X.N=N:=by z_go)(hk:scope.kind=.function:=by z_go):iV X scope cn bH:=by
 unfold S0 at h;rw[ao,ao]at h;obtain⟨⟨h1,h2⟩,h3⟩:=h;have h1:=List.all_eq_true.mp h1;have hl:=by simpa using h2
 refine⟨hk,λy hy=>?_,λy hy e=>?_,λy hy e=>?_,hl,λj y e=>?_⟩;·have:=h1 y hy;intro z;rw[z]at this;simp at this
 ·have:=h1 y hy;simp![ao,b9]at this;rcases this.1.2 with q|q;·rw[e]at q;simp at q
  ·simpa using q
 ·have:=h1 y hy;simp![ao,b9]at this;rcases this.2 with q|q;·rw[e]at q;simp at q
  ·show X.env.scope.names.lookup y.1=_\/X.env.scope.names.lookup y.1=_;rw[hE];exact PL q
 ·obtain⟨hj,ej⟩:=List.getElem?_eq_some_iff.mp e;have hj':j<bH.length:=by lia
  have hm:(y,bH[j])∈cn.zip bH:=by rw[<-ej];exact List.mem_iff_getElem.mpr ⟨j,by simp;lia,by simp⟩
  have:=List.all_eq_true.mp h3 _ hm;simp![ao]at this;refine⟨by simpa using this.1.1,bH[j],br hj',by simp_all,?_⟩;show X.env.scope.names.lookup y=_\/X.env.scope.names.lookup y=_;rw[hE];exact PL this.2
end L3
namespace L3
theorem RH {k:Nat}{A:PySem.Around}(hr:L2.cK k A):A.units+180<AaE:=by have:=hr.un;lia
end L3
end
section
namespace PySem
open Sem (wp)
variable {fp wr:List Addr}{P:Nat->Value->Prop}{T:String}
section
variable {prog:bp}{w:dh}{A:c5}{s:aj}{R:Abs->aj->Prop}{I:Addr}{n:Nat}{St:Nat->Heap->Prop}
def yM (prog:bp)(w:dh)(I:Addr)(St:Nat->Heap->Prop):Prop:=∀(A:c5)(s:aj)(Q:Bool->aj->Prop)(E:Value->aj->Prop),St 0 s.heap->(∀b tk,Q b { s with toks:=tk })->wpAny (model prog w) A (u5<|.ref I) Q E s
theorem WY (W:Walks prog w A.in1 I fp wr n P St)(hn:n<=sizeLine)(hT:∀h,St 0 h->∃o,h.get? I=some o/\o.cls=.type T)(h2:(g7 T==g7 "list")=false)(h3:(g7 T==g7 "tuple")=false)(hint:yM prog w I St)(S:Addr)(res:Value)(ul:Nat)(cM:St 0 s.heap)(hSf:S∉fp)(hI:I∈fp)(hS:s.heap.get? S=some { cls:=.type "list", data:=.seq #[] ul })(hR:∀h' tk oE c',(∀b o,b∉S::wr->s.heap.get? b=some o->h'.get? b=some o)->h'.get? S=some { cls:=.type "list", dict:=none,data:=.seq oE c',slots:=#[] }->AaO P oE n->R (.ok<|.ret res) { s with heap:=h',toks:=tk }): wpAny (model prog w) A.in1 (qd (.ref S) (.ref I) res) (λfin s'=>match fin with|.done f=>R (.ok f) s'|.again c'=>c'.quiet=true/\qm (model prog w) A c' R s') (λe s'=>R (.error e) s') s:=by
 have hSI:S≠I:=λe=>hSf<|e▸hI;have key:∀(h:Heap)(dL tk:Nat),St 0 h->(∀b o,b≠S->s.heap.get? b=some o->h.get? b=some o)->h.get? S=some { cls:=.type "list", data:=.seq #[] dL } -> qm (model prog w) A (.builtin "list.extend.loop" ⟨[.ref S,.ref I,res],[]⟩) R { s with heap:=h,toks:=tk }:=by intro h dL tk zn hk wT;refine codeAny_extend_loopS W.toS hn S hSf res n 0 _ #[] dL rfl (cg _) zn wT (ItemsOf.nil _) λs' oE c' hm hS' hacc=>?_;rw[Moved.eq_with hm];exact hR s'.heap s'.toks oE c' (λb o hb e=>hm.heap b o hb<|hk b o (λz=>hb<|by rw[z];exact gk ..) e) hS' hacc
 unfold qd;refine ai<|xx (T:=T) (hT _ cM) ?_;have h1:wy (.ref S) (.ref I)=false:=by simp [wy,hSI]
 simp![h1,h2,h3,ek,aa,if_false];refine ai<|W.self 0 _ _ _ cM ?_;refine ai<|kr<|hint _ _ _ _ cM λb tk=>?_;have touch:∀{Q:Fin->aj->Prop}{E:Value->aj->Prop}{k:Unit->Sem Fin},(∀h' , St 0 h'->(∀b o,b≠S->s.heap.get? b=some o->h'.get? b=some o)->(∃dL,h'.get? S=some { cls:=.type "list", data:=.seq #[] dL })->wpAny (model prog w) A.in1 (k ()) Q E { s with heap:=h',toks:=tk }) -> wpAny (model prog w) A.in1 (rule "list.extend.makes-room" >>= λ_=>Builtin.List.listTouch (.ref S) >>= k) Q E { s with toks:=tk }:=λ{Q E k} hk=>by refine ai<|yg<|ai ?_;show wpAny _ A.in1 (Abm S (·.push .none) >>= λ_=>Abm S (·.pop)) _ _ _;refine ai<|ui hS rfl ?_;have ii:=dq (oo (·.push g6)) hS rfl;refine ui (hz:=by seq_fits) ii rfl ?_;have wn:=dq (oo (·.pop)) ii rfl;have oth:∀b o,b≠S->s.heap.get? b=some o->((s.heap.update S (oo (·.push g6))).update S (oo (·.pop))).get? b=some o :=λb o hb e=>(bq _ _<|fq hb).trans<|(bq _ _<|fq hb).trans e;exact hk _ (W.frame _ _ _ cM λb hb o e=>oth b o (λh=>hSf<|h▸hb) e) oth ⟨_,wn⟩
 refine jh (λ_=>?_) λ_=>a9 ⟨plainId_quiet Zf _,key _ ul _ cM (λb o _ e=>e) hS⟩;refine touch λh' a b ⟨dL,c⟩=>a9 ⟨plainId_quiet Zf _,key _ dL _ a b c⟩
theorem K6 (W:Walks prog w A.in1 I fp wr n P St)(hn:n<=sizeLine)(hT:∀h,St 0 h->∃o,h.get? I=some o/\o.cls=.type T)(h2:(g7 T==g7 "list")=false)(h3:(g7 T==g7 "tuple")=false)(hint:yM prog w I St)(S:Addr)(cM:St 0 s.heap)(hSf:S∉fp)(hI:I∈fp)(hS:s.heap.get? S=some { cls:=.type "list", data:=.seq #[] })(hR:∀h' tk oE c',(∀b o,b∉S::wr->s.heap.get? b=some o->h'.get? b=some o)->h'.get? S=some { cls:=.type "list", dict:=none,data:=.seq oE c',slots:=#[] }->AaO P oE n->R (.ok<|.ret .none) { s with heap:=h',toks:=tk }):wpAny (model prog w) A.in1 (Builtin.«list.__init__» ⟨[.ref S,.ref I],[]⟩) (λfin s'=>match fin with|.done f=>R (.ok f) s'|.again c'=>c'.quiet=true/\qm (model prog w) A c' R s') (λe s'=>R (.error e) s') s:=by refine ai ?_;refine ai<|wpAny_seqItems hS rfl<|a9 ?_;show wpAny _ A.in1 (Abm S (λ_=>#[]) >>= λ_=>letGo (#[]).toList.reverse >>= λ_=>qd (.ref S) (.ref I) .none) _ _ s;refine ai<|ui hS rfl ?_;have ii:=dq (oo λ_=>#[]) hS rfl;have oth:∀b o,b≠S->s.heap.get? b=some o->(s.heap.update S<|oo λ_=>#[]).get? b=some o :=λb o hb e=>(bq _ _<|fq hb).trans e;refine WY W hn hT h2 h3 hint S .none _ (W.frame _ _ _ cM λb hb o e=>oth b o (λh=>hSf<|h▸hb) e) hSf hI ii λh' tk oE c' hm hS' hacc=>?_;exact hR h' tk oE c' (λb o hb e=>hm b o hb<|oth b o λz=>hb<|by simp_all e) hS' hacc
end
section
variable {prog:bp}{w:dh}{A:c5}{E:Value->aj->Prop}{s:aj}{I:Addr}{n:Nat}{St:Nat->Heap->Prop}
theorem yV {Q:Value->aj->Prop}(W:Walks prog w A.in1.in1 I fp wr n P St)(hn:n<=sizeLine)(hT:∀h,St 0 h->∃o,h.get? I=some o/\o.cls=.type T)(h2:(g7 T==g7 "list")=false)(h3:(g7 T==g7 "tuple")=false)(hint:yM prog w I St)(cM:St 0 s.heap)(hfp:∀b∈fp,b<s.heap.objs.size)(hI:I∈fp)(hQ:∀h' tk oE c',(∀b o,b∉wr->s.heap.get? b=some o->h'.get? b=some o)->h'.get? s.heap.objs.size=some { cls:=.type "list", dict:=none,data:=.seq oE c',slots:=#[] }->AaO P oE n->Q (.ref s.heap.objs.size) { s with heap:=h',toks:=tk }): wpAny (model prog w) A (call (.type "list") [.ref I]) Q E s:=by
 have hSf:=λhm=>mr _<|hfp _ hm;refine callType_codes (Q₁:=λobj bn=>obj=.ref _/\bn = { s with heap:=s.heap.push _ }) F.called_list (F.typeCall_list_1 _) F.entry_list_init (code_list_new _ ⟨rfl,rfl⟩) λobj bn db=>?_;obtain⟨rfl,rfl⟩:=db;have hS:(s.heap.push { cls:=.type "list", data:=.seq #[] }).get? _=some _:=bo _ rfl;refine⟨⟨_,hS,rfl⟩,F.args_list_init_2 _ _,K6 W hn hT h2 h3 hint _ (W.frame _ _ _ cM λb _ o e=>aq _ e) hSf hI hS λh' tk oE c' hk hS' hacc=>?_⟩;refine⟨rfl,hQ h' tk oE c' (λb o hb e=>hk b o (λz=>?_)<|aq _ e) hS' hacc⟩;rcases List.mem_cons.mp z with z|z;·exact absurd (bc e)<|by simp_all
 ·exact hb z
end
end PySem
end
section
namespace PySem
namespace F
theorem SV:vi (.type "list_reverseiterator") "__len__" = pure none:=by rw[uj,p0];z_go
theorem YX:vi (.type "list_reverseiterator") "__length_hint__" = pure (some<|.builtin "list_reverseiterator.__length_hint__"):=by z_go
end F
section
variable {prog:bp}{w:dh}
theorem XX {I l:Addr}{items:Array Value}:yM prog w I λi h=>i<=items.size/\h.IsRevIter I l ((items.size:Int)-1-(i:Int))/\h.IsList l items:=λA s Q E cM hQ=>by have hT:=cM.2.1.typeIs;refine ai<|me hT F.SV ?_;refine ai<|me hT F.YX ?_;generalize hid:("list_reverseiterator.__length_hint__")=id0;wp_delta;rw[show splitId id0=some ("list_reverseiterator","__length_hint__")from by subst hid;x_go];subst hid;refine ai<|uc (T :="list_reverseiterator") (b:=true) hT (by z_go) ?_;exact a9<|hQ false s.toks
end
end PySem
end
section
namespace PySem
open PyProof.Rows
namespace F
theorem TL:vi (.type "tuple") "__reversed__" = pure none:=by rw[uj,p0];z_go
theorem N0:vi (.type "tuple") "__getitem__" = pure (some<|.builtin "tuple.__getitem__"):=by rw[uj,p0];z_go
theorem RJ:vi (.type "reversed") "__len__" = pure none:=by rw[uj,p0];z_go
theorem zT:Manifest.owners.lookup (String.ofList ['d','e','s','r','e','v','e','r'].reverse)=some Manifest.sig_reversed:=by z_go
theorem kI:Slot "reversed" "__next__" "reversed.__next__" :=.of (owner :="reversed") (n :="__next__") (by kernel_rfl) (by decide +kernel) (by decide +kernel) (by decide +kernel) (by first|exact .inl<|by decide|exact .inr<|by decide)<|rfl
theorem qM:Slot "reversed" "__length_hint__" "reversed.__length_hint__" :=.of (owner :="reversed") (n :="__length_hint__") (by kernel_rfl) (by decide +kernel) (by decide +kernel) (by decide +kernel) (by first|exact .inl<|by decide +kernel|exact .inr<|by decide +kernel)<|by kernel_rfl
theorem yD:Slot "reversed" "__iter__" "reversed.__iter__" :=.of (owner :="reversed") (n :="__iter__") (by kernel_rfl) (by decide +kernel) (by decide +kernel) (by decide +kernel) (by first|exact .inl<|by decide +kernel|exact .inr<|by decide)<|rfl
theorem vN:entryFor table "reversed.__next__" = some Builtin.«reversed.__next__»:=Aav<|by z_go
theorem GY:entryFor table "reversed.__length_hint__" = some Builtin.«reversed.__length_hint__»:=Aav<|by z_go
theorem tP (a:Value):Aa0 "reversed.__next__" ⟨[a],[]⟩:=by unfold Aa0;rw[Zn (n:=['_','_','t','x','e','n','_','_']) (by cbv) zT];z_go
theorem EN (a:Value):Aa0 "reversed.__length_hint__" ⟨[a],[]⟩:=by unfold Aa0;rw[Zn (n :="__length_hint__".toList.reverse) (by z_go) zT];z_go
theorem EW (a:Value):Aa0 "reversed.__iter__" ⟨[a],[]⟩:=by unfold Aa0;rw[Zn (n:=['_','_','r','e','t','i','_','_']) (by cbv) zT];z_go
theorem F5:entryFor table "reversed.__iter__" = some Builtin.«dict_keyiterator.__iter__» :=entryFor_alias (id' :="dict_keyiterator.__iter__") (by kernel_rfl) (by first|rfl|decide +kernel|(unfold String.splitOn;simp +decide [String.splitOnAux])) (by decide +kernel)<|by kernel_rfl
end F
end PySem
end
section
namespace PySem
open PyProof.Rows
variable {t:Addr}{i:Int}{items:Array Value}
section
variable {prog:bp}{w:dh}{A:c5}{E:Value->aj->Prop}{s:aj}
noncomputable def RX (t:Addr)(i:Int):Obj:={ cls:=.type "reversed", data:=.fields #[.ref t,rm i] }
def Heap.lG (h:Heap)(a t:Addr)(i:Int):Prop:=∃o,h.get? a=some o/\o.cls=.type "reversed" /\ o.data=.fields #[.ref t,rm i]
theorem Heap.lG.typeIs {a:Addr}(x:s.heap.lG a t i):s.TypeIs (.ref a) "reversed":=let⟨o,ho,hc,_⟩:=x;⟨o,ho,hc⟩
theorem Heap.lG.at {h h':Heap}{a:Addr}(x:h.lG a t i)(e:∀o,h.get? a=some o->h'.get? a=some o):h'.lG a t i:=let⟨o,ho,r⟩:=x;⟨o,e _ ho,r⟩
theorem zH {Q₁:Value->aj->Prop}(ht:IsTup s.heap t items)(oC:(items.size:Int)<2 ^ 63)(h:Q₁ (.ref s.heap.objs.size) { s with heap:=s.heap.push<|RX t<|(items.size:Int)-1,toks:=s.toks+1+1 }):qm (model prog w) A (.call (.builtin "reversed.__new__") ⟨[.type "reversed", .ref t],[]⟩) (wants Q₁ E) s:=by
 refine AaI ?_;show wpAny _ A.in1 (do xf "reversed.__new__" ⟨[.type "reversed", .ref t],[]⟩;again<|.builtin "reversed.__new__" ⟨[.type "reversed", .ref t],[]⟩) _ _ s;refine ai<|n9 (F.newCall_reversed_1 _)<|a9 ⟨plainId_quiet zx _,uk F.entry_reversed_new ?_⟩;rw[ug zx _];unfold Builtin.«reversed.__new__»;refine ai<|n9 (newClass_reversed _) ?_;try dsimp only
 refine ai<|n9 (a:=()) (by first|rfl|kernel_rfl) ?_;refine ai<|n9 (a:=()) (by first|rfl|kernel_rfl) ?_;try dsimp only
 refine ai<|me ht.typeIs F.TL ?_;try dsimp only
 refine ai ?_;wp_delta;refine ai<|uc (T :="tuple") (b:=false) ht.typeIs (by rw[isSubtype_type];kernel_rfl) ?_;refine ai<|me ht.typeIs F.N0 ?_;refine a9 ?_;refine ai<|Abi ht oC ?_;refine ai (m:=Builtin.SmallTypes.newRecord (.type "reversed") [jq t,rm<|items.size-1]) ?_;show wpAny _ _ (newObj (.type "reversed")<|.fields #[jq t,rm<|items.size-1]) _ _ _;exact mi<|a9 h
theorem BJ {it:Addr}{Q:Value->aj->Prop}(hit:s.heap.lG it t i)(h:Q (.ref it) s):wpAny (model prog w) A (zm<|.ref it) Q E s:=by refine wpAny_pyIter_slot hit.typeIs F.yD<|jx F.yD hit.typeIs F.F5 ?_<|F.EW _;exact a9 ⟨_,rfl,_,_,hit.typeIs,F.kI.lookup,h⟩
theorem uF {it:Addr}{i:Nat}{x:Value}{Q:Option Value->aj->Prop}(hit:s.heap.lG it t (i:Int))(ht:IsTup s.heap t items)(oC:(items.size:Int)<2 ^ 63)(hx:items[i]? = some x)(hQ:∀h',h'.lG it t ((i:Int)-1)->mf it s.heap h'->Q (some x) { s with heap:=h',toks:=s.toks+1 }):wpAny (model prog w) A (zl<|.ref it) Q E s:=by
 obtain⟨o,ho,hc,hd⟩:=id hit;have hi:i<items.size:=by
  rcases Nat.lt_or_ge i items.size with z|z;·exact z
  ·rw[Array.getElem?_eq_none z]at hx;cases hx
 refine ai<|wz<|ke (name:=om "__next__") hit.typeIs F.kI<|jx F.kI hit.typeIs F.vN ?_<|F.tP _;refine ai<|n9 (a:=(jq it,[])) rfl ?_;refine ai<|fj ho hd (x:=.ref t) rfl ?_;refine ai<|fj ho hd (x:=rm<|i) rfl ?_;refine ai<|me ht.typeIs F.N0 ?_;refine ai<|wpAny_mkInt ?_;refine ai<|wz<|PyProof.Rows.getItem_tuple (j:=i) ht (by omega) (by omega) (zp (by omega)<|by omega) hx ?_;refine ai<|fj ho hd (x:=rm<|i) rfl ?_;refine ai<|lq ho hd (by simp) ?_;first|refine a9 ⟨x,rfl,a9<|hQ _ ?_<|Zg ..⟩|refine ai<|a9<|a9 ⟨x,rfl,a9<|hQ _ ?_<|Zg ..⟩
 exact⟨_,dq _ ho<|fo<|di hd _,(Aag ..).trans hc,by rw[di hd];simp⟩
end
end PySem
end
section
namespace PySem
open PyProof.Rows
variable {E:Value->aj->Prop}
section
variable {prog:bp}{w:dh}{A:c5}{s:aj}
theorem uK {it t:Addr}{Q:Option Value->aj->Prop}(hh:A.handled=none)(hit:s.heap.lG it t<|-1)(hQ:∀h',AbE it s.heap h'->Q none { s with heap:=h' }):wpAny (model prog w) A (zl<|.ref it) Q E s:=by
 obtain⟨o,ho,hc,hd⟩:=id hit;unfold zl;refine ai<|wz<|ke (name:=om "__next__") hit.typeIs F.kI<|jx F.kI hit.typeIs F.vN ?_<|F.tP _;unfold Builtin.«reversed.__next__»;refine ai<|n9 (a:=(jq it,[])) rfl ?_;try dsimp only
 refine ai<|fj ho hd (x:=.ref t) rfl ?_;refine ai<|fj ho hd (x:=rm<|-1) rfl ?_;show wpAny _ _ (if(-1:Int)<0 then _ else _) _ _ s;rw[if_pos<|by decide];refine ai<|yg ?_;refine ai ?_;wp_delta;have ho2:=dq (j8 (·.setIfInBounds 1<|rm<|-1)) ho<|fo<|di hd _;refine ai<|lq ho hd (by simp) ?_;refine lq ho2 (di hd _) (by simp) ?_;first|show wpAny _ _ (newExc (.type "StopIteration") [] >>= _) _ _ _|(refine ai ?_;show wpAny _ _ (newExc (.type "StopIteration") [] >>= _) _ _ _)
 refine ai ?_;simp only[newExc,newTuple];refine ai (mi ?_<|by size_fits);refine ai (m:=firstArgMember _ _)<|n9 (a:=g6) (by first|rfl|(simp only[firstArgMember];rfl)) ?_;refine mi ?_ (by size_fits);simp only[raiseNew];refine ai<|wpAny_handled ?_;first|rw[show A.in1.handled=none from hh]|rw[hh]
 refine ai<|a9<|wpAny_throw ?_;refine ai<|uc (T :="StopIteration") (b:=true) ⟨_,bo _ rfl,rfl⟩ isSubtype_stop ?_;refine a9<|hQ _ ?_;have e1:AbE it s.heap ((s.heap.update it (j8 (·.setIfInBounds 1<|rm<|-1))).update it (j8 (·.setIfInBounds 0 g6))):=λb u hb e =>(bq _ _<|fq hb).trans<|(bq _ _<|fq hb).trans e;exact(e1.push _).push _
end
theorem Walks.Oi {prog:bp}{w:dh}{A:c5}(hh:A.handled=none)(I l:Addr)(hne:l≠I)(items:Array Value)(oC:(items.size:Int)<2 ^ 63): Walks prog w A I [I,l] [I] items.size (λi v=>items[items.size-1-i]? = some v) λi h=>i<=items.size/\h.lG I l ((items.size:Int)-1-(i:Int))/\IsTup h l items where
 sub:=λb hb=>by simp_all
 frame:=λ_ _ _ x hk=>⟨x.1,x.2.1.at λo e=>hk I (by simp) o e,let⟨o,ho,r⟩:=x.2.2;⟨o,hk l (by simp) o ho,r⟩⟩;item:=λi s Q E hi x hQ=>by
  have e:(items.size:Int)-1-i=(items.size-1-i:Nat):=by lia
  have hit:=x.2.1;rw[e]at hit;have hx:items[items.size-1-i]? = some (items[items.size-1-i]'(by lia)):=v8 (by lia);refine uF hit x.2.2 oC hx λh' hit' eZ=>?_;have e2:(items.size-1-i:Nat)-1=items.size-1-(i+1:Int):=by lia
  rw[e2]at hit';exact hQ _ h' _ hx ⟨hi,hit',let⟨o,ho,r⟩:=x.2.2;⟨o,(eZ.2 l hne).trans ho,r⟩⟩ λb o hb eo=>eZ.extBut b o λh=>hb<|by simp [h] eo
 done:=λs Q E x hQ=>by
  have e:(items.size:Int)-1-items.size = -1:=by lia
  have hit:=x.2.1;rw[e]at hit;exact uK hh hit λh' he'=>hQ h' s.toks λb o hb eo=>he' b o λh=>hb<|by simp [h] eo
 self:=λ_ _ _ _ x hQ=>BJ x.2.1 hQ
variable {items:Array Value}
section
variable {prog:bp}{w:dh}{A:c5}{s:aj}
theorem F.zY:Slot "reversed" "__init__" "object.__init__" :=.of (owner :="object") (n :="__init__") (by kernel_rfl) (by decide +kernel) (by decide +kernel) (by decide +kernel) (by first|exact .inl<|by decide +kernel|exact .inr<|by decide +kernel)<|rfl
theorem F.nO:TypeCalled "reversed" "reversed.__new__" "object.__init__" :=⟨by x_go,by x_go,⟨_,_,F.mro_reversed⟩,F.made_reversed,by x_go,rfl,F.zY⟩
theorem BL {t:Addr}{Q:Value->aj->Prop}(ht:IsTup s.heap t items)(oC:(items.size:Int)<2 ^ 63)(h:Q (.ref s.heap.objs.size) { s with heap:=s.heap.push<|RX t<|(items.size:Int)-1,toks:=s.toks+1+1 }):wpAny (model prog w) A (call (.type "reversed") [.ref t]) Q E s:=by refine callType_codes (Q₁:=λobj bn=>bn.TypeIs obj _/\Q obj bn) F.nO (F.typeCall_reversed_1 _) F.entry_object_init (zH ht oC ⟨⟨_,bo _ rfl,rfl⟩,h⟩) λobj bn hq=>⟨hq.1,F.args_object_init_2 obj _,?_⟩;exact object_init_meets F.nO.init.lookup F.nO.made (by cbv) prog w _ _ bn ⟨hq.1,rfl,hq.2⟩
theorem X9 {I l:Addr}(oC:items.size<=sizeLine):yM prog w I λi h=>i<=items.size/\h.lG I l ((items.size:Int)-1-(i:Int))/\IsTup h l items:=λA s Q E cM hQ=>by
 have hit:=cM.2.1;have hT:=hit.typeIs;obtain⟨o,ho,hc,hd⟩:=id hit;have hf:(items.size:Int)<2 ^ 63:=by have:=oC;rw[ku]at this;lia
 unfold u5;refine ai<|me hT F.RJ ?_;refine jh λjP=>absurd jP<|by cbv λ_=>?_;refine jh λjP=>absurd jP<|by cbv λ_=>?_;refine ai<|me hT F.qM.lookup ?_;generalize hid:("reversed.__length_hint__" : String)=id0;wp_delta;rw[show splitId id0=some ("reversed","__length_hint__")from by subst hid;x_go];subst hid;refine ai<|uc (T :="reversed") (b:=true) hT (by rw[isSubtype_type];z_go) ?_;refine jh λjP=>absurd jP<|by cbv λ_=>?_;refine jh λjP=>absurd jP<|by x_go λ_=>?_;refine ai<|yg ?_;refine ai<|n9 (F.qM.bind _) ?_;refine ai<|wz<|jx F.qM hT F.GY ?_<|F.EN _;unfold Builtin.«reversed.__length_hint__»;refine ai<|n9 (a:=jq I) rfl ?_;refine ai<|fj ho hd (x:=.ref l) rfl ?_;refine jh λjP=>absurd jP<|by simp λ_=>?_;refine ai<|Abi cM.2.2 hf ?_;refine ai (m:=asInt? _)<|a9 ?_;refine ai (m:=field (.ref I) 1)<|fj ho hd (x:=rm<|(items.size:Int)-1-((0:Nat):Int)) rfl ?_;show wpAny _ _ (if(items.size:Int)<((items.size:Int)-1-((0:Nat):Int))+1 then _ else _) _ _ _;rw[if_neg<|by lia];refine ai<|wpAny_mkInt<|a9 ⟨_,rfl,?_⟩;refine ai (m:=asInt? _)<|a9 ?_;dsimp only;have e0:(items.size:Int)-1-((0:Nat):Int)+1=items.size:=by lia
 rw[e0];have hfi:Builtin.List.listFitsIndex (items.size:Int)=true:=fitsIndex_both (by lia) hf;have htl:gb ((items.size:Int).toNat)=false:=by simp [gb];exact oC
 rw[hfi,htl];refine jh λjP=>absurd jP<|by cbv λ_=>?_;refine jh λjP=>absurd jP<|by lia λ_=>?_;refine jh λjP=>absurd jP<|by cbv λ_=>a9<|hQ _ _
end
end PySem
end
section
namespace L3
open PySem PySem.Spec PyProof.Rows L2
variable {aD:List Value}
theorem ZR {X:Cx}{pz:List<|Addr×Obj}{σ:L2.St}{H:Hp}{s:aj}{h':Heap}{t':Nat}{it:Addr}{ys:List V}{n:Nat}(I:Inv X pz σ H s)(f:nR X pz H it)(k:∀b o,b≠it->s.heap.get? b=some o->h'.get? b=some o)(new:h'.get? s.heap.objs.size=some { cls:=.type "list", data:=.seq aD.toArray n })(hv:aS ys aD)(hz:ys.length<=sizeLine):Inv X pz σ (upd H s.heap.objs.size<|.lst ys) { s with heap:=h',toks:=t' }:=by
 have hS:=I.fresh;have neS:∀b o,s.heap.get? b=some o->b≠s.heap.objs.size:=λb o e=>cj<|bc e;have tr:∀b u,H b=some u->b≠s.heap.objs.size:=λb u e=>dF e hS;obtain⟨f0,f1,f2,f3,f4,f5⟩:=f;refine I.step (g':=s.gens) (d':=s.drawn) (ch:=[it]) (λb hb=>?_) (λb o _ _ hc e _=>k b o λz=>hc<|by simp [z] e) (λb o _ _ hc e _=>⟨o.slots,k b o λz=>hc<|by simp [z] e⟩) (λb o _ e n=>by rw[aY<|neS b o e];exact n) (λb o hc e=>⟨o,k b o λz=>hc<|by simp [z] e⟩) (λb xs e=>by rw[aY<|tr b _ e];exact e) (λb o u e=>by rw[aY<|tr b _ e];exact e) (λb ps e=>⟨#[],by rw[aY<|tr b _ e,e];simp⟩) (λm hm=>?_) (λb u e=>?_) I.bare
 ·have e:=by simpa using hb
  subst e;exact⟨f3,f1,f4,f5⟩
 ·obtain⟨o,es,ep,ho,r⟩:=hm;exact⟨o,es,ep,k _ o (fq f1) ho,r⟩
 ·by_cases hb:b=s.heap.objs.size;·subst hb;rw[dX]at e;cases e;exact⟨hz,aD,n,hv,new⟩
  ·rw[aY hb]at e;refine(I.bL b u e).qQ (λc v hc q=>k c v ?_ q) (λc q=>by rw[aY<|tr c _ q];exact q) λc xs q=>by rw[aY<|tr c _ q];exact q
   rcases hc with z|z;·rw[z];exact λy=>by simp_all
   ·exact λy=>by simp_all
theorem XD {acc:Array Value}(h:AaO (λi v=>aD.toArray[aD.toArray.size-1-i]? = some v) acc aD.toArray.size):acc=aD.reverse.toArray:=by
 obtain⟨h1,h2⟩:=h;apply Array.ext;·rw[h1];simp
 ·intro i hi hi';have:aD.toArray[aD.toArray.size-1-i]? = some _:=h2 i _<|v8 hi;have e:aD.toArray[aD.toArray.size-1-i]? = some aD.reverse.toArray[i]:=by simp
  rw[e]at this;exact dv this.symm
theorem aS.reverse:∀{vs:List V}{us:List Value},aS vs us->aS vs.reverse us.reverse|_,_,.nil=>.nil|_,_,.cons h t=>by simp![mj];exact(aS.reverse t).append<|.cons h .nil
section
variable {X:Cx}{C:aU}{sub:Nat->Nat->Bool}{E:XK}{a b c e o tg:cy}{es:List cy}{x y z:Ex}{xs:List Ex}{p p2 pos pos2:Pos}{kk:IK}
theorem Rq (hm:X.mg "list" = none)(hm2:X.mg "reversed" = none)(hc:X.calm=true)(ha:PA X [a]<|gY X.K<|bB C sub E [x])(hg:X.env.kindOf "list" = some .globalImplicit:=by z_go)(hg2:X.env.kindOf "reversed" = some .globalImplicit:=by z_go)(he:cb [.Call (.Name "reversed" p2) [a] [] pos2] X.env=(false,eval (.Call (.Name "reversed" p2) [a] [] pos2) X.env)::cb [] X.env:=by z_go)(cW:(jr pos<|cb [] X.env).any (·.1)=false:=by z_go)(he2:cb [a] X.env=(false,eval a X.env)::cb [] X.env:=by z_go)(hpl2:(jr pos2<|cb [] X.env).any (·.1)=false:=by z_go):PE X (.Call (.Name "list" p) [.Call (.Name "reversed" p2) [a] [] pos2] [] pos)<|bW X.K<|aI C sub E<|.bit .list .rev [x]:=by intro pz s σ H Q I ⟨ac,st,R,r,ok,q,hq⟩;refine fz (qF I hg hm FO ?_ (by cbv)<|by cbv);refine i5 ?_ he cW;rw[he];show wpAny _ _ (AaM<|(false,eval (.Call (.Name "reversed" p2) [a] [] pos2) X.env)::jr pos (cb [] X.env)) _ _ s;refine vh ?_;refine fz (qF I hg2 hm2 OG ?_ (by cbv)<|by cbv);refine i5 (bA (ha pos2 pz s σ H _ I ⟨ac,st,_,r,ok,q,λvs H' z=>z⟩) λus s1 ⟨vs,H1,I1,rv,ds,aC,dU,aR,rs,q1⟩=>?_) he2 hpl2;match ds,rs,q1 with
 |[d],rs,q1 =>
  obtain⟨v,rfl,rd⟩:=rs.one;obtain⟨u,rfl,ru⟩:=vals1 rv;have q1:dG d aC λas xs=>fW xs.reverse aC R:=q1;obtain⟨l,ws,as,ys,rfl,sa,g,q1⟩:=mU aR rd q1;cases ru;have hh:X.A.handled=none:=I1.ok.hd hc;have nil:∀{Q':List Value->aj->Prop}{s':aj},Q' [] s'->wpAny (model X.prog X.w) X.A (AaM<|jr pos<|cb [] X.env) Q' X.xe s':=λh=>we h;have fin:∀(aD:List Value)(s2:aj)(h':Heap)(tk:Nat)(acc:Array Value)(cc:Nat),aS ws aD->ws.length<=sizeLine->Inv X pz σ H1 s2->nR X pz H1 s1.heap.objs.size->(∀b o,b∉[s1.heap.objs.size]->s2.heap.get? b=some o->h'.get? b=some o) -> h'.get? s2.heap.objs.size=some { cls:=.type "list", dict:=none,data:=.seq acc cc,slots:=#[] }->AaO (λi v=>aD.toArray[aD.toArray.size-1-i]? = some v) acc aD.toArray.size->EP X pz σ Q (.ref s2.heap.objs.size) { s2 with heap:=h',toks:=tk }:=by intro aD s2 h' tk acc cc hv hz I2 f2 k2 hS hacc;have ea:=XD hacc;subst ea;refine⟨.ref s2.heap.objs.size,_,ZR I2 f2 (λb o hb e=>k2 b o (by simpa using hb) e) hS (aS.reverse hv)<|by simpa using hz,rfl,hq _ _<|.after dU ?_⟩;exact .fW aR g.reverse I2.fresh q1.2
  rcases sa with sa|sa
  ·obtain⟨aD,r1,pl,hz⟩:=I1.list sa;have hl:=pl.isList;have oO:l<s1.heap.objs.size:=by obtain⟨_,e,_⟩:=hl;exact bc e
   have hzz:aD.toArray.size<=sizeLine:=by simp;rw[<-r1.length];exact hz
   refine call_reversed_list hl<|nil ?_;have I2:Inv X pz σ H1 { s1 with heap:=s1.heap.push (revObj l<|(aD.toArray.size:Int)-1) }:=I1.kept (t':=s1.toks) λb o e=>aq _ e;have W:=λA hA=>Walks.listRev (prog:=X.prog) (w:=X.w) (A:=A) hA s1.heap.objs.size l (cj oO) aD.toArray;refine yV (W _ hh) hzz (λh st=>let⟨o,ho,hcl,_⟩:=st.2.1;⟨o,ho,hcl⟩) (by cbv) (by cbv) XX ⟨Nat.zero_le _,⟨_,bo _ rfl,rfl,by simp [revObj]⟩,hl.push _⟩ (λb hb=>?_) (by simp) λh' tk acc cc k hS hacc=>?_
   ·show b<(s1.heap.push _).objs.size;rw[lh];rcases List.mem_cons.mp hb with rfl|hb;·exact ju _
    ·rcases List.mem_cons.mp hb with rfl|hb;·exact mq oO
     ·cases hb
   ·exact fin aD _ h' tk acc cc r1 hz I2 (I1.RV (av _) I1.fresh) k hS hacc
  ·obtain⟨aD,r1,pl,hz⟩:=I1.tuple sa;have oO:l<s1.heap.objs.size:=by obtain⟨_,e,_⟩:=pl;exact bc e
   have hzz:aD.toArray.size<=sizeLine:=by simp;rw[<-r1.length];exact hz
   have oC:(aD.toArray.size:Int)<2 ^ 63:=by have:=hzz;rw[ku]at this;lia
   refine BL pl oC<|nil ?_;have I2:Inv X pz σ H1 { s1 with heap:=s1.heap.push<|RX l<|aD.toArray.size-1,toks:=s1.toks+1+1 }:=I1.kept (t':=s1.toks+1+1) λb o e=>aq _ e;have W:=λA hA=>Walks.Oi (prog:=X.prog) (w:=X.w) (A:=A) hA s1.heap.objs.size l (cj oO) aD.toArray oC;refine yV (W _ hh) hzz (λh st=>let⟨o,ho,hcl,_⟩:=st.2.1;⟨o,ho,hcl⟩) (by cbv) (by cbv) (X9 hzz) ⟨Nat.zero_le _,⟨_,bo _ rfl,rfl,by simp [RX]⟩,let⟨o,ho,r⟩:=pl;⟨o,aq _ ho,r⟩⟩ (λb hb=>?_) (by simp) λh' tk acc cc k hS hacc=>?_
   ·rw[lh];rcases List.mem_cons.mp hb with rfl|hb;·exact ju _
    ·rcases List.mem_cons.mp hb with rfl|hb;·exact mq oO
     ·cases hb
   ·exact fin aD _ h' tk acc cc r1 hz I2 (I1.RV (av _) I1.fresh) k hS hacc
theorem Uj (hm:X.mg "list" = none)(hm2:X.mg "reversed" = none)(ha:JA X C sub E [a] [x])(hc:X.calm=true:=by z_go)(hg:X.env.kindOf "list" = some .globalImplicit:=by z_go)(hg2:X.env.kindOf "reversed" = some .globalImplicit:=by z_go)(he:cb [.Call (.Name "reversed" p2) [a] [] pos2] X.env=(false,eval (.Call (.Name "reversed" p2) [a] [] pos2) X.env)::cb [] X.env:=by z_go)(cW:(jr pos<|cb [] X.env).any (·.1)=false:=by z_go)(he2:cb [a] X.env=(false,eval a X.env)::cb [] X.env:=by z_go)(hpl2:(jr pos2<|cb [] X.env).any (·.1)=false:=by z_go):JE X C sub E (.Call (.Name "list" p) [.Call (.Name "reversed" p2) [a] [] pos2] [] pos)<|.bit .list .rev [x]:=⟨Rq hm hm2 hc ha.h hg hg2 he cW he2 hpl2⟩
end
theorem Jp {K:ae}{h:Heap}{mg:Str->Option Value}(X:K.In h)(G:h.Ns cq mg){n:Str}{i:Int}{t:Tok}(a:f9 K cq n=some (some<|.int i t)):GC K mg n<|.int i:=⟨_,.int i,my X G a,⟨t,rfl⟩,λ_=>.int i⟩
theorem Oj {K:ae}{h:Heap}{mg:Str->Option Value}(X:K.In h)(G:h.Ns cq mg){n:Str}{x:Str}{w:List Nat}{t:Tok}(a:f9 K cq n=some (some<|.str x t))(e:x=⟨w.toArray⟩):GC K mg n<|.str w:=⟨_,.str x,my X G a,⟨t,rfl⟩,λ_=>by rw[e];exact .str w⟩
noncomputable def SS:D->Value->Bool|.non,.none=>true|.bl b,.bool c=>b==c|.int i,.int j _=>i==j|.str w,.str x _=>w==x.cps.toList|_,_=>false
noncomputable def K2:List D->List Value->Bool|[],[]=>true|d::ds,u::us=>SS d u&&K2 ds us|_,_=>false
noncomputable def Aj:D->V|.bl b=>.bl b|.int i=>.int i|.str w=>.str ⟨w.toArray⟩|_=>.non
set_option tactic.hygienic true in
theorem ZQ {K:ae}{H:Hp}{d:D}{u:Value}(h:SS d u=true):L2.RelV (Aj d) u/\Rep K H d (Aj d):=by
 unfold SS at h;split at h;·exact⟨rfl,.non⟩
 ·exact⟨by rw[eq_of_beq h];rfl,.bl _⟩
 ·exact⟨⟨_,by rw[eq_of_beq h]⟩,.int _⟩
 ·rename_i w x t;exact⟨⟨t,by simp_all⟩,.str w⟩
 ·cases h
theorem M1 {K:ae}{H:Hp}:∀{ds:List D}{us:List Value},K2 ds us=true->aS (ds.map Aj) us/\aM K H ds (ds.map Aj)|[],[],_=>⟨.nil,.nil⟩|d::ds,u::us,h=>by simp![K2,ao]at h;have r:=ZQ (K:=K) (H:=H) h.1;have s:=M1 (K:=K) (H:=H) h.2;exact⟨.cons r.1 s.1,.cons r.2 s.2⟩|[],_::_,h=>by cases h|_::_,[],h=>by cases h
theorem Hx {K:ae}{h:Heap}{mg:Str->Option Value}(X:K.In h)(G:h.Ns cq mg){n:Str}{ds:List D}{p:Addr}{aD:Array Value}{k:Nat}{sl:Array<|Option Value}(a:f9 K cq n=some (some<|.ref p))(l:K.lookup p=some ⟨.type "tuple", none,.seq aD k,sl⟩)(f:K2 ds aD.toList=true)(z:Nat.ble aD.size 1000=true):GC K mg n<|.tup ds:=by refine⟨_,.ref p,my X G a,rfl,λH=>?_⟩;have s:=M1 (K:=K) (H:=H) f;exact .tup (.inr ⟨_,aD,k,l,rfl,rfl,rfl,xo<|UI<|Nat.le_of_ble_eq_true z,s.1⟩) s.2
noncomputable def Nc:D->AaW|.bl b=>.bool b|.int i=>.int i|.str w=>.str ⟨w.toArray⟩|_=>.none
noncomputable def Uw:D->Bool|.non=>true|.bl _=>true|.int _=>true|.str _=>true|_=>false
noncomputable def AR:List D->List D->List (Str×PyData)|.str w::ks,v::vs=>(⟨w.toArray⟩,Nc v)::AR ks vs|_,_=>[]
noncomputable def Aq:List D->List D->Bool|[],[]=>true|.str _::ks,v::vs=>Uw v&&Aq ks vs|_,_=>false
theorem Kb {v:D}(h:Uw v=true):rD (Nc v)=v/\kK (Nc v)=true:=by cases v<;>first|exact⟨rfl,rfl⟩|cases h
theorem VE:∀{ks vs:List D},Aq ks vs=true->((AR ks vs).all λp=>kK p.2)=true/\ks=(AR ks vs).map (λp=>.str p.1.cps.toList)/\vs=(AR ks vs).map λp=>rD p.2
 |[],[],_=>⟨rfl,rfl,rfl⟩|.str w::ks,v::vs,h=>by
  simp![Aq,ao]at h;obtain⟨a,b,c⟩:=VE h.2;obtain⟨d,e⟩:=Kb h.1;refine⟨?_,?_,?_⟩;·simp![AR,fm,e,a,fu]
  ·simp![AR,aw];rw[<-b]
  ·simp![AR,aw,d];rw[<-c]|[],_::_,h=>by cases h|.str _::_,[],h=>by cases h|.non::_,_,h=>by cases h|.bl _::_,_,h=>by cases h|.int _::_,_,h=>by cases h|.tup _::_,_,h=>by cases h|.ref _::_,_,h=>by cases h|.cF _ _::_,_,h=>by cases h|.bR _::_,_,h=>by cases h|.exc _::_,_,h=>by cases h
theorem Ny {K:ae}{h:Heap}{mg:Str->Option Value}(X:K.In h)(G:h.Ns cq mg){n:Str}{ks vs:List D}{p:Addr}{es:Array DictEntry}{ep:Nat}(a:f9 K cq n=some (some<|.ref p))(l:K.lookup p=some ⟨.type "dict", none,.dict es ep,#[]⟩)(f:(KTD.rowsLook wu es.toList (AR ks vs)&&Aq ks vs && !(p==xm))=true):GC K mg n<|.cF ks vs:=by simp![ao]at f;obtain⟨⟨f1,f2⟩,f3⟩:=f;obtain⟨a1,a2,a3⟩:=VE f2;refine⟨_,.ref p,my X G a,rfl,λH=>.cF ⟨_,?_,a1,a2,a3⟩⟩;simp![zr,l,f1,f3];rfl
end L3
end
section
namespace L3
open PySem PySem.Spec PyProof.Rows L2 PySem.SeqAt
noncomputable def uX (val:Nat->Str):Nat->Nat|0=>0|i+1=>if((b7 i).map val).any (·== val i)then uX val i else uX val i+1
theorem V6 (val:Nat->Str):∀i,uX val i<=i|0=>av _|i+1=>by have:=V6 val i;unfold uX;split<;>lia
section
variable {prog:bp}{w:dh}{A:c5}{R:Abs->aj->Prop}{I:Addr}{fp wr:List Addr}{G:Array Zy->Array Zy->Prop}{n:Nat}{P:Nat->Value->Prop}{St:Nat->aj->Prop}
abbrev qY (prog:bp)(w:dh)(val:Nat->Str)(S:Addr)(i:Nat)(h:Heap):Prop:=h.SetOf (strKind prog w) S (λk=>((b7 i).map val).any (·== k))<|uX val i
theorem OA {val:Nat->Str}{S:Addr}{i:Nat}{h:Heap}(x:h.SetOf (strKind prog w) S (λk'=>((b7 i).map val).any (·== k')||decide (k'=val i)) (if((b7 i).map val).any (·== val i)then uX val i else uX val i+1)):qY prog w val S (i+1) h:=by
 refine SetOf_congr x (λk=>?_) rfl;rw[List.range_succ,eu,yv];congr 1;simp![aw,ow,i7,tj,ek];by_cases e:k=val i;·subst e;simp
 ·rw[decide_eq_false e];symm;exact beq_eq_false_iff_ne.mpr λz=>e z.symm
theorem YN (W:WalksS prog w A.in1 I fp wr G n P St)(S:Addr)(hSf:S∉fp)(val:Nat->Str)(hval:∀i v,P i v->∃t,v=.str (val i) t)(hb:n+1<xg):∀(k i:Nat)(s:aj),n-i=k->i<=n->St i s->qY prog w val S i s.heap->(∀s',Moved (S::wr) G s s'->qY prog w val S n s'.heap->R (.ok<|.ret .none) s') -> qm (model prog w) A (.builtin "set.update.loop" ⟨[.ref S,.ref I],[]⟩) R s:=by
 have hSw:S∉wr:=λh=>hSf<|W.sub _ h;have hsub:∀b∈wr,b∈S::wr:=λb hb=>fg _ hb
 have keep:∀{i:Nat}{s s':aj},qY prog w val S i s.heap->Moved wr G s s'->qY prog w val S i s'.heap:=λ⟨o,es,ep,t,ho,rest⟩ hm=>⟨o,es,ep,t,hm.heap S _ hSw ho,rest⟩;intro k;induction k with|zero =>
 intro i s hk hi cM hS hR;obtain rfl:i=n:=by lia
 refine uk qv ?_;rw[ug kj _];show wpAny _ A.in1 (zl (.ref I) >>= _) _ _ s;refine ai<|W.done s _ _ cM λs' hm=>?_;show wpAny _ A.in1 (ret g6) _ _ s';exact a9<|hR s' (hm.mono hsub)<|keep hS hm|succ k ih =>
 intro i s hk hi cM hS hR;have oO:i<n:=by lia
 refine uk qv ?_;rw[ug kj _];show wpAny _ A.in1 (zl (.ref I) >>= _) _ _ s;refine ai<|W.item i s _ _ oO cM λv s' hP hst' hm=>?_;obtain⟨t,rfl⟩:=hval i v hP;show wpAny _ A.in1 (jm [Abg (val i) t] (setAdd S<|.str (val i) t) >>= _) _ _ s';refine ai<|kr ?_;unfold setAdd;refine kr<|ai<|(strKind prog w).pyHash (k:=val i) (strKind_is _ _ _ _) ?_;refine wpAny_setAddHashed_of (knd:=strKind prog w) (s:={ s' with toks:=s'.toks+1 }) (strKind_is _ _ _ _) rfl (show qY prog w val S i s'.heap from keep hS hm) (by have:=V6 val i;lia) λh' hsb hS2=>?_;refine a9 ⟨plainId_quiet kj _,ih (i+1) _ (by lia) oO (W.frame _ s' _ _ hst' (zo _) λb hb o e=>?_) (OA hS2) λs'' hm'' hS''=>?_⟩;·rw[hsb.2 b λh=>hSf<|by rw[<-h];exact hb];exact e
 ·refine hR s'' (Moved.trans W.gtrans ((hm.mono hsub).then_heap (zo _) λb o hb e=>?_) hm'') hS'';rw[hsb.2 b λh=>hb<|by rw[h];exact gk];exact e
end
variable {items:Array Value}
section
variable {prog:bp}{w:dh}{A:c5}{E:Value->aj->Prop}{s:aj}
noncomputable abbrev iE (led:Bool):Obj:={ cls:=.type "set", dict:=none,data:=.set #[] 0 (.fresh 0 0 led) }
theorem G7 {l:Addr}{val:Nat->Str}{led:Bool}{Q:PySem.Fin->aj->Prop}(hh:A.handled=none)(hl:s.heap.IsTuple l items)(hv:∀(i:Nat)(v:Value),items[i]? = some v->∃t,v=.str (val i) t)(hb:items.size+1<xg)(h:∀(h':Heap)(tk:Nat),qY prog w val s.heap.objs.size items.size h'->(∀b o,s.heap.get? b=some o->h'.get? b=some o)->Q (.done<|.ret .none) { s with heap:=h',toks:=tk }): wpAny (model prog w) A (Builtin.«set.__init__» ⟨[.ref s.heap.objs.size,.ref l],[]⟩) Q E { s with heap:=s.heap.push (iE led) }:=by
 obtain⟨ol,hol,hcl,nl,hdl⟩:=hl;obtain⟨ocls,odict,odata,oslots⟩:=ol;simp only at hcl hdl;subst hcl;subst hdl;have hS:(s.heap.push<|iE led).get? s.heap.objs.size=some (iE led):=bo _ rfl;have hT:Abb { s with heap:=s.heap.push (iE led) } (.ref s.heap.objs.size) "set":=⟨_,hS,rfl⟩;have hol':(s.heap.push<|iE led).get? l=some { cls:=.type "tuple", dict:=odict,data:=.seq items nl,slots:=oslots }:=aq _ hol;have hsls:=PySem.F.sub_tuple_set;have hslf:=PySem.F.sub_tuple_frozenset;have hne:(g7 "tuple" == g7 "dict")=false:=by cbv
 have hl1:(s.heap.push<|iE led).IsTuple l items:=⟨_,hol',rfl,nl,rfl⟩;unfold Builtin.«set.__init__» noKeywords Builtin.Frozenset.updateFrom;generalize hPI:zm=PI;wp_walk;subst hPI;refine vo hl1 ?_;refine ai<|wpAny_runValue ?_;have hlS:l<s.heap.objs.size:=bc hol;have hh3:A.in1.handled=none:=by simp [hh]
 have oB:(s.heap.push<|iE led).objs.size=s.heap.objs.size+1:=lh ..;have hneI:l≠(s.heap.push<|iE led).objs.size:=by rw[oB];exact cj<|mq hlS
 have hSf:s.heap.objs.size∉[(s.heap.push<|iE led).objs.size,l]:=by simp![ba,bj,or_false,not_or];exact⟨by rw[oB];exact cj<|ju _,xq hlS⟩
 refine YN ((AbB hh3 _ l hneI items).toS) s.heap.objs.size hSf val hv hb (items.size-0) 0 _ (by lia) (cg _) ⟨?hT1,?hT0⟩ ?hS0 ?hR;case hT1=>exact⟨_,bo _ rfl,rfl,rfl⟩
 case hT0=>exact⟨_,aq _ hol',rfl,nl,rfl⟩
 case hS0=>exact SetOf_congr ((setObjOf_fresh (knd:=strKind prog w) led).setOf (aq _ hS)<|by unfold xg;lia) (λ_=>rfl) rfl
 case hR =>intro s' hm hS';obtain⟨h',g',d',tk',os'⟩:=s';have eg:g'=s.gens:=hm.gens;have ed:d'=s.drawn:=hm.drawn;have eo:os'=s.os:=hm.os;subst eg;subst ed;subst eo;show wpAny _ _ _ _ _ _;refine a9 ?_;show wpAny _ _ (ret g6) _ _ _;refine a9<|h h' tk' hS' λb o e=>?_;have hb1:b<s.heap.objs.size:=bc e;exact hm.heap b o (by simp![ba,bj,or_false,not_or];exact⟨Nat.ne_of_lt hb1,by rw[oB];exact cj<|mq hb1⟩)<|aq _<|aq _ e
set_option maxHeartbeats 6400000 in
theorem LZ {l:Addr}{val:Nat->Str}{Q:Value->aj->Prop}(hh:A.handled=none)(hl:s.heap.IsTuple l items)(hv:∀(i:Nat)(v:Value),items[i]? = some v->∃t,v=.str (val i) t)(hb:items.size+1<xg)(h:∀(h':Heap)(tk:Nat),qY prog w val s.heap.objs.size items.size h'->(∀b o,s.heap.get? b=some o->h'.get? b=some o)->Q (.ref s.heap.objs.size) { s with heap:=h',toks:=tk }):wpAny (model prog w) A (call (.type "set") [.ref l]) Q E s:=by
 obtain⟨c,tl,hmro⟩:=PySem.F.called_set.mro;have hmade:=PySem.F.called_set.made;have hsub:=PySem.F.called_set.sub;refine xr<|AaI ?_;show wpAny _ _ (callAny (.type "set") _) _ _ _;refine a9 ⟨Code.quiet_builtin _<|by decide +kernel,uk PySem.F.entry_type_call ?_⟩;rw[Around.under_plain (weight_type_call_type "set" [.ref l] []) rfl];have h1:=PySem.F.called_set.notType;have h2:=PySem.F.called_set.canCreate;have hct:=PySem.F.typeCall_set_1<|.ref l;repeat (any_goals (first|assumption|wp_step))
 refine mh (code_set_new_1 (.ref l) (E:=E) (Q₁:=λobj bn=>∃led:Bool,obj=.ref s.heap.objs.size/\bn = { s with heap:=s.heap.push (iE led) }) λled=>⟨led,rfl,rfl⟩) λr bn hr=>?_;cases r with|error e=>exact hr|ok fl =>cases fl with
 |ret obj =>
  obtain⟨led,rfl,rfl⟩:=hr;have hT:Abb { s with heap:=s.heap.push (iE led) } (.ref s.heap.objs.size) "set":=⟨_,bo _ rfl,rfl⟩;have hli:=PySem.F.called_set.init.lookup;have hbi:=PySem.F.called_set.init.bind<|.ref s.heap.objs.size;repeat (any_goals (first|assumption|wp_step))
  refine mh (zy (R:=wants (λr ca=>r=.none/\∃h' tk,ca = { s with heap:=h',toks:=tk }/\qY prog w val s.heap.objs.size items.size h'/\(∀b o,s.heap.get? b=some o->h'.get? b=some o)) E) PySem.F.called_set.init.plain PySem.F.entry_set_init<|check_set_init_1 hT ?_) λg3 ca re=>?_;·exact G7 (by simp [hh]) hl hv hb λh' tk hS hk=>⟨rfl,h',tk,rfl,hS,hk⟩
  ·cases g3 with|error e=>exact re|ok wP =>
   cases wP with|ret r =>
   obtain⟨rfl,h',tk,rfl,hS',hk'⟩:=re;repeat (any_goals (first|assumption|wp_step))
   exact h _ _ hS' hk'|_=>exact re.elim
 |_=>exact hr.elim
end
noncomputable abbrev rW (ws:List<|List Nat)(i:Nat):Str:=⟨(ws.getD i []).toArray⟩
theorem str_beq (a b:List Nat):((⟨a.toArray⟩:Str)==⟨b.toArray⟩)=(a==b):=by
 by_cases h:a=b;·subst h;simp
 ·rw[beq_eq_false_iff_ne.mpr h];refine beq_eq_false_iff_ne.mpr λe=>h ?_;have e1:=congrArg Str.cps e;simpa using e1
theorem W9 (ws:List<|List Nat):∀(rest seen:List<|List Nat),ws=seen++rest->uX (rW ws) seen.length+nM seen rest=uX (rW ws) ws.length
 |[],seen,h=>by simp [h,nM]|w::r,seen,h=>by
  have ih:=W9 ws r (seen++[w]) (by simp [h]);rw[<-ih];have e1:rW ws seen.length=⟨w.toArray⟩:=by simp_all
  have e2:((b7 seen.length).map<|rW ws).any (·== rW ws seen.length)=seen.any (·== w):=by
   have e3:(b7 seen.length).map (rW ws)=seen.map λx=>⟨x.toArray⟩:=by
    refine List.ext_getElem (by simp) λi h1 h2=>?_;have hi:=by simpa using h1
    simp [h,ff hi,br hi]
   rw[e3,e1,qo];congr 1;funext x;exact str_beq x w
  simp![ah,ag,ak,nM];have e5:uX (rW ws) (seen.length+1)=if seen.any (·== w)=true then uX (rW ws) seen.length else uX (rW ws) seen.length+1:=by rw[<-e2];rfl
  rw[e5];by_cases c:seen.any (·== w)=true;·simp_all
  ·rw[if_neg c,if_neg c];lia
theorem HV {K:ae}{H:Hp}:∀{ds:List D}{ws:List<|List Nat}{vs:List V}{us:List Value},strsOf ds=some ws->aM K H ds vs->aS vs us->us.length=ws.length/\∀(i:Nat)(v:Value),us[i]? = some v->∃t,v=.str (rW ws i) t
 |[],ws,_,_,h,.nil,.nil=>by cases h;simp|.str w::r,ws,_,_,h,.cons rd rs,.cons rv rvs=>by obtain⟨ws',e,rfl⟩:=Option.map_eq_some_iff.mp h;obtain⟨l,ih⟩:=HV e rs rvs;refine⟨by simp_all,λi v e=>?_⟩;cases i with|zero =>cases rd.str_inv;obtain⟨t,rfl⟩:=rv;simp at e;exact⟨t,e.symm⟩|succ i=>exact ih i v<|by simp_all
 |.non::_,_,_,_,h,_,_=>by cases h|.bl _::_,_,_,_,h,_,_=>by cases h|.int _::_,_,_,_,h,_,_=>by cases h|.tup _::_,_,_,_,h,_,_=>by cases h|.ref _::_,_,_,_,h,_,_=>by cases h|.cF _ _::_,_,_,_,h,_,_=>by cases h|.bR _::_,_,_,_,h,_,_=>by cases h|.exc _::_,_,_,_,h,_,_=>by cases h
theorem Xw {a b:D}{r:List D}{st:aB}{Q:VK}(h:iI .AU (a::b::r) st Q):False:=by cases a<;>first|exact h|(cases b<;>exact h)
section
variable {X:Cx}{C:aU}{sub:Nat->Nat->Bool}{E:XK}{a:cy}{x:Ex}{p p2 pos pos2:Pos}
theorem Yn (hm:X.mg "len" = none)(hm2:X.mg "set" = none)(ha:JA X C sub E [a] [x])(hc:X.calm=true:=by z_go)(hg:X.env.kindOf "len" = some .globalImplicit:=by z_go)(hg2:X.env.kindOf "set" = some .globalImplicit:=by z_go)(he:cb [.Call (.Name "set" p2) [a] [] pos2] X.env=(false,eval (.Call (.Name "set" p2) [a] [] pos2) X.env)::cb [] X.env:=by z_go)(cW:(jr pos<|cb [] X.env).any (·.1)=false:=by z_go)(he2:cb [a] X.env=(false,eval a X.env)::cb [] X.env:=by z_go)(hpl2:(jr pos2<|cb [] X.env).any (·.1)=false:=by z_go):JE X C sub E (.Call (.Name "len" p) [.Call (.Name "set" p2) [a] [] pos2] [] pos)<|.bi .AU [x]:=⟨by intro pz s σ H Q I ⟨ac,st,R,r,ok,q,hq⟩;refine fz (qF I hg hm cI ?_ (by cbv)<|by cbv);rw[he];refine oq (by show(false||(jr pos<|cb [] X.env).any (·.1))=false;rw[cW];rfl)<|qj ?_;show wpAny _ _ (AaM<|(false,eval (.Call (.Name "set" p2) [a] [] pos2) X.env)::jr pos (cb [] X.env)) _ _ s;refine vh ?_;refine fz (qF I hg2 hm2 Jx ?_ (by cbv)<|by cbv);refine i5 (bA (ha.h pos2 pz s σ H _ I ⟨ac,st,_,r,ok,q,λvs H' z=>z⟩) λus s1 ⟨vs,H1,I1,rv,ds,aC,dU,aR,rs,q1⟩=>?_) he2 hpl2;match ds,rs,q1 with
 |[d],rs,q1 =>obtain⟨v,rfl,rd⟩:=rs.one;obtain⟨u,rfl,ru⟩:=vals1 rv;cases d with|tup es =>
   rw[IJ]at q1;obtain⟨ws,e1,hl,q1⟩:=fO q1;obtain⟨l,vs,rfl,f,g⟩:=rd.cA;cases ru;obtain⟨aD,r1,pl,hz⟩:=I1.tuple f;obtain⟨hlen,hat⟩:=HV e1 g r1;have hh:=I1.ok.hd hc;refine LZ (val:=rW ws) hh (pl) (λi v e=>hat i v<|by simpa using e) (by simp;unfold xg;lia) λh' tk hS hk=>?_;refine we ?_;have I2:Inv X pz σ H1 { s1 with heap:=h',toks:=tk }:=I1.kept hk;obtain⟨o,es',ep,t,ho,hex,hd,hel,hmem,hb,hf,hn⟩:=hS;refine call_len_set (s:={ s1 with heap:=h',toks:=tk }) ho hex hd hf (by unfold xg at hb;lia) ?_;have hn2:es'.size=nM [] ws:=by rw[hn];have:=W9 ws ws [] rfl;simp![ak,uX,Aah]at this;rw[this];simp [hlen]
   rw[hn2];exact⟨.int<|nM [] ws,H1,I2.tok _,⟨_,rfl⟩,hq _ _<|.after dU<|.here aR (.int _) q1⟩|ref b =>obtain⟨_,_,z⟩:=dP<|q1;exact(z).elim|_=>exact(q1).elim
 |[],rs,q1=>exact(q1).elim|_::_::_,rs,q1=>exact(Xw q1).elim⟩
end
end L3
end
section
namespace L3
open PySem PySem.Spec PyProof.Rows L2
variable {C:Addr}
theorem pV.yA {X:Cx}{C:aU}{n:Str}{i:Nat}{scope:Scope}{own cn:List Str}{fp:List Addr}{s:aj}{H:Hp}{Ca:Addr}(h:pV X C n i):pV (hJ X scope own cn fp s H Ca) C n i:=let⟨a,b⟩:=h;⟨a,b⟩
section
variable {K:ae}{H:Hp}
theorem str_inj {a b:List Nat}(h:(⟨a.toArray⟩:Str)=⟨b.toArray⟩):a=b:=by simp_all
theorem gZ.get {f:List Nat}{d:D}:∀{fs:List<|List Nat×D}{ws:List<|Str×V},gZ K H fs ws->jA fs f=some d->∃v,ws.lookup (⟨f.toArray⟩:Str)=some v/\Rep K H d v|[],_,_,h=>by cases h|(g,e)::fs,[],r,_=>by cases r.1|(g,e)::fs,(g',v)::ws,r,h=>by obtain⟨r1,r2⟩:=r;simp![aw,gm]at r1;cases r2 with|cons rd rs =>
   simp![jA]at h;by_cases q:g=f;·simp_all
   ·rw[if_neg q]at h;obtain⟨v',e1,e2⟩:=gZ.get ⟨r1.2,rs⟩ h;refine⟨v',?_,e2⟩;have:(⟨f.toArray⟩==g')=false:=beq_eq_false_iff_ne.mpr λz=>q (str_inj<|by simp_all);simp![wc,this];exact e1
theorem gZ.no {f:List Nat}:∀{fs:List<|List Nat×D}{ws:List<|Str×V},gZ K H fs ws->jA fs f=none->ws.lookup (⟨f.toArray⟩:Str)=none|[],[],_,_=>rfl|[],_::_,r,_=>by cases r.1|(g,e)::fs,[],r,_=>by cases r.1|(g,e)::fs,(g',v)::ws,r,h=>by obtain⟨r1,r2⟩:=r;simp![aw,gm]at r1;cases r2 with|cons rd rs =>
   simp![jA]at h;by_cases q:g=f;·simp_all
   ·rw[if_neg q]at h;have:(⟨f.toArray⟩==g')=false:=beq_eq_false_iff_ne.mpr λz=>q (str_inj<|by simp_all);simp![wc,this];exact gZ.no ⟨r1.2,rs⟩ h
theorem gZ.put {f:List Nat}{d:D}{v:V}(rd:Rep K H d v):∀{fs:List<|List Nat×D}{ws:List<|Str×V},gZ K H fs ws->gZ K H (iK f d fs) (kB ⟨f.toArray⟩ v ws)|[],[],_=>⟨rfl,.cons rd .nil⟩|[],_::_,r=>by cases r.1|(g,e)::fs,[],r=>by cases r.1|(g,e)::fs,(g',v')::ws,r=>by obtain⟨r1,r2⟩:=r;simp![aw,gm]at r1;cases r2 with|cons rd' rs =>
   by_cases q:g=f
   ·have q':g'=⟨f.toArray⟩:=by simp_all
    simp![iK,kB,if_pos q,if_pos q'];exact⟨by simp_all,.cons rd rs⟩
   ·have q':=λz=>q<|str_inj<|r1.1.symm.trans z;simp![iK,kB,if_neg q,if_neg q'];have ih:=gZ.put (f:=f) rd ⟨r1.2,rs⟩;exact⟨by simp [r1.1,ih.1],.cons rd' ih.2⟩
theorem gZ.length {fs:List<|List Nat×D}{ws:List<|Str×V}(r:gZ K H fs ws):ws.length=fs.length:=by have:=congrArg fw r.1;simpa using this
end
theorem yR {st:aB}{a:Nat}{P:List Nat->List (List Nat×D)->Prop}(h:nZ st a P):∃c fs,st a=some (.ins c fs)/\P c fs:=by
 unfold nZ at h;split at h;·exact⟨_,_,by simp_all,h⟩
 ·exact h.elim
theorem Z0 {c f:List Nat}{x:D}{st:aB}{Q:VK}(h:wC c f x st Q):∃a fs d,x=.ref a/\st a=some (.ins c fs)/\jA fs f=some d/\Q d st:=by
 unfold wC at h;split at h;·obtain⟨c',fs,e,rfl,q⟩:=yR h;obtain⟨d,e1,q⟩:=fO q;exact⟨_,fs,d,rfl,e,e1,q⟩
 ·exact h.elim
theorem Cv {c f:List Nat}{v x:D}{st:aB}{Q:aB->Prop}(h:DY c f v x st Q):∃a fs,x=.ref a/\st a=some (.ins c fs)/\fs.length<900/\Q (put st a<|.ins c<|iK f v fs):=by
 unfold DY at h;split at h;·obtain⟨c',fs,e,rfl,l,q⟩:=yR h;exact⟨_,fs,rfl,e,l,q⟩
 ·exact h.elim
theorem C8 {c m:List Nat}{x:D}{st:aB}(h:zG c m x st):∃a fs,x=.ref a/\st a=some (.ins c fs)/\jA fs m=none:=by
 unfold zG at h;split at h;·obtain⟨c',fs,e,rfl,q⟩:=yR h;exact⟨_,fs,rfl,e,q⟩
 ·exact h.elim
structure BD (K:ae)(c:List Nat):Prop where h:∃C,clsAt K c C/\qB K C
structure NV (K:ae)(c f:List Nat):Prop where h:∀C,clsAt K c C->sJ K C ⟨f.toArray⟩
structure zF (X:Cx)(C:aU)(c:List Nat)(n:Str)(fid:Nat):Prop where h:∃k f fd ps C0,cD X.prog X.w X.K X.mg X.base gG k f fd ps (jK X.K C fid)/\cK k X.A/\Binds X.K fd ps []/\clsAt X.K c C0/\qB X.K C0/\uA X.K C0 n f
structure FF (X:Cx)(C:aU)(c:List Nat)(n:Str)(fid:Nat):Prop where h:∃k f fd ps C0,cD X.prog X.w X.K X.mg X.base gG k f fd ps (jK X.K C fid)/\cK (k+1) X.A/\Binds X.K fd ps []/\clsAt X.K c C0/\X.mg n=some (.ref C0)/\Mk X.K C0 f
variable {k:Nat}{pl:Sem Bool}
section
variable {X:Cx}{C:aU}{sub:Nat->Nat->Bool}{E EX:XK}{a b e o value:cy}{es:List cy}{x y:Ex}{xs:List Ex}{p pos apos pos':Pos}{n:Str}{c f:List Nat}{fid:Nat}
theorem Se (hn:n=⟨f.toArray⟩)(hc:BD X.K c)(hna:NV X.K c f)(ho:PE X o<|bW X.K<|aI C sub E x)(hb:ei o n X.env (eval o X.env)=eval o X.env):PE X (.Attribute o n pos) (bW X.K<|aI C sub E<|.fld c f x) :=(Lr ho hb).imp λσ H Q ⟨ac,st,R,r,ok,q,hq⟩=>by refine⟨ac,st,_,r,ok,q,λv H1 ⟨d,aC,s1,aR,r1,q1⟩=>?_⟩;obtain⟨a,fs,d',rfl,e,ed,q1⟩:=Z0 q1;cases r1.cY;obtain⟨C0,dx,ws,h1,h2,h3⟩:=aR a _ e;obtain⟨v,l,rv⟩:=gZ.get h3 ed;obtain⟨C',c1,c2⟩:=hc.h;have eC:=c1.inj h1;subst eC;exact⟨a,C',dx,ws,v,rfl,h2,c2,by rw[hn];exact hna.h C' c1,by simp_all,hq _ _<|.after s1<|.here aR rv q1⟩
theorem Td (hC:bU C C)(hn:n=⟨f.toArray⟩)(hc:BD X.K c)(hna:NV X.K c f)(ho:PE X o<|bW X.K<|aI C sub EX y)(hv:PE X value<|bW X.K<|aI C sub EX x)(hs:nq value (some<|.Attribute o n pos') pos.line X.env=pure false):PS X (.Assign [.Attribute o n pos'] value pos) (jF X.K EX<|wpS C sub<|.asg (.fl c f y) x) :=(Lx ho hv hs).imp λD σ H ⟨ac,st,P,r,ok,q,h⟩=>by refine⟨ac,st,_,r,ok,zB hC h.ex q,λv H1 ⟨d,aC,s1,aR,rd,q1⟩=>?_⟩;refine⟨ac,aC,_,r.step ok s1,aR,zB hC h.ex q1,λu H2 ⟨d2,aJ,s2,cG,r2,q2⟩=>?_⟩;obtain⟨a,fs,rfl,e,l,q2⟩:=Cv q2;cases r2.cY;obtain⟨C0,dx,ws,h1,h2,h3⟩:=cG a _ e;obtain⟨C',c1,c2⟩:=hc.h;have eC:=c1.inj h1;subst eC;have s3:Step H2 aJ (upd H2 a<|.ins C' dx<|kB n v ws)<|put aJ a<|.ins c<|iK f d fs:=oR e;have rd2:=(rd.step aR s2).step cG s3;have h3':gZ _ (upd H2 a<|.ins C' dx _) fs ws:=⟨h3.1,h3.2.step cG s3⟩;refine⟨a,C',dx,ws,rfl,h2,c2,by rw[hn];exact hna.h C' c1,by rw[h3.length];lia,h.nx _ _ _ _ (((r.step ok s1).step aR s2).step cG s3) ((s1.trans s2).trans s3) (cG.CV e ?_) q2⟩;exact⟨C',dx,_,c1,dX,by rw[hn]at *;exact gZ.put rd2 h3'⟩
theorem Pj {fa:Addr}{fd:fh}{ps:List Str}{C0:Addr}{m:List Nat}(hn:n=⟨m.toArray⟩)(hcl:clsAt X.K c C0)(hC0:qB X.K C0)(hm:uA X.K C0 n fa)(F:cD X.prog X.w X.K X.mg X.base gG k fa fd ps<|jK X.K C fid)(hr:cK k X.A)(hb:Binds X.K fd ps [])(ho:PE X o<|bW X.K<|aI C sub E x)(ha:PA X (e::es)<|gY X.K<|bB C sub E xs)(cM:sE X e es)(cW:sN X pos es)(ht:eval (.Call (.Attribute o n apos) (e::es) [] pos) X.env=do
  let ov <-eval o X.env
  og apos.atName let(f,first) <-jm [ov] (px ov n pl)si pos f first (jr pos<|cb (e::es) X.env)<|qw pos<|kv [] X.env):PE X (.Call (.Attribute o n apos) (e::es) [] pos) (bW X.K<|aI C sub E<|.mcl c m fid x xs) :=(P7 ho hC0 hm F hr hb .nil KZ ha cM cW ht).imp λσ H Q ⟨ac,st,R,r,ok,q,hq⟩=>by refine⟨ac,st,_,r,ok,q,λv H1 ⟨d,aC,s1,aR,r1,q1,q2⟩=>?_⟩;obtain⟨a,fs,rfl,e0,l⟩:=C8 q1;cases r1.cY;obtain⟨C1,dx,ws,h1,h2,h3⟩:=aR a _ e0;cases hcl.inj h1;refine⟨a,dx,ws,rfl,h2,by rw[hn];exact gZ.no h3 l,?_⟩;refine⟨ac,aC,_,r.step ok s1,aR,q2,λvs H2 ⟨ds,aJ,s2,cG,r2,q3⟩=>?_⟩;rw[dn];exact⟨_,aJ,R,.cons (.ref a) r2,cG,q3,λv H' z=>hq _ _<|.after (s1.trans s2) z⟩
theorem Vh {fa:Addr}{fd:fh}{ps:List Str}{C0:Addr}(hcl:clsAt X.K c C0)(hM:Mk X.K C0 fa)(F:cD X.prog X.w X.K X.mg X.base gG k fa fd ps<|jK X.K C fid)(hr:cK (k+1) X.A)(hg:Gl X n)(hmg:X.mg n=some (.ref C0))(hb:Binds X.K fd ps [])(ha:PA X (e::es)<|gY X.K<|bB C sub E xs)(hdb:(n==("__debug__" : Str))=false)(he:sE X e es)(cW:sN X pos es):PE X (.Call (.Name n p) (e::es) [] pos) (bW X.K<|aI C sub E<|.mk c fid xs) :=(Ew hM F hr hg hmg hb .nil KZ ha hdb he cW).imp λσ H Q ⟨ac,st,R,r,ok,q,hq⟩=>by
 refine⟨ac,st,_,r,ok,q,λvs H1 ⟨ds,aC,s1,aR,r1,q1⟩=>?_⟩;intro x dx hx hdx hne;rw[dn];have cG:aQ _ aC<|upd H1 dx<|.own x:=aR.new hdx;have s2:Step H1 aC (upd H1 dx<|.own x) aC:=kA hdx;have hx2:upd H1 dx (.own x) x=none:=by rw[aY<|fq hne];exact hx
 have s3:Step (upd H1 dx _) aC (upd (upd H1 dx _) x<|.ins C0 dx [])<|put aC x<|.ins c []:=tI hx2;have JY:aQ _ (put aC x<|.ins c [])<|upd (upd H1 dx _) x _:=cG.Vk hx2 ⟨C0,dx,[],hcl,dX,rfl,.nil⟩;refine⟨_,put aC x _,_,.cons (.ref x)<|(r1.step aR s2).step cG s3,JY,q1 x<|aR.fresh hx,λv H' ⟨d,aA,s',dD,rd,ed,q'⟩=>?_⟩;subst ed;exact⟨rd.gE,hq _ _<|.after ((s1.trans s2).trans<|s3.trans s')<|.here dD (.ref x) q'⟩
theorem xW (c:List Nat)(hc:BD X.K c)(hna:NV X.K c f)(ho:JE X C sub E o x)(hn:n=⟨f.toArray⟩:=by z_go)(hb:ei o n X.env (eval o X.env)=eval o X.env:=by z_go):JE X C sub E (.Attribute o n pos)<|.fld c f x:=⟨Se hn hc hna ho.h hb⟩
theorem Az (m:bU C C)(c:List Nat)(hc:BD X.K c)(hna:NV X.K c f)(ho:JE X C sub EX o y)(hv:JE X C sub EX value x)(hn:n=⟨f.toArray⟩:=by z_go)(hs:nq value (some<|.Attribute o n pos') pos.line X.env=pure false:=by z_go): JS X C sub EX (.Assign [.Attribute o n pos'] value pos)<|.asg (.fl c f y) x:=⟨Td m hn hc hna ho.h hv.h hs⟩
theorem Uo {mm:List Nat}(h:zF X C c n fid)(ho:JE X C sub E o x)(ha:JA X C sub E (e::es) xs)(hn:n=⟨mm.toArray⟩:=by kernel_rfl)(cM:sE X e es:=by kernel_rfl)(cW:sN X pos es:=by kernel_rfl)(ht:eval (.Call (.Attribute o n apos) (e::es) [] pos) X.env=(do
  let ov <-eval o X.env
  og apos.atName let(f,first) <-jm [ov] (px ov n pl)si pos f first (jr pos<|cb (e::es) X.env)<|qw pos<|kv [] X.env):=by rfl):JE X C sub E (.Call (.Attribute o n apos) (e::es) [] pos)<|.mcl c mm fid x xs:=⟨let⟨k,f,fd,ps,C0,h1,h2,h3,h4,h5,h6⟩:=h.h;Pj hn h4 h5 h6 h1 h2 h3 ho.h ha.h cM cW ht⟩
theorem Yc (h:FF X C c n fid)(ha:JA X C sub E (e::es) xs)(hg:X.env.kindOf n=some .globalImplicit:=by z_go)(hdb:(n==("__debug__" : Str))=false:=by z_go)(he:sE X e es:=by z_go)(cW:sN X pos es:=by z_go): JE X C sub E (.Call (.Name n p) (e::es) [] pos)<|.mk c fid xs:=⟨let⟨k,f,fd,ps,C0,h1,h2,h3,h4,h5,h6⟩:=h.h;Vh h4 h6 h1 h2 hg h5 h3 ha.h hdb he cW⟩
end
theorem Nw {P:bp}{w:dh}{K:ae}{mg:Str->Option Value}{base:Heap}{G:Prog}{r f:Nat}{fn:Fn}{x qual:Str}{st:Stmt}{a:Addr}{fd:fh}{N ps:List Str}(F:zK K x qual st a fd)(S:lI N ps<|aP st)(hG:G.fns f=some fn)(hp:fn.np=ps.length)(hl:fn.nl=N.length)(hb:∀(bV:Value)(A:c5)(outer:List Env)(s:aj)(H:Hp)(E:L2.XK),cK r (A.deeper<|jw qual (aP st) s.heap.objs.size a bV) -> xR (dJ gG P w K mg base N qual (aP st) a bV A outer s H E).oK (aH G k) G.sub EF (gQ st) fn.body): cD P w K mg base gG (r+1) a fd ps<|jK K (aH G<|k+1) f:=by
 refine F.ok S (λvs H Q E h=>?_) λbV A outer s H vs Q E hr h=>?_;·obtain⟨ds,aA,R,r,_,h,_⟩:=h;simp![aH,hG]at h;rw[<-r.length,h.1,hp]
 ·obtain⟨ds,aA,R,r,ok,h,hq⟩:=h;simp![aH,hG]at h;refine⟨_,(hb bV A outer s H E hr).h,?_⟩;refine⟨_,aA,_,?_,ok,h.2,⟨λam H' cS aV sr s' dD q=>?_,λv H' z=>hq v H' z,λ_ _ _ _ _ _ _ q=>q,λ_ _ _ _ _ _ _ q=>q,λ_ _ _ q=>q⟩⟩;·rw[hl];exact zO r h.1
  ·exact hq _ _ ⟨_,aV,s',dD,.non,q⟩
noncomputable def ET (s:Stmt)(j:Nat):Stmt:=match s with|.ClassDef _ _ _ body ..=>body.getD j<|.Pass ⟨0,0,0,0⟩|_=>.Pass ⟨0,0,0,0⟩
inductive At where|top|bP (c:List Nat)|init (c:List Nat)
def Je (K:ae)(mg:Str->Option Value)(n:Str)(a:Addr):At->Prop|.top=>mg n=some (.ref a)|.bP c=>∃C0,clsAt K c C0/\qB K C0/\uA K C0 n a|.init c=>∃C0,clsAt K c C0/\mg ⟨c.toArray⟩=some (.ref C0)/\Mk K C0 a
structure MA (K:ae)(mg:Str->Option Value)(nf:Nat)(nm qn:Nat->Str)(ps:Nat->List Str)(st:Nat->Stmt)(at_:Nat->At) where
 a:Nat->Addr
 fd:Nat->fh
 fn:∀i,i<nf->zK K (nm i) (qn i) (st i) (a i) (fd i)bi:∀i,i<nf->Binds K (fd i) (ps i) []mg:∀i,i<nf->Je K mg (nm i) (a i) (at_ i)
def FN (n q:Str)(ps:List Str)(st:Stmt):Prop:=∀(kV doc pm:Value)(an:Option Addr)(bV ct:Value)(us:List Value),us.length=ps.length->bindArgs (km n q (nE st) (gQ st) (aP st) .none kV doc pm an bV ct) ⟨us,[]⟩=pure (ps.zip us)
def DU (K:ae)(mg:Str->Option Value)(n q:Str)(st:Stmt)(at_:At):Prop:=∃a fd,zK K n q st a fd/\Je K mg n a at_
variable {oc dc pm cd:Value}{od:Option Addr}{sl:Array<|Option Value}
theorem Rm {K:ae}{h:Heap}{mg:Str->Option Value}(X:K.In h)(G:h.Ns cq mg){n:Str}{st:Stmt}{f:Addr}{an:Option Addr}{kV ct:Value}(a:f9 K cq n=some (some<|.ref f))(l:K.lookup f=some ⟨oc,od,.func<|km n n (nE st) (gQ st) (aP st) .none kV dc pm an cd ct,sl⟩)(c:qh K cd n=true)(k:e9 K (.ref f)=true):DU K mg n n st .top :=⟨f,_,N4 l c k,my X G a⟩
variable {q:Str}
theorem Tz {K:ae}{h:Heap}{mg:Str->Option Value}(X:K.In h)(G:h.Ns cq mg){n:Str}{c:List Nat}{st:Stmt}{f:Addr}{an:Option Addr}{kV ct:Value}(cl:f9 K cq ⟨c.toArray⟩=some (some<|.ref C))(pg:nz K C Abj=true)(hd:p9 K C=true)(po:se K C=true)(sa:df K (.ref C) "__setattr__" = some (some<|.builtin "object.__setattr__"))(a:df K (.ref C) n=some (some<|.ref f))(fn:u1 K (.ref f)=true)(l:K.lookup f=some ⟨oc,od,.func<|km n q (nE st) (gQ st) (aP st) .none kV dc pm an cd ct,sl⟩)(cc:qh K cd q=true)(k:e9 K (.ref f)=true):DU K mg n q st (.bP c) :=⟨f,_,N4 l cc k,C,cl,⟨pg,hd,po,sa⟩,⟨a,fn,k⟩⟩
theorem Qp {K:ae}{h:Heap}{mg:Str->Option Value}(X:K.In h)(G:h.Ns cq mg){c:List Nat}{st:Stmt}{f:Addr}{an:Option Addr}{kV ct:Value}(cl:f9 K cq ⟨c.toArray⟩=some (some<|.ref C))(mk:yq K C=true)(kp:e9 K (.ref C)=true)(a:df K (.ref C) "__init__" = some (some<|.ref f))(fn:u1 K (.ref f)=true)(l:K.lookup f=some ⟨oc,od,.func<|km "__init__" q (nE st) (gQ st) (aP st) .none kV dc pm an cd ct,sl⟩)(cc:qh K cd q=true)(k:e9 K (.ref f)=true):DU K mg "__init__" q st (.init c) :=⟨f,_,N4 l cc k,C,cl,my X G cl,⟨mk,a,fn,kp⟩⟩
theorem Nv {K:ae}{c:List Nat}(cl:f9 K cq ⟨c.toArray⟩=some (some<|.ref C))(pg:nz K C Abj=true)(hd:p9 K C=true)(po:se K C=true)(sa:df K (.ref C) "__setattr__" = some (some<|.builtin "object.__setattr__")):BD K c:=⟨C,cl,pg,hd,po,sa⟩
theorem Ii {K:ae}{c f:List Nat}(cl:f9 K cq ⟨c.toArray⟩=some (some<|.ref C))(na:df K (.ref C) ⟨f.toArray⟩=some none):NV K c f:=⟨λC' h=>by cases clsAt.inj h cl;exact na⟩
theorem P0 {K:ae}{mg:Str->Option Value}{nm qn:Nat->Str}{ps:Nat->List Str}{st:Nat->Stmt}{at_:Nat->At}:∀(nf:Nat),(∀i,i<nf->FN (nm i) (qn i) (ps i) (st i))->(∀i,i<nf->DU K mg (nm i) (qn i) (st i) (at_ i))->fh->Nonempty (MA K mg nf nm qn ps st at_)
 |0,_,_,d=>⟨⟨λ_=>0,λ_=>d,λi h=>absurd h<|by lia,λi h=>absurd h<|by lia,λi h=>absurd h<|by lia⟩⟩|nf+1,B,H,d=>by
  obtain⟨T⟩:=P0 nf λi h=>B i<|by lia λi h=>H i<|by lia d;obtain⟨a,fd,hF,hm⟩:=H nf (by lia);refine⟨⟨λi=>if i=nf then a else T.a i,λi=>if i=nf then fd else T.fd i,λi h=>?_,λi h=>?_,λi h=>?_⟩⟩
  ·by_cases e:i=nf;·simp_all
   ·simpa only[if_neg e]using T.fn i<|by lia
  ·by_cases e:i=nf;·subst e;simpa using hF.binds<|B i<|by lia
   ·simpa only[if_neg e]using T.bi i<|by lia
  ·by_cases e:i=nf;·simp_all
   ·simpa only[if_neg e]using T.mg i<|by lia
theorem R3 {K:ae}{n x:Str}{st:Stmt}{a:Addr}{fd:fh}(F:zK K n q st a fd)(h:FN n q [x] st)(s:aj)(u:Value):Zb s fd ⟨[u],[]⟩ [(x,u)]:=by obtain⟨oc,od,kV,doc,pm,an,bV,ct,osl,rfl,lk,hcd⟩:=F.ex;exact .of_eq<|h kV doc pm an bV ct _ rfl
end L3
end
section
namespace L3
variable {k:Option IK}
section
variable {C:aU}{sub:Nat->Nat->Bool}{E:XK}{σ:St}{st:aB}{Q:VK}{QQ:List D->aB->Prop}{QB:Bool->aB->Prop}{P:fA}{e a b c:Ex}{es:List Ex}{i:Nat}{d:D}{M:St->aB->Prop}
theorem qW:aI C sub E (.c d) σ st Q=Q d st:=rfl
theorem kY:aI C sub E (.v i) σ st Q=fV σ i λd=>Q d st:=rfl
theorem Bl:aI C sub E (.tup es) σ st Q=bB C sub E es σ st λds aA=>Q (.tup ds) aA:=rfl
theorem Ac:aI C sub E (.lst es) σ st Q=bB C sub E es σ st λds aA=>fW ds aA Q:=rfl
theorem KO {op:vA}:aI C sub E (.bin op a b) σ st Q=aI C sub E a σ st λx aC=>aI C sub E b σ aC λy aJ=>jD op x y aJ Q:=rfl
theorem Qr:aI C sub E (.neg a) σ st Q=aI C sub E a σ st λx aC=>CZ x aC Q:=rfl
theorem Av {op:pT}:aI C sub E (.cmp op a b) σ st Q=aI C sub E a σ st λx aC=>aI C sub E b σ aC λy aJ=>dI op x y aJ λk=>Q (.bl k) aJ:=rfl
theorem He {op op':pT}:aI C sub E (.chain op op' a b c) σ st Q=aI C sub E a σ st λx aC=>aI C sub E b σ aC λy aJ=>dI op x y aJ λk =>if k=true then aI C sub E c σ aJ λz aZ=>dI op' y z aZ λk=>Q (.bl k) aZ else Q (.bl false) aJ:=rfl
theorem Po:aI C sub E (.and_ a b) σ st Q=aI C sub E a σ st λx aC=>eH x aC λk=>if k=true then aI C sub E b σ aC Q else Q x aC:=rfl
theorem Wv:aI C sub E (.or_ a b) σ st Q=aI C sub E a σ st λx aC=>eH x aC λk=>if k=true then Q x aC else aI C sub E b σ aC Q:=rfl
theorem An:aI C sub E (.not_ a) σ st Q=aI C sub E a σ st λx aC=>eH x aC λk=>Q (.bl<|!k) aC:=rfl
theorem Th:aI C sub E (.ite c a b) σ st Q=aI C sub E c σ st λx aC=>eH x aC λk=>if k=true then aI C sub E a σ aC Q else aI C sub E b σ aC Q:=rfl
theorem NQ {f:Nat}:aI C sub E (.call f es) σ st Q=bB C sub E es σ st λds aA=>C f ds aA Q λ_ _=>False:=rfl
theorem Eg {f:Nat}:aI C sub E (.callx f es) σ st Q=bB C sub E es σ st λds aA=>C f ds aA Q E:=rfl
theorem G5 {f:BI}:aI C sub E (.bi f es) σ st Q=bB C sub E es σ st λds aA=>iI f ds aA Q:=rfl
theorem Qb {ts:List Ty}:aI C sub E (.isi a ts) σ st Q=aI C sub E a σ st λx aC=>wN sub x aC ts λk=>Q (.bl k) aC:=rfl
theorem Kr {m:MT}:aI C sub E (.bP m a es) σ st Q=aI C sub E a σ st λx aC=>oV m x aC/\bB C sub E es σ aC λds aJ=>eT m x ds aJ Q:=rfl
theorem lT:aI C sub E (.ix a b) σ st Q=aI C sub E a σ st λx aC=>aI C sub E b σ aC λy aJ=>xS x y aJ Q:=rfl
theorem Xm {lo hi:List Ex}:aI C sub E (.sl a lo hi) σ st Q=aI C sub E a σ st λx aC=>bB C sub E lo σ aC λls aJ=>pJ ls λl=>bB C sub E hi σ aJ λhs aZ=>pJ hs λh=>BV x l h aZ Q:=rfl
theorem Sl {f:BI}{k:IK}:aI C sub E (.bit f k es) σ st Q=bB C sub E es σ st λds aC=>jZ (some k) ds aC λ_ xs=>eS f xs aC Q:=rfl
theorem Ms {n:Nat}{bH tg:List Nat}{one:Bool}{aD ifs:List Ex}:aI C sub E (.comp n bH tg one k aD ifs e) σ st Q=bB C sub E aD σ st λds aC=>jZ k ds aC λas xs =>iH (same as aC) (λx aJ K=>lO one tg x (au n none++bH.map λi=>σ[i]?.getD none) λam =>iM C sub E ifs am aJ λb aZ=>if b=true then aI C sub E e am aZ λd cR=>K (some d) cR else K none aZ) xs [] aC λds eQ=>fW ds eQ Q:=rfl
theorem lV:bB C sub E [] σ st QQ=QQ [] st:=rfl
theorem gF:bB C sub E (e::es) σ st QQ=aI C sub E e σ st λd aA=>bB C sub E es σ aA λds aV=>QQ (d::ds) aV:=rfl
theorem Ta:iM C sub E [] σ st QB=QB true st:=rfl
theorem Kp:iM C sub E (e::es) σ st QB=aI C sub E e σ st λd aA=>eH d aA λk=>if k=true then iM C sub E es σ aA QB else QB false aA:=rfl
theorem Fd {c:Nat}:wpS C sub (.rais c es) P σ st=bB C sub (λc aA=>P.ex c σ aA) es σ st λ_ aA=>P.ex c σ aA:=rfl
theorem Qy:wpS C sub (.ex e) P σ st=aI C sub (λc aA=>P.ex c σ aA) e σ st λ_ aA=>P.nx σ aA:=rfl
theorem kF {t:Tg}:wpS C sub (.asg t e) P σ st=aI C sub (λc aA=>P.ex c σ aA) e σ st λd aA=>nH C sub (λc aA=>P.ex c σ aA) t d σ aA P.nx:=rfl
theorem Nf {op:vA}:wpS C sub (.aug i op e) P σ st=fV σ i λx=>aI C sub (λc aA=>P.ex c σ aA) e σ st λy aA=>notRef x/\jD op x y aA λd aV=>P.nx (σ.set i<|some d) aV:=rfl
theorem WL {x y:List Sx}:wpS C sub (.iff e x y) P σ st=aI C sub (λc aA=>P.ex c σ aA) e σ st λd aA=>eH d aA λk=>if k=true then cH C sub x P σ aA else cH C sub y P σ aA:=rfl
theorem Nr {t:Tg}{b:List Sx}:wpS C sub (.sV t k es b) P σ st=bB C sub (λc aA=>P.ex c σ aA) es σ st λds aC=>jZ k ds aC λas xs=>AH (same as aC) (λx next σ st=>nH C sub (λc aA=>P.ex c σ aA) t x σ st λam aA=>cH C sub b { P with nx:=next,ct:=next,bk:=P.nx } am aA) P.nx xs σ aC:=rfl
theorem LU:wpS C sub (.ret e) P σ st=aI C sub (λc aA=>P.ex c σ aA) e σ st P.rt:=rfl
theorem Jd:wpS C sub .brk P σ st=P.bk σ st:=rfl
theorem Il:wpS C sub .cnt P σ st=P.ct σ st:=rfl
theorem Ez:wpS C sub .pass P σ st=P.nx σ st:=rfl
theorem mE:nH C sub E (.nm i) d σ st M=M (σ.set i<|some d) st:=rfl
theorem Ru {is:List Nat}:nH C sub E (.tp is) d σ st M=lO false is d σ λam=>M am st:=rfl
theorem Pn:nH C sub E (.ix a b) d σ st M=aI C sub E a σ st λx aC=>aI C sub E b σ aC λy aJ=>G8 x y d aJ λaZ=>M σ aZ:=rfl
theorem Sq {c f:List Nat}:nH C sub E (.fl c f a) d σ st M=aI C sub E a σ st λx aC=>DY c f d x aC λaJ=>M σ aJ:=rfl
theorem Rz:nH C sub E (.dk a b) d σ st M=aI C sub E a σ st λx aC=>aI C sub E b σ aC λy aJ=>P4 y d x aJ λaZ=>M σ aZ:=rfl
theorem Qk {c f:List Nat}:aI C sub E (.fld c f a) σ st Q=aI C sub E a σ st λx aC=>wC c f x aC Q:=rfl
theorem Ww {c:List Nat}{f:Nat}:aI C sub E (.mk c f es) σ st Q=bB C sub E es σ st λds aC=>∀p,aC p=none->C f (.ref p::ds) (put aC p<|.ins c []) (λd aJ=>d=.non/\Q (.ref p) aJ) λ_ _=>False:=rfl
theorem Su {c m:List Nat}{f:Nat}:aI C sub E (.mcl c m f a es) σ st Q=aI C sub E a σ st λx aC=>zG c m x aC/\bB C sub E es σ aC λds aJ=>C f (x::ds) aJ Q λ_ _=>False:=rfl
theorem Iz {c m:List Nat}{f:Nat}:aI C sub E (.mclx c m f a es) σ st Q=aI C sub E a σ st λx aC=>zG c m x aC/\bB C sub E es σ aC λds aJ=>C f (x::ds) aJ Q E:=rfl
theorem Iu:aI C sub E .dnew σ st Q = ∀p,st p=none->Q (.ref p) (put st p<|.tab [] []):=rfl
theorem Rt {neg:Bool}:aI C sub E (.din neg a b) σ st Q=aI C sub E a σ st λx aC=>aI C sub E b σ aC λy aJ=>MF x y aJ λk=>Q (.bl<|if neg=true then !k else k) aJ:=rfl
theorem To:aI C sub E (.dix a b) σ st Q=aI C sub E a σ st λy aC=>aI C sub E b σ aC λx aJ=>M4 x y aJ Q:=rfl
theorem kH {c f:List Nat}{p:Nat}{fs:List<|List Nat×D}(h:st p=some (.ins c fs)){x:D}(hx:jA fs f=some x):wC c f (.ref p) st Q=Q x st:=by simp![wC,nZ,h,hx,dM,true_and]
theorem KC {c f:List Nat}{p:Nat}{fs:List<|List Nat×D}{R:aB->Prop}(h:st p=some (.ins c fs))(hl:fs.length<900):DY c f d (.ref p) st R=R (put st p<|.ins c<|iK f d fs):=by simp![DY,nZ,h,hl,true_and]
theorem qA {c m:List Nat}{p:Nat}{fs:List<|List Nat×D}(h:st p=some (.ins c fs))(hm:jA fs m=none):zG c m (.ref p) st=True:=by simp![zG,nZ,h,hm,and_self]
end
section
variable {d:D}{r:St}{R:D->Prop}{o0 o1 o2 o3 o4 o5 o6 o7 o8 o9 tW vW Ce:Option D}
theorem qV:fV (some d::r) 0 R=R d:=rfl
theorem Lk:fV (o0::some d::r) 1 R=R d:=rfl
theorem Om:fV (o0::o1::some d::r) 2 R=R d:=rfl
theorem Ka:fV (o0::o1::o2::some d::r) 3 R=R d:=rfl
theorem RU:fV (o0::o1::o2::o3::some d::r) 4 R=R d:=rfl
theorem R9:fV (o0::o1::o2::o3::o4::some d::r) 5 R=R d:=rfl
theorem Vd:fV (o0::o1::o2::o3::o4::o5::some d::r) 6 R=R d:=rfl
theorem Vc:fV (o0::o1::o2::o3::o4::o5::o6::some d::r) 7 R=R d:=rfl
theorem Vw:fV (o0::o1::o2::o3::o4::o5::o6::o7::some d::r) 8 R=R d:=rfl
theorem Wi:fV (o0::o1::o2::o3::o4::o5::o6::o7::o8::some d::r) 9 R=R d:=rfl
theorem Tn:fV (o0::o1::o2::o3::o4::o5::o6::o7::o8::o9::some d::r) 10 R=R d:=rfl
theorem Pt:fV (o0::o1::o2::o3::o4::o5::o6::o7::o8::o9::tW::some d::r) 11 R=R d:=rfl
theorem Rp:fV (o0::o1::o2::o3::o4::o5::o6::o7::o8::o9::tW::vW::some d::r) 12 R=R d:=rfl
theorem Tt:fV (o0::o1::o2::o3::o4::o5::o6::o7::o8::o9::tW::vW::Ce::some d::r) 13 R=R d:=rfl
end
end L3
end
section
namespace L3
open PySem PySem.Spec PyProof.Rows L2
def pY (h:Heap)(e T:Addr)(c fl:Value):Prop :=∃oe vs oT ts,h.get? e=some oe/\oe.cls=c/\oe.dict=none/\oe.data=.fields vs/\vs[1]? = some (.ref T)/\T≠e/\h.get? T=some oT/\oT.data=.fields ts/\ts[3]? = some fl
structure gI (fs ex:List Addr)(h h':Heap):Prop where
 keep:∀b o,h.get? b=some o->b∉fs->b∉ex->h'.get? b=some o
 slot:∀b o,h.get? b=some o->b∉ex->∃sl,h'.get? b=some { o with slots:=sl }
variable {P:bp}{H:Hp}
section
variable {fs ex ex':List Addr}{h h1 h2:Heap}
theorem gI.trans (a:gI fs ex h h1)(b:gI fs ex' h1 h2):gI fs (ex++ex') h h2 where keep:=λc o q n m=>b.keep c o (a.keep c o q n λz=>m<|fb _ z) n λz=>m<|cf _ z;slot:=λc o q m=>by obtain⟨s1,e1⟩:=a.slot c o q λz=>m<|fb _ z;obtain⟨s2,e2⟩:=b.slot c _ e1 λz=>m<|cf _ z;exact⟨s2,e2⟩
theorem gI.more (a:gI [] ex h h1):gI fs ex h h1:=⟨λc o q _ m=>a.keep c o q (by simp) m,a.slot⟩
theorem gI.old (a:gI fs ex h h1)(k:∀b o,h2.get? b=some o->h.get? b=some o)(n:∀b∈ex,b∈ex'\/h2.get? b=none):gI fs ex' h2 h1 where
 keep:=λc o q m m'=>a.keep c o (k c o q) m λz=>by
  rcases n c z with z|z;·exact m' z
  ·rw[z]at q;cases q
 slot:=λc o q m'=>a.slot c o (k c o q) λz=>by
  rcases n c z with z|z;·exact m' z
  ·rw[z]at q;cases q
theorem gI.lA {base:Heap}{l:List Env}(a:gI fs ex h h1)(n:∀b∈ex,∀o,h.get? b=some o->∃vs,o.data=.fields vs)(f:h.FunFrames base l):h1.FunFrames base l :=f.of_keeps λb o q d=>by obtain⟨sl,e⟩:=a.slot b o q λz=>let⟨vs,w⟩:=n b z o q;d vs w;exact⟨_,e,rfl⟩
theorem gI.ok {w:dh}(a:gI fs ex h h1)(x:fH P w H h)(hf:∀b∈fs,H b=none)(hx:∀b∈ex,H b=none):fH P w H h1:=λb o q =>(x b o q).qQ (λc u hc e=>a.keep c u e λz=>by
  rcases hc with rfl|hc;·simp_all
  ·simp_all λz=>by
  rcases hc with rfl|hc;·simp_all
  ·simp_all) (λ_ z=>z) λ_ _ z=>z
end
theorem X3 (o:Obj)(f:Array Value->Array Value):(o.mapFields f).dict=o.dict:=by unfold j8;split<;>rfl
variable {M:Model}{E:Value->aj->Prop}{Q:Unit->aj->Prop}{oe:Obj}{vs:Array Value}
section
variable {A:c5}{s:aj}{base:Heap}{env:Env}{outer:List Env}{L e T:Addr}{c fl:Value}
theorem LP {head:Value}{nx:Bool}(hfr:A.frames=some (env::outer))(hl:s.heap.FunFrames base<|env::outer)(hf:env.frame=some L)(he:s.heap.get? e=some oe)(hn:oe.dict=none)(hd:oe.data=.fields vs)(hz:1<vs.size)(k:∀h' T,gI (gS<|env::outer) [e] s.heap h'->s.heap.get? T=none->pY h' e T oe.cls (rm L)->Q () { s with heap:=h' }): wpAny M A (do let f <-frameOf env;let pl <-entryPlaceOf L nx;let t <-EntryCells.newEntry head f .none (rm L) .none pl;setField (.ref e) 1 t) Q E s:=by
 have ne:e∉gS (env::outer):=λm=>by obtain⟨_,o,ho,hn⟩:=hl.mem m;rw[he]at ho;cases ho;exact hn vs hd
 refine ai<|wpAny_frameOf_fun hfr hl hf λh1 z=>ai<|wpAny_entryPlaceOf λpl hp=>?_;refine ai<|mi ?_<|hp.sizeOk5 _ _ _ _ _;have e1:=(z.2.1 e ne).trans he;have te:=xq<|bc e1;refine lq (aq _ e1) hd hz<|k _ h1.objs.size ⟨λb o q n m=>?_,λb o q m=>?_⟩ ?_ ?_;·rw[bq _ _ λw=>m<|by simp [w]];exact aq _<|(z.2.1 b n).trans q
 ·obtain⟨sl,w⟩:=z.2.2 b o q;refine⟨sl,?_⟩;rw[bq _ _ λw=>m<|by simp [w]];exact aq _ w
 ·exact zk<|by rw[z.1];exact av _
 ·refine⟨_,_,_,_,dq _ (aq _ e1)<|fo<|di hd _,Aag _ _,(X3 _ _).trans hn,di hd _,by simp [hz],te,(bq _ _<|fq te).trans<|bo h1 rfl,rfl,?_⟩;first|(simp)|(simp_all)
theorem ZO (hfr:A.frames=some (env::outer))(hl:s.heap.FunFrames base<|env::outer)(hf:env.frame=some L)(he:s.heap.get? e=some oe)(hn:oe.dict=none)(hd:oe.data=.fields vs)(h1:vs[1]? = some .none)(k:∀h' T,gI (gS<|env::outer) [e] s.heap h'->s.heap.get? T=none->pY h' e T oe.cls (rm L)->Q () { s with heap:=h' }):wpAny M A (l9 (.ref e) env) Q E s:=by unfold l9;simp![hf];refine ai<|fj he hd h1 ?_;exact LP hfr hl hf he hn hd (Array.getElem?_eq_some_iff.mp h1).1 k
theorem QH (hfr:A.frames=some (env::outer))(hl:s.heap.FunFrames base<|env::outer)(hf:env.frame=some L)(f:pY s.heap e T c .none) (k:∀h' T',gI (gS<|env::outer) [e,T] s.heap h'->s.heap.get? T'=none->pY h' e T' c (rm L)->(∃o ts,h'.get? T=some o/\o.data=.fields ts)->Q () { s with heap:=h' }):wpAny M A (l9 (.ref e) env) Q E s:=by
 obtain⟨oe,vs,oT,ts,he,rfl,hn,hd,h1,hTe,hT,hdT,h3⟩:=f;unfold l9;simp![hf];refine ai<|fj he hd h1 ?_;refine ai<|fj hT hdT h3 ?_;refine ai<|lq hT hdT (Array.getElem?_eq_some_iff.mp h3).1 ?_;have oth:∀b,b≠T->(s.heap.update T (j8 (·.setIfInBounds 3 g6))).get? b=s.heap.get? b:=λb n=>bq _ _<|fq n;have B:gI (gS<|env::outer) [T] s.heap (s.heap.update T (j8 (·.setIfInBounds 3 g6))):=⟨λb o q _ m=>(oth b<|by simpa using m).trans q,λb o q m=>⟨o.slots,(oth b<|by simpa using m).trans q⟩⟩;refine LP hfr (B.lA (λb m o q=>?_) hl) hf ((oth e<|fq hTe).trans he) hn hd (Array.getElem?_eq_some_iff.mp h1).1 λh' T' b' n' f'=>k h' T' ((B.trans b').old (ex':=[e,T]) (λ_ _ q=>q) λb m=>.inl ?_) ?_ f' ?_;·simp![cu]at m;subst m;rw[hT]at q;cases q;exact⟨ts,hdT⟩
 ·simp![cz,cu,ba,bj,or_false]at m ⊢;exact m.symm
 ·cases q:s.heap.get? T' with|none=>rfl|some o =>
   obtain⟨sl,w⟩:∃o,(s.heap.update T (j8 (·.setIfInBounds 3 g6))).get? T'=some o:=by
    by_cases z:T'=T;·subst z;exact⟨_,dq _ hT<|fo<|di hdT _⟩
    ·simp_all
   have n':=n';rw[w]at n';cases n'
 ·obtain⟨sl,w⟩:=b'.slot T _ (dq _ hT<|fo<|di hdT _) (by simp_all);exact⟨_,_,w,di hdT _⟩
theorem zM (f:pY s.heap e T c fl)(k:∀h',gI [] [T] s.heap h'->pY h' e T c .none->Q () { s with heap:=h' }):wpAny M A (xi (.ref e) none) Q E s:=by
 obtain⟨oe,vs,oT,ts,he,hc,hn,hd,h1,hTe,hT,hdT,h3⟩:=f;have z3:=(Array.getElem?_eq_some_iff.mp h3).1;refine ai<|fj he hd h1 ?_;refine lq hT hdT z3<|k _ ⟨λb o q _ m=>?_,λb o q m=>⟨o.slots,?_⟩⟩ ⟨oe,vs,_,_,?_,hc,hn,hd,h1,hTe,dq _ hT<|fo<|di hdT _,di hdT _,by simp [z3]⟩;·exact(bq _ _ λw=>m<|by simp [w]).trans q
 ·exact(bq _ _ λw=>m<|by simp [w]).trans q
 ·exact(bq _ _ hTe).trans he
end
structure HB (K:ae)(C:Addr):Prop where
 ga:df K (.ref C) "__getattribute__" = some (some<|.builtin "BaseException.__getattribute__")gt:df K (.ref C) "__getattr__" = some none
 cl:df K (.ref C) "__class__" = some (some<|.builtin "object.__class__")ob:i9 K C (.type "object")=some true
 be:i9 K C (.type "BaseException")=some true
variable {Q:Value->aj->Prop}{C:Addr}{tk:Tok}{b:Bool}
section
variable {prog:bp}{w:dh}{A:c5}{K:ae}{h:Heap}{g:Array Zy}{d:Drawn}{t:Nat}{os:OsState}{a:Addr}{o:Obj}
theorem YL {Q:Fin->aj->Prop}(X:K.In h)(Z:HB K C)(I:kz h a o C none)(q:Q (.done<|.ret<|.ref C) ⟨h,g,d,t,os⟩):wpAny (model prog w) A (Builtin.«object.__getattribute__» ⟨[.ref a,.str "__class__" tk],[]⟩) Q E ⟨h,g,d,t,os⟩:=by
 have hx:=I.at_;have hc:=I.cls;have l1:=qg (M:=model prog w) X Z.cl;have f5:=F.typeOf_object_class;have f6:=F.slot_gs_get.lookup;have f7:=F.slot_gs_set.lookup;repeat (any_goals (first|assumption|(with_reducible refine Aai hx ?_;rw[hc])|with_reducible refine l1.at ?_|wp_step))
 refine PySem.W.class_get (K:=K) (s:=⟨h,g,d,t,os⟩) X I Z.ob ?_;repeat (any_goals (first|assumption|wp_step))
theorem Y1 {v:Value}{Q:Unit->aj->Prop}(X:K.In h)(Z:HB K C)(I:kz h a o C none)(q:Q () ⟨h,g,d,t,os⟩):wpAny (model prog w) A (xf "BaseException.__getattribute__" ⟨[.ref a,v],[]⟩) Q E ⟨h,g,d,t,os⟩:=by
 have hx:=I.at_;have hc:=I.cls;have l1:=ux (M:=model prog w) X Z.be;have k1:builtinKind "BaseException.__getattribute__" = some .slot:=by decide +kernel
 have k2:splitId "BaseException.__getattribute__" = some ("BaseException","__getattribute__"):=by decide +kernel
 have k3:=F.args_bexc_ga (.ref a) v;simp only[xf,k1,k2];refine ai ?_;unfold isInstance;repeat (first|(with_reducible refine Aai hx ?_;rw[hc])|with_reducible refine l1.at ?_|wp_step)
 exact q
theorem Pf (X:K.In h)(Z:HB K C)(I:kz h a o C none)(q:Q (.ref C) ⟨h,g,d,t,os⟩):wpAny (model prog w) A (getAttrBy (.ref a) (.str "__class__" tk) false) Q E ⟨h,g,d,t,os⟩:=by
 have hx:=I.at_;have hc:=I.cls;have f3:=F.attr_ValueError.ga.bind<|.ref a;have y1:(w4 "BaseException.__getattribute__" == w4 "object.__getattribute__")=false:=by decide +kernel
 have y2:(onTheHeap (jq C)&&w4 "BaseException.__getattribute__" == w4 "object.__getattribute__")=false:=by rw[y1];rfl
 have l1:=qg (M:=model prog w) X Z.ga;have l2:=qg (M:=model prog w) X Z.gt;repeat (any_goals (first|assumption|(with_reducible rw[hc])|with_reducible refine l1.at ?_|with_reducible refine l2.at ?_|wp_step))
 refine zy F.attr_ValueError.ga.plain F.entry_bexc_ga<|Y1 X Z I<|YL X Z I ?_;repeat (any_goals (first|assumption|wp_step))
theorem Hc {Q:Option Value->aj->Prop}(X:K.In h)(Z:HB K C)(I:kz h a o C none)(q:Q (some<|.ref C) ⟨h,g,d,t+1,os⟩):wpAny (model prog w) A (getAttr? (.ref a) "__class__") Q E ⟨h,g,d,t,os⟩:=by repeat (any_goals (first|assumption|with_reducible apply Pf X Z I|wp_step))
theorem UM {c:Value}{aE:Int}{Q:Fin->aj->Prop}(X:K.In h)(Z:HB K C)(I:kz h a o C none)(ty:gp (model prog w) h (Zs c)<|.type "type")(it:gp (model prog w) h (Aa3 c) true)(ic:gp (model prog w) h (Aa3<|.ref C) true)(ne:(jq C==c)=false)(su:gp (model prog w) h (Abn (.ref C) c) b)(q:∀tk,Q (.done<|.ret<|.bool b) ⟨h,g,d,tk,os⟩):wpAny (model prog w) A (Builtin.«isinstance.nested» ⟨[.ref a,c,.int aE tk],[]⟩) Q E ⟨h,g,d,t,os⟩:=by have l0:=I.type (M:=model prog w);have li:gp (model prog w) h (isInstance (.ref a) c) b:=l0.andThen su;refine ai<|l0.at ?_;rw[if_neg λz=>by simp_all];refine ai<|ty.at ?_;refine ai<|ai<|it.at ?_;refine ai<|li.at ?_;cases b with
 |true =>first|exact a9 q _|exact a9<|a9<|q _
 |false =>refine ai<|Hc X Z I ?_;refine ai<|ic.at ?_;refine ai<|yg<|su.at ?_;first|exact a9<|q _|assumption
theorem Jb {c:Value}{s:aj}(X:K.In s.heap)(Z:HB K C)(I:kz s.heap a o C none)(ty:∀M,gp M s.heap (Zs c)<|.type "type")(it:∀M,gp M s.heap (Aa3 c) true)(ic:∀M,gp M s.heap (Aa3<|.ref C) true)(ne:(jq C==c)=false)(su:∀M,gp M s.heap (Abn (.ref C) c) b)(q:∀tk,Q (.bool b) { s with toks:=tk }):wpAny (model prog w) A (call (.builtin "isinstance") [.ref a,c]) Q E s :=call_isinstance (S:=λ_ R s'=>s'=s/\∀tk,R (.ok<|.ret _) { s with toks:=tk }) (λ_ _ _ _ s' hs=>by obtain⟨rfl,hs⟩:=hs;exact isinstance_outer (UM X Z I (ty _) (it _) (ic _) ne (su _) hs) λz=>nomatch z) ⟨rfl,q⟩
end
variable {pos:Pos}
section
variable {prog:bp}{w:dh}{A:c5}{s:aj}{env:Env}{nm q:Str}{N:Addr}{bs bm:List Value}{hdct:Bool}{sn:List Str}{sub:List Value}{ab:Bool}{col:Option Bool}{dd:Option Addr}{k0 k1 k2 k3 k5:Option Value}{newId:String}
theorem XW {e:Addr}{t:cy}{n:Str}{b0:Stmt}{suite:List Stmt}{rest:List ExceptHandler}{Q:Flow->aj->Prop}(hb:bm.contains (.type "BaseException")=true)(h:wpAny (model prog w) (A.mark<|some<|.ref e) (eval t env) (λc s1=>c=.ref C/\s1.heap.get? C=some (excClassObj nm q C N bs bm hdct sn sub ab col dd k0 k1 k2 k3 k5 newId)/\(∃oe,s1.heap.get? e=some oe/\oe.cls=.ref C) /\wpAny (model prog w) (A.mark<|some<|.ref e) (xi (.ref e) none) (λ_ s2=>wpAny (model prog w) (A.mark<|some<|.ref e) (Abh env n<|.ref e) (λ_ s3 =>wpAny (model prog w) (A.mark<|some<|.ref e) (execs (b0::suite) env) (λf s4=>wpAny (model prog w) A (do bindName env n .none;unbindBehindTheSuite env n pos) (λ_ s5=>Q f s5) E s4) (λ_ _=>False) s3) (λ_ _=>False) s2) (λ_ _=>False) s1) (λ_ _=>False) s):wpAny (model prog w) A (handleBy (.ref e) env<|.ExceptHandler (some t) (some n) (b0::suite) pos::rest) Q E s:=by refine Zh (ze<|gh h (λc s1 h1=>?_) λ_ _ z=>z.elim) (by intro z;cases z);obtain⟨rfl,hC,⟨oe,he,hc⟩,hk⟩:=h1;exact wa hC he hc hb<|codeAny_handlers_suite_as<|gh hk (λ_ s2 h2=>gh h2 (λ_ s3 h3=>gh h3 (λ_ _ z=>z) λ_ _ z=>z.elim) λ_ _ z=>z.elim) λ_ _ z=>z.elim
end
noncomputable def qD (a:Addr)(c:Value):HO:=.ext λ_ _ h=>∃o vs,h.get? a=some o/\o.cls=c/\o.dict=none/\o.data=.fields vs
noncomputable def lF (a:Addr):HO:=.ext λ_ _ h=>∃o vs,h.get? a=some o/\o.data=.fields vs
variable {o1:HO}
section
variable {w:dh}{H0 H1:Hp}{h h0 h1 h2:Heap}{a T:Addr}{o:HO}{c:Value}{fs ex:List Addr}
theorem _root_.L2.gN.here (x:gN P w H h a o):∃u,h.get? a=some u:=by cases o with|lst xs=>obtain⟨_,_,_,_,e⟩:=x;exact⟨_,e⟩|tup xs=>obtain⟨_,_,_,_,e,_⟩:=x;exact⟨_,e⟩|dK iF=>obtain⟨_,_,_,_,o,_,_,e,_⟩:=x;exact⟨_,e⟩|dT iF=>obtain⟨_,_,_,_,o,_,_,e,_⟩:=x;exact⟨_,e⟩|set S n=>obtain⟨o,_,_,_,e,_⟩:=x;exact⟨_,e⟩|ins C dx fs=>obtain⟨_,_,_,e,_⟩:=x;exact⟨_,e⟩|own y=>exact x|xd fs=>obtain⟨_,⟨_,_,_,e,_⟩,_⟩:=x;exact⟨_,e⟩|rng lo hi=>obtain⟨_,_,_,e⟩:=x;exact⟨_,e⟩|frz ob u=>exact⟨_,x.1⟩|tbl ps=>exact⟨_,x⟩|met f y=>exact⟨_,x⟩|ext φ=>exact x.2.1
theorem _root_.L2.fH.nothing (x:fH P w H h)(n:h.get? a=none):H a=none:=by cases q:H a with|none=>rfl|some u =>obtain⟨v,e⟩:=(x a u q).here;rw[n]at e;cases e
theorem _root_.L2.fH.IA (x:fH P w H h)(n:H a=none)(new:gN P w (upd H a o) h a o):fH P w (upd H a o) h:=λb u e=>by
 by_cases hb:b=a;·subst hb;rw[dX]at e;cases e;exact new
 ·rw[aY hb]at e;exact(x b u e).qQ (λ_ _ _ q=>q) (λc q=>by rw[aY<|dF q n];exact q) λc xs q=>by rw[aY<|dF q n];exact q
theorem KR (e:h.get? a=some oe)(e1:oe.cls=c)(e2:oe.dict=none)(e3:oe.data=.fields vs):gN P w H h a (qD a c) :=⟨⟨oe,vs,e,e1,e2,e3⟩,⟨oe,e⟩,λh1 h2 ⟨o,vs,q,r⟩ k=>⟨o,vs,k o q,r⟩⟩
theorem sW (e:h.get? a=some oe)(e3:oe.data=.fields vs):gN P w H h a (lF a) :=⟨⟨oe,vs,e,e3⟩,⟨oe,e⟩,λh1 h2 ⟨o,vs,q,r⟩ k=>⟨o,vs,k o q,r⟩⟩
theorem FZ {b:Addr}{u o2:HO}(n1:H1 a=none)(n2:H1 T=none)(e:H1 b=some u):upd (upd H1 a o1) T o2 b=H1 b:=by rw[aY<|dF e n2,aY<|dF e n1]
theorem Lv (u:Un fs [] H0 H1 h0 h1)(n1:H1 a=none)(n2:H1 T=none)(g1:h0.get? a=none)(g2:h0.get? T=none){o2:HO}:Un fs [] H0 (upd (upd H1 a o1) T o2) h0 h1 where
 keep:=u.keep;slot:=u.slot;free:=λb o q n hx=>by
  have e1:b≠a:=λz=>by simp_all
  have e2:b≠T:=λz=>by simp_all
  rw[aY e2,aY e1];exact u.free b o q n hx
 there:=u.there;jO:=λb xs q=>by have:=u.jO b xs q;rw[FZ n1 n2 this];exact this
 jG:=λb o v q=>by have:=u.jG b o v q;rw[FZ n1 n2 this];exact this
 kC:=λb ps q=>by obtain⟨m,e⟩:=u.kC b ps q;exact⟨m,by rw[FZ n1 n2 e];exact e⟩
theorem MH (u:Un fs [] H0 H1 h0 h1)(n1:H1 a=none)(g1:h0.get? a=none):Un fs [] H0 (upd H1 a o1) h0 h1 where
 keep:=u.keep;slot:=u.slot;free:=λb o q n hx=>by
  have e1:b≠a:=λz=>by simp_all
  rw[aY e1];exact u.free b o q n hx
 there:=u.there;jO:=λb xs q=>by have:=u.jO b xs q;rw[aY<|dF this n1];exact this
 jG:=λb o v q=>by have:=u.jG b o v q;rw[aY<|dF this n1];exact this
 kC:=λb ps q=>by obtain⟨m,e⟩:=u.kC b ps q;exact⟨m,by rw[aY<|dF e n1];exact e⟩
theorem X6 {gs:List Addr}{L:Addr}(u:Un fs [] H0 H1 h0 h1)(b:gI gs [] h1 h2)(hg:∀c∈gs,c=L\/c∈fs)(hL:h0.objs.size<=L):Un fs [] H0 H1 h0 h2 where
 keep:=λc o q n hc hx=>b.keep c o (u.keep c o q n hc hx) (λz=>by
  rcases hg c z with z|z;·rw[z]at q;exact absurd (bc q)<|Nat.not_lt.mpr hL
  ·exact hc z) (by simp);slot:=λc o q n hc hx=>by obtain⟨s1,e1⟩:=u.slot c o q n hc hx;obtain⟨s2,e2⟩:=b.slot c _ e1 (by simp);exact⟨s2,e2⟩
 free:=u.free;there:=λc o q hx=>by obtain⟨o',e1⟩:=u.there c o q hx;obtain⟨s2,e2⟩:=b.slot c _ e1 (by simp);exact⟨_,e2⟩
 jO:=u.jO;jG:=u.jG;kC:=u.kC
end
noncomputable def eY (P:bp)(w:dh)(C:Addr):vC:=λouter H s E e s'=>∃a T H',e=.ref a/\s'.os=s.os/\uz s'.gens/\Un (gS outer) [] H H' s.heap s'.heap/\fH P w H' s'.heap /\ H' a=some (qD a<|.ref C)/\H' T=some (lF T)/\pY s'.heap a T (.ref C) .none/\E (.ref C) (some a) H'
abbrev Au:List Value:=[.type "ValueError", .type "Exception", .type "BaseException", .type "object"]
structure oF (K:ae)(x:Str)(C:Addr):Prop where
 ns:f9 K cq x=some (some<|.ref C)ex:w5 K C Au "ValueError.__new__" = true
 xc:HB K C
set_option tactic.hygienic true in
theorem oF.own {K:ae}{x:Str}{h:Heap}{mg:Str->Option Value}(Z:oF K x C)(X:K.In h)(G:h.Ns cq mg):OwnCls x C Au "ValueError.__new__" mg h:=by
 have z:=Z.ex;refine⟨PySem.W.mg_of X G Z.ns,?_⟩;unfold w5 at z;split at z
 ·rename_i dd cd sl look;split at z
  ·rename_i C' bm k0 k1 k2 k3 n k5 em es;simp![ao,beq_iff_eq,Bool.not_eq_true']at z;obtain⟨⟨⟨⟨⟨rfl,rfl⟩,nodel⟩,tl⟩,okn⟩,ini⟩:=z;obtain⟨nm,bs,mro,ns,qn,hd,sn,sub,ab,col,del⟩:=cd;subst em nodel;have esl:sl = #[k0,k1,k2,k3,some<|.builtin "ValueError.__new__",k5]:=by obtain⟨l⟩:=sl;simp only at es;rw[es]
   subst esl;exact⟨bm,ns,nm,qn,bs,hd,sn,sub,ab,col,dd,k0,k1,k2,k3,k5,_,X _ _ look,.of_isNs<|PySem.W.isNs_of_in X okn,PySem.W.nsMap_none_of_in X okn ini,PySem.W.tail_of_in X tl⟩
  ·cases z
 ·cases z
section
variable {w:dh}{K:ae}{mg:Str->Option Value}{base:Heap}{N:List Str}{qual:Str}{scope:Scope}{f:Addr}{cd:Value}{A:c5}{outer:List Env}{s:aj}{E:L2.XK}{x:Str}
theorem MP {np ap cp:Pos}{tx:Str}{j:Nat}(Z:oF K x C)(hg:scope.names.lookup x=some .globalImplicit)(hd:(x==("__debug__" : Str))=false): PS (dJ (eY P w C) P w K mg base N qual scope f cd A outer s H E) (.Raise (some<|.Call (.Name x np) [.Constant (.str tx) j ap] [] cp) none pos) λD σ H'=>∀a T,H' a=none->H' T=none->a≠T->E (.ref C) (some a) (upd (upd H' a<|qD a<|.ref C) T<|lF T):=by
 intro pz s1 σ H1 D I hE;obtain⟨hm,bm,Nn,nm,q,bs,hdct,sn,sub,ab,col,dd,k0,k1,k2,k3,k5,mN,hC,hN,hni,T⟩:=Z.own I.mod.kin I.mod.glob;refine wpAny_Raise_call_subU (C:=C) (nm:=nm) (q:=q) (N:=Nn) (bs:=bs) (hdct:=hdct) (sn:=sn) (sub:=sub) (ab:=ab) (col:=col) (dd:=dd) (k0:=k0) (k1:=k1) (k2:=k2) (k3:=k3) (k5:=k5) z9 (by cbv) z9 (T.hasType<|by cbv) (I.ok.hd rfl) rfl hni ?_;refine mV I hg hm ⟨rfl,?_⟩ hd;have h2:=(rE (WO (x:=tx) (j:=j) (pos:=ap)) D4) cp pz s1 σ H1 (λvs H'=>vs.length=1/\H'=H1) I ⟨rfl,rfl⟩;refine qj<|bA h2 λus s2 ⟨vs,H2,I2,r,hl,e2⟩=>?_;subst e2;refine⟨rfl,?_,I2.bk _ _ hC,hN.keeps I2.bk,T.keeps I2.bk,λh' e hm=>?_⟩;·have:=r.length;show us.length<=sizeLine;rw[<-this,hl];cbv
 obtain⟨t,et,ht,htt⟩:=hm.there;have hfr:(A.deeper<|jw qual scope s.heap.objs.size f cd).frames=some (jw qual scope s.heap.objs.size f cd::outer):=I2.ok.frames;have fun2:=I2.stack;have funs':h'.FunFrames base<|jw qual scope s.heap.objs.size f cd::outer:=fun2.of_keeps fun b o q _=>⟨o,hm.keeps b o q,rfl⟩;show wpAny (model P w) _ (AaN _<|.ref e) _ _ _;unfold AaN;refine ai<|ZO (base:=base) hfr funs' rfl et rfl rfl rfl fun h3 T b1 n1 f1=>zM f1 fun h4 b2 f2=>?_;have n1:h'.get? T=none:=n1;have b1:gI (gS<|jw qual scope s.heap.objs.size f cd::outer) [e] h' h3:=b1;have b2:gI [] [T] h3 h4:=b2;have n2:s2.heap.get? T=none:=by cases z:s2.heap.get? T with|none=>rfl|some u=>rw[hm.keeps T u z]at n1;cases n1
 have B:gI (gS<|jw qual scope s.heap.objs.size f cd::outer) [] s2.heap h4:=(b1.trans b2.more).old hm.keeps λb z=>.inr (by
  simp![cz,cu]at z;rcases z with rfl|rfl;·exact hm.new
  ·exact n2);have hH1:H2 e=none:=I2.bL.nothing hm.new;have hH2:=I2.bL.nothing n2;have hgs:∀c∈gS<|jw qual scope s.heap.objs.size f cd::outer,c=s.heap.objs.size\/c∈gS outer:=λc z=>by exact List.mem_cons.mp z
 have old:∀b,s2.heap.get? b=none->s.heap.get? b=none:=λb z=>by cases q:s.heap.get? b with|none=>rfl|some u =>obtain⟨v,e⟩:=I2.base.there b u q (by show b∉([]);simp);rw[z]at e;cases e
 have u0:=I2.base;have U:=X6 u0 B hgs<|av _;have K4:=B.ok I2.bL I2.pB (by simp);obtain⟨oe,vs,oT,ts,he,hc,hn,hdd,h1,hTe,hT,hdT,h3'⟩:=f2;have ne:=fq hTe;refine⟨e,T,upd (upd H2 e<|qD e<|.ref C) T<|lF T,rfl,I2.os,I2.bare,Lv U hH1 hH2 (old e hm.new)<|old T n2,?_,?_,dX,⟨oe,vs,oT,ts,he,hc,hn,hdd,h1,hTe,hT,hdT,h3'⟩,hE e T hH1 hH2 ne⟩;·exact(K4.IA hH1<|KR he hc hn hdd).IA (by rw[aY hTe];exact hH2)<|sW hT hdT
 ·rw[aY ne];exact dX
end
structure BZ (K:ae)(C:Addr)(u:Value)(b:Bool):Prop where
 ty:∀(M:Model)(h:Heap),K.In h->gp M h (Zs u) (.type "type")it:∀(M:Model)(h:Heap),K.In h->gp M h (Aa3 u) true
 su:∀(M:Model)(h:Heap),K.In h->gp M h (Abn (.ref C) u) b
 ne:(jq C==u)=false
set_option tactic.hygienic true in
theorem U2 {K:ae}(e:(rg K C).isSome=true){h:Heap}(X:K.In h):gp M h (Aa3<|.ref C) true:=by
 unfold rg at e;split at e;·rename_i ho;intro A Q E s k q;exact ai<|wpAny_loadPart (k _ _<|X _ _ ho)<|a9 q
 ·cases e
theorem PD {K:ae}{C':Addr}(n:(rg K C').isSome=true)(t:vg K (.ref C')=some (.type "type"))(s:i9 K C (.ref C')=some b)(ne:AbT C C'=false):BZ K C (.ref C') b :=⟨λ_ _ X=>PySem.W.looks_typeIn X t,λ_ _ X=>U2 n X,λ_ _ X=>ux X s,Bool.eq_false_iff.mpr λq=>by simp_all⟩
theorem Hf {K:ae}(s:i9 K C (.type "ValueError")=some b):BZ K C (.type "ValueError") b :=⟨λ_ _ _=>zf rfl,λ_ _ _=>zf rfl,λ_ _ X=>ux X s,rfl⟩
variable {X:Cx}
section
variable {u:Value}{v:V}
theorem Em (Z:HB X.K C)(zc:(rg X.K C).isSome=true)(q:BZ X.K C u b)(r:RelV v u)(ru:∀u',RelV v u'->u'=u):pH X (.builtin "isinstance") λvs H Q=>∃a,vs=[.ref a,v]/\H a=some (qD a<|.ref C)/\Q (.bl b) H:=by intro pz s σ H xs us Q I rv h;obtain⟨a,rfl,hH,hQ⟩:=h;cases rv with|cons r1 rv =>cases rv with|cons r2 rv =>cases rv;cases r1;cases ru _ r2;obtain⟨⟨o,vs,e,e1,e2,e3⟩,_,_⟩:=I.bL a _ hH;have inst:kz s.heap a o C none:=⟨e,e1,by unfold PySem.W.notCls;rw[e3],by simp_all⟩;exact Jb I.gR Z inst (λM=>q.ty M _ I.gR) (λM=>q.it M _ I.gR) (λM=>U2 zc I.gR) q.ne (λM=>q.su M _ I.gR) λtk=>⟨.bl b,H,I.tok tk,rfl,hQ⟩
end
section
variable {w:dh}{h h':Heap}{fs ex:List Addr}
theorem EV (B:gI fs ex h h')(hx:∀b∈ex,H b≠none)(ht:∀b∈ex,∃o,h'.get? b=some o):Un fs [] H H h h' where
 keep:=λb o q n hb _=>B.keep b o q hb λz=>hx b z n;slot:=λb o q n _ _=>B.slot b o q λz=>hx b z n;free:=λ_ _ _ n _=>n;there:=λb o q _=>by
  by_cases z:b∈ex;·exact ht b z
  ·obtain⟨sl,e⟩:=B.slot b o q z;exact⟨_,e⟩
 jO:=λ_ _ q=>q;jG:=λ_ _ _ q=>q;kC:=λ_ ps q=>⟨#[],by simp_all⟩
theorem E7 (x:fH P w H h)(B:gI fs ex h h')(hf:∀b∈fs,H b=none)(hx:∀b∈ex,∃φ,H b=some (.ext φ))(hn:∀b∈ex,∀u,H b=some u->gN P w H h' b u):fH P w H h':=λb u e=>by
 by_cases z:b∈ex;·exact hn b z u e
 ·refine(x b u e).qQ (λc v hc q=>B.keep c v q (λy=>?_) λy=>?_) (λ_ q=>q) λ_ _ q=>q
  ·have:=hf c y;rcases hc with rfl|hc;·simp_all
   ·simp_all
  ·rcases hc with rfl|hc;·exact z y
   ·obtain⟨φ,w⟩:=hx c y;rw[hc]at w;cases w
end
noncomputable abbrev mk (X:Cx)(a:Addr):Cx:={ X with A:=X.A.mark<|some<|.ref a,calm:=false,xe:=λ_ _=>False }
variable {pz:List<|Addr×Obj}{σ:L2.St}
theorem UH {s:aj}{a:Addr}(I:Inv X pz σ H s):Inv (mk X a) pz σ H s :=⟨⟨I.ok.mod,I.ok.kind,I.ok.glob,I.ok.blt,I.ok.above,I.ok.inj,I.ok.has,I.ok.cab,λz=>(nomatch z),I.ok.frames,I.ok.stk,I.ok.exf,I.ok.bs,I.ok.bsz,I.ok.noex,I.ok.exfs,I.ok.lA,I.ok.frf⟩,I.os,I.bare,I.base,I.loc,I.cell,I.free,I.jH,I.pin,I.bL,I.len⟩
theorem VX {s:aj}{a:Addr}{h':Heap}{m:Str->Option Value}{t:Nat}(ok:X.Ok)(I:Inv (mk X a) pz σ H s)(hn:h'.Ns X.env.locals m)(hs:mf X.env.locals s.heap h'): Inv X pz (au X.N.length none) H { s with heap:=h',toks:=t }:=by
 have far:∀{b:Addr}{o:Obj},X.s₀.heap.get? b=some o->b≠X.env.locals:=λe=>cj<|cw (bc e) ok.above;refine⟨ok,I.os,I.bare,⟨λb o e n hb hx=>(hs.2 b<|far e).trans<|I.base.keep b o e n hb hx,λb o e n hb hx=>?_,I.base.free,λb o e hx=>?_,I.base.jO,I.base.jG,I.base.kC⟩,⟨m,hn,λi x v _ e _=>?_⟩,λy c e=>?_,I.free,I.jH,λp hp=>?_,λb u e=>?_,by simp⟩;·obtain⟨sl,q⟩:=I.base.slot b o e n hb hx;exact⟨sl,(hs.2 b<|far e).trans q⟩
 ·obtain⟨o',q⟩:=I.base.there b o e hx;exact⟨o',(hs.2 b<|far e).trans q⟩
 ·rw[iq]at e;split at e<;>cases e
 ·obtain⟨v,z⟩:=I.cell y c e;exact⟨v,z.sameBut hs<|I.CA y c e⟩
 ·obtain⟨e,n,ne,nf,d⟩:=I.pin p hp;exact⟨(hs.2 _ ne).trans e,n,ne,nf,d⟩
 ·have fr:=I.free;refine(I.bL b u e).qQ (λc v hc q=>(hs.2 c λz=>?_).trans q) (λ_ q=>q) λ_ _ q=>q;rcases hc with rfl|hc;·simp_all
  ·simp_all
section
variable {s:aj}
theorem DF {K:ae}:∀{ds:List D}{ws:List<|List Nat}{vs:List V}{us:List Value},strsOf ds=some ws->aM K H ds vs->aS vs us->StrsAre us (ws.map λw=>⟨w.toArray⟩)
 |[],ws,vs,us,h,r,v=>by cases h;cases r;cases v;exact .nil|d::ds,ws,vs,us,h,r,v=>by
  cases d<;>first|(cases h)|skip
  simp only[strsOf,ay]at h;obtain⟨ws',h',rfl⟩:=h;cases r with|cons r1 r2 =>cases r1.str_inv;cases v with|cons v1 v2 =>obtain⟨t,rfl⟩:=v1;exact .cons _ t<|DF h' r2 v2
theorem CP (s:List Nat):∀ws:List<|List Nat,Yw ⟨s.toArray⟩ (ws.map λw=>⟨w.toArray⟩)=⟨(aX s ws).toArray⟩|[]=>rfl|[w]=>rfl|w::v::r=>by have ih:=CP s<|v::r;rw[aw]at ih;show⟨_⟩++⟨_⟩++Yw _ (⟨_⟩::r.map _)=_;rw[ih,F8,F8];rfl
theorem FI:∀ws:List<|List Nat,((ws.map λw=>(⟨w.toArray⟩:Str)).map (·.length)).sum=(ws.map fw).sum|[]=>rfl|w::r=>by have:=FI r;simp![aw,gq,this];simp [g8]
set_option tactic.hygienic true in
theorem Ho:vB X "str" "str.join"<|eT .join:=by
 intro pz s σ H st d ds v vs u us R I ok r rv rs rvs q;cases d<;>first|exact q.elim|skip
 rename_i sep;match ds,q with
 |[d],q =>
  cases r.str_inv;obtain⟨t,rfl⟩:=rv;obtain⟨w,rfl,rd⟩:=rs.one;have q:=q;cases d<;>first|exact q.elim|skip
  ·obtain⟨b,ys,rfl,f,g⟩:=rd.cA;obtain⟨uu,rfl,ru⟩:=rvs.one;cases ru;obtain⟨ws,e,q1,q2⟩:=fO q;obtain⟨aD,r1,p1,_⟩:=I.tuple f;refine join_tuple p1 (DF e g<|by simp_all) ?_ λt' k=>?_;·rw[FI];simpa [g8]using q1
   ·rw[show Txt.join ⟨sep.toArray⟩ _=Yw ⟨sep.toArray⟩ _ from zg _ _,CP];exact⟨.str _,H,I.tok _,⟨_,rfl⟩,.here ok (.str _) q2⟩
  ·cases rd.cY;obtain⟨uu,rfl,ru⟩:=rvs.one;cases ru;obtain⟨xs,e0,q⟩:=dP q;obtain⟨ws,e,q1,q2⟩:=fO q;obtain⟨ys,g1,g2⟩:=ok.lst e0;obtain⟨z,aD,n,r1,hl,eh⟩:=I.tY g1;refine join_list ⟨_,eh,rfl,n,rfl⟩ (DF e g2<|by simp_all) ?_ λt' k=>?_;·rw[FI];simpa [g8]using q1
   ·rw[show Txt.join ⟨_⟩ _=Yw ⟨_⟩ _ from zg _ _,CP];exact⟨.str _,H,I.tok _,⟨_,rfl⟩,.here ok (.str _) q2⟩|[],q=>exact q.elim|_::_::_,q=>exact q.elim
theorem IQ (z w:List Nat)(i:Int)(h0:0<=i)(h1:i<=z.length):AaJ ⟨z.toArray⟩ ⟨w.toArray⟩ i=w.isPrefixOf (z.drop i.toNat):=by
 unfold AaJ fromIndex;rw[Aaw];have e:(max 0<|if i<0 then i+(⟨z.toArray⟩:Str).length else i).toNat=i.toNat:=by rw[if_neg<|Int.not_lt.mpr h0,Aap h0]
 rw[e];have l1:(⟨z.toArray⟩:Str).length=z.length:=rfl;have l2:(⟨_⟩:Str).length=w.length:=rfl;rw[l2];rw[fc];simp![ao,decide_eq_true_eq,beq_iff_eq,vn];constructor;·rintro⟨_,h⟩;exact⟨(z.drop _).drop _,by have:=zh w.length<|z.drop i.toNat;rw[h]at this;exact this⟩
 ·rintro⟨t,h⟩;refine⟨?_,?_⟩;·have:=congrArg fw h;rw[ah,bz]at this;lia
  ·rw[<-h,List.take_left]
theorem SX (z w:List Nat):Txt.startswith ⟨z.toArray⟩ ⟨w.toArray⟩=w.isPrefixOf z:=IQ z w 0 (by lia)<|by lia
set_option tactic.hygienic true in
theorem VM:vB X "str" "str.startswith"<|eT .startswith:=by
 intro pz s σ H st d ds v vs u us R I ok r rv rs rvs q;cases d<;>first|exact q.elim|skip
 rename_i z;match ds,q with|[.str w],q =>cases r.str_inv;obtain⟨t,rfl⟩:=rv;obtain⟨v1,rfl,rd⟩:=rs.one;cases rd.str_inv;obtain⟨uu,rfl,ru⟩:=rvs.one;obtain⟨t1,rfl⟩:=ru;refine SC.startswith ?_;rw[SX];exact⟨.bl _,H,I,rfl,.here ok (.bl _) q.2⟩|[.str w,.int i],q =>cases r.str_inv;obtain⟨t,rfl⟩:=rv;cases rs with|cons ra rb =>cases rb with|cons rb rc =>cases rc;cases ra.str_inv;cases rb.int_inv;cases rvs with|cons va vb =>cases vb with|cons vb vc =>cases vc;obtain⟨t1,rfl⟩:=va;obtain⟨t2,rfl⟩:=vb;refine SC.startswith3 ?_;rw[IQ z w i q.1.2.1 q.1.2.2];exact⟨.bl _,H,I,rfl,.here ok (.bl _) q.2⟩
end
section
variable {C:aU}{sub:Nat->Nat->Bool}{E:XK}{a b c e o:cy}{x y z:Ex}{apos fX:Pos}
theorem uN {m:MT}{name:Str}{id:String}{es:List cy}{xs:List Ex}(hrc:∀d st,oV m d st->∃z,d=.str z)(slot:Slot "str" name id)(hty:Zs (.builtin id)=pure (.type "method_descriptor"))(hm:vB X "str" id<|eT m)(ho:PE X o<|bW X.K<|aI C sub E x)(ha:PA X (e::es)<|gY X.K<|bB C sub E xs)(dR:ei o name X.env (eval o X.env)=eval o X.env)(iG:xX X fX (e::es)=true)(dS:(apos.endLine==fX.line)=true)(hs:sE X e es)(eI:sN X fX es):PE X (.Call (.Attribute o name apos) (e::es) [] fX) (bW X.K<|aI C sub E<|.bP m x xs) :=(Bg PySem.F.plainAttrs_str slot hty hm.mt ho ha dR iG dS hs eI).imp λσ H Q ⟨ac,st,R,r,ok,q,hq⟩=>by
 refine⟨ac,st,_,r,ok,q,λv H1 ⟨d,aC,s1,aR,r1,q1⟩=>⟨?_,?_⟩⟩;·obtain⟨z,rfl⟩:=hrc _ _ q1.1;cases r1.str_inv;rfl
 refine⟨ac,aC,_,r.step ok s1,aR,q1.2,λvs H2 ⟨ds,aJ,s2,cG,r2,q2⟩=>?_⟩;exact⟨d,ds,aJ,R,r1.step aR s2,r2,cG,q2,λv H' z=>hq _ _<|.after (s1.trans s2) z⟩
end
end L3
end
section
namespace L3
open PySem PySem.Spec PyProof.Rows PyProof.V L2
theorem Aax (w:List Nat):∀T:List<|Str×PyData,(T.all λp=>kK p.2)=true->(∃e,mn (⟨w.toArray⟩:Str) (T.map λp=>(p.1,u4 p.2))=some (.flat e)/\kK e=true/\eO (T.map λp=>.str p.1.cps.toList) (T.map λp=>rD p.2) (.str w)=some (rD e)) \/ (mn (⟨w.toArray⟩:Str) (T.map λp=>(p.1,u4 p.2))=none/\eO (T.map λp=>.str p.1.cps.toList) (T.map λp=>rD p.2) (.str w)=none)
 |[],_=>.inr ⟨rfl,rfl⟩|(x,e)::T,a=>by
  simp![fm,ao]at a;show(∃e',(if decide _=true then some _ else mn _ _)=some _/\kK e'=true/\(if(x.cps.toList==w)=true then some _ else eO _ _ _)=some _) \/ (if decide _=true then some _ else mn _ _)=none/\(if(x.cps.toList==w)=true then some _ else eO _ _ _)=none;rw[NI];by_cases c:(x.cps.toList==w)=true;·simp_all
  ·rw[if_neg c,if_neg c];exact Aax w T a.2
section
variable {X:Cx}{C:aU}{sub:Nat->Nat->Bool}{E:XK}{a b c e o:cy}{es:List cy}{x y z:Ex}{xs:List Ex}{pos apos fX:Pos}
set_option tactic.hygienic true in
theorem Qo (ho:PE X o<|bW X.K<|aI C sub E x)(ha:PA X (e::es)<|gY X.K<|bB C sub E xs)(dR:ei o "get" X.env (eval o X.env)=eval o X.env)(iG:xX X fX (e::es)=true)(dS:(apos.endLine==fX.line)=true)(hs:sE X e es)(eI:sN X fX es):PE X (.Call (.Attribute o "get" apos) (e::es) [] fX)<|bW X.K<|aI C sub E<|.bP .get x xs:=by
 intro pz s σ H Q I ⟨ac,st,R,r,ok,q,hq⟩;refine yd dR iG dS rfl<|bA (ho pz s σ H _ I ⟨ac,st,_,r,ok,q,λv H' z=>z⟩) λv s1 ⟨xv,H1,I1,r1,d,aC,dU,aR,rd,q1,q2⟩=>?_;cases d<;>first|exact(show False from q1).elim|skip
 rename_i ks vs;obtain⟨p,rfl,T,hT,hsd,rfl,rfl⟩:=rd.C2;cases r1;have hh:=vI I1 hT;refine⟨"dict","dict.get", PySem.F.plainAttrs_dict,zi,PySem.F.type_dict_get,hh.typeIs,hh.noDict,?_⟩;have hA:=ha fX pz s1 σ H1 _ I1 ⟨ac,aC,_,r.step ok dU,aR,q2,λvs H' z=>z⟩;rw[hs]at hA ⊢;refine oq (by show(false||(jr fX<|cb es X.env).any (·.1))=false;rw[eI]<;>rfl)<|qj ?_;refine bA hA λus s2 ⟨ws,H2,I2,r2,ds,aJ,kR,cG,rs2,q3⟩=>?_;match ds,q3 with
 |[.str w],q3 =>
  obtain⟨wv,rfl,rw1⟩:=rs2.one;obtain⟨u,rfl,ru⟩:=r2.one;cases rw1.str_inv;obtain⟨t,rfl⟩:=ru;have h2:=vI I2 hT;have q3:R ((eO _ _<|.str w).getD .non) aJ:=q3;refine call_meetsIn zi h2.typeIs PySem.F.entry_dict_get (PySem.F.args_dict_get_2 _ _) (KTD.meets_get1 (h₀:=s2.heap)) ⟨h2,λd v hd hv=>?_,λhn=>?_⟩
  ·rcases Aax w T hsd with⟨e',e1,e2,e3⟩|⟨e1,e3⟩
   ·rw[e1]at hd;cases hd;rw[e3]at q3;have hv:Flat v e':=hv;obtain⟨wv,rw'⟩:∃wv,RelV wv v:=by cases e' with|none=>cases Flat.none_inv hv;exact⟨.non,rfl⟩|bool b=>cases Flat.bool_inv hv;exact⟨.bl b,rfl⟩|int i=>obtain⟨t,rfl⟩:=Flat.int_inv hv;exact⟨.int i,⟨t,rfl⟩⟩|str x=>obtain⟨t,rfl⟩:=Flat.str_inv hv;exact⟨.str x,⟨t,rfl⟩⟩|_=>cases e2
    exact⟨wv,H2,I2.tok _,rw',hq _ _<|.after (dU.trans kR)<|.here cG (LM e2 rw' hv) q3⟩
   ·rw[e1]at hd;cases hd
  ·rcases Aax w T hsd with⟨e',e1,e2,e3⟩|⟨e1,e3⟩;·rw[e1]at hn;cases hn
   ·rw[e3]at q3;exact⟨.non,H2,I2.tok _,rfl,hq _ _<|.after (dU.trans kR)<|.here cG .non q3⟩
theorem IE (ho:JE X C sub E o x)(ha:JA X C sub E (e::es) xs)(dR:ei o "join" X.env (eval o X.env)=eval o X.env:=by kernel_rfl)(iG:xX X pos (e::es)=true:=by kernel_rfl)(dS:(apos.endLine==pos.line)=true:=by kernel_rfl)(hs:sE X e es:=by kernel_rfl)(eI:sN X pos es:=by kernel_rfl):JE X C sub E (.Call (.Attribute o "join" apos) (e::es) [] pos) (.bP .join x xs) :=⟨uN (λd st h=>by cases d<;>first|exact h.elim|exact⟨_,rfl⟩) PySem.F.slot_str_join PySem.F.type_str_join Ho ho.h ha.h dR iG dS hs eI⟩
theorem Uk (ho:JE X C sub E o x)(ha:JA X C sub E (e::es) xs)(dR:ei o "startswith" X.env (eval o X.env)=eval o X.env:=by kernel_rfl)(iG:xX X pos (e::es)=true:=by kernel_rfl)(dS:(apos.endLine==pos.line)=true:=by kernel_rfl)(hs:sE X e es:=by kernel_rfl)(eI:sN X pos es:=by kernel_rfl):JE X C sub E (.Call (.Attribute o "startswith" apos) (e::es) [] pos) (.bP .startswith x xs) :=⟨uN (λd st h=>by cases d<;>first|exact h.elim|exact⟨_,rfl⟩) PySem.F.slot_str_startswith PySem.F.type_str_startswith VM ho.h ha.h dR iG dS hs eI⟩
theorem Uv (ho:JE X C sub E o x)(ha:JA X C sub E (e::es) xs)(dR:ei o "get" X.env (eval o X.env)=eval o X.env:=by z_go)(iG:xX X pos (e::es)=true:=by z_go)(dS:(apos.endLine==pos.line)=true:=by z_go)(hs:sE X e es:=by z_go)(eI:sN X pos es:=by z_go):JE X C sub E (.Call (.Attribute o "get" apos) (e::es) [] pos)<|.bP .get x xs:=⟨Qo ho.h ha.h dR iG dS hs eI⟩
end
end L3
end
section
namespace L3
theorem ME (c:Nat)(s:List Nat):aN c s≠[]:=by cases s with|nil=>simp [aN]|cons x s =>
 simp![aN];split;·simp
 ·split<;>simp
theorem join_cons {c:Nat}{w:List Nat}{r:List<|List Nat}(h:r≠[]):aX [c] (w::r)=w++c::aX [c] r:=by cases r with|nil=>exact absurd rfl h|cons v r=>simp [aX]
theorem B9 (c:Nat):∀w:List Nat,c∉w->aN c w=[w]|[],_=>rfl|x::w,h=>by simp![ba,not_or]at h;simp![aN,B9 c w h.2];rw[if_neg λz=>h.1 z.symm]
theorem AO (c:Nat)(s:List Nat):∀w:List Nat,c∉w->aN c (w++c::s)=w::aN c s|[],_=>by simp [aN]|x::w,h=>by simp![ba,not_or]at h;simp![d7,aN,AO c s w h.2];rw[if_neg λz=>h.1 z.symm]
theorem rC (c:Nat):∀ws:List<|List Nat,ws≠[]->(∀w∈ws,c∉w)->aN c (aX [c] ws)=ws|[],h,_=>absurd rfl h|[w],_,h=>by exact B9 c w<|h w<|by simp|w::v::r,_,h=>by rw[join_cons<|by simp,AO c _ w<|h w<|by simp,rC c _ (by simp) λx hx=>h x<|by simp [hx]]
theorem El (w:List Nat)(c:Nat):val (w++[c])=10*val w+(c-48):=by simp [val,List.foldl_append]
theorem VF (n:Nat):val (dg n)=n:=by induction n using uo with|_ n ih =>
 unfold dg;split;·simp [val]
 ·rw[El,ih _<|by lia];lia
theorem RO (n:Nat):(dg n).all iP=true:=by induction n using uo with|_ n ih =>
 unfold dg;split;·simp![fm,iP];simp;lia
 ·rw[yw,ih _<|by lia];simp![fm,iP];simp;lia
theorem RL (n:Nat):dg n≠[]:=by unfold dg;split<;>simp
theorem vM {n:Nat}(h:n<100):(dg n).length<=2:=by
 unfold dg;split;·simp
 ·unfold dg;rw[if_pos<|by lia];simp
theorem E3 {n c:Nat}(hc:iP c=false):c∉dg n:=λh=>by have:=List.all_eq_true.mp (RO n) c h;rw[hc]at this;cases this
theorem O8 {c s:Nat}(hc:c≠s):∀ws:List<|List Nat,(∀w∈ws,c∉w)->c∉aX [s] ws|[],_=>by simp [aX]|[w],h=>by exact h w<|by simp|w::v::r,h=>by rw[join_cons<|by simp];simp![cz,ba,not_or];exact⟨h w<|by simp,hc,O8 hc _ λx hx=>h x<|by simp [hx]⟩
noncomputable def cB {α β:Type}(g:α->Option β):List α->Option (List β)|[]=>some []|a::r=>(g a).bind λb=>(cB g r).map (b :: ·)
theorem X4 {c:Nat}{a b:List Nat}(h:c∉a):part c (a++c::b)=(a,b):=by induction a with|nil=>simp [part]|cons x a ih =>
 simp![ba,not_or]at h;have ih:=ih h.2;unfold part at ih ⊢;have e:(x != c)=true:=by simpa using λz=>h.1 z.symm
 rw[d7,gw,kl,e];simp![if_true,gx]at ih ⊢;exact⟨by rw[ih.1],ih.2⟩
theorem nQ {α β γ:Type}{g:β->Option γ}{f:α->β}{h:α->γ}:∀{xs:List α},(∀x∈xs,g (f x)=some (h x))->cB g (xs.map f)=some (xs.map h)|[],_=>rfl|x::r,q=>by have ih:=nQ λy hy=>q y<|fg _ hy;simp![aw,cB,q x gk ..,bg,ih,gz]
theorem iT {α β:Type}{g:α->Option β}:∀{as:List α}{bs:List β},cB g as=some bs->bs.length=as.length|[],bs,h=>by cases h;rfl|a::as,bs,h=>by simp![cB,bb,ay]at h;obtain⟨b,h1,bs',h2,rfl⟩:=h;simp [iT h2]
end L3
end
section
namespace L3
open PySem PySem.Spec PyProof.Rows PyProof.V L2
theorem LI:∀d:Nat,d<10->(Zo d).toNat=48+d:=by cbv
set_option tactic.hygienic true in
theorem UX (n:Nat):(yi 10 n).map Char.toNat=dg n:=by induction n using uo with|_ n ih =>
 unfold dg;split;·rename_i h;rw[xj h];show[(Zo n).toNat]=_;rw[LI n h]
 ·have hm:n % 10<10:=Nat.mod_lt n (by cbv);have t:yi 10 (n / 10)++yi 10 _=yi 10 _:=Nat.toDigits_append_toDigits (by cbv) (by lia) hm;rw[Nat.div_add_mod]at t;rw[<-t,eu,xj hm,ih _<|by lia];show _++[(Zo _).toNat]=_;rw[LI _ hm]
theorem D5 (c:Nat):∀ps:List Str,(Yw ⟨#[c]⟩ ps).cps.toList=aX [c] (ps.map λp=>p.cps.toList)|[]=>rfl|[p]=>rfl|p::q::r=>by have ih:=D5 c<|q::r;show(p++⟨_⟩++Yw _ _).cps.toList=_;rw[Aa4,uw,ih,Aa4,uw];rfl
theorem K5 (x:List Nat)(c:Nat):(vd ⟨x.toArray⟩ ⟨#[c]⟩).map (λp=>p.cps.toList)=aN c x:=by
 have h1:=congrArg (λp=>p.cps.toList)<|StrLaws.join_split ⟨x.toArray⟩ ⟨#[c]⟩;rw[D5]at h1;have h2:=StrLaws.split_free ⟨x.toArray⟩ c;have h3:vd ⟨x.toArray⟩ ⟨#[c]⟩≠[]:=by
  unfold vd;split;·simp
  ·split;·simp
   ·rw[StrLaws.partsBetween_eq];obtain⟨p,r,e⟩:=StrLaws.partsFrom_ne _ _ 0 _;rw[e];simp
 generalize vd _ _=ps at *;have h1:=by simpa using h1
 rw[<-h1];exact(rC c _ (by simp_all) λw hw=>by obtain⟨p,hp,rfl⟩:=List.mem_map.mp hw;exact h2 p hp).symm
theorem Dq (x:List Nat)(c:Nat):(ng ⟨x.toArray⟩ ⟨#[c]⟩).1.cps.toList=(part c x).1/\(ng ⟨x.toArray⟩ ⟨#[c]⟩).2.1.cps.toList=(if x.any (·== c)=true then[c]else[])/\(ng ⟨x.toArray⟩ ⟨#[c]⟩).2.2.cps.toList=(part c x).2:=by
 unfold ng part;rcases StrLaws.occ_head ⟨x.toArray⟩ ⟨#[c]⟩ 1 (av 1)with⟨h0,hn⟩|⟨i,r,h0,hi,hn⟩
 ·have hfree:c∉x:=λhm=>by obtain⟨j,hj⟩:=List.getElem?_of_mem hm;exact hn j<|(wm ⟨x.toArray⟩ c j).mpr<|by simpa using hj
  rw[h0];have e1:x.any (·== c)=false:=by rw[p8];intro y hy z;exact hfree<|by rw[<-beq_iff_eq.mp z];exact hy
  have e2:∀l:List Nat,c∉l->l.takeWhile (·!= c)=l:=λl=>by induction l with|nil=>intro _;rfl|cons y l ih =>intro h;simp![ba,not_or]at h;rw[vq<|by simpa using λz=>h.1 z.symm,ih h.2]
  refine⟨by simp [e2 x hfree],by rw[e1];rfl,by rw[dropWhile_none hfree];rfl⟩
 ·have hm:=by have:=(wm ⟨x.toArray⟩ c i).mp hi;simpa using this
  have hk:=λk hk e=>hn k hk ((wm ⟨x.toArray⟩ c k).mpr<|by simpa using e);rw[h0];have e1:x.any (·== c)=true:=List.any_eq_true.mpr ⟨c,dj hm,by simp⟩;have e2:∀(l:List Nat)(i:Nat),l[i]? = some c->(∀k,k<i->l[k]?≠some c)->l.takeWhile (·!= c)=l.take i:=λl=>by induction l with
   |nil=>intro i h;simp at h
   |cons y l ih =>intro i h hn;cases i with|zero =>
     have e:=by simpa using h
     rw[List.takeWhile_cons_of_neg<|by simp [e]];rfl|succ i =>have h1:y≠c:=λe=>hn 0 (by lia) (by simp [e]);rw[vq<|by simp [h1],ih i (by simpa using h) λk hk=>by have:=hn (k+1) (by lia);simpa using this];rfl
  refine⟨?_,by rw[e1];rfl,?_⟩;·rw[e2 x i hm hk];rw[zj];simp
  ·rw[dropWhile_at hm hk];rw[zj];simp![g8];exact tq<|by simp
theorem Gc (z w:List Nat):Abw ⟨z.toArray⟩ ⟨w.toArray⟩=w.isSuffixOf z:=by
 unfold Abw;rw[Aaw];have l1:(⟨_⟩:Str).length=z.length:=rfl;have l2:(⟨_⟩:Str).length=w.length:=rfl;rw[l1,l2];rw[fc];simp![ao,decide_eq_true_eq,beq_iff_eq,vt];constructor;·rintro⟨h1,h⟩;rw[tq<|by simp_all]at h;exact⟨z.take<|z.length-w.length,by rw[<-h,bz,Nat.sub_sub_self<|Nat.sub_le ..,zh]⟩
 ·rintro⟨t,rfl⟩;simp_all
section
variable {prog:bp}{w:dh}{A:c5}{E:Value->aj->Prop}{s:aj}{x:Str}{t:Tok}{Q:Value->aj->Prop}
theorem Q5 {y:Str}{u:Tok}(hy:(y.length==0)=false)(hq:∀l k,l.map (·.1)=vd x y->Q (.ref s.heap.objs.size) { s with heap:=s.heap.push { cls:=.type "list", data:=.seq (strValues l).toArray },toks:=k })(oB:x.length<=sizeLine)(hsz2:(vd x y).length<=sizeLine):wpAny (model prog w) A (call (.builtin "str.split") [.str x t,.str y u]) Q E s:=by
 cases h1:(decide (x.length<y.length)||decide (Zi x<Zi y))
 ·cases hf:(ik x y 0 x.length<|x.length+1).isEmpty;·have es:vd x y=Builtin.Str.partsBetween x (ik x y 0 x.length<|x.length+1) y.length:=(if_neg<|ne_true_of_eq_false h1).trans<|if_neg<|ne_true_of_eq_false hf;refine mv pe (vj _ _ _) r9 (rh _ _) (meets_str_split_sep x y t u h1 hy hf oB<|es▸hsz2) ?_;rw[strsFrom_eq];exact hq (numbered s.toks _) _<|(numbered_texts _ _).trans ((if_neg<|ne_true_of_eq_false h1).trans<|if_neg<|ne_true_of_eq_false hf).symm
  ·exact mv pe (vj _ _ _) r9 (rh _ _) (meets_str_split_not_found x y t u h1 hy hf)<|hq [(x,t)] _ ((if_neg<|ne_true_of_eq_false h1).trans<|if_pos hf).symm
 ·exact mv pe (vj _ _ _) r9 (rh _ _) (meets_str_split_cannot_occur x y t u h1)<|hq [(x,t)] _ (if_pos h1).symm
theorem VD {y:Str}{u:Tok}(hy:(y.length==0)=false)(h:∀ta tb tc k,Q (.ref s.heap.objs.size) { s with heap:=s.heap.push { cls:=.type "tuple", data:=.seq [.str (ng x y).1 ta,.str (ng x y).2.1 tb,.str (ng x y).2.2 tc].toArray },toks:=k })(oB:x.length<=sizeLine):wpAny (model prog w) A (call (.builtin "str.partition") [.str x t,.str y u]) Q E s:=by refine mv vv (vj _ _ _) PySem.F.entry_str_partition (PySem.F.args_str_partition_2 _ _) (meets_str_partition x y t u hy oB) ?_;have h':=h;unfold ng at h';revert h';cases ik x y 0 _ 1 with|nil=>intro h';exact h' _ _ _ _|cons i r=>intro h';exact h' _ _ _ _
end
theorem uL {K:ae}{H:Hp}{w:List Nat}{p:Str}(h:p.cps.toList=w):Rep K H (.str w)<|.str p:=by
 have:p=⟨w.toArray⟩:=by rw[<-h]
 rw[this];exact .str w
theorem HK {K:ae}{H:Hp}:∀ps:List Str,aM K H ((ps.map λp=>p.cps.toList).map .str)<|ps.map .str|[]=>.nil|p::r=>.cons (uL rfl)<|HK r
theorem HP:∀l:List<|Str×Tok,aS ((l.map (·.1)).map .str)<|strValues l|[]=>.nil|p::r=>.cons ⟨p.2,rfl⟩<|HP r
section
variable {X:Cx}
set_option tactic.hygienic true in
theorem X0:vB X "str" "str.split"<|eT .split:=by
 intro pz s σ H st d ds v vs u us R I ok r rv rs rvs q;cases d<;>first|exact(q).elim|skip
 rename_i z;match ds,q with
 |[.str [c]],q =>
  cases r.str_inv;obtain⟨t,rfl⟩:=rv;obtain⟨w,rfl,rd⟩:=rs.one;cases rd.str_inv;obtain⟨uu,rfl,ru⟩:=rvs.one;obtain⟨t1,rfl⟩:=ru;have q:z.length<aL/\((aN c z).map D.str).length<=aL/\∀p,st p=none->R (.ref p) (put st p<|.lst<|(aN c z).map .str):=q;have el:(⟨z.toArray⟩:Str).length=z.length:=rfl;refine Q5 (y:=⟨#[c]⟩) rfl (λl k hl=>?_) (by rw[el,ku];have:aL=16777216:=rfl;omega) ?_
  ·have e:=K5 z c;rw[<-hl]at e;have hz:((l.map (·.1)).map V.str).length<=sizeLine:=by rw[af,<-af,e,<-af];exact q.2.1
   refine⟨.ref _,_,I.S2 (HP l) hz,rfl,.fW ok ?_ I.fresh q.2.2⟩;rw[<-e];exact HK _
  ·rw[<-af,K5,<-af];exact q.2.1
set_option tactic.hygienic true in
theorem Eh:vB X "str" "str.partition"<|eT .partition:=by
 intro pz s σ H st d ds v vs u us R I ok r rv rs rvs q;cases d<;>first|exact q.elim|skip
 rename_i z;match ds,q with|[.str [c]],q =>cases r.str_inv;obtain⟨t,rfl⟩:=rv;obtain⟨w,rfl,rd⟩:=rs.one;cases rd.str_inv;obtain⟨uu,rfl,ru⟩:=rvs.one;obtain⟨t1,rfl⟩:=ru;obtain⟨e1,e2,e3⟩:=Dq z c;refine VD rfl (λta tb tc k=>?_) (by exact q.1);refine⟨.ref _,_,I.laid (λb o e=>aq _ e) (av _)<|show gN _ _ _ _ _<|.tup [.str _,.str _,.str _]from⟨by show 3<=_;decide,_,.cons ⟨ta,rfl⟩<|.cons ⟨tb,rfl⟩<|.cons ⟨tc,rfl⟩ .nil,oS.new _ _⟩,rfl,.F9 ok (.cons (uL e1)<|.cons (uL e2)<|.cons (uL e3) .nil) I.fresh q.2⟩
theorem Gv:vB X "str" "str.endswith"<|eT .endswith:=by
 intro pz s σ H st d ds v vs u us R I ok r rv rs rvs q;cases d<;>first|exact q.elim|skip
 match ds,q with|[.str w],q =>cases r.str_inv;obtain⟨t,rfl⟩:=rv;obtain⟨v1,rfl,rd⟩:=rs.one;cases rd.str_inv;obtain⟨uu,rfl,ru⟩:=rvs.one;obtain⟨t1,rfl⟩:=ru;refine SC.endswith ?_;rw[Gc];exact⟨.bl _,H,I,rfl,.here ok (.bl _) q.2⟩
theorem Hu {i:Int}(h0:0<=i)(h1:i<1000000):i.natAbs.log2<1920:=by
 have h:i.natAbs<2 ^ 20:=by lia
 by_cases h0:i.natAbs=0;·rw[h0];cbv
 ·exact cw ((Nat.log2_lt h0).mpr h)<|by cbv
theorem JF:tH X (.type "str")<|iI .str:=by intro pz s σ H st ds vs us R I ok r rv q;match ds,q with
 |[d],q =>
  cases d<;>first|exact q.elim|skip
  ·obtain⟨v,rfl,rd⟩:=r.one;cases rd.int_inv;obtain⟨u,rfl,t,rfl⟩:=vals1 rv;refine P.str_of_int (Hu q.1.1 q.1.2) ?_;·obtain⟨m,rfl⟩:=Int.eq_ofNat_of_zero_le q.1.1;refine⟨.str _,H,I.tok _,⟨_,rfl⟩,.here ok (uL ?_) q.2⟩;rw[PySem.W.KIN.signs_num,UX];rfl
  ·exact(dP q).elim λ_ z=>z.2.elim|[],q=>exact q.elim|a::_::_,q=>exact(show False by cases a<;>exact q).elim
end
section
variable {X:Cx}{C:aU}{sub:Nat->Nat->Bool}{E:XK}{a b c e o:cy}{es:List cy}{x y z:Ex}{xs:List Ex}{pos apos fX:Pos}
theorem Xu (ho:JE X C sub E o x)(ha:JA X C sub E (e::es) xs)(dR:ei o "endswith" X.env (eval o X.env)=eval o X.env:=by kernel_rfl)(iG:xX X pos (e::es)=true:=by kernel_rfl)(dS:(apos.endLine==pos.line)=true:=by kernel_rfl)(hs:sE X e es:=by kernel_rfl)(eI:sN X pos es:=by kernel_rfl):JE X C sub E (.Call (.Attribute o "endswith" apos) (e::es) [] pos) (.bP .endswith x xs) :=⟨uN (λd st h=>by cases d<;>first|exact h.elim|exact⟨_,rfl⟩) PySem.F.slot_str_endswith PySem.F.type_str_endswith Gv ho.h ha.h dR iG dS hs eI⟩
theorem LB (ho:JE X C sub E o x)(ha:JA X C sub E (e::es) xs)(dR:ei o "split" X.env (eval o X.env)=eval o X.env:=by kernel_rfl)(iG:xX X pos (e::es)=true:=by kernel_rfl)(dS:(apos.endLine==pos.line)=true:=by kernel_rfl)(hs:sE X e es:=by kernel_rfl)(eI:sN X pos es:=by kernel_rfl):JE X C sub E (.Call (.Attribute o "split" apos) (e::es) [] pos) (.bP .split x xs) :=⟨uN (λd st h=>by cases d<;>first|exact h.elim|exact⟨_,rfl⟩) pe PySem.F.type_str_split X0 ho.h ha.h dR iG dS hs eI⟩
theorem Xv (ho:JE X C sub E o x)(ha:JA X C sub E (e::es) xs)(dR:ei o "partition" X.env (eval o X.env)=eval o X.env:=by kernel_rfl)(iG:xX X pos (e::es)=true:=by kernel_rfl)(dS:(apos.endLine==pos.line)=true:=by kernel_rfl)(hs:sE X e es:=by kernel_rfl)(eI:sN X pos es:=by kernel_rfl):JE X C sub E (.Call (.Attribute o "partition" apos) (e::es) [] pos) (.bP .partition x xs) :=⟨uN (λd st h=>by cases d<;>first|exact h.elim|exact⟨_,rfl⟩) vv PySem.F.type_str_partition Eh ho.h ha.h dR iG dS hs eI⟩
end
end L3
end
section
namespace L3
open PySem PySem.Spec PyProof.Rows L2
noncomputable abbrev xN:Nat:=3
noncomputable def EE (K:ae)(EX:XK):L2.XK:=λ_ _ H'=>∃aA,aQ K aA H'/\EX xN aA
inductive yC (K:ae)(C:aU)(f:Nat)(vs:List V)(H:Hp)(Q:L2.VK)(E:L2.XK):Prop where |mk (ds:List D)(st:aB)(R:VK)(EX:XK)(r:aM K H ds vs)(ok:aQ K st H)(q:C f ds st R EX)(hq:∀v H',QD K H st R v H'->Q v H')(hE:∀cl a H',EE K EX cl a H'->E cl a H'):yC K C f vs H Q E
variable {C:aU}{vs:List V}{H:Hp}{Q:Unit->aj->Prop}{E:L2.XK}
theorem jK.x {K:ae}{f:Nat}{Q:L2.VK}{E':L2.XK}(h:jK K C f vs H Q E):yC K C f vs H Q E' :=let⟨ds,st,R,r,ok,q,hq⟩:=h;⟨ds,st,R,_,r,ok,q,hq,λ_ _ _ z=>let⟨_,_,z⟩:=z;z.elim⟩
variable {P:bp}{k:Nat}{Cl:Addr}
theorem cD.calm {w:dh}{K:ae}{mg:Str->Option Value}{base:Heap}{f:Nat}{a:Addr}{fd:fh}{ps:List Str}(F:cD P w K mg base (eY P w Cl) k a fd ps<|yC K C f):cD P w K mg base gG k a fd ps (jK K C f) :=⟨λvs H Q E q=>F.len vs H Q E q.x,λA outer s H args us vs Q E hr he hb hv hs=>mh (F.run A outer s H args us vs Q (λ_ _ _=>False) hr he hb hv hs.x) λres s' h=>by cases res with|ok fl=>cases fl<;>exact h|error e=>obtain⟨_,_,_,_,_,_,_,_,_,_,_,z⟩:=h;exact z⟩
variable {qual:Str}{scope:Scope}{cd:Value}{EX:XK}{cp pos:Pos}{t:List Nat}
section
variable {w:dh}{K:ae}{mg:Str->Option Value}{base:Heap}{N:List Str}{f:Addr}{A:c5}{outer:List Env}{s:aj}
theorem Bu (hE:∀cl a H',EE K EX cl a H'->E cl a H'):gA (eY P w Cl) (dJ (eY P w Cl) P w K mg base N qual scope f cd A outer s H E)<|EE K EX:=by
 intro pz σ H1 s1 e s' I hx;obtain⟨a,T,H',rfl,os,bare,un,bL,ha1,hT1,fly,aA,dD,ex'⟩:=hx;have I2:=I.nS (ch:=[]) os un bL bare fun _ z=>nomatch z;have hfr:(A.deeper<|jw qual scope s.heap.objs.size f cd).frames=some (jw qual scope s.heap.objs.size f cd::outer):=I2.ok.frames;have fun2:=I2.stack;have sfr:=I2.pB;show wpAny (model P w) _ (AaN _<|.ref a) _ _ _;unfold AaN;refine ai<|QH (base:=base) hfr fun2 rfl fly fun h2 T' b1 n1 f1 hT2=>zM f1 fun h3 b2 f2=>?_;have b2:gI [] [T'] h2 h3:=b2;have n1:=n1;have B:=(b1.trans b2.more).old (fun _ _ z=>z) fun b z=>by
  rcases List.mem_append.mp z with z|z;·exact .inl z
  ·exact .inr<|by rw[List.mem_singleton.mp z];exact n1
 obtain⟨oe,ws,oT,ts,xe,xc,xn,xd,x1,xTe,xT,xdT,x3⟩:=id f2;have TT':T≠T':=λz=>by rw[z]at hT1;obtain⟨u,e⟩:=(I2.bL T' _ hT1).here;rw[n1]at e;cases e
 obtain⟨o2,ts2,e2,d2⟩:=hT2;have hT3:=b2.keep T o2 e2 (by simp) (by simpa using TT');have nT':=I2.bL.nothing n1;have aT':a≠T':=λz=>by rw[z,nT']at ha1;cases ha1
 have U:Un (gS<|jw qual scope s.heap.objs.size f cd::outer) [] H' H' s'.heap h3:=EV B (λb z=>by
  simp![ba,bj,or_false]at z;rcases z with rfl|rfl;·rw[ha1];intro y;cases y
  ·rw[hT1];intro y;cases y) λb z=>by
  simp![ba,bj,or_false]at z;rcases z with rfl|rfl;·exact⟨_,xe⟩
  ·exact⟨_,hT3⟩
 have K3:=E7 I2.bL B sfr (λb z=>by
  simp![ba,bj,or_false]at z;rcases z with rfl|rfl;·exact⟨_,ha1⟩
  ·exact⟨_,hT1⟩) λb z u e=>by
  simp![ba,bj,or_false]at z;rcases z with rfl|rfl;·rw[ha1]at e;cases e;exact KR xe xc xn xd
  ·rw[hT1]at e;cases e;exact sW hT3 d2
 have I3:=I2.nS (H':=upd H' T'<|lF T') (s':={ s' with heap:=h3 }) (ch:=[]) rfl (MH U nT' n1) (K3.IA nT'<|sW xT xdT) I2.bare λ_ z=>nomatch z;refine⟨a,T',upd H' T'<|lF T',rfl,I3.os,I3.bare,I3.base,I3.bL,?_,dX,f2,hE _ _ _ ⟨aA,dD.new nT',ex'⟩⟩;rw[aY aT'];exact ha1
theorem Hk {sub:Nat->Nat->Bool}{x:Str}{np ap:Pos}{tx:Str}{j:Nat}(hE:∀cl a H',EE K EX cl a H'->E cl a H')(Z:oF K x Cl)(hg:scope.names.lookup x=some .globalImplicit)(hd:(x==("__debug__" : Str))=false):PS (dJ (eY P w Cl) P w K mg base N qual scope f cd A outer s H E) (.Raise (some<|.Call (.Name x np) [.Constant (.str tx) j ap] [] cp) none pos) (jF K EX<|wpS C sub<|.rais xN [.c<|.str t]) :=(MP Z hg hd).imp λD σ H' ⟨ac,st,P,r,ok,q,h⟩=>by intro a T ha hT ne;refine hE _ _ _ ⟨st,(ok.new ha).new ?_,h.ex _ _ _ q⟩;rw[aY<|fq ne];exact hT
end
variable {X:Cx}{es:List cy}{xs:List Ex}{fid:Nat}{pl:Sem Bool}
section
variable {sub:Nat->Nat->Bool}{E:XK}{a b e o value:cy}{x y:Ex}{p apos pos':Pos}{n:Str}{c f:List Nat}
theorem Ei {f:Addr}{fd:fh}{ps:List Str}(F:cD X.prog X.w X.K X.mg X.base (eY X.prog X.w Cl) k f fd ps<|yC X.K C fid)(hr:cK k X.A)(hg:Gl X n)(hm:X.mg n=some (.ref f))(hk:e9 X.K (.ref f)=true)(hb:Binds X.K fd ps [])(hx:gA (eY X.prog X.w Cl) X<|EE X.K EX)(ha:PA X (e::es)<|gY X.K<|bB C sub EX xs)(hdb:(n==("__debug__" : Str))=false)(he:sE X e es)(cW:sN X pos es):PE X (.Call (.Name n p) (e::es) [] pos) (bW X.K<|aI C sub EX<|.callx fid xs) :=(PV F hr hg hm hk hb .nil hx ha hdb he cW).imp λσ H Q ⟨ac,st,R,r,ok,q,hq⟩=>by refine⟨ac,st,_,r,ok,q,λvs H1 ⟨ds,aC,s1,aR,r1,q1⟩=>?_⟩;rw[dn];exact⟨ds,aC,R,EX,r1,aR,q1,λv H' z=>hq _ _<|.after s1 z,λ_ _ _ z=>z⟩
theorem Mo {fa:Addr}{fd:fh}{ps:List Str}{C0:Addr}{m:List Nat}(hn:n=⟨m.toArray⟩)(hcl:clsAt X.K c C0)(hC0:qB X.K C0)(hm:uA X.K C0 n fa)(F:cD X.prog X.w X.K X.mg X.base (eY X.prog X.w Cl) k fa fd ps<|yC X.K C fid)(hr:cK k X.A)(hb:Binds X.K fd ps [])(hx:gA (eY X.prog X.w Cl) X<|EE X.K EX)(ho:PE X o<|bW X.K<|aI C sub EX x)(ha:PA X (e::es)<|gY X.K<|bB C sub EX xs)(cM:sE X e es)(cW:sN X pos es)(ht:eval (.Call (.Attribute o n apos) (e::es) [] pos) X.env=do
  let ov <-eval o X.env
  og apos.atName let(f,first) <-jm [ov] (px ov n pl)si pos f first (jr pos<|cb (e::es) X.env)<|qw pos<|kv [] X.env):PE X (.Call (.Attribute o n apos) (e::es) [] pos) (bW X.K<|aI C sub EX<|.mclx c m fid x xs) :=(P7 ho hC0 hm F hr hb .nil hx ha cM cW ht).imp λσ H Q ⟨ac,st,R,r,ok,q,hq⟩=>by refine⟨ac,st,_,r,ok,q,λv H1 ⟨d,aC,s1,aR,r1,q1,q2⟩=>?_⟩;obtain⟨a,fs,rfl,e0,l⟩:=C8 q1;cases r1.cY;obtain⟨C1,dx,ws,h1,h2,h3⟩:=aR a _ e0;cases hcl.inj h1;refine⟨a,dx,ws,rfl,h2,by rw[hn];exact gZ.no h3 l,?_⟩;refine⟨ac,aC,_,r.step ok s1,aR,q2,λvs H2 ⟨ds,aJ,s2,cG,r2,q3⟩=>?_⟩;rw[dn];exact⟨_,aJ,R,EX,.cons (.ref a) r2,cG,q3,λv H' z=>hq _ _<|.after (s1.trans s2) z,λ_ _ _ z=>z⟩
theorem Ml {fa:Addr}{fd:fh}{ps:List Str}{C0:Addr}{m:List Nat}(hn:n=⟨m.toArray⟩)(hcl:clsAt X.K c C0)(hC0:qB X.K C0)(hm:uA X.K C0 n fa)(F:cD X.prog X.w X.K X.mg X.base gG k fa fd ps<|jK X.K C fid)(hr:cK k X.A)(hb:Binds X.K fd ps [])(ho:PE X o<|bW X.K<|aI C sub E x)(ht:eval (.Call (.Attribute o n apos) [] [] pos) X.env=do
  let ov <-eval o X.env
  og apos.atName let(f,first) <-jm [ov] (px ov n pl)si pos f first (jr pos<|cb [] X.env)<|qw pos<|kv [] X.env):PE X (.Call (.Attribute o n apos) [] [] pos) (bW X.K<|aI C sub E<|.mcl c m fid x []) :=(YS ho hC0 hm F hr hb .nil KZ ht).imp λσ H Q ⟨ac,st,R,r,ok,q,hq⟩=>by refine⟨ac,st,_,r,ok,q,λv H1 ⟨d,aC,s1,aR,r1,q1,q2⟩=>?_⟩;obtain⟨a,fs,rfl,e0,l⟩:=C8 q1;cases r1.cY;obtain⟨C1,dx,ws,h1,h2,h3⟩:=aR a _ e0;cases hcl.inj h1;refine⟨a,dx,ws,rfl,h2,by rw[hn];exact gZ.no h3 l,?_⟩;exact⟨_,aC,R,.cons (.ref a) .nil,aR,q2,λv H' z=>hq _ _<|.after s1 z⟩
end
variable {H':Hp}{σ:L2.St}
section
variable {K:ae}
theorem Jq {a:Addr}(ht:∀b xs,H b=some (.tup xs)->H' b=some (.tup xs))(hf:∀b o u,H b=some (.frz o u)->H' b=some (.frz o u))(h:fT K H a vs):fT K H' a vs:=by
 rcases h with(h|⟨o,h⟩)|h;·exact .inl<|.inl<|ht _ _ h
 ·exact .inl<|.inr ⟨o,hf _ _ _ h⟩
 ·exact .inr h
theorem Fx {a:Addr}(hf:∀b o u,H b=some (.frz o u)->H' b=some (.frz o u))(h:pA K H a vs):pA K H' a vs:=by
 rcases h with⟨o,h⟩|h;·exact .inl ⟨o,hf _ _ _ h⟩
 ·exact .inr h
mutual
theorem Rep.un (ht:∀b xs,H b=some (.tup xs)->H' b=some (.tup xs))(hf:∀b o u,H b=some (.frz o u)->H' b=some (.frz o u)):∀{d:D}{v:V},Rep K H d v->Rep K H' d v|_,_,.non=>.non|_,_,.bl b=>.bl b|_,_,.int i=>.int i|_,_,.str x=>.str x|_,_,.tup h r=>.tup (Jq ht hf h)<|aM.un ht hf r|_,_,.ref a=>.ref a|_,_,.bR h r=>.bR (Fx hf h)<|aM.un ht hf r|_,_,.cF h=>.cF h
theorem aM.un (ht:∀b xs,H b=some (.tup xs)->H' b=some (.tup xs))(hf:∀b o u,H b=some (.frz o u)->H' b=some (.frz o u)):∀{ds:List D}{vs:List V},aM K H ds vs->aM K H' ds vs|_,_,.nil=>.nil|_,_,.cons h r=>.cons (Rep.un ht hf h) (aM.un ht hf r)end
theorem cQ.un {ac:St}(ht:∀b xs,H b=some (.tup xs)->H' b=some (.tup xs))(hf:∀b o u,H b=some (.frz o u)->H' b=some (.frz o u))(r:cQ K H ac σ):cQ K H' ac σ :=⟨r.1,λi d e=>let⟨v,e1,e2⟩:=r.2 i d e;⟨v,e1,e2.un ht hf⟩⟩
theorem cQ.unset {ac:St}(r:cQ K H ac σ)(i:Nat):cQ K H (ac.set i none)<|σ.set i none:=by
 refine⟨by simpa using r.1,λj e hj=>?_⟩;by_cases q:j=i
 ·subst q;by_cases hl:j<ac.length;·simp_all
  ·simp_all
 ·rw[fv<|fq q]at hj;obtain⟨u,e1,e2⟩:=r.2 j e hj;exact⟨u,by rw[fv<|fq q];exact e1,e2⟩
end
structure GK (K:ae)(EX:XK)(P:fA)(D:Ends):Prop where
 nx:∀am H' cS aA,cQ K H' cS am->aQ K aA H'->P.nx cS aA->D.nx am H'
 rt:∀v H' d aA,aQ K aA H'->Rep K H' d v->P.rt d aA->D.rt v H'
 bk:∀am H' cS aA,cQ K H' cS am->aQ K aA H'->P.bk cS aA->D.bk am H'
 ct:∀am H' cS aA,cQ K H' cS am->aQ K aA H'->P.ct cS aA->D.ct am H'
 ex:∀c ac st,P.ex c ac st->EX c st
theorem GK.s {K:ae}{P:fA}{D:Ends}{st:aB}(h:GK K EX P D):yY K EX H st P D :=⟨λam H' cS aA r _ ok q=>h.nx am H' cS aA r ok q,λv H' z=>let⟨d,aA,_,ok,r,q⟩:=z;h.rt v H' d aA ok r q,λam H' cS aA r _ ok q=>h.bk am H' cS aA r ok q,λam H' cS aA r _ ok q=>h.ct am H' cS aA r ok q,h.ex⟩
inductive KW (K:ae)(EX:XK)(ts:fA->St->aB->Prop)(D:Ends)(σ:L2.St)(H:Hp):Prop where |mk (ac:St)(st:aB)(P:fA)(r:cQ K H ac σ)(ok:aQ K st H)(q:ts P ac st)(h:GK K EX P D):KW K EX ts D σ H
structure Ue (X:Cx)(C:aU)(sub:Nat->Nat->Bool)(EX:XK)(s:Stmt)(x:Sx):Prop where h:PS X s<|KW X.K EX<|wpS C sub x
structure Q3 (X:Cx)(C:aU)(sub:Nat->Nat->Bool)(EX:XK)(ss:List Stmt)(xs:List Sx):Prop where h:iY X ss<|KW X.K EX<|cH C sub xs
section
variable {sub:Nat->Nat->Bool}{s:Stmt}{ss:List Stmt}{x:Sx}{xs:List Sx}
theorem JS.z (h:JS X C sub EX s x):Ue X C sub EX s x:=⟨h.h.imp λD σ H ⟨ac,st,P,r,ok,q,e⟩=>⟨ac,st,P,r,ok,q,e.s⟩⟩
theorem z0:Q3 X C sub EX [] []:=⟨Bd.imp λD σ H ⟨ac,st,P,r,ok,q,e⟩=>⟨ac,st,P,r,ok,q,e.s⟩⟩
theorem zc (h1:Ue X C sub EX s x)(h2:Q3 X C sub EX ss xs):Q3 X C sub EX (s::ss) (x::xs) :=⟨(CH h1.h h2.h).imp λD σ H ⟨ac,st,P,r,ok,q,h⟩=>by exact⟨ac,st,_,r,ok,q,⟨λam H' cS aA r' dD q'=>⟨cS,aA,P,r',dD,q',h⟩,h.rt,h.bk,h.ct,h.ex⟩⟩⟩
end
inductive PK (K:ae)(C:aU)(f:Nat)(vs:List V)(H:Hp)(Q:L2.VK)(E:L2.XK):Prop where |mk (ds:List D)(st:aB)(R:VK)(r:aM K H ds vs)(ok:aQ K st H)(q:C f ds st R EF)(hq:∀v H' d aA,aQ K aA H'->Rep K H' d v->R d aA->Q v H'):PK K C f vs H Q E
theorem Hw {w:dh}{K:ae}{mg:Str->Option Value}{base:Heap}{G:Prog}{r f:Nat}{fn:Fn}{x:Str}{st:Stmt}{a:Addr}{fd:fh}{N ps:List Str}(F:zK K x qual st a fd)(S:lI N ps<|aP st)(hG:G.fns f=some fn)(hp:fn.np=ps.length)(hl:fn.nl=N.length)(hb:∀(bV:Value)(A:c5)(outer:List Env)(s:aj)(H:Hp)(E:L2.XK),cK r (A.deeper<|jw qual (aP st) s.heap.objs.size a bV) -> Q3 (dJ gG P w K mg base N qual (aP st) a bV A outer s H E).oK (aH G k) G.sub EF (gQ st) fn.body): cD P w K mg base gG (r+1) a fd ps<|PK K (aH G<|k+1) f:=by
 refine F.ok S (λvs H Q E h=>?_) λbV A outer s H vs Q E hr h=>?_;·obtain⟨ds,aA,R,r,_,h,_⟩:=h;simp![aH,hG]at h;rw[<-r.length,h.1,hp]
 ·obtain⟨ds,aA,R,r,ok,h,hq⟩:=h;simp![aH,hG]at h;refine⟨_,(hb bV A outer s H E hr).h,?_⟩;refine⟨_,aA,_,?_,ok,h.2,⟨λam H' cS aV sr dD q=>?_,λv H' d aJ cG rd q=>hq v H' d aJ cG rd q,λ_ _ _ _ _ _ q=>q,λ_ _ _ _ _ _ q=>q,λ_ _ _ q=>q⟩⟩;·rw[hl];exact zO r h.1
  ·exact hq _ _ _ aV dD .non q
theorem Kl {w:dh}{K:ae}{mg:Str->Option Value}{base:Heap}{G:Prog}{r f:Nat}{fn:Fn}{x:Str}{st:Stmt}{a:Addr}{fd:fh}{N ps:List Str}(F:zK K x qual st a fd)(S:lI N ps<|aP st)(hG:G.fns f=some fn)(hp:fn.np=ps.length)(hl:fn.nl=N.length)(hb:∀(bV:Value)(A:c5)(outer:List Env)(s:aj)(H:Hp)(E:L2.XK)(EX:XK),cK r (A.deeper<|jw qual (aP st) s.heap.objs.size a bV)->(∀cl a H',EE K EX cl a H'->E cl a H') -> xR (dJ (eY P w Cl) P w K mg base N qual (aP st) a bV A outer s H E) (aH G k) G.sub EX (gQ st) fn.body): cD P w K mg base (eY P w Cl) (r+1) a fd ps<|yC K (aH G<|k+1) f:=by
 obtain⟨oc,od,kV,doc,pm,an,bV,ct,osl,rfl,lk,hcd⟩:=F.ex;refine RI lk hcd S (λvs H Q E h=>?_) λA outer s H vs Q E hr h=>?_;·obtain⟨ds,aA,R,EX,r,_,h,_⟩:=h;simp![aH,hG]at h;rw[<-r.length,h.1,hp]
 ·obtain⟨ds,aA,R,EX,r,ok,h,hq,hE⟩:=h;simp![aH,hG]at h;refine⟨_,(hb bV A outer s H E EX hr hE).h,?_⟩;refine⟨_,aA,_,?_,ok,h.2,⟨λam H' cS aV sr s' dD q=>?_,λv H' z=>hq v H' z,λ_ _ _ _ _ _ _ q=>q,λ_ _ _ _ _ _ _ q=>q,λ_ _ _ q=>q⟩⟩;·rw[hl];exact zO r h.1
  ·exact hq _ _ ⟨_,aV,s',dD,.non,q⟩
theorem ZX {w:dh}{K:ae}{mg:Str->Option Value}{base:Heap}{G:Prog}{f:Nat}{a:Addr}{fd:fh}{ps:List Str}:cD P w K mg base (eY P w Cl) 0 a fd ps (yC K (aH G 0) f) :=⟨λ_ _ _ _ h=>let⟨_,_,_,_,_,_,q,_,_⟩:=h;q.elim,λ_ _ _ _ _ _ _ _ _ _ _ _ _ h=>let⟨_,_,_,_,_,_,q,_,_⟩:=h;q.elim⟩
structure S1 (X:Cx)(C:aU)(EX:XK)(n:Str)(fid:Nat):Prop where h:∃k f fd ps Cl,cD X.prog X.w X.K X.mg X.base (eY X.prog X.w Cl) k f fd ps (yC X.K C fid)/\cK k X.A/\X.mg n=some (.ref f)/\e9 X.K (.ref f)=true/\Binds X.K fd ps []/\gA (eY X.prog X.w Cl) X (EE X.K EX)
structure TJ (X:Cx)(C:aU)(EX:XK)(c:List Nat)(n:Str)(fid:Nat):Prop where h:∃k f fd ps C0 Cl,cD X.prog X.w X.K X.mg X.base (eY X.prog X.w Cl) k f fd ps (yC X.K C fid)/\cK k X.A/\Binds X.K fd ps []/\clsAt X.K c C0/\qB X.K C0/\uA X.K C0 n f/\gA (eY X.prog X.w Cl) X (EE X.K EX)
variable {mm:List Nat}
section
variable {sub:Nat->Nat->Bool}{E:XK}{a b e o value:cy}{x y:Ex}{p apos pos':Pos}{n:Str}{c f:List Nat}
theorem qL (h:S1 X C EX n fid)(ha:JA X C sub EX (e::es) xs)(hg:X.env.kindOf n=some .globalImplicit:=by z_go)(hdb:(n==("__debug__" : Str))=false:=by z_go)(he:sE X e es:=by z_go)(cW:sN X pos es:=by z_go): JE X C sub EX (.Call (.Name n p) (e::es) [] pos)<|.callx fid xs:=⟨let⟨k,f,fd,ps,Cl,h1,h2,h3,h4,h5,h6⟩:=h.h;Ei h1 h2 hg h3 h4 h5 h6 ha.h hdb he cW⟩
theorem QY (h:TJ X C EX c n fid)(ho:JE X C sub EX o x)(ha:JA X C sub EX (e::es) xs)(hn:n=⟨mm.toArray⟩:=by kernel_rfl)(cM:sE X e es:=by kernel_rfl)(cW:sN X pos es:=by kernel_rfl)(ht:eval (.Call (.Attribute o n apos) (e::es) [] pos) X.env=(do
  let ov <-eval o X.env
  og apos.atName let(f,first) <-jm [ov] (px ov n pl)si pos f first (jr pos<|cb (e::es) X.env)<|qw pos<|kv [] X.env):=by rfl):JE X C sub EX (.Call (.Attribute o n apos) (e::es) [] pos)<|.mclx c mm fid x xs:=⟨let⟨k,f,fd,ps,C0,Cl,h1,h2,h3,h4,h5,h6,h7⟩:=h.h;Mo hn h4 h5 h6 h1 h2 h3 h7 ho.h ha.h cM cW ht⟩
theorem Ld (h:zF X C c n fid)(ho:JE X C sub E o x)(hn:n=⟨mm.toArray⟩:=by kernel_rfl)(ht:eval (.Call (.Attribute o n apos) [] [] pos) X.env=(do
  let ov <-eval o X.env
  og apos.atName let(f,first) <-jm [ov] (px ov n pl)si pos f first (jr pos<|cb [] X.env)<|qw pos<|kv [] X.env):=by rfl):JE X C sub E (.Call (.Attribute o n apos) [] [] pos)<|.mcl c mm fid x []:=⟨let⟨k,f,fd,ps,C0,h1,h2,h3,h4,h5,h6⟩:=h.h;Ml hn h4 h5 h6 h1 h2 h3 ho.h ht⟩
end
section
variable {w:dh}{K:ae}{mg:Str->Option Value}{base:Heap}{N:List Str}{f:Addr}{A:c5}{outer:List Env}{s:aj}
theorem MV {sub:Nat->Nat->Bool}{x:Str}{np ap:Pos}{tx:Str}{j:Nat}(hE:∀cl a H',EE K EX cl a H'->E cl a H')(Z:oF K x Cl)(hg:scope.names.lookup x=some .globalImplicit:=by z_go)(hd:(x==("__debug__" : Str))=false:=by z_go): JS (dJ (eY P w Cl) P w K mg base N qual scope f cd A outer s H E) C sub EX (.Raise (some<|.Call (.Name x np) [.Constant (.str tx) j ap] [] cp) none pos)<|.rais xN [.c<|.str t]:=⟨Hk hE Z hg hd⟩
end
variable {pz:List<|Addr×Obj}{i:Nat}
theorem Q7 {s:aj}{a:Addr}{ne:Str}{h':Heap}{m:Str->Option Value}{v':Option Value}{t:Nat}(ok:X.Ok)(I:Inv (mk X a) pz σ H s)(nd:X.N.Nodup)(hi:X.N[i]? = some ne)(hne:X.env.scope.names.lookup ne=some .local)(hn7:s.heap.Ns X.env.locals m)(hl7:∀(i:Nat)(x:Str)(v:V),X.N[i]? = some x->σ[i]? = some (some v)->Bs X.env.scope x->∃u,RelV v u/\Look X.env s.heap m x u)(hn:h'.Ns X.env.locals λx=>if x=ne then v' else m x)(hs:mf X.env.locals s.heap h'): Inv X pz (σ.set i none) H { s with heap:=h',toks:=t }:=by
 have far:∀{b:Addr}{o:Obj},X.s₀.heap.get? b=some o->b≠X.env.locals:=λe=>cj<|cw (bc e) ok.above;refine⟨ok,I.os,I.bare,⟨λb o e n hb hx=>(hs.2 b<|far e).trans<|I.base.keep b o e n hb hx,λb o e n hb hx=>?_,I.base.free,λb o e hx=>?_,I.base.jO,I.base.jG,I.base.kC⟩,⟨_,hn,λj x v e1 e2 e3=>?_⟩,λy c e=>?_,I.free,I.jH,λp hp=>?_,λb u e=>?_,by rw[AaH];exact I.len⟩;·obtain⟨sl,q⟩:=I.base.slot b o e n hb hx;exact⟨sl,(hs.2 b<|far e).trans q⟩
 ·obtain⟨o',q⟩:=I.base.there b o e hx;exact⟨o',(hs.2 b<|far e).trans q⟩
 ·have ji:j≠i:=λz=>by
   subst z;by_cases hl:j<σ.length;·rw[gu hl]at e2;cases e2
   ·rw[List.getElem?_eq_none<|by simp;lia]at e2;cases e2
  rw[fv<|fq ji]at e2;obtain⟨u,ru,lk⟩:=hl7 j x v e1 e2 e3;have xn:x≠ne:=λz=>by
   subst z;obtain⟨l1,q1⟩:=List.getElem?_eq_some_iff.mp e1;obtain⟨l2,q2⟩:=List.getElem?_eq_some_iff.mp hi;have pw:=List.pairwise_iff_getElem.mp nd;rcases Nat.lt_or_gt_of_ne ji with h|h;·exact pw j i l1 l2 h<|q1.trans q2.symm
   ·exact pw i j l2 l1 h<|q2.trans q1.symm
  refine⟨u,ru,?_⟩;rcases lk with⟨k1,k2⟩|⟨k1,c,k2,k3⟩;·exact .inl ⟨k1,by dsimp only;rw[if_neg xn];exact k2⟩
  ·exact .inr ⟨k1,c,k2,k3.sameBut hs<|I.CA x c k2⟩
 ·obtain⟨v,z⟩:=I.cell y c e;exact⟨v,z.sameBut hs<|I.CA y c e⟩
 ·obtain⟨e,n,ne,nf,d⟩:=I.pin p hp;exact⟨(hs.2 p.1 ne).trans e,n,ne,nf,d⟩
 ·have fr:H X.env.locals=none:=I.free;refine(I.bL b u e).qQ (λc v hc q=>(hs.2 c λz=>?_).trans q) (λ_ q=>q) λ_ _ q=>q;rcases hc with rfl|hc;·rw[z,fr]at e;cases e
  ·rw[z,fr]at hc;cases hc
variable {E:Value->aj->Prop}{xp hp:Pos}{e0:cy}{b0:Stmt}{suite:List Stmt}{T:Addr}{M:Model}{fl:Value}
section
variable {f C:Addr}{fd:fh}{ps:List Str}{sp:Sp}{n x ne:Str}{p np:Pos}{t:TA}{tS:Addr->TS}
theorem MG {s':aj}{a:Addr}{A2:c5}{E2:Value->aj->Prop}(cM:X.stack=X.env::X.outer)(hfm:X.env.frame=some X.env.locals)(I2:Inv X pz σ H' s')(ha1:H' a=some (qD a<|.ref C))(hT1:H' T=some (lF T))(fly:pY s'.heap a T (.ref C) .none)(k:∀h3 T',H' T'=none->Inv X pz σ (upd H' T'<|lF T') { s' with heap:=h3 }->pY h3 a T' (.ref C) .none->Q () { s' with heap:=h3 }):wpAny M X.A (l9 (.ref a) X.env) (λ_ s2=>wpAny M A2 (xi (.ref a) none) Q E2 s2) E s':=by
 have hfr:X.A.frames=some (X.env::X.outer):=by rw[<-cM];exact I2.ok.frames
 have fun2:s'.heap.FunFrames X.base<|X.env::X.outer:=by rw[<-cM];exact I2.stack
 have sfr:∀b∈gS<|X.env::X.outer,H' b=none:=by rw[<-cM];exact I2.pB
 refine QH (base:=X.base) hfr fun2 hfm fly fun h2 T' b1 n1 f1 hT2=>zM f1 fun h3 b2 f2=>?_;have b2:gI [] [T'] h2 h3:=b2;have B:gI (gS<|X.env::X.outer) [a,T] s'.heap h3:=(b1.trans b2.more).old (fun _ _ z=>z) fun b z=>by
  rcases List.mem_append.mp z with z|z;·exact .inl z
  ·exact .inr<|by rw[List.mem_singleton.mp z];exact n1
 obtain⟨oe,ws,oT,ts,xe,xc,xn,xd,x1,xTe,xT,xdT,x3⟩:=id f2;have TT':T≠T':=λz=>by rw[z]at hT1;obtain⟨u,e⟩:=(I2.bL T' _ hT1).here;rw[n1]at e;cases e
 obtain⟨o2,ts2,e2,d2⟩:=hT2;have hT3:h3.get? T=some o2:=b2.keep T o2 e2 (by simp) (by simpa using TT');have nT':H' T'=none:=I2.bL.nothing n1;have U:Un (gS<|X.env::X.outer) [] H' H' s'.heap h3:=EV B (λb z=>by
  simp![ba,bj,or_false]at z;rcases z with rfl|rfl;·rw[ha1];intro y;cases y
  ·rw[hT1];intro y;cases y) λb z=>by
  simp![ba,bj,or_false]at z;rcases z with rfl|rfl;·exact⟨_,xe⟩
  ·exact⟨_,hT3⟩
 have K3:fH X.prog X.w H' h3:=E7 I2.bL B sfr (λb z=>by
  simp![ba,bj,or_false]at z;rcases z with rfl|rfl;·exact⟨_,ha1⟩
  ·exact⟨_,hT1⟩) λb z u e=>by
  simp![ba,bj,or_false]at z;rcases z with rfl|rfl;·rw[ha1]at e;cases e;exact KR xe xc xn xd
  ·rw[hT1]at e;cases e;exact sW hT3 d2
 have I3:Inv X pz σ (upd H' T'<|lF T') { s' with heap:=h3 }:=I2.nS (s':={ s' with heap:=h3 }) (ch:=[]) rfl (by rw[cM];exact MH U nT' n1) (K3.IA nT'<|sW xT xdT) I2.bare λ_ z=>nomatch z;exact k _ _ nT' I3 f2
theorem PN {s3:aj}{a T':Addr}{c:Value}{A:c5}(I4:Inv (mk X a) pz σ (upd H' T'<|lF T') s3)(f2:pY s3.heap a T' c fl)(k:∀h4,Inv (mk X a) pz σ (upd H' T'<|lF T') { s3 with heap:=h4 }->Q () { s3 with heap:=h4 }):wpAny M A (xi (.ref a) none) Q E s3:=by refine zM f2 λh4 b3 f3=>?_;have b3:gI [] [T'] s3.heap h4:=b3;obtain⟨_,_,oT4,ts4,_,_,_,_,_,_,xT4,xdT4,_⟩:=id f3;have tT':upd H' T' (lF T') T'=some (lF T'):=dX;have I5:Inv (mk X a) pz σ (upd H' T'<|lF T') { s3 with heap:=h4 }:=I4.nS (s':={ s3 with heap:=h4 }) (ch:=[]) rfl (EV b3.more (λb z=>by rw[List.mem_singleton.mp z,tT'];intro y;cases y) λb z=>by rw[List.mem_singleton.mp z];exact⟨_,xT4⟩) (E7 I4.bL (b3.more (fs:=gS X.stack)) I4.pB (λb z=>by rw[List.mem_singleton.mp z];exact⟨_,tT'⟩) λb z u e=>by rw[List.mem_singleton.mp z]at e ⊢;rw[tT']at e;cases e;exact sW xT4 xdT4) I4.bare λ_ z=>nomatch z;exact k _ I5
theorem Fl {iy:Nat}{ny:Str}{py:Pos}(hxe:∀e s,¬X.xe e s)(cM:X.stack=X.env::X.outer)(hfm:X.env.frame=some X.env.locals)(nd:X.N.Nodup)(Fc:cD X.prog X.w X.K X.mg X.base (eY X.prog X.w C) k f fd ps sp)(hr:cK k X.A)(hg:Gl X n)(hm:X.mg n=some (.ref f))(hk:e9 X.K (.ref f)=true)(hb:Binds X.K fd ps [])(ha:PA X (e0::es) t)(Z:oF X.K x C)(hgx:Gl X x)(hi:X.N[i]? = some ne)(hne:X.env.scope.names.lookup ne=some .local)(hiy:X.N[iy]? = some ny)(hny:X.env.scope.names.lookup ny=some .local)(hs:∀a,iY (mk X a) (b0::suite)<|tS a) (hdb:(n==("__debug__" : Str))=false) (hdx:(x==("__debug__" : Str))=false)(he:sE X e0 es)(cW:sN X cp es)(hsw:nq (.Call (.Name n p) (e0::es) [] cp) (some<|.Name ny py) xp.line X.env=pure false):PS X (.Try [.Assign [.Name ny py] (.Call (.Name n p) (e0::es) [] cp) xp] [.ExceptHandler (some<|.Name x np) (some ne) (b0::suite) hp] [] [] pos) λD σ H=>t σ H λvs H1=>sp vs H1 (λv H'=>D.nx (σ.set iy<|some v) H') λ_ o H'=>∀a,o=some a->H' a=some (qD a<|.ref C)->(∀b xs,H1 b=some (.tup xs)->H' b=some (.tup xs))->(∀b o u,H1 b=some (.frz o u)->H' b=some (.frz o u))->∀T',H' T'=none -> tS a { nx:=λce H2=>D.nx (ce.set i none) H2,rt:=D.rt } (σ.set i<|some<|.ref a) (upd H' T'<|lF T'):=by
 intro pz s σ H D I h;refine Aay<|ua<|wpAny_Assign_Name ?_ hsw;refine fz<|mV I hg hm ?_ hdb;refine oj (h₀:=X.base) I.ok.mod.kin hk (gh (ha cp pz s σ H _ I h) (λus s1 ⟨vs,H1,I1,r,q⟩=>⟨I1.gR,?_⟩) λe s z=>absurd z<|hxe e s) he cW;have hl:us.length=ps.length:=by rw[<-r.length];exact Fc.len _ _ _ _ q
 have hbi:=hb s1 us I1.gR (by rw[dn];exact hl);rw[dn]at hbi;refine xr<|mh (Fc.run X.A X.stack s1 H1 ⟨us,[]⟩ us vs _ _ hr I1.RB hbi r q) λres s' hq=>?_;cases res with
 |ok fl =>cases fl with|ret u =>obtain⟨v,H',I',r',q'⟩:=I1.after hq;exact CJ I' nd hiy (.inl hny) r' (λs6 I6=>kg<|kg ⟨_,H',I6,q'⟩)<|.inr hny|next=>exact gj hq|brk=>exact gj hq|cont=>exact gj hq
 |error ev =>obtain⟨a,T,H',rfl,os,bare,un,bL,ha1,hT1,fly,hE⟩:=hq;have I2:Inv X pz σ H' s':=I1.nS (ch:=[]) os un bL bare λ_ z=>nomatch z;refine MG cM hfm I2 ha1 hT1 fly λh3 T' nT' I3 f2=>?_;obtain⟨oe,_,_,_,xe,xc,_⟩:=id f2;obtain⟨hmx,bm,Nn,nm,q',bs,hdct,sn,sub,ab,col,dd,k0,k1,k2,k3,k5,mN,hC,hN,hni,Tl⟩:=Z.own I.mod.kin I.mod.glob;refine XW (C:=C) (nm:=nm) (q:=q') (N:=Nn) (bs:=bs) (hdct:=hdct) (sn:=sn) (sub:=sub) (ab:=ab) (col:=col) (dd:=dd) (k0:=k0) (k1:=k1) (k2:=k2) (k3:=k3) (k5:=k5) (newId :="ValueError.__new__") (Tl.hasType<|by cbv) ?_;have I4:Inv (mk X a) pz σ (upd H' T'<|lF T') { s' with heap:=h3 }:=UH I3;refine mV (X:=mk X a) I4 hgx hmx ⟨rfl,I4.bk _ _ hC,⟨oe,xe,xc⟩,?_⟩ hdx;refine PN I4 f2 λh4 I5=>?_;refine CJ (X:=mk X a) (v:=.ref a) I5 nd hi (.inl hne) rfl (λs6 I6=>?_)<|.inr hne;refine bA (hs a pz s6 _ _ _ I6<|hE a rfl ha1 un.jO un.jG T' nT') λfl s7 hf=>?_;cases fl with|next =>obtain⟨ci,H7,I7,q7⟩:=hf;obtain⟨m,hn7,hl7⟩:=id I7.loc;exact Yx hne hn7 (by rw[I.ok.kind];rfl) λh8 v' hn8 hs8=>⟨_,H7,Q7 I.ok I7 nd hi hne hn7 hl7 hn8 hs8,q7⟩|brk=>obtain⟨_,_,_,z⟩:=hf;exact z.elim|cont=>obtain⟨_,_,_,z⟩:=hf;exact z.elim|ret u =>obtain⟨v,ci,H7,I7,r7,q7⟩:=hf;obtain⟨m,hn7,_⟩:=id I7.loc;exact Yx hne hn7 (by rw[I.ok.kind];rfl) λh8 v' hn8 hs8=>⟨v,_,H7,VX I.ok I7 hn8 hs8,r7,q7⟩
end
noncomputable def UU (i:Nat)(v:V)(Cl:Addr)(b:Bool):TE:=Ao (λvs H Q=>∃a,vs=[.ref a,v]/\H a=some (qD a<|.ref Cl)/\Q (.bl b) H)<|TB (RT i)<|TB (tC v) YM
section
variable {v1 v2 v3:V}{e1 e2 e3:cy}{p1 p2 p3 p5:Pos}{r:Stmt}
theorem LG {b:Bool}{v:V}{Q:L2.VK}{a:Addr}(h1:σ[i]? = some (some<|.ref a))(h2:H a=some (qD a<|.ref Cl))(q:Q (.bl b) H):UU i v Cl b σ H Q:=⟨_,h1,a,rfl,h2,q⟩
theorem Ko {f1 f2 f3:cy}{a1 a2 a3:List cy}{q1 q2 q3:Pos}(h1:PE X (.Call f1 a1 [] q1)<|UU i v1 Cl true)(h2:PE X (.Call f2 a2 [] q2)<|UU i v2 Cl true)(h3:PE X (.Call f3 a3 [] q3)<|UU i v3 Cl false):iY X [.If (.BoolOp .Or [.UnaryOp .Not (.Call f1 a1 [] q1) p1,.UnaryOp .Not (.Call f2 a2 [] q2) p2,.Call f3 a3 [] q3] p3) [r] [] p5] λD σ H=>∃a,σ[i]? = some (some<|.ref a)/\H a=some (qD a<|.ref Cl)/\D.nx σ H:=by intro pz s σ H D I hq;obtain⟨a,q1,q2,q⟩:=hq;refine vF (QU (RN (L9<|NZ h1)<|RN (L9<|NZ h2)<|T9<|NZ h3).pt (vF NB) FG) pz s σ H D I ?_;unfold Mn Ui Jl tB;refine LG q1 q2 ⟨true,rfl,?_⟩;refine LG q1 q2 ⟨true,rfl,?_⟩;exact LG q1 q2 ⟨false,rfl,by exact q⟩
end
section
variable {sub:Nat->Nat->Bool}{iy:Nat}{f:Addr}{fd:fh}{ps:List Str}{n x ne ny:Str}{p np py:Pos}{hx:List Sx}
theorem Hv (hxe:∀e s,¬X.xe e s)(cM:X.stack=X.env::X.outer)(hfm:X.env.frame=some X.env.locals)(nd:X.N.Nodup)(Fc:cD X.prog X.w X.K X.mg X.base (eY X.prog X.w Cl) k f fd ps<|yC X.K C fid)(hr:cK k X.A)(hg:Gl X n)(hm:X.mg n=some (.ref f))(hk:e9 X.K (.ref f)=true)(hb:Binds X.K fd ps [])(ha:∀E,PA X (e0::es)<|gY X.K<|bB C sub E xs)(Z:oF X.K x Cl)(hgx:Gl X x)(hi:X.N[i]? = some ne)(hne:X.env.scope.names.lookup ne=some .local)(hiy:X.N[iy]? = some ny)(hny:X.env.scope.names.lookup ny=some .local)(hs:∀a,iY (mk X a) (b0::suite) λD σ H=>∃a,σ[i]? = some (some<|.ref a)/\H a=some (qD a<|.ref Cl)/\D.nx σ H) (hsub:sub xN xN=true)(hh:∀(P:fA)(σ:St)(st:aB),i<σ.length->cH pQ sub hx P (σ.set i<|some<|.exc xN) st->P.nx (σ.set i<|some<|.exc xN) st)(hdb:(n==("__debug__" : Str))=false)(hdx:(x==("__debug__" : Str))=false)(he:sE X e0 es)(cW:sN X cp es)(hsw:nq (.Call (.Name n p) (e0::es) [] cp) (some<|.Name ny py) xp.line X.env=pure false):PS X (.Try [.Assign [.Name ny py] (.Call (.Name n p) (e0::es) [] cp) xp] [.ExceptHandler (some<|.Name x np) (some ne) (b0::suite) hp] [] [] pos)<|KW X.K EF<|wpS C sub<|.tryy [.asg (.nm iy)<|.callx fid xs] xN (some i) hx:=by
 intro pz s σ H D I hq;obtain⟨ac,st,P,r,ok,q,h⟩:=hq;have il:i<σ.length:=by rw[I.len];exact(List.getElem?_eq_some_iff.mp hi).1
 refine Fl (iy:=iy) (t:=gY X.K<|bB C sub (λc aA=>(LH sub xN (some i) P λP' am aA=>cH pQ sub hx P' am aA).ex c ac aA) xs) hxe cM hfm nd Fc hr hg hm hk hb (ha _) Z hgx hi hne hiy hny hs hdb hdx he cW hsw pz s σ H D I ?_;refine⟨ac,st,_,r,ok,q,λvs H1 ⟨ds,aC,s1,aR,r1,q1⟩=>?_⟩;refine⟨ds,aC,_,_,r1,aR,q1,λv H' ⟨d,aJ,s2,cG,rd,q2⟩=>?_,λcl oa H' ⟨aJ,cG,q2⟩ a ea hxa ht hf T' nT'=>?_⟩;·exact h.nx _ _ _ _ (((r.step ok s1).step aR s2).set iy rd) cG q2
 ·have aT':a≠T':=λz=>by rw[z,nT']at hxa;cases hxa
  refine⟨a,by rw[gu il],by rw[aY aT'];exact hxa,?_⟩;have q2:if sub xN xN=true then cH pQ sub hx ⟨λce aJ=>P.nx (CV (some i) none ce) aJ,P.rt,λ_ _=>False,λ_ _=>False,λ_ _ _=>False⟩ (CV (some i) (some<|.exc xN) ac) aJ else P.ex xN ac aJ:=q2;rw[if_pos hsub]at q2;have q3:=hh _ ac aJ (by rw[r.1];exact il) q2;have q3:P.nx ((ac.set i<|some<|.exc xN).set i none) aJ:=q3;rw[Abx]at q3;show D.nx ((σ.set i<|some<|.ref a).set i none) _;rw[Abx];exact h.nx _ _ _ _ ((((r.step ok s1).un ht hf).step cG<|kA nT').unset i) (cG.new nT') q3
end
theorem Fp {K:ae}{G:Prog}{f:Nat}(h:∀ns:List Int,ns.length<=63->aH G k f [.bR<|ns.map .int] (λ_=>none) (λd _=>d=.bl true) λ_ _=>False)(H:Hp)(a:Addr)(ns:List Int)(hl:ns.length<=63)(hO:TF H)(hS:eU K H a<|ns.map V.int): PK K (aH G k) f [.ref a] H (λv _=>v=.bl true) λ_ _ _=>False:=by
 have hF:pA K H a<|ns.map V.int:=by
  rcases hS with(e|⟨o,e⟩)|e
  ·rcases hO a with z|⟨o,xs,z⟩;·rw[z]at e;cases e
   ·rw[z]at e;cases e
  ·exact .inl ⟨o,e⟩
  ·exact .inr e
 have ri:∀ns:List Int,aM K H (ns.map _)<|ns.map _:=λns=>by induction ns with|nil=>exact .nil|cons i r ih=>exact .cons (.int i) ih
 refine⟨_,_,_,.cons (.bR hF<|ri ns) .nil,λa o e=>(by cases e),h ns hl,λv H' d aA _ r q=>?_⟩;subst q;exact r.gK
theorem Ig {l:AaG}{q:bp}{loose:List Str}{XP:(Str->Option Value)->Heap->Prop}{YP:dh->Heap->Prop}{d:DefRec}{K:Params->ae}{G:Prog}{r f:Nat}{x:Str}(hr:cK r yf)(Z5:∀ns:List Int,ns.length<=63->aH G k f [.bR<|ns.map .int] (λ_=>none) (λd _=>d=.bl true) λ_ _=>False)(hn:l.most=some 63)(hdf:d.params.defaults=[])(hY:∀(w:dh)(h:Heap),YP w h->(K w.params).In h)(F:∀(w:dh)(mg:Str->Option Value)(fa:Addr)(h:Heap),(K w.params).In h->h.Ns cq mg->mg d.name=some (.ref fa) -> ∃fd:fh,(∀(s:aj)(u:Value),Zb s fd ⟨[u],[]⟩ [(x,u)])/\∀base:Heap,(K w.params).In base->base.Ns cq mg->cD l.prog w (K w.params) mg base gG r fa fd [x] (PK (K w.params) (aH G k) f)):Aa9 q loose XP YP l.row.toRowW d [] λf vs=>AaV f vs :=L2.Cy hn (by cbv) hdf hr hY F (λ_ H a ns hl hO hS=>Fp Z5 H a ns hl hO hS) λ_ _ _ _ _ z=>z
section
variable {A:c5}{s:aj}{base:Heap}{env:Env}{outer:List Env}{L e:Addr}{c:Value}
theorem LQ (hfr:A.frames=some (env::outer))(hl:s.heap.FunFrames base<|env::outer)(hf:env.frame=some L)(f:pY s.heap e T c fl) (k:∀h' T' fl',gI (gS<|env::outer) [e,T] s.heap h'->T'=T\/s.heap.get? T'=none->pY h' e T' c fl'->(∃o ts,h'.get? T=some o/\o.data=.fields ts)->Q () { s with heap:=h' }):wpAny M A (l9 (.ref e) env) Q E s:=by
 by_cases hz:(fl==rm L)=true;·obtain⟨oe,vs,oT,ts,he,rfl,hn,hd,h1,hTe,hT,hdT,h3⟩:=id f;unfold l9;simp![hf];refine ai<|fj he hd h1 ?_;refine ai<|fj hT hdT h3 ?_;rw[if_pos hz];exact a9<|k s.heap T fl ⟨λ_ _ q _ _=>q,λ_ o q _=>⟨o.slots,q⟩⟩ (.inl rfl) f ⟨oT,ts,hT,hdT⟩
 ·obtain⟨oe,vs,oT,ts,he,rfl,hn,hd,h1,hTe,hT,hdT,h3⟩:=f;unfold l9;simp![hf];refine ai<|fj he hd h1 ?_;refine ai<|fj hT hdT h3 ?_;rw[if_neg hz];refine ai<|lq hT hdT (Array.getElem?_eq_some_iff.mp h3).1 ?_;have oth:∀b,b≠T->(s.heap.update T (j8 (·.setIfInBounds 3 g6))).get? b=s.heap.get? b:=λb n=>bq _ _<|fq n;have B:gI (gS<|env::outer) [T] s.heap (s.heap.update T (j8 (·.setIfInBounds 3 g6))):=⟨λb o q _ m=>(oth b<|by simpa using m).trans q,λb o q m=>⟨o.slots,(oth b<|by simpa using m).trans q⟩⟩;refine LP hfr (B.lA (λb m o q=>?_) hl) hf ((oth e<|fq hTe).trans he) hn hd (Array.getElem?_eq_some_iff.mp h1).1 λh' T' b' n' f'=>k h' T' _ ((B.trans b').old (ex':=[e,T]) (λ_ _ q=>q) λb m=>.inl ?_) (.inr ?_) f' ?_;·simp![cu]at m;subst m;rw[hT]at q;cases q;exact⟨ts,hdT⟩
  ·simp![cz,cu,ba,bj,or_false]at m ⊢;exact m.symm
  ·cases q:s.heap.get? T' with|none=>rfl|some o =>
    obtain⟨sl,w⟩:∃o,(s.heap.update T (j8 (·.setIfInBounds 3 g6))).get? T'=some o:=by
     by_cases z:T'=T;·subst z;exact⟨_,dq _ hT<|fo<|di hdT _⟩
     ·exact⟨o,(oth T' z).trans q⟩
    have n':=n';rw[w]at n';cases n'
  ·obtain⟨sl,w⟩:=b'.slot T _ (dq _ hT<|fo<|di hdT _) (by simp_all);exact⟨_,_,w,di hdT _⟩
theorem Gh {fr:Option Addr}(f:pY s.heap e T c fl)(k:∀h' fl',gI [] [T] s.heap h'->pY h' e T c fl'->Q () { s with heap:=h' }):wpAny M A (xi (.ref e) fr) Q E s:=by
 obtain⟨oe,vs,oT,ts,he,hc,hn,hd,h1,hTe,hT,hdT,h3⟩:=f;have z3:=(Array.getElem?_eq_some_iff.mp h3).1;refine ai<|fj he hd h1 ?_;refine lq hT hdT z3<|k _ (fr.elim .none λf=>rm f) ⟨λb o q _ m=>?_,λb o q m=>⟨o.slots,?_⟩⟩ ⟨oe,vs,_,_,?_,hc,hn,hd,h1,hTe,dq _ hT<|fo<|di hdT _,di hdT _,by simp [z3]⟩;·exact(bq _ _ λw=>m<|by simp [w]).trans q
 ·exact(bq _ _ λw=>m<|by simp [w]).trans q
 ·exact(bq _ _ hTe).trans he
end
def KP (X:Cx)(Cl:Addr)(EX:XK):Prop:=∀(pz:List<|Addr×Obj)(σ:L2.St)(H':Hp)(s':aj)(a T:Addr)(fl:Value)(aA:aB),Inv X pz σ H' s'->H' a=some (qD a<|.ref Cl)->H' T=some (lF T)->pY s'.heap a T (.ref Cl) fl->aQ X.K aA H'->EX xN aA->X.xe (.ref a) s'
theorem G2 {s':aj}{h3:Heap}{a T':Addr}(I2:Inv X pz σ H' s')(ha1:H' a=some (qD a<|.ref Cl))(hT1:H' T=some (lF T))(B:gI (gS X.stack) [a,T] s'.heap h3)(n1:T'=T\/s'.heap.get? T'=none)(f2:pY h3 a T' (.ref Cl) fl)(hT3:∃o ts,h3.get? T=some o/\o.data=.fields ts):∃H3,Inv X pz σ H3 { s' with heap:=h3 }/\H3 a=some (qD a<|.ref Cl)/\H3 T'=some (lF T')/\∀{aA:aB},aQ X.K aA H'->aQ X.K aA H3:=by
 obtain⟨oe,ws,oT,ts,xe,xc,xn,xd,x1,xTe,xT,xdT,x3⟩:=f2;obtain⟨o2,ts2,hT3,d2⟩:=hT3;have U:Un (gS X.stack) [] H' H' s'.heap h3:=EV B λb z=>by
  simp![ba,bj,or_false]at z;rcases z with rfl|rfl;·simp_all
  ·simp_all λb z=>by
  simp![ba,bj,or_false]at z;rcases z with rfl|rfl;·exact⟨_,xe⟩
  ·exact⟨_,hT3⟩
 have K3:=E7 I2.bL B I2.pB (λb z=>by
  simp![ba,bj,or_false]at z;rcases z with rfl|rfl;·exact⟨_,ha1⟩
  ·exact⟨_,hT1⟩) λb z u e=>by
  simp![ba,bj,or_false]at z;rcases z with rfl|rfl;·rw[ha1]at e;cases e;exact KR xe xc xn xd
  ·rw[hT1]at e;cases e;exact sW hT3 d2
 rcases n1 with rfl|n1;·exact⟨H',I2.nS rfl U K3 I2.bare (λ_ z=>nomatch z),ha1,hT1,λok=>ok⟩
 ·have nT':=I2.bL.nothing n1;have aT':a≠T':=λz=>by simp_all
  refine⟨upd H' T'<|lF T',I2.nS rfl (MH U nT' n1) (K3.IA nT'<|sW xT xdT) I2.bare (λ_ z=>nomatch z),?_,dX,λok=>ok.new nT'⟩;rw[aY aT'];exact ha1
section
variable {w:dh}{K:ae}{mg:Str->Option Value}{base:Heap}{N:List Str}{f:Addr}{A:c5}{outer:List Env}{s:aj}{E:L2.XK}
theorem KH (hE:∀cl a H',EE K EX cl a H'->E cl a H'):KP (dJ (eY P w Cl) P w K mg base N qual scope f cd A outer s H E) Cl EX:=by
 intro pz σ H' s' a T fl aA I2 ha1 hT1 fly dD ex';have hfr:=I2.ok.frames;have fun2:=I2.stack;refine ai<|LQ hfr fun2 rfl fly fun h2 T' fl' b1 n1 f1 hT2=>zM f1 fun h3 b2 f2=>?_;have B:=(b1.trans b2.more).old (fun _ _ z=>z) fun b z=>by
  rcases List.mem_append.mp z with z|z;·exact .inl z
  ·rw[List.mem_singleton.mp z];rcases n1 with rfl|n1;·exact .inl<|by simp
   ·exact .inr n1
 have hT3:∃o ts,h3.get? T=some o/\o.data=.fields ts:=by
  by_cases z:T=T';·obtain⟨oe,ws,oT,ts,xe,xc,xn,xd,x1,xTe,xT,xdT,x3⟩:=id f2;exact⟨oT,ts,by simp_all,xdT⟩
  ·obtain⟨o,ts,e,d⟩:=hT2;exact⟨o,ts,b2.keep T o e (by simp)<|by simp_all,d⟩
 obtain⟨H3,I3,k1,k2,k3⟩:=G2 I2 ha1 hT1 B n1 f2 hT3;exact⟨a,T',H3,rfl,I3.os,I3.bare,I3.base,I3.bL,k1,k2,f2,hE _ _ _ ⟨aA,k3 dD,ex'⟩⟩
end
section
variable {sub:Nat->Nat->Bool}{elt iter tg:cy}{ifs:List cy}{xe:Ex}{iN aD:List Ex}{own cn:List Str}{bH:List Nat}{one:Bool}{k:Option IK}
theorem Pl {H3:Hp}{bv:aj}{fp:List Addr}{use:Option<|Value->Sem Unit}{Qf:Value->aj->Prop}{acc:Value}(I3:Inv X pz σ H3 bv)(cM:X.stack=X.env::X.outer)(hfm:∃L,X.env.frame=some L)(hch:∀b∈fp,(b∈X.ex\/X.s₀.heap.objs.size<=b)/\b≠X.env.locals/\(∀x c,X.env.cells.lookup x=some c->c≠b)/\∀p∈X.pn++pz,p.1≠b)(hPA:KP X Cl EX): gA (eY X.prog X.w Cl) ((hJ X scope own cn fp bv H3 bv.heap.objs.size).gM<|notedBy (model X.prog X.w) X.A (zw scope (nG X.env.cells scope.names []) bv.heap.objs.size X.env) λx s'=>Aaf (model X.prog X.w) X.A X.xe use Qf acc bv.heap.objs.size (.error x) s')<|EE X.K EX:=by
 intro pz' am H5 s5 e s' Ic hx;obtain⟨L,hL⟩:=hfm;obtain⟨a,T,H',rfl,os,bare,un,bL,ha1,hT1,fly,aA,dD,ex'⟩:=hx;have Ic2:=Ic.nS (ch:=[]) os un bL bare λ_ z=>nomatch z;have hfr:X.A.frames=some (X.env::X.outer):=by rw[<-cM];exact I3.ok.frames
 have fun2:s'.heap.FunFrames X.base<|X.env::X.outer:=by rw[<-cM];exact Ic2.stack
 have nf:l9 (.ref a) (zw scope (nG X.env.cells scope.names []) bv.heap.objs.size X.env)=l9 (.ref a) X.env:=by unfold l9 PySem.frameOf;rfl
 show wpAny (model X.prog X.w) X.A (l9 (.ref a)<|zw scope (nG X.env.cells scope.names []) bv.heap.objs.size X.env) _ _ s';rw[nf];refine LQ (base:=X.base) hfr fun2 hL fly fun h2 T' fl' b1 n1 f1 hT2=>?_;obtain⟨H4,I5,k1,k2,k3⟩:=G2 Ic2 ha1 hT1 (by show gI (gS X.stack) _ _ _;rw[cM];exact b1) n1 f1 hT2;have goal:∃ m,h2.Ns bv.heap.objs.size m/\∀ h',mf bv.heap.objs.size h2 h'->∀ cenv:Env,cenv.locals=bv.heap.objs.size->wpAny (model X.prog X.w) X.A (passOn "comprehension.variables-let-go" (.ref a) cenv:Sem Value) (fun _ _=>False) X.xe { s' with heap:=h' }:=by
  obtain⟨m5,ns5,_⟩:=I5.loc;have fC5:H4 bv.heap.objs.size=none:=I5.free;have un5:Un (gS X.stack) fp H3 H4 bv.heap h2:=I5.base;have os5:s'.os=bv.os:=I5.os;have hok5:fH X.prog X.w H4 h2:=I5.bL;refine⟨m5,ns5,λh' hh cenv hc=>?_⟩;have IX:Inv X pz σ H4 { s' with heap:=h' }:=by
   have ne:∀b o,bv.heap.get? b=some o->b≠bv.heap.objs.size:=λb o e=>cj<|bc e;have kk:∀b o,b≠bv.heap.objs.size->h2.get? b=some o->h'.get? b=some o:=λb o hb e=>hh.extBut b o hb e;refine I3.nS (s':={ s' with heap:=h' }) (ch:=fp) os5 ⟨λb o e n hb hx=>kk b o (ne b o e)<|un5.keep b o e n hb hx,λb o e n hb hx=>?_,un5.free,λb o e hx=>?_,un5.jO,un5.jG,un5.kC⟩ (PR hok5 fC5 hh) I5.bare hch;·obtain⟨sl,e'⟩:=un5.slot b o e n hb hx;exact⟨sl,kk b _ (ne b o e) e'⟩
   ·obtain⟨o',e'⟩:=un5.there b o e hx;exact⟨o',kk b o' (ne b o e) e'⟩
  have nea:a≠bv.heap.objs.size:=λz=>by rw[z,fC5]at k1;cases k1
  have neT:T'≠bv.heap.objs.size:=λz=>by rw[z,fC5]at k2;cases k2
  have f2:pY h' a T' (.ref Cl) fl':=by obtain⟨oe,ws,oT,ts,xe,xc,xn,xd,x1,xTe,xT,xdT,x3⟩:=f1;exact⟨oe,ws,oT,ts,hh.extBut a oe nea xe,xc,xn,xd,x1,xTe,hh.extBut T' oT neT xT,xdT,x3⟩
  unfold PySem.passOn;obtain⟨oe,ws,oT,ts,xe,xc,xn,xd,x1,xTe,xT,xdT,x3⟩:=id f2;refine ai<|fj xe xd x1 ?_;rw[if_neg<|by simp];refine ai<|Gh f2 λh3 fl3 b3 f3=>wpAny_throw ?_;have b3:gI [] [T'] h' h3:=b3;have hT3:∃o ts,h3.get? T'=some o/\o.data=.fields ts:=by obtain⟨oe,ws,oT,ts,xe,xc,xn,xd,x1,xTe,xT,xdT,x3⟩:=id f3;exact⟨oT,ts,xT,xdT⟩
  have B3:gI (gS X.stack) [a,T'] h' h3:=(b3.more).old (λ_ _ z=>z) λb z=>.inl (by simp![cu]at z;rw[z];simp);obtain⟨H6,I6,m1,m2,m3⟩:=G2 IX k1 k2 B3 (.inl rfl) f3 hT3;exact hPA pz σ H6 _ a T' fl3 aA I6 m1 m2 f3 (m3<|k3 dD) ex'
 cases use<;>exact goal
theorem Eu (hC:bU C C)(S:iV X scope cn bH)(hc:X.calm=true)(lH:one=true->own.length=1)(hPA:KP X Cl EX)(cM:X.stack=X.env::X.outer)(hfm:∃L,X.env.frame=some L)(hi:PI X tg iter<|yZ X.K λσ st M=>bB C sub EX aD σ st λds aC=>jZ k ds aC λas xs=>M as xs aC)(hg:∀fp s H Ca XE,PG ((hJ X scope own cn fp s H Ca).gM XE) tg<|PM X.K one own.length)(hts:∀fp s H Ca XE,JU ((hJ X scope own cn fp s H Ca).gM XE) ifs<|vY X.K<|iM C sub EX iN)(he:∀fp s H Ca XE,gA (eY X.prog X.w Cl) ((hJ X scope own cn fp s H Ca).gM XE) (EE X.K EX)->PE ((hJ X scope own cn fp s H Ca).gM XE) elt (bW X.K<|aI C sub EX xe))(hs:∀x,ft iter X.env x=pure x):PE X (.ListComp elt [⟨tg,iter,ifs,0⟩] scope pos)<|bW X.K<|aI C sub EX<|.comp own.length bH (b7 own.length) one k aD iN xe:=by intro pz s σ H Q I ⟨ac,st,R,r,ok,q,hq⟩;rw[eval_ListComp];refine rf (use:=none) rfl hs (qS<|S.cells I.ok) S.kind S.names ?_;refine bA (hi pz s σ H _ I ⟨ac,st,_,r,ok,q,λJ H1 z=>z⟩) λv s1 h1=>bA h1 λitv s2 h2=>?_;obtain⟨it,fp,tn,J,H1,rfl,I2,T,t0,f2,as,xs,aC,dU,aR,j,q1⟩:=h2;refine AA (use:=none) hC S hc lH I2 T t0 f2 (r.step ok dU) aR j (λDa bv I3=>⟨_,λ_ _ h=>h,hg _ _ _ _ _,hts _ _ _ _ _,he _ _ _ _ _<|Pl (scope:=scope) (own:=own) (cn:=cn) (use:=none) (acc:=.ref Da) I3 cM hfm (λb hb=>⟨(f2 b hb).2.2.2.1,(f2 b hb).2.1,(f2 b hb).2.2.2.2.1,(f2 b hb).2.2.2.2.2⟩) hPA⟩) q1 ?_;intro Da Ca H' aA ds m s' hns G9 hI _ _ _ _ _ _ kR okp hD1 hst' hR;exact⟨m,hns,λh' hh=>⟨.ref Da,H',G9 h' hh,rfl,hq _ _ ⟨.ref Da,_,CN dU kR hD1,okp,.ref Da,hR.2 Da hst'⟩⟩⟩
theorem Cb (m:bU C C)(hPA:KP X Cl EX)(S:iV X scope cn bH)(hi:JI X C sub EX tg iter k aD)(hg:∀fp s H Ca XE,JB ((hJ X scope own cn fp s H Ca).gM XE) tg one own.length)(hts:∀fp s H Ca XE,JQ ((hJ X scope own cn fp s H Ca).gM XE) C sub EX ifs iN)(he:∀fp s H Ca XE,gA (eY X.prog X.w Cl) ((hJ X scope own cn fp s H Ca).gM XE) (EE X.K EX)->JE ((hJ X scope own cn fp s H Ca).gM XE) C sub EX elt xe)(hc:X.calm=true:=by z_go)(lH:one=true->own.length=1:=by cbv)(hs:∀x,ft iter X.env x=pure x:=by intro _;rfl)(cM:X.stack=X.env::X.outer:=by rfl)(hfm:∃L,X.env.frame=some L:=by exact⟨_,rfl⟩):JE X C sub EX (.ListComp elt [⟨tg,iter,ifs,0⟩] scope pos) (.comp own.length bH (b7 own.length) one k aD iN xe) :=⟨Eu m S hc lH hPA cM hfm hi.h (λa b c d e=>(hg a b c d e).h) (λa b c d e=>(hts a b c d e).h) (λa b c d e h=>(he a b c d e h).h) hs⟩
end
section
variable {prog:bp}{w:dh}{A:c5}{s:aj}{env:Env}{nm q:Str}{C N:Addr}{bs bm:List Value}{hdct:Bool}{sn:List Str}{sub:List Value}{ab:Bool}{col:Option Bool}{dd:Option Addr}{k0 k1 k2 k3 k5:Option Value}{newId:String}
theorem ZY {e:Addr}{t:cy}{rest:List ExceptHandler}{Q:Flow->aj->Prop}(hb:bm.contains (.type "BaseException")=true)(h:wpAny (model prog w) (A.mark<|some<|.ref e) (eval t env) (λc s1=>c=.ref C/\s1.heap.get? C=some (excClassObj nm q C N bs bm hdct sn sub ab col dd k0 k1 k2 k3 k5 newId)/\(∃oe,s1.heap.get? e=some oe/\oe.cls=.ref C) /\ wpAny (model prog w) (A.mark<|some<|.ref e) (xi (.ref e) none) (λ_ s2=>wpAny (model prog w) (A.mark<|some<|.ref e) (execs (b0::suite) env) (λf s4=>Q f s4) (λ_ _=>False) s2) (λ_ _=>False) s1) (λ_ _=>False) s):wpAny (model prog w) A (handleBy (.ref e) env<|.ExceptHandler (some t) none (b0::suite) pos::rest) Q E s:=by refine Zh (ze<|gh h (λc s1 h1=>?_) λ_ _ z=>z.elim) (by intro z;cases z);obtain⟨rfl,hC,⟨oe,he,hc⟩,hk⟩:=h1;obtain⟨hh,g,d,tk,os⟩:=s1;exact wa hC he hc hb<|codeAny_handlers_suite<|gh hk (λ_ s2 h2=>gh h2 (λ_ _ z=>z) λ_ _ z=>z.elim) λ_ _ z=>z.elim
end
theorem Kz {s:aj}{a:Addr}(ok:X.Ok)(I:Inv (mk X a) pz σ H s):Inv X pz σ H s :=⟨ok,I.os,I.bare,I.base,I.loc,I.cell,I.free,I.jH,I.pin,I.bL,I.len⟩
section
variable {f C:Addr}{fd:fh}{ps:List Str}{sp:Sp}{n x:Str}{p np:Pos}{t:TA}{v0:V}
theorem Fb (hxe:∀e s,¬X.xe e s)(cM:X.stack=X.env::X.outer)(hfm:X.env.frame=some X.env.locals)(Fc:cD X.prog X.w X.K X.mg X.base (eY X.prog X.w C) k f fd ps sp)(hr:cK k X.A)(hg:Gl X n)(hm:X.mg n=some (.ref f))(hk:e9 X.K (.ref f)=true)(hb:Binds X.K fd ps [])(ha:PA X (e0::es) t)(Z:oF X.K x C)(hgx:Gl X x)(hs:∀a,iY (mk X a) (b0::suite) λD _ H=>D.rt v0 H) (hdb:(n==("__debug__" : Str))=false)(hdx:(x==("__debug__" : Str))=false)(he:sE X e0 es)(cW:sN X cp es)(hsw:nq (.Call (.Name n p) (e0::es) [] cp) none xp.line X.env=pure false):PS X (.Try [.Expr (.Call (.Name n p) (e0::es) [] cp) xp] [.ExceptHandler (some<|.Name x np) none (b0::suite) hp] [] [] pos) λD σ H=>t σ H λvs H1=>sp vs H1 (λ_ H'=>D.nx σ H') λ_ o H'=>∀a,o=some a->H' a=some (qD a<|.ref C)->∀T',H' T'=none->D.rt v0 (upd H' T'<|lF T'):=by
 intro pz s σ H D I h;refine Aay<|ua<|wpAny_Expr_any ?_ I.quiet hsw;refine fz<|mV I hg hm ?_ hdb;refine oj (h₀:=X.base) I.ok.mod.kin hk (gh (ha cp pz s σ H _ I h) (λus s1 ⟨vs,H1,I1,r,q⟩=>⟨I1.gR,?_⟩) λe s z=>absurd z<|hxe e s) he cW;have hl:us.length=ps.length:=by rw[<-r.length];exact Fc.len _ _ _ _ q
 have hbi:=hb s1 us I1.gR (by rw[dn];exact hl);rw[dn]at hbi;refine xr<|mh (Fc.run X.A X.stack s1 H1 ⟨us,[]⟩ us vs _ _ hr I1.RB hbi r q) λres s' hq=>?_;cases res with
 |ok fl =>cases fl with|ret u =>obtain⟨v,H',I',r',q'⟩:=I1.after hq;exact kg<|kg ⟨σ,H',I',q'⟩|next=>exact gj hq|brk=>exact gj hq|cont=>exact gj hq
 |error ev =>obtain⟨a,T,H',rfl,os,bare,un,bL,ha1,hT1,fly,hE⟩:=hq;have I2:Inv X pz σ H' s':=I1.nS (ch:=[]) os un bL bare λ_ z=>nomatch z;refine MG cM hfm I2 ha1 hT1 fly λh3 T' nT' I3 f2=>?_;obtain⟨oe,_,_,_,xe,xc,_⟩:=id f2;obtain⟨hmx,bm,Nn,nm,q',bs,hdct,sn,sub,ab,col,dd,k0,k1,k2,k3,k5,mN,hC,hN,hni,Tl⟩:=Z.own I.mod.kin I.mod.glob;refine ZY (C:=C) (nm:=nm) (q:=q') (N:=Nn) (bs:=bs) (hdct:=hdct) (sn:=sn) (sub:=sub) (ab:=ab) (col:=col) (dd:=dd) (k0:=k0) (k1:=k1) (k2:=k2) (k3:=k3) (k5:=k5) (newId :="ValueError.__new__") (Tl.hasType<|by cbv) ?_;have I4:Inv (mk X a) pz σ (upd H' T'<|lF T') { s' with heap:=h3 }:=UH I3;refine mV (X:=mk X a) I4 hgx hmx ⟨rfl,I4.bk _ _ hC,⟨oe,xe,xc⟩,?_⟩ hdx;refine PN I4 f2 λh4 I5=>?_;refine bA (hs a pz _ _ _ { nx:=λ_ _=>False,rt:=D.rt } I5<|hE a rfl ha1 T' nT') λfl s7 hf=>?_;cases fl with|next=>obtain⟨_,_,_,z⟩:=hf;exact z.elim|brk=>obtain⟨_,_,_,z⟩:=hf;exact z.elim|cont=>obtain⟨_,_,_,z⟩:=hf;exact z.elim|ret u =>obtain⟨v,ci,H7,I7,r7,q7⟩:=hf;exact⟨v,ci,H7,Kz I.ok I7,r7,q7⟩
end
noncomputable def Um (K:ae)(C:aU)(Cl:Addr)(fid:Nat):Sp:=λvs H Q E=>∃d0 v0 st,∃(B:Bool->aB->Prop),vs=[v0]/\Rep K H d0 v0/\aQ K st H/\C fid [d0] st (λd aA=>eH d aA λb=>B b aA) (λ_ _=>False) /\ (∀v H' aA,Step H st H' aA->aQ K aA H'->B true aA->Q v H')/\∀H' aA,Step H st H' aA->aQ K aA H'->B false aA->∀a T,H' a=none->H' T=none->a≠T->E (.ref Cl) (some a) (upd (upd H' a<|qD a<|.ref Cl) T<|lF T)
theorem Vy {K:ae}{d0:D}{v0:V}{r:List<|Option D}{r':L2.St}(h0:Rep K H d0 v0)(hl:r.length=r'.length)(hr:∀(i:Nat) (d:D),r[i]? = some (some d)->False):cQ K H (some d0::r) (some v0::r') :=⟨by simp [hl],λi d e=>match i,e with|0,e=>by cases e;exact⟨_,rfl,h0⟩|i+1,e=>(hr i d e).elim⟩
section
variable {sub:Nat->Nat->Bool}{f:Addr}{fd:fh}{ps:List Str}{n x:Str}{p np rp c2:Pos}{xe:Ex}{j:Nat}
theorem Ma (hxe:∀e s,¬X.xe e s)(cM:X.stack=X.env::X.outer)(hfm:X.env.frame=some X.env.locals)(Fc:cD X.prog X.w X.K X.mg X.base (eY X.prog X.w Cl) k f fd ps<|Um X.K C Cl fid)(hr:cK k X.A)(hg:Gl X n)(hm:X.mg n=some (.ref f))(hk:e9 X.K (.ref f)=true)(hb:Binds X.K fd ps [])(ha:∀E,PA X [e0]<|gY X.K<|bB C sub E [xe])(Z:oF X.K x Cl)(hgx:Gl X x)(hdb:(n==("__debug__" : Str))=false)(hdx:(x==("__debug__" : Str))=false)(he:cb [e0] X.env=(false,eval e0 X.env)::cb [] X.env)(cW:(jr cp<|cb [] X.env).any (·.1)=false)(hsw:nq (.Call (.Name n p) [e0] [] cp) none xp.line X.env=pure false):JS X C sub EX (.Try [.Expr (.Call (.Name n p) [e0] [] cp) xp] [.ExceptHandler (some<|.Name x np) none [.Return (some<|.Constant .none j c2) rp] hp] [] [] pos)<|.iff (.not_<|.call fid [xe]) [.ret<|.c .non] []:=⟨λpz s σ H D I hq=>by
 obtain⟨ac,st,P,r,ok,q,h⟩:=hq;refine Fb (v0:=.non) (t:=gY X.K<|bB C sub (λc aA=>P.ex c ac aA) [xe]) hxe cM hfm Fc hr hg hm hk hb (ha _) Z hgx (λa=>vF<|LS WU) hdb hdx he cW hsw pz s σ H D I ?_;refine⟨ac,st,λds aC=>match ds with|[d0]=>C fid [d0] aC (λd aA=>eH d aA λb=>(λb aA=>if(!b)=true then P.rt .non aA else P.nx ac aA) b aA) λ_ _=>False|_=>False,r,ok,?_,λvs H1 ⟨ds,aC,s1,aR,r1,q1⟩=>?_⟩;·simp![bB]at q ⊢;exact q
 ·match ds,r1,q1 with
  |[d0],.cons (v:=v0) rv .nil,q1 =>
   refine⟨d0,v0,aC,λb aA=>if(!b)=true then P.rt .non aA else P.nx ac aA,rfl,rv,aR,q1,λv H' aA sp dD z=>?_,λH' aA sp dD z a T0 na nT ne a' ea ha' T' nT'=>?_⟩;·exact h.nx _ _ _ _ ((r.step ok s1).step aR sp) (s1.trans sp) dD z
   ·have nT2:upd H' a (qD a<|.ref Cl) T0=none:=by rw[aY<|fq ne];exact nT
    exact h.rt _ _ ⟨.non,aA,s1.trans<|((sp.trans<|kA na).trans<|kA nT2).trans<|kA nT',((dD.new na).new nT2).new nT',.non,z⟩|[],_,q1=>exact(show False from q1).elim|_::_::_,_,q1=>exact(show False from q1).elim⟩
end
end L3
end
section
open L3 PySem
local macro_rules | `(tactic| walk_at "wpe") => do let a ← ("qW kY Bl Ac KO Qr Av He Po Wv An Th NQ Eg Iz G5 Qb Kr lT Xm Sl Ms Qk Ww Su Iu Rt To Sq Rz lV gF Ta Kp Qy kF Nf WL Nr LU Jd Il Ez mE Ru Pn qV Lk Om Ka RU R9 Vd Vc Vw Wi Tn Pt Rp Tt nX Ej Cj Ef XU VG Li Jm Mq cmp_gt Kf Co Fg YY YT R6 OL R7 OK NC ON add_int add_str Fw Dg sub_int mul_int Ek YB mod_int pow_int neg_int Di Dw jI QG MZ Fe aO W6 Ik Ly MX Jz Hj YV ZT T1 NS Ga Dd Y4 SJ RA Dy T6 Hm MQ len_str Dp Iv Nj Ct UT Hq Nd Cn xO Hz QM IJ Ij La Ha wZ Ku Ed QP S9 RM Gz tJ Mr mul_str XR FU Fz ML VR J1 OI Kj En Fv J6 GF Ni Fd yS NR Ey Im UP".splitOn " ").toArray.mapM fun s => `(Lean.Parser.Tactic.simpLemma| ↓$(Lean.mkIdent s.toName):term)let b ← ("cV DE LF Q8 Wj Wx Ph aw ow d7 bh au dn if_true if_false bf bu aa reduceIte cv c9 true_and and_true nI SG T7 wH HH HD LJ JH jN GJ Ht Eb d5 rz r8 decide_eq_true_eq ao vp List.zip_nil_left List.zip_nil_right rk List.foldl_nil ag ak".splitOn " ").toArray.mapM fun s => `(Lean.Parser.Tactic.simpLemma| $(Lean.mkIdent s.toName):term)`(tactic| simp only [$a,*, $b,*])
local macro_rules|`(tactic| lk)=>`(tactic| ((try dsimp only);(first|refine dB ?_|rw[TU]);(try walk_at"wpe")))
local macro_rules|`(tactic| k_ne)=>`(tactic| ((try dsimp only);(try walk_at"wpe")))
section
namespace L3
open PySem
theorem aK {G:Prog}{f k:Nat}{fn:Fn}{ds:List D}{st:aB}{Q:VK}{E:XK}(h:G.fns f=some fn):aH G (k+1) f ds st Q E=(ds.length=fn.np/\cH (aH G k) G.sub fn.body ⟨λ_ aA=>Q .non aA,Q,λ_ _=>False,λ_ _=>False,λc _ aA=>E c aA⟩ (start fn.np fn.nl ds) st):=by simp![aH,h]
def cE (as:List Nat)(st aA:aB):Prop:=∀a o,a∉as->st a=some o->aA a=some o
theorem cE.refl {as:List Nat}{st:aB}:cE as st st:=λ_ _ _ h=>h
theorem cE.trans {as:List Nat}{a b c:aB}(h:cE as a b)(h':cE as b c):cE as a c:=λx o n e=>h' x o n<|h x o n e
theorem cE.mono {as bs:List Nat}{st aA:aB}(h:cE as st aA)(s:∀a∈as,a∈bs):cE bs st aA:=λx o n e=>h x o (λz=>n<|s x z) e
theorem Ext.keep {as:List Nat}{st aA:aB}(h:Ext st aA):cE as st aA:=λx o _ e=>h x o e
theorem cE.put {as:List Nat}{st:aB}{a:Nat}{o:MO}(h:a∈as):cE as st<|put st a o:=λx u n e=>by rw[bS λz=>n<|by simp_all];exact e
noncomputable def xH (ns:List Int)(k:Int):Int:=if k<ns.length then ns[k.toNat]?.getD 0 else if ns=[]then 0 else ns[(k % ns.length).toNat]?.getD 0*31+k
noncomputable def kU (ns:List Int)(k many:Int):Int :=let d:=(xH ns k+7919*k+1)*48271 % 2147483647;(d*d+7*d+k) % 2147483629 % many
theorem gP {ns:List Int}{k many:Int}(h:0<many):0<=kU ns k many:=jj _<|by lia
theorem iB {ns:List Int}{k many:Int}(h:0<many):kU ns k many<many:=g9 _ h
noncomputable def oA:Fn:=⟨2,2,[.iff (.cmp .lt (.v 1)<|.bi .len [.v 0]) [.ret<|.ix (.v 0)<|.v 1] [],.iff (.cmp .eq (.v 0)<|.lst []) [.ret<|.c<|.int 0] [],.ret<|.bin .add (.bin .mul (.ix (.v 0)<|.bin .mod (.v 1)<|.bi .len [.v 0])<|.c<|.int 31)<|.v 1]⟩
noncomputable def lY (ic:Nat):Fn:=⟨3,4,[.asg (.nm 3)<|.bin .mod (.bin .mul (.bin .add (.bin .add (.call ic [.v 0,.v 1])<|.bin .mul (.c<|.int 7919)<|.v 1)<|.c<|.int 1)<|.c<|.int 48271)<|.c<|.int 2147483647,.ret<|.bin .mod (.bin .mod (.bin .add (.bin .add (.bin .mul (.v 3)<|.v 3)<|.bin .mul (.c<|.int 7)<|.v 3)<|.v 1)<|.c<|.int 2147483629)<|.v 2]⟩
noncomputable def rB (im:Nat):Fn:=⟨3,3,[.asg (.ix (.v 1)<|.c<|.int 0)<|.bin .add (.ix (.v 1)<|.c<|.int 0)<|.c<|.int 1,.ret<|.call im [.v 0,.ix (.v 1)<|.c<|.int 0,.v 2]]⟩
theorem D1 (ns:List Int):bK (ns.map .int)=true/\cN (ns.map .int)=0:=by induction ns with|nil=>exact⟨rfl,rfl⟩|cons n r ih=>assumption
theorem QN {ns:List Int}{k:Int}(h0:0<=k)(h1:k<ns.length):fI (ns.map D.int) k=some (.int<|ns[k.toNat]?.getD 0):=by obtain⟨n,rfl⟩:∃n:Nat,k=n:=⟨k.toNat,by lia⟩;rw[iO<|by simp_all];simp![fi,tu];rw[br<|by lia];rfl
section
variable {G:Prog}{k ic im dQ:Nat}{st:aB}{Q:VK}{E:XK}{ns:List Int}
theorem Fs (hc:G.fns ic=some oA){i:Int}(hi:0<=i)(hQ:∀aA,Ext st aA->Q (.int<|xH ns i) aA):aH G (k+1) ic [.bR<|ns.map .int,.int i] st Q E:=by
 rw[aK hc];simp![oA,start];refine⟨rfl,?_⟩;refine dB ?_;walk_at"wpe";simp![af];by_cases h:i<ns.length;·simp![h,decide_true,if_true];refine dB ?_;walk_at"wpe";rw[QN hi h];walk_at"wpe";have:=hQ st .refl;simp![xH,h,if_true]at this;exact this
 ·simp![h,decide_false,aa,if_false,aG];refine dB ?_;walk_at"wpe";refine⟨Nat.zero_le _,λp hp=>?_⟩;have hx:Ext st<|put st p<|.lst []:=Ext.new hp;dsimp only;have e1:bZ (put st p<|.lst []) (.bR<|ns.map .int) (.ref p)=ns.isEmpty:=by show LN _ (put st p (.lst []) p)=_;rw[bE];cases ns with|nil=>rfl|cons n r=>rfl
  rw[e1];refine⟨⟨?_,cg _⟩,⟨?_,cg _⟩,?_⟩;·simp![fY,(D1 ns).1,(D1 ns).2,rj];rfl
  ·simp![fY,bE,Bn];rfl
  cases ns with|nil =>have:=hQ _ hx;simp![xH,h,if_false,if_true]at this;exact this|cons n r =>
   simp![sk,aa,if_false,aG];refine dB ?_;have hl:(0:Int)<((n::r).length):=by simp![ag];lia
   simp![LU,KO,lT,kY,qW,G5,gF,lV,Ln,Ks,T6,MQ,mod_int,QG,af,aw,d7,bh,ow];refine⟨by simpa using hl,?_⟩;have hm0:0<=i % ((n::r).length):=jj _ (by lia);have hm1:i % ((n::r).length)<(n::r).length:=g9 _ hl;have:=QN (ns:=n::r) hm0 hm1;simp![aw,ag]at this;simp![ag,af];rw[this];walk_at"wpe";refine⟨.inr ⟨by lia,by lia⟩,?_⟩;have:=hQ _ hx;simp![xH,h,if_false]at this;simpa using this
theorem NY (hm:G.fns im=some (lY ic))(hc:G.fns ic=some oA){i many:Int}(hi:0<=i)(hmany:0<many)(hQ:∀aA,Ext st aA->Q (.int<|kU ns i many) aA):aH G (k+2) im [.bR<|ns.map .int,.int i,.int many] st Q E:=by rw[aK hm];simp![lY,start];refine⟨rfl,?_⟩;refine dB ?_;walk_at"wpe";refine Fs hc hi λaA e=>?_;walk_at"wpe";refine⟨.inl ⟨by lia,by lia⟩,.inr ⟨by lia,by lia⟩,by lia,?_⟩;refine dB ?_;walk_at"wpe";have d0:0<=(xH ns i+7919*i+1)*48271 % 2147483647:=jj _ (by lia);have d1:(xH ns i+7919*i+1)*48271 % 2147483647<2147483647:=g9 _ (by lia);refine⟨.inl ⟨by lia,by lia⟩,.inl ⟨by lia,by lia⟩,by lia,hmany,?_⟩;exact hQ aA e
theorem gD (hn:G.fns dQ=some (rB im))(hm:G.fns im=some (lY ic))(hc:G.fns ic=some oA){a:Nat}{i many:Int}(ha:st a=some (.lst [.int i]))(hi:0<=i)(hmany:0<many)(hQ:∀aA,cE [a] st aA->aA a=some (.lst [.int<|i+1])->Q (.int<|kU ns (i+1) many) aA):aH G (k+3) dQ [.bR<|ns.map .int,.ref a,.int many] st Q E:=by rw[aK hn];simp![rB,start];refine⟨rfl,?_⟩;refine dB ?_;walk_at"wpe";rw[cP ha];walk_at"wpe";rw[aF ha];have e0:oJ [D.int i].length 0=some 0:=rfl;simp![e0,aO,cv];refine dB ?_;walk_at"wpe";rw[cP bE];walk_at"wpe";refine NY hm hc (by lia) hmany λaA e=>?_;refine hQ aA (λx o n h=>e x o<|by rw[bS<|by simpa using n];exact h)<|e a _ bE
end
inductive W1 where|not|before|once|sofar deriving DecidableEq
inductive W2 where|and|or|bA|same|since deriving DecidableEq
set_option genInjectivity true in
inductive Sy where|yes|no|bF (n:List Nat)|one (w:W1)(s:Sy)|two (w:W2)(s t:Sy)deriving DecidableEq
noncomputable def c1:W1->List Nat|.not=>W "not"|.before=>W "before"|.once=>W "once"|.sofar=>W "sofar"
noncomputable def c2:W2->List Nat|.and=>W "and"|.or=>W "or"|.bA=>W "then"|.same=>W "same"|.since=>W "since"
noncomputable def toD:Sy->D|.yes=>.tup [.str<|W "yes"]|.no=>.tup [.str<|W "no"]|.bF n=>.tup [.str<|W "lamp",.str n]|.one w s=>.tup [.str<|c1 w,toD s]|.two w s t=>.tup [.str<|c2 w,toD s,toD t]
noncomputable def aE:Sy->Nat|.one _ s=>aE s+1|.two _ s t=>max (aE s) (aE t)+1|_=>1
noncomputable def p1:W1->Bool|.not=>false|_=>true
noncomputable def p2:W2->Bool|.since=>true|_=>false
noncomputable def cnt:Sy->Nat|.one w s=>(if p1 w then 1 else 0)+cnt s|.two w s t=>(if p2 w then 1 else 0)+(cnt s+cnt t)|_=>0
def over (names:List<|List Nat):Sy->Prop|.bF n=>n∈names|.one _ s=>over names s|.two _ s t=>over names s/\over names t|_=>True
theorem mI:∀s:Sy,cL (toD s)=true|.yes=>rfl|.no=>rfl|.bF n=>rfl|.one w s=>by simp![toD,cL,bK,mI s,fu]|.two w s t=>by simp![toD,cL,bK,mI s,mI t,fu]
theorem iA:∀s:Sy,dN (toD s)=aE s|.yes=>rfl|.no=>rfl|.bF n=>rfl|.one w s=>by simp![toD,dN,cN,iA s,aE,yj,yk]|.two w s t=>by simp![toD,dN,cN,iA s,iA t,aE,yj,yk]
noncomputable def nC (dQ is:Nat):Fn:=⟨5,7,[.asg (.nm 5)<|.call dQ [.v 0,.v 1,.c<|.int 13],.iff (.or_ (.cmp .eq (.v 3)<|.c<|.int 0)<|.cmp .lt (.v 5)<|.c<|.int 3) [.ret<|.tup [.c<|.str<|W "lamp",.ix (.v 2)<|.call dQ [.v 0,.v 1,.bi .len [.v 2]]]] [],.iff (.cmp .eq (.v 5)<|.c<|.int 3) [.ret<|.tup [.ix (.lst [.c<|.str<|W "yes",.c<|.str<|W "no"])<|.call dQ [.v 0,.v 1,.c<|.int 2]]] [],.iff (.and_ (.cmp .gt (.v 5)<|.c<|.int 8)<|.cmp .gt (.ix (.v 4)<|.c<|.int 0)<|.c<|.int 0) [.asg (.ix (.v 4)<|.c<|.int 0)<|.bin .sub (.ix (.v 4)<|.c<|.int 0)<|.c<|.int 1,.asg (.nm 6)<|.call is [.v 0,.v 1,.v 2,.bin .sub (.v 3)<|.c<|.int 1,.v 4],.iff (.cmp .eq (.v 5)<|.c<|.int 12) [.ret<|.tup [.c<|.str<|W "since",.v 6,.call is [.v 0,.v 1,.v 2,.bin .sub (.v 3)<|.c<|.int 1,.v 4]]] [],.ret<|.tup [.ix (.lst [.c<|.str<|W "before",.c<|.str<|W "once",.c<|.str<|W "sofar"])<|.bin .sub (.v 5)<|.c<|.int 9,.v 6]] [],.asg (.nm 6)<|.call is [.v 0,.v 1,.v 2,.bin .sub (.v 3)<|.c<|.int 1,.v 4],.iff (.or_ (.cmp .eq (.v 5)<|.c<|.int 4)<|.cmp .gt (.v 5)<|.c<|.int 8) [.ret<|.tup [.c<|.str<|W "not",.v 6]] [],.ret<|.tup [.ix (.lst [.c<|.str<|W "and",.c<|.str<|W "or",.c<|.str<|W "then",.c<|.str<|W "same"])<|.bin .sub (.v 5)<|.c<|.int 5,.v 6,.call is [.v 0,.v 1,.v 2,.bin .sub (.v 3)<|.c<|.int 1,.v 4]]]⟩
def Drawn (a b:Nat)(i l:Int)(st aA:aB)(i' l':Int):Prop:=cE [a,b] st aA/\0<=i'/\aA a=some (.lst [.int i'])/\aA b=some (.lst [.int l'])
section
variable {G:Prog}{k ic im dQ is:Nat}{st:aB}{Q:VK}{E:XK}{ns:List Int}
theorem Hh {xs:List<|List Nat}{v:Int}(h0:0<=v)(h1:v<xs.length):∃x∈xs,fI (xs.map D.str) v=some (.str x):=by
 obtain⟨n,rfl⟩:∃n:Nat,v=n:=⟨v.toNat,by lia⟩;have h:n<xs.length:=by lia
 refine⟨_,Aaz h,?_⟩;rw[iO<|by simp_all];simp![fi];rw[br h];rfl
theorem Bx {d:D}{r:List D}:oJ (d::r).length 0=some 0:=by unfold oJ;rw[if_pos<|by lia,if_pos<|by simp_all];rfl
theorem bO {ds:List D}(hl:ds.length<=aL)(h:∀p aA,Ext st aA->st p=none->aA p=some (.lst ds)->Q (.ref p) aA):fW ds st Q:=⟨hl,λp hp=>h p _ (Ext.new hp) hp bE⟩
theorem tD (hs:G.fns is=some (nC dQ is))(hn:G.fns dQ=some (rB im))(hm:G.fns im=some (lY ic))(hc:G.fns ic=some oA){names:List<|List Nat}(dO:0<names.length){a b:Nat}(jP:a≠b):∀(n:Nat){st:aB}{Q:VK}{E:XK}{i l:Int},st a=some (.lst [.int i])->st b=some (.lst [.int l])->0<=i->0<=l ->(∀s aA i',over names s->aE s<=n+1->(cnt s:Int)<=l->cE [a,b] st aA->0<=i'->aA a=some (.lst [.int i'])->aA b=some (.lst [.int<|l-cnt s])->Q (toD s) aA) ->aH G (k+n+4) is [.bR<|ns.map .int,.ref a,.tup<|names.map .str,.int n,.ref b] st Q E:=by
 intro n;have bF:∀{n:Nat}{st:aB}{Q:VK}{E:XK}{i l:Int}{K:Nat}{P:fA}{r:St},st a=some (.lst [.int i])->st b=some (.lst [.int l])->0<=i->0<=l ->(∀s aA i',over names s->aE s<=n+1->(cnt s:Int)<=l->cE [a,b] st aA->0<=i'->aA a=some (.lst [.int i'])->aA b=some (.lst [.int<|l-cnt s])->P.rt (toD s) aA) ->cH (aH G<|K+3) G.sub [.ret<|.tup [.c<|.str<|W "lamp",.ix (.v 2)<|.call dQ [.v 0,.v 1,.bi .len [.v 2]]]] P (some (.bR<|ns.map .int)::some (.ref a)::some (.tup<|names.map .str)::r) st:=by intro n st Q E i l K P r ha hb hi hl hQ;lk;simp![af];refine gD hn hm hc ha hi (by lia) λaC k1 a1=>?_;k_ne;obtain⟨x,hx,e⟩:=Hh (xs:=names) (gP (ns:=ns) (k:=i+1) (many:=names.length)<|by lia) (iB<|by lia);rw[e];k_ne;have b1:aC b=some (.lst [.int l]):=k1 b _ (by simpa using jP.symm) hb;exact hQ (.bF x) aC (i+1) hx (by simp [aE]) (by simp [cnt];lia) (k1.mono<|by simp) (by lia) a1<|by simpa [cnt]using b1
 induction n with|zero =>intro st Q E i l ha hb hi hl hQ;rw[aK hs];simp![nC,start];refine⟨rfl,?_⟩;lk;refine gD hn hm hc ha hi (by lia) λaC k1 a1=>?_;lk;simp![AaA,beq_self_eq_true,if_true];have b1:aC b=some (.lst [.int l]):=k1 b _ (by simpa using jP.symm) hb;have kk:cE [a,b] st aC:=k1.mono (by simp);exact bF (n:=0) (Q:=Q) (E:=E) a1 b1 (by lia) hl λs aA i' h1 h2 h3 h4 h5 h6 h7=>hQ s aA i' h1 h2 h3 (kk.trans h4) h5 h6 h7|succ n ih =>
  intro st Q E i l ha hb hi hl hQ;rw[aK hs];simp![nC,start];refine⟨rfl,?_⟩;lk;refine gD hn hm hc ha hi (by lia) λaC k1 a1=>?_;have v0:=gP (ns:=ns) (k:=i+1) (many:=13) (by lia);have v1:=iB (ns:=ns) (k:=i+1) (many:=13) (by lia);generalize kU ns (i+1) 13=v at v0 v1;have b1:aC b=some (.lst [.int l]):=k1 b _ (by simpa using jP.symm) hb;have kk:cE [a,b] st aC:=k1.mono (by simp);have hn0:(((n+1:Nat):Int)==0)=false:=by rw[beq_eq_false_iff_ne];lia
  have hn1:((n+1:Nat):Int)-1=(n:Int):=by lia
  lk;simp![hn0,aa,if_false];by_cases h3:v<3;·simp![h3,decide_true,if_true];exact bF (n:=n+1) (Q:=Q) (E:=E) a1 b1 (by lia) hl λs aA i' h1 h2 h3 h4 h5 h6 h7=>hQ s aA i' h1 h2 h3 (kk.trans h4) h5 h6 h7
  simp![h3,decide_false,aa,if_false,aG];lk;by_cases e3:v=3
  ·subst e3;simp![beq_self_eq_true,if_true];lk;refine bO (by cbv) λp aJ x2 hp fQ=>?_;k_ne;have pa:p≠a:=λz=>by rw[z,a1]at hp;cases hp
   have pb:p≠b:=λz=>by rw[z,b1]at hp;cases hp
   refine gD hn hm hc (x2 a _ a1) (by lia) (by lia) λaZ k3 a3=>?_;k_ne;have w0:=gP (ns:=ns) (k:=i+1+1) (many:=2) (by lia);have w1:=iB (ns:=ns) (k:=i+1+1) (many:=2) (by lia);generalize kU ns (i+1+1) 2=w at w0 w1;rw[cP<|k3 p _ (by simpa using pa) fQ];have b3:aZ b=some (.lst [.int l]):=k3 b _ (by simpa using jP.symm)<|x2 b _ b1;have kk3:cE [a,b] st aZ:=(kk.trans x2.keep).trans (k3.mono<|by simp);obtain rfl|rfl:w=0\/w=1:=by lia
   ·k_ne;exact hQ .yes aZ _ trivial (by simp [aE]) (by simp [cnt];lia) kk3 (by lia) a3<|by simpa [cnt]using b3
   ·k_ne;exact hQ .no aZ _ trivial (by simp [aE]) (by simp [cnt];lia) kk3 (by lia) a3<|by simpa [cnt]using b3
  have e3':(v==3)=false:=by rw[beq_eq_false_iff_ne];exact e3
  simp![e3',aa,if_false,aG];lk;have plain:∀{P:fA},(∀s aA i',over names s->aE s<=n+1+1->(cnt s:Int)<=l->cE [a,b] st aA->0<=i'->aA a=some (.lst [.int i'])->aA b=some (.lst [.int<|l-cnt s])->P.rt (toD s) aA) -> cH (aH G<|k+n+4) G.sub [.asg (.nm 6)<|.call is [.v 0,.v 1,.v 2,.bin .sub (.v 3)<|.c<|.int 1,.v 4],.iff (.or_ (.cmp .eq (.v 5)<|.c<|.int 4)<|.cmp .gt (.v 5)<|.c<|.int 8) [.ret<|.tup [.c<|.str<|W "not",.v 6]] [],.ret<|.tup [.ix (.lst [.c<|.str<|W "and",.c<|.str<|W "or",.c<|.str<|W "then",.c<|.str<|W "same"])<|.bin .sub (.v 5)<|.c<|.int 5,.v 6,.call is [.v 0,.v 1,.v 2,.bin .sub (.v 3)<|.c<|.int 1,.v 4]]] P [some<|.bR<|ns.map .int,some<|.ref a,some<|.tup<|names.map .str,some<|.int ((n+1:Nat):Int),some<|.ref b,some<|.int v,none] aC:=by
   intro P hQ;lk;rw[hn1];refine ih a1 b1 (by lia) hl λs1 aJ i2 o1 d1 cc1 k2 hi2 a2 b2=>?_;lk;have hor:(v==4||decide (8<v))=true\/(v=5\/v=6\/v=7\/v=8):=by
    by_cases q:v=4;·left;simp [q]
    ·by_cases q':8<v;·left;simp [q']
     ·right;lia
   rcases hor with hor|hor
   ·have go:cH (aH G<|k+n+4) G.sub [.ret<|.tup [.c<|.str<|W "not",.v 6]] { P with nx:=cH (aH G<|k+n+4) G.sub [.ret<|.tup [.ix (.lst [.c<|.str<|W "and",.c<|.str<|W "or",.c<|.str<|W "then",.c<|.str<|W "same"])<|.bin .sub (.v 5)<|.c<|.int 5,.v 6,.call is [.v 0,.v 1,.v 2,.bin .sub (.v 3)<|.c<|.int 1,.v 4]]] P } [some<|.bR<|ns.map .int,some<|.ref a,some<|.tup<|names.map .str,some<|.int ((n+1:Nat):Int),some<|.ref b,some<|.int v,some<|toD s1] aJ:=by lk;exact hQ (.one .not s1) aJ i2 o1 (by simp![aE];lia) (by simp [cnt,p1];lia) (kk.trans k2) hi2 a2<|by simpa [cnt,p1]using b2
    by_cases q:v=4;·simp![q,beq_self_eq_true,if_true];rw[q]at go;exact go
    ·have q1:(v==4)=false:=by rw[beq_eq_false_iff_ne];exact q
     have q2:8<v:=by simpa [q1]using hor
     simp![q1,q2,aa,if_false,if_true];exact go
   ·have q1:(v==4)=false:=by rw[beq_eq_false_iff_ne];lia
    have q2:¬8<v:=by lia
    simp![q1,q2,aa,if_false,aG];lk;refine bO (by cbv) λp aZ x3 hp hp3=>?_;k_ne;rw[cP hp3];have pa:p≠a:=λz=>by rw[z,a2]at hp;cases hp
    have pb:p≠b:=λz=>by rw[z,b2]at hp;cases hp
    have step:∀w:W2,p2 w=false->∀{Q:VK},(∀s aA i',over names s->aE s<=n+1+1->(cnt s:Int)<=l->cE [a,b] st aA->0<=i'->aA a=some (.lst [.int i'])->aA b=some (.lst [.int<|l-cnt s])->Q (toD s) aA) -> aH G (k+n+4) is [.bR<|ns.map .int,.ref a,.tup<|names.map .str,.int<|((n+1:Nat):Int)-1,.ref b] aZ (λd aA=>Q (.tup [.str<|c2 w,toD s1,d]) aA) λ_ _=>False:=by intro w hw Q hQ;rw[hn1];refine ih (x3 a _ a2) (x3 b _ b2) hi2 (by lia) λs2 cR i4 o2 d2 c2' k4 hi4 a4 b4=>?_;refine hQ (.two w s1 s2) cR i4 ⟨o1,o2⟩ (by simp![aE];lia) (by simp![cnt,hw];simp;lia) ((kk.trans k2).trans<|x3.keep.trans k4) hi4 a4 ?_;rw[b4];simp![cnt,hw];simp;lia
    rcases hor with rfl|rfl|rfl|rfl;·k_ne; exact step .and rfl hQ
    ·k_ne; exact step .or rfl hQ
    ·k_ne; exact step .bA rfl hQ
    ·k_ne; exact step .same rfl hQ
  by_cases h8:8<v
  ·simp![h8,if_true];rw[cP b1];k_ne;by_cases hl0:0<l
   ·simp![hl0,if_true];lk;rw[cP b1];k_ne;rw[aF b1];simp![Bx,aO,cv];have a2:(put aC b<|.lst [.int<|l-1]) a=some (.lst [.int<|i+1]):=by rw[bS jP];exact a1
    have kp:cE [a,b] st<|put aC b<|.lst [.int<|l-1]:=kk.trans (cE.put<|by simp);lk;rw[hn1];refine ih a2 bE (by lia) (by lia) λs1 aJ i2 o1 d1 cc1 k2 hi2 a3 b3=>?_;lk;by_cases e12:v=12;·simp![e12,beq_self_eq_true,if_true];lk;rw[hn1];refine ih a3 b3 hi2 (by lia) λs2 cR i4 o2 d2 c2' k4 hi4 a4 b4=>?_;refine hQ (.two .since s1 s2) cR i4 ⟨o1,o2⟩ (by simp![aE];lia) (by simp [cnt,p2];lia) ((kp.trans k2).trans k4) hi4 a4 ?_;rw[b4];simp [cnt,p2];lia
    ·have e12':(v==12)=false:=by rw[beq_eq_false_iff_ne];exact e12
     simp![e12',aa,if_false,aG];lk;refine bO (by cbv) λp aZ x3 hp hp3=>?_;k_ne;rw[cP hp3];have fin:∀w:W1,p1 w=true->Q (.tup [.str<|c1 w,toD s1]) aZ:=λw hw=>by refine hQ (.one w s1) aZ i2 o1 (by simp![aE];lia) (by simp [cnt,hw];lia) ((kp.trans k2).trans x3.keep) hi2 (x3 _ _ a3) ?_;rw[x3 _ _ b3];simp [cnt,hw];lia
     obtain rfl|rfl|rfl:v=9\/v=10\/v=11:=by lia
     ·k_ne; exact fin .before rfl
     ·k_ne; exact fin .once rfl
     ·k_ne; exact fin .sofar rfl
   ·simp![hl0,if_false,aG];exact plain hQ
  ·simp![h8,if_false,aG];exact plain hQ
end
noncomputable def pO:List<|List Nat:=[W "a", W "b", W "x", W "y", W "lamp", W "far", W "yesno", W "abcdefgh"]
noncomputable def vG (fs gs:List<|List Nat):Bool:=decide (1<=fs.length)&&decide (fs.length<=2)&&decide (1<=gs.length)&&decide (gs.length<=2)&&decide ((fs++gs).Nodup)&&(fs++gs).all λn=>pO.contains n
noncomputable def qT (t:Int):List<|List Nat:=cut pO (some t) none++cut pO none (some t)
theorem UR:∀(t:Fin 8)(f g:Fin 2),vG (cut (qT (t.val:Nat)) none<|some<|1+(f.val:Nat)) (cut (qT (t.val:Nat)) (some<|1+(f.val:Nat))<|some<|1+(f.val:Nat)+(1+(g.val:Nat)))=true:=by x_go
theorem T4 {t f g:Int}(h0:0<=t)(h1:t<8)(h2:0<=f)(h3:f<2)(h4:0<=g)(h5:g<2):vG (cut (qT t) none<|some<|1+f) (cut (qT t) (some<|1+f)<|some<|1+f+(1+g))=true:=by have:=UR ⟨t.toNat,by lia⟩ ⟨f.toNat,by lia⟩ ⟨g.toNat,by lia⟩;simp![nh h0,nh h2,nh h4]at this;exact this
theorem BF {α β:Type}(f:α->β)(xs:List α)(lo hi:Option Int):cut (xs.map f) lo hi=(cut xs lo hi).map f:=by simp![cut,af,List.map_take,List.map_drop]
noncomputable def yX (dQ:Nat):Fn:=⟨2,7,[.asg (.nm 2)<|.lst [.c<|.str<|W "a",.c<|.str<|W "b",.c<|.str<|W "x",.c<|.str<|W "y",.c<|.str<|W "lamp",.c<|.str<|W "far",.c<|.str<|W "yesno",.c<|.str<|W "abcdefgh"],.asg (.nm 3)<|.call dQ [.v 0,.v 1,.c<|.int 8],.asg (.nm 4)<|.bin .add (.sl (.v 2) [.v 3] [])<|.sl (.v 2) [] [.v 3],.asg (.nm 5)<|.bin .add (.c<|.int 1)<|.call dQ [.v 0,.v 1,.c<|.int 2],.asg (.nm 6)<|.bin .add (.c<|.int 1)<|.call dQ [.v 0,.v 1,.c<|.int 2],.ret<|.tup [.bi .tuple [.sl (.v 4) [] [.v 5]],.bi .tuple [.sl (.v 4) [.v 5] [.bin .add (.v 5)<|.v 6]]]]⟩
section
variable {G:Prog}{k ic im dQ is:Nat}{st:aB}{Q:VK}{E:XK}{ns:List Int}
theorem YC {inm:Nat}(hm':G.fns inm=some (yX dQ))(hn:G.fns dQ=some (rB im))(hm:G.fns im=some (lY ic))(hc:G.fns ic=some oA){a:Nat}{i:Int}(ha:st a=some (.lst [.int i]))(hi:0<=i)(hQ:∀fs gs aA i',vG fs gs=true->cE [a] st aA->0<=i'->aA a=some (.lst [.int i'])->Q (.tup [.tup<|fs.map .str,.tup<|gs.map .str]) aA):aH G (k+4) inm [.bR<|ns.map .int,.ref a] st Q E:=by
 have hL:aL=16777216:=rfl;rw[aK hm'];simp![yX,start];refine⟨rfl,?_⟩;lk;refine bO (by cbv) λp aC x1 hp hp1=>?_;have pa:p≠a:=λz=>by rw[z,ha]at hp;cases hp
 lk;refine gD hn hm hc (x1 a _ ha) hi (by lia) λaJ k2 a2=>?_;have t0:=gP (ns:=ns) (k:=i+1) (many:=8) (by lia);have t1:=iB (ns:=ns) (k:=i+1) (many:=8) (by lia);generalize kU ns (i+1) 8=t at t0 t1;have p2:=k2 p _ (by simpa using pa) hp1;lk;rw[aF p2];intro q hq;have x3:Ext aJ<|put aJ q<|.lst<|cut [.str<|W "a",.str<|W "b",.str<|W "x",.str<|W "y",.str<|W "lamp",.str<|W "far",.str<|W "yesno",.str<|W "abcdefgh"] (some t) none:=Ext.new hq;k_ne;rw[aF<|x3 p _ p2];intro q' hq';have x4:=Ext.new (o:=.lst<|cut [.str<|W "a",.str<|W "b",.str<|W "x",.str<|W "y",.str<|W "lamp",.str<|W "far",.str<|W "yesno",.str<|W "abcdefgh"] none<|some t) hq';k_ne;rw[aF<|x4 q _ bE,aF bE];have eL:([.str<|W "a",.str<|W "b",.str<|W "x",.str<|W "y",.str<|W "lamp",.str<|W "far",.str<|W "yesno",.str<|W "abcdefgh"]:List D)=pO.map .str:=rfl;have er:cut ([.str<|W "a",.str<|W "b",.str<|W "x",.str<|W "y",.str<|W "lamp",.str<|W "far",.str<|W "yesno",.str<|W "abcdefgh"]:List D) (some t) none++cut [.str<|W "a",.str<|W "b",.str<|W "x",.str<|W "y",.str<|W "lamp",.str<|W "far",.str<|W "yesno",.str<|W "abcdefgh"] none (some t)=(qT t).map .str:=by rw[eL,BF,BF,<-eu];rfl
 have lr:(qT t).length<=16:=by have l1:=A9 (xs:=pO) (lo:=some t) (hi:=none);have l2:=A9 (xs:=pO) (lo:=none) (hi:=some t);have l3:pO.length=8:=rfl;simp![qT,ah];lia
 rw[er];refine bO (by simp![af];lia) λr eQ x5 hr hr5=>?_;have k5:cE [a] st eQ:=((x1.keep.trans k2).trans x3.keep).trans<|x4.keep.trans x5.keep;have a5:eQ a=some (.lst [.int<|i+1]):=x5 _ _<|x4 _ _<|x3 _ _ a2;have ra:r≠a:=λz=>by rw[z,x4 _ _<|x3 _ _ a2]at hr;cases hr
 lk;refine gD hn hm hc a5 (by lia) (by lia) λdE k6 a6=>?_;have f0:=gP (ns:=ns) (k:=i+1+1) (many:=2) (by lia);have f1:=iB (ns:=ns) (k:=i+1+1) (many:=2) (by lia);generalize kU ns (i+1+1) 2=f at f0 f1;k_ne;lk;refine gD hn hm hc a6 (by lia) (by lia) λN9 k7 a7=>?_;have g0:=gP (ns:=ns) (k:=i+1+1+1) (many:=2) (by lia);have g1:=iB (ns:=ns) (k:=i+1+1+1) (many:=2) (by lia);generalize kU ns (i+1+1+1) 2=g at g0 g1;have r7:N9 r=some (.lst<|(qT t).map .str):=k7 r _ (by simpa using ra)<|k6 r _ (by simpa using ra) hr5;k_ne;lk;rw[aF r7];intro u hu;k_ne;rw[aF bE];have xu:=Ext.new (o:=.lst<|cut ((qT t).map D.str) none<|some<|1+f) hu;have c1:=A9 (xs:=(qT t).map D.str) (lo:=none) (hi:=some<|1+f);have c2:=A9 (xs:=(qT t).map D.str) (lo:=some<|1+f) (hi:=some<|1+f+(1+g));simp![af]at c1 c2;refine⟨by lia,?_⟩;rw[aF<|xu r _ r7];intro u' hu';k_ne;rw[aF bE];refine⟨by lia,?_⟩;have xu':=Ext.new (o:=.lst<|cut ((qT t).map D.str) (some<|1+f)<|some<|1+f+(1+g)) hu';rw[BF,BF]at *;exact hQ _ _ _ (i+1+1+1) (T4 t0 t1 f0 f1 g0 g1) ((k5.trans<|k6.trans k7).trans<|xu.keep.trans xu'.keep) (by lia)<|xu' _ _<|xu _ _ a7
end
mutual
theorem Dv:∀d:D,cL d=true->fJ d d=true|.non,_=>rfl|.bl b,_=>beq_self_eq_true b|.int i,_=>beq_self_eq_true i|.str x,_=>beq_self_eq_true x|.tup ds,h=>NT ds h|.ref _,h=>by cases h|.cF _ _,h=>by cases h|.bR _,h=>by cases h|.exc _,h=>by cases h;theorem NT:∀ds:List D,bK ds=true->mG ds ds=true|[],_=>rfl|d::ds,h=>by simp![bK,ao]at h;simp![mG,Dv d h.1,NT ds h.2,fu]end
mutual
theorem GW {st:aB}:∀d:D,cL d=true->bZ st d d=true|.non,_=>rfl|.bl b,_=>beq_self_eq_true b|.int i,_=>beq_self_eq_true i|.str x,_=>beq_self_eq_true x|.tup ds,h=>NH ds h|.ref _,h=>by cases h|.cF _ _,h=>by cases h|.bR _,h=>by cases h|.exc _,h=>by cases h;theorem NH {st:aB}:∀ds:List D,bK ds=true->mH st ds ds=true|[],_=>rfl|d::ds,h=>by simp![bK,ao]at h;simp![mH,GW d h.1,NH ds h.2,fu]end
theorem Jr (w w':W1):(c1 w==c1 w')=decide (w=w'):=by cases w<;>cases w'<;>x_go
theorem Jt (w w':W2):(c2 w==c2 w')=decide (w=w'):=by cases w<;>cases w'<;>x_go
theorem QS (w:W1):(W "lamp" == c1 w)=false/\(c1 w==W "lamp")=false:=by cases w<;>x_go
theorem eB {st:aB}{as bs:List D}:bZ st (.tup as) (.tup bs)=mH st as bs:=.trans rfl rfl
theorem cU {st:aB}{a b:D}{as bs:List D}:mH st (a::as) (b::bs)=(bZ st a b&&mH st as bs):=.trans rfl rfl
theorem sQ {st:aB}:mH st [] []=true:=rfl
theorem rG {st:aB}{b:D}{bs:List D}:mH st [] (b::bs)=false:=rfl
theorem rH {st:aB}{b:D}{bs:List D}:mH st (b::bs) []=false:=rfl
theorem Yj:(W "yes" == W "no")=false/\(W "no" == W "yes")=false:=by x_go
theorem vT {st:aB}:∀s t:Sy,bZ st (toD s) (toD t)=decide (s=t)|.yes,.yes=>by simp![toD,eB,cU,jN,sQ,beq_self_eq_true,fu,decide_true]|.yes,.no=>by rfl|.yes,.bF _=>by rfl|.yes,.one _ _=>by simp![toD,eB,cU,rG,dt];rfl|.yes,.two _ _ _=>by simp![toD,eB,cU,rG,dt];rfl|.no,.yes=>by rfl|.no,.no=>by simp![toD,eB,cU,jN,sQ,beq_self_eq_true,fu,decide_true]|.no,.bF _=>by rfl|.no,.one _ _=>by simp![toD,eB,cU,rG,dt];rfl|.no,.two _ _ _=>by simp![toD,eB,cU,rG,dt];rfl|.bF _,.yes=>by rfl|.bF _,.no=>by rfl|.bF m,.bF n=>by simp![toD,eB,cU,sQ,jN,beq_self_eq_true,ky,rj,Sy.bF.injEq];rw[Bool.beq_eq_decide_eq]|.bF m,.one w s=>by simp![toD,eB,cU,jN,(QS w).1,kd];rfl|.bF _,.two _ _ _=>by simp![toD,eB,cU,rG,dt];rfl|.one _ _,.yes=>by simp![toD,eB,cU,rH,dt];rfl|.one _ _,.no=>by simp![toD,eB,cU,rH,dt];rfl|.one w s,.bF m=>by simp![toD,eB,cU,jN,(QS w).2,kd];rfl|.one w s,.one w' s'=>by simp![toD,eB,cU,sQ,jN,Jr,vT s s',ky,Sy.one.injEq];by_cases h:w=w'<;>by_cases h':s=s'<;>simp [h,h']|.one _ _,.two _ _ _=>by simp![toD,eB,cU,rG,dt];rfl|.two _ _ _,.yes=>by simp![toD,eB,cU,rH,dt];rfl|.two _ _ _,.no=>by simp![toD,eB,cU,rH,dt];rfl|.two _ _ _,.bF _=>by simp![toD,eB,cU,rH,dt];rfl|.two _ _ _,.one _ _=>by simp![toD,eB,cU,rH,dt];rfl|.two w s t,.two w' s' t'=>by simp![toD,eB,cU,sQ,jN,Jt,vT s s',vT t t',ky,Sy.two.injEq];simp_all
theorem Fi {st:aB}(x:Sy)(f:List Sy):((f.map toD).any λd=>bZ st d<|toD x)=f.contains x:=by induction f with|nil=>rfl|cons y r ih =>
 simp![aw,i7,ih,vT];by_cases h:y=x;·simp [h]
 ·simp [h,fq h]
theorem IB (f:List Sy):bK (f.map toD)=true:=by induction f with|nil=>rfl|cons x r ih=>simp![aw,bK,mI,ih,fu]
theorem C3 {n:Nat}(f:List Sy)(h:∀s∈f,aE s<=n):cN (f.map toD)<=n:=by induction f with|nil=>exact cg _|cons x r ih =>simp![aw,cN,iA];have:=h x (by simp);have:=ih λs hs=>h s (by simp [hs]);lia
theorem U6 {st:aB}{s:Sy}(h:aE s<=60):plainS st<|toD s:=⟨wV _<|mI s,az (by rw[iA];exact h)<|by cbv⟩
theorem S5 {st:aB}{f:List Sy}(h:∀s∈f,aE s<=60):fD st<|f.map toD:=⟨pZ _<|IB f,az (C3 f h)<|by cbv⟩
noncomputable def wd:Sy->List Nat|.yes=>W "yes"|.no=>W "no"|.bF _=>W "lamp"|.one w _=>c1 w|.two w _ _=>c2 w
noncomputable def subs:Sy->List Sy|.one _ s=>[s]|.two _ s t=>[s,t]|_=>[]
noncomputable def lD:Sy->Bool|.one w _=>p1 w|.two w _ _=>p2 w|_=>false
noncomputable def sU:Sy->Bool|.bF _=>true|_=>false
theorem DH (s:Sy):∃r,toD s=.tup (.str (wd s)::r):=by cases s<;>exact⟨_,rfl⟩
theorem MC {s:Sy}(h:sU s=false):toD s=.tup (.str (wd s)::(subs s).map toD):=by cases s<;>first|rfl|cases h
noncomputable def EL:List<|List Nat:=[W "before", W "once", W "sofar", W "since"]
theorem Dn (s:Sy):EL.contains (wd s)=lD s:=by cases s with|one w s=>cases w<;>(simp![wd,lD];x_go)|two w s t=>cases w<;>(simp![wd,lD];x_go)|_=>rfl
theorem Du (s:Sy):(wd s==W "lamp")=sU s:=by cases s with|one w s=>cases w<;>(simp![wd,sU];x_go)|two w s t=>cases w<;>(simp![wd,sU];x_go)|_=>rfl
noncomputable def jE (f:List Sy)(s:Sy):List Sy:=if lD s && !f.contains s then f++[s]else f
noncomputable def oH:Sy->List Sy->List Sy|.one w s,f=>oH s<|jE f<|.one w s|.two w s t,f=>oH t<|oH s<|jE f<|.two w s t|_,f=>f
noncomputable def gW:List Sy->List Sy->List Sy|[],f=>f|s::r,f=>gW r<|oH s f
theorem Mh (s:Sy)(f:List Sy):oH s f=gW (subs s) (jE f s):=by cases s<;>simp [oH,subs,gW,jE,lD]
theorem O1 (a b:List Sy)(f:List Sy):gW (a++b) f=gW b (gW a f):=by induction a generalizing f with|nil=>rfl|cons x r ih=>simp![d7,gW,ih]
theorem UQ (s:Sy)(r f:List Sy):gW (s::r) f=gW (subs s++r) (jE f s):=by rw[O1,<-Mh];rfl
noncomputable def sz:Sy->Nat|.one _ s=>sz s+1|.two _ s t=>sz s+sz t+1|_=>1
noncomputable def lC (l:List Sy):Nat:=(l.map sz).sum
theorem DV:∀s:Sy,sz s+1<=2 ^ aE s|.yes=>by cbv|.no=>by cbv|.bF _=>by simp![sz,aE];cbv|.one w s=>by have:=DV s;simp![sz,aE];lia|.two w s t=>by have h1:=DV s;have h2:=DV t;have a:=iu (n:=2) (by lia)<|kh (aE s)<|aE t;have b:=iu (n:=2) (by lia)<|jy (aE s)<|aE t;simp![sz,aE];lia
theorem Ft (s:Sy):lC (subs s)+1=sz s:=by cases s<;>simp [subs,lC,sz]
theorem ZU {s t:Sy}(h:t∈subs s):aE t<aE s:=by cases s<;>simp [subs]at h<;>simp only[aE]<;>(try rcases h with rfl|rfl)<;>omega
theorem CU {f:List Sy}{s:Sy}{n:Nat}(h:∀x∈f,aE x<=n)(hs:aE s<=n):∀x∈jE f s,aE x<=n:=by
 unfold jE;split
 ·intro x hx;rcases List.mem_append.mp hx with hx|hx;·exact h x hx
  simp_all
 ·exact h
theorem Z1 (f:List Sy)(s:Sy):(jE f s).length<=f.length+1:=by unfold jE;split<;>simp
theorem BE:∀(s:Sy){f:List Sy}{n:Nat},(∀x∈f,aE x<=n)->aE s<=n->∀x∈oH s f,aE x<=n|.yes,_,_,h,_=>h|.no,_,_,h,_=>h|.bF _,_,_,h,_=>h|.one w s,f,n,h,hs=>BE s (CU h hs)<|by simp![aE]at hs;lia|.two w s t,f,n,h,hs=>BE t (BE s (CU h hs)<|by simp![aE]at hs;lia)<|by simp![aE]at hs;lia
noncomputable def kO:Fn:=⟨1,1,[.iff (.cmp .eq (.ix (.v 0)<|.c<|.int 0)<|.c<|.str<|W "lamp") [.ret<|.tup []] [],.ret<|.sl (.v 0) [.c<|.int 1] []]⟩
noncomputable def SD:D:=.tup<|EL.map .str
noncomputable def pU (iw:Nat):Fn:=⟨1,4,[.asg (.nm 1)<|.lst [],.asg (.nm 2)<|.bit .list .rev [.v 0],.whl (.v 2) [.asg (.nm 3)<|.bP .pop (.v 2) [],.iff (.and_ (.cmp .in_ (.ix (.v 3)<|.c<|.int 0)<|.c SD)<|.cmp .fP (.v 3)<|.v 1) [.ex<|.bP .append (.v 1) [.v 3]] [],.ex<|.bP .extend (.v 2) [.bit .list .rev [.call iw [.v 3]]]],.ret<|.v 1]⟩
section
variable {G:Prog}{k ip iw:Nat}{st:aB}{Q:VK}{E:XK}
theorem HE (hw:G.fns iw=some kO){s:Sy}(hQ:Q (.tup<|(subs s).map toD) st):aH G (k+1) iw [toD s] st Q E:=by rw[aK hw];simp only[kO,start];obtain⟨r,er⟩:=DH s;lk;rw[er];k_ne;rw[Du,<-er];cases h:sU s with
 |true =>cases s<;>first|exact hQ|cases h
 |false =>simp only[aa,if_false,aG];lk;rw[MC h];k_ne;exact hQ
end
theorem rA {C:aU}{sub:Nat->Nat->Bool}(hC:bU C C){c:Ex}{b:List Sx}{P:fA}(I:Nat->St->aB->Prop) (step:∀m σ st,I m σ st->aI C sub (λc aA=>P.ex c σ aA) c σ st λd aA=>eH d aA λk =>if k=true then cH C sub b { P with nx:=λσ st=>∃m',m'<m/\I m' σ st,ct:=λσ st=>∃m',m'<m/\I m' σ st,bk:=P.nx } σ aA else P.nx σ aA){m:Nat}{σ:St}{st:aB}(h:I m σ st):wpS C sub (.whl c b) P σ st:=by
 refine⟨m+1,?_⟩;have key:∀(n m:Nat)(σ:St)(st:aB),m<n->I m σ st->uP (λnext σ st=>aI C sub (λc aA=>P.ex c σ aA) c σ st λd aA=>eH d aA λk =>if k=true then cH C sub b { P with nx:=next,ct:=next,bk:=P.nx } σ aA else P.nx σ aA) n σ st:=by intro n;induction n with|zero=>lia|succ n ih =>
   intro m σ st hm hI;refine aT hC (λ_ _ z=>z) c (λd aA=>iW λk=>?_)<|step m σ st hI;split;·exact iU hC b ⟨λσ st ⟨m',h1,h2⟩=>ih m' σ st (by lia) h2,λ_ _ z=>z,λ_ _ z=>z,λσ st ⟨m',h1,h2⟩=>ih m' σ st (by lia) h2,λ_ _ _ z=>z⟩
   ·exact id
 exact key _ m σ st (by lia) h
section
variable {G:Prog}{k ip iw iz:Nat}{st:aB}{Q:VK}{E:XK}
theorem CY (s:Sy)(r:List Sy):lC (s::r)=sz s+lC r:=by simp [lC]
theorem EH (a b:List Sy):lC (a++b)=lC a+lC b:=by simp [lC]
theorem VB (s:Sy):0<sz s:=by cases s<;>simp [sz]
theorem GX (r:List Sy):r.length<=lC r:=by induction r with|nil=>simp|cons s r ih=>have:=VB s;simp![CY,ag];lia
theorem zZ (hz:G.fns iz=some (pU iw))(hw:G.fns iw=some kO){l:Nat}{ss:List Sy}(hl:st l=some (.lst<|ss.map toD))(hd:∀x∈ss,aE x<=60)(hs:lC ss<aL) (hQ:∀p aA,Ext st aA->aA p=some (.lst<|(gW ss []).map toD)->Q (.ref p) aA):aH G (k+2) iz [.ref l] st Q E:=by
 rw[aK hz];simp only[pU,start];refine⟨rfl,?_⟩;lk;refine bO (by decide) λp aC x1 hp hp1=>?_;lk;rw[aF<|x1 l _ hl];refine bO (by have:=GX ss;simp only[nk,af];omega) λq aJ x2 hq hq2=>?_;have hpq:p≠q:=λz=>by rw[z]at hp1;rw[hq]at hp1;cases hp1
 have p2:=x2 p _ hp1;try dsimp only
 refine dB ?_;refine rA (fU G<|av _) (λm σ aA=>∃(stack f:List Sy)(o:Option D),σ=[some<|.ref l,some<|.ref p,some<|.ref q,o]/\aA p=some (.lst<|f.map toD)/\aA q=some (.lst (stack.map toD).reverse)/\lC stack=m /\ (∀x∈stack,aE x<=60)/\(∀x∈f,aE x<=60)/\f.length+lC stack<aL/\gW stack f=gW ss []/\Ext st aA) ?_ (m:=lC ss) ⟨ss,[],none,rfl,p2,hq2,rfl,hd,by simp,by simpa using hs,rfl,λa o e=>x2 a o<|x1 a o e⟩;rintro m σ aZ ⟨stack,f,o,rfl,hp3,hq3,hm,hds,hdf,hlen,Uy,x3⟩;k_ne;rw[PH,hV hq3];cases stack with|nil =>simp only[ow,AaB,xk,bf,aa,if_false];lk;refine hQ p aZ x3 ?_;rw[<-Uy];exact hp3|cons s r =>
  have hne:(!((ql toD<|s::r).reverse).isEmpty)=true:=by simp
  rw[hne];simp only[if_true];have hds':=hds s (by simp);rw[CY]at hm hlen;have hsp:=VB s;have hss:=Ft s;lk;rw[aF hq3];refine⟨trivial,?_⟩;rw[aF hq3];have elast:((ql toD<|s::r).reverse)[((ql toD<|s::r).reverse).length-1]? = some (toD s):=by simp only[aw,mj,ah,ag,ak];rw[fe<|by simp];simp
  have edrop:((ql toD<|s::r).reverse).dropLast=(r.map toD).reverse:=by simp
  rw[elast,edrop,aO];try dsimp only
  have hp4:(put aZ q<|.lst (r.map toD).reverse) p=some (.lst<|f.map toD):=by rw[bS hpq];exact hp3
  have hx4:Ext st<|put aZ q<|.lst (r.map toD).reverse:=λa u e=>by
   by_cases ha:a=q;·exfalso;rw[ha]at e;rw[x1 q _ e]at hq;cases hq
   ·rw[bS ha];exact x3 a u e
  have head:∀{P:fA}{cR:aB}{rest:List Sx},cR p=some (.lst<|f.map toD) ->(∀aA,cE [p] cR aA->aA p=some (.lst<|(jE f s).map toD)->cH (aH G<|k+1) G.sub rest P [some<|.ref l,some<|.ref p,some<|.ref q,some<|toD s] aA) ->cH (aH G<|k+1) G.sub (.iff (.and_ (.cmp .in_ (.ix (.v 3)<|.c<|.int 0)<|.c SD)<|.cmp .fP (.v 3)<|.v 1) [.ex<|.bP .append (.v 1) [.v 3]] []::rest) P [some<|.ref l,some<|.ref p,some<|.ref q,some<|toD s] cR:=by intro P cR rest hb hN;obtain⟨rr,er⟩:=DH s;lk;rw[er];simp only[SD];k_ne;rw[<-er];refine⟨(pF EL).s,?_⟩;have e1:(List.any (EL.map .str) λd=>bZ cR d<|.str<|wd s)=lD s:=(C4 (wd s) EL).trans<|Dn s;rw[e1];cases hpp:lD s with|false =>simp only[aa,if_false,aG];refine hN cR .refl ?_;simp only[jE,hpp,kd,aa,if_false];exact hb|true =>simp only[if_true];rw[OB,hV hb,Fi];refine⟨U6 hds',S5 hdf,?_⟩;cases hc:f.contains s with|true =>simp only[bf,aa,if_false,aG];refine hN cR .refl ?_;simp only[jE,hpp,hc,bf,dt,aa,if_false];exact hb|false =>simp only[bu,if_true];lk;rw[aF hb];refine⟨trivial,?_⟩;rw[aF hb];refine⟨by simp only[af];omega,?_⟩;rw[aG];refine hN _ (cE.put<|by simp) ?_;rw[bE];simp only[jE,hpp,hc,bu,fu,if_true,eu,aw,ow]
  refine head hp4 λeQ k5 hp5=>?_;have hq5:eQ q=some (.lst (r.map toD).reverse):=k5 q _ (by simpa using fq hpq) bE;have hx5:Ext st eQ:=λa u e=>by
   by_cases ha:a=p;·exfalso;rw[ha]at e;rw[hp]at e;cases e
   ·exact k5 a u (by simpa using ha)<|hx4 a u e
  lk;rw[aF hq5];refine⟨trivial,HE hw ?_⟩;k_ne;have hsl:=GX<|subs s;have hrl:=GX r;refine bO (by simp only[nk,af];omega) λu dE x6 hu hu6=>?_;k_ne;rw[aF<|x6 q _ hq5,aF hu6];refine⟨by simp only[nk,af];omega,?_⟩;rw[aG];dsimp only;refine⟨lC<|subs s++r,by rw[EH];omega,subs s++r,jE f s,_,rfl,?_,?_,rfl,λx hx=>?_,CU hdf hds',?_,?_,λa v e=>?_⟩;·rw[bS hpq];exact x6 p _ hp5
  ·rw[bE];simp
  ·rcases List.mem_append.mp hx with hx|hx;·have:=ZU hx;omega
   ·exact hds x<|by simp [hx]
  ·have:=Z1 f s;rw[EH];omega
  ·rw[<-UQ];exact Uy
  ·by_cases ha:a=q;·rw[ha]at e;rw[x1 q _ e]at hq;cases hq
   ·rw[bS ha];exact x6 a v<|hx5 a v e
end
noncomputable def fS:List<|List Nat:=[W "yes", W "no", W "not", W "and", W "or", W "then", W "same", W "before", W "once", W "sofar", W "since", W "foe", W "friend", W "promise", W "must", W "wish"]
noncomputable def cZ:List Nat:=W "abcdefghijklmnopqrstuvwxyz"
noncomputable def gO (nn lt lg:D):Fn:=⟨1,1,[.iff (.or_ (.not_<|.isi (.v 0) [.str])<|.cmp .in_ (.v 0)<|.c nn) [.ret<|.c<|.bl false] [],.ret<|.and_ (.chain .le .le (.c<|.int 1) (.bi .len [.v 0])<|.c lg)<|.bi .all [.comp 1 [] [0] true none [.v 0] []<|.cmp .in_ (.v 0)<|.c lt]]⟩
noncomputable def bD (w:List Nat):Bool:=!(fS.any (·== w))&&decide (1<=w.length)&&decide (w.length<=8)&&w.all λc=>occurs [c] cZ
section
variable {G:Prog}{k i:Nat}{st:aB}{Q:VK}{E:XK}
theorem Gg (st:aB)(w:List Nat):((fS.map D.str).any λd=>bZ st d<|.str w)=fS.any (·== w):=by rw[qo];rfl
theorem T2 (st:aB):fD st<|fS.map D.str:=⟨rfl,by cbv⟩
noncomputable def Jv:D->Bool|.str x=>occurs x cZ|_=>false
theorem HY:∀(w:List Nat),boolsOf ((w.map λc=>D.str [c]).map λd=>.bl<|Jv d)=some (w.map λc=>occurs [c] cZ)|[]=>rfl|c::r=>by show(boolsOf _).map _=_;rw[HY r];rfl
set_option tactic.hygienic true in
theorem qZ (h:G.fns i=some (gO (.tup<|fS.map .str) (.str cZ)<|.int 8)){w:List Nat}(hw:w.length<=aL)(hQ:∀aA,Ext st aA->Q (.bl<|bD w) aA):aH G (k+1) i [.str w] st Q E:=by have hL:aL=16777216:=rfl;rw[aK h];simp![gO,start];refine⟨rfl,?_⟩;lk;refine⟨T2 st,?_⟩;rw[Gg];cases c1:fS.any (·== w)with
 |true =>
  simp![if_true];lk;have e:bD w=false:=by simp [bD,c1]
  rw[<-e];exact hQ _ λ_ _ z=>z|false =>
  simp![aa,if_false];rw[aG];lk;refine⟨hw,?_⟩;split
  ·rename_i g1;split
   ·rename_i g2;refine⟨hw,?_⟩;refine comp_map (λd=>.bl<|Jv d) _ [] st (λaA x a ha=>by cases ha) ?_ (by simp![af,ak];lia) λaA x=>?_;·intro x hx aA K x1 hK;obtain⟨c,hc,rfl⟩:=List.mem_map.mp hx;exact hK aA .refl
    ·rw[bh];refine bO (by simp![af];lia) λp aJ x2 hp fQ=>?_;simp![dG];rw[aF fQ,HY];have e:bD w=(w.map λc=>occurs [c] cZ).all id:=by simp![bD,c1,je];have h1:decide (1<=w.length)=true:=decide_eq_true (by lia);have h2:decide (w.length<=8)=true:=decide_eq_true (by lia);rw[h1,h2];rfl
     show Q _ _;rw[<-e];exact hQ _<|x.trans x2
   ·rename_i g2;have e:bD w=decide ((w.length:Int)<=8):=by have h2:decide (w.length<=8)=false:=decide_eq_false (by lia);have h3:=decide_eq_false g2;simp![bD,h2,h3,dt,kd]
    rw[<-e];exact hQ _ .refl
  ·have e:bD w=false:=by have h1:decide (1<=w.length)=false:=decide_eq_false (by lia);simp![bD,h1,dt,kd]
   rw[<-e];exact hQ _ .refl
end
noncomputable def dH (bT bC:Nat)(sw:D):Fn:=⟨3,3,[.iff (.or_ (.cmp .lt (.v 2)<|.c<|.int 1)<|.or_ (.not_<|.isi (.v 1) [.tuple])<|.or_ (.cmp .lt (.bi .len [.v 1])<|.c<|.int 1)<|.not_<|.isi (.ix (.v 1)<|.c<|.int 0) [.str]) [.ret<|.c<|.bl false] [],.iff (.cmp .eq (.ix (.v 1)<|.c<|.int 0)<|.c<|.str<|W "lamp") [.ret<|.and_ (.cmp .eq (.bi .len [.v 1])<|.c<|.int 2)<|.and_ (.call bT [.ix (.v 1)<|.c<|.int 1])<|.cmp .in_ (.ix (.v 1)<|.c<|.int 1)<|.v 0] [],.iff (.or_ (.cmp .fP (.ix (.v 1)<|.c<|.int 0)<|.c sw)<|.cmp .ne (.bi .len [.v 1])<|.bin .add (.c<|.int 1)<|.ix (.c sw)<|.ix (.v 1)<|.c<|.int 0) [.ret<|.c<|.bl false] [],.ret<|.bi .all [.comp 1 [0,2] [0] true none [.sl (.v 1) [.c<|.int 1] []] []<|.call bC [.v 1,.v 0,.bin .sub (.v 2)<|.c<|.int 1]]]⟩
section
variable {G:Prog}{k bT bC:Nat}{Q:VK}{E:XK}
noncomputable def dZ:List D:=[.str<|W "yes",.str<|W "no",.str<|W "not",.str<|W "before",.str<|W "once",.str<|W "sofar",.str<|W "and",.str<|W "or",.str<|W "then",.str<|W "same",.str<|W "since"]
noncomputable def gX:List D:=[.int 0,.int 0,.int 1,.int 1,.int 1,.int 1,.int 2,.int 2,.int 2,.int 2,.int 2]
theorem nW {α:Type}:∀(ps:List α),boolsOf (ps.map λ_=>.bl true)=some (ps.map λ_=>true)|[]=>rfl|_::r=>by show(boolsOf _).map _=_;rw[nW r];rfl
theorem xK (h:G.fns bC=some (dH bT bC<|.cF dZ gX)){nm:D}{w:List Nat}{ps:List D}{st:aB}{d:Int}(hd:1<=d)(hl:¬(w==W "lamp")=true)(hin:(dZ.any λx=>fJ x<|.str w)=true)(har:eO dZ gX (.str w)=some (.int ps.length))(hps:ps.length<=2) (hp:∀x∈ps,∀(aA:aB)(Q':VK)(E':XK),Ext st aA->(∀aV,Ext aA aV->Q' (.bl true) aV)->aH G k bC [nm,x,.int<|d-1] aA Q' E')(hQ:∀aA,Ext st aA->Q (.bl true) aA):aH G (k+1) bC [nm,.tup<|.str w::ps,.int d] st Q E:=by
 have hL:aL=16777216:=rfl;rw[aK h];simp![dH,start];refine⟨rfl,?_⟩;lk;have n1:¬d<1:=by lia
 simp![if_neg n1];have n2:¬((ps.length+1:Nat):Int)<1:=by lia
 simp![ag,if_neg n2];k_ne;rw[aG];lk;rw[if_neg hl];rw[aG];lk;rw[hin];simp![bf,aa,if_false];rw[har];show plainS st (.int<|1+(ps.length:Int))/\_;refine⟨⟨rfl,cg _⟩,?_⟩;have n3:¬(!bZ st (.int ((ps.length+1:Nat):Int)) (.int<|1+(ps.length:Int)))=true:=by have e:(((ps.length+1:Nat):Int)==1+(ps.length:Int))=true:=beq_iff_eq.mpr (by lia);simp![bZ,e,bf,aa,not_false_iff]
 rw[if_neg n3,aG];lk;refine comp_map (λ_=>.bl true) ps [] st (λaA x a ha=>by cases ha) (λx hx aA K x1 hK=>hp x hx aA _ _ x1 λaV x2=>hK aV x2) (by simp![ak];lia) λaA x1=>?_;rw[bh];refine bO (by simp![af];lia) λp aJ x2 hp' fQ=>?_;simp![dG];rw[aF fQ,nW];show Q (.bl<|(ps.map λ_=>true).all id) _;have e:(ps.map λ_=>true).all id=true:=by simp
 rw[e];exact hQ _<|x1.trans x2
theorem HU {n:List Nat}(h:bD n=true):n.length<=8:=by simp![bD,ao,decide_eq_true_eq]at h;exact h.1.2
theorem kL (st:aB):∀(names:List<|List Nat),fD st<|names.map D.str|[]=>⟨rfl,cg _⟩|n::r=>⟨by exact(kL st r).1,by simp![aw,cN,dN];have:=(kL st r).2;lia⟩
theorem VO (st:aB)(names:List<|List Nat)(n:List Nat)(h:n∈names):((names.map D.str).any λd=>bZ st d<|.str n)=true:=by rw[qo];exact List.any_eq_true.mpr ⟨n,h,by show(n==n)=true;simp⟩
theorem AB (h:G.fns bC=some (dH bT bC<|.cF dZ gX))(hn:G.fns bT=some (gO (.tup<|fS.map .str) (.str cZ)<|.int 8)){names:List<|List Nat}(dO:∀n∈names,bD n=true){n:List Nat}(ho:n∈names){st:aB}{d:Int}(hd:1<=d)(hQ:∀aA,Ext st aA->Q (.bl true) aA):aH G (k+1+1) bC [.tup<|names.map .str,.tup [.str<|W "lamp",.str n],.int d] st Q E:=by
 have hL:aL=16777216:=rfl;rw[aK h];simp![dH,start];lk;have n1:¬d<1:=by lia
 simp![if_neg n1];have n2:¬((0+1+1:Nat):Int)<1:=by cbv
 simp![if_neg n2];rw[aG];lk;have n3:(W "lamp" == W "lamp")=true:=by simp
 simp![n3,if_true];lk;rw[if_pos<|by cbv];refine qZ (w:=n) hn (by have:=HU<|dO n ho;lia) λaA x1=>?_;rw[dO n ho];refine⟨kL aA names,?_⟩;rw[VO aA names n ho];exact hQ _ x1
theorem AX (h:G.fns bC=some (dH bT bC<|.cF dZ gX))(hn:G.fns bT=some (gO (.tup<|fS.map .str) (.str cZ)<|.int 8)){names:List<|List Nat}(dO:∀n∈names,bD n=true): ∀(s:Sy){k:Nat}{st:aB}{Q:VK}{E:XK}{d:Int},over names s->(aE s:Int)<=d->(∀aA,Ext st aA->Q (.bl true) aA)->aH G (k+aE s+1) bC [.tup<|names.map .str,toD s,.int d] st Q E
 |.yes,k,st,Q,E,d,ho,hd,hQ=>by simp![aE]at hd;exact xK h (by lia) (by cbv) (by cbv) rfl (by cbv) (λx hx=>by cases hx) hQ|.no,k,st,Q,E,d,ho,hd,hQ=>by simp![aE]at hd;exact xK h (by lia) (by cbv) (by cbv) rfl (by cbv) (λx hx=>by cases hx) hQ|.bF n,k,st,Q,E,d,ho,hd,hQ=>by simp![aE]at hd ⊢;exact AB h hn dO ho (by lia) hQ|.one w s,k,st,Q,E,d,ho,hd,hQ=>by simp![aE]at hd ⊢;refine xK (ps:=[toD s]) h (by lia) (by cases w<;>cbv) (by cases w<;>cbv) (by cases w<;>rfl) (by simp) (λx hx aA Q' E' x1 hQ'=>?_) hQ;simp![cu]at hx;subst hx;have:=AX h hn dO s (k:=k) (st:=aA) (Q:=Q') (E:=E') (d:=d-1) ho (by lia) hQ';exact this|.two w s t,k,st,Q,E,d,ho,hd,hQ=>by
  simp![aE]at hd ⊢;refine xK (ps:=[toD s,toD t]) h (by lia) (by cases w<;>cbv) (by cases w<;>cbv) (by cases w<;>rfl) (by simp) (λx hx aA Q' E' x1 hQ'=>?_) hQ;have l1:=kh (aE s)<|aE t;have l2:=jy (aE s)<|aE t;simp![ba,bj,or_false]at hx;rcases hx with rfl|rfl
  ·have:=AX h hn dO s (k:=k+(max (aE s) (aE t)-aE s)) (st:=aA) (Q:=Q') (E:=E') (d:=d-1) ho.1 (by lia) hQ';have e:k+(max (aE s) (aE t)-aE s)+aE s+1=k+(max (aE s) (aE t)+1):=by lia
   rw[e]at this;exact this
  ·have:=AX h hn dO t (k:=k+(max (aE s) (aE t)-aE t)) (st:=aA) (Q:=Q') (E:=E') (d:=d-1) ho.2 (by lia) hQ';have e:k+(max (aE s) (aE t)-aE t)+aE t+1=k+(max (aE s) (aE t)+1):=by lia
   rw[e]at this;exact this
end
noncomputable def gC:Fn:=⟨3,3,[.ret<|.and_ (.isi (.v 0) [.tuple])<|.chain .le .le (.v 1) (.bi .len [.v 0])<|.v 2]⟩
noncomputable def sG (ir bT:Nat)(ml:D):Fn:=⟨2,3,[.iff (.or_ (.not_<|.call ir [.v 0,.c<|.int 1,.c ml])<|.not_<|.call ir [.v 1,.c<|.int 1,.c ml]) [.ret<|.c<|.bl false] [],.asg (.nm 2)<|.bin .add (.v 0)<|.v 1,.ret<|.and_ (.bi .all [.comp 1 [] [0] true none [.v 2] []<|.call bT [.v 0]])<|.cmp .eq (.bi .AU [.v 2])<|.bi .len [.v 2]]⟩
section
variable {G:Prog}{k ir bT il:Nat}{st:aB}{Q:VK}{E:XK}
theorem gL (h:G.fns ir=some gC){ds:List D}{lo hi:Int}(hQ:Q (.bl<|decide (lo<=(ds.length:Int))&&decide ((ds.length:Int)<=hi)) st):aH G (k+1) ir [.tup ds,.int lo,.int hi] st Q E:=by
 rw[aK h];simp![gC,start];lk;by_cases c:lo<=ds.length;·simp_all
 ·rw[if_neg c];rw[decide_eq_false c]at hQ;exact hQ
theorem zI:∀(ws seen:List<|List Nat),(seen++ws).Nodup->nM seen ws=ws.length
 |[],_,_=>rfl|w::r,seen,h=>by
  have e:seen.any (·== w)=false:=by
   rw[p8];intro x hx z;have:=by simpa using z
   subst this;rw[Aaj]at h;exact h.2.2 x hx x (by simp) rfl
  show(if seen.any _=true then 0 else 1)+nM _ r=_;rw[e,zI r _<|by simp_all];simp![aa,if_false,ag];lia
theorem fN:∀(ws:List<|List Nat),strsOf (ws.map .str)=some ws|[]=>rfl|w::r=>by show(strsOf _).map _=_;rw[fN r];rfl
theorem YR (h:G.fns il=some (sG ir bT<|.int 2))(hr:G.fns ir=some gC)(hn:G.fns bT=some (gO (.tup<|fS.map .str) (.str cZ)<|.int 8)){fs gs:List<|List Nat}(h1:1<=fs.length)(h2:fs.length<=2)(h3:1<=gs.length)(h4:gs.length<=2)(h5:(fs++gs).Nodup)(h6:∀n∈fs++gs,bD n=true) (hQ:∀aA,Ext st aA->Q (.bl true) aA):aH G (k+2) il [.tup<|fs.map .str,.tup<|gs.map .str] st Q E:=by
 have hL:aL=16777216:=rfl;rw[aK h];simp![sG,start];refine⟨rfl,?_⟩;lk;refine gL hr ?_;have e1:(decide ((1:Int)<=((fs.map D.str).length:Int))&&decide (((fs.map D.str).length:Int)<=2))=true:=by simp![af,ao,decide_eq_true_eq];lia
 rw[e1];k_ne;refine gL hr ?_;have e2:(decide ((1:Int)<=((gs.map D.str).length:Int))&&decide (((gs.map D.str).length:Int)<=2))=true:=by simp![af,ao,decide_eq_true_eq];lia
 rw[e2];k_ne;rw[aG];lk;refine⟨by simp![af];lia,?_⟩;rw[<-eu];lk;refine comp_map (λ_=>.bl true) _ [] st (λaA x a ha=>by cases ha) (λx hx aA K x1 hK=>?_) (by simp![af,ah,ak];lia) λaA x1=>?_;·obtain⟨n,hn',rfl⟩:=List.mem_map.mp hx;refine qZ (w:=n) hn (by have:=HU<|h6 n hn';lia) λaV x2=>?_;rw[h6 n hn'];exact hK aV x2
 ·rw[bh];refine bO (by simp![af,ah];lia) λp aJ x2 hp' fQ=>?_;simp![dG];rw[aF fQ,nW];rw[aO,fN,aO];have e3:(ql (λ_=>true)<|(fs++gs).map D.str).all id=true:=by simp
  rw[if_pos e3];refine⟨by simp![ah];lia,?_⟩;have e4:((nM []<|fs++gs:Int)==(((fs++gs).map D.str).length:Int))=true:=by rw[zI (fs++gs) []<|by simpa using h5,af];simp
  rw[e4];exact hQ _<|x1.trans x2
end
noncomputable def nY (bC:Nat)(dp:D):Fn:=⟨2,2,[.ret<|.call bC [.v 0,.v 1,.c dp]]⟩
noncomputable def lM (ir iy:Nat):Fn:=⟨3,3,[.ret<|.and_ (.call ir [.v 1,.c<|.int 0,.v 2])<|.bi .all [.comp 1 [0] [0] true none [.v 1] []<|.call iy [.v 1,.v 0]]]⟩
noncomputable def jU (hp:D):Fn:=⟨1,1,[.ret<|.and_ (.isi (.v 0) [.int])<|.and_ (.not_<|.isi (.v 0) [.bool])<|.chain .le .le (.c<|.int 1) (.v 0)<|.c hp]⟩
noncomputable def mZ (ir ip iy:Nat):Fn:=⟨2,2,[.ret<|.and_ (.call ir [.v 1,.c<|.int 2,.c<|.int 2])<|.and_ (.call ip [.ix (.v 1)<|.c<|.int 0])<|.call iy [.v 0,.ix (.v 1)<|.c<|.int 1]]⟩
noncomputable def mK (ir iw:Nat)(mw:D):Fn:=⟨2,2,[.ret<|.and_ (.call ir [.v 1,.c<|.int 1,.c mw])<|.bi .all [.comp 1 [0] [0] true none [.v 1] []<|.call iw [.v 1,.v 0]]]⟩
section
variable {G:Prog}{k ir bT bC iy ip iw ia:Nat}{st:aB}{Q:VK}{E:XK}{names:List<|List Nat}
theorem JM (hy:G.fns iy=some (nY bC<|.int 8))(h:G.fns bC=some (dH bT bC<|.cF dZ gX))(hn:G.fns bT=some (gO (.tup<|fS.map .str) (.str cZ)<|.int 8))(dO:∀n∈names,bD n=true){s:Sy}(ho:over names s)(hd:aE s<=8)(hQ:∀aA,Ext st aA->Q (.bl true) aA):aH G (k+10) iy [.tup<|names.map .str,toD s] st Q E:=by
 rw[aK hy];refine⟨rfl,?_⟩;have:=AX h hn dO s (k:=k+(8-aE s)) (E:=λ_ _=>False) (d:=8) ho (by lia) hQ;have e:k+(8-aE s)+aE s+1=k+9:=by lia
 rw[e]at this;exact this
theorem wB (ha:G.fns ia=some (lM ir iy))(hr:G.fns ir=some gC)(hy:G.fns iy=some (nY bC<|.int 8))(h:G.fns bC=some (dH bT bC<|.cF dZ gX))(hn:G.fns bT=some (gO (.tup<|fS.map .str) (.str cZ)<|.int 8))(dO:∀n∈names,bD n=true){ss:List Sy}{m:Int} (ho:∀s∈ss,over names s/\aE s<=8)(hl:(ss.length:Int)<=m)(hl2:ss.length<=1000)(hQ:∀aA,Ext st aA->Q (.bl true) aA):aH G (k+11) ia [.tup<|names.map .str,.tup<|ss.map toD,.int m] st Q E:=by
 have hL:aL=16777216:=rfl;rw[aK ha];simp![lM,start];refine⟨rfl,?_⟩;lk;refine gL hr ?_;have e1:(decide ((0:Int)<=((ss.map toD).length:Int))&&decide (((ss.map toD).length:Int)<=m))=true:=by simp![af,ao,decide_eq_true_eq];lia
 rw[e1];k_ne;refine comp_map (λ_=>.bl true) _ [] st (λaA x a ha=>by cases ha) (λx hx aA K x1 hK=>?_) (by simp![af,ak];lia) λaA x1=>?_;·obtain⟨s,hs,rfl⟩:=List.mem_map.mp hx;exact JM hy h hn dO (ho s hs).1 (ho s hs).2 λaV x2=>hK aV x2
 ·rw[bh];refine bO (by simp![af];lia) λp aJ x2 hp' fQ=>?_;simp![dG];rw[aF fQ,nW,aO];have e3:(ql (λ_=>true)<|ss.map toD).all id=true:=by simp
  rw[e3];exact hQ _<|x1.trans x2
theorem OC (h:G.fns ip=some (jU<|.int 99)){p:Int}(h1:1<=p)(h2:p<=99)(hQ:Q (.bl true) st):aH G (k+1) ip [.int p] st Q E:=by rw[aK h];simp![jU,start];lk;rw[if_pos h1,decide_eq_true h2];exact hQ
theorem S3 (hw:G.fns iw=some (mZ ir ip iy))(hr:G.fns ir=some gC)(hp:G.fns ip=some (jU<|.int 99))(hy:G.fns iy=some (nY bC<|.int 8))(h:G.fns bC=some (dH bT bC<|.cF dZ gX))(hn:G.fns bT=some (gO (.tup<|fS.map .str) (.str cZ)<|.int 8))(dO:∀n∈names,bD n=true){s:Sy}{p:Int}(h1:1<=p)(h2:p<=99)(ho:over names s)(hd:aE s<=8)(hQ:∀aA,Ext st aA->Q (.bl true) aA):aH G (k+11) iw [.tup<|names.map .str,.tup [.int p,toD s]] st Q E:=by rw[aK hw];simp![mZ,start];lk;refine gL hr ?_;have e1:(decide (2<=([.int p,toD s].length:Int))&&decide (([.int p,toD s].length:Int)<=2))=true:=rfl;rw[e1];k_ne;refine OC hp h1 h2 ?_;exact JM hy h hn dO ho hd λaV x2=>hQ aV x2
end
noncomputable def pI (ih ib:Nat):Fn:=⟨2,2,[.iff (.cmp .eq (.ix (.v 1)<|.c<|.int 0)<|.c<|.str<|W "before") [.ret<|.c<|.bl false] [],.iff (.cmp .eq (.ix (.v 1)<|.c<|.int 0)<|.c<|.str<|W "lamp") [.ret<|.cmp .in_ (.ix (.v 1)<|.c<|.int 1)<|.v 0] [],.ret<|.bi .any [.comp 1 [0] [0] true none [.call ih [.v 1]] []<|.call ib [.v 1,.v 0]]]⟩
noncomputable def eE (gs:List<|List Nat):Sy->Bool|.bF n=>gs.any (·== n)|.one .before _=>false|.one _ s=>eE gs s|.two _ s t=>eE gs s||eE gs t|_=>false
section
variable {G:Prog}{k ih ib ir bT bC iy ip iw ia:Nat}{st:aB}{Q:VK}{E:XK}{names:List<|List Nat}
theorem O3 (ha:G.fns ia=some (mK ir iw<|.int 5))(hw:G.fns iw=some (mZ ir ip iy))(hr:G.fns ir=some gC)(hp:G.fns ip=some (jU<|.int 99))(hy:G.fns iy=some (nY bC<|.int 8))(h:G.fns bC=some (dH bT bC<|.cF dZ gX))(hn:G.fns bT=some (gO (.tup<|fS.map .str) (.str cZ)<|.int 8))(dO:∀n∈names,bD n=true){ws:List<|Int×Sy} (ho:∀w∈ws,1<=w.1/\w.1<=99/\over names w.2/\aE w.2<=8)(h1:1<=ws.length)(h2:ws.length<=5)(hQ:∀aA,Ext st aA->Q (.bl true) aA):aH G (k+12) ia [.tup<|names.map .str,.tup<|ws.map λw=>.tup [.int w.1,toD w.2]] st Q E:=by
 have hL:aL=16777216:=rfl;rw[aK ha];simp![mK,start];lk;refine gL hr ?_;have e1:(decide ((1:Int)<=(ws.map λw=>D.tup [.int w.1,toD w.2]).length)&&decide (((ws.map λw=>D.tup [.int w.1,toD w.2]).length:Int)<=5))=true:=by simp![af,ao,decide_eq_true_eq];lia
 rw[e1];refine comp_map (λ_=>.bl true) _ [] st (λaA x a ha=>by cases ha) (λx hx aA K x1 hK=>?_) (by simp![af,ak];lia) λaA x1=>?_;·obtain⟨s,hs,rfl⟩:=List.mem_map.mp hx;obtain⟨o1,o2,o3,o4⟩:=ho s hs;exact S3 hw hr hp hy h hn dO o1 o2 o3 o4 λaV x2=>hK aV x2
 ·rw[bh];refine bO (by simp![af];lia) λp aJ x2 hp' fQ=>?_;simp![dG];rw[aF fQ,nW,aO];have e3:(ql (λ_=>true)<|ws.map λw=>D.tup [.int w.1,toD w.2]).all id=true:=by simp
  rw[e3];exact hQ _<|x1.trans x2
end
theorem kN {α:Type}{g:aB->Prop}{turn:D->aB->(Option D->aB->Prop)->Prop}{R:List D->aB->Prop}(t f:α->D):∀(xs:List α)(acc:List D)(st:aB),(∀aA,Ext st aA->g aA)->(∀x∈xs,∀aA (K:Option D->aB->Prop),Ext st aA->(∀aV,Ext aA aV->K (some<|f x) aV)->turn (t x) aA K) ->acc.length+xs.length<=aL->(∀aA,Ext st aA->R (acc++xs.map f) aA)->iH g turn (xs.map t) acc st R|[],acc,st,hg,_,_,hR=>⟨hg st .refl,by simpa using hR st .refl⟩|x::xs,acc,st,hg,ht,hl,hR=>by simp![ag]at hl;refine⟨hg st .refl,by lia,ht x (by simp) st _ .refl λaV h''=>?_⟩;exact kN t f xs _ aV (λaA h=>hg aA<|h''.trans h) (λy hy aA K h=>ht y (by simp [hy]) aA K<|h''.trans h) (by simp![ah,ag,ak];lia) λaA h=>by simpa using hR aA<|h''.trans h
theorem pC {α:Type}(b:α->Bool):∀(ps:List α),boolsOf (ps.map λx=>.bl<|b x)=some (ps.map b)|[]=>rfl|x::r=>by show(boolsOf _).map _=_;rw[pC b r];rfl
section
variable {G:Prog}{k ih ib:Nat}{Q:VK}{E:XK}{gs:List<|List Nat}
theorem xE (h:G.fns ib=some (pI ih ib))(hh:G.fns ih=some kO){s:Sy}{st:aB}(h1:¬(wd s==W "before")=true)(h2:sU s=false)(h3:¬(wd s==W "lamp")=true)(h4:(subs s).length<=2)(hp:∀x∈subs s,∀(aA:aB)(Q':VK)(E':XK),Ext st aA->(∀aV,Ext aA aV->Q' (.bl<|eE gs x) aV)->aH G (k+1) ib [.tup<|gs.map .str,toD x] aA Q' E')(hQ:∀aA,Ext st aA->Q (.bl<|(subs s).any<|eE gs) aA):aH G (k+2) ib [.tup<|gs.map .str,toD s] st Q E:=by have hL:aL=16777216:=rfl;rw[aK h];simp![pI,start];obtain⟨r,er⟩:=DH s;rw[er];lk;rw[if_neg h1,aG];lk;rw[if_neg h3,aG];lk;rw[<-er];refine HE hh ?_;refine kN toD (λx=>.bl _) _ [] st (λaA x a ha=>by cases ha) (λx hx aA K x1 hK=>hp x hx aA _ _ x1 λaV x2=>hK aV x2) (by simp![ak];lia) λaA x1=>?_;rw[bh];refine bO (by simp![af];lia) λp aJ x2 hp' fQ=>?_;simp![dG];rw[aF fQ,pC,aO,qo];exact hQ _<|x1.trans x2
theorem uT (h:G.fns ib=some (pI ih ib))(hh:G.fns ih=some kO):∀(s:Sy){k:Nat}{st:aB}{Q:VK}{E:XK},(∀aA,Ext st aA->Q (.bl<|eE gs s) aA)->aH G (k+aE s+1) ib [.tup<|gs.map .str,toD s] st Q E
 |.yes,k,st,Q,E,hQ=>xE (k:=k) h hh (by decide) rfl (by decide) (by decide) (λx hx=>by cases hx) hQ|.no,k,st,Q,E,hQ=>xE (k:=k) h hh (by decide) rfl (by decide) (by decide) (λx hx=>by cases hx) hQ|.bF n,k,st,Q,E,hQ=>by
  rw[aK h];simp only[pI,start,toD];refine⟨rfl,?_⟩;lk;have n1:¬(W "lamp" == W "before")=true:=by decide
  rw[if_neg n1,aG];lk;have n3:(W "lamp" == W "lamp")=true:=by decide
  rw[if_pos n3];lk;refine⟨kL st gs,?_⟩;have e:((gs.map D.str).any λd=>bZ st d<|.str n)=eE gs (.bF n):=by rw[qo];rfl
  rw[e];exact hQ _ .refl|.one w s,k,st,Q,E,hQ=>by
  by_cases hw:w=.before
  ·subst hw;rw[aK h];simp only[pI,start,toD,c1];refine⟨rfl,?_⟩;lk;have n1:(W "before" == W "before")=true:=by decide
   rw[if_pos n1];lk;exact hQ _ .refl
  ·have e0:k+aE (.one w s)+1=k+aE s+2:=by simp only[aE];omega
   rw[e0];refine xE h hh (show ¬(c1 w==W "before")=true by cases w<;>first|decide|exact absurd rfl hw) rfl (show ¬(c1 w==W "lamp")=true by cases w<;>decide) (by simp [subs]) (λx hx aA Q' E' x1 hQ'=>?_) λaA x1=>?_;·simp only[subs,ba,bj,or_false]at hx;rw[hx]at hQ' ⊢;exact uT h hh s (k:=k) (st:=aA) (Q:=Q') (E:=E') hQ'
   ·have e1:(subs<|.one w s).any (eE gs)=eE gs (.one w s):=by cases w<;>first|exact absurd rfl hw|simp [subs,eE]
    rw[e1];exact hQ aA x1|.two w s t,k,st,Q,E,hQ=>by
  have l1:=kh (aE s)<|aE t;have l2:=jy (aE s)<|aE t;have e0:k+aE (.two w s t)+1=k+max (aE s) (aE t)+2:=by simp only[aE];omega
  rw[e0];refine xE h hh (show ¬(c2 w==W "before")=true by cases w<;>decide) rfl (show ¬(c2 w==W "lamp")=true by cases w<;>decide) (by simp [subs]) (λx hx aA Q' E' x1 hQ'=>?_) (λaA x1=>by simpa [subs,eE]using hQ aA x1);simp only[subs,ba,bj,or_false]at hx;rcases hx with hx|hx
  ·rw[hx]at hQ' ⊢;have:=uT h hh s (k:=k+(max (aE s) (aE t)-aE s)) (st:=aA) (Q:=Q') (E:=E') hQ';have e:k+(max (aE s) (aE t)-aE s)+aE s+1=k+max (aE s) (aE t)+1:=by omega
   rw[e]at this;exact this
  ·rw[hx]at hQ' ⊢;have:=uT h hh t (k:=k+(max (aE s) (aE t)-aE t)) (st:=aA) (Q:=Q') (E:=E') hQ';have e:k+(max (aE s) (aE t)-aE t)+aE t+1=k+max (aE s) (aE t)+1:=by omega
   rw[e]at this;exact this
end
noncomputable def mS (ia ib:Nat)(mp:D):Fn:=⟨3,3,[.ret<|.and_ (.call ia [.v 0,.v 2,.c mp])<|.not_<|.bi .any [.comp 1 [1] [0] true none [.v 2] []<|.call ib [.v 1,.v 0]]]⟩
noncomputable def zW:Fn:=⟨3,3,[.ret<|.bin .add (.bin .add (.bi .list [.v 0])<|.bi .list [.v 1])<|.comp 1 [] [0] true none [.v 2] []<|.ix (.v 0)<|.c<|.int 1]⟩
section
variable {G:Prog}{k ih ib ir bT bC iy ia iap io:Nat}{st:aB}{Q:VK}{E:XK}{names gs:List<|List Nat}
theorem TC (hp:G.fns iap=some (mS ia ib<|.int 3))(hb:G.fns ib=some (pI ih ib))(hh:G.fns ih=some kO)(ha:G.fns ia=some (lM ir iy))(hr:G.fns ir=some gC)(hy:G.fns iy=some (nY bC<|.int 8))(h:G.fns bC=some (dH bT bC<|.cF dZ gX))(hn:G.fns bT=some (gO (.tup<|fS.map .str) (.str cZ)<|.int 8))(dO:∀n∈names,bD n=true){ss:List Sy} (ho:∀s∈ss,over names s/\aE s<=8)(hl:ss.length<=3)(hbare:∀s∈ss,eE gs s=false)(hQ:∀aA,Ext st aA->Q (.bl true) aA):aH G (k+12) iap [.tup<|names.map .str,.tup<|gs.map .str,.tup<|ss.map toD] st Q E:=by
 have hL:aL=16777216:=rfl;rw[aK hp];simp![mS,start];lk;refine wB ha hr hy h hn dO ho (by lia) (by lia) λaC y1=>?_;refine kN toD (λ_=>.bl false) _ [] aC (λaA x a ha=>by cases ha) (λx hx aA K x1 hK=>?_) (by simp![ak];lia) λaA x1=>?_
 ·have e:k+11=k+10-aE x+aE x+1:=by have:=(ho x hx).2;lia
  rw[e];refine uT hb hh x λaV x2=>?_;rw[hbare x hx];exact hK aV x2
 ·rw[bh];refine bO (by simp![af];lia) λp aJ x2 hp' fQ=>?_;simp![dG];rw[aF fQ,pC λ_=>false,aO];have e3:(ss.map λ_=>false).any id=false:=by simp
  rw[e3];exact hQ _<|(y1.trans x1).trans x2
theorem IV (h:G.fns io=some zW){ps ms:List Sy}{ws:List<|Int×Sy}(h1:ps.length<=1000)(h2:ms.length<=1000)(h3:ws.length<=1000)(hQ:∀p aA,Ext st aA->aA p=some (.lst ((ps++ms++ws.map (·.2)).map toD))->Q (.ref p) aA):aH G (k+1) io [.tup<|ps.map toD,.tup<|ms.map toD,.tup<|ws.map λw=>.tup [.int w.1,toD w.2]] st Q E:=by have hL:aL=16777216:=rfl;rw[aK h];simp![zW,start];lk;refine bO (by simp![af];lia) λp aC x1 hp hp1=>?_;refine bO (by simp![af];lia) λq aJ x2 hq hq2=>?_;k_ne;rw[aF<|x2 _ _ hp1,aF hq2];refine bO (by simp![af,ah];lia) λr aZ x3 hr hr3=>?_;refine kN (λw:Int×Sy=>D.tup [.int w.1,toD w.2]) (λw=>toD w.2) _ [] aZ (λaA x a ha=>by cases ha) (λx hx aA K y1 hK=>hK aA .refl) (by simp![ak];lia) λcR x4=>?_;rw[bh];refine bO (by simp![af];lia) λu eQ x5 hu hu5=>?_;show cC eQ r λxs=>cC eQ u λys=>fW (xs++ys) eQ Q;rw[aF<|x5 _ _<|x4 _ _ hr3,aF hu5];refine bO (by simp![af,ah];lia) λv dE x6 hv hv6=>?_;refine hQ v dE (((((x1.trans x2).trans x3).trans x4).trans x5).trans x6) ?_;rw[hv6];simp![eu,gV];rfl
end
noncomputable def oZ (ir il iap ia iaw ipi io:Nat)(mm mp:D):Fn:=⟨1,6,[.iff (.or_ (.not_<|.call ir [.v 0,.c<|.int 5,.c<|.int 5])<|.not_<|.call il [.ix (.v 0)<|.c<|.int 0,.ix (.v 0)<|.c<|.int 1]) [.ret<|.c<|.bl false] [],.asg (.nm 1)<|.ix (.v 0)<|.c<|.int 1,.asg (.nm 2)<|.bin .add (.ix (.v 0)<|.c<|.int 0)<|.v 1,.asg (.nm 3)<|.ix (.v 0)<|.c<|.int 2,.asg (.nm 4)<|.ix (.v 0)<|.c<|.int 3,.asg (.nm 5)<|.ix (.v 0)<|.c<|.int 4,.iff (.or_ (.not_<|.call iap [.v 2,.v 1,.v 3])<|.not_<|.call ia [.v 2,.v 4,.c mm]) [.ret<|.c<|.bl false] [],.ret<|.and_ (.call iaw [.v 2,.v 5])<|.cmp .le (.bi .len [.call ipi [.call io [.v 3,.v 4,.v 5]]])<|.c mp]⟩
structure Bk where
 fs:List (List Nat)gs:List (List Nat)ps:List Sy
 ms:List Sy
 ws:List<|Int×Sy
noncomputable def Bk.d (b:Bk):D:=.tup [.tup<|b.fs.map .str,.tup<|b.gs.map .str,.tup<|b.ps.map toD,.tup<|b.ms.map toD,.tup<|b.ws.map λw=>.tup [.int w.1,toD w.2]]
noncomputable def Bk.names (b:Bk):List<|List Nat:=b.fs++b.gs
noncomputable def Bk.says (b:Bk):List Sy:=b.ps++b.ms++b.ws.map (·.2)
structure Bk.Ok (b:Bk):Prop where
 f1:1<=b.fs.length
 f2:b.fs.length<=2
 g1:1<=b.gs.length
 g2:b.gs.length<=2
 nd:b.names.Nodup
 nm:∀n∈b.names,bD n=true
 p1:b.ps.length<=3
 p2:∀s∈b.ps,over b.names s/\aE s<=8
 p3:∀s∈b.ps,eE b.gs s=false
 m1:b.ms.length<=3
 m2:∀s∈b.ms,over b.names s/\aE s<=8
 w1:1<=b.ws.length
 w2:b.ws.length<=5
 w3:∀w∈b.ws,1<=w.1/\w.1<=99/\over b.names w.2/\aE w.2<=8
section
variable {G:Prog}{k ih ib ir bT bC iy ia iap io il iaw ipi ip iw ibk:Nat}{st:aB}{Q:VK}{E:XK}
theorem BP (h:G.fns ir=some gC){ds:List D}{lo hi:Int}(h1:lo<=(ds.length:Int))(h2:(ds.length:Int)<=hi)(hQ:Q (.bl true) st):aH G (k+1) ir [.tup ds,.int lo,.int hi] st Q E :=gL h<|by simp_all
end
section
variable {G:Prog}{k ir il iap ia iaw ipi io ibk:Nat}{Q:VK}{E:XK}
theorem OS (hbk:G.fns ibk=some (oZ ir il iap ia iaw ipi io (.int 3)<|.int 4))(hr:G.fns ir=some gC){F J P M V N:D}{st:aB}{Φ:Nat->aB->Prop}(h1:∀(st:aB)(Q:VK)(E:XK),(∀aA,Ext st aA->Q (.bl true) aA)->aH G (k+12) il [F,J] st Q E)(h2:∀(st:aB)(Q:VK),Q N st->jD .add F J st Q)(h3:∀(st:aB)(Q:VK)(E:XK),(∀aA,Ext st aA->Q (.bl true) aA)->aH G (k+12) iap [N,J,P] st Q E)(h4:∀(st:aB)(Q:VK)(E:XK),(∀aA,Ext st aA->Q (.bl true) aA)->aH G (k+12) ia [N,M,.int 3] st Q E)(h5:∀(st:aB)(Q:VK)(E:XK),(∀aA,Ext st aA->Q (.bl true) aA)->aH G (k+12) iaw [N,V] st Q E)(h6:∀(st:aB)(Q:VK)(E:XK),(∀l aA,Ext st aA->Φ l aA->Q (.ref l) aA)->aH G (k+12) io [P,M,V] st Q E)(h7:∀(l:Nat)(st:aB)(Q:VK)(E:XK),Φ l st->(∀p aA (xs:List D),Ext st aA->xs.length<=4->aA p=some (.lst xs)->Q (.ref p) aA)->aH G (k+12) ipi [.ref l] st Q E)(hQ:∀aA,Ext st aA->Q (.bl true) aA):aH G (k+13) ibk [.tup [F,J,P,M,V]] st Q E:=by
 rw[aK hbk];simp only[oZ,start];refine⟨rfl,?_⟩;lk;refine BP hr (Yy 5) (Yy 5) ?_;k_ne;refine h1 _ _ _ λaC x1=>?_;k_ne;rw[aG];try dsimp only
 refine dB ?_;rw[kF,lT,kY];simp only[↓qV,↓qW];rw[jI,show fI [F,J,P,M,V] 1=some J from rfl,aO,mE];simp only[c9,cv];refine dB ?_;rw[kF,KO,lT,kY];simp only[↓qV,↓qW];rw[jI,show fI [F,J,P,M,V] 0=some F from rfl,aO,kY];refine h2 _ _ ?_;rw[mE];refine dB ?_;rw[kF,lT,kY];simp only[c9,cv,↓qV,↓qW];rw[jI,show fI [F,J,P,M,V] 2=some P from rfl,aO,mE];refine dB ?_;rw[kF,lT,kY];simp only[c9,cv,↓qV,↓qW];rw[jI,show fI [F,J,P,M,V] 3=some M from rfl,aO,mE];refine dB ?_;rw[kF,lT,kY];simp only[c9,cv,↓qV,↓qW];rw[jI,show fI [F,J,P,M,V] 4=some V from rfl,aO,mE];lk;refine h3 _ _ _ λaJ x2=>?_;k_ne;refine h4 _ _ _ λaZ x3=>?_;k_ne;rw[aG];lk;refine h5 _ _ _ λcR x4=>?_;k_ne;refine h6 _ _ _ λl eQ x5 hl=>?_;refine h7 _ _ _ _ hl λp dE xs x6 hx hp=>?_;k_ne;unfold eD;rw[hp];show Q (.bl<|decide<|(xs.length:Int)<=4) dE;rw[decide_eq_true<|by omega];exact hQ _<|((((x1.trans x2).trans x3).trans x4).trans x5).trans x6
end
section
variable {G:Prog}{k ih ib ir bT bC iy ia iap io il iaw ipi ip iw ibk:Nat}{st:aB}{Q:VK}{E:XK}
theorem RY (hbk:G.fns ibk=some (oZ ir il iap ia iaw ipi io (.int 3)<|.int 4))(hla:G.fns il=some (sG ir bT<|.int 2))(hap:G.fns iap=some (mS ia ib<|.int 3))(hb:G.fns ib=some (pI ih ib))(hh:G.fns ih=some kO)(ha:G.fns ia=some (lM ir iy))(hr:G.fns ir=some gC)(hy:G.fns iy=some (nY bC<|.int 8))(h:G.fns bC=some (dH bT bC<|.cF dZ gX))(hn:G.fns bT=some (gO (.tup<|fS.map .str) (.str cZ)<|.int 8))(haw:G.fns iaw=some (mK ir iw<|.int 5))(hw:G.fns iw=some (mZ ir ip iy))(hp:G.fns ip=some (jU<|.int 99))(ho:G.fns io=some zW)(hpi:G.fns ipi=some (pU ih)){b:Bk}(B:b.Ok)(hs:lC b.says<aL)(hd:∀x∈b.says,aE x<=60)(hc:(gW b.says []).length<=4)(hQ:∀aA,Ext st aA->Q (.bl true) aA):aH G (k+13) ibk [b.d] st Q E:=by have hL:aL=16777216:=rfl;have f2:=B.f2;have g2:=B.g2;have p1:=B.p1;have m1:=B.m1;have w2:=B.w2;refine OS hbk hr (Φ:=λl st=>st l=some (.lst<|b.says.map toD)) (λst Q E q=>YR hla hr hn B.f1 B.f2 B.g1 B.g2 B.nd B.nm q) (λst Q q=>?_) (λst Q E q=>TC hap hb hh ha hr hy h hn B.nm B.p2 B.p1 B.p3 q) (λst Q E q=>wB ha hr hy h hn B.nm B.m2 (by lia) (by lia) q) (λst Q E q=>O3 haw hw hr hp hy h hn B.nm B.w3 B.w1 B.w2 q) (λst Q E q=>IV ho (by lia) (by lia) (by lia) λp aA x e=>q p aA x e) (λl st Q E e q=>zZ hpi hh e hd hs λp aA x e'=>q p aA _ x (by simp_all) e') hQ;refine⟨by simp![af];lia,?_⟩;rw[<-eu];exact q
end
end L3
end
section
namespace L3
noncomputable def XG (f g:Nat->Bool):Nat->Bool|0=>g 0|t+1=>g (t+1)||f (t+1)&&XG f g t
noncomputable def Ti (names:List<|List Nat)(kD:List<|List Bool)(n:List Nat)(t:Nat):Bool:=(kD[t]?.getD [])[names.idxOf n]?.getD false
noncomputable def hv (names:List<|List Nat)(kD:List<|List Bool):Sy->Nat->Bool|.yes,_=>true|.no,_=>false|.bF n,t=>Ti names kD n t|.one .not s,t=>!hv names kD s t|.one .before s,t=>decide (0<t)&&hv names kD s (t-1)|.one .once s,t=>(b7<|t+1).any<|hv names kD s|.one .sofar s,t=>(b7<|t+1).all<|hv names kD s|.two .and s u,t=>hv names kD s t&&hv names kD u t|.two .or s u,t=>hv names kD s t||hv names kD u t|.two .bA s u,t=>hv names kD u t || !hv names kD s t|.two .same s u,t=>hv names kD s t==hv names kD u t|.two .since s u,t=>XG (hv names kD s) (hv names kD u) t
end L3
end
section
namespace L3
open PySem
theorem uM {α:Type}(t:α->D){g:aB->Prop}{turn:D->(St->aB->Prop)->St->aB->Prop}{N:St->aB->Prop}(I:List α->St->aB->Prop)(hg:∀xs σ st,I xs σ st->g st)(ht:∀x r σ st (M:St->aB->Prop),I (x::r) σ st->(∀am aA,I r am aA->M am aA)->turn (t x) M σ st)(hN:∀σ st,I [] σ st->N σ st):∀(xs:List α)(σ:St)(st:aB),I xs σ st->AH g turn N (xs.map t) σ st|[],σ,st,h=>⟨hg _ _ _ h,hN _ _ h⟩|x::xs,σ,st,h=>⟨hg _ _ _ h,ht x xs σ st _ h λam aA h'=>uM t I hg ht hN xs am aA h'⟩
theorem NO:∀(l:List Sy){f:List Sy}{n:Nat},(∀x∈f,aE x<=n)->(∀x∈l,aE x<=n)->∀x∈gW l f,aE x<=n|[],_,_,hf,_=>hf|s::l,f,n,hf,hl=>NO l (BE s hf<|hl s<|by simp) λx hx=>hl x<|by simp [hx]
noncomputable def wR (ibk:Nat):Fn:=⟨1,1,[.iff (.not_<|.call ibk [.v 0]) [.rais 2 [.c<|.str<|W "no book"]] [],.ret<|.v 0]⟩
section
variable {G:Prog}{k i ie iw ipo iz irr iti io r:Nat}{st:aB}{Q:VK}{E:XK}{b:Bk}
theorem PJ (B:b.Ok):∀s∈b.says,over b.names s/\aE s<=8:=by
 intro s hs;simp![Bk.says,cz,kq]at hs;rcases hs with(hs|hs)|⟨w,hw,rfl⟩;·exact B.p2 s hs
 ·exact B.m2 s hs
 ·exact⟨(B.w3 w hw).2.2.1,(B.w3 w hw).2.2.2⟩
end
def QW (G:Prog)(ibk kb:Nat)(b:Bk):Prop:=∀(k:Nat)(st:aB)(Q:VK)(E:XK),(∀aA,Ext st aA->Q (.bl true) aA)->aH G (k+kb) ibk [b.d] st Q E
section
variable {G:Prog}{k i ibk kb ich icp ist ie iw ipo iz irr iti io iri ima Ys iph inh:Nat}{st:aB}{Q:VK}{E:XK}{b:Bk}
theorem SH (h:G.fns ich=some (wR ibk))(hb:QW G ibk kb b)(hQ:∀aA,Ext st aA->Q b.d aA):aH G (k+kb+1) ich [b.d] st Q E:=by rw[aK h];refine⟨rfl,?_⟩;refine hb k _ _ _ λaC x1=>?_;exact hQ aC x1
end
theorem wU {α:Type}{g:aB->Prop}{turn:D->aB->(Option D->aB->Prop)->Prop}{R:List D->aB->Prop}(t:α->D)(f:α->Option D):∀(xs:List α)(acc:List D)(st:aB),(∀aA,Ext st aA->g aA)->(∀x∈xs,∀aA (K:Option D->aB->Prop),Ext st aA->(∀aV,Ext aA aV->K (f x) aV)->turn (t x) aA K) ->acc.length+xs.length<=aL->(∀aA,Ext st aA->R (acc++xs.filterMap f) aA)->iH g turn (xs.map t) acc st R|[],acc,st,hg,_,_,hR=>⟨hg st .refl,by simpa using hR st .refl⟩|x::xs,acc,st,hg,ht,hl,hR=>by simp![ag]at hl;refine⟨hg st .refl,by lia,ht x (by simp) st _ .refl λaV h''=>?_⟩;cases hf:f x with|none =>exact wU t f xs acc aV (λaA h=>hg aA<|h''.trans h) (λy hy aA K h=>ht y (by simp [hy]) aA K<|h''.trans h) (by lia) λaA h=>by simpa [hf]using hR aA<|h''.trans h|some d =>exact wU t f xs _ aV (λaA h=>hg aA<|h''.trans h) (λy hy aA K h=>ht y (by simp [hy]) aA K<|h''.trans h) (by simp![ah,ag,ak];lia) λaA h=>by simpa [hf]using hR aA<|h''.trans h
theorem eq_nil {st:aB}{p q:Nat}{xs:List D}(h:st p=some (.lst xs))(h':st q=some (.lst [])):bZ st (.ref p) (.ref q)=xs.isEmpty:=by simp![bZ,h,h'];cases xs<;>rfl
theorem WC (n:Nat):iR 0 n=(b7 n).map fun k=>D.int (k:Nat):=by unfold iR;congr 1;funext k;simp
noncomputable def AZ (is dQ:Nat):Fn:=⟨5,7,[.asg (.nm 5)<|.call is [.v 0,.v 1,.v 2,.c<|.int 1,.lst [.c<|.int 0]],.iff (.and_ (.cmp .gt (.ix (.v 4)<|.c<|.int 0)<|.c<|.int 0)<|.cmp .eq (.call dQ [.v 0,.v 1,.c<|.int 2])<|.c<|.int 1) [.asg (.ix (.v 4)<|.c<|.int 0)<|.bin .sub (.ix (.v 4)<|.c<|.int 0)<|.c<|.int 1,.asg (.nm 6)<|.call is [.v 0,.v 1,.v 3,.c<|.int 1,.lst [.c<|.int 0]],.ret<|.tup [.ix (.lst [.c<|.str<|W "then",.c<|.str<|W "or",.c<|.str<|W "same"])<|.call dQ [.v 0,.v 1,.c<|.int 3],.tup [.c<|.str<|W "before",.v 6],.v 5]] [],.ret<|.v 5]⟩
noncomputable def BG (inm dQ is ipr:Nat):Fn:=⟨4,14,[.asg (.nm 4)<|.lst [.v 1],.asg (.tp [5,6])<|.call inm [.v 0,.v 4],.asg (.nm 7)<|.bin .add (.v 5)<|.v 6,.asg (.nm 8)<|.lst [.call dQ [.v 0,.v 4,.bin .add (.v 2)<|.c<|.int 1]],.asg (.nm 9)<|.lst [],.sV (.nm 10) (some .range) [.bin .add (.c<|.int 1)<|.call dQ [.v 0,.v 4,.c<|.int 3]] [.asg (.nm 11)<|.bin .add (.c<|.int 1)<|.call dQ [.v 0,.v 4,.ix (.lst [.c<|.int 3,.c<|.int 9,.c<|.int 99])<|.call dQ [.v 0,.v 4,.c<|.int 3]],.ex<|.bP .append (.v 9) [.tup [.v 11,.call is [.v 0,.v 4,.v 7,.c<|.int 2,.v 8]]]],.asg (.nm 12)<|.comp 1 [0,4,7,8] [0] true (some .range) [.call dQ [.v 0,.v 4,.bin .add (.v 3)<|.c<|.int 1]] []<|.call is [.v 1,.v 2,.v 3,.c<|.int 2,.v 4],.asg (.nm 13)<|.comp 1 [0,4,5,7,8] [0] true (some .range) [.call dQ [.v 0,.v 4,.c<|.int 2]] []<|.call ipr [.v 1,.v 2,.v 3,.v 4,.v 5],.ret<|.tup [.v 5,.v 6,.bi .tuple [.v 13],.bi .tuple [.v 12],.bi .tuple [.v 9]]]⟩
theorem qH {f g:List<|List Nat}(h:∀n∈f,n∈g):∀s:Sy,over f s->over g s|.yes,_=>trivial|.no,_=>trivial|.bF _,q=>h _ q|.one w s,q=>qH h s q|.two w s t,q=>⟨qH h s q.1,qH h t q.2⟩
theorem pP {fs gs:List<|List Nat}(h:∀n∈fs,n∉gs):∀s:Sy,over fs s->eE gs s=false
 |.yes,_=>rfl|.no,_=>rfl|.bF n,q=>by simp only[eE,p8];intro x hx e;have:=h n q;rw[<-eq_of_beq e]at this;exact this hx|.one w s,q=>by cases w<;>first|rfl|exact pP h s q
 |.two w s t,q=>by simp only[eE,pP h s q.1,pP h t q.2,Aak]
section
variable {G:Prog}{k ic im dQ is ipr:Nat}{st:aB}{Q:VK}{E:XK}{ns:List Int}
theorem Ck (h:G.fns ipr=some (AZ is dQ))(hs:G.fns is=some (nC dQ is))(hn:G.fns dQ=some (rB im))(hm:G.fns im=some (lY ic))(hc:G.fns ic=some oA){fs gs:List<|List Nat}(hf:0<fs.length)(hdis:∀n∈fs,n∉gs){a b:Nat}(jP:a≠b){i l:Int}(ha:st a=some (.lst [.int i]))(hb:st b=some (.lst [.int l]))(hi:0<=i)(hl:0<=l)(hQ:∀s aA i',over (fs++gs) s->eE gs s=false->aE s<=4->(cnt s:Int)<=l->cE [a,b] st aA->0<=i'->aA a=some (.lst [.int i'])->aA b=some (.lst [.int<|l-cnt s])->Q (toD s) aA):aH G (k+6) ipr [.bR<|ns.map .int,.ref a,.tup<|fs.map .str,.tup<|(fs++gs).map .str,.ref b] st Q E:=by
 rw[aK h];simp only[AZ,start];refine⟨rfl,?_⟩;have hfm:∀n∈fs,n∈fs++gs:=λn hn=>by simp [hn]
 lk;refine bO (by decide) λz aC x1 hz hz1=>?_;have za:a≠z:=λe=>by rw[<-e,ha]at hz;cases hz
 have zb:b≠z:=λe=>by rw[<-e,hb]at hz;cases hz
 have zz:∀c o,st c=some o->c≠z:=λc o e q=>by rw[q,hz]at e;cases e
 refine tD (k:=k) hs hn hm hc hf za 1 (x1 _ _ ha) hz1 hi (by omega) λs aJ i2 o1 d1 c1' k2 hi2 a2 z2=>?_;have cs:cnt s=0:=by omega
 have b2:aJ b=some (.lst [.int l]):=k2 b _ (by simp [jP.symm,zb])<|x1 _ _ hb;have kk2:cE [a,b] st aJ:=λc o nc e=>k2 c o (by simp only[ba,bj,or_false,not_or]at nc ⊢;exact⟨nc.1,zz c o e⟩)<|x1 _ _ e;have base:∀aZ i3,cE [a,b] aJ aZ->0<=i3->aZ a=some (.lst [.int i3])->aZ b=some (.lst [.int l])->Q (toD s) aZ:=λaZ i3 k3 h3 a3 b3 =>hQ s aZ i3 (qH hfm s o1) (pP hdis s o1) (by omega) (by omega) (kk2.trans k3) h3 a3 (by rw[cs];simpa using b3);lk;rw[cP b2,DE,aO];k_ne;by_cases hl0:0<l;·rw[if_pos hl0];refine gD (k:=k+2) hn hm hc a2 hi2 (by omega) λaZ k3 a3=>?_;have b3:aZ b=some (.lst [.int l]):=k3 b _ (by simpa using jP.symm) b2;k_ne;generalize hv:kU ns (i2+1) 2=v;cases hv1:(v==1)with
  |true =>
   simp only[if_true];lk;rw[cP b3,DE,aO];k_ne;rw[aF b3,Bx,aO];generalize hst4:put aZ b _=cR;have b4:cR b=some (.lst [.int<|l-1]):=by rw[<-hst4,bE];rfl
   have a4:cR a=some (.lst [.int<|i2+1]):=by rw[<-hst4,bS jP];exact a3
   have k4:cE [a,b] aZ cR:=by rw[<-hst4];exact cE.put<|by simp
   lk;refine bO (by decide) λy eQ x5 hy hy5=>?_;have ya:a≠y:=λe=>by rw[<-e,a4]at hy;cases hy
   have yb:b≠y:=λe=>by rw[<-e,b4]at hy;cases hy
   have yy:∀c o,cR c=some o->c≠y:=λc o e q=>by rw[q,hy]at e;cases e
   refine tD (k:=k) hs hn hm hc (by simp;omega) ya 1 (x5 _ _ a4) hy5 (by omega) (by omega) λs2 dE i6 o6 d6 c6 k6 hi6 a6 y6=>?_;have cs2:cnt s2=0:=by omega
   have b6:dE b=some (.lst [.int<|l-1]):=k6 b _ (by simp [jP.symm,yb])<|x5 _ _ b4;have kk6:cE [a,b] cR dE:=λc o nc e=>k6 c o (by simp only[ba,bj,or_false,not_or]at nc ⊢;exact⟨nc.1,yy c o e⟩)<|x5 _ _ e;lk;refine bO (by decide) λu N9 x7 hu hu7=>?_;k_ne;refine gD (k:=k+2) hn hm hc (x7 _ _ a6) hi6 (by omega) λkS k8 a8=>?_;have u8:kS u=some (.lst [.str<|W "then",.str<|W "or",.str<|W "same"]):=k8 u _ (by intro z';simp only[cu]at z';rw[z',a6]at hu;cases hu) hu7;have w0:=gP (ns:=ns) (k:=i6+1) (many:=3) (by omega);have w1:=iB (ns:=ns) (k:=i6+1) (many:=3) (by omega);generalize kU ns (i6+1) 3=w at w0 w1;have b8:kS b=some (.lst [.int<|l-1]):=k8 b _ (by simpa using jP.symm)<|x7 _ _ b6;have kk8:cE [a,b] st kS:=((((kk2.trans<|k3.mono<|by simp).trans k4).trans kk6).trans x7.keep).trans (k8.mono<|by simp);have fin:∀W2',p2 W2'=false->aE (Sy.two W2' (.one .before s2) s)<=4->Q (toD<|Sy.two W2' (.one .before s2) s) kS:=λW2' fQ hdp=>by
    have hcn:cnt (Sy.two W2' (.one .before s2) s)=1:=by simp [cnt,fQ,p1,cs,cs2]
    refine hQ _ kS (i6+1) ⟨o6,qH hfm s o1⟩ ?_ hdp (by rw[hcn];omega) kk8 (by omega) a8 (by rw[hcn];exact b8);simp only[eE,pP hdis s o1,Aak]
   k_ne;have hdp:∀W2',aE (Sy.two W2' (.one .before s2) s)<=4:=λW2'=>by simp only[aE];omega
   have hw:w=0\/w=1\/w=2:=by omega
   rcases hw with rfl|rfl|rfl;·rw[cP u8,DE,aO];exact fin .bA rfl<|hdp _
   ·rw[cP u8,LF,aO];exact fin .or rfl<|hdp _
   ·rw[cP u8,Q8,aO];exact fin .same rfl<|hdp _|false =>exact base aZ (i2+1) (k3.mono<|by simp) (by omega) a3 b3
 ·rw[if_neg hl0];(try rw[if_neg hl0]);exact base aJ i2 .refl hi2 a2 b2
end
theorem XS {fs gs:List<|List Nat}(h:vG fs gs=true):1<=fs.length/\fs.length<=2/\1<=gs.length/\gs.length<=2/\(fs++gs).Nodup/\∀n∈fs++gs,n∈pO:=by simp![vG,ao,decide_eq_true_eq,jz]at h;obtain⟨⟨⟨⟨⟨a,b⟩,c⟩,d⟩,e⟩,f⟩:=h;exact⟨a,b,c,d,e,λn hn=>by simpa using f n hn⟩
theorem R8:∀n∈pO,bD n=true:=by x_go
noncomputable def gT (l:List Sy):Nat:=(l.map cnt).sum
theorem uE (a b:List Sy):gT (a++b)=gT a+gT b:=by simp [gT]
theorem LX (f:List Sy)(s:Sy):(jE f s).length<=f.length+(if lD s=true then 1 else 0):=by unfold jE;cases h:lD s with|true=>split<;>simp|false=>simp
theorem A3:∀(s:Sy)(f:List Sy),(oH s f).length<=f.length+cnt s|.yes,f=>by simp [oH]|.no,f=>by simp [oH]|.bF _,f=>by simp [oH]|.one w s,f=>by have h1:=A3 s<|jE f<|.one w s;have h2:=LX f<|.one w s;simp![lD]at h2;simp![oH,cnt];cases h:p1 w<;>simp [h]at h2 ⊢<;>lia|.two w s t,f=>by have h1:=A3 s<|jE f<|.two w s t;have h2:=LX f<|.two w s t;have h3:=A3 t<|oH s<|jE f<|.two w s t;simp![lD]at h2;simp![oH,cnt];cases h:p2 w<;>simp [h]at h2 ⊢<;>lia
theorem N2:∀(l f:List Sy),(gW l f).length<=f.length+gT l|[],f=>by simp [gW]|s::l,f=>by have h1:=N2 l<|oH s f;have h2:=A3 s f;have:gT (s::l)=cnt s+gT l:=rfl;simp![gW];lia
structure Og (b:Bk)(pieces fR:Int):Prop where
 ok:b.Ok
 d4:∀s∈b.says,aE s<=4
 ms:(b.ms.length:Int)<=fR
 cn:(gT b.says:Int)<=pieces
 n8:∀n∈b.names,n∈pO
noncomputable abbrev kt (at_ pieces fR:Int)(ns:List Int)(fs gs:List<|List Nat)(m lf wl:Nat)(tW vW Ce Yt:Option D):St:=[some<|.bR<|ns.map .int,some<|.int at_,some<|.int pieces,some<|.int fR,some<|.ref m,some<|.tup<|fs.map .str,some<|.tup<|gs.map .str,some<|.tup<|(fs++gs).map .str,some<|.ref lf,some<|.ref wl,tW,vW,Ce,Yt]
inductive WI (xL:Option D->Option D->St)(names:List<|List Nat)(m lf wl:Nat)(dE:aB)(lv v:Int)(rest:List Nat)(σ:St)(aA:aB):Prop |mk (j:Nat)(tW vW:Option D)(i':Int)(ws:List<|Int×Sy)(e1:rest=(b7 (1+v).toNat).drop j)(e2:σ=xL tW vW)(q1:cE [m,lf,wl] dE aA)(q2:0<=i')(q3:aA m=some (.lst [.int i']))(q4:aA lf=some (.lst [.int (lv-gT (ws.map (·.2)))]))(q5:(gT (ws.map (·.2)):Int)<=lv)(q6:aA wl=some (.lst<|ws.map λw:Int×Sy=>.tup [.int w.1,toD w.2]))(q7:ws.length=j)(q7':j<=(1+v).toNat)(q8:∀w∈ws,1<=w.1/\w.1<=99/\over names w.2/\aE w.2<=3)
theorem Yv {a b c:Nat}{x:Int}(h:(a:Int)<=x)(h':(b:Int)<=x-a):((a+b:Nat):Int)<=x:=by lia
theorem Xz {a b:Nat}{x:Int}:x-(a:Int)-(b:Int)=x-((a+b:Nat):Int):=by lia
theorem Ad {b:Nat}{x:Int}(h:(b:Int)<=x):0<=x-(b:Int):=by lia
theorem draws {turn:D->aB->(Option D->aB->Prop)->Prop}{R:List D->aB->Prop}{m lf:Nat}{ok:Sy->Prop}{bY:aB}(ht:∀(x:D)(st:aB)(K:Option D->aB->Prop)(i c:Int),0<=i->0<=c->st m=some (.lst [.int i])->st lf=some (.lst [.int c])->(∀s aA i',ok s->(cnt s:Int)<=c->cE [m,lf] st aA->0<=i'->aA m=some (.lst [.int i'])->aA lf=some (.lst [.int<|c-cnt s])->K (some<|toD s) aA)->turn x st K):∀(xs:List D)(ss:List Sy){st:aB}{i c:Int},0<=i->0<=c->st m=some (.lst [.int i])->st lf=some (.lst [.int c])->ss.length+xs.length<aL ->(∀ss' aA i',(∀s∈ss',ok s)->ss'.length=xs.length->(gT ss':Int)<=c->cE [m,lf] st aA->0<=i'->aA m=some (.lst [.int i'])->aA lf=some (.lst [.int<|c-gT ss'])->R ((ss++ss').map toD) aA) ->iH (same [] bY) turn xs (ss.map toD) st R|[],ss,st,i,c,hi,hc,hm,hl,hn,h=>⟨LO,by have q:=h [] st i (λ_ h=>nomatch h) rfl (by assumption) .refl hi hm (by simpa [gT]using hl);rw[dn]at q;exact q⟩|x::xs,ss,st,i,c,hi,hc,hm,hl,hn,h=>⟨LO,by rw[af];lia,ht x st _ i c hi hc hm hl λs aA i' o1 o2 k1 hi' m1 l1=>by
 have q:=draws (bY:=bY) ht xs (ss++[s]) hi' (Ad o2) m1 l1 (by simp![ah,ag,ak]at hn ⊢;lia) λss' aV i'' p1 p2 p3 p4 p5 p6 p7=>by
  have e:gT (s::ss')=cnt s+gT ss':=rfl;have z:=h _ aV i'' (λs' eZ=>by
  rcases List.mem_cons.mp eZ with rfl|eZ;·exact o1
  ·exact p1 s' eZ) (by simp [p2]) (by lia) (k1.trans p4) p5 p6 (by rw[e,<-Xz];exact p7);rw[jd];exact z
 rw[eu]at q;exact q⟩
section
variable {G:Prog}{k i inm ic im dQ is ipr:Nat}{st:aB}{Q:VK}{E:XK}{ns:List Int}
theorem Lo {v:Int}{n:Int}(h0:0<=v)(h1:v<n)(hn:n<=4):jL v:=by unfold jL;lia
theorem Ax {v:Int}{n:Int}{a:Nat}(e:a=v.toNat)(h1:v<n)(hn:n<=4):a<=3:=by lia
theorem Yo {v n:Int}{a:Nat}(e:a=v.toNat)(h0:0<=v)(h1:v<n+1):(a:Int)<=n:=by lia
theorem Xt {a b c:Nat}{x y:Int}(h:(a:Int)<=x-c-b)(h':x<y+1):((a+b+c:Nat):Int)<=y:=by lia
theorem UY {a:Nat}(h:a<=3):a<=aL:=az h<|by cbv
theorem VN (hp:G.fns ipr=some (AZ is dQ))(hs:G.fns is=some (nC dQ is))(hn:G.fns dQ=some (rB im))(hm:G.fns im=some (lY ic))(hc:G.fns ic=some oA){fs gs:List<|List Nat}(f1:0<fs.length)(fpos:0<(fs++gs).length)(hdis:∀n∈fs,n∉gs){m lf wl:Nat}(mlf:m≠lf)(mwl:m≠wl)(lfwl:lf≠wl){at_ pieces fR i' c:Int}(hmu:0<=fR)(hmu3:fR<=3){ws:List<|Int×Sy}{tW vW:Option D}(q2:0<=i')(q3:st m=some (.lst [.int i']))(q4:st lf=some (.lst [.int c]))(hc0:0<=c)(q6:st wl=some (.lst<|ws.map λw:Int×Sy=>.tup [.int w.1,toD w.2]))(hws:ws.length<=3)(hQ:∀ps ms aA,(∀s∈ms,over (fs++gs) s/\aE s<=3)->(ms.length:Int)<=fR->ms.length<=3->(∀s∈ps,over (fs++gs) s/\aE s<=4/\eE gs s=false)->ps.length<=3->(gT ms:Int)<=c->(gT ps:Int)<=c-gT ms->cE [m,lf] st aA->Q (Bk.d ⟨fs,gs,ps,ms,ws⟩) aA):cH (aH G<|k+6) G.sub ((BG inm dQ is ipr).body.drop 6) ⟨λ_ aA=>Q .non aA,Q,λ_ _=>False,λ_ _=>False,λc _ aA=>E c aA⟩ (kt at_ pieces fR ns fs gs m lf wl tW vW none none) st:=by
 simp![BG,Zj,n6,kt];lk;refine gD (k:=k+3) hn hm hc q3 q2 (by lia) λN9 k7 m7=>?_;have V2:=gP (ns:=ns) (k:=i'+1) (many:=fR+1) (by lia);have V3:=iB (ns:=ns) (k:=i'+1) (many:=fR+1) (by lia);generalize kU ns (i'+1) (fR+1)=v2 at V2 V3;k_ne;have h4:fR+1<=4:=by lia
 refine⟨Lo V2 V3 h4,?_⟩;have lf7:=k7 lf _ (by simpa using mlf.symm) q4;have wl7:=k7 wl _ (by simpa using mwl.symm) q6;refine draws (m:=m) (lf:=lf) (ok:=λs=>over (fs++gs) s/\aE s<=3) (λx aA K i c hi hc' h1 h2 hK=>?_) _ [] (by lia) hc0 m7 lf7 ?_ λms kS i8 z8 z7 z6 z2 z3 z4 z5=>?_;·exact tD (k:=k) hs hn hm hc fpos mlf 2 h1 h2 hi hc' λs kS i8 o8 d8 c8 k8 hi8 m8 lf8=>hK s kS i8 ⟨o8,d8⟩ c8 k8 hi8 m8 lf8
 ·simp![ak,iR,af,qe];exact ot (by rw[Aah];exact Ax rfl V3 h4)<|by cbv
 simp![iR,af,qe]at z7;have m3:=Ax z7 V3 h4;refine bO (by rw[bh,af];exact UY m3) λml QT x9 hml ml9=>?_;k_ne;have wl9:=x9 _ _<|z2 wl _ (by simp [mwl.symm,lfwl.symm]) wl7;lk;refine gD (k:=k+3) hn hm hc (x9 _ _ z4) z3 (by cbv) λsta ka ma=>?_;have V4:=gP (ns:=ns) (k:=i8+1) (many:=2) (by cbv);have V5:=iB (ns:=ns) (k:=i8+1) (many:=2) (by cbv);generalize kU ns (i8+1) 2=v3 at V4 V5;k_ne;refine⟨Lo V4 V5<|by cbv,?_⟩;have mml:m≠ml:=λz=>by rw[<-z,z4]at hml;cases hml
 have lfml:lf≠ml:=λz=>by rw[<-z,z5]at hml;cases hml
 have lfa:=ka lf _ (by simpa using mlf.symm)<|x9 _ _ z5;have wla:=ka wl _ (by simpa using mwl.symm) wl9;have mla:=ka ml _ (by simpa using mml.symm) ml9;refine draws (m:=m) (lf:=lf) (ok:=λs=>over (fs++gs) s/\aE s<=4/\eE gs s=false) (λx aA K i c hi hc' h1 h2 hK=>?_) _ [] (by lia) (Ad z6) ma lfa ?_ λps stb ib y8 y7 y6 y2 y3 y4 y5=>?_;·exact Ck (k:=k) hp hs hn hm hc f1 hdis mlf h1 h2 hi hc' λs kS i8 o8 b8 d8 c8 k8 hi8 m8 lf8=>hK s kS i8 ⟨o8,d8,b8⟩ c8 k8 hi8 m8 lf8
 ·simp![ak,iR,af,qe];exact ot (by rw[Aah];exact Ax rfl V5<|by cbv)<|by cbv
 simp![iR,af,qe]at y7;have p3:=Ax y7 V5 (by cbv);refine bO (by rw[bh,af];exact UY p3) λpl stc xc cW plc=>?_;k_ne;have wlc:=xc _ _<|y2 wl _ (by simp [mwl.symm,lfwl.symm]) wla;have mlc:=xc _ _<|y2 ml _ (by simp [mml.symm,lfml.symm]) mla;simp![bh]at plc mlc;lk;rw[aF plc];refine⟨by rw[af];exact UY p3,?_⟩;rw[aF mlc];refine⟨by rw[af];exact UY m3,?_⟩;rw[aF wlc];refine⟨by rw[af];exact UY hws,?_⟩;refine hQ ps ms stc z8 (Yo z7 V2 V3) m3 y8 p3 z6 y6 λa o ha e=>?_;have ha':=ha;simp![ba,bj,or_false,not_or]at ha';have t7:=k7 a o (by simpa using ha'.1) e;have t9:=ka a o (by simpa using ha'.1)<|x9 _ _<|z2 a o ha t7;exact xc _ _<|y2 a o ha t9
theorem Hi (h:G.fns i=some (BG inm dQ is ipr))(dO:G.fns inm=some (yX dQ))(hp:G.fns ipr=some (AZ is dQ))(hs:G.fns is=some (nC dQ is))(hn:G.fns dQ=some (rB im))(hm:G.fns im=some (lY ic))(hc:G.fns ic=some oA){at_ pieces fR:Int}(ha:0<=at_)(hpi:0<=pieces)(hmu:0<=fR)(hmu3:fR<=3) (hQ:∀b aA,Og b pieces fR->Ext st aA->Q b.d aA):aH G (k+7) i [.bR<|ns.map .int,.int at_,.int pieces,.int fR] st Q E:=by
 have hL:aL=16777216:=rfl;rw[aK h];simp![BG,start];refine⟨rfl,?_⟩;lk;refine bO (by show 1<=aL;cbv) λm aC x1 hm0 m1=>?_;lk;refine YC (k:=k+2) dO hn hm hc m1 ha λfs gs aJ i2 bL k2 hi2 m2=>?_;obtain⟨f1,f2,g1,g2,nd,n8⟩:=XS bL;k_ne;lk;refine⟨by simp![af];lia,?_⟩;have en:(fs.map D.str++gs.map D.str)=(fs++gs).map .str:=by simp
 rw[en];lk;refine gD (k:=k+3) hn hm hc m2 hi2 (by lia) λaZ k3 m3=>?_;have L0:=gP (ns:=ns) (k:=i2+1) (many:=pieces+1) (by lia);have L1:=iB (ns:=ns) (k:=i2+1) (many:=pieces+1) (by lia);generalize kU ns (i2+1) (pieces+1)=lv at L0 L1;refine bO (by show 1<=aL;cbv) λlf cR x4 hlf lf4=>?_;have m4:=x4 _ _ m3;have mlf:m≠lf:=λz=>by rw[<-z,m3]at hlf;cases hlf
 have old3:∀a o,st a=some o->aZ a=some o:=λa o e=>by
  have hma:a≠m:=λz=>by rw[z,hm0]at e;cases e
  exact k3 a o (by simpa using hma)<|k2 a o (by simpa using hma)<|x1 _ _ e
 have old4:∀a o,st a=some o->cR a=some o/\a≠m/\a≠lf:=λa o e=>⟨x4 _ _<|old3 a o e,λz=>(by rw[z,hm0]at e;cases e),λz=>by rw[<-z,old3 a o e]at hlf;cases hlf⟩;k_ne;lk;refine bO (by simp) λwl eQ x5 hwl wl5=>?_;have m5:=x5 _ _ m4;have lf5:=x5 _ _ lf4;have mwl:m≠wl:=λz=>by rw[<-z,m4]at hwl;cases hwl
 have lfwl:lf≠wl:=λz=>by rw[<-z,lf4]at hwl;cases hwl
 have old5:∀a o,st a=some o->eQ a=some o/\a≠m/\a≠lf/\a≠wl:=λa o e=>by obtain⟨q1,q2,q3⟩:=old4 a o e;exact⟨x5 _ _ q1,q2,q3,λz=>by rw[<-z,q1]at hwl;cases hwl⟩
 k_ne;lk;refine gD (k:=k+3) hn hm hc m5 (by lia) (by lia) λdE k6 m6=>?_;have V0:=gP (ns:=ns) (k:=i2+1+1) (many:=3) (by lia);have V1:=iB (ns:=ns) (k:=i2+1+1) (many:=3) (by lia);generalize kU ns (i2+1+1) 3=v at V0 V1;have lf6:=k6 lf _ (by simpa using mlf.symm) lf5;have wl6:=k6 wl _ (by simpa using mwl.symm) wl5;k_ne;refine⟨by unfold jL;lia,?_⟩;rw[WC];have hname:∀n∈fs++gs,bD n=true:=λn hn'=>R8 n<|n8 n hn';have fpos:0<(fs++gs).length:=by simp;lia
 have hdis:∀n∈fs,n∉gs:=λn h1 h2=>by rw[Aaj]at nd;exact nd.2.2 n h1 n h2 rfl
 refine uM (λj:Nat=>D.int (j:Nat)) (I:=WI (λtW vW=>kt at_ pieces fR ns fs gs m lf wl tW vW none none) (fs++gs) m lf wl dE lv v) (λrest σ aA _ a ha=>?_) (λx rest σ aA M ⟨j,tW,vW,i',ws,e1,e2,q1,q2,q3,q4,q5,q6,q7,q7',q8⟩ hM=>?_) (λσ aA ⟨j,tW,vW,i',ws,e1,e2,q1,q2,q3,q4,q5,q6,q7,q7',q8⟩=>?_) _ _ _ ⟨0,none,none,i2+1+1,[],rfl,rfl,.refl,by lia,m6,by simpa [gT]using lf6,by simp [gT];lia,wl6,rfl,cg _,by simp⟩;·cases ha
 ·subst e2;have hj:j<(b7 (1+v).toNat).length:=by
   by_cases z:j<(b7 (1+v).toNat).length;·exact z
   ·rw[fk<|by lia]at e1;cases e1
  rw[fx hj]at e1;injection e1 with e3 e4;simp![qe]at hj;simp![kt];lk;refine bO (by cbv) λu N9 x7 hu hu7=>?_;k_ne;refine gD (k:=k+3) hn hm hc (x7 _ _ q3) q2 (by lia) λkS k8 m8=>?_;have um:u≠m:=λz=>by rw[z,q3]at hu;cases hu
  have u8:=k8 u _ (by simpa using um) hu7;have w0:=gP (ns:=ns) (k:=i'+1) (many:=3) (by lia);have w1:=iB (ns:=ns) (k:=i'+1) (many:=3) (by lia);generalize kU ns (i'+1) 3=w at w0 w1;have hpr:∃c:Int,0<c/\c<=99/\fI [D.int 3,D.int 9,D.int 99] w=some (.int c):=by
   have hw:w=0\/w=1\/w=2:=by lia
   rcases hw with rfl|rfl|rfl;·exact⟨3,by cbv,by cbv,DE⟩
   ·exact⟨9,by cbv,by cbv,LF⟩
   ·exact⟨99,by cbv,by cbv,Q8⟩
  obtain⟨c,Ad,c99,hc'⟩:=hpr;rw[cP u8,hc',aO];refine gD (k:=k+3) hn hm hc m8 (by lia) Ad λQT k9 m9=>?_;have y0:=gP (ns:=ns) (k:=i'+1+1) (many:=c) (by lia);have y1:=iB (ns:=ns) (k:=i'+1+1) (many:=c) (by lia);generalize kU ns (i'+1+1) c=y at y0 y1;k_ne;have kk9:cE [m,lf,wl] aA QT:=(x7.keep.trans<|k8.mono<|by simp).trans (k9.mono<|by simp);have lf9:QT lf=some (.lst [.int (lv-gT (ws.map (·.2)))]):=k9 lf _ (by simpa using mlf.symm)<|k8 lf _ (by simpa using mlf.symm)<|x7 _ _ q4;have wl9:QT wl=some (.lst<|ws.map λw:Int×Sy=>.tup [.int w.1,toD w.2]):=k9 wl _ (by simpa using mwl.symm)<|k8 wl _ (by simpa using mwl.symm)<|x7 _ _ q6;lk;rw[aF wl9];refine⟨True.intro,?_⟩;refine tD (k:=k) hs hn hm hc fpos mlf 2 m9 lf9 (by lia) (by lia) λs Xn i10 o10' d10 c10 k10 hi10 m10 lf10=>?_;have wl10:=k10 wl _ (by simp [mwl.symm,lfwl.symm]) wl9;k_ne;rw[aF wl10];refine⟨by simp![af];lia,?_⟩;simp![aG];have ec:gT ((ws++[(1+y,s)]).map (·.2))=gT (ws.map (·.2))+cnt s:=by rw[eu,uE];simp [gT]
  refine hM _ _ ⟨j+1,_,_,i10,ws++[(1+y,s)],e4,rfl,?_,hi10,?_,?_,?_,?_,by simp [q7],by lia,λw' hw'=>?_⟩;·intro a o na e;simp![ba,bj,or_false,not_or]at na;rw[bS na.2.2];exact k10 a o (by simp [na])<|kk9 a o (by simp [na])<|q1 a o (by simp [na]) e
  ·rw[bS mwl];exact m10
  ·rw[bS lfwl,lf10,ec];simp;lia
  ·rw[ec];simp;lia
  ·rw[bE];simp
  ·rcases List.mem_append.mp hw' with hw'|hw';·exact q8 w' hw'
   ·simp![cu]at hw';subst hw';exact⟨by show 1<=1+y;lia,by show 1+y<=99;lia,o10',d10⟩
 ·-- fR
  subst e2;have hj:(1+v).toNat<=j:=by
   by_cases z:j<(b7 (1+v).toNat).length;·rw[fx z]at e1;cases e1
   ·simpa using z
  have hws:ws.length<=3:=by lia
  refine VN (k:=k) (inm:=inm) hp hs hn hm hc (by lia) fpos hdis mlf mwl lfwl hmu hmu3 q2 q3 q4 (by lia) q6 hws λps ms kS z8 z7 m3 y8 p3 z6 y6 z2=>?_;have w1:1<=ws.length:=by lia
  refine hQ ⟨fs,gs,ps,ms,ws⟩ kS ⟨⟨f1,f2,g1,g2,nd,hname,p3,λs eZ=>⟨(y8 s eZ).1,az (y8 s eZ).2.1<|by cbv⟩,λs eZ=>(y8 s eZ).2.2,m3,λs eZ=>⟨(z8 s eZ).1,az (z8 s eZ).2<|by cbv⟩,w1,az hws<|by cbv,λw hw=>⟨(q8 w hw).1,(q8 w hw).2.1,(q8 w hw).2.2.1,az (q8 w hw).2.2.2<|by cbv⟩⟩,λs eZ=>?_,z7,?_,n8⟩ λa o e=>?_
  ·simp![Bk.says,cz,kq]at eZ;rcases eZ with(eZ|eZ)|⟨w,hw,rfl⟩;·exact(y8 s eZ).2.1
   ·exact az (z8 s eZ).2<|by cbv
   ·exact az (q8 w hw).2.2.2<|by cbv
  ·show((gT (ps++ms++ws.map (·.2)):Nat):Int)<=pieces;rw[uE,uE];exact Xt y6 L1
  ·obtain⟨s1,s2,s3,s4⟩:=old5 a o e;have t6:=k6 a o (by simpa using s2) s1;exact z2 a o (by simp [s2,s3])<|q1 a o (by simp [s2,s3,s4]) t6
end
theorem TX {n:Nat}:∀(l:List Sy),(∀s∈l,aE s<=4)->lC l<=l.length*15|[],_=>by cbv|s::l,h=>by have h1:=DV s;have h2:=h s (by simp);have h3:=TX (n:=n) l λx hx=>h x (by simp [hx]);have h4:2 ^ aE s<=2 ^ 4:=iu (by cbv) h2;rw[CY];simp![ag];lia
theorem JL {names:List<|List Nat}{f:List Sy}{s:Sy}(hf:∀x∈f,over names x)(hs:over names s):∀x∈jE f s,over names x:=by
 unfold jE;split
 ·intro x hx;rcases List.mem_append.mp hx with hx|hx;·exact hf x hx
  simp_all
 ·exact hf
theorem xM {names:List<|List Nat}:∀(s:Sy){f:List Sy},(∀x∈f,over names x)->over names s->∀x∈oH s f,over names x|.yes,_,hf,_=>hf|.no,_,hf,_=>hf|.bF _,_,hf,_=>hf|.one w s,_,hf,hs=>xM s (JL hf hs) hs|.two w s t,_,hf,hs=>xM t (xM s (JL hf hs) hs.1) hs.2
theorem HN {names:List<|List Nat}:∀(l:List Sy){f:List Sy},(∀x∈f,over names x)->(∀s∈l,over names s)->∀x∈gW l f,over names x|[],_,hf,_=>hf|s::l,_,hf,hl=>HN l (xM s hf<|hl s<|by simp) λx hx=>hl x<|by simp [hx]
section
variable {G:Prog}{k il ibo ipl imb ilm inm ic im dQ is ipr ibk ich icp ist ie iw ipo iz irr iti io iri ima Ys iph inh ibp ip ih:Nat}{st:aB}{E:XK}{ns:List Int}
theorem WR {b:Bk}{pieces fR:Int}(DR:Og b pieces fR)(hp:pieces<=4):lC b.says<=200/\(∀x∈b.says,aE x<=60)/\(gW b.says []).length<=4/\∀s∈gW b.says [],over b.names s/\aE s<=8:=by
 have p1:=DR.ok.p1;have m1:=DR.ok.m1;have w2:=DR.ok.w2;have hl:b.says.length<=11:=by simp [Bk.says];lia
 refine⟨?_,λx hx=>by have:=DR.d4 x hx;lia,?_,λs hs=>⟨HN _ (by simp) (λs hs=>(PJ DR.ok s hs).1) s hs,NO _ (by simp) λx hx=>by have:=DR.d4 x hx;lia s hs⟩⟩;·have:=TX (n:=0) _ DR.d4;lia
 ·have:=N2 b.says [];have h2:=DR.cn;simp at this;lia
end
section
variable {G:Prog}{k bT bC:Nat}{Q:VK}{E:XK}
theorem iQ (h:G.fns bC=some (dH bT bC<|.cF dZ gX)){nm:D}{w:List Nat}{ps:List D}{st:aB}{d:Int}(f:D->Bool)(hd:1<=d)(hl:(w==W "lamp")=false)(hin:(dZ.any λx=>fJ x<|.str w)=true)(har:eO dZ gX (.str w)=some (.int ps.length))(hps:ps.length<=2) (hp:∀x∈ps,∀(aA:aB)(Q':VK)(E':XK),Ext st aA->(∀aV,Ext aA aV->Q' (.bl<|f x) aV)->aH G k bC [nm,x,.int<|d-1] aA Q' E')(hQ:∀aA,Ext st aA->Q (.bl<|ps.all f) aA):aH G (k+1) bC [nm,.tup<|.str w::ps,.int d] st Q E:=by
 have hL:aL=16777216:=rfl;rw[aK h];simp![dH,start];refine⟨rfl,?_⟩;lk;have n1:¬d<1:=by lia
 simp![if_neg n1];have n2:¬((ps.length+1:Nat):Int)<1:=by lia
 simp![ag,if_neg n2];k_ne;rw[aG];lk;simp![hl,aa,if_false];rw[aG];lk;rw[hin];simp![bf,aa,if_false];rw[har];show plainS st (.int<|1+(ps.length:Int))/\_;refine⟨⟨rfl,cg _⟩,?_⟩;have n3:¬(!bZ st (.int ((ps.length+1:Nat):Int)) (.int<|1+(ps.length:Int)))=true:=by have e:(((ps.length+1:Nat):Int)==1+(ps.length:Int))=true:=beq_iff_eq.mpr (by lia);simp![GJ,e,bf,aa,not_false_iff]
 rw[if_neg n3,aG];lk;refine comp_map (λx=>.bl<|f x) ps [] st (λaA x a ha=>by cases ha) (λx hx aA K x1 hK=>hp x hx aA _ _ x1 λaV x2=>hK aV x2) (by simp![ak];lia) λaA x1=>?_;rw[bh];refine bO (by simp![af];lia) λp aJ x2 hp' fQ=>?_;simp![dG];rw[aF fQ,pE];show Q (.bl<|(ps.map f).all id) _;have e:(ps.map f).all id=ps.all f:=by rw[je];rfl
 rw[e];exact hQ _<|x1.trans x2
theorem jY (h:G.fns bC=some (dH bT bC<|.cF dZ gX)){nm x:D}{st:aB}{d:Int}(hd:d<1)(hQ:Q (.bl false) st):aH G (k+1) bC [nm,x,.int d] st Q E:=by rw[aK h];simp![dH,start];lk;simp![if_pos hd];exact hQ
theorem rL (h:G.fns bC=some (dH bT bC<|.cF dZ gX)){nm x:D}{st:aB}{d:Int}(hx:∀P:Bool->Prop,P false->cV G.sub x st .tuple P)(hQ:Q (.bl false) st):aH G (k+1) bC [nm,x,.int d] st Q E:=by
 by_cases hd:d<1;·exact jY h hd hQ
 rw[aK h];simp![dH,start];lk;simp![if_neg hd];refine hx _ ?_;exact hQ
theorem EU (h:G.fns bC=some (dH bT bC<|.cF dZ gX)){nm y:D}{r:List D}{st:aB}{d:Int}(hx:∀P:Bool->Prop,P false->cV G.sub y st .str P)(hQ:Q (.bl false) st):aH G (k+1) bC [nm,.tup<|y::r,.int d] st Q E:=by
 by_cases hd:d<1;·exact jY h hd hQ
 rw[aK h];simp![dH,start];lk;simp![if_neg hd];refine hx _ ?_;exact hQ
theorem WX (h:G.fns bC=some (dH bT bC<|.cF dZ gX)){nm:D}{st:aB}{d:Int}(hQ:Q (.bl false) st):aH G (k+1) bC [nm,.tup [],.int d] st Q E:=by
 by_cases hd:d<1;·exact jY h hd hQ
 rw[aK h];simp![dH,start];lk;simp![if_neg hd];exact hQ
theorem DG {i:Nat}{nn lt lg x:D}(h:G.fns i=some (gO nn lt lg)){st:aB}(hx:∀P:Bool->Prop,P false->cV G.sub x st .str P)(hQ:Q (.bl false) st):aH G (k+1) i [x] st Q E:=by rw[aK h];refine⟨rfl,?_⟩;refine hx _ ?_;exact hQ
theorem QR (h:G.fns bC=some (dH bT bC<|.cF dZ gX)){nm:D}{r:List D}{st:aB}{d:Int}(hr:r.length≠1)(hQ:Q (.bl false) st):aH G (k+1) bC [nm,.tup<|.str (W "lamp")::r,.int d] st Q E:=by
 by_cases hd:d<1;·exact jY h hd hQ
 rw[aK h];simp![dH,start];lk;simp![if_neg hd];have n2:¬((r.length+1:Nat):Int)<1:=by lia
 simp![ag,if_neg n2];rw[aG];lk;lk;have n3:(((r.length+1:Nat):Int)==2)=false:=by rw[beq_eq_false_iff_ne];lia
 simp![ag,n3,aa];exact hQ
theorem FR (h:G.fns bC=some (dH bT bC<|.cF dZ gX)){nm x:D}{st:aB}{d:Int}(hx:∀(Q':VK)(E':XK)(bY:aB),Ext st bY->(∀b aA,Ext st aA->(b=true->ID x nm aA λb=>Q (.bl b) aA)->(b=false->Q (.bl false) aA)->Q' (.bl b) aA)->aH G (k+1) bT [x] bY Q' E')(hQ:Q (.bl false) st):aH G (k+1+1) bC [nm,.tup [.str<|W "lamp",x],.int d] st Q E:=by
 by_cases hd:d<1;·exact jY h hd hQ
 rw[aK h];simp![dH,start];lk;simp![if_neg hd];rw[if_neg<|by cbv];rw[aG];lk;simp![beq_self_eq_true];lk;rw[if_pos<|by cbv];refine hx _ _ st .refl λb aA x1 h1 h2=>?_;cases b with|true=>exact h1 rfl|false=>exact h2 rfl
theorem T5 (h:G.fns bC=some (dH bT bC<|.cF dZ gX)){nm:D}{w:List Nat}{r:List D}{st:aB}{d:Int}(hl:(w==W "lamp")=false)(hin:(dZ.any λx=>fJ x<|.str w)=false)(hQ:Q (.bl false) st):aH G (k+1) bC [nm,.tup<|.str w::r,.int d] st Q E:=by
 by_cases hd:d<1;·exact jY h hd hQ
 rw[aK h];simp![dH,start];lk;simp![if_neg hd];have n2:¬((r.length+1:Nat):Int)<1:=by lia
 simp![if_neg n2];rw[aG];lk;simp![hl,aa,if_false];rw[aG];lk;rw[hin];exact hQ
theorem U5 (h:G.fns bC=some (dH bT bC<|.cF dZ gX)){nm:D}{w:List Nat}{r:List D}{st:aB}{d m:Int}(hl:(w==W "lamp")=false)(hin:(dZ.any λx=>fJ x<|.str w)=true)(har:eO dZ gX (.str w)=some (.int m))(hm:(r.length:Int)≠m)(hQ:Q (.bl false) st):aH G (k+1) bC [nm,.tup<|.str w::r,.int d] st Q E:=by
 by_cases hd:d<1;·exact jY h hd hQ
 rw[aK h];simp![dH,start];lk;simp![if_neg hd];have n2:¬((r.length+1:Nat):Int)<1:=by lia
 simp![ag,if_neg n2];rw[aG];lk;simp![hl,aa,if_false];rw[aG];lk;rw[hin];rw[har];refine⟨⟨rfl,cg _⟩,?_⟩;have n3:(!bZ st (.int (r.length+1:Nat)) (.int<|1+m))=true:=by
  have e:((r.length+1:Nat)==1+m)=false:=by rw[beq_eq_false_iff_ne];lia
  simp![GJ,e,bu]
 rw[if_pos n3];exact hQ
end
abbrev xI (G:Prog)(bT:Nat):Prop:=G.fns bT=some (gO (.tup<|fS.map .str) (.str cZ)<|.int 8)
abbrev FK (G:Prog)(bT bC:Nat):Prop:=G.fns bC=some (dH bT bC<|.cF dZ gX)
section
variable {G:Prog}{bT bC:Nat}
theorem qb {Q:VK}{b b':Bool}{st:aB}(q:Q (.bl b) st)(e:b=b'):Q (.bl b') st:=e▸q
theorem rO:∀s:Sy,1<=aE s|.yes=>by cbv|.no=>by cbv|.bF _=>by simp [aE]|.one _ _=>by simp![aE];lia|.two _ _ _=>by simp![aE];lia
theorem UC (h:FK G bT bC)(hn:xI G bT){names:List<|List Nat}(dO:∀n∈names,bD n=true): ∀(s:Sy){k:Nat}{st:aB}{Q:VK}{E:XK}{d:Int},over names s->(∀aA,Ext st aA->Q (.bl<|decide<|(aE s:Int)<=d) aA)->aH G (k+aE s+1) bC [.tup<|names.map .str,toD s,.int d] st Q E:=by
 intro s;have low:∀(s:Sy){k:Nat}{st:aB}{Q:VK}{E:XK}{d:Int},d<1->(∀aA,Ext st aA->Q (.bl<|decide<|(aE s:Int)<=d) aA)->aH G (k+1) bC [.tup<|names.map .str,toD s,.int d] st Q E:=by intro s k st Q E d hd hQ;have q:=hQ st .refl;have e:decide ((aE s:Int)<=d)=false:=decide_eq_false (by have:=rO s;lia);rw[e]at q;exact jY h hd q
 induction s with|yes =>
  intro k st Q E d ho hQ;by_cases hd:d<1;·exact low _ hd hQ
  refine iQ h (λ_=>true) (by lia) (by cbv) (by cbv) rfl (by cbv) (λx hx=>by cases hx) λaA x=>?_;have:=hQ aA x;rw[decide_eq_true<|by simp![aE];lia]at this;exact this|no =>
  intro k st Q E d ho hQ;by_cases hd:d<1;·exact low _ hd hQ
  refine iQ h (λ_=>true) (by lia) (by cbv) (by cbv) rfl (by cbv) (λx hx=>by cases hx) λaA x=>?_;have:=hQ aA x;rw[decide_eq_true<|by simp![aE];lia]at this;exact this|bF n =>
  intro k st Q E d ho hQ;by_cases hd:d<1;·exact low _ hd hQ
  refine AB h hn dO ho (by lia) λaA x=>?_;have:=hQ aA x;rw[decide_eq_true<|by simp![aE];lia]at this;exact this|one w s ih =>
  intro k st Q E d ho hQ;by_cases hd:d<1;·exact low _ hd hQ
  have dd:aE (.one w s)=aE s+1:=by simp![aE]
  rw[dd];refine iQ (ps:=[toD s]) h (λ_=>decide<|(aE s:Int)<=d-1) (by lia) (by cases w<;>cbv) (by cases w<;>cbv) (by cases w<;>rfl) (by simp) (λx hx aA Q' E' x1 hQ'=>?_) λaA x=>?_;·simp![cu]at hx;subst hx;exact ih (k:=k) ho hQ'
  ·have:=hQ aA x;refine qb this ?_;rw[fc];simp![fm,ym,ky,decide_eq_true_eq];lia|two w s t ih1 ih2 =>
  intro k st Q E d ho hQ;by_cases hd:d<1;·exact low _ hd hQ
  have dd:aE (.two w s t)=max (aE s) (aE t)+1:=by simp![aE]
  rw[dd];have l1:=kh (aE s)<|aE t;have l2:=jy (aE s)<|aE t;refine iQ (ps:=[toD s,toD t]) h (λx=>decide<|(dN x:Int)<=d-1) (by lia) (by cases w<;>cbv) (by cases w<;>cbv) (by cases w<;>rfl) (by simp) (λx hx aA Q' E' x1 hQ'=>?_) λaA x=>?_
  ·simp![ba,bj,or_false]at hx;rcases hx with rfl|rfl
   ·have:=ih1 (k:=k+(max (aE s) (aE t)-aE s)) (st:=aA) (Q:=Q') (E:=E') (d:=d-1) ho.1 (by rw[iA]at hQ';exact hQ');have e:k+(max (aE s) (aE t)-aE s)+aE s+1=k+(max (aE s) (aE t)+1):=by lia
    rw[e]at this;exact this
   ·have:=ih2 (k:=k+(max (aE s) (aE t)-aE t)) (st:=aA) (Q:=Q') (E:=E') (d:=d-1) ho.2 (by rw[iA]at hQ';exact hQ');have e:k+(max (aE s) (aE t)-aE t)+aE t+1=k+(max (aE s) (aE t)+1):=by lia
    rw[e]at this;exact this
  ·have:=hQ aA x;refine qb this ?_;rw[fc];simp![fm,ym,ky,iA,ao,decide_eq_true_eq];lia
inductive lW (names:List<|List Nat)(st:aB):Nat->D->Prop where|non {n:Nat}:lW names st n .non|str {n:Nat}{x:List Nat}:lW names st n<|.str x|lst {n a:Nat}{ds:List D}(h:st a=some (.lst ds)):lW names st n<|.ref a|nil {n:Nat}:lW names st n<|.tup []|bl {n:Nat}{b:Bool}{ds:List D}:lW names st n<|.tup<|.bl b::ds|tt {n:Nat}{es ds:List D}:lW names st n<|.tup<|.tup es::ds|ln {n:Nat}{ds:List D}(h:ds.length≠1):lW names st n<|.tup<|.str (W "lamp")::ds|li {n:Nat}{i:Int}:lW names st n<|.tup [.str<|W "lamp",.int i]|ll {n a:Nat}{ds:List D}(h:st a=some (.lst ds)):lW names st n<|.tup [.str<|W "lamp",.ref a]|ls {n:Nat}{w:List Nat}(hl:w.length<=aL)(h:bD w=false\/w∉names):lW names st n<|.tup [.str<|W "lamp",.str w]|word {n:Nat}{w:List Nat}{ds:List D}(h:(w==W "lamp")=false)(h1:(dZ.any λx=>fJ x<|.str w)=false):lW names st n<|.tup<|.str w::ds|ar {n:Nat}{w:List Nat}{ds:List D}{m:Int}(h:(w==W "lamp")=false)(h1:(dZ.any λx=>fJ x<|.str w)=true)(h2:eO dZ gX (.str w)=some (.int m))(h3:(ds.length:Int)≠m):lW names st n<|.tup<|.str w::ds|part {n:Nat}{w:List Nat}{as bs:List D}{x:D}(h:(w==W "lamp")=false)(h1:(dZ.any λx=>fJ x<|.str w)=true)(h2:eO dZ gX (.str w)=some (.int (as++x::bs).length))(h3:(as++x::bs).length<=2) (hx:lW names st n x)(hr:∀y∈as++bs,∃s,y=toD s/\over names s/\aE s<=n):lW names st (n+1)<|.tup<|.str w::(as++x::bs)
theorem lW.ext {names:List<|List Nat}{st aA:aB}(e:Ext st aA){n:Nat}{d:D}(h:lW names st n d):lW names aA n d:=by induction h with|non=>exact .non|str=>exact .str|lst h=>exact .lst<|e _ _ h|nil=>exact .nil|bl=>exact .bl|tt=>exact .tt|ln h=>exact .ln h|li=>exact .li|ll h=>exact .ll<|e _ _ h|ls hl h=>exact .ls hl h|word h h1=>exact .word h h1|ar h h1 h2 h3=>exact .ar h h1 h2 h3|part h h1 h2 h3 _ hr ih=>exact .part h h1 h2 h3 ih hr
theorem Md (st:aB)(names:List<|List Nat)(n:List Nat)(h:n∉names):((names.map D.str).any λd=>bZ st d<|.str n)=false:=by rw[qo,p8];intro m hm;show ¬(m==n)=true;intro z;rw[beq_iff_eq]at z;exact h<|z▸hm
theorem GP {k:Nat}{ds:List D}{st:aB}{Q:VK}{E:XK}{f:Nat}(h:aH G k f ds st Q E):aH G (k+1) f ds st Q E:=fU G (zo k) f ds st _ _ _ _ (λ_ _ z=>z) (λ_ _ z=>z) h
open Classical in
theorem BH (h:FK G bT bC)(hn:xI G bT){names:List<|List Nat}(dO:∀n∈names,bD n=true):∀(n:Nat){x:D}{k:Nat}{st:aB}{Q:VK}{E:XK}{d:Int},lW names st n x->(∀aA,Ext st aA->Q (.bl false) aA) -> aH G (k+n+2) bC [.tup<|names.map .str,x,.int d] st Q E:=by intro n;induction n with
 |zero =>intro x k st Q E d hx hQ;have q:=hQ st .refl;cases hx with
  |non=>exact rL h (λP p=>by simpa only[cV]using p) q|str=>exact rL h (λP p=>by simpa only[cV]using p) q|lst e=>exact rL h (λP p=>by simp![cV,eD,e];exact p) q|nil=>exact WX h q|bl=>exact EU h (λP p=>by simpa only[cV]using p) q|tt=>exact EU h (λP p=>by simpa only[cV]using p) q|ln e=>exact QR h e q|li=>exact FR h (λQ' E' bY x0 k'=>DG hn (λP p=>by simpa only[cV]using p)<|k' false _ x0 (λz=>nomatch z) λ_=>hQ _ x0) q|ll e=>exact FR h (λQ' E' bY x0 k'=>DG hn (λP p=>by simp![cV,eD,x0 _ _ e];exact p)<|k' false _ x0 (λz=>nomatch z) λ_=>hQ _ x0) q
  |@ls _ w hl e=>exact FR h (λQ' E' bY x0 k'=>qZ hn hl λaA x'=>k' _ _ (x0.trans x') (λz=>by
    have e:w∉names:=by
     rcases e with e|e;·rw[e]at z;cases z
     ·exact e
    show _/\_/\_;refine⟨nI,kL aA names,?_⟩;rw[Md aA names w e];exact hQ _<|x0.trans x') λ_=>hQ _<|x0.trans x') q|word e e1=>exact T5 h e e1 q|ar e e1 e2 e3=>exact U5 h e e1 e2 e3 q
 |succ n ih =>intro x k st Q E d hx hQ;have q:=hQ st .refl;cases hx with|non=>exact rL h (λP p=>by simpa only[cV]using p) q|str=>exact rL h (λP p=>by simpa only[cV]using p) q|lst e=>exact rL h (λP p=>by simp![cV,eD,e];exact p) q|nil=>exact WX h q|bl=>exact EU h (λP p=>by simpa only[cV]using p) q|tt=>exact EU h (λP p=>by simpa only[cV]using p) q|ln e=>exact QR h e q|li=>exact GP<|ih .li hQ|ll e=>exact GP<|ih (.ll e) hQ|ls hl e=>exact GP<|ih (.ls hl e) hQ|word e e1=>exact T5 h e e1 q|ar e e1 e2 e3=>exact U5 h e e1 e2 e3 q|@part _ w as bs x e e1 e2 e3 hx hr =>
   by_cases hd:d<1;·exact jY h hd q
   refine iQ (k:=k+n+2) h (λy=>if lW names st n y then false else decide<|(dN y:Int)<=d-1) (by lia) e e1 e2 e3 (λy hy aA Q' E' x1 hQ'=>?_) λaA x1=>?_
   ·by_cases z:lW names st n y;·simp![if_pos z]at hQ';exact ih (z.ext x1) hQ'
    ·simp![if_neg z]at hQ';have hy':y∈as++bs:=by
      simp![cz,ba]at hy ⊢;rcases hy with hy|rfl|hy;·exact .inl hy
      ·exact absurd hx z
      ·exact .inr hy
     obtain⟨s,rfl,ho,hdp⟩:=hr y hy';rw[iA]at hQ';have:=UC h hn dO s (k:=k+(n-aE s)+1) (st:=aA) (Q:=Q') (E:=E') (d:=d-1) ho hQ';have e:k+(n-aE s)+1+aE s+1=k+n+2:=by lia
     rw[e]at this;exact this
   ·have ea:((as++x::bs).all λy=>if lW names st n y then false else decide<|(dN y:Int)<=d-1)=false:=by rw[List.all_eq_false];exact⟨x,by simp,by simp [hx]⟩
    rw[ea];exact hQ _ x1
end
noncomputable def Wd (bC:Nat)(d8:D):Fn:=⟨2,2,[.ret<|.call bC [.v 0,.v 1,.c d8]]⟩
noncomputable def sY (i:Nat):Fn:=⟨1,1,[.iff (.cmp .in_ (.ix (.v 0)<|.c<|.int 0)<|.tup [.c<|.str<|W "lamp",.c<|.str<|W "yes",.c<|.str<|W "no"]) [.ret<|.c<|.int 1] [],.ret<|.bin .add (.c<|.int 1)<|.bi .max [.comp 1 [] [0] true none [.sl (.v 0) [.c<|.int 1] []] []<|.call i [.v 0]]]⟩
section
variable {G:Prog}{k bT bC iy ic ir i iw:Nat}{st:aB}{Q:VK}{E:XK}{nm x:D}
theorem II (s:Sy):(wd s==W "lamp" || (wd s==W "yes" || wd s==W "no"))=(subs s).isEmpty:=by cases s with|one w s=>cases w<;>(simp![wd,subs,sk];x_go)|two w s t=>cases w<;>(simp![wd,subs,sk];x_go)|_=>rfl
theorem Ux (st:aB)(w:List Nat):(List.any [D.str<|W "lamp",.str<|W "yes",.str<|W "no"] λd=>bZ st d<|.str w)=(w==W "lamp" || (w==W "yes" || w==W "no")):=by simp![i7,tj,jN,ek];rw[wt,wt (a:=W _),wt (a:=W _)]
theorem Up (st:aB):fD st [D.str<|W "lamp",.str<|W "yes",.str<|W "no"]:=⟨rfl,by cbv⟩
theorem Df (hd:G.fns i=some (sY i)):∀(s:Sy){k:Nat}{st:aB}{Q:VK}{E:XK},(∀aA,Ext st aA->Q (.int<|aE s) aA)->aH G (k+aE s) i [toD s] st Q E:=by
 have hL:aL=16777216:=rfl;have atom:∀(s:Sy){k:Nat}{st:aB}{Q:VK}{E:XK},subs s=[]->Q (.int 1) st->aH G (k+1) i [toD s] st Q E:=by intro s k st Q E hs hQ;rw[aK hd];simp only[sY,start];refine⟨rfl,?_⟩;obtain⟨r,er⟩:=DH s;lk;rw[er];k_ne;refine⟨Up st,?_⟩;rw[Ux,II,hs];simp only[xk,if_true];lk;exact hQ
 have more:∀(s:Sy){k:Nat}{st:aB}{Q:VK}{E:XK},subs s≠[]->(∀t∈subs s,∀(aA:aB)(Q':VK)(E':XK),(∀aV,Ext aA aV->Q' (.int<|aE t) aV)->aH G k i [toD t] aA Q' E')->(∀aA,Ext st aA->Q (.int<|aE s) aA)->aH G (k+1) i [toD s] st Q E:=by
  intro s k st Q E hs hp hQ;rw[aK hd];simp only[sY,start];refine⟨rfl,?_⟩;have hl:sU s=false:=by cases s<;>first|rfl|exact absurd rfl hs
  lk;rw[MC hl];k_ne;refine⟨Up st,?_⟩;rw[Ux,II];have hne:(subs s).isEmpty=false:=by cases h:subs s with|nil=>exact absurd h hs|cons _ _=>rfl
  rw[hne];simp only[aa,if_false];rw[aG];lk;have hlen:(subs s).length<=2:=by cases s<;>simp [subs]
  refine comp_map (λd=>.int<|dN d) ((subs s).map toD) [] st (λaA x a ha=>by cases ha) (λx hx aA K x1 hK=>?_) (by simp only[ak,af];omega) λaA x1=>?_;·obtain⟨t,ht,rfl⟩:=List.mem_map.mp hx;refine hp t ht aA _ _ λaV x2=>?_;have:=hK aV x2;rw[iA]at this;exact this
  ·rw[bh];refine bO (by simp only[af];omega) λp aJ x2 hp' fQ=>?_;simp only[dG];rw[aF fQ];simp only[eS];rw[DX];cases s with
   |one w t =>
    simp only[subs,aw,ow,aO,zP,iA];k_ne;have:=hQ _<|x1.trans x2;have e:(1:Int)+(aE t:Int)=(aE (.one w t):Int):=by simp only[aE];omega
    rw[e];exact this|two w t u =>
    simp only[subs,aw,ow,aO,zP,iA];k_ne;have:=hQ _<|x1.trans x2;have e:(1:Int)+(if(aE u:Int)>(aE t:Int)then(aE u:Int)else(aE t:Int))=(aE (.two w t u):Int):=by simp only[aE];split<;>omega
    rw[e];exact this|yes=>exact absurd rfl hs|no=>exact absurd rfl hs|bF n=>exact absurd rfl hs
 intro s;induction s with|yes=>intro k st Q E hQ;exact atom .yes rfl<|hQ st .refl|no=>intro k st Q E hQ;exact atom .no rfl<|hQ st .refl|bF n=>intro k st Q E hQ;exact atom (.bF n) rfl<|hQ st .refl|one w s ih =>
  intro k st Q E hQ;have e:k+aE (.one w s)=k+aE s+1:=by simp only[aE];omega
  rw[e];refine more (.one w s) (by simp [subs]) (λt ht aA Q' E' hQ'=>?_) hQ;simp only[subs,cu]at ht;subst ht;exact ih hQ'|two w s t ih1 ih2 =>
  intro k st Q E hQ;have l1:=kh (aE s)<|aE t;have l2:=jy (aE s)<|aE t;have e:k+aE (.two w s t)=k+max (aE s) (aE t)+1:=by simp only[aE];omega
  rw[e];refine more (.two w s t) (by simp [subs]) (λu hu aA Q' E' hQ'=>?_) hQ;simp only[subs,ba,bj,or_false]at hu;rcases hu with rfl|rfl
  ·have:=ih1 (k:=k+(max (aE u) (aE t)-aE u)) (st:=aA) (Q:=Q') (E:=E') hQ';have e:k+(max (aE u) (aE t)-aE u)+aE u=k+max (aE u) (aE t):=by omega
   rw[e]at this;exact this
  ·have:=ih2 (k:=k+(max (aE s) (aE u)-aE u)) (st:=aA) (Q:=Q') (E:=E') hQ';have e:k+(max (aE s) (aE u)-aE u)+aE u=k+max (aE s) (aE u):=by omega
   rw[e]at this;exact this
end
theorem wG:∀a b:List D,bK (a++b)=(bK a&&bK b)|[],b=>rfl|d::a,b=>by simp![d7,bK,wG a b,zu]
theorem zV:∀a b:List D,cN (a++b)=max (cN a) (cN b)|[],b=>rfl|d::a,b=>(congrArg (max _)<|zV a b).trans (Nat.max_assoc ..).symm
theorem fB {G:Prog}{j k:Nat}(h:j<=k){f:Nat}{ds:List D}{st:aB}{Q:VK}{E:XK}(w:aH G j f ds st Q E):aH G k f ds st Q E:=fU G h f ds st _ _ _ _ (λ_ _ z=>z) (λ_ _ z=>z) w
noncomputable def pR (c:Nat):Bool:=occurs [c] cZ
noncomputable def bN (s:List Nat):List Nat:=s.takeWhile pR
noncomputable def fE (s:List Nat):List Nat:=s.dropWhile pR
inductive Py where |bF (w:List Nat)|nul (w:List Nat)|one (w:List Nat)(t:Py)|two (w:List Nat)(a b:Py)
noncomputable def pD:Py->D|.bF w=>.tup [.str<|W "lamp",.str w]|.nul w=>.tup [.str w]|.one w t=>.tup [.str w,pD t]|.two w a b=>.tup [.str w,pD a,pD b]
noncomputable def gU (w:List Nat):Bool:=w==W "yes" || w==W "no"
noncomputable def fM (w:List Nat):Bool:=w==W "not" || w==W "before" || w==W "once" || w==W "sofar"
noncomputable def lU (w:List Nat):Bool:=w==W "and" || w==W "or" || w==W "then" || w==W "same" || w==W "since"
noncomputable def past (c:Nat):List Nat->Option (List Nat)|x::s=>if x=c then some s else none|[]=>none
noncomputable def pN:Nat->List Nat->Option (Py×List Nat)|0,_=>none|d+1,s=>match past 40 s with|some s1=>(pN d s1).bind λp=>(past 32 p.2).bind λs3=>(past 32<|fE s3).bind λs5=>(pN d s5).bind λq=>(past 41 q.2).map λs7=>(.two (bN s3) p.1 q.1,s7)|none=>if gU (bN s)=true then some (.nul<|bN s,fE s)else if fM (bN s)=true then(past 32<|fE s).bind λs2=>(pN d s2).map λp=>(.one (bN s) p.1,p.2)else some (.bF<|bN s,fE s)
noncomputable def pL (names:List<|List Nat):Nat->List Nat->Option (Py×List Nat)|0,_=>none|f+1,s=>match past 40 s with|some s1=>(pL names f s1).bind λp=>(past 32 p.2).bind λs3=>if lU (bN s3)=true then(past 32<|fE s3).bind λs5=>(pL names f s5).bind λq=>(past 41 q.2).map λs7=>(.two (bN s3) p.1 q.1,s7)else none|none=>if fM (bN s)=true/\(past 32<|fE s).isSome=true then(past 32<|fE s).bind λs2=>(pL names f s2).map λp=>(.one (bN s) p.1,p.2)else if gU (bN s)=true then some (.nul<|bN s,fE s)else if bN s∈names then some (.bF<|bN s,fE s)else none
noncomputable def deep:Py->Nat|.one _ t=>deep t+1|.two _ a b=>max (deep a) (deep b)+1|_=>1
noncomputable def fK (names:List<|List Nat):Py->Bool|.bF w=>decide<|w∈names|.nul _=>true|.one _ t=>fK names t|.two w a b=>lU w&&(fK names a&&fK names b)
def kQ:Py->Prop|.bF w=>gU w=false/\fM w=false|.nul w=>gU w=true|.one w t=>fM w=true/\kQ t|.two _ a b=>kQ a/\kQ b
theorem XO (x:Py):1<=deep x:=by cases x<;>simp![deep]<;>lia
set_option tactic.hygienic true in
theorem rN:∀(d:Nat){s r:List Nat}{x:Py},pN d s=some (x,r)->deep x<=d/\kQ x
 |0,_,_,_,h=>by simp [pN]at h|d+1,s,r,x,h=>by
  unfold pN at h;split at h;·simp![bb,ay]at h;obtain⟨⟨a,s2⟩,h1,s3,h2,s5,h3,⟨b,s6⟩,h4,s7,h5,rfl,rfl⟩:=h;have i1:=rN d h1;have i2:=rN d h4;refine⟨?_,i1.2,i2.2⟩;simp![deep];lia
  ·split at h;·rename_i h1;cases h;exact⟨by simp![deep];lia,h1⟩
   ·rename_i h1;split at h;·rename_i h2;simp![bb,ay]at h;obtain⟨s2,h3,⟨a,s4⟩,h4,rfl,rfl⟩:=h;have i1:=rN d h4;refine⟨?_,h2,i1.2⟩;simp![deep];lia
    ·cases h;exact⟨by simp![deep];lia,by simp_all,by simp_all⟩
set_option tactic.hygienic true in
theorem KL {names:List<|List Nat}:∀(d f:Nat){s r:List Nat}{x:Py},d<=f->pN d s=some (x,r)->fK names x=true->pL names f s=some (x,r)
 |0,_,_,_,_,_,h,_=>by simp [pN]at h|d+1,0,_,_,_,l,_,_=>by lia|d+1,f+1,s,r,x,l,h,ok=>by
  have l':d<=f:=by lia
  unfold pN at h;unfold pL;cases e:past 40 s with|some s1 =>simp![e]at h;simp![bb,ay,gx]at h;obtain⟨⟨a,s2⟩,h1,s3,h2,s5,h3,⟨b,s6⟩,h4,s7,h5,rfl,rfl⟩:=h;simp![fK,ao]at ok;simp![e,KL d f l' h1 ok.2.1,bg,h2,ok.1,if_true,h3,KL d f l' h4 ok.2.2,h5,gz]|none =>
   simp![e]at h;split at h
   ·rename_i h1;cases h;have n1:fM (bN s)=false:=by unfold gU at h1;simp![b9,beq_iff_eq]at h1;rcases h1 with h1|h1<;>rw[h1]<;>cbv
    rw[if_neg<|by rw[n1];simp,if_pos h1]
   ·rename_i h1;split at h;·rename_i h2;simp![bb,ay,gx]at h;obtain⟨s2,h3,⟨a,s4⟩,h4,rfl,rfl⟩:=h;rw[if_pos ⟨h2,by rw[h3];rfl⟩];simp![h3,bg,KL d f l' h4 ok,gz]
    ·rename_i h2;cases h;simp![fK,decide_eq_true_eq]at ok;simp_all
set_option tactic.hygienic true in
theorem KN {names:List<|List Nat}(hn:∀n∈names,gU n=false/\fM n=false):∀(f d:Nat){s r:List Nat}{x:Py},pL names f s=some (x,r)->deep x<=d->pN d s=some (x,r)/\fK names x=true|0,_,_,_,_,h,_=>by simp [pL]at h|f+1,0,s,r,x,h,l=>by have:=XO x;lia|f+1,d+1,s,r,x,h,l=>by unfold pL at h;unfold pN;cases e:past 40 s with
  |some s1 =>
   simp![e]at h;simp![bb]at h;obtain⟨⟨a,s2⟩,h1,s3,h2,h⟩:=h;split at h;·rename_i ht;simp![bb,ay,gx]at h;obtain⟨s5,h3,⟨b,s6⟩,h4,s7,h5,rfl,rfl⟩:=h;simp![deep]at l;obtain⟨i1,o1⟩:=KN hn f d h1 (by lia);obtain⟨i2,o2⟩:=KN hn f d h4 (by lia);dsimp only at h2 h3 h5;simp![e,i1,bg,h2,h3,i2,h5,gz,fK,ht,o1,o2,fu,and_self]
   ·cases h|none =>
   simp![e]at h;split at h
   ·rename_i h1;simp![bb,ay,gx]at h;obtain⟨s2,h3,⟨a,s4⟩,h4,rfl,rfl⟩:=h;simp![deep]at l;obtain⟨i1,o1⟩:=KN hn f d h4 (by lia);have n1:¬gU (bN s)=true:=by unfold fM at h1;simp![b9,beq_iff_eq]at h1;rcases h1 with((h1|h1)|h1)|h1<;>rw[h1]<;>cbv
    rw[if_neg n1,if_pos h1.1];simp![h3,bg,i1,gz,fK,o1,and_self]
   ·split at h;·rename_i h2;cases h;rw[if_pos h2];exact⟨rfl,rfl⟩
    ·rename_i h2;split at h;·rename_i h3;cases h;have:=hn _ h3;rw[if_neg h2,if_neg<|by rw[this.2];simp];exact⟨rfl,by simpa [fK]using h3⟩
     ·cases h
noncomputable def sgn:List Nat->Nat|[]=>0|c::s=>(if c=40\/c=32 then 1 else 0)+sgn s
theorem AV {c:Nat}(hc:c=40\/c=32){s s':List Nat}(h:past c s=some s'):sgn s'+1=sgn s:=by cases s with|nil=>simp [past]at h|cons x s =>
 simp![past]at h;by_cases e:x=c;·rw[if_pos e]at h;cases h;subst e;simp![sgn,if_pos hc];lia
 ·simp_all
theorem rV {c:Nat}{s s':List Nat}(h:past c s=some s'):sgn s'<=sgn s:=by cases s with|nil=>simp [past]at h|cons x s =>
 simp![past]at h;by_cases e:x=c;·rw[if_pos e]at h;cases h;simp![sgn];lia
 ·simp_all
theorem A8 (s:List Nat):sgn (fE s)<=sgn s:=by induction s with|nil=>simp [fE]|cons x s ih =>
 unfold fE at ih ⊢;rw[kl];split;·simp![sgn];lia
 ·exact av _
set_option tactic.hygienic true in
theorem KU {names:List<|List Nat}:∀(f:Nat){s r:List Nat}{x:Py},pL names f s=some (x,r)->sgn r<=sgn s
 |0,_,_,_,h=>by simp [pL]at h|f+1,s,r,x,h=>by
  unfold pL at h;split at h
  ·rename_i s1 e;simp![bb]at h;obtain⟨⟨a,s2⟩,h1,s3,h2,h⟩:=h;split at h;·simp![bb,ay,gx]at h;obtain⟨s5,h3,⟨b,s6⟩,h4,s7,h5,rfl,rfl⟩:=h;have j0:=rV e;have j1:=KU f h1;have j2:=rV h2;have j3:=rV h3;have j4:=KU f h4;have j5:=rV h5;have j6:=A8 s3;dsimp only at j2 j5;lia
   ·cases h
  ·split at h;·simp![bb,ay,gx]at h;obtain⟨s2,h3,⟨a,s4⟩,h4,rfl,rfl⟩:=h;have j3:=rV h3;have j4:=KU f h4;have j6:=A8 s;dsimp only;lia
   ·split at h;·cases h;exact A8 s
    ·split at h;·cases h;exact A8 s
     ·cases h
theorem nP (a b:List Nat):sgn (a++b)=sgn a+sgn b:=by induction a with|nil=>simp [sgn]|cons x a ih=>simp![d7,sgn];lia
theorem O4 (n:Nat)(s:List Nat):sgn (s.drop n)<=sgn s:=by
 have:sgn (s.take n++s.drop n)=sgn s:=by simp_all
 rw[nP]at this;lia
noncomputable def tx:Sy->List Nat|.yes=>W "yes"|.no=>W "no"|.bF n=>n|.one w s=>c1 w++32::tx s|.two w s t=>40::(tx s++32::(c2 w++32::(tx t++[41])))
noncomputable def py:Sy->Py|.yes=>.nul<|W "yes"|.no=>.nul<|W "no"|.bF n=>.bF n|.one w s=>.one (c1 w)<|py s|.two w s t=>.two (c2 w) (py s)<|py t
theorem nL:∀s:Sy,pD (py s)=toD s|.yes=>rfl|.no=>rfl|.bF n=>rfl|.one w s=>by simp![py,pD,toD,nL s]|.two w s t=>by simp![py,pD,toD,nL s,nL t]
theorem uJ {names:List<|List Nat}:∀{s:Sy},over names s->fK names (py s)=true|.yes,_=>rfl|.no,_=>rfl|.bF n,h=>by simpa [py,fK,over]using h|.one w s,h=>by exact uJ (s:=s) h|.two w s t,h=>by simp![py,fK,uJ h.1,uJ h.2];cases w<;>cbv
theorem HC {c:Nat}{s:List Nat}:past c (c::s)=some s:=by simp [past]
theorem uS {w r:List Nat}(hw:w.all pR=true)(hr:∀c s,r=c::s->pR c=false):bN (w++r)=w/\fE (w++r)=r:=by induction w with
 |nil =>cases r with|nil=>exact⟨rfl,rfl⟩|cons c s =>have:=hr c s rfl;unfold bN fE;rw[bh,gw,kl,this];exact⟨rfl,rfl⟩
 |cons x w ih =>simp![fm,ao]at hw;obtain⟨i1,i2⟩:=ih hw.2;simp![bN,fE]at i1 i2 ⊢;rw[d7,gw,kl,hw.1];exact⟨by simp [i1],by assumption⟩
theorem iS {n:List Nat}(h:bD n=true):n.all pR=true/\1<=n.length/\n.length<=8/\gU n=false/\fM n=false:=by
 unfold bD at h;simp![ao,decide_eq_true_eq]at h;obtain⟨⟨⟨h1,h2⟩,h3⟩,h4⟩:=h;refine⟨h4,h2,h3,?_,?_⟩;·cases e:gU n with|false=>rfl|true =>unfold gU at e;simp![b9,beq_iff_eq]at e;rcases e with e|e<;>subst e<;>exact absurd h1<|by cbv
 ·cases e:fM n with|false=>rfl|true =>unfold fM at e;simp![b9,beq_iff_eq]at e;rcases e with((e|e)|e)|e<;>subst e<;>exact absurd h1<|by cbv
theorem E6 {c:Nat}{w r:List Nat}(hc:pR c=false)(hw:w.all pR=true)(hl:1<=w.length):past c (w++r)=none:=by cases w with|nil=>simp at hl|cons x w =>simp![d7,past];rw[if_neg λz=>by simp_all]
theorem KI {names:List<|List Nat}(hn:∀n∈names,bD n=true):∀(s:Sy){d:Nat}{r:List Nat},over names s->aE s<=d->(∀c t,r=c::t->pR c=false)->pN d (tx s++r)=some (py s,r)
 |s,0,_,_,l,_=>by have:=rO s;lia|.yes,d+1,r,_,_,hr=>by obtain⟨e1,e2⟩:=uS (w:=W "yes") (r:=r) (by cbv) hr;unfold pN;simp![tx,E6 (c:=40) (w:=W "yes") (r:=r) (by cbv) (by cbv)<|by cbv,e1,e2,py];rw[if_pos<|by cbv]|.no,d+1,r,_,_,hr=>by obtain⟨e1,e2⟩:=uS (w:=W "no") (r:=r) (by cbv) hr;unfold pN;simp![tx,E6 (c:=40) (w:=W "no") (r:=r) (by cbv) (by cbv)<|by cbv,e1,e2,py];rw[if_pos<|by cbv]|.bF n,d+1,r,ho,_,hr=>by obtain⟨a1,a2,a3,a4,a5⟩:=iS<|hn n ho;obtain⟨e1,e2⟩:=uS (w:=n) (r:=r) a1 hr;unfold pN;simp![tx,E6 (c:=40) (w:=n) (r:=r) (by cbv) a1 a2,e1,e2,py];rw[if_neg<|by rw[a4];simp,if_neg<|by rw[a5];simp]|.one w s,d+1,r,ho,l,hr=>by
  simp![aE]at l;have ih:=KI hn s (d:=d) (r:=r) ho (by lia) hr;have e:tx (.one w s)++r=c1 w++32::(tx s++r):=by simp![tx,jd,d7]
  obtain⟨e1,e2⟩:=uS (w:=c1 w) (r:=32::(tx s++r)) (by cases w<;>cbv) (λc t z=>by cases z;cbv);unfold pN;simp![e,E6 (c:=40) (w:=c1 w) (r:=32::(tx s++r)) (by cbv) (by cases w<;>cbv)<|by cases w<;>cbv,e1,e2,py,HC,bg,ih,gz];rw[if_neg<|by cases w<;>cbv,if_pos<|by cases w<;>cbv]|.two w s t,d+1,r,ho,l,hr=>by
  simp![aE]at l;have ih1:=KI hn s (d:=d) (r:=32::(c2 w++32::(tx t++41::r))) ho.1 (by lia) (λc t z=>by cases z;cbv);have ih2:=KI hn t (d:=d) (r:=41::r) ho.2 (by lia) (λc t z=>by cases z;cbv);have e:tx (.two w s t)++r=40::(tx s++32::(c2 w++32::(tx t++41::r))):=by simp![tx,jd,d7,bh]
  obtain⟨e1,e2⟩:=uS (w:=c2 w) (r:=32::(tx t++41::r)) (by cases w<;>cbv) (λc t z=>by cases z;cbv);unfold pN;simp![e,HC,ih1,bg,e1,e2,ih2,gz,py]
noncomputable def JD:Nat->Nat|0=>0|n+1=>20+2*JD n
theorem zS {names:List<|List Nat}(hn:∀n∈names,bD n=true):∀(s:Sy){d:Nat},over names s->aE s<=d->(tx s).length<=JD d
 |s,0,_,l=>by have:=rO s;lia|.yes,d+1,_,_=>by simp![tx,JD,show(W "yes").length=3 from rfl];lia|.no,d+1,_,_=>by simp![tx,JD,show(W "no").length=2 from rfl];lia|.bF n,d+1,ho,_=>by have:=(iS<|hn n ho).2.2.1;simp![tx,JD];lia|.one w s,d+1,ho,l=>by
  simp![aE]at l;have:=zS hn s (d:=d) ho (by lia);have c:(c1 w).length<=6:=by cases w<;>cbv
  simp![tx,JD,ah,ag];lia|.two w s t,d+1,ho,l=>by
  simp![aE]at l;have:=zS hn s (d:=d) ho.1 (by lia);have:=zS hn t (d:=d) ho.2 (by lia);have c:(c2 w).length<=6:=by cases w<;>cbv
  simp![tx,JD,ah,ag,ak];lia
noncomputable def WV:Nat->Nat|0=>0|1=>0|n+1=>3+2*WV n
theorem E1 {w:List Nat}(h:w.all pR=true):sgn w=0:=by induction w with|nil=>rfl|cons x w ih =>simp![fm,ao]at h;simp![sgn,ih h.2];rw[if_neg];rintro(z|z)<;>rw[z]at h<;>exact absurd h.1<|by cbv
theorem K0 {names:List<|List Nat}(hn:∀n∈names,bD n=true):∀(s:Sy){d:Nat},over names s->aE s<=d->sgn (tx s)<=WV d
 |s,0,_,l=>by have:=rO s;lia|.yes,d+1,_,_=>by rw[show sgn (tx .yes)=0 from rfl];exact cg _|.no,d+1,_,_=>by rw[show sgn (tx .no)=0 from rfl];exact cg _|.bF n,d+1,ho,_=>by simp![tx];rw[E1 (iS<|hn n ho).1];exact cg _|.one w s,1,ho,l=>by simp![aE]at l;have:=rO s;lia|.two w s t,1,ho,l=>by simp![aE]at l;have:=rO s;lia|.one w s,d+2,ho,l=>by
  simp![aE]at l;have:=K0 hn s (d:=d+1) ho (by lia);have c:sgn (c1 w)=0:=by cases w<;>rfl
  simp![tx,WV,nP,sgn,c];simp;lia|.two w s t,d+2,ho,l=>by
  simp![aE]at l;have:=K0 hn s (d:=d+1) ho.1 (by lia);have:=K0 hn t (d:=d+1) ho.2 (by lia);have c:sgn (c2 w)=0:=by cases w<;>rfl
  simp![tx,WV,nP,sgn,c];simp;lia
noncomputable abbrev nA (T:List Nat)(i:Nat):List<|List Nat×D:=[(W "text", .str T),(W "at", .int (i:Nat))]
def Rd (st:aB)(r:Nat)(T:List Nat)(i:Nat):Prop:=st r=some (.ins (W "Reader")<|nA T i)
noncomputable def AF:Fn:=⟨2,2,[.asg (.fl (W "Reader") (W "text")<|.v 0)<|.v 1,.asg (.fl (W "Reader") (W "at")<|.v 0)<|.c<|.int 0]⟩
noncomputable def DP:Fn:=⟨2,2,[.iff (.not_<|.bP .startswith (.fld (W "Reader") (W "text")<|.v 0) [.v 1,.fld (W "Reader") (W "at")<|.v 0]) [.ret<|.c<|.bl false] [],.asg (.fl (W "Reader") (W "at")<|.v 0)<|.bin .add (.fld (W "Reader") (W "at")<|.v 0)<|.c<|.int 1,.ret<|.c<|.bl true]⟩
noncomputable def DQ (ig:Nat):Fn:=⟨2,2,[.iff (.not_<|.mcl (W "Reader") (W "goes_past") ig (.v 0) [.v 1]) [.rais 3 [.c<|.str<|W "another sign was asked for"]] []]⟩
noncomputable def DM (lt:D):Fn:=⟨1,2,[.asg (.nm 1)<|.fld (W "Reader") (W "at")<|.v 0,.whl (.and_ (.cmp .lt (.fld (W "Reader") (W "at")<|.v 0)<|.bi .len [.fld (W "Reader") (W "text")<|.v 0])<|.cmp .in_ (.ix (.fld (W "Reader") (W "text")<|.v 0)<|.fld (W "Reader") (W "at")<|.v 0)<|.c lt) [.asg (.fl (W "Reader") (W "at")<|.v 0)<|.bin .add (.fld (W "Reader") (W "at")<|.v 0)<|.c<|.int 1],.ret<|.sl (.fld (W "Reader") (W "text")<|.v 0) [.v 1] [.fld (W "Reader") (W "at")<|.v 0]]⟩
noncomputable def G3 (ins ine iwo:Nat):Fn:=⟨2,5,[.asg (.nm 2)<|.callx ins [.v 0,.v 1],.ex<|.mclx (W "Reader") (W "needs") ine (.v 0) [.c<|.str<|W " "],.asg (.nm 3)<|.mcl (W "Reader") (W "word_here") iwo (.v 0) [],.ex<|.mclx (W "Reader") (W "needs") ine (.v 0) [.c<|.str<|W " "],.asg (.nm 4)<|.callx ins [.v 0,.v 1],.ex<|.mclx (W "Reader") (W "needs") ine (.v 0) [.c<|.str<|W ")"],.ret<|.tup [.v 3,.v 2,.v 4]]⟩
noncomputable def E5 (ij ig iwo ine ins:Nat)(sw:D):Fn:=⟨2,3,[.iff (.cmp .lt (.v 1)<|.c<|.int 1) [.rais 3 [.c<|.str<|W "too deep"]] [],.iff (.mcl (W "Reader") (W "goes_past") ig (.v 0) [.c<|.str<|W "("]) [.ret<|.callx ij [.v 0,.bin .sub (.v 1)<|.c<|.int 1]] [],.asg (.nm 2)<|.mcl (W "Reader") (W "word_here") iwo (.v 0) [],.iff (.cmp .eq (.bP .get (.c sw) [.v 2])<|.c<|.int 0) [.ret<|.tup [.v 2]] [],.iff (.cmp .eq (.bP .get (.c sw) [.v 2])<|.c<|.int 1) [.ex<|.mclx (W "Reader") (W "needs") ine (.v 0) [.c<|.str<|W " "],.ret<|.tup [.v 2,.callx ins [.v 0,.bin .sub (.v 1)<|.c<|.int 1]]] [],.ret<|.tup [.c<|.str<|W "lamp",.v 2]]⟩
noncomputable def zN (iri ins:Nat)(dp:D):Fn:=⟨1,3,[.asg (.nm 1)<|.mk (W "Reader") iri [.v 0],.asg (.nm 2)<|.callx ins [.v 1,.c dp],.iff (.cmp .lt (.fld (W "Reader") (W "at")<|.v 1)<|.bi .len [.v 0]) [.rais 3 [.c<|.str<|W "more than a saying"]] [],.ret<|.v 2]⟩
noncomputable def D2:Fn:=⟨1,1,[.iff (.not_<|.isi (.v 0) [.str]) [.rais 3 [.c<|.str<|W "no text"]] [],.ret<|.v 0]⟩
theorem xP {T:List Nat}{i:Nat}:jA (nA T i) (W "text")=some (.str T):=by simp![jA];rw[if_pos trivial]
theorem qE {T:List Nat}{i:Nat}:jA (nA T i) (W "at")=some (.int (i:Nat)):=by simp![jA];rw[if_neg<|by cbv,if_pos trivial]
theorem Cg {T:List Nat}{i:Nat}{v:D}:iK (W "at") v (nA T i)=[(W "text", .str T),(W "at", v)]:=by simp![iK];rw[if_neg<|by cbv,if_pos trivial]
theorem NX {T:List Nat}{i:Nat}:jA (nA T i) (W "goes_past")=none:=by simp![jA];rw[if_neg<|by cbv,if_neg<|by cbv]
theorem tG {T:List Nat}{i:Nat}:jA (nA T i) (W "needs")=none:=by simp![jA];rw[if_neg<|by cbv,if_neg<|by cbv]
theorem MD {T:List Nat}{i:Nat}:jA (nA T i) (W "word_here")=none:=by simp![jA];rw[if_neg<|by cbv,if_neg<|by cbv]
theorem Z6 {c:Nat}{s:List Nat}:[c].isPrefixOf s=(past c s).isSome:=by cases s with|nil=>rfl|cons x s =>
 simp![AaK,past];by_cases e:x=c;·subst e;simp
 ·rw[if_neg e];simp [fq e]
theorem hU {c i:Nat}{T s:List Nat}(h:past c (T.drop i)=some s):s=T.drop (i+1)/\i<T.length:=by cases e:T.drop i with|nil=>rw[e]at h;simp [past]at h|cons x t =>
  rw[e]at h;simp![past]at h;by_cases z:x=c
  ·rw[if_pos z]at h;cases h;refine⟨?_,?_⟩;·have:=congrArg (List.drop 1) e;simpa [Yz]using this.symm
   ·by_cases l:i<T.length;·exact l
    ·rw[fk<|by lia]at e;cases e
  ·simp_all
theorem GQ {α:Type}{T:List α}{i j:Nat}(h1:i<=j)(h2:j<=T.length):cut T (some (i:Int)) (some (j:Int))=(T.drop i).take (j-i):=by
 unfold cut cJ;simp only;rw[if_neg<|by lia,if_neg<|by lia];have e1:min (i:Int).toNat T.length=i:=by lia
 have e2:min (j:Int).toNat T.length=j:=by lia
 rw[e1,e2]
theorem SA (w:List Nat):(eO dZ gX<|.str w).getD .non=if gU w=true then .int 0 else if fM w=true then .int 1 else if lU w=true then .int 2 else .non:=by
 have c:∀a b:List Nat,(a==b)=(b==a):=λa b=>by rw[fc];simp![beq_iff_eq];exact eq_comm
 simp![dZ,gX,eO,fJ,gU,fM,lU,c _ w];rcases dr<|w==W "yes"with h0|h0;·simp![h0,g5,gr,j9,ek,aa,if_false,if_true,reduceIte,d5,gg]
 rcases dr<|w==W "no"with h1|h1;·simp![h0,h1,g5,gr,j9,ek,aa,if_false,if_true,reduceIte,d5,gg]
 rcases dr<|w==W "not"with h2|h2;·simp![h0,h1,h2,g5,gr,j9,ek,aa,if_false,if_true,reduceIte,d5,gg]
 rcases dr<|w==W "before"with h3|h3;·simp![h0,h1,h2,h3,g5,gr,j9,ek,aa,if_false,if_true,reduceIte,d5,gg]
 rcases dr<|w==W "once"with h4|h4;·simp![h0,h1,h2,h3,h4,g5,gr,j9,ek,aa,if_false,if_true,reduceIte,d5,gg]
 rcases dr<|w==W "sofar"with h5|h5;·simp![h0,h1,h2,h3,h4,h5,g5,gr,j9,ek,aa,if_false,if_true,reduceIte,d5,gg]
 rcases dr<|w==W "and"with h6|h6;·simp![h0,h1,h2,h3,h4,h5,h6,g5,gr,j9,ek,aa,if_false,if_true,reduceIte,d5,gg]
 rcases dr<|w==W "or"with h7|h7;·simp![h0,h1,h2,h3,h4,h5,h6,h7,g5,gr,j9,ek,aa,if_false,if_true,reduceIte,d5,gg]
 rcases dr<|w==W "then"with h8|h8;·simp![h0,h1,h2,h3,h4,h5,h6,h7,h8,g5,gr,j9,ek,aa,if_false,if_true,reduceIte,d5,gg]
 rcases dr<|w==W "same"with h9|h9;·simp![h0,h1,h2,h3,h4,h5,h6,h7,h8,h9,g5,gr,j9,ek,aa,if_false,if_true,reduceIte,d5,gg]
 rcases dr<|w==W "since"with h10|h10;·simp![h0,h1,h2,h3,h4,h5,h6,h7,h8,h9,h10,g5,gr,j9,ek,aa,if_false,if_true,reduceIte,d5,gg]
 simp_all
theorem Fy {w:List Nat}(h:fM w=true):gU w=false:=by unfold fM at h;simp![b9,beq_iff_eq]at h;rcases h with((h1|h1)|h1)|h1<;>rw[h1]<;>cbv
theorem VL (st:aB)(w:List Nat):plainS st<|(eO dZ gX<|.str w).getD .non:=by
 rw[SA];split;·exact⟨rfl,cg _⟩
 ·split;·exact⟨rfl,cg _⟩
  ·split;·exact⟨rfl,cg _⟩
   ·exact⟨rfl,cg _⟩
theorem Pp (st:aB)(w:List Nat):bZ st ((eO dZ gX<|.str w).getD .non) (.int 0)=gU w:=by rw[SA];cases h:gU w with|true=>rfl|false =>
 simp![aa,if_false];split;·rfl
 ·split<;>rfl
theorem Ra (st:aB)(w:List Nat):bZ st ((eO dZ gX<|.str w).getD .non) (.int 1)=fM w:=by rw[SA];cases h:fM w with|true=>rw[Fy h];rfl|false =>
 simp![aa,if_false];split;·rfl
 ·split<;>rfl
section
variable {G:Prog}{k ig ine iwo ij ins iri iwh ict iy:Nat}{st:aB}{Q:VK}{E:XK}{r:Nat}{T:List Nat}
theorem Rd.put {i j:Nat}:Rd (put st r<|.ins (W "Reader")<|nA T j) r T j:=bE
theorem P6 (h:G.fns ig=some DP){i c:Nat}(hr:Rd st r T i)(hi:i<=T.length)(hT:T.length<=aL)(h0:past c (T.drop i)=none->Q (.bl false) st)(h1:(past c<|T.drop i).isSome=true->Q (.bl true) (put st r<|.ins (W "Reader")<|nA T<|i+1)):aH G (k+1) ig [.ref r,.str [c]] st Q E:=by rw[aK h];simp![DP,start];lk;rw[kH hr xP];rw[kH hr qE];k_ne;refine⟨⟨hT,by lia,by lia⟩,?_⟩;rw[tu,Z6];cases hp:past c _ with|none =>exact h0 hp|some s =>simp![lu,bf,aa,if_false,aG];lk;rw[kH hr qE];k_ne;rw[KC hr<|by simp];exact h1<|by simp_all
theorem xD (h:G.fns ine=some (DQ ig))(hg:G.fns ig=some DP){i c:Nat}(hr:Rd st r T i)(hi:i<=T.length)(hT:T.length<=aL)(h0:past c (T.drop i)=none->E 3 st)(h1:(past c<|T.drop i).isSome=true->Q .non (put st r<|.ins (W "Reader")<|nA T<|i+1)):aH G (k+2) ine [.ref r,.str [c]] st Q E:=by
 rw[aK h];simp![DQ,start];lk;rw[qA hr NX];refine⟨True.intro,?_⟩;refine P6 hg hr hi hT (λhp=>?_) λhp=>?_;·exact h0 hp
 ·exact h1 hp
theorem QA (h:G.fns iwo=some (DM<|.str cZ)){i:Nat}(hr:Rd st r T i)(hi:i<=T.length)(hT:T.length<=aL)(hQ:∀aA j,cE [r] st aA->Rd aA r T j->j<=T.length->T.drop j=fE (T.drop i)->Q (.str<|bN<|T.drop i) aA):aH G (k+1) iwo [.ref r] st Q E:=by
 rw[aK h];simp only[DM,start];refine⟨rfl,?_⟩;lk;rw[kH hr qE];try dsimp only
 refine dB ?_;refine rA (fU G<|av _) (λm σ aA=>∃j,σ=[some<|.ref r,some<|.int (i:Nat)]/\Rd aA r T j/\i<=j/\j<=T.length/\m=T.length-j/\cE [r] st aA/\fE (T.drop i)=fE (T.drop j)/\bN (T.drop i)=(T.drop i).take (j-i)++bN (T.drop j)) ?_ (m:=T.length-i) ⟨i,rfl,hr,av _,hi,rfl,.refl,rfl,by simp⟩;rintro m σ aZ ⟨j,rfl,r3,l1,l2,hm,k3,e1,e2⟩;k_ne;rw[kH r3 qE,kH r3 xP];k_ne;refine⟨hT,?_⟩;have done:(T.drop j=[]\/∃c t,T.drop j=c::t/\pR c=false)->cH (aH G k) G.sub [.ret<|.sl (.fld (W "Reader") (W "text")<|.v 0) [.v 1] [.fld (W "Reader") (W "at")<|.v 0]] ⟨λ_ aA=>Q .non aA,Q,λ_ _=>False,λ_ _=>False,λc _ aA=>E c aA⟩ [some<|.ref r,some<|.int (i:Nat)] aZ:=λhz=>by
  have z1:bN (T.drop j)=[]/\fE (T.drop j)=T.drop j:=by
   rcases hz with hz|⟨c,t,hz,hl⟩;·rw[hz];exact⟨rfl,rfl⟩
   ·rw[hz];unfold bN fE;rw[gw,kl,hl];exact⟨rfl,rfl⟩
  lk;rw[kH r3 xP];k_ne;rw[kH r3 qE];k_ne;refine⟨hT,?_⟩;rw[GQ l1 l2];have e3:(T.drop i).take (j-i)=bN (T.drop i):=by rw[e2,z1.1,dn]
  rw[e3];exact hQ aZ j k3 r3 l2<|by rw[e1,z1.2]
 by_cases hl:j<T.length
 ·have hl':(j:Int)<(T.length:Int):=by omega
  simp only[hl',decide_true,if_true];rw[kH r3 xP];k_ne;rw[kH r3 qE];k_ne;rw[iO<|by omega,br hl];simp only[aO];k_ne;refine⟨hT,?_⟩;have ed:T.drop j=T[j]::T.drop (j+1):=fx hl;cases hc:occurs [T[j]] cZ with|false =>simp only[aa,if_false];exact done<|.inr ⟨_,_,ed,hc⟩|true =>
   have hc':pR T[j]=true:=hc;simp only[if_true];lk;rw[kH r3 qE];k_ne;rw[KC r3<|by simp,Cg];rw[aG];refine⟨m-1,by omega,j+1,rfl,Rd.put (i:=j),by omega,by omega,by omega,k3.trans<|cE.put<|by simp,?_,?_⟩;·rw[e1,ed];unfold fE;rw[kl,hc'];rfl
   ·rw[e2,ed];have:bN (T[j]::T.drop (j+1))=T[j]::bN (T.drop<|j+1):=by unfold bN;rw[gw,hc'];rfl
    rw[this];have e5:(T.drop i).take (j+1-i)=(T.drop i).take (j-i)++[T[j]]:=by rw[show j+1-i=j-i+1 from by omega,Aal];rw[Zw,show i+(j-i)=j from by omega,br hl];rfl
    rw[e5,jd,t8]
 ·have hl':¬(j:Int)<(T.length):=by omega
  simp only[hl',decide_false,aa,if_false];exact done<|.inl<|fk<|by omega
end
theorem B5:W "(" = [40]:=by cbv
theorem iD:W " " = [32]:=by cbv
theorem VT:W ")" = [41]:=by cbv
section
variable {G:Prog}{k ig ine iwo ij ins iri iwh ict iy bT bC:Nat}{st:aB}{Q:VK}{E:XK}{r:Nat}{T:List Nat}
abbrev RQ (r:Nat)(T:List Nat)(st:aB)(o:Option<|Py×List Nat)(Q:VK)(E:XK):Prop :=(∀x rest,o=some (x,rest)->∀aA j,cE [r] st aA->Rd aA r T j->j<=T.length->T.drop j=rest->Q (pD x) aA)/\(o=none->∀aA,cE [r] st aA->E 3 aA)
structure RF (G:Prog)(ig ine iwo ij ins:Nat):Prop where
 g:G.fns ig=some DP
 n:G.fns ine=some (DQ ig)w:G.fns iwo=some (DM<|.str cZ)j:G.fns ij=some (G3 ins ine iwo)s:G.fns ins=some (E5 ij ig iwo ine ins<|.cF dZ gX)
theorem ZH (F:RF G ig ine iwo ij ins)(hT:T.length<=aL):∀(d:Nat){k:Nat}{st:aB}{Q:VK}{E:XK}{i:Nat},Rd st r T i->i<=T.length->RQ r T st (pN d<|T.drop i) Q E->aH G (k+2*d+4) ins [.ref r,.int (d:Nat)] st Q E:=by intro d;induction d with|zero =>intro k st Q E i hr hi hq;rw[aK F.s];simp only[E5,start];refine⟨rfl,?_⟩;lk;simp only[AaA,show((0:Int)<1)=True from by simp,decide_true,if_true];lk;exact hq.2 rfl st .refl|succ d ih =>
  intro k st Q E i hr hi hq;have hd:(((d+1:Nat):Int)-1)=(d:Int):=by omega
  have h1:¬(((d+1:Nat):Int)<1):=by omega
  rw[show k+2*(d+1)+4=k+2*d+5+1 from by omega,aK F.s];simp only[E5,start];refine⟨rfl,?_⟩;lk;simp only[h1,decide_false,aa,if_false,aG];lk;rw[qA hr NX];refine⟨True.intro,?_⟩;k_ne;rw[B5];refine P6 (c:=40) (k:=k+2*d+4) F.g hr hi hT (λhp=>?_) λhp=>?_
  ·k_ne;try simp only[aa,if_false,aG]
   lk;rw[qA hr MD];refine⟨True.intro,?_⟩;k_ne;refine QA (k:=k+2*d+4) F.w hr hi hT λaC j k1 r1 l1 e1=>?_;lk;refine⟨VL _ _,?_⟩;rw[Pp];cases hz:gU (bN<|T.drop i)with|true =>simp only[if_true];lk;refine hq.1 (.nul<|bN<|T.drop i) (fE<|T.drop i) ?_ aC j k1 r1 l1 e1;unfold pN;simp only[hp];rw[if_pos hz]|false =>simp only[aa,if_false,aG];lk;refine⟨VL _ _,?_⟩;rw[Ra];cases ho:fM (bN<|T.drop i)with
    |true =>
     simp only[if_true];have e0:pN (d+1) (T.drop i)=(past 32<|fE<|T.drop i).bind λs2=>(pN d s2).map λp=>(.one (bN<|T.drop i) p.1,p.2):=by
      conv=>lhs;unfold pN
      simp only[hp];rw[if_neg<|by rw[hz];simp,if_pos ho]
     lk;rw[qA r1 tG];refine⟨True.intro,?_⟩;k_ne;try rw[iD]
     refine xD (c:=32) (k:=k+2*d+3) F.n F.g r1 l1 hT (λhs=>?_) λhs=>?_;·refine hq.2 ?_ _ k1;rw[e0,<-e1,hs];rfl
     ·obtain⟨s2,e2⟩:=Option.isSome_iff_exists.mp hs;obtain⟨e3,l3⟩:=hU e2;lk;rw[hd];have k2:cE [r] st<|put aC r<|.ins (W "Reader")<|nA T<|j+1:=k1.trans (cE.put<|by simp);rw[show k+2*d+5=k+1+2*d+4 from by omega];refine ih (k:=k+1) (i:=j+1) (Rd.put (i:=j)) (by omega) ⟨λx rest hx aZ j3 k3 r3 l4 e4=>?_,λhx aZ k3=>?_⟩;·k_ne;refine hq.1 (.one (bN<|T.drop i) x) rest ?_ aZ j3 (k2.trans k3) r3 l4 e4;rw[e0,<-e1,e2,bg,e3,hx];rfl
      ·refine hq.2 ?_ _<|k2.trans k3;rw[e0,<-e1,e2,bg,e3,hx];rfl|false =>simp only[aa,if_false,aG];lk;refine hq.1 (.bF<|bN<|T.drop i) (fE<|T.drop i) ?_ aC j k1 r1 l1 e1;unfold pN;simp only[hp];rw[if_neg<|by rw[hz];simp,if_neg<|by rw[ho];simp]
  ·obtain⟨s1,es1⟩:=Option.isSome_iff_exists.mp hp;obtain⟨ed1,l1⟩:=hU es1;have e0:pN (d+1) (T.drop i)=(pN d s1).bind λp=>(past 32 p.2).bind λs3=>(past 32<|fE s3).bind λs5=>(pN d s5).bind λq=>(past 41 q.2).map λs7=>(.two (bN s3) p.1 q.1,s7):=by
    conv=>lhs;unfold pN
    simp only[es1]
   k_ne;try simp only[if_true]
   lk;rw[hd];have k1:cE [r] st<|put st r<|.ins (W "Reader")<|nA T<|i+1:=cE.put (by simp);have r1:Rd (put st r<|.ins (W "Reader")<|nA T<|i+1) r T<|i+1:=Rd.put (i:=i);generalize put st r (.ins (W "Reader")<|nA T<|i+1)=aC at k1 r1;rw[show k+2*d+5=k+2*d+4+1 from rfl,aK F.j];simp only[G3,start];refine⟨rfl,?_⟩;lk;refine ih (k:=k) (i:=i+1) r1 (by omega) ⟨λx rest hx aJ j2 k2 r2 l2 e2=>?_,λhx aJ k2=>?_⟩;rotate_left;·refine hq.2 ?_ _<|k1.trans k2;rw[e0,ed1,hx];rfl
   lk;rw[qA r2 tG];refine⟨True.intro,?_⟩;k_ne;try rw[iD]
   refine xD (c:=32) (k:=k+2*d+2) F.n F.g r2 l2 hT (λhs=>?_) λhs=>?_;·refine hq.2 ?_ _<|k1.trans k2;rw[e0,ed1,hx,bg,<-e2,hs];rfl
   obtain⟨s3,e3⟩:=Option.isSome_iff_exists.mp hs;obtain⟨ed3,l3⟩:=hU e3;have k3:cE [r] st<|put aJ r<|.ins (W "Reader")<|nA T<|j2+1:=(k1.trans k2).trans (cE.put<|by simp);have r3:Rd (put aJ r<|.ins (W "Reader")<|nA T<|j2+1) r T<|j2+1:=Rd.put (i:=j2);generalize put aJ r (.ins (W "Reader")<|nA T<|j2+1)=aZ at k3 r3;lk;rw[qA r3 MD];refine⟨True.intro,?_⟩;k_ne;refine QA (k:=k+2*d+3) F.w r3 (by omega) hT λcR j4 k4 r4 l4 e4=>?_;rw[<-ed3]at e4 ⊢;lk;rw[qA r4 tG];refine⟨True.intro,?_⟩;k_ne;have e01:pN (d+1) (T.drop i)=(past 32<|fE s3).bind λs5=>(pN d s5).bind λq=>(past 41 q.2).map λs7=>(.two (bN s3) x q.1,s7):=by rw[e0,ed1,hx,bg,<-e2,e3,bg]
   try rw[iD]
   refine xD (c:=32) (k:=k+2*d+2) F.n F.g r4 l4 hT (λhs=>?_) λhs=>?_;·refine hq.2 ?_ _<|k3.trans k4;rw[e01,<-e4,hs];rfl
   obtain⟨s5,e5⟩:=Option.isSome_iff_exists.mp hs;obtain⟨ed5,l5⟩:=hU e5;have k5:cE [r] st<|put cR r<|.ins (W "Reader")<|nA T<|j4+1:=(k3.trans k4).trans (cE.put<|by simp);have r5:Rd (put cR r<|.ins (W "Reader")<|nA T<|j4+1) r T<|j4+1:=Rd.put (i:=j4);generalize put cR r (.ins (W "Reader")<|nA T<|j4+1)=eQ at k5 r5;rw[<-e4,e5,bg,ed5]at e01;lk;refine ih (k:=k) (i:=j4+1) r5 (by omega) ⟨λy rest6 hy dE j6 k6 r6 l6 e6=>?_,λhx dE k6=>?_⟩;rotate_left;·refine hq.2 ?_ _<|k5.trans k6;rw[e01,hx];rfl
   lk;rw[qA r6 tG];refine⟨True.intro,?_⟩;k_ne;rw[hy,bg]at e01;try rw[VT]
   refine xD (c:=41) (k:=k+2*d+2) F.n F.g r6 l6 hT (λhs=>?_) λhs=>?_;·refine hq.2 ?_ _<|k5.trans k6;rw[e01,<-e6,hs];rfl
   obtain⟨s7,e7⟩:=Option.isSome_iff_exists.mp hs;obtain⟨ed7,l7⟩:=hU e7;lk;refine hq.1 (.two (bN s3) x y) s7 ?_ _ (j6+1) ((k5.trans k6).trans<|cE.put<|by simp) (Rd.put (i:=j6)) (by omega) ed7.symm;rw[e01,<-e6,e7];rfl
noncomputable def pW (T:List Nat):Option Py:=(pN 8 T).bind λp=>if p.2=[]then some p.1 else none
theorem MY (h:G.fns iwh=some (zN iri ins<|.int 8))(hi:G.fns iri=some AF)(F:RF G ig ine iwo ij ins)(hT:T.length<=aL)(hQ:∀x,pW T=some x->∀aA,Ext st aA->Q (pD x) aA)(hE:pW T=none->∀aA,Ext st aA->E 3 aA):aH G (k+21) iwh [.str T] st Q E:=by
 rw[aK h];simp only[zN,start];refine⟨rfl,?_⟩;lk;intro r hr;rw[aK hi];simp only[AF,start];refine⟨rfl,?_⟩;lk;rw[KC bE<|by simp [iK]];lk;rw[KC bE<|by simp [iK]];try simp only[aG]
 have r1:Rd (put (put (put st r<|.ins (W "Reader") []) r<|.ins (W "Reader")<|iK (W "text") (.str T) []) r<|.ins (W "Reader")<|iK (W "at") (.int 0)<|iK (W "text") (.str T) []) r T 0:=by unfold Rd;rw[bE];simp only[iK];rw[if_neg<|by decide +kernel];rfl
 have x1:∀aA,cE [r] (put (put (put st r<|.ins (W "Reader") []) r<|.ins (W "Reader")<|iK (W "text") (.str T) []) r<|.ins (W "Reader")<|iK (W "at") (.int 0)<|iK (W "text") (.str T) []) aA->Ext st aA:=λaA kk a o e=>by
  have ne:a≠r:=λz=>by rw[z,hr]at e;cases e
  exact kk a o (by simpa using ne)<|by rw[bS ne,bS ne,bS ne];exact e
 generalize put (put (put st r<|.ins (W "Reader") []) r<|.ins (W "Reader")<|iK (W "text") (.str T) []) r (.ins (W "Reader")<|iK (W "at") (.int 0)<|iK (W "text") (.str T) [])=aC at r1 x1;lk;refine ZH F hT 8 (k:=k) r1 (cg _) ⟨λx rest hx aJ j k2 r2 l2 e2=>?_,λhx aJ k2=>?_⟩;rotate_left;·refine hE ?_ _<|x1 _ k2;unfold pW;rw[n6]at hx;rw[hx];rfl
 rw[n6]at hx;lk;rw[kH r2 qE];k_ne;refine⟨hT,?_⟩;by_cases hl:j<T.length
 ·have hl':(j:Int)<(T.length):=by omega
  simp only[hl',decide_true,if_true];refine hE ?_ _<|x1 _ k2;unfold pW;rw[hx,bg,if_neg];intro z;rw[<-e2]at z;have:=congrArg fw z;rw[bz,ak]at this;omega
 ·have hl':¬(j:Int)<(T.length):=by omega
  simp only[hl',decide_false,aa,if_false,aG];refine hQ x ?_ _<|x1 _ k2;unfold pW;rw[hx,bg,if_pos];rw[<-e2];exact fk<|by omega
end
theorem DO:∀{x y:Py},kQ x->kQ y->pD x=pD y->x=y|.bF w,.bF v,_,_,e=>by simp![pD,D.tup.injEq,gm,D.str.injEq]at e;rw[e.2.1]|.bF w,.nul v,_,_,e=>by simp [pD]at e|.bF w,.one v t,_,h,e=>by simp![pD,D.tup.injEq,gm,D.str.injEq]at e;have:=h.1;rw[<-e.1]at this;exact absurd this<|by cbv|.bF w,.two v a b,_,_,e=>by simp [pD]at e|.nul w,.bF v,_,_,e=>by simp [pD]at e|.nul w,.nul v,_,_,e=>by simp![pD,D.tup.injEq,gm,D.str.injEq]at e;rw[e.1]|.nul w,.one v t,_,_,e=>by simp [pD]at e|.nul w,.two v a b,_,_,e=>by simp [pD]at e|.one w t,.bF v,h,_,e=>by simp![pD,D.tup.injEq,gm,D.str.injEq]at e;have:=h.1;rw[e.1]at this;exact absurd this<|by cbv|.one w t,.nul v,_,_,e=>by simp [pD]at e|.one w t,.one v u,h,h',e=>by simp![pD,D.tup.injEq,gm,D.str.injEq]at e;rw[e.1,DO h.2 h'.2 e.2.1]|.one w t,.two v a b,_,_,e=>by simp [pD]at e|.two w a b,.bF v,_,_,e=>by simp [pD]at e|.two w a b,.nul v,_,_,e=>by simp [pD]at e|.two w a b,.one v u,_,_,e=>by simp [pD]at e|.two w a b,.two v c d,h,h',e=>by simp![pD,D.tup.injEq,gm,D.str.injEq]at e;rw[e.1,DO h.1 h'.1 e.2.1,DO h.2 h'.2 e.2.2.1]
theorem vS:∀x:Py,cL (pD x)=true|.bF w=>rfl|.nul w=>rfl|.one w t=>by simp![pD,cL,bK,vS t,fu]|.two w a b=>by simp![pD,cL,bK,vS a,vS b,fu]
theorem AN:∀x:Py,dN (pD x)=deep x|.bF w=>rfl|.nul w=>rfl|.one w t=>by simp![pD,dN,cN,AN t,deep,yj,yk]|.two w a b=>by simp![pD,dN,cN,AN a,AN b,deep,yj,yk]
def lS (n:Nat):Py->Prop|.bF w=>w.length<=n|.nul w=>w.length<=n|.one w t=>w.length<=n/\lS n t|.two w a b=>w.length<=n/\lS n a/\lS n b
theorem rR {c:Nat}{s s':List Nat}(h:past c s=some s'):s'.length<s.length:=by cases s with|nil=>simp [past]at h|cons x s =>
 simp![past]at h;by_cases e:x=c;·simp_all
 ·simp_all
theorem A0 (s:List Nat):(bN s).length<=s.length:=by unfold bN;exact(tw _).length_le
theorem QO (s:List Nat):(fE s).length<=s.length:=by unfold fE;exact(yn _).length_le
theorem EO:∀(d:Nat){s r:List Nat}{x:Py}{n:Nat},pN d s=some (x,r)->s.length<=n->lS n x/\r.length<=s.length|0,_,_,_,_,h,_=>by simp [pN]at h|d+1,s,r,x,n,h,l=>by unfold pN at h;cases e:past 40 s with|some s1 =>simp![e]at h;simp![bb,ay,gx]at h;obtain⟨⟨a,s2⟩,h1,s3,h2,s5,h3,⟨b,s6⟩,h4,s7,h5,rfl,rfl⟩:=h;have j0:=rR e;obtain⟨w1,j1⟩:=EO d (n:=n) h1 (by lia);have j2:=rR h2;have j3:=rR h3;have j6:=QO s3;have j7:=A0 s3;dsimp only at j2;obtain⟨w2,j4⟩:=EO d (n:=n) h4 (by lia);have j5:=rR h5;dsimp only at j5;exact⟨⟨by lia,w1,w2⟩,by lia⟩|none =>
   simp![e]at h;have j6:=QO s;have j7:=A0 s;split at h;·cases h;exact⟨by simp![lS];lia,by lia⟩
   ·split at h;·simp![bb,ay,gx]at h;obtain⟨s2,h3,⟨a,s4⟩,h4,rfl,rfl⟩:=h;have j3:=rR h3;obtain⟨w1,j1⟩:=EO d (n:=n) h4 (by lia);exact⟨⟨by lia,w1⟩,by dsimp only;lia⟩
    ·cases h;exact⟨by simp![lS];lia,by lia⟩
open Classical in
noncomputable def EA (names:List<|List Nat)(d:D):Bool:=if h:∃x,kQ x/\pD x=d then fK names h.choose else false
theorem kX {names:List<|List Nat}{x:Py}(h:kQ x):EA names (pD x)=fK names x:=by have e:∃y,kQ y/\pD y=pD x:=⟨x,h,rfl⟩;unfold EA;rw[dif_pos e];rw[DO e.choose_spec.1 h e.choose_spec.2]
theorem Nt {w:List Nat}(h:lU w=false):(w==W "lamp")=true\/(w==W "lamp")=false/\((dZ.any λx=>fJ x<|.str w)=false\/(dZ.any λx=>fJ x<|.str w)=true/\∃m:Int,eO dZ gX (.str w)=some (.int m)/\(2:Int)≠m):=by cases hl:w==W _ with|true=>exact .inl rfl|false =>refine .inr ⟨rfl,?_⟩;cases hi:dZ.any λx=>fJ x _ with|false=>exact .inl rfl|true =>
  refine .inr ⟨rfl,?_⟩;simp![dZ,i7,tj,fJ,ek,b9,beq_iff_eq]at hi;rcases hi with hi|hi|hi|hi|hi|hi|hi|hi|hi|hi|hi<;>subst hi;·exact⟨0,rfl,by cbv⟩
  ·exact⟨0,rfl,by cbv⟩
  ·exact⟨1,rfl,by cbv⟩
  ·exact⟨1,rfl,by cbv⟩
  ·exact⟨1,rfl,by cbv⟩
  ·exact⟨1,rfl,by cbv⟩
  all_goals exact absurd h<|by cbv
section
variable {G:Prog}{bT bC iy ict iwh iri ig ine iwo ij ins ire:Nat}{names:List<|List Nat}
theorem Gs (h:FK G bT bC)(hn:xI G bT)(dO:∀n∈names,bD n=true): ∀(x:Py){k:Nat}{st:aB}{Q:VK}{E:XK}{d:Int},kQ x->lS aL x->(deep x:Int)<=d->(∀aA,Ext st aA->Q (.bl<|fK names x) aA)->aH G (k+deep x+1) bC [.tup<|names.map .str,pD x,.int d] st Q E:=by
 intro x;induction x with|bF w =>
  intro k st Q E d hs hw hd hQ;simp![deep]at hd;simp![fK]at hQ;by_cases ho:w∈names;·refine AB h hn dO ho (by lia) λaA x=>?_;have:=hQ aA x;rw[decide_eq_true ho]at this;exact this
  ·rw[decide_eq_false ho]at hQ;exact BH (k:=k) h hn dO 0 (.ls hw<|.inr ho) hQ|nul w =>
  intro k st Q E d hs hw hd hQ;simp![deep]at hd;have hs:gU w=true:=hs;unfold gU at hs;simp![b9,beq_iff_eq]at hs;rcases hs with rfl|rfl;·exact iQ h (λ_=>true) (by lia) (by cbv) (by cbv) rfl (by cbv) (λx hx=>by cases hx) λaA x=>hQ aA x
  ·exact iQ h (λ_=>true) (by lia) (by cbv) (by cbv) rfl (by cbv) (λx hx=>by cases hx) λaA x=>hQ aA x|one w t ih =>
  intro k st Q E d hs hw hd hQ;simp![deep]at hd ⊢;have h1:fM w=true:=hs.1;have e1:(w==W "lamp")=false:=by unfold fM at h1;simp![b9,beq_iff_eq]at h1;rcases h1 with((h1|h1)|h1)|h1<;>subst h1<;>cbv
  have e2:(dZ.any λx=>fJ x<|.str w)=true:=by unfold fM at h1;simp![b9,beq_iff_eq]at h1;rcases h1 with((h1|h1)|h1)|h1<;>subst h1<;>cbv
  have e3:eO dZ gX (.str w)=some (.int 1):=by unfold fM at h1;simp![b9,beq_iff_eq]at h1;rcases h1 with((h1|h1)|h1)|h1<;>subst h1<;>rfl
  refine iQ (ps:=[pD t]) h (EA names) (by lia) e1 e2 e3 (by simp) (λx hx aA Q' E' x1 hQ'=>?_) λaA x=>?_;·simp![cu]at hx;subst hx;rw[kX hs.2]at hQ';exact ih (k:=k) hs.2 hw.2 (by lia) hQ'
  ·have:=hQ aA x;simp![fm,ym,ky,kX hs.2];exact this|two w a b ih1 ih2 =>intro k st Q E d hs hw hd hQ;have l1:=kh (deep a)<|deep b;have l2:=jy (deep a)<|deep b;simp![deep]at hd ⊢;cases h2:lU w with
  |true =>
   have e1:(w==W "lamp")=false:=by unfold lU at h2;simp![b9,beq_iff_eq]at h2;rcases h2 with(((h1|h1)|h1)|h1)|h1<;>subst h1<;>cbv
   have e2:(dZ.any λx=>fJ x<|.str w)=true:=by unfold lU at h2;simp![b9,beq_iff_eq]at h2;rcases h2 with(((h1|h1)|h1)|h1)|h1<;>subst h1<;>cbv
   have e3:eO dZ gX (.str w)=some (.int 2):=by unfold lU at h2;simp![b9,beq_iff_eq]at h2;rcases h2 with(((h1|h1)|h1)|h1)|h1<;>subst h1<;>rfl
   refine iQ (ps:=[pD a,pD b]) h (EA names) (by lia) e1 e2 e3 (by simp) (λx hx aA Q' E' x1 hQ'=>?_) λaA x=>?_
   ·simp![ba,bj,or_false]at hx;rcases hx with rfl|rfl;·rw[kX hs.1]at hQ';have:=ih1 (k:=k+(max (deep a) (deep b)-deep a)) (E:=E') hs.1 hw.2.1 (d:=d-1) (by lia) hQ';rw[show k+(max (deep a) (deep b)-deep a)+deep a+1=k+(max (deep a) (deep b)+1)from by lia]at this;exact this
    ·rw[kX hs.2]at hQ';have:=ih2 (k:=k+(max (deep a) (deep b)-deep b)) (E:=E') hs.2 hw.2.2 (d:=d-1) (by lia) hQ';rw[show k+(max (deep a) (deep b)-deep b)+deep b+1=k+(max (deep a) (deep b)+1)from by lia]at this;exact this
   ·have:=hQ aA x;simp![fK,h2,rj]at this;simp![fm,ym,ky,kX hs.1,kX hs.2];exact this|false =>
   simp![fK,h2,kd]at hQ;simp![pD];have q:=hQ st .refl;rw[show k+(max (deep a) (deep b)+1)+1=k+max (deep a) (deep b)+0+2 from by lia];rcases Nt h2 with e|⟨e,e'|⟨e',m,e3,e4⟩⟩;·rw[beq_iff_eq]at e;subst e;exact BH h hn dO 0 (.ln<|by simp) hQ
   ·exact BH h hn dO 0 (.word e e') hQ
   ·exact BH h hn dO 0 (.ar e e' e3<|by simpa using e4) hQ
theorem HF (hy:G.fns iy=some (nY bC<|.int 8))(h:FK G bT bC)(hn:xI G bT)(dO:∀n∈names,bD n=true){x:Py}{k:Nat}{st:aB}{Q:VK}{E:XK}(hs:kQ x)(hw:lS aL x)(hd:deep x<=8)(hQ:∀aA,Ext st aA->Q (.bl<|fK names x) aA):aH G (k+10) iy [.tup<|names.map .str,pD x] st Q E:=by rw[aK hy];refine⟨rfl,?_⟩;have:=Gs (k:=k+(8-deep x)) h hn dO x (E:=λ_ _=>False) (d:=8) hs hw (by lia) hQ;rw[show k+(8-deep x)+deep x+1=k+9 from by lia]at this;exact this
noncomputable def XF (names:List<|List Nat)(T:List Nat):Option Py:=(pW T).bind λx=>if fK names x=true then some x else none
theorem Bf {T:List Nat}{x:Py}(h:pW T=some x):kQ x/\deep x<=8/\lS T.length x:=by
 unfold pW at h;simp![bb]at h;obtain⟨⟨y,r⟩,h1,h2⟩:=h;split at h2;·cases h2;exact⟨(rN 8 h1).2,(rN 8 h1).1,(EO 8 h1<|av _).1⟩
 ·cases h2
theorem rT {m n:Nat}(l:m<=n):∀{x:Py},lS m x->lS n x|.bF w,h=>az h l|.nul w,h=>az h l|.one w t,h=>⟨Nat.le_trans h.1 l,rT l h.2⟩|.two w a b,h=>⟨Nat.le_trans h.1 l,rT l h.2.1,rT l h.2.2⟩
end
noncomputable def sI:Fn:=⟨1,4,[.asg (.nm 1)<|.lst [],.asg (.nm 2)<|.lst [.v 0],.whl (.v 2) [.asg (.nm 3)<|.bP .pop (.v 2) [],.iff (.isi (.v 3) [.str]) [.ex<|.bP .append (.v 1) [.v 3]] [.iff (.cmp .eq (.ix (.v 3)<|.c<|.int 0)<|.c<|.str<|W "lamp") [.ex<|.bP .append (.v 1) [.ix (.v 3)<|.c<|.int 1]] [.iff (.cmp .eq (.bi .len [.v 3])<|.c<|.int 1) [.ex<|.bP .append (.v 1) [.ix (.v 3)<|.c<|.int 0]] [.iff (.cmp .eq (.bi .len [.v 3])<|.c<|.int 2) [.ex<|.bP .extend (.v 2) [.lst [.ix (.v 3)<|.c<|.int 1,.bin .add (.ix (.v 3)<|.c<|.int 0)<|.c<|.str<|W " "]]] [.ex<|.bP .extend (.v 2) [.lst [.c<|.str<|W ")",.ix (.v 3)<|.c<|.int 2,.bin .add (.bin .add (.c<|.str<|W " ")<|.ix (.v 3)<|.c<|.int 0)<|.c<|.str<|W " ",.ix (.v 3)<|.c<|.int 1,.c<|.str<|W "("]]]]]]],.ret<|.bP .join (.c<|.str<|W "") [.v 1]]⟩
noncomputable def uC (it:Nat):Fn:=⟨1,1,[.iff (.cmp .eq (.ix (.v 0)<|.c<|.int 0)<|.c<|.str<|W "lamp") [.ret<|.ix (.v 0)<|.c<|.int 1] [],.iff (.cmp .eq (.bi .len [.v 0])<|.c<|.int 1) [.ret<|.ix (.v 0)<|.c<|.int 0] [],.iff (.cmp .eq (.bi .len [.v 0])<|.c<|.int 2) [.ret<|.bin .add (.bin .add (.ix (.v 0)<|.c<|.int 0)<|.c<|.str<|W " ")<|.call it [.ix (.v 0)<|.c<|.int 1]] [],.ret<|.bin .add (.bin .add (.bin .add (.bin .add (.bin .add (.bin .add (.c<|.str<|W "(")<|.call it [.ix (.v 0)<|.c<|.int 1])<|.c<|.str<|W " ")<|.ix (.v 0)<|.c<|.int 0)<|.c<|.str<|W " ")<|.call it [.ix (.v 0)<|.c<|.int 2])<|.c<|.str<|W ")"]⟩
inductive Am where |s (s:Sy)|t (w:List Nat)
noncomputable def kT:Am->D|.s s=>toD s|.t w=>.str w
noncomputable def PB:Am->List Nat|.s s=>tx s|.t w=>w
noncomputable def mz:Sy->Nat|.one _ s=>2+mz s|.two _ s t=>4+(mz s+mz t)|_=>1
noncomputable def sM:Am->Nat|.s s=>mz s|.t _=>1
noncomputable def jC:List Am->Nat|[]=>0|a::r=>sM a+jC r
theorem P8 (a:Am):1<=sM a:=by cases a with|s s=>cases s<;>simp![sM,mz]<;>lia|t w=>exact av _
theorem Ib (r:List Am):r.length<=jC r:=by induction r with|nil=>exact av _|cons a r ih=>have:=P8 a;simp![jC,ag];lia
theorem Aam:∀ws:List<|List Nat,aX [] ws=ws.flatten|[]=>rfl|[w]=>by simp [aX]|w::v::r=>by simp![aX,Aam _,dn,qa]
section
variable {G:Prog}{k i it:Nat}{st:aB}{Q:VK}{E:XK}
theorem YU (h:G.fns i=some sI){s:Sy}(hz:mz s<=1000)(hd:aE s<=60)(hl:(tx s).length<=aL)(hw:∀w,(c2 w).length<=10)(hQ:∀aA,Ext st aA->Q (.str<|tx s) aA):aH G (k+1) i [toD s] st Q E:=by
 have hL:aL=16777216:=rfl;rw[aK h];simp only[sI,start];refine⟨rfl,?_⟩;lk;refine bO (by decide) λp aC x1 hp hp1=>?_;lk;refine bO (by show 1<=aL;decide) λq aJ x2 hq hq2=>?_;have hpq:p≠q:=λz=>by rw[z]at hp1;rw[hq]at hp1;cases hp1
 have p2:=x2 p _ hp1;try dsimp only
 refine dB ?_;refine rA (fU G<|av _) (λm σ aA=>∃(stack:List Am)(f:List<|List Nat)(o:Option D),σ=[some<|toD s,some<|.ref p,some<|.ref q,o]/\aA p=some (.lst<|f.map .str)/\aA q=some (.lst (stack.map kT).reverse)/\jC stack=m /\ f.length+jC stack<=1000/\f.flatten++(stack.map PB).flatten=tx s/\(∀a∈stack,∀s',a=.s s'->aE s'<=60)/\Ext st aA) ?_ (m:=mz s) ⟨[.s s],[],none,rfl,p2,hq2,by simp [jC,sM],by simpa [jC,sM]using hz,by simp [PB],λa ha s' e=>by simp only[cu]at ha;subst ha;cases e;exact hd,λa o e=>x2 a o<|x1 a o e⟩;rintro m σ aZ ⟨stack,f,o,rfl,hp3,hq3,hm,hlen,htx,hdd,x3⟩;k_ne;rw[PH,hV hq3];cases stack with
 |nil =>
  simp only[ow,AaB,xk,bf,aa,if_false];lk;rw[aF hp3,fN];simp only[aO];have ej:aX (W "") f=tx s:=by rw[show W "" = []from rfl,Aam];simpa using htx
  rw[ej];refine⟨?_,hQ aZ x3⟩;rw[show(W "").length=0 from rfl,Aan,Nat.add_zero,<-uv];have:f.flatten=tx s:=by simpa using htx
  rw[this];exact hl|cons a r =>
  have hne:(!((ql kT<|a::r).reverse).isEmpty)=true:=by simp
  rw[hne];simp only[if_true];simp only[jC]at hm hlen;have hsp:=P8 a;have hrl:=Ib r;lk;rw[aF hq3];refine⟨trivial,?_⟩;rw[aF hq3];have elast:((ql kT<|a::r).reverse)[((ql kT<|a::r).reverse).length-1]? = some (kT a):=by simp only[aw,mj,ah,ag,ak];rw[fe<|by simp];simp
  have edrop:((ql kT<|a::r).reverse).dropLast=(r.map kT).reverse:=by simp
  rw[elast,edrop,aO];try dsimp only
  have hp4:(put aZ q<|.lst (r.map kT).reverse) p=some (.lst<|f.map .str):=by rw[bS hpq];exact hp3
  have hq4:(put aZ q<|.lst (r.map kT).reverse) q=some (.lst (r.map kT).reverse):=bE;have hx4:Ext st<|put aZ q<|.lst (r.map kT).reverse:=λb u e=>by
   have n:b≠q:=λz=>by rw[z]at e;have:=x1 _ _ e;rw[hq]at this;cases this
   rw[bS n];exact x3 _ _ e
  generalize put aZ q (.lst (r.map kT).reverse)=cR at hp4 hq4 hx4;have app:∀(w:List Nat)(m':Nat),m'<m->PB a=w->jC r=m'->(∀b u,put cR p (.lst<|f.map .str++[.str w]) b=some u->True)->∃m',m'<m/\∃(stack:List Am)(f':List<|List Nat)(o:Option D),[some<|toD s,some<|.ref p,some<|.ref q,some<|kT a]=[some<|toD s,some<|.ref p,some<|.ref q,o]/\(put cR p<|.lst<|f.map .str++[.str w]) p=some (.lst<|f'.map .str)/\(put cR p<|.lst<|f.map .str++[.str w]) q=some (.lst (stack.map kT).reverse)/\jC stack=m' /\ f'.length+jC stack<=1000/\f'.flatten++(stack.map PB).flatten=tx s/\(∀a∈stack,∀s',a=.s s'->aE s'<=60)/\Ext st (put cR p<|.lst<|f.map .str++[.str w]):=λw m' hm' hw' hz' _=>by
   refine⟨m',hm',r,f++[w],some<|kT a,rfl,by rw[bE];simp,by rw[bS hpq.symm];exact hq4,hz',by simp only[ah,ag,ak];omega,?_,λb hb s' e=>hdd b (by simp [hb]) s' e,λb u e=>?_⟩;·rw[<-htx,<-hw'];simp
   ·have n:b≠p:=λz=>by rw[z,hp]at e;cases e
    rw[bS n];exact hx4 _ _ e
  cases a with|t w =>
   simp only[kT];lk;try simp only[if_true]
   lk;rw[aF hp4];refine⟨trivial,?_⟩;rw[aF hp4];refine⟨by simp only[af];omega,?_⟩;simp only[aG];exact app w (jC r) (by simp only[sM]at hm;omega) rfl rfl λ_ _ _=>trivial|s s' =>have hds:=hdd (.s s') (by simp) s' rfl;cases s' with
   |yes =>
    simp only[kT,toD];lk;try simp only[aa,if_false]
    lk;have e1:bZ cR (.str<|W "yes") (.str<|W "lamp")=false:=by simp only[bZ];decide
    simp only[show(W "yes" == W "lamp")=false from by decide,aa,if_false];lk;simp only[show(((1:Nat):Int)==1)=true from by decide,if_true];lk;rw[aF hp4];refine⟨trivial,?_⟩;rw[aF hp4];refine⟨by simp only[af];omega,?_⟩;simp only[aG];exact app _ (jC r) (by simp only[sM,mz]at hm;omega) rfl rfl λ_ _ _=>trivial|no =>
    simp only[kT,toD];lk;try simp only[aa,if_false]
    lk;have e1:bZ cR (.str<|W "no") (.str<|W "lamp")=false:=by simp only[bZ];decide
    simp only[show(W "no" == W "lamp")=false from by decide,aa,if_false];lk;simp only[show(((1:Nat):Int)==1)=true from by decide,if_true];lk;rw[aF hp4];refine⟨trivial,?_⟩;rw[aF hp4];refine⟨by simp only[af];omega,?_⟩;simp only[aG];exact app _ (jC r) (by simp only[sM,mz]at hm;omega) rfl rfl λ_ _ _=>trivial|bF n =>
    simp only[kT,toD];lk;try simp only[aa,if_false]
    lk;simp only[show(W "lamp" == W "lamp")=true from by decide,if_true];lk;rw[aF hp4];refine⟨trivial,?_⟩;rw[aF hp4];refine⟨by simp only[af];omega,?_⟩;simp only[aG];exact app _ (jC r) (by simp only[sM,mz]at hm;omega) rfl rfl λ_ _ _=>trivial|one w s1 =>
    simp only[kT,toD];simp only[aE]at hds;lk;try simp only[aa,if_false]
    lk;simp only[show(c1 w==W "lamp")=false from by cases w<;>decide,aa,if_false];lk;simp only[show(((2:Nat):Int)==1)=false from by decide,aa,if_false];lk;simp only[show(((2:Nat):Int)==2)=true from by decide,if_true];lk;rw[aF hq4];refine⟨trivial,?_⟩;have lc:(c1 w).length<=6:=by cases w<;>decide
    refine⟨by rw[iD];simp only[ag,ak];omega,?_⟩;refine bO (by show 2<=aL;decide) λu eQ x5 hu hu5=>?_;have hp5:=x5 p _ hp4;have hq5:=x5 q _ hq4;have hx5:=hx4.trans x5;have uq:u≠q:=λz=>by rw[z,hq4]at hu;cases hu
    k_ne;rw[aF hq5,aF hu5];simp only[sM,mz]at hm hlen;refine⟨by simp only[nk,af,ag,ak];omega,?_⟩;simp only[aG];refine⟨jC r+mz s1+1,by omega,.t (c1 w++W " ")::.s s1::r,f,_,rfl,by rw[bS hpq];exact hp5,by rw[bE];simp [kT],by simp only[jC,sM];omega,by simp only[jC,sM];omega,?_,λb hb s' e=>?_,λb o' e=>?_⟩;·rw[<-htx,iD];simp [PB,tx]
    ·simp only[ba]at hb;rcases hb with rfl|rfl|hb;·cases e
     ·cases e;omega
     ·exact hdd b (by simp [hb]) s' e
    ·have n:b≠q:=λz=>by rw[z]at e;have:=x1 _ _ e;rw[hq]at this;cases this
     rw[bS n];exact hx5 _ _ e|two w s1 s2 =>
    simp only[kT,toD];simp only[aE]at hds;lk;try simp only[aa,if_false]
    lk;simp only[show(c2 w==W "lamp")=false from by cases w<;>decide,aa,if_false];lk;simp only[show(((3:Nat):Int)==1)=false from by decide,aa,if_false];lk;simp only[show(((3:Nat):Int)==2)=false from by decide,aa,if_false];lk;rw[aF hq4];refine⟨trivial,?_⟩;have lc:(c2 w).length<=6:=by cases w<;>decide
    refine⟨by rw[iD];simp only[ag,ak];omega,?_⟩;refine⟨by rw[iD];simp only[ah,ag,ak];omega,?_⟩;refine bO (by show 5<=aL;decide) λu eQ x5 hu hu5=>?_;have hp5:=x5 p _ hp4;have hq5:=x5 q _ hq4;have hx5:=hx4.trans x5;have uq:u≠q:=λz=>by rw[z,hq4]at hu;cases hu
    k_ne;rw[aF hq5,aF hu5];simp only[sM,mz]at hm hlen;refine⟨by simp only[nk,af,ag,ak];omega,?_⟩;simp only[aG];refine⟨jC r+mz s1+mz s2+3,by omega,.t (W "(")::.s s1::.t (W " " ++ c2 w++W " ")::.s s2::.t (W ")")::r,f,_,rfl,by rw[bS hpq];exact hp5,by rw[bE];simp [kT],by simp only[jC,sM];omega,by simp only[jC,sM];omega,?_,λb hb s' e=>?_,λb o' e=>?_⟩;·rw[<-htx,iD,B5,VT];simp [PB,tx]
    ·simp only[ba]at hb;rcases hb with rfl|rfl|rfl|rfl|rfl|hb;·cases e
     ·cases e;omega
     ·cases e
     ·cases e;omega
     ·cases e
     ·exact hdd b (by simp [hb]) s' e
    ·have n:b≠q:=λz=>by rw[z]at e;have:=x1 _ _ e;rw[hq]at this;cases this
     rw[bS n];exact hx5 _ _ e
theorem Nl (h:G.fns it=some (uC it)):∀(s:Sy){k:Nat}{st:aB}{Q:VK}{E:XK},(tx s).length<=aL->Q (.str<|tx s) st->aH G (k+aE s) it [toD s] st Q E:=by intro s;induction s with|yes =>intro k st Q E hl hQ;rw[show k+aE .yes=k+1 from rfl,aK h];simp![uC,start,toD];refine⟨rfl,?_⟩;lk;simp![show(W "yes" == W "lamp")=false from by cbv,aa,if_false,aG];lk;simp![show(((1:Nat):Int)==1)=true from by cbv,if_true];lk;exact hQ|no =>intro k st Q E hl hQ;rw[show k+aE .no=k+1 from rfl,aK h];simp![uC,start,toD];refine⟨rfl,?_⟩;lk;simp![show(W "no" == W "lamp")=false from by cbv,aa,if_false,aG];lk;simp![show(((1:Nat):Int)==1)=true from by cbv,if_true];lk;exact hQ|bF n =>intro k st Q E hl hQ;rw[show k+aE (.bF n)=k+1 from rfl,aK h];simp![uC,start,toD];refine⟨rfl,?_⟩;lk;simp![show(W "lamp" == W "lamp")=true from by cbv,if_true];lk;exact hQ|one w s ih =>intro k st Q E hl hQ;rw[show k+aE (.one w s)=k+aE s+1 from by simp![aE];lia,aK h];simp![uC,start,toD];refine⟨rfl,?_⟩;simp![tx,ah,ag]at hl;lk;simp![show(c1 w==W "lamp")=false from by cases w<;>cbv,aa,if_false,aG];lk;simp![show(((2:Nat):Int)==1)=false from by cbv,aa,if_false,aG];lk;simp![show(((2:Nat):Int)==2)=true from by cbv,if_true];lk;refine⟨by rw[iD];simp![ag,ak];lia,?_⟩;refine ih (by lia) ?_;k_ne;refine⟨by rw[iD];simp![ah,ag,ak];lia,?_⟩;rw[iD,show c1 w++[32]++tx s=tx (.one w s)from by simp [tx]];exact hQ|two w s t ih1 ih2 =>intro k st Q E hl hQ;have l1:=kh (aE s)<|aE t;have l2:=jy (aE s)<|aE t;rw[show k+aE (.two w s t)=k+max (aE s) (aE t)+1 from by simp![aE];lia,aK h];simp![uC,start,toD];refine⟨rfl,?_⟩;simp![tx,ah,ag,ak]at hl;lk;simp![show(c2 w==W "lamp")=false from by cases w<;>cbv,aa,if_false,aG];lk;simp![show(((3:Nat):Int)==1)=false from by cbv,aa,if_false,aG];lk;simp![show(((3:Nat):Int)==2)=false from by cbv,aa,if_false,aG];lk;rw[show k+max (aE s) (aE t)=k+(max (aE s) (aE t)-aE s)+aE s from by lia];refine ih1 (by lia) ?_;rw[show k+(max (aE s) (aE t)-aE s)+aE s=k+(max (aE s) (aE t)-aE t)+aE t from by lia];k_ne;refine⟨by rw[B5];simp![ah,ag,ak];lia,?_⟩;refine⟨by rw[B5,iD];simp![ah,ag,ak];lia,?_⟩;refine⟨by rw[B5,iD];simp![ah,ag,ak];lia,?_⟩;refine⟨by rw[B5,iD];simp![ah,ag,ak];lia,?_⟩;refine ih2 (by lia) ?_;k_ne;refine⟨by rw[B5,iD];simp![ah,ag,ak];lia,?_⟩;refine⟨by rw[B5,iD,VT];simp![ah,ag,ak];lia,?_⟩;rw[B5,iD,VT,show[40]++tx s++[32]++c2 w++[32]++tx t++[41]=tx (.two w s t)from by simp [tx]];exact hQ
end
noncomputable def qG:Fn:=⟨2,3,[.asg (.nm 2)<|.v 1,.whl (.and_ (.cmp .lt (.v 2)<|.bi .len [.v 0])<|.cmp .in_ (.ix (.v 0)<|.v 2)<|.c<|.str<|W "abcdefghijklmnopqrstuvwxyz") [.asg (.nm 2)<|.bin .add (.v 2)<|.c<|.int 1],.ret<|.sl (.v 0) [.v 1] [.v 2]]⟩
noncomputable def sO (ip iw:Nat):Fn:=⟨3,7,[.iff (.cmp .eq (.sl (.v 0) [.v 1] [.bin .add (.v 1)<|.c<|.int 1])<|.c<|.str<|W "(") [.asg (.nm 3)<|.call ip [.v 0,.bin .add (.v 1)<|.c<|.int 1,.v 2],.iff (.or_ (.cmp .is_ (.v 3)<|.c .non)<|.cmp .ne (.sl (.v 0) [.ix (.v 3)<|.c<|.int 1] [.bin .add (.ix (.v 3)<|.c<|.int 1)<|.c<|.int 1])<|.c<|.str<|W " ") [.ret<|.c .non] [],.asg (.nm 4)<|.call iw [.v 0,.bin .add (.ix (.v 3)<|.c<|.int 1)<|.c<|.int 1],.asg (.nm 5)<|.bin .add (.bin .add (.ix (.v 3)<|.c<|.int 1)<|.c<|.int 1)<|.bi .len [.v 4],.iff (.or_ (.cmp .fP (.v 4)<|.tup [.c<|.str<|W "and",.c<|.str<|W "or",.c<|.str<|W "then",.c<|.str<|W "same",.c<|.str<|W "since"])<|.cmp .ne (.sl (.v 0) [.v 5] [.bin .add (.v 5)<|.c<|.int 1])<|.c<|.str<|W " ") [.ret<|.c .non] [],.asg (.nm 6)<|.call ip [.v 0,.bin .add (.v 5)<|.c<|.int 1,.v 2],.iff (.or_ (.cmp .is_ (.v 6)<|.c .non)<|.cmp .ne (.sl (.v 0) [.ix (.v 6)<|.c<|.int 1] [.bin .add (.ix (.v 6)<|.c<|.int 1)<|.c<|.int 1])<|.c<|.str<|W ")") [.ret<|.c .non] [],.ret<|.tup [.tup [.v 4,.ix (.v 3)<|.c<|.int 0,.ix (.v 6)<|.c<|.int 0],.bin .add (.ix (.v 6)<|.c<|.int 1)<|.c<|.int 1]] [],.asg (.nm 4)<|.call iw [.v 0,.v 1],.iff (.and_ (.cmp .in_ (.v 4)<|.tup [.c<|.str<|W "not",.c<|.str<|W "before",.c<|.str<|W "once",.c<|.str<|W "sofar"])<|.cmp .eq (.sl (.v 0) [.bin .add (.v 1)<|.bi .len [.v 4]] [.bin .add (.bin .add (.v 1)<|.bi .len [.v 4])<|.c<|.int 1])<|.c<|.str<|W " ") [.asg (.nm 3)<|.call ip [.v 0,.bin .add (.bin .add (.v 1)<|.bi .len [.v 4])<|.c<|.int 1,.v 2],.iff (.cmp .is_ (.v 3)<|.c .non) [.ret<|.c .non] [],.ret<|.tup [.tup [.v 4,.ix (.v 3)<|.c<|.int 0],.ix (.v 3)<|.c<|.int 1]] [],.iff (.or_ (.cmp .eq (.v 4)<|.c<|.str<|W "yes")<|.cmp .eq (.v 4)<|.c<|.str<|W "no") [.ret<|.tup [.tup [.v 4],.bin .add (.v 1)<|.bi .len [.v 4]]] [],.iff (.cmp .fP (.v 4)<|.v 2) [.ret<|.c .non] [],.ret<|.tup [.tup [.c<|.str<|W "lamp",.v 4],.bin .add (.v 1)<|.bi .len [.v 4]]]⟩
noncomputable def rJ (ip ide:Nat):Fn:=⟨2,3,[.asg (.nm 2)<|.call ip [.v 0,.c<|.int 0,.v 1],.iff (.or_ (.cmp .is_ (.v 2)<|.c .non)<|.or_ (.cmp .ne (.ix (.v 2)<|.c<|.int 1)<|.bi .len [.v 0])<|.cmp .gt (.call ide [.ix (.v 2)<|.c<|.int 0])<|.c<|.int 8) [.ret<|.c .non] [],.ret<|.ix (.v 2)<|.c<|.int 0]⟩
theorem Ep (s:List Nat):bN s++fE s=s:=by unfold bN fE;exact List.takeWhile_append_dropWhile
theorem M0 (s:List Nat):s.drop (bN s).length=fE s:=by have:=congrArg (List.drop (bN s).length)<|Ep s;rw[List.drop_left]at this;exact this.symm
theorem vP {T:List Nat}{i c:Nat}(hi:i<=T.length):(cut T (some (i:Int)) (some<|(i:Int)+1)==[c])=(past c<|T.drop i).isSome:=by
 by_cases l:i<T.length
 ·rw[show(i:Int)+1=(i+1:Nat)from by lia,GQ (by lia)<|by lia,show i+1-i=1 from by lia,fx l];simp![uy,past];by_cases e:T[i]=c;·simp_all
  ·simp [e]
 ·have e:i=T.length:=by lia
  subst e;unfold cut cJ;simp only;rw[if_neg<|by lia,if_neg<|by lia,tu,Nat.min_self,AaC,Abe];rfl
section
variable {G:Prog}{k iw ip ide iso:Nat}{st:aB}{Q:VK}{E:XK}{T:List Nat}{names:List<|List Nat}
theorem N1 (h:G.fns iw=some qG){i:Nat}(hi:i<=T.length)(hT:T.length<=aL)(hQ:Q (.str<|bN<|T.drop i) st):aH G (k+1) iw [.str T,.int (i:Nat)] st Q E:=by
 rw[aK h];simp only[qG,start];refine⟨rfl,?_⟩;lk;try dsimp only
 refine dB ?_;refine rA (fU G<|av _) (λm σ aA=>∃j:Nat,σ=[some<|.str T,some<|.int (i:Nat),some<|.int (j:Nat)]/\aA=st/\i<=j/\j<=T.length/\m=T.length-j/\bN (T.drop i)=(T.drop i).take (j-i)++bN (T.drop j)) ?_ (m:=T.length-i) ⟨i,rfl,rfl,av _,hi,rfl,by simp⟩;rintro m σ aZ ⟨j,rfl,rfl,l1,l2,hm,e2⟩;k_ne;refine⟨hT,?_⟩;have done:(T.drop j=[]\/∃c t,T.drop j=c::t/\pR c=false)->cH (aH G k) G.sub [.ret<|.sl (.v 0) [.v 1] [.v 2]] ⟨λ_ aA=>Q .non aA,Q,λ_ _=>False,λ_ _=>False,λc _ aA=>E c aA⟩ [some<|.str T,some<|.int (i:Nat),some<|.int (j:Nat)] aZ:=λhz=>by
  have z1:bN (T.drop j)=[]:=by
   rcases hz with hz|⟨c,t,hz,hl⟩;·rw[hz];rfl
   ·rw[hz];unfold bN;rw[gw,hl];rfl
  lk;refine⟨hT,?_⟩;rw[GQ l1 l2];have e3:(T.drop i).take (j-i)=bN (T.drop i):=by rw[e2,z1,dn]
  rw[e3];exact hQ
 by_cases hl:j<T.length
 ·have hl':(j:Int)<(T.length:Int):=by omega
  simp only[hl',decide_true,if_true];k_ne;rw[iO<|by omega,br hl];simp only[aO];k_ne;refine⟨hT,?_⟩;have ed:T.drop j=T[j]::T.drop (j+1):=fx hl;cases hc:occurs [T[j]] cZ with|false =>have hc':occurs [T[j]] (W "abcdefghijklmnopqrstuvwxyz")=false:=hc;simp only[hc',aa,if_false];exact done<|.inr ⟨_,_,ed,hc⟩|true =>
   have hc':pR T[j]=true:=hc;have hc2:occurs [T[j]] (W "abcdefghijklmnopqrstuvwxyz")=true:=hc;simp only[hc2,if_true];lk;rw[aG];refine⟨m-1,by omega,j+1,rfl,rfl,by omega,by omega,by omega,?_⟩;rw[e2,ed];have:bN (T[j]::T.drop (j+1))=T[j]::bN (T.drop<|j+1):=by unfold bN;rw[gw,hc'];rfl
   rw[this];have e5:(T.drop i).take (j+1-i)=(T.drop i).take (j-i)++[T[j]]:=by rw[show j+1-i=j-i+1 from by omega,Aal];rw[Zw,show i+(j-i)=j from by omega,br hl];rfl
   rw[e5,jd,t8]
 ·have hl':¬(j:Int)<(T.length):=by omega
  simp only[hl',decide_false,aa,if_false];exact done<|.inl<|fk<|by omega
theorem Gy (st:aB)(w:List Nat):([D.str<|W "and",.str<|W "or",.str<|W "then",.str<|W "same",.str<|W "since"].any λd=>bZ st d<|.str w)=lU w:=by
 have c:∀a b:List Nat,(a==b)=(b==a):=λa b=>by rw[fc];simp![beq_iff_eq];exact eq_comm
 simp![i7,tj,bZ,lU,c _ w,ek,Abf]
theorem Gu (st:aB)(w:List Nat):([D.str<|W "not",.str<|W "before",.str<|W "once",.str<|W "sofar"].any λd=>bZ st d<|.str w)=fM w:=by
 have c:∀a b:List Nat,(a==b)=(b==a):=λa b=>by rw[fc];simp![beq_iff_eq];exact eq_comm
 simp![i7,tj,bZ,fM,c _ w,ek,Abf]
theorem Ki (st:aB):fD st [D.str<|W "and",.str<|W "or",.str<|W "then",.str<|W "same",.str<|W "since"]:=⟨rfl,by cbv⟩
theorem Lh (st:aB):fD st [D.str<|W "not",.str<|W "before",.str<|W "once",.str<|W "sofar"]:=⟨rfl,by cbv⟩
theorem YH (h:G.fns ip=some (sO ip iw))(hw:G.fns iw=some qG)(hT:T.length<=aL):∀(f:Nat){k:Nat}{st:aB}{Q:VK}{E:XK}{i:Nat},i<=T.length->sgn (T.drop i)<f -> (pL names f (T.drop i)=none->Q .non st)->(∀x rest,pL names f (T.drop i)=some (x,rest)->∀j:Nat,j<=T.length->T.drop j=rest->Q (.tup [pD x,.int (j:Nat)]) st)->aH G (k+f+1) ip [.str T,.int (i:Nat),.tup<|names.map .str] st Q E:=by intro f;induction f with|zero=>intro k st Q E i _ l;omega|succ f ih =>intro k st Q E i hi hsg h0 h1;rw[show k+(f+1)+1=k+f+1+1 from by omega,aK h];simp only[sO,start];refine⟨rfl,?_⟩;lk;refine⟨hT,?_⟩;rw[B5,vP hi];cases hp:past 40 (T.drop i)with
  |some s1 =>
   obtain⟨ed1,l1⟩:=hU hp;have sg1:=AV (.inl rfl) hp;have e0:pL names (f+1) (T.drop i)=(pL names f s1).bind λp=>(past 32 p.2).bind λs3=>if lU (bN s3)=true then(past 32<|fE s3).bind λs5=>(pL names f s5).bind λq=>(past 41 q.2).map λs7=>(.two (bN s3) p.1 q.1,s7)else none:=by
    conv=>lhs;unfold pL
    simp only[hp]
   simp only[lu,if_true];lk;rw[show (i:Int)+1=((i+1:Nat):Int)from by omega];refine ih (i:=i+1) (by omega) (by rw[<-ed1];omega) (λhx=>?_) λx rest hx j lj ej=>?_
   ·lk;try simp only[jW,if_true]
    lk;refine h0 ?_;rw[e0,ed1,hx];rfl
   rw[ed1,hx,bg]at e0;have sgr:=KU f hx;lk;try simp only[jW,aa,if_false]
   k_ne;refine⟨hT,?_⟩;rw[iD,vP lj,ej];cases h2:past 32 rest with|none =>simp only[pf,bu,if_true];lk;refine h0 ?_;rw[e0,h2];rfl|some s3 =>
    rw[h2,bg]at e0;rw[<-ej]at h2;obtain⟨ed3,l3⟩:=hU h2;have sg3:=AV (.inr rfl) h2;simp only[lu,bf,aa,if_false,aG];lk;rw[show (j:Int)+1=((j+1:Nat):Int)from by omega];refine N1 (k:=k+f) hw (by omega) hT ?_;rw[<-ed3];have lw:=A0 s3;have l33:s3.length=T.length-(j+1):=by rw[ed3,bz]
    lk;refine⟨by omega,?_⟩;lk;refine⟨Ki st,?_⟩;rw[Gy];cases ht:lU (bN s3)with|false =>simp only[bu,if_true];lk;refine h0 ?_;rw[e0,if_neg<|by rw[ht];simp]|true =>
     simp only[bf,aa,if_false];k_ne;refine⟨hT,?_⟩;have sgw:=A8 s3;rw[if_pos ht]at e0;have ee:(j:Int)+1+((bN s3).length:Int)=((j+1+(bN s3).length:Nat):Int):=by omega
     rw[ee];have em:T.drop (j+1+(bN s3).length)=fE s3:=by rw[<-Yz,<-ed3,M0]
     have lm:j+1+(bN s3).length<=T.length:=by omega
     generalize j+1+(bN s3).length=m at em lm;try rw[iD]
     rw[vP lm,em];cases h3:past 32 (fE s3)with|none =>simp only[pf,bu,if_true];lk;refine h0 ?_;rw[e0,h3];rfl|some s5 =>
      rw[h3,bg]at e0;rw[<-em]at h3;obtain⟨ed5,l5⟩:=hU h3;have sg5:=AV (.inr rfl) h3;rw[em]at sg5;rw[ej]at sg3;simp only[lu,bf,aa,if_false,aG];lk;rw[show (m:Int)+1=((m+1:Nat):Int)from by omega];refine ih (i:=m+1) (by omega) (by rw[<-ed5];rw[<-ed1]at sgr;omega) (λhx=>?_) λy rest6 hy j6 l6 e6=>?_
      ·lk;try simp only[jW,if_true]
       lk;refine h0 ?_;rw[e0,ed5,hx];rfl
      rw[ed5,hy,bg]at e0;lk;try simp only[jW,aa,if_false]
      k_ne;refine⟨hT,?_⟩;rw[VT,vP l6,e6];cases h4:past 41 rest6 with|none =>simp only[pf,bu,if_true];lk;refine h0 ?_;rw[e0,h4];rfl|some s7 =>rw[h4]at e0;rw[<-e6]at h4;obtain⟨ed7,l7⟩:=hU h4;simp only[lu,bf,aa,if_false,aG];lk;rw[show (j6:Int)+1=((j6+1:Nat):Int)from by omega];exact h1 (.two (bN s3) x y) s7 e0 (j6+1) (by omega) ed7.symm
  |none =>
   have e0:pL names (f+1) (T.drop i)=if fM (bN<|T.drop i)=true/\(past 32<|fE<|T.drop i).isSome=true then(past 32<|fE<|T.drop i).bind λs2=>(pL names f s2).map λp=>(.one (bN<|T.drop i) p.1,p.2)else if gU (bN<|T.drop i)=true then some (.nul<|bN<|T.drop i,fE<|T.drop i)else if bN (T.drop i)∈names then some (.bF<|bN<|T.drop i,fE<|T.drop i)else none:=by
    conv=>lhs;unfold pL
    simp only[hp]
   simp only[pf,aa,if_false,aG];lk;refine N1 (k:=k+f) hw hi hT ?_;have lw:=A0<|T.drop i;rw[bz]at lw;have em:T.drop (i+(bN<|T.drop i).length)=fE (T.drop i):=by rw[<-Yz,M0]
   have lm:i+(bN<|T.drop i).length<=T.length:=by omega
   have ee:(i:Int)+((bN<|T.drop i).length:Int)=((i+(bN<|T.drop i).length:Nat):Int):=by omega
   have sgw:=A8<|T.drop i;have lL:(bN<|T.drop i).length<=aL:=by omega
   have rest:¬(fM (bN<|T.drop i)=true/\(past 32<|fE<|T.drop i).isSome=true)->cH (aH G<|k+f+1) G.sub [.iff (.or_ (.cmp .eq (.v 4)<|.c<|.str<|W "yes")<|.cmp .eq (.v 4)<|.c<|.str<|W "no") [.ret<|.tup [.tup [.v 4],.bin .add (.v 1)<|.bi .len [.v 4]]] [],.iff (.cmp .fP (.v 4)<|.v 2) [.ret<|.c .non] [],.ret<|.tup [.tup [.c<|.str<|W "lamp",.v 4],.bin .add (.v 1)<|.bi .len [.v 4]]] ⟨λ_ aA=>Q .non aA,Q,λ_ _=>False,λ_ _=>False,λc _ aA=>E c aA⟩ [some<|.str T,some<|.int (i:Nat),some<|.tup<|names.map .str,none,some<|.str<|bN<|T.drop i,none,none] st:=λhne=>by rw[if_neg hne]at e0;have hnul:gU (bN<|T.drop i)=(bN (T.drop i)==W "yes" || bN (T.drop i)==W "no"):=rfl;lk;cases hz:gU (bN<|T.drop i)with
    |true =>
     rw[if_pos hz]at e0;have go:cH (aH G<|k+f+1) G.sub [.ret<|.tup [.tup [.v 4],.bin .add (.v 1)<|.bi .len [.v 4]]] { nx:=cH (aH G<|k+f+1) G.sub [.iff (.cmp .fP (.v 4)<|.v 2) [.ret<|.c .non] [],.ret<|.tup [.tup [.c<|.str<|W "lamp",.v 4],.bin .add (.v 1)<|.bi .len [.v 4]]] ⟨λ_ aA=>Q .non aA,Q,λ_ _=>False,λ_ _=>False,λc _ aA=>E c aA⟩,rt:=Q,bk:=λ_ _=>False,ct:=λ_ _=>False,ex:=λc _ aA=>E c aA } [some<|.str T,some<|.int (i:Nat),some<|.tup<|names.map .str,none,some<|.str<|bN<|T.drop i,none,none] st:=by lk;refine⟨lL,?_⟩;rw[ee];exact h1 (.nul<|bN<|T.drop i) _ e0 _ lm em
     rw[hnul,b9]at hz;by_cases q1:(bN (T.drop i)==W "yes")=true;·simp only[q1,if_true];exact go
     ·have q2:=hz.resolve_left q1;simp only[q1,q2,if_true,aa,if_false];exact go|false =>
     rw[if_neg<|by rw[hz];simp]at e0;rw[hnul,zt]at hz;simp only[hz.1,hz.2,aa,if_false,aG];lk;refine⟨kL st names,?_⟩;rw[C4];by_cases hm:bN (T.drop i)∈names;·rw[if_pos hm]at e0;rw[List.contains_iff_mem.mpr hm];simp only[bf,aa,if_false,aG];lk;refine⟨lL,?_⟩;rw[ee];exact h1 (.bF<|bN<|T.drop i) _ e0 _ lm em
     ·rw[if_neg hm]at e0;have hc:names.contains (bN<|T.drop i)=false:=by cases q:names.contains (bN<|T.drop i)with|false=>rfl|true=>exact absurd (List.contains_iff_mem.mp q) hm
      rw[hc];simp only[bu,if_true];lk;exact h0 e0
   lk;refine⟨Lh st,?_⟩;rw[Gu];cases ho:fM (bN<|T.drop i)with|false =>simp only[aa,if_false,aG];exact rest<|by rw[ho];simp|true =>simp only[if_true];k_ne;refine⟨lL,lL,hT,?_⟩;rw[ee,iD,vP lm,em];cases hs:past 32 (fE<|T.drop i)with|none =>simp only[pf,aa,if_false,aG];exact rest<|by rw[hs];simp|some s2 =>
     have eZ:=hs;rw[<-em]at eZ;obtain⟨ed2,l2⟩:=hU eZ;have sg2:=AV (.inr rfl) hs;rw[if_pos ⟨ho,by rw[hs];rfl⟩,hs,bg]at e0;simp only[lu,if_true];lk;refine⟨lL,?_⟩;try k_ne
     rw[ee];generalize i+(bN<|T.drop i).length=m at ed2 l2 lm em;rw[show (m:Int)+1=((m+1:Nat):Int)from by omega];refine ih (i:=m+1) (by omega) (by rw[<-ed2];omega) (λhx=>?_) λx ED hx j lj ej=>?_
     ·lk;try simp only[jW,if_true]
      lk;refine h0 ?_;rw[e0,ed2,hx];rfl
     rw[ed2,hx,gz]at e0;exact h1 (.one (bN<|T.drop i) x) ED e0 j lj ej
end
noncomputable def KQ:Fn:=⟨3,7,[.asg (.nm 3)<|.bin .mod (.v 1)<|.bin .add (.bi .len [.v 0])<|.c<|.int 1,.asg (.nm 4)<|.ix (.c<|.str<|W " ()\nabxyznotrdlamp0123456789-+<>.TF")<|.bin .mod (.bin .fdiv (.v 1)<|.c<|.int 1000)<|.c<|.int 35,.asg (.nm 5)<|.bin .mod (.bin .fdiv (.v 1)<|.c<|.int 40000)<|.c<|.int 6,.iff (.cmp .eq (.v 5)<|.c<|.int 0) [.ret<|.bin .add (.bin .add (.sl (.v 0) [] [.v 3])<|.v 4)<|.sl (.v 0) [.v 3] []] [],.iff (.cmp .eq (.v 5)<|.c<|.int 1) [.ret<|.bin .add (.sl (.v 0) [] [.v 3])<|.sl (.v 0) [.bin .add (.v 3)<|.c<|.int 1] []] [],.iff (.cmp .eq (.v 5)<|.c<|.int 2) [.ret<|.bin .add (.bin .add (.sl (.v 0) [] [.v 3])<|.v 4)<|.sl (.v 0) [.bin .add (.v 3)<|.c<|.int 1] []] [],.iff (.cmp .eq (.v 5)<|.c<|.int 3) [.asg (.nm 6)<|.bin .add (.v 3)<|.bin .mod (.bin .fdiv (.v 1)<|.c<|.int 7)<|.c<|.int 9,.ret<|.bin .add (.sl (.v 0) [] [.v 3])<|.sl (.v 0) [.v 6] []] [],.iff (.cmp .eq (.v 5)<|.c<|.int 4) [.ret<|.ix (.lst [.bin .add (.v 0)<|.v 0,.bin .add (.sl (.v 0) [.v 3] [])<|.sl (.v 0) [] [.v 3],.bin .add (.c<|.str<|W " ")<|.v 0,.bin .add (.v 0)<|.c<|.str<|W " "])<|.bin .mod (.v 1)<|.c<|.int 4] [],.ret<|.ix (.bin .add (.v 2)<|.lst [.c .non,.c<|.int 5,.lst [.v 0],.c<|.str<|W ""])<|.bin .mod (.v 1)<|.bin .add (.bi .len [.v 2])<|.c<|.int 4]⟩
set_option tactic.hygienic true in
theorem KG {names:List<|List Nat}:∀(f:Nat){s r:List Nat}{x:Py},pL names f s=some (x,r)->∃y,x=py y/\over names y/\aE y=deep x/\deep x<=f|0,_,_,_,h=>by simp [pL]at h|f+1,s,r,x,h=>by unfold pL at h;cases e:past 40 s with
  |some s1 =>
   simp![e]at h;simp![bb]at h;obtain⟨⟨a,s2⟩,h1,s3,h2,h⟩:=h;split at h
   ·rename_i ht;simp![bb,ay,gx]at h;obtain⟨s5,h3,⟨b,s6⟩,h4,s7,h5,rfl,rfl⟩:=h;obtain⟨y,ey,oy,dy,ly⟩:=KG f h1;obtain⟨z,ez,oz,dz,lz⟩:=KG f h4;have hw:∃w:W2,bN s3=c2 w:=by
     unfold lU at ht;simp![b9,beq_iff_eq]at ht;rcases ht with(((h1|h1)|h1)|h1)|h1;·exact⟨.and,h1⟩
     ·exact⟨.or,h1⟩
     ·exact⟨.bA,h1⟩
     ·exact⟨.same,h1⟩
     ·exact⟨.since,h1⟩
    obtain⟨w,hw⟩:=hw;dsimp only;refine⟨.two w y z,by rw[hw,ey,ez];rfl,⟨oy,oz⟩,by simp![aE,deep,dy,dz],?_⟩;simp![deep];lia
   ·cases h|none =>
   simp![e]at h;split at h
   ·rename_i h1;simp![bb,ay,gx]at h;obtain⟨s2,h3,⟨a,s4⟩,h4,rfl,rfl⟩:=h;obtain⟨y,ey,oy,dy,ly⟩:=KG f h4;have hw:∃w:W1,bN s=c1 w:=by
     have ht:=h1.1;unfold fM at ht;simp![b9,beq_iff_eq]at ht;rcases ht with((h1|h1)|h1)|h1;·exact⟨.not,h1⟩
     ·exact⟨.before,h1⟩
     ·exact⟨.once,h1⟩
     ·exact⟨.sofar,h1⟩
    obtain⟨w,hw⟩:=hw;refine⟨.one w y,by rw[hw,ey];rfl,oy,by simp![aE,deep,dy],?_⟩;simp![deep];lia
   ·split at h
    ·rename_i h2;cases h;unfold gU at h2;simp![b9,beq_iff_eq]at h2;rcases h2 with h2|h2;·exact⟨.yes,by rw[h2];rfl,trivial,rfl,by simp![deep];lia⟩
     ·exact⟨.no,by rw[h2];rfl,trivial,rfl,by simp![deep];lia⟩
    ·split at h;·rename_i h3;cases h;exact⟨.bF<|bN s,rfl,h3,rfl,by simp![deep];lia⟩
     ·cases h
noncomputable def iJ (names:List<|List Nat)(F:Nat)(T:List Nat):Option Py:=(pL names F T).bind λp=>if p.2=[]/\deep p.1<=8 then some p.1 else none
theorem agree {names:List<|List Nat}(hn:∀n∈names,bD n=true){F:Nat}(hF:8<=F)(T:List Nat):XF names T=iJ names F T:=by have hn':∀n∈names,gU n=false/\fM n=false:=λn h=>⟨(iS<|hn n h).2.2.2.1,(iS<|hn n h).2.2.2.2⟩;cases h:XF names T with
 |some x =>
  unfold XF at h;simp![bb]at h;obtain⟨y,h1,h2⟩:=h;by_cases ho:fK names y=true
  ·rw[if_pos ho]at h2;cases h2;unfold pW at h1;simp![bb]at h1;obtain⟨⟨z,r⟩,h3,h4⟩:=h1;by_cases hr:r=[];·rw[if_pos hr]at h4;cases h4;unfold iJ;rw[KL 8 F hF h3 ho,bg,if_pos ⟨hr,(rN 8 h3).1⟩]
   ·simp_all
  simp_all|none =>cases h':iJ names F T with|none=>rfl|some x =>
   unfold iJ at h';simp![bb]at h';obtain⟨⟨z,r⟩,h3,h4⟩:=h';by_cases hr:r=[]/\deep z<=8;·obtain⟨i1,i2⟩:=KN hn' F 8 h3 hr.2;unfold XF pW at h;rw[i1,bg,if_pos hr.1,bg,if_pos i2]at h;cases h
   simp_all
section
variable {G:Prog}{k iw ip ide iso isp:Nat}{st:aB}{Q:VK}{E:XK}{T:List Nat}{names:List<|List Nat}
theorem C7 (h:G.fns iso=some (rJ ip ide))(hp:G.fns ip=some (sO ip iw))(hw:G.fns iw=some qG)(hd:G.fns ide=some (sY ide))(hT:T.length<=aL){F:Nat}(hF:sgn T<F) (h0:iJ names F T=none->∀aA,Ext st aA->Q .non aA)(h1:∀x,iJ names F T=some x->∀aA,Ext st aA->Q (pD x) aA):aH G (k+F+2) iso [.str T,.tup<|names.map .str] st Q E:=by
 rw[aK h];simp only[rJ,start];refine⟨rfl,?_⟩;lk;refine YH (k:=k) hp hw hT F (i:=0) (cg _) hF (λhx=>?_) λx rest hx j lj ej=>?_
 ·lk;try simp only[jW,if_true]
  lk;refine h0 ?_ st .refl;rw[n6]at hx;unfold iJ;rw[hx];rfl
 rw[n6]at hx;lk;try simp only[jW,aa,if_false]
 k_ne;refine⟨hT,?_⟩;have e0:iJ names F T=if rest=[]/\deep x<=8 then some x else none:=by unfold iJ;rw[hx];rfl
 by_cases hj:j=T.length
 ·have er:rest=[]:=by rw[<-ej,hj];exact AaC
  have e1:((j:Int)==(T.length:Int))=true:=beq_iff_eq.mpr (by omega);simp only[e1,bf,aa,if_false];k_ne;obtain⟨y,rfl,oy,dy,ly⟩:=KG F hx;rw[nL];refine fB (j:=0+aE y) (by omega)<|Df hd y λaC x1=>?_;k_ne;rw[<-dy]at e0;by_cases h8:aE y<=8
  ·have h8':¬(8:Int)<(aE y:Int):=by omega
   simp only[h8',decide_false,aa,if_false,aG];rw[<-nL];exact h1 _ (by rw[e0,if_pos ⟨er,h8⟩]) aC x1
  ·have h8':(8:Int)<(aE y):=by omega
   simp only[h8',decide_true,if_true];exact h0 (by rw[e0,if_neg λz=>h8 z.2]) aC x1
 ·have er:¬rest=[]:=λz=>by rw[z]at ej;have:=congrArg fw ej;rw[bz,ak]at this;omega
  have e1:((j:Int)==T.length)=false:=beq_eq_false_iff_ne.mpr (by omega);simp only[e1,bu,if_true];exact h0 (by rw[e0,if_neg λz=>er z.1]) st .refl
end
theorem sH {α:Type}{T:List α}{j:Nat}:cut T none (some (j:Int))=T.take j:=by
 unfold cut cJ;simp only;rw[if_neg<|by lia];by_cases h:j<=T.length;·simp_all
 ·simp_all
theorem iC {α:Type}{T:List α}{j:Nat}:cut T (some (j:Int)) none=T.drop j:=by
 unfold cut cJ;simp only;rw[if_neg<|by lia,tu];by_cases h:j<=T.length;·rw[Nat.min_eq_left h,tq<|by simp]
 ·rw[Nat.min_eq_right<|by lia,fk<|av _,Abe,fk<|by lia]
noncomputable def w1 (c:Nat):Nat:=if c=40\/c=32 then 1 else 0
noncomputable def mX:List Nat->Nat|[]=>0|c::s=>if c=10 then 0 else w1 c+mX s
noncomputable def lm:List Nat->Nat|[]=>0|c::s=>max (mX<|c::s)<|lm s
theorem Bw (s:List Nat):mX s<=lm s:=by cases s with|nil=>exact av _|cons c s=>exact kh ..
theorem Nz (a b:List Nat):mX (a++b)<=mX a+mX b:=by induction a with|nil=>simp [mX]|cons c a ih=>simp![d7,mX];split<;>lia
theorem kE (a b:List Nat):lm (a++b)<=lm a+lm b:=by induction a with|nil=>simp [lm]|cons c a ih =>have h1:=Nz (c::a) b;have h2:=Bw b;simp![d7,lm]at h1 ⊢;lia
theorem Us (a b c:List Nat):lm (a++b++c)<=lm a+lm b+lm c:=by have:=kE (a++b) c;have:=kE a b;lia
theorem Dx (s:List Nat):∀n,mX (s.take n)<=mX s:=by induction s with|nil=>simp [mX]|cons c s ih =>intro n;cases n with|zero=>simp [mX]|succ n=>simp![uy,mX];have:=ih n;split<;>lia
theorem GI (s:List Nat):∀n,lm (s.take n)<=lm s:=by induction s with|nil=>simp [lm]|cons c s ih =>intro n;cases n with|zero=>simp [lm]|succ n =>have h1:=ih n;have h2:=Dx (c::s)<|n+1;simp![uy,lm]at h2 ⊢;lia
theorem Ea (s:List Nat):∀n,lm (s.drop n)<=lm s:=by induction s with|nil=>simp|cons c s ih =>intro n;cases n with|zero=>simp|succ n=>have:=ih n;simp![Zj,lm];lia
theorem ZZ (c:Nat):lm [c]<=1:=by
 simp![lm,mX,w1];split;·cbv
 ·split<;>cbv
def Of (T:List Nat)(ms:List<|List Nat)(x:List Nat):Prop:=x∈ms\/x.length<=2*T.length+1/\lm x<=2*lm T+1
section
variable {G:Prog}{k isp mo:Nat}{st:aB}{Q:VK}{E:XK}{T:List Nat}{ms:List<|List Nat}
theorem Lm (h:G.fns isp=some KQ)(hT:T.length<=100000)(hm:st mo=some (.lst<|ms.map .str))(hl:ms.length<=1000){c:Int}(hc:0<=c)(q1:∀x aA,Ext st aA->Of T ms x->Q (.str x) aA)(q2:∀aA,Ext st aA->Q .non aA)(q3:∀aA,Ext st aA->Q (.int 5) aA)(q4:∀p aA,Ext st aA->aA p=some (.lst [.str T])->Q (.ref p) aA):aH G (k+1) isp [.str T,.int c,.ref mo] st Q E:=by
 have hL:aL=16777216:=rfl;rw[aK h];simp only[KQ,start];refine⟨rfl,?_⟩;lk;refine⟨by omega,by omega,?_⟩;have a0:0<=c % ((T.length:Int)+1):=jj _ (by omega);have a1:c % ((T.length:Int)+1)<(T.length:Int)+1:=g9 _ (by omega);obtain⟨a,ea⟩:∃a:Nat,c % ((T.length:Int)+1)=(a:Int):=⟨(c % ((T.length:Int)+1)).toNat,by omega⟩;rw[ea]at a0 a1 ⊢;have la:a<=T.length:=by omega
 lk;refine⟨⟨by decide,by decide⟩,by decide,by decide,?_⟩;have b0:0<=c / 1000 % 35:=jj _ (by omega);have b1:c / 1000 % 35<35:=g9 _ (by omega);obtain⟨b,eb⟩:∃b:Nat,c / 1000 % 35=(b:Int):=⟨(c / 1000 % 35).toNat,by omega⟩;rw[eb]at b0 b1 ⊢;have lb:b<(W " ()\nabxyznotrdlamp0123456789-+<>.TF").length:=by
  have:(W " ()\nabxyznotrdlamp0123456789-+<>.TF").length=35:=by decide
  omega
 rw[iO lb,br lb];simp only[aO];generalize (W " ()\nabxyznotrdlamp0123456789-+<>.TF")[b]=sn;have s1:=ZZ sn;lk;refine⟨⟨by decide,by decide⟩,by decide,?_⟩;have w0:0<=c / 40000 % 6:=jj _ (by omega);have w1:c / 40000 % 6<6:=g9 _ (by omega);generalize c / 40000 % 6=w at w0 w1;have sd:∀j,lm (T.drop j)<=lm T:=Ea T;have aA:lm (T.take a)<=lm T:=GI T a;have lt:(T.take a).length<=T.length:=by rw[n4];omega
 have ld:∀j,(T.drop j).length<=T.length:=λj=>by rw[bz];omega
 have lta:(T.take a).length+(T.drop a).length=T.length:=by rw[n4,bz];omega
 lk;by_cases e:w=0;·subst e;simp only[beq_self_eq_true,if_true];lk;rw[sH,iC];refine⟨by omega,by(try simp only[ag,ak]);omega,by omega,by simp only[ah,ag,ak];omega,?_⟩;refine q1 _ st .refl<|.inr ⟨by simp only[ah,ag,ak];omega,?_⟩;have:=Us (T.take a) [sn]<|T.drop a;have:=sd a;omega
 simp only[show(w==0)=false from beq_eq_false_iff_ne.mpr e,aa,if_false,aG];lk;have ej:(a:Int)+1=((a+1:Nat):Int):=by omega
 by_cases e:w=1;·subst e;simp only[beq_self_eq_true,if_true];lk;rw[ej,sH,iC];have:=ld<|a+1;have:=sd<|a+1;refine⟨by omega,by omega,by omega,?_⟩;refine q1 _ st .refl<|.inr ⟨by simp only[ah];omega,?_⟩;have:=kE (T.take a)<|T.drop<|a+1;omega
 simp only[show(w==1)=false from beq_eq_false_iff_ne.mpr e,aa,if_false,aG];lk;by_cases e:w=2
 ·subst e;simp only[beq_self_eq_true,if_true];lk;rw[ej,sH,iC];have:=ld<|a+1;have d2:=sd<|a+1;have d3:(T.drop<|a+1).length<=(T.drop a).length:=by rw[bz,bz];omega
  refine⟨by omega,by(try simp only[ag,ak]);omega,by omega,by simp only[ah,ag,ak];omega,?_⟩;refine q1 _ st .refl<|.inr ⟨by simp only[ah,ag,ak];omega,?_⟩;have:=Us (T.take a) [sn]<|T.drop<|a+1;omega
 simp only[show(w==2)=false from beq_eq_false_iff_ne.mpr e,aa,if_false,aG];lk;by_cases e:w=3;·subst e;simp only[beq_self_eq_true,if_true];lk;refine⟨⟨by decide,by decide⟩,by decide,?_⟩;have g0:0<=c / 7 % 9:=jj _ (by omega);obtain⟨g,eg⟩:∃g:Nat,(a:Int)+c / 7 % 9=(g:Int):=⟨((a:Int)+c / 7 % 9).toNat,by omega⟩;rw[eg];lk;rw[sH,iC];have:=ld g;have:=sd g;refine⟨by omega,by omega,by omega,?_⟩;refine q1 _ st .refl<|.inr ⟨by simp only[ah];omega,?_⟩;have:=kE (T.take a)<|T.drop g;omega
 simp only[show(w==3)=false from beq_eq_false_iff_ne.mpr e,aa,if_false,aG];lk;by_cases e:w=4
 ·subst e;simp only[beq_self_eq_true,if_true];lk;rw[sH,iC];refine⟨by omega,by omega,by omega,by omega,by rw[iD];simp only[ag,ak];omega,by rw[iD];simp only[ag,ak];omega,?_⟩;refine bO (by show 4<=aL;decide) λp aC x1 hp hp1=>?_;k_ne;refine⟨by decide,?_⟩;rw[cP hp1,iD];have f0:0<=c % 4:=jj _ (by omega);have f1:c % 4<4:=g9 _ (by omega);obtain z|z|z|z:c % 4=0\/c % 4=1\/c % 4=2\/c % 4=3:=by omega
  all_goals rw[z]
  ·exact q1 _ aC x1<|.inr ⟨by simp only[ah];omega,by have:=kE T T;omega⟩
  ·exact q1 _ aC x1<|.inr ⟨by simp only[ah];omega,by have:=kE (T.drop a)<|T.take a;have:=sd a;omega⟩
  ·exact q1 _ aC x1<|.inr ⟨by simp only[ah,ag,ak];omega,by have:=kE [32] T;have:=ZZ 32;omega⟩
  ·exact q1 _ aC x1<|.inr ⟨by simp only[ah,ag,ak];omega,by have:=kE T [32];have:=ZZ 32;omega⟩
 simp only[show(w==4)=false from beq_eq_false_iff_ne.mpr e,aa,if_false,aG];lk;refine bO (by show 1<=aL;decide) λp aC x1 hp hp1=>?_;k_ne;refine bO (by show 4<=aL;decide) λq aJ x2 hq hq2=>?_;k_ne;rw[aF<|x2 _ _<|x1 _ _ hm,aF hq2];refine bO (by simp only[ah,af,ag,ak];omega) λu aZ x3 hu hu3=>?_;k_ne;rw[hV<|x3 _ _<|x2 _ _<|x1 _ _ hm];simp only[af];refine⟨by omega,?_⟩;rw[cP hu3];have f0:0<=c % ((ms.length:Int)+4):=jj _ (by omega);have f1:c % ((ms.length:Int)+4)<(ms.length:Int)+4:=g9 _ (by omega);obtain⟨g,eg⟩:∃g:Nat,c % ((ms.length:Int)+4)=(g:Int):=⟨(c % ((ms.length:Int)+4)).toNat,by omega⟩;rw[eg]at f0 f1 ⊢;rw[iO<|by simp only[ah,af,ag,ak];omega];have x13:Ext st aZ:=(x1.trans x2).trans x3;by_cases hg:g<ms.length;·rw[ff<|by simpa using hg,fi,br hg];exact q1 _ aZ x13<|.inl<|Aaz hg
 ·rw[fe<|by simpa using hg,af];obtain z|z|z|z:g-ms.length=0\/g-ms.length=1\/g-ms.length=2\/g-ms.length=3:=by omega
  all_goals rw[z]
  ·exact q2 aZ x13
  ·exact q3 aZ x13
  ·exact q4 p aZ x13<|x3 _ _<|x2 _ _ hp1
  ·exact q1 _ aZ x13<|.inr ⟨by show 0<=_;omega,by show 0<=_;omega⟩
end
def Ev (G:Prog)(k:Nat)(bY:aB)(f:Nat)(ds:List D)(b:Bool):Prop:=∀(st:aB)(Q:VK)(E:XK),Ext bY st->(∀aA,Ext st aA->Q (.bl b) aA)->aH G k f ds st Q E
section
variable {G:Prog}{k ir bT il bC iy ia ip iw iaw iap ib ih:Nat}{bY:aB}{nm:D}
noncomputable def lQ (fs gs:List<|List Nat):Bool:=decide (1<=fs.length)&&decide (fs.length<=2)&&decide (1<=gs.length)&&decide (gs.length<=2)&&(fs++gs).all bD&&(nM [] (fs++gs)==(fs++gs).length)
theorem P5 (h:G.fns il=some (sG ir bT<|.int 2))(hr:G.fns ir=some gC)(hn:xI G bT){fs gs:List<|List Nat}(hf:fs.length<=1000001)(hg:gs.length<=1000001)(hw:∀n∈fs++gs,n.length<=aL):Ev G (k+2) bY il [.tup<|fs.map .str,.tup<|gs.map .str]<|lQ fs gs:=by
 have hL:aL=16777216:=rfl;intro st Q E _ q;rw[aK h];simp![sG,start];refine⟨rfl,?_⟩;have r1:(decide ((1:Int)<=((fs.map D.str).length:Int))&&decide (((fs.map D.str).length:Int)<=2))=(decide (1<=fs.length)&&decide (fs.length<=2)):=by rw[fc];simp![af,ao,decide_eq_true_eq];lia
 have r2:(decide ((1:Int)<=((gs.map D.str).length:Int))&&decide (((gs.map D.str).length:Int)<=2))=(decide (1<=gs.length)&&decide (gs.length<=2)):=by rw[fc];simp![af,ao,decide_eq_true_eq];lia
 lk;refine gL hr ?_;rw[r1];have fin:∀aA,Ext st aA->lQ fs gs=false->Q (.bl false) aA:=λaA x e=>e▸q aA x;cases c1:(decide (1<=fs.length)&&decide (fs.length<=2))with|false =>simp![↓nX,bu,if_true];lk;exact fin st .refl<|by simp![lQ,c1,kd]|true =>simp![↓nX,bf,aa,if_false];refine gL hr ?_;rw[r2];cases c2:(decide (1<=gs.length)&&decide (gs.length<=2))with|false =>simp![↓nX,bu,if_true];lk;exact fin st .refl<|by simp![lQ,c1,rj,c2,kd]|true =>
 have c1':=c1;have c2':=c2;simp![ao,decide_eq_true_eq]at c1' c2';simp![↓nX,bf,aa,if_false];rw[aG];lk;refine⟨by simp![af];lia,?_⟩;rw[<-eu];lk;refine kN D.str (λn=>.bl<|bD n) (fs++gs) [] st (λaA x a ha=>by cases ha) (λx hx aA K x1 hK=>qZ hn (hw x hx) λaV x2=>hK aV x2) (by simp![ak,ah];lia) λaA x1=>?_;rw[bh];refine bO (by simp![af,ah];lia) λp aJ x2 hp' fQ=>?_;simp![dG];rw[aF fQ,pC,aO];have ea:((fs++gs).map bD).all id=(fs++gs).all bD:=by rw[je];rfl
 rw[ea];cases c3:(fs++gs).all bD with|false =>exact fin _ (x1.trans x2)<|by simp![lQ,c3,dt,kd]|true =>
 rw[fN];refine⟨by simp![ah];lia,?_⟩;have e5:((nM []<|fs++gs:Int)==((fs++gs).map D.str).length)=(nM [] (fs++gs)==(fs++gs).length):=by rw[fc];simp![af,beq_iff_eq];lia
 have:=q _<|x1.trans x2;have el:lQ fs gs=(nM [] (fs++gs)==(fs++gs).length):=by simp![lQ,c1,rj,c2,c3]
 rw[el,<-e5]at this;exact this
theorem WK (ha:G.fns ia=some (lM ir iy))(hr:G.fns ir=some gC){ds:List D}{m:Int}(f:D->Bool)(hl:ds.length<=1000000)(hf:∀d∈ds,Ev G (k+1) bY iy [nm,d]<|f d):Ev G (k+2) bY ia [nm,.tup ds,.int m]<|decide ((ds.length:Int)<=m)&&ds.all f:=by have hL:aL=16777216:=rfl;intro st Q E e0 q;rw[aK ha];simp![lM,start];lk;refine gL hr ?_;have e1:decide (0<=ds.length)=true:=decide_eq_true (by lia);cases c:decide (ds.length<=m)with|false =>have:=q st .refl;rw[c]at this;exact this|true =>
 refine comp_map (λd=>.bl _) ds [] st (λaA x a ha=>by cases ha) (λx hx aA K x1 hK=>hf x hx aA _ _ (e0.trans x1) λaV x2=>hK aV x2) (by simp![ak];lia) λaA x1=>?_;rw[bh];refine bO (by simp![af];lia) λp aJ x2 hp' fQ=>?_;simp![dG];rw[aF fQ,pE,aO];have ea:(ds.map f).all id=ds.all f:=by simp_all
 rw[ea];have:=q _<|x1.trans x2;rw[c]at this;exact this
theorem Q1 (ha:G.fns iaw=some (mK ir iw<|.int 5))(hr:G.fns ir=some gC){ds:List D}(f:D->Bool)(hl:ds.length<=1000000)(hf:∀d∈ds,Ev G (k+1) bY iw [nm,d]<|f d):Ev G (k+2) bY iaw [nm,.tup ds]<|decide ((1:Int)<=(ds.length:Int))&&decide ((ds.length:Int)<=5)&&ds.all f:=by have hL:aL=16777216:=rfl;intro st Q E e0 q;rw[aK ha];simp![mK,start];lk;refine gL hr ?_;cases c:(decide ((1:Int)<=ds.length)&&decide ((ds.length:Int)<=5))with|false =>have:=q st .refl;rw[c]at this;exact this|true =>
 refine comp_map (λd=>.bl _) ds [] st (λaA x a ha=>by cases ha) (λx hx aA K x1 hK=>hf x hx aA _ _ (e0.trans x1) λaV x2=>hK aV x2) (by simp![ak];lia) λaA x1=>?_;rw[bh];refine bO (by simp![af];lia) λp aJ x2 hp' fQ=>?_;simp![dG];rw[aF fQ,pE,aO];have ea:(ds.map f).all id=ds.all f:=by simp_all
 rw[ea];have:=q _<|x1.trans x2;rw[c]at this;exact this
end
section
variable {G:Prog}{k ir bT il bC iy ia ip iw iaw iap ib ih ipi io ibk:Nat}{bY:aB}{nm:D}{names gs:List<|List Nat}
theorem Ev.le {j:Nat}{f:Nat}{ds:List D}{b:Bool}(h:Ev G j bY f ds b)(l:j<=k):Ev G k bY f ds b:=λst Q E e q=>fU G l f ds st _ _ _ _ (λ_ _ z=>z) (λ_ _ z=>z)<|h st Q E e q
theorem Gd (h:G.fns ip=some (jU<|.int 99)){p:Int}:Ev G (k+1) bY ip [.int p]<|decide (1<=p)&&decide (p<=99):=by
 intro st Q E _ q;rw[aK h];simp![jU,start];lk;by_cases c:1<=p;·rw[if_pos c];have:=q st .refl;rw[decide_eq_true c]at this;exact this
 ·rw[if_neg c];have:=q st .refl;rw[decide_eq_false c]at this;exact this
theorem Kv (h:G.fns iw=some (mZ ir ip iy))(hr:G.fns ir=some gC){p d:D}{b1 b2:Bool}(h1:Ev G (k+1) bY ip [p] b1)(h2:b1=true->Ev G (k+1) bY iy [nm,d] b2):Ev G (k+2) bY iw [nm,.tup [p,d]]<|b1&&b2:=by intro st Q E e0 q;rw[aK h];simp![mZ,start];lk;refine gL hr ?_;have e1:(decide (2<=([p,d].length:Int))&&decide (([p,d].length:Int)<=2))=true:=rfl;rw[e1];k_ne;refine h1 st _ _ e0 λaC x1=>?_;cases b1 with|false=>exact q aC x1|true=>exact h2 rfl aC _ _ (e0.trans x1) λaJ x2=>q aJ<|x1.trans x2
theorem Rl (hp:G.fns iap=some (mS ia ib<|.int 3))(hb:G.fns ib=some (pI ih ib))(hh:G.fns ih=some kO)(ha:G.fns ia=some (lM ir iy))(hr:G.fns ir=some gC)(hy:G.fns iy=some (nY bC<|.int 8))(h:FK G bT bC)(hn:xI G bT)(dO:∀n∈names,bD n=true){ss:List Sy} (ho:∀s∈ss,over names s/\aE s<=8)(hl:ss.length<=3):Ev G 12 bY iap [.tup<|names.map .str,.tup<|gs.map .str,.tup<|ss.map toD]<|!(ss.any<|eE gs):=by
 have hL:aL=16777216:=rfl;intro st Q E _ q;rw[aK hp];simp![mS,start];lk;refine wB (k:=0) ha hr hy h hn dO ho (by lia) (by lia) λaC y1=>?_;refine kN toD (λs=>.bl<|eE gs s) _ [] aC (λaA x a ha=>by cases ha) (λx hx aA K x1 hK=>?_) (by simp![ak];lia) λaA x1=>?_
 ·have e:11=10-aE x+aE x+1:=by have:=(ho x hx).2;lia
  rw[e];exact uT hb hh x λaV x2=>hK aV x2
 ·rw[bh];refine bO (by simp![af];lia) λp aJ x2 hp' fQ=>?_;simp![dG];rw[aF fQ,pC,aO];have e3:(ss.map<|eE gs).any id=ss.any (eE gs):=by simp_all
  rw[e3];exact q _<|(y1.trans x1).trans x2
theorem LK (hbk:G.fns ibk=some (oZ ir il iap ia iaw ipi io (.int 3)<|.int 4))(hr:G.fns ir=some gC){F J P M V N:D}{b1 b3 b4 b5 b6:Bool}{Φ:Nat->aB->Prop}(h1:Ev G 14 bY il [F,J] b1)(h2:b1=true->∀(st:aB)(Q:VK),Q N st->jD .add F J st Q)(h3:b1=true->Ev G 14 bY iap [N,J,P] b3)(h4:b1=true->b3=true->Ev G 14 bY ia [N,M,.int 3] b4)(h5:b1=true->b3=true->b4=true->Ev G 14 bY iaw [N,V] b5)(h6:b1=true->b3=true->b4=true->b5=true->∀(st:aB)(Q:VK)(E:XK),(∀l aA,Ext st aA->Φ l aA->Q (.ref l) aA)->aH G 14 io [P,M,V] st Q E)(h7:b1=true->b3=true->b4=true->b5=true->∀(l:Nat)(st:aB)(Q:VK)(E:XK),Φ l st->(∀p aA (xs:List D),Ext st aA->decide ((xs.length:Int)<=4)=b6->aA p=some (.lst xs)->Q (.ref p) aA)->aH G 14 ipi [.ref l] st Q E):Ev G 15 bY ibk [.tup [F,J,P,M,V]]<|b1&&(b3&&(b4&&(b5&&b6))):=by intro st Q E e0 q;rw[aK hbk];simp only[oZ,start];refine⟨rfl,?_⟩;lk;refine BP hr (Yy 5) (Yy 5) ?_;k_ne;refine h1 st _ _ e0 λaC x1=>?_;k_ne;cases b1 with|false =>simp only[bu,if_true];lk;exact q aC x1|true =>
 simp only[bf,aa,if_false];rw[aG];try dsimp only
 refine dB ?_;rw[kF,lT,kY];simp only[↓qV,↓qW];rw[jI,show fI [F,J,P,M,V] 1=some J from rfl,aO,mE];simp only[c9,cv];refine dB ?_;rw[kF,KO,lT,kY];simp only[↓qV,↓qW];rw[jI,show fI [F,J,P,M,V] 0=some F from rfl,aO,kY];simp only[c9,cv,↓Lk];refine h2 rfl _ _ ?_;rw[mE];simp only[c9,cv];refine dB ?_;rw[kF,lT,kY];simp only[c9,cv,↓qV,↓qW];rw[jI,show fI [F,J,P,M,V] 2=some P from rfl,aO,mE];simp only[c9,cv];refine dB ?_;rw[kF,lT,kY];simp only[c9,cv,↓qV,↓qW];rw[jI,show fI [F,J,P,M,V] 3=some M from rfl,aO,mE];simp only[c9,cv];refine dB ?_;rw[kF,lT,kY];simp only[c9,cv,↓qV,↓qW];rw[jI,show fI [F,J,P,M,V] 4=some V from rfl,aO,mE];simp only[c9,cv];lk;refine h3 rfl _ _ _ (e0.trans x1) λaJ x2=>?_;k_ne;have y2:=x1.trans x2;cases b3 with|false =>simp only[bu,if_true];lk;exact q aJ y2|true =>simp only[bf,aa,if_false];refine h4 rfl rfl _ _ _ (e0.trans y2) λaZ x3=>?_;k_ne;have y3:=y2.trans x3;cases b4 with|false =>simp only[bu,if_true];lk;exact q aZ y3|true =>simp only[bf,aa,if_false];rw[aG];lk;refine h5 rfl rfl rfl _ _ _ (e0.trans y3) λcR x4=>?_;k_ne;have y4:=y3.trans x4;cases b5 with|false =>exact q cR y4|true =>simp only[if_true];refine h6 rfl rfl rfl rfl _ _ _ λl eQ x5 hl=>?_;refine h7 rfl rfl rfl rfl _ _ _ _ hl λp dE xs x6 hx hp=>?_;k_ne;unfold eD;rw[hp];show Q (.bl<|decide<|(xs.length:Int)<=4) dE;rw[hx];exact q dE<|(y4.trans x5).trans x6
end
structure NF (G:Prog)(ibk ir il iap ia iaw ipi io ib ih iy bC bT iw ip:Nat):Prop where
 bk:G.fns ibk=some (oZ ir il iap ia iaw ipi io (.int 3)<|.int 4)row:G.fns ir=some gC
 la:G.fns il=some (sG ir bT<|.int 2)pro:G.fns iap=some (mS ia ib<|.int 3)bare:G.fns ib=some (pI ih ib)wi:G.fns ih=some kO
 say:G.fns ia=some (lM ir iy)iss:G.fns iy=some (nY bC<|.int 8)sw:FK G bT bC
 nm:xI G bT
 ws:G.fns iaw=some (mK ir iw<|.int 5)gM:G.fns iw=some (mZ ir ip iy)pr:G.fns ip=some (jU<|.int 99)so:G.fns io=some zW
 pi:G.fns ipi=some (pU ih)
section
variable {G:Prog}{ibk ir il iap ia iaw ipi io ib ih iy bC bT iw ip:Nat}{bY:aB}{b:Bk}
noncomputable abbrev wD (ws:List<|Int×Sy):List D:=ws.map λw=>.tup [.int w.1,toD w.2]
theorem UE (B:b.Ok):lQ b.fs b.gs=true:=by have h1:(b.fs++b.gs).all bD=true:=List.all_eq_true.mpr B.nm;have h2:=zI _ [] (by simpa [Bk.names]using B.nd);simp![lQ,decide_eq_true B.f1,decide_eq_true B.f2,decide_eq_true B.g1,decide_eq_true B.g2,h1,h2,beq_self_eq_true,fu]
theorem ZF (Z:NF G ibk ir il iap ia iaw ipi io ib ih iy bC bT iw ip){fs gs:List<|List Nat}{P M V:D}(hf:fs.length<=1000001)(hg:gs.length<=1000001)(hw:∀n∈fs++gs,n.length<=aL)(h:lQ fs gs=false):Ev G 15 bY ibk [.tup [.tup<|fs.map .str,.tup<|gs.map .str,P,M,V]] false:=by have q:=(P5 (k:=0) (bY:=bY) Z.la Z.row Z.nm hf hg hw).le (k:=14) (by lia);rw[h]at q;exact LK (b3:=false) (b4:=false) (b5:=false) (b6:=false) (N:=.non) (Φ:=λ_ _=>False) Z.bk Z.row q (λz=>nomatch z) (λz=>nomatch z) (λz=>nomatch z) (λz=>nomatch z) (λz=>nomatch z) λz=>nomatch z
end
end L3
end
section
namespace L3
structure Bk.Good (b:Bk):Prop where
 o:b.Ok
 c:(gW b.says []).length<=4
noncomputable def nV (w:Int×Sy):List Nat:=W "wish " ++ (dg w.1.toNat++32::tx w.2)
noncomputable def gB (b:Bk):List<|List Nat:=(W "foe " ++ aX [32] b.fs)::(W "friend " ++ aX [32] b.gs)::(b.ps.map (λs=>W "promise " ++ tx s)++(b.ms.map (λs=>W "must " ++ tx s)++b.ws.map nV))
noncomputable def jM (b:Bk):List Nat:=((gB b).map λw=>w++[10]).flatten
structure Rb where
 fs:List (List Nat)gs:List (List Nat)ps:List Py
 ms:List Py
 ws:List<|Nat×Py
noncomputable def lR (w:Nat×Py):D:=.tup [.int (w.1:Nat),pD w.2]
noncomputable def Rb.d (r:Rb):D:=.tup [.tup<|r.fs.map .str,.tup<|r.gs.map .str,.tup<|r.ps.map pD,.tup<|r.ms.map pD,.tup<|r.ws.map lR]
noncomputable def wM (b:Bk):Rb:=⟨b.fs,b.gs,b.ps.map py,b.ms.map py,b.ws.map λw=>(w.1.toNat,py w.2)⟩
theorem zE {b:Bk}(B:b.Ok):(wM b).d=b.d:=by
 have e:∀ss:List Sy,(ss.map py).map pD=ss.map toD:=λss=>by rw[gV];exact ni λs _=>nL s
 have e2:(b.ws.map λw=>(w.1.toNat,py w.2)).map lR=b.ws.map λw=>.tup [.int w.1,toD w.2]:=by rw[gV];refine ni λw hw=>?_;have:=(B.w3 w hw).1;show D.tup _=_;rw[nL,nh<|by lia]
 simp![wM,Rb.d,Bk.d,e,e2]
theorem Tf {names:List<|List Nat}(hn:∀n∈names,bD n=true):∀(s:Sy),over names s->∀c∈tx s,pR c=true\/c=32\/c=40\/c=41:=by have wl:∀w:List Nat,w.all pR=true->∀c∈w,pR c=true:=λw h c hc=>List.all_eq_true.mp h c hc;intro s;induction s with
 |yes=>intro _ c hc;exact .inl<|wl (W "yes") (by cbv) c hc|no=>intro _ c hc;exact .inl<|wl (W "no") (by cbv) c hc|bF n=>intro ho c hc;exact .inl<|wl n (iS<|hn n ho).1 c hc|one w s ih =>
 intro ho c hc;simp![tx,cz,ba]at hc;rcases hc with hc|hc|hc;·exact .inl<|wl (c1 w) (by cases w<;>cbv) c hc
 ·exact .inr<|.inl hc
 ·exact ih ho c hc|two w s t ih1 ih2 =>
 intro ho c hc;simp![tx,cz,ba,List.mem_nil_iff,or_false]at hc;rcases hc with hc|hc|hc|hc|hc|hc|hc;·exact .inr<|.inr<|.inl hc
 ·exact ih1 ho.1 c hc
 ·exact .inr<|.inl hc
 ·exact .inl<|wl (c2 w) (by cases w<;>cbv) c hc
 ·exact .inr<|.inl hc
 ·exact ih2 ho.2 c hc
 ·exact .inr<|.inr<|.inr hc
theorem SM {names:List<|List Nat}(hn:∀n∈names,bD n=true){s:Sy}(ho:over names s):10∉tx s:=λh=>by
 rcases Tf hn s ho 10 h with h|h|h|h;·exact absurd h<|by cbv
 ·cases h
 ·cases h
 ·cases h
theorem Bb {n:List Nat}(h:bD n=true){c:Nat}(hc:pR c=false):c∉n:=λz=>by have:=List.all_eq_true.mp (iS h).1 c z;rw[hc]at this;cases this
theorem EM:∀ls:List<|List Nat,ls≠[]->(ls.map λw=>w++[10]).flatten=aX [10] ls++[10]|[],h=>absurd rfl h|[w],_=>by simp [aX]|w::v::r,_=>by rw[join_cons<|by simp,aw,qa,EM _<|by simp];simp
theorem Nq {b:Bk}(B:b.Ok):∀l∈gB b,10∉l:=by
 have nj:∀ns , (∀n∈ns,bD n=true)->10∉aX [32] ns:=λns h=>O8 (by cbv) ns λw hw=>Bb (h w hw) (by cbv);intro l hl;simp![gB,ba,cz,kq]at hl;rcases hl with rfl|rfl|⟨s,hs,rfl⟩|⟨s,hs,rfl⟩|⟨w,hw,rfl⟩;·simp![cz,not_or];exact⟨by cbv,nj _ λn hn=>B.nm n<|fb _ hn⟩
 ·simp![cz,not_or];exact⟨by cbv,nj _ λn hn=>B.nm n<|cf _ hn⟩
 ·simp![cz,not_or];exact⟨by cbv,SM B.nm (B.p2 s hs).1⟩
 ·simp![cz,not_or];exact⟨by cbv,SM B.nm (B.m2 s hs).1⟩
 ·simp![nV,cz,ba,not_or];exact⟨by cbv,E3<|by cbv,by cbv,SM B.nm (B.w3 w hw).2.2.1⟩
theorem JJ {b:Bk}(B:b.Ok):(jM b).getLast? = some 10/\aN 10 (jM b).dropLast=gB b:=by
 have h0:gB b≠[]:=by simp [gB]
 unfold jM;rw[EM _ h0,List.getLast?_concat,List.dropLast_concat];exact⟨rfl,rC 10 _ h0<|Nq B⟩
noncomputable def bw (w:List Nat)(ls:List<|List Nat):List<|List Nat:=ls.filterMap λl=>if(w++[32]).isPrefixOf l=true then some (l.drop<|w.length+1)else none
noncomputable def wI (t:List Nat):Option<|Nat×Py:=if(1<=(part 32 t).1.length/\(part 32 t).1.length<=2)/\(part 32 t).1.all iP=true then(pW (part 32 t).2).map λx=>(val (part 32 t).1,x)else none
noncomputable def MI (ls:List<|List Nat):Option Rb:=(cB pW<|bw (W "promise") ls).bind λps=>(cB pW<|bw (W "must") ls).bind λms=>(cB wI<|bw (W "wish") ls).map λws=>⟨aN 32<|aX [32]<|bw (W "foe") ls,aN 32<|aX [32]<|bw (W "friend") ls,ps,ms,ws⟩
noncomputable def rP (T:List Nat):Option Rb:=if T.getLast? = some 10 then MI (aN 10 T.dropLast)else none
theorem kZ (w:List Nat)(a b:List<|List Nat):bw w (a++b)=bw w a++bw w b:=by unfold bw;exact List.filterMap_append
theorem zU {α:Type}{w v:List Nat}(f:α->List Nat)(e:v=w++[32]):∀xs:List α,bw w (xs.map λx=>v++f x)=xs.map f|[]=>rfl|x::r=>by have ih:=zU f e r;unfold bw at ih ⊢;simp_all
theorem lJ {α:Type}{w:List Nat}(f:α->List Nat):∀xs:List α,(∀x,(w++[32]).isPrefixOf (f x)=false)->bw w (xs.map f)=[]|[],_=>rfl|x::r,h=>by have ih:=lJ f r h;unfold bw at ih ⊢;rw[aw,gv,h x,if_neg<|by simp,ih]
theorem K1 {names:List<|List Nat}(hn:∀n∈names,bD n=true){s:Sy}(ho:over names s)(hd:aE s<=8):pW (tx s)=some (py s):=by have:=KI hn s (r:=[]) ho hd λc t z=>nomatch z;unfold pW;simp_all
theorem Pg {names:List<|List Nat}(hn:∀n∈names,bD n=true){w:Int×Sy}(h1:1<=w.1)(h2:w.1<=99)(ho:over names w.2)(hd:aE w.2<=8):wI (dg w.1.toNat++32::tx w.2)=some (w.1.toNat,py w.2):=by
 unfold wI;rw[X4<|E3<|by cbv];have l1:=vM (n:=w.1.toNat) (by lia);have l0:1<=(dg w.1.toNat).length:=by cases e:dg _ with|nil=>exact absurd e<|RL _|cons _ _=>simp
 rw[if_pos ⟨⟨l0,l1⟩,RO _⟩];simp![K1 hn ho hd,gz,VF]
theorem AI {w l:List Nat}{r:List<|List Nat}(h:(w++[32]).isPrefixOf l=false):bw w (l::r)=bw w r:=by unfold bw;rw[gv,h,if_neg<|by simp]
theorem Nm {w v t:List Nat}{r:List<|List Nat}(e:v=w++[32]):bw w ((v++t)::r)=t::bw w r:=by have h:=kZ w [v++t] r;rw[show[v++t]=[()].map λ_=>v++t from rfl,zU _ e]at h;exact h
theorem Iy (b:Bk):bw (W "foe") (gB b)=[aX [32] b.fs]/\bw (W "friend") (gB b)=[aX [32] b.gs]/\bw (W "promise") (gB b)=b.ps.map tx/\bw (W "must") (gB b)=b.ms.map tx/\bw (W "wish") (gB b)=b.ws.map λw=>dg w.1.toNat++32::tx w.2:=by
 unfold gB nV;refine⟨?_,?_,?_,?_,?_⟩;·rw[Nm<|by cbv,AI rfl,kZ,kZ,lJ _ _ λ_=>rfl,lJ _ _ λ_=>rfl,lJ _ _ λ_=>rfl];rfl
 ·rw[AI rfl,Nm<|by cbv,kZ,kZ,lJ _ _ λ_=>rfl,lJ _ _ λ_=>rfl,lJ _ _ λ_=>rfl];rfl
 ·rw[AI rfl,AI rfl,kZ,kZ,zU _<|by cbv,lJ _ _ λ_=>rfl,lJ _ _ λ_=>rfl];simp
 ·rw[AI rfl,AI rfl,kZ,kZ,lJ _ _ λ_=>rfl,zU _<|by cbv,lJ _ _ λ_=>rfl];simp
 ·rw[AI rfl,AI rfl,kZ,kZ,lJ _ _ λ_=>rfl,lJ _ _ λ_=>rfl,zU _<|by cbv];simp
theorem pM {ns:List<|List Nat}(h1:1<=ns.length)(h:∀n∈ns,bD n=true):aN 32 (aX [32] ns)=ns:=rC 32 ns λz=>by simp_all λw hw=>Bb (h w hw)<|by cbv
theorem vH {b:Bk}(B:b.Ok):rP (jM b)=some (wM b):=by obtain⟨h1,h2⟩:=JJ B;obtain⟨e1,e2,e3,e4,e5⟩:=Iy b;unfold rP MI;rw[h1,h2,e1,e2,e3,e4,e5];have n1:=pM B.f1 λn hn=>B.nm n<|fb _ hn;have n2:=pM B.g1 λn hn=>B.nm n<|cf _ hn;rw[nQ λs hs=>K1 B.nm (B.p2 s hs).1 (B.p2 s hs).2,nQ λs hs=>K1 B.nm (B.m2 s hs).1 (B.m2 s hs).2,nQ λw hw=>Pg B.nm (B.w3 w hw).1 (B.w3 w hw).2.1 (B.w3 w hw).2.2.1 (B.w3 w hw).2.2.2];simp![aX,n1,n2];rfl
theorem P1 {a b:Bk}(A:a.Ok)(B:b.Ok)(e:jM a=jM b):a.d=b.d:=by have h:=vH A;rw[e,vH B]at h;rw[<-zE A,<-zE B,dv h]
noncomputable def dW (l:List Nat):List Nat:=l.takeWhile (·!= 32)
theorem yJ (l:List Nat):∃r,aN 32 l=dW l::r:=by induction l with|nil=>exact⟨[],rfl⟩|cons x l ih =>
 obtain⟨r,e⟩:=ih;unfold dW at e ⊢;by_cases h:x=32;·subst h;exact⟨_,rfl⟩
 ·refine⟨r,?_⟩;have h':(x != 32)=true:=by simp_all
  rw[gw,h'];simp![aN,if_neg h,e,if_true]
theorem FY {a b:List Nat}(h:32∉a):dW (a++32::b)=a:=by obtain⟨r,e⟩:=yJ _;rw[AO 32 b a h]at e;exact(List.cons.inj e).1.symm
theorem O7 (l:List Nat):(dW l).length<=l.length:=(tw _).length_le
noncomputable def dY (l:List Nat):List Nat:=l.drop<|(dW l).length+1
theorem O9 {a b:List Nat}(h:32∉a):dY (a++32::b)=b:=by unfold dY;rw[FY h];simpa using this
noncomputable def oW (nms:List<|List Nat)(F:Nat)(t:List Nat):Option<|Nat×Py:=if dW t=[]\/2<(dW t).length\/(dW t).all iP=false then none else(iJ nms F<|dY t).bind λx=>if(dW t)[0]? = some 48 then none else some (val<|dW t,x)
noncomputable def kP (l:List Nat):Bool:=dW l==W "promise"
noncomputable def kM (l:List Nat):Bool:=dW l==W "must"
noncomputable def kW (l:List Nat):Bool:=dW l==W "wish"
noncomputable def sC (nms:List<|List Nat)(F:Nat)(ls:List<|List Nat):List<|Option Py:=(ls.filter kP).map λl=>iJ nms F<|dY l
noncomputable def sP (nms:List<|List Nat)(F:Nat)(ls:List<|List Nat):List<|Option Py:=(ls.filter kM).map λl=>iJ nms F<|dY l
noncomputable def tR (nms:List<|List Nat)(F:Nat)(ls:List<|List Nat):List<|Option<|Nat×Py:=(ls.filter kW).map λl=>oW nms F<|dY l
noncomputable def vZ (l:List Nat):Bool:=kP l||(kM l||kW l)
noncomputable def fF (ls:List<|List Nat):List<|List Nat:=aN 32<|(ls.getD 0 []).drop 4
noncomputable def fG (ls:List<|List Nat):List<|List Nat:=aN 32<|(ls.getD 1 []).drop 7
noncomputable def zC (F:Nat)(nms:List<|List Nat)(ls:List<|List Nat):Option<|List Py×List Py×List (Nat×Py):=if ls.all vZ=true then(cB id<|sC nms F ls).bind λps=>(cB id<|sP nms F ls).bind λms=>(cB id<|tR nms F ls).map λws=>(ps,ms,ws)else none
noncomputable def lP (F:Nat)(T:List Nat):Option Rb:=if T.getLast? = some 10/\2<=(aN 10 T.dropLast).length/\((aN 10 T.dropLast).getD 0 []).take 4=W "foe " /\ ((aN 10 T.dropLast).getD 1 []).take 7=W "friend " then(zC F (fF (aN 10 T.dropLast)++fG (aN 10 T.dropLast))<|(aN 10 T.dropLast).drop 2).map λq=>⟨fF<|aN 10 T.dropLast,fG<|aN 10 T.dropLast,q.1,q.2.1,q.2.2⟩else none
theorem G0 {α:Type}{p:List Nat->Bool}(f:α->List Nat)(xs:List α)(h:∀x,p (f x)=true):(xs.map f).filter p=xs.map f:=List.filter_eq_self.mpr λl hl=>by obtain⟨x,_,rfl⟩:=List.mem_map.mp hl;exact h x
theorem vJ {α:Type}{p:List Nat->Bool}(f:α->List Nat)(xs:List α)(h:∀x,p (f x)=false):(xs.map f).filter p=[]:=List.filter_eq_nil_iff.mpr λl hl=>by obtain⟨x,_,rfl⟩:=List.mem_map.mp hl;rw[h x];simp
theorem QZ {v w:List Nat}(e:v=w++[32])(h:32∉w)(t:List Nat):dW (v++t)=w/\dY (v++t)=t:=by rw[e,show w++[32]++t=w++32::t by simp];exact⟨FY h,O9 h⟩
theorem S4 {α β γ:Type}{xs:List α}{g:β->Option γ}{f:α->β}{h:α->γ}(q:∀x∈xs,g (f x)=some (h x)):cB id ((xs.map f).map g)=some (xs.map h):=by rw[gV];exact nQ q
theorem MW {names:List<|List Nat}(hn:∀n∈names,bD n=true){F:Nat}(hF:8<=F){s:Sy}(ho:over names s)(hd:aE s<=8):iJ names F (tx s)=some (py s):=by rw[<-agree hn hF];unfold XF;rw[K1 hn ho hd,bg,if_pos<|uJ ho]
theorem Wr {n:Nat}(h:1<=n):(dg n)[0]?≠some 48:=by induction n using uo with|_ n ih =>
 unfold dg;split;·simp;lia
 ·have:=ih (n / 10) (by lia) (by lia);cases e:dg _ with|nil=>exact absurd e<|RL _|cons x r=>rw[e]at this;simpa using this
theorem Qg {names:List<|List Nat}(hn:∀n∈names,bD n=true){F:Nat}(hF:8<=F){w:Int×Sy}(h1:1<=w.1)(h2:w.1<=99)(ho:over names w.2)(hd:aE w.2<=8):oW names F (dg w.1.toNat++32::tx w.2)=some (w.1.toNat,py w.2):=by have hh:=FY (a:=dg w.1.toNat) (b:=tx w.2) (E3<|by cbv);have hr:=O9 (a:=dg w.1.toNat) (b:=tx w.2) (E3<|by cbv);unfold oW;have l1:=vM (n:=w.1.toNat) (by lia);rw[hh,hr,if_neg (by
 rintro(z|z|z);·exact RL _ z
 ·lia
 ·rw[RO]at z;cases z),MW hn hF ho hd,bg,if_neg<|Wr<|by lia,VF]
theorem GL {b:Bk}(B:b.Ok){F:Nat}(hF:8<=F):lP F (jM b)=some (wM b):=by
 obtain⟨h1,h2⟩:=JJ B;have n1:=pM B.f1 λn hn=>B.nm n<|fb _ hn;have n2:=pM B.g1 λn hn=>B.nm n<|cf _ hn;have eF:fF (gB b)=b.fs:=n1;have eG:fG (gB b)=b.gs:=n2;have pr:∀t,dW (W "promise " ++ t)=W "promise" /\ dY (W "promise " ++ t)=t:=QZ (by cbv) (by cbv);have mu:∀t,dW (W "must " ++ t)=W "must" /\ dY (W "must " ++ t)=t:=QZ (by cbv) (by cbv);have wi:∀t,dW (W "wish " ++ t)=W "wish" /\ dY (W "wish " ++ t)=t:=QZ (by cbv) (by cbv);have pk:∀t,kP (W "promise " ++ t)=true/\kM (W "promise " ++ t)=false/\kW (W "promise " ++ t)=false:=λt=>by unfold kP kM kW;rw[(pr t).1];exact⟨by cbv,by cbv,by cbv⟩
 have mk:∀t,kP (W "must " ++ t)=false/\kM (W "must " ++ t)=true/\kW (W "must " ++ t)=false:=λt=>by unfold kP kM kW;rw[(mu t).1];exact⟨by cbv,by cbv,by cbv⟩
 have wk:∀t,kP (W "wish " ++ t)=false/\kM (W "wish " ++ t)=false/\kW (W "wish " ++ t)=true:=λt=>by unfold kP kM kW;rw[(wi t).1];exact⟨by cbv,by cbv,by cbv⟩
 have ed:(gB b).drop 2=b.ps.map (λs=>W "promise " ++ tx s)++(b.ms.map (λs=>W "must " ++ tx s)++b.ws.map nV):=rfl;have sel:((gB b).drop 2).filter kP=b.ps.map (λs=>W "promise " ++ tx s)/\((gB b).drop 2).filter kM=b.ms.map (λs=>W "must " ++ tx s)/\((gB b).drop 2).filter kW=b.ws.map nV:=by rw[ed];simp![List.filter_append];rw[G0 _ _ λs=>(pk _).1,vJ _ _ λs=>(mk<|tx s).1,vJ nV _ λw=>(wk _).1,vJ _ _ λs=>(pk<|tx s).2.1,G0 _ _ λs=>(mk _).2.1,vJ nV _ λw=>(wk _).2.1,vJ _ _ λs=>(pk<|tx s).2.2,vJ _ _ λs=>(mk<|tx s).2.2,G0 nV _ λw=>(wk _).2.2];simp
 have al:((gB b).drop 2).all vZ=true:=by rw[ed];simp![yw,je,ao,jz,uf];exact⟨λs _=>by rfl,λs _=>by unfold vZ;rw[(mk _).2.1];simp,λw _=>by unfold vZ nV;rw[(wk _).2.2];simp⟩
 unfold lP;rw[h2,if_pos ⟨h1,by simp [gB],rfl,rfl⟩,eF,eG];unfold zC sC sP tR;rw[al,if_pos rfl,sel.1,sel.2.1,sel.2.2];rw[S4 (g:=λl=>iJ (b.fs++b.gs) F<|dY l) (f:=λs=>W "promise " ++ tx s) (h:=py) λs hs=>show iJ (b.fs++b.gs) F (dY<|W "promise " ++ tx s)=_ by exact MW B.nm hF (B.p2 s hs).1 (B.p2 s hs).2,S4 (g:=λl=>iJ (b.fs++b.gs) F<|dY l) (f:=λs=>W "must " ++ tx s) (h:=py) λs hs=>show iJ (b.fs++b.gs) F (dY<|W "must " ++ tx s)=_ by exact MW B.nm hF (B.m2 s hs).1 (B.m2 s hs).2,S4 (g:=λl=>oW (b.fs++b.gs) F<|dY l) (f:=nV) (h:=λw=>(w.1.toNat,py w.2)) λw hw=>show oW (b.fs++b.gs) F (dY<|nV w)=_ by exact Qg B.nm hF (B.w3 w hw).1 (B.w3 w hw).2.1 (B.w3 w hw).2.2.1 (B.w3 w hw).2.2.2];rfl
end L3
end
section
namespace L3
open PySem
theorem AG {names:List<|List Nat}:∀{x:Py},kQ x->fK names x=true->∃s,x=py s/\over names s/\aE s=deep x
 |.bF w,_,h=>⟨.bF w,rfl,by have h:=h;show w∈names;exact of_decide_eq_true h,rfl⟩|.nul w,h,_=>by
  have h:gU w=true:=h;unfold gU at h;simp![b9,beq_iff_eq]at h;rcases h with rfl|rfl;·exact⟨.yes,rfl,trivial,rfl⟩
  ·exact⟨.no,rfl,trivial,rfl⟩|.one w t,h,ok=>by
  obtain⟨s,rfl,o,d⟩:=AG (x:=t) h.2 ok;have h:=h.1;unfold fM at h;simp![b9,beq_iff_eq]at h;have key:∀v , w=c1 v->∃s',Py.one w (py s)=py s'/\over names s'/\aE s'=deep (.one w<|py s):=λv e=>⟨.one v s,by rw[e];rfl,o,by simp![aE,deep,d]⟩;rcases h with((h|h)|h)|h;·exact key .not h
  ·exact key .before h
  ·exact key .once h
  ·exact key .sofar h|.two w a b,h,ok=>by
  have ok:(lU w&&(fK names a&&fK names b))=true:=ok;simp![ao]at ok;obtain⟨s,rfl,o1,d1⟩:=AG (x:=a) h.1 ok.2.1;obtain⟨t,rfl,o2,d2⟩:=AG (x:=b) h.2 ok.2.2;have h:=ok.1;unfold lU at h;simp![b9,beq_iff_eq]at h;have key:∀v , w=c2 v->∃s',Py.two w (py s) (py t)=py s'/\over names s'/\aE s'=deep (.two w (py s)<|py t):=λv e=>⟨.two v s t,by rw[e];rfl,⟨o1,o2⟩,by simp![aE,deep,d1,d2]⟩;rcases h with(((h|h)|h)|h)|h;·exact key .and h
  ·exact key .or h
  ·exact key .bA h
  ·exact key .same h
  ·exact key .since h
theorem LL {α β:Type}{f:β->α}{R:β->Prop}:∀{xs:List α},(∀x∈xs,∃y,x=f y/\R y)->∃ys:List β,xs=ys.map f/\∀y∈ys,R y|[],_=>⟨[],rfl,λ_ h=>nomatch h⟩|x::r,h=>by obtain⟨y,rfl,hy⟩:=h x (by simp);obtain⟨ys,rfl,hys⟩:=LL (xs:=r) λz hz=>h z (by simp [hz]);exact⟨_,rfl,λz hz=>by rcases List.mem_cons.mp hz with rfl|hz;exact hy;exact hys z hz⟩
theorem PZ:∀(ws seen:List<|List Nat),nM seen ws=ws.length->ws.Nodup/\∀w∈ws,w∉seen
 |[],_,_=>⟨List.nodup_nil,λ_ h=>nomatch h⟩|w::r,seen,h=>by
  have hle:∀(ws seen:List _),nM seen ws<=ws.length:=λws=>by induction ws with|nil=>intro _;exact av _|cons w r ih=>intro seen;have:=ih<|seen++[w];simp![nM,ag];split<;>lia
  have h':=hle r<|seen++[w];simp![nM,ag]at h;split at h;·lia
  ·obtain⟨a,b⟩:=PZ r (seen++[w]) (by lia);refine⟨List.nodup_cons.mpr ⟨λz=>b w z<|by simp,a⟩,λv hv z=>?_⟩;rcases List.mem_cons.mp hv with rfl|hv;·simp_all
   ·simp_all
structure Rb.Kk (r:Rb):Prop where
 f:r.fs.length<=1000001
 g:r.gs.length<=1000001
 n:∀n∈r.fs++r.gs,n.length<=aL
 p:r.ps.length<=1000000
 m:r.ms.length<=1000000
 w:r.ws.length<=1000000
 s:(∀n∈r.fs++r.gs,bD n=true)->∀x∈r.ps++r.ms++r.ws.map (·.2),kQ x/\deep x<=8/\lS aL x
section
variable {G:Prog}{ibk ir il iap ia iaw ipi io ib ih iy bC bT iw ip:Nat}{bY:aB}{r:Rb}
theorem Rn {k:Nat}{N J P:D}(hp:G.fns iap=some (mS ia ib<|.int 3))(h:Ev G k bY ia [N,P,.int 3] false):Ev G (k+1) bY iap [N,J,P] false:=by intro st Q E e0 q;rw[aK hp];refine⟨rfl,?_⟩;refine h st _ _ e0 λaC x1=>?_;exact q aC x1
theorem P2 (Z:NF G ibk ir il iap ia iaw ipi io ib ih iy bC bT iw ip){names:List<|List Nat}(dO:∀n∈names,bD n=true){xs:List Py}(hl:xs.length<=1000000)(hx:∀x∈xs,kQ x/\deep x<=8/\lS aL x):Ev G 11 bY ia [.tup<|names.map .str,.tup<|xs.map pD,.int 3]<|decide ((xs.length:Int)<=3)&&xs.all (fK names):=by
 have h:=WK (k:=9) (bY:=bY) (m:=3) (ds:=xs.map pD) Z.say Z.row (EA names) (by simp_all) λd hd=>by obtain⟨x,hx',rfl⟩:=List.mem_map.mp hd;obtain⟨h1,h2,h3⟩:=hx x hx';rw[kX h1];exact λst Q E _ q=>HF Z.iss Z.sw Z.nm dO h1 h3 h2 q
 rw[af,je]at h;have e:xs.all (EA names∘pD)=xs.all (fK names):=by rw[fc,jz,jz];exact⟨λq x hx'=>by have:=q x hx';rwa [uf,kX (hx x hx').1]at this,λq x hx'=>by rw[uf,kX (hx x hx').1];exact q x hx'⟩
 rw[e]at h;exact h
noncomputable def Bc (names:List<|List Nat):D->Bool|.tup [.int p,y]=>decide (1<=p)&&decide (p<=99)&&EA names y|_=>false
theorem Hd (Z:NF G ibk ir il iap ia iaw ipi io ib ih iy bC bT iw ip){names:List<|List Nat}(dO:∀n∈names,bD n=true){xs:List<|Nat×Py}(hl:xs.length<=1000000)(hx:∀x∈xs,kQ x.2/\deep x.2<=8/\lS aL x.2):Ev G 12 bY iaw [.tup<|names.map .str,.tup<|xs.map lR]<|decide ((1:Int)<=(xs.length:Int))&&decide ((xs.length:Int)<=5)&&xs.all λw=>decide (1<=(w.1:Int))&&decide ((w.1:Int)<=99)&&fK names w.2:=by
 have h:=Q1 (k:=10) (bY:=bY) (ds:=xs.map lR) Z.ws Z.row (Bc names) (by simp_all) λd hd=>by
  obtain⟨x,hx',rfl⟩:=List.mem_map.mp hd;obtain⟨h1,h2,h3⟩:=hx x hx';have e:Bc names (lR x)=(decide (1<=(x.1:Int))&&decide ((x.1:Int)<=99)&&fK names x.2):=by show(_&&EA names (pD _))=_;rw[kX h1]
  rw[e];exact Kv Z.gM Z.row (Gd Z.pr) λ_=>λst Q E _ q=>HF Z.iss Z.sw Z.nm dO h1 h3 h2 q
 rw[af,je]at h;have e:xs.all (Bc names∘lR)=xs.all λw=>decide (1<=(w.1:Int))&&decide ((w.1:Int)<=99)&&fK names w.2:=by
  have:∀x∈xs,Bc names (lR x)=(decide _&&decide _&&fK names _):=λx hx'=>by show(_&&EA names (pD _))=_;rw[kX (hx x hx').1]
  rw[fc,jz,jz];exact⟨λq x hx'=>by rw[<-this x hx'];exact q x hx',λq x hx'=>by simp_all⟩
 rw[e]at h;exact h
theorem Bv {names:List<|List Nat}{xs:List Py}(hx:∀x∈xs,kQ x/\deep x<=8/\lS aL x)(h:xs.all (fK names)=true):∃ss:List Sy,xs=ss.map py/\∀s∈ss,over names s/\aE s<=8 :=LL λx hx'=>by obtain⟨s,e,o,d⟩:=AG (hx x hx').1<|List.all_eq_true.mp h x hx';exact⟨s,e,o,by simp_all⟩
theorem Tc {names:List<|List Nat}{xs:List<|Nat×Py}(hx:∀x∈xs,kQ x.2/\deep x.2<=8/\lS aL x.2)(h:(xs.all λw=>decide (1<=(w.1:Int))&&decide ((w.1:Int)<=99)&&fK names w.2)=true):∃ws:List<|Int×Sy,xs=ws.map (λw=>(w.1.toNat,py w.2))/\∀w∈ws,1<=w.1/\w.1<=99/\over names w.2/\aE w.2<=8 :=LL λx hx'=>by have q:=List.all_eq_true.mp h x hx';simp![ao,decide_eq_true_eq]at q;obtain⟨s,e,o,d⟩:=AG (hx x hx').1 q.2;exact⟨(x.1,s),by rw[<-e];rfl,q.1.1,q.1.2,o,by rw[d];exact(hx x hx').2.1⟩
theorem VZ {s t:Sy}(h:py s=py t):s=t:=by
 have e:bZ (λ_=>none) (toD s) (toD t)=true:=by rw[<-nL s,h,nL];exact GW _<|mI t
 rw[vT]at e;exact of_decide_eq_true e
theorem map_inj {α β:Type}{f:α->β}{P:α->Prop}(hf:∀a b,P a->P b->f a=f b->a=b):∀{as bs:List α},(∀a∈as,P a)->(∀b∈bs,P b)->as.map f=bs.map f->as=bs|[],[],_,_,_=>rfl|[],_::_,_,_,h=>by cases h|_::_,[],_,_,h=>by cases h|a::as,b::bs,ha,hb,h=>by simp![aw,gm]at h;rw[hf a b (ha a<|by simp) (hb b<|by simp) h.1,map_inj hf λx hx=>ha x<|by simp [hx] λx hx=>hb x<|by simp [hx] h.2]
theorem FL {a b:List Sy}(h:a.map py=b.map py):a=b:=map_inj (λ_ _ _ _=>VZ) (λ_ _=>trivial) (λ_ _=>trivial) h
theorem TV {a b:Bk}(A:a.Ok)(B:b.Ok)(h:wM a=wM b):a=b:=by have e5:=map_inj (λx y hx hy e=>by simp![gx]at e;have:=VZ e.2;exact Prod.ext (by lia) this) (λw hw=>(A.w3 w hw).1) (λw hw=>(B.w3 w hw).1)<|congrArg Rb.ws h;have e3:=FL<|congrArg Rb.ps h;have e4:=FL<|congrArg Rb.ms h;have e1:a.fs=b.fs:=congrArg Rb.fs h;have e2:a.gs=b.gs:=congrArg Rb.gs h;cases a;simp only at e1 e2 e3 e4 e5;rw[e1,e2,e3,e4,e5]
theorem PY (Z:NF G ibk ir il iap ia iaw ipi io ib ih iy bC bT iw ip)(L:r.Kk):∃c:Bool,(c=true↔∃b:Bk,b.Good/\wM b=r)/\Ev G 15 bY ibk [r.d] c:=by
 have hL:aL=16777216:=rfl;have lam:=P5 (k:=12) (bY:=bY) Z.la Z.row Z.nm L.f L.g L.n;by_cases hb1:lQ r.fs r.gs=true;rotate_left
 ·have hb1:lQ r.fs r.gs=false:=by simpa using hb1
  exact⟨false,⟨(λz=>nomatch z),λ⟨b,g,e⟩=>by rw[<-e]at hb1;rw[<-hb1];exact UE g.o⟩,ZF Z L.f L.g L.n hb1⟩
 have hb1':=hb1;unfold lQ at hb1';simp![ao,decide_eq_true_eq,beq_iff_eq]at hb1';obtain⟨⟨⟨⟨⟨f1,f2⟩,g1⟩,g2⟩,nm⟩,nd⟩:=hb1';have dO:∀n∈r.fs++r.gs,bD n=true:=List.all_eq_true.mp nm;have S:=L.s dO;have Sp:∀x∈r.ps,kQ x/\deep x<=8/\lS aL x:=λx hx=>S x (by simp [hx]);have Sm:∀x∈r.ms,kQ x/\deep x<=8/\lS aL x:=λx hx=>S x (by simp [hx]);have Sw:∀x∈r.ws,kQ x.2/\deep x.2<=8/\lS aL x.2:=λx hx=>S x.2 (by simp![cz,kq];exact .inr ⟨x,hx,rfl⟩);rw[hb1]at lam;have add:true=true->∀(st:aB)(Q:VK),Q (.tup<|(r.fs++r.gs).map .str) st->jD .add (.tup<|r.fs.map .str) (.tup<|r.gs.map .str) st Q:=λ_ st Q q=>by show _/\Q _ st;exact⟨by simp![af];lia,by rw[<-eu];exact q⟩
 have no:∀(b3 b4 b5:Bool),(b3&&(b4&&b5))=false->Ev G 14 bY iap [.tup<|(r.fs++r.gs).map .str,.tup<|r.gs.map .str,.tup<|r.ps.map pD] b3->(b3=true->Ev G 14 bY ia [.tup<|(r.fs++r.gs).map .str,.tup<|r.ms.map pD,.int 3] b4)->(b3=true->b4=true->Ev G 14 bY iaw [.tup<|(r.fs++r.gs).map .str,.tup<|r.ws.map lR] b5)->Ev G 15 bY ibk [r.d] false:=λb3 b4 b5 hno h3 h4 h5=>by
  have nn:∀{X:Prop},b3=true->b4=true->b5=true->X:=λ{X} e3 e4 e5=>by rw[e3,e4,e5]at hno;cases hno
  have h:=LK (b6:=true) (Φ:=λ_ _=>False) Z.bk Z.row lam add (λ_=>h3) (λ_=>h4) (λ_=>h5) (λ_ e3 e4 e5=>nn e3 e4 e5) λ_ e3 e4 e5=>nn e3 e4 e5;have e:(true&&(b3&&(b4&&(b5&&true))))=false:=by rw[rj,ky];exact hno
  rw[e]at h;exact h
 have ep:=P2 (bY:=bY) Z dO L.p Sp;have em:=(P2 (bY:=bY) Z dO L.m Sm).le (k:=14) (by lia);have ew:=(Hd (bY:=bY) Z dO L.w Sw).le (k:=14) (by lia);have of:∀b:Bk,wM b=r->b.fs=r.fs/\b.gs=r.gs/\r.ps=b.ps.map py/\r.ms=b.ms.map py/\r.ws=b.ws.map λw=>(w.1.toNat,py w.2):=λb e=>by subst e;exact⟨rfl,rfl,rfl,rfl,rfl⟩
 have JY:∀(b:Bk)(ss:List Sy),b.fs=r.fs->b.gs=r.gs->ss.length<=3->(∀s∈ss,over b.names s/\aE s<=8)->(decide (((ss.map py).length:Int)<=3)&&(ss.map py).all (fK<|r.fs++r.gs))=true:=λb ss e1 e2 hl ho=>by simp![ao,decide_eq_true_eq,af,je,jz];exact⟨by lia,λs hs=>by rw[<-e1,<-e2];exact uJ (ho s hs).1⟩
 by_cases hp:(decide ((r.ps.length:Int)<=3)&&r.ps.all (fK<|r.fs++r.gs))=true;rotate_left
 ·have hp:(decide ((r.ps.length:Int)<=3)&&r.ps.all (fK<|r.fs++r.gs))=false:=by simpa only[qp]using hp
  rw[hp]at ep;refine⟨false,⟨(λz=>nomatch z),λ⟨b,g,e⟩=>?_⟩,no false true true rfl ((Rn Z.pro ep).le<|by lia) (λz=>nomatch z) λz=>nomatch z⟩;obtain⟨e1,e2,e3,_,_⟩:=of b e;rw[<-hp,e3];exact(JY b b.ps e1 e2 g.o.p1 g.o.p2).symm▸rfl
 simp![ao,decide_eq_true_eq]at hp;obtain⟨ss,es,hs⟩:=Bv Sp hp.2;have lss:ss.length<=3:=by have:=hp.1;rw[es,af]at this;lia
 have eps:(r.ps.map pD)=ss.map toD:=by rw[es,gV];exact ni λs _=>nL s
 have pro:=(Rl (bY:=bY) (gs:=r.gs) Z.pro Z.bare Z.wi Z.say Z.row Z.iss Z.sw Z.nm dO hs lss).le (k:=14) (by lia);rw[<-eps]at pro;by_cases hbr:ss.any (eE r.gs)=true;·rw[hbr]at pro;refine⟨false,⟨(λz=>nomatch z),λ⟨b,g,e⟩=>?_⟩,no false true true rfl pro (λz=>nomatch z) λz=>nomatch z⟩;obtain⟨e1,e2,e3,_,_⟩:=of b e;have:b.ps=ss:=FL (by rw[<-e3,es]);obtain⟨s,eZ,hb⟩:=List.any_eq_true.mp hbr;have:=g.o.p3 s (by rw[this];exact eZ);rw[e2,hb]at this;cases this
 have hbr':ss.any (eE r.gs)=false:=by simpa only[qp]using hbr
 rw[hbr']at pro;by_cases hm:(decide ((r.ms.length:Int)<=3)&&r.ms.all (fK<|r.fs++r.gs))=true;rotate_left
 ·have hm:(decide ((r.ms.length:Int)<=3)&&r.ms.all (fK<|r.fs++r.gs))=false:=by simpa only[qp]using hm
  rw[hm]at em;refine⟨false,⟨(λz=>nomatch z),λ⟨b,g,e⟩=>?_⟩,no true false true rfl pro (λ_=>em) λ_ z=>nomatch z⟩;obtain⟨e1,e2,_,e4,_⟩:=of b e;rw[<-hm,e4];exact(JY b b.ms e1 e2 g.o.m1 g.o.m2).symm▸rfl
 rw[hm]at em;simp![ao,decide_eq_true_eq]at hm;obtain⟨ts,et,ht⟩:=Bv Sm hm.2;have lts:ts.length<=3:=by have:=hm.1;rw[et,af]at this;lia
 have emd:(r.ms.map pD)=ts.map toD:=by rw[et,gV];exact ni λs _=>nL s
 by_cases hw:(decide ((1:Int)<=(r.ws.length:Int))&&decide ((r.ws.length:Int)<=5)&&r.ws.all λw=>decide (1<=(w.1:Int))&&decide ((w.1:Int)<=99)&&fK (r.fs++r.gs) w.2)=true;rotate_left
 ·have hw:(decide ((1:Int)<=(r.ws.length:Int))&&decide ((r.ws.length:Int)<=5)&&r.ws.all λw=>decide (1<=(w.1:Int))&&decide ((w.1:Int)<=99)&&fK (r.fs++r.gs) w.2)=false:=by simpa only[qp]using hw
  rw[hw]at ew;refine⟨false,⟨(λz=>nomatch z),λ⟨b,g,e⟩=>?_⟩,no true true false rfl pro (λ_=>em) λ_ _=>ew⟩;obtain⟨e1,e2,_,_,e5⟩:=of b e;rw[<-hw,e5];simp![ao,decide_eq_true_eq,af,je,jz];refine⟨⟨by have:=g.o.w1;lia,by have:=g.o.w2;lia⟩,λw hw'=>?_⟩;obtain⟨q1,q2,q3,q4⟩:=g.o.w3 w hw';simp![uf,ao,decide_eq_true_eq];refine⟨⟨by lia,by lia⟩,?_⟩;rw[<-e1,<-e2];exact uJ q3
 rw[hw]at ew;simp![ao,decide_eq_true_eq]at hw;obtain⟨vs,ev,hv⟩:=Tc Sw (by simpa only[ao,decide_eq_true_eq]using hw.2);have lvs:1<=vs.length/\vs.length<=5:=by have:=hw.1;rw[ev,af]at this;lia
 have Bok:Bk.Ok ⟨r.fs,r.gs,ss,ts,vs⟩:=⟨f1,f2,g1,g2,(PZ _ [] nd).1,dO,lss,hs,λs eZ=>by cases e:eE r.gs s with|false=>rfl|true=>exact absurd (List.any_eq_true.mpr ⟨s,eZ,e⟩) hbr,lts,ht,lvs.1,lvs.2,hv⟩;have er:wM ⟨r.fs,r.gs,ss,ts,vs⟩=r:=congr (congr (congrArg (Rb.mk r.fs r.gs) es.symm) et.symm) ev.symm;have ed:=zE Bok;rw[er]at ed;have ewd:r.ws.map lR=vs.map λw=>.tup [.int w.1,toD w.2]:=by have:=ed;simp![Rb.d,Bk.d,D.tup.injEq,gm,and_true]at this;exact this.2.2.2.2
 have dep8:∀x∈ss++ts++vs.map (·.2),aE x<=8:=λx hx=>by
  simp![cz,kq]at hx;rcases hx with(hx|hx)|⟨w,hx,rfl⟩;·exact(hs x hx).2
  ·exact(ht x hx).2
  ·exact(hv w hx).2.2.2
 have szl:lC (ss++ts++vs.map (·.2))<aL:=by
  have h1:∀l:List Sy,(∀x∈l,aE x<=8)->lC l<=l.length*256:=λl=>by induction l with|nil=>intro _;simp [lC]|cons x t ih =>intro h;have a:=ih λy hy=>h y (by simp [hy]);have b:=DV x;have c:2 ^ aE x<=2 ^ 8:=iu (by cbv) (h x<|by simp);simp![lC,aw,gq,ag]at a ⊢;lia
  have:=h1 _ dep8;simp![ah,af]at this;lia
 refine⟨decide (((gW (ss++ts++vs.map (·.2)) []).length:Int)<=4),⟨λz=>?_,λ⟨b,g,e⟩=>?_⟩,?_⟩;·simp![decide_eq_true_eq]at z;exact⟨⟨r.fs,r.gs,ss,ts,vs⟩,⟨Bok,by show(gW (ss++ts++vs.map (·.2)) []).length<=4;lia⟩,er⟩
 ·obtain⟨e1,e2,e3,e4,e5⟩:=of b e;have p1:b.ps=ss:=FL (by rw[<-e3,es]);have p2:b.ms=ts:=FL (by rw[<-e4,et]);have p3:b.ws.map (·.2)=vs.map (·.2):=FL (by have:=congrArg (ql Prod.snd)<|e5.symm.trans ev;simp![gV]at this ⊢;exact this);have:=g.c;unfold Bk.says at this;rw[p1,p2,p3]at this;rw[decide_eq_true_eq];lia
 ·have h:=LK (bY:=bY) (b3:=true) (b4:=true) (b5:=true) (b6:=decide (((gW (ss++ts++vs.map (·.2)) []).length:Int)<=4)) (Φ:=λl st=>st l=some (.lst ((ss++ts++vs.map (·.2)).map toD))) Z.bk Z.row lam add (λ_=>pro) (λ_ _=>em) (λ_ _ _=>ew) (λ_ _ _ _ st Q E q=>by rw[eps,emd,ewd];exact IV (k:=13) Z.so (by lia) (by lia) (by lia) q) λ_ _ _ _ l st Q E e q=>zZ (k:=12) Z.pi Z.wi e λx hx=>az (dep8 x hx)<|by cbv szl λp aA x e'=>q p aA _ x (by rw[af]) e';exact h
end
noncomputable def rK:Fn:=⟨1,1,[.ret<|.bP .join (.c<|.str<|W "") [.comp 1 [] [0] true none [.v 0] []<|.bin .add (.v 0)<|.c<|.str<|W "\n"]]⟩
noncomputable def rX (ict:Nat):Fn:=⟨1,1,[.iff (.not_<|.bP .endswith (.callx ict [.v 0]) [.c<|.str<|W "\n"]) [.rais 3 [.c<|.str<|W "the last line has no end"]] [],.ret<|.bP .split (.sl (.v 0) [] [.neg<|.c<|.int 1]) [.c<|.str<|W "\n"]]⟩
noncomputable def yP (md dgs:D):Fn:=⟨1,1,[.iff (.or_ (.not_<|.chain .le .le (.c<|.int 1) (.bi .len [.v 0])<|.c md)<|.not_<|.bi .all [.comp 1 [] [0] true none [.v 0] []<|.cmp .in_ (.v 0)<|.c dgs]) [.rais 3 [.c<|.str<|W "no such number"]] [],.ret<|.bi .int [.v 0]]⟩
noncomputable def rM:Fn:=⟨2,2,[.ret<|.comp 1 [0] [0] true none [.v 1] [.bP .startswith (.v 0) [.bin .add (.v 1)<|.c<|.str<|W " "]]<|.sl (.v 0) [.bin .add (.bi .len [.v 1])<|.c<|.int 1] []]⟩
noncomputable def xA (ibw:Nat):Fn:=⟨2,2,[.ret<|.bi .tuple [.bP .split (.bP .join (.c<|.str<|W " ") [.call ibw [.v 0,.v 1]]) [.c<|.str<|W " "]]]⟩
noncomputable def A6 (ini iwh:Nat):Fn:=⟨1,2,[.asg (.nm 1)<|.bP .partition (.v 0) [.c<|.str<|W " "],.ret<|.tup [.callx ini [.ix (.v 1)<|.c<|.int 0],.callx iwh [.ix (.v 1)<|.c<|.int 2]]]⟩
theorem Ar:W "\n" = [10]:=by cbv
theorem YF:W "" = []:=by cbv
theorem AQ {α:Type}{f:α->Nat}{n:Nat}:∀{xs:List α},(∀x∈xs,f x<=n)->(xs.map f).sum<=xs.length*n|[],_=>by simp|x::r,h=>by have:=AQ (xs:=r) λy hy=>h y (by simp [hy]);have:=h x (by simp);simp![aw,gq,ag];rw[Nat.succ_mul];lia
theorem AS (c:Nat)(s:List Nat):((aN c s).map fw).sum+(aN c s).length=s.length+1:=by induction s with|nil=>rfl|cons x s ih =>
 simp![aN];split;·simp![aw,gq,ag,ak];lia
 ·cases e:aN c s with|nil=>exact absurd e<|ME c s|cons w r=>rw[e]at ih;simp![aw,gq,ag]at ih ⊢;lia
theorem mY {c:Nat}{s w:List Nat}(h:w∈aN c s):w.length<=s.length:=by
 have:=AS c s;have h1:∀{l:List _},w∈l->w.length+l.length<=(l.map fw).sum+l.length/\1<=l.length:=λ{l}=>by induction l with|nil=>intro h;cases h|cons a r ih =>
   intro h;simp![aw,gq,ag];rcases List.mem_cons.mp h with rfl|h;·lia
   ·have:=ih h;lia
 have:=h1 h;lia
theorem qq (c:Nat)(s:List Nat):(aN c s).length<=s.length+1:=by have:=AS c s;lia
theorem FD (c:Nat):∀l:List Nat,occurs [c] l=l.contains c|[]=>rfl|x::r=>by simp![occurs,AaK,ky,FD c r,List.contains_cons]
theorem Yu:W "0123456789" = [48,49,50,51,52,53,54,55,56,57]:=by cbv
theorem QK (c:Nat):occurs [c] (W "0123456789")=iP c:=by
 by_cases h:c<58;·exact(show ∀c<58,occurs [c] (W "0123456789")=iP c by cbv) c h
 ·rw[iP,decide_eq_false (p:=c<=57)<|by lia,dt,<-qp,FD];exact λe=>h<|(show ∀c∈W "0123456789", c<58 by cbv) c<|List.elem_iff.mp e
theorem K8 (T:List Nat):cut T none (some<|-1)=T.dropLast:=by unfold cut cJ;simp only;rw[if_pos<|by cbv,lx];congr 1;lia
theorem ZS (T:List Nat):[10].isSuffixOf T=decide (T.getLast? = some 10):=by rw[fc,vt,decide_eq_true_eq,List.getLast?_eq_some_iff];exact⟨λ⟨t,h⟩=>⟨t,h.symm⟩,λ⟨t,h⟩=>⟨t,h.symm⟩⟩
set_option tactic.hygienic true in
theorem uZ (w:List Nat):∀ls:List<|List Nat,((bw w ls).map fw).sum<=(ls.map fw).sum/\(bw w ls).length<=ls.length
 |[]=>⟨Nat.le_refl _,av _⟩|l::r=>by
  have ih:=uZ w r;unfold bw at ih ⊢;rw[gv];split;·simp![aw,gq,ag];lia
  ·rename_i v e;split at e;·cases e;simp![aw,gq,ag,bz];lia
   ·cases e
theorem WA {w:List Nat}{ls:List<|List Nat}{n:Nat}(h:∀l∈ls,l.length<=n):∀v∈bw w ls,v.length<=n:=λv hv=>by
 obtain⟨l,hl,e⟩:=List.mem_filterMap.mp hv;split at e;·cases e;rw[bz];have:=h l hl;lia
 ·cases e
theorem NP {α β:Type}{gd:aB->Prop}{turn:D->aB->(Option D->aB->Prop)->Prop}{R:List D->aB->Prop}(t:α->D)(f:β->D)(g:α->Option β){bY:aB}{X:Prop}:∀(xs:List α)(acc:List D)(st:aB),Ext bY st ->(∀aA,Ext bY aA->gd aA)->(∀x∈xs,∀aA (K:Option D->aB->Prop),Ext bY aA->(∀y,g x=some y->∀aV,Ext aA aV->K (some<|f y) aV)->(g x=none->X)->turn (t x) aA K) ->acc.length+xs.length<=aL->(∀ys,cB g xs=some ys->∀aA,Ext bY aA->R (acc++ys.map f) aA)->(cB g xs=none->X)->iH gd turn (xs.map t) acc st R|[],acc,st,x0,hg,_,_,hR,_=>⟨hg st x0,by simpa using hR [] rfl st x0⟩|x::xs,acc,st,x0,hg,ht,hl,hR,hX=>by simp![ag]at hl;refine⟨hg st x0,by lia,ht x (by simp) st _ x0 (λy hy aV x2=>?_) λhn=>hX<|by simp![cB,hn];rfl⟩;exact NP t f g xs _ aV (x0.trans x2) hg λz hz=>ht z<|by simp [hz] (by simp![ah,ag,ak];lia) (λys hys aA x3=>by have:=hR (y::ys) (by simp![cB,hy,bg,hys,gz]) aA x3;simpa using this) λhn=>hX<|by simp![cB,hy,hn];rfl
section
variable {G:Prog}{k i ict ini ibw iwh iri ins ig ine iwo ij:Nat}{st:aB}{Q:VK}{E:XK}{T:List Nat}
theorem VH (h:G.fns i=some rK){l:Nat}{ws:List<|List Nat}(hl:st l=some (.lst<|ws.map .str))(hn:ws.length<=1000)(hw:∀w∈ws,w.length<=10000)(hQ:∀aA,Ext st aA->Q (.str (ws.map λw=>w++[10]).flatten) aA):aH G (k+1) i [.ref l] st Q E:=by
 have hL:aL=16777216:=rfl;rw[aK h];simp![rK,start];lk;rw[aF hl];refine kN D.str (λw=>.str<|w++[10]) ws [] st λaA x a ha=>by simp![cu]at ha;subst ha;rw[hl,x _ _ hl] (λw hwm aA K x1 hK=>?_) (by simp![ak];lia) λaC x1=>?_;·have:=hw w hwm;rw[Ar];exact⟨by simp![ag,ak];lia,hK aA .refl⟩
 rw[bh];refine bO (by simp![af];lia) λp aJ x2 hp fQ=>?_;k_ne;rw[aF fQ];have e:ws.map (λw=>D.str<|w++[10])=(ws.map λw=>w++[10]).map .str:=by rw[gV];rfl
 rw[e,fN];simp![aO];rw[YF,Aam];refine⟨?_,hQ _<|x1.trans x2⟩;have h2:=AQ (f:=λw=>w.length+1) (n:=10001) (xs:=ws) λw hx=>by have:=hw w hx;lia
 have h3:=qk hn (by lia);rw[gV];have e3:(List.length∘fun w=>w++[10])=fun w=>w.length+1:=by funext w;simp
 rw[e3];simp![af,ak,Aan];lia
theorem Jf (h:G.fns ict=some D2)(hQ:Q (.str T) st):aH G (k+1) ict [.str T] st Q E:=by rw[aK h];refine⟨rfl,?_⟩;exact hQ
theorem Q2 (h:G.fns i=some (rX ict))(hc:G.fns ict=some D2)(hT:T.length<aL)(hQ:T.getLast? = some 10->∀p aA,Ext st aA->st p=none->aA p=some (.lst<|(aN 10 T.dropLast).map .str)->Q (.ref p) aA)(hE:T.getLast?≠some 10->E 3 st):aH G (k+2) i [.str T] st Q E:=by
 rw[aK h];simp![rX,start];lk;refine Jf hc ?_;k_ne;refine⟨by lia,?_⟩;rw[Ar,ZS];by_cases hl:T.getLast? = some 10;·simp![hl,decide_true,bf,aa,if_false,aG];lk;refine⟨by lia,?_⟩;rw[show -1 = -1 from rfl,K8];refine⟨by rw[kc];lia,?_⟩;have sl:=qq 10 T.dropLast;refine bO (by rw[af];rw[kc]at sl;lia) λp aC x1 hp hp1=>?_;exact hQ hl p aC x1 hp hp1
 ·simp![hl,bu];exact hE hl
theorem YZ (h:G.fns i=some (yP (.int 2)<|.str<|W "0123456789")){w:List Nat}(hw:w.length<aL)(hQ:(1<=w.length/\w.length<=2)/\w.all iP=true->∀aA,Ext st aA->Q (.int (val w:Nat)) aA)(hE:¬((1<=w.length/\w.length<=2)/\w.all iP=true)->∀aA,Ext st aA->E 3 aA):aH G (k+1) i [.str w] st Q E:=by
 have hL:aL=16777216:=rfl;rw[aK h];simp only[yP,start];refine⟨rfl,?_⟩;lk;refine⟨by omega,?_⟩;by_cases l1:1<=w.length;rotate_left
 ·have l1':¬(1:Int)<=(w.length:Int):=by omega
  simp only[l1',decide_false,aa,if_false];k_ne;try simp only[bu,if_true]
  lk;exact hE (λz=>l1 z.1.1) st .refl
 have l1':(1:Int)<=(w.length:Int):=by omega
 simp only[l1',decide_true,if_true];k_ne;by_cases l2:w.length<=2;rotate_left
 ·have l2':¬(w.length:Int)<=2:=by omega
  simp only[l2',decide_false,bu,if_true];lk;exact hE (λz=>l2 z.1.2) st .refl
 have l2':(w.length:Int)<=2:=by omega
 simp only[l2',decide_true,bf,aa,if_false];k_ne;refine⟨by omega,?_⟩;refine kN (λc=>D.str [c]) (λc=>.bl<|iP c) w [] st (λaA x a ha=>by cases ha) (λc _ aA K x1 hK=>?_) (by simp only[ak];omega) λaC x1=>?_;·k_ne;rw[QK];exact hK aA .refl
 rw[bh];refine bO (by simp only[af];omega) λp aJ x2 hp fQ=>?_;k_ne;rw[aF fQ,pC];simp only[aO];rw[show(w.map iP).all id=w.all iP from by rw[je];rfl];cases ha:w.all iP with|true =>simp only[bf,aa,if_false,aG];lk;exact⟨⟨l1,by omega,ha⟩,hQ ⟨⟨l1,l2⟩,ha⟩ _<|x1.trans x2⟩|false =>simp only[bu,if_true];lk;exact hE (λz=>by rw[ha]at z;cases z.2) _<|x1.trans x2
theorem Es (w:List Nat)(ls:List<|List Nat):(ls.filterMap fun l=>if(w++[32]).isPrefixOf l=true then some (D.str<|l.drop<|w.length+1)else none)=(bw w ls).map .str:=by unfold bw;rw[List.map_filterMap];congr 1;funext l;split<;>rfl
theorem HL (h:G.fns i=some rM){w:List Nat}{l:Nat}{ls:List<|List Nat}(hl:st l=some (.lst<|ls.map .str))(hn:ls.length<=1000000)(hw:w.length<=100)(hls:∀x∈ls,x.length<=1000000)(hQ:∀p aA,Ext st aA->aA p=some (.lst<|(bw w ls).map .str)->Q (.ref p) aA):aH G (k+1) i [.str w,.ref l] st Q E:=by
 have hL:aL=16777216:=rfl;rw[aK h];simp![rM,start];lk;rw[aF hl];refine wU D.str (λl=>if(w++[32]).isPrefixOf l=true then some (D.str<|l.drop<|w.length+1)else none) ls [] st λaA x a ha=>by simp![cu]at ha;subst ha;rw[hl,x _ _ hl] (λl hl' aA K x1 hK=>?_) (by simp![ak];lia) λaC x1=>?_;·have hl2:=hls l hl';k_ne;rw[iD];refine⟨by simp![ag,ak];lia,?_⟩;refine⟨by lia,?_⟩;have hk:=hK aA .refl;cases hp:(w++[32]).isPrefixOf l with|false =>rw[hp]at hk;exact hk|true =>rw[hp]at hk;refine⟨by lia,by lia,?_⟩;rw[show(w.length:Int)+1=(w.length+1:Nat)by lia,iC];exact hk
 rw[bh,Es];have:=(uZ w ls).2;exact bO (by rw[af];lia) λp aJ x2 hp fQ=>hQ p aJ (x1.trans x2) fQ
theorem ES (h:G.fns i=some (xA ibw))(hb:G.fns ibw=some rM){w:List Nat}{l:Nat}{ls:List<|List Nat}(hl:st l=some (.lst<|ls.map .str))(hn:(ls.map fw).sum+ls.length<=1000000)(hw:w.length<=100)(hls:∀x∈ls,x.length<=1000000)(hQ:∀aA,Ext st aA->Q (.tup<|(aN 32<|aX [32]<|bw w ls).map .str) aA):aH G (k+2) i [.str w,.ref l] st Q E:=by
 have hL:aL=16777216:=rfl;have hs:=uZ w ls;rw[aK h];simp![xA,start];lk;refine HL hb hl (by lia) hw hls λp aC x1 hp=>?_;k_ne;rw[aF hp,fN];rw[iD];have jl:∀ws , (aX [32] ws).length<=(ws.map fw).sum+ws.length:=λws=>by induction ws with|nil=>simp [aX]|cons v r ih =>cases r with|nil=>simp [aX]|cons u r=>rw[join_cons<|by simp];simp![aw,gq,ag,ah]at ih ⊢;lia
 have j1:=jl<|bw w ls;refine⟨by simp![ag,ak];lia,?_⟩;have sl:=qq 32<|aX [32]<|bw w ls;refine⟨by lia,bO (by rw[af];lia) λq aJ x2 hq hq2=>?_⟩;k_ne;rw[aF hq2];exact⟨by rw[af];lia,hQ _<|x1.trans x2⟩
theorem LA (c:Nat)(s:List Nat):(part c s).1.length<=s.length/\(part c s).2.length<=s.length:=by unfold part;refine⟨(tw _).length_le,?_⟩;rw[bz];have:=yn (λx=>x != c) (l:=s).length_le;lia
theorem US (h:G.fns i=some (A6 ini iwh))(hn:G.fns ini=some (yP (.int 2)<|.str<|W "0123456789"))(hw:G.fns iwh=some (zN iri ins<|.int 8))(hi:G.fns iri=some AF)(F:RF G ig ine iwo ij ins){s:List Nat}(hs:s.length<aL)(hQ:∀x,wI s=some x->∀aA,Ext st aA->Q (lR x) aA)(hE:wI s=none->∀aA,Ext st aA->E 3 aA):aH G (k+22) i [.str s] st Q E:=by
 have pl:=LA 32 s;rw[aK h];simp![A6,start];lk;rw[iD,LW];refine⟨by lia,?_⟩;lk;refine YZ hn (by lia) (λhc aC x1=>?_) λhc aC x1=>?_;rotate_left;·refine hE ?_ _ x1;unfold wI;rw[if_neg hc]
 refine MY hw hi F (by lia) (λx hx aJ x2=>?_) λhx aJ x2=>?_;·exact hQ (val (part 32 s).1,x) (by unfold wI;rw[if_pos hc,hx];rfl) _<|x1.trans x2
 ·exact hE (by unfold wI;rw[if_pos hc,hx];rfl) _<|x1.trans x2
end
noncomputable def vR (ist ilt:Nat):Fn:=⟨1,2,[.asg (.nm 1)<|.lst [.bP .join (.c<|.str<|W " ") [.bin .add (.tup [.c<|.str<|W "foe"])<|.ix (.v 0)<|.c<|.int 0],.bP .join (.c<|.str<|W " ") [.bin .add (.tup [.c<|.str<|W "friend"])<|.ix (.v 0)<|.c<|.int 1]],.ex<|.bP .extend (.v 1) [.comp 1 [] [0] true none [.ix (.v 0)<|.c<|.int 2] []<|.bin .add (.c<|.str<|W "promise ")<|.call ist [.v 0]],.ex<|.bP .extend (.v 1) [.comp 1 [] [0] true none [.ix (.v 0)<|.c<|.int 3] []<|.bin .add (.c<|.str<|W "must ")<|.call ist [.v 0]],.ex<|.bP .extend (.v 1) [.comp 2 [] [0,1] false none [.ix (.v 0)<|.c<|.int 4] []<|.bin .add (.bin .add (.bin .add (.c<|.str<|W "wish ")<|.bi .str [.v 0])<|.c<|.str<|W " ")<|.call ist [.v 1]],.ret<|.call ilt [.v 1]]⟩
noncomputable def LR (iwb ich:Nat):Fn:=⟨1,1,[.ret<|.call iwb [.call ich [.v 0]]]⟩
noncomputable def EJ (ili iwh ibw iwi ini ibk iwb:Nat):Fn:=⟨1,6,[.asg (.nm 1)<|.callx ili [.v 0],.asg (.nm 2)<|.bi .tuple [.comp 1 [] [0] true none [.call ibw [.c<|.str<|W "promise",.v 1]] []<|.callx iwh [.v 0]],.asg (.nm 3)<|.bi .tuple [.comp 1 [] [0] true none [.call ibw [.c<|.str<|W "must",.v 1]] []<|.callx iwh [.v 0]],.asg (.nm 4)<|.bi .tuple [.comp 1 [] [0] true none [.call ibw [.c<|.str<|W "wish",.v 1]] []<|.callx iwi [.v 0]],.asg (.nm 5)<|.tup [.call ini [.c<|.str<|W "foe",.v 1],.call ini [.c<|.str<|W "friend",.v 1],.v 2,.v 3,.v 4],.iff (.or_ (.not_<|.call ibk [.v 5])<|.cmp .ne (.call iwb [.v 5])<|.v 0) [.rais 3 [.c<|.str<|W "no book is written so"]] [],.ret<|.v 5]⟩
theorem Bt:∀s:Sy,2*(mz s+4)<=5*2 ^ aE s|.yes=>by cbv|.no=>by cbv|.bF _=>by simp![mz,aE];cbv|.one w s=>by have:=Bt s;simp![mz,aE];lia|.two w s t=>by have h1:=Bt s;have h2:=Bt t;have h3:2 ^ aE s<=2 ^ max (aE s) (aE t):=iu (by cbv) (by lia);have h4:2 ^ aE t<=2 ^ max (aE s) (aE t):=iu (by cbv) (by lia);simp![mz,aE];lia
theorem Xq {s:Sy}(h:aE s<=8):mz s<=1000:=by have:=Bt s;have h3:2 ^ aE s<=2 ^ 8:=iu (by cbv) h;lia
theorem zX {names:List<|List Nat}(hn:∀n∈names,bD n=true){s:Sy}(ho:over names s)(hd:aE s<=8):(tx s).length<=9000:=az (zS hn s ho hd)<|by cbv
theorem Mj {names:List<|List Nat}{G:Prog}{k i:Nat}{st:aB}{Q:VK}{E:XK}(h:G.fns i=some sI)(hn:∀n∈names,bD n=true){s:Sy}(ho:over names s)(hd:aE s<=8)(hQ:∀aA,Ext st aA->Q (.str<|tx s) aA):aH G (k+1) i [toD s] st Q E:=by have hL:aL=16777216:=rfl;exact YU h (Xq hd) (by lia) (by have:=zX hn ho hd;lia) λw=>by cases w<;>decide hQ
theorem DS {ns:List<|List Nat}(h:∀n∈ns,bD n=true):(ns.map fw).sum<=ns.length*8:=AQ λn hn=>(iS<|h n hn).2.2.1
theorem oQ {st aA:aB}{l:Nat}{o:MO}(hn:st l=none)(x:Ext st aA):Ext st<|put aA l o:=λa o' e=>by rw[bS λz=>by simp_all];exact x a o' e
theorem SU {α:Type}{turn:D->aB->(Option D->aB->Prop)->Prop}(t:α->D)(f:α->List Nat){xs:List α}{A:List<|List Nat}{l:Nat}{bY aC:aB}{K:aB->Prop}(hn:bY l=none)(x1:Ext bY aC)(hl:aC l=some (.lst<|A.map .str))(hx:A.length+xs.length<=1000)(ht:∀x∈xs,∀aA (K:Option D->aB->Prop),Ext aC aA->(∀aV,Ext aA aV->K (some<|.str<|f x) aV)->turn (t x) aA K)(hK:∀aA,Ext bY aA->aA l=some (.lst<|(A++xs.map f).map .str)->K aA):iH (same [] aC) turn (xs.map t) [] aC λds eQ=>fW ds eQ λd aA=>cC aA l λxs=>tZ d aA λys=>xs.length+ys.length<=aL/\K (put aA l<|.lst<|xs++ys):=by have hL:aL=16777216:=rfl;refine kN t _ xs [] aC (λaA x a ha=>by cases ha) ht (by simp![ak];lia) λaJ x2=>?_;rw[bh];refine bO (by rw[af];lia) λp aZ x3 hp hp3=>?_;rw[aF<|x3 _ _<|x2 _ _ hl,QP,aF hp3];refine⟨by simp![af];lia,hK _ (oQ hn<|(x1.trans x2).trans x3) ?_⟩;rw[bE,eu,gV];rfl
section
variable {G:Prog}{k i ist ilt iwb ich ibk:Nat}{st:aB}{Q:VK}{E:XK}{b:Bk}
theorem joined {w:List Nat}{ns:List<|List Nat}(h1:1<=ns.length):aX [32] (w::ns)=w++[32]++aX [32] ns:=by rw[join_cons λz=>by simp_all];simp
theorem AY (B:b.Ok):(gB b).length<=13/\∀w∈gB b,w.length<=10000:=by
 have:=B.p1;have:=B.m1;have:=B.w2;have f2:=B.f2;have g2:=B.g2;have nj:∀ns:List<|List Nat,ns.length<=2->(∀n∈ns,bD n=true)->(aX [32] ns).length<=20:=λns hl h=>by match ns,hl,h with|[],_,_=>simp [aX]|[a],_,h=>have:=(iS<|h a<|by simp).2.2.1;simp![aX];lia|[a,c],_,h =>have:=(iS<|h a<|by simp).2.2.1;have:=(iS<|h c<|by simp).2.2.1;simp![aX,ah,ag,ak];lia|_::_::_::_,hl,_=>simp at hl
 refine⟨by simp![gB,ag,ah,af];lia,λl hl=>?_⟩;simp![gB,ba,cz,kq]at hl;rcases hl with rfl|rfl|⟨s,hs,rfl⟩|⟨s,hs,rfl⟩|⟨w,hw,rfl⟩;·have:=nj b.fs f2 λn hn=>B.nm n<|fb _ hn;have e:(W "foe ").length=4:=rfl;rw[ah];lia
 ·have:=nj b.gs g2 λn hn=>B.nm n<|cf _ hn;have e:(W "friend ").length=7:=rfl;rw[ah];lia
 ·have:=zX B.nm (B.p2 s hs).1 (B.p2 s hs).2;have e:(W "promise ").length=8:=rfl;rw[ah];lia
 ·have:=zX B.nm (B.m2 s hs).1 (B.m2 s hs).2;have e:(W "must ").length=5:=rfl;rw[ah];lia
 ·have:=zX B.nm (B.w3 w hw).2.2.1 (B.w3 w hw).2.2.2;have e:(W "wish ").length=5:=rfl;have d:=vM (n:=w.1.toNat) (by have:=(B.w3 w hw).2.1;lia);simp![nV,ah,ag];lia
theorem HS (h:G.fns i=some (vR ist ilt))(hs:G.fns ist=some sI)(hl:G.fns ilt=some rK)(B:b.Ok)(hQ:∀aA,Ext st aA->Q (.str<|jM b) aA):aH G (k+2) i [b.d] st Q E:=by
 have hL:aL=16777216:=rfl;have f1:=B.f1;have f2:=B.f2;have g1:=B.g1;have g2:=B.g2;have p1:=B.p1;have m1:=B.m1;have w2:=B.w2;have sf:=DS λn hn=>B.nm n<|fb b.gs hn;have sg:=DS λn hn=>B.nm n<|cf b.fs hn;rw[aK h];simp![vR,start,Bk.d];refine⟨rfl,?_⟩;lk;rw[iD];rw[show D.str (W "foe")::b.fs.map D.str=(W "foe" :: b.fs).map D.str from rfl,show D.str (W "friend")::b.gs.map D.str=(W "friend" :: b.gs).map D.str from rfl,fN,fN];have ef:(W "foe").length=3:=rfl;have eg:(W "friend").length=6:=rfl;refine⟨by simp![af];lia,?_⟩;simp![aO];refine⟨by simp![aw,gq,ag,ak];lia,by simp![af];lia,by simp![aw,gq,ag,ak];lia,?_⟩;refine bO (by show 2<=aL;cbv) λl aC x1 hl0 hl1=>?_;rw[joined f1,joined g1]at hl1;lk;rw[aF hl1];refine⟨trivial,?_⟩;refine SU toD (λs=>W "promise " ++ tx s) (A:=[W "foe" ++ [32]++aX [32] b.fs,W "friend" ++ [32]++aX [32] b.gs]) hl0 x1 hl1 (by simp![ag,ak];lia) (λs eZ aA K x hK=>?_) λaJ x2 hl2=>?_;·refine Mj hs B.nm (B.p2 s eZ).1 (B.p2 s eZ).2 λaV y=>?_;have:=zX B.nm (B.p2 s eZ).1 (B.p2 s eZ).2;have e:(W "promise ").length=8:=rfl;k_ne;exact⟨by lia,hK aV y⟩
 lk;rw[aF hl2];refine⟨trivial,?_⟩;refine SU toD (λs=>W "must " ++ tx s) hl0 x2 hl2 (by simp![ag,ak,ah,af];lia) (λs eZ aA K x hK=>?_) λaZ x3 hl3=>?_;·refine Mj hs B.nm (B.m2 s eZ).1 (B.m2 s eZ).2 λaV y=>?_;have:=zX B.nm (B.m2 s eZ).1 (B.m2 s eZ).2;have e:(W "must ").length=5:=rfl;k_ne;exact⟨by lia,hK aV y⟩
 lk;rw[aF hl3];refine⟨trivial,?_⟩;refine SU (λw=>.tup [.int w.1,toD w.2]) nV (xs:=b.ws) hl0 x3 hl3 (by simp![ag,ak,ah,af];lia) (λw hw aA K x hK=>?_) λcR x4 hl4=>?_;·obtain⟨q1,q2,q3,q4⟩:=B.w3 w hw;have d:=vM (n:=w.1.toNat) (by lia);have:=zX B.nm q3 q4;have e:(W "wish ").length=5:=rfl;k_ne;refine⟨⟨by lia,by lia⟩,by lia,by rw[ah];lia,?_⟩;refine Mj hs B.nm q3 q4 λaV y=>?_;k_ne;refine⟨by simp![ah,ag,ak];lia,?_⟩;have:=hK aV y;simpa [nV]using this
 have e:[W "foe" ++ [32]++aX [32] b.fs,W "friend" ++ [32]++aX [32] b.gs]++b.ps.map (λs=>W "promise " ++ tx s)++b.ms.map (λs=>W "must " ++ tx s)++b.ws.map nV=gB b:=by rw[show W "foe" ++ [32]=W "foe " from by cbv,show W "friend" ++ [32]=W "friend " from by cbv];simp [gB]
 rw[e]at hl4;exact VH hl hl4 (az (AY B).1<|by cbv) (AY B).2 λeQ x5=>hQ _<|x4.trans x5
theorem X5 {kb:Nat}(h:G.fns i=some (LR iwb ich))(hc:G.fns ich=some (wR ibk))(hb:QW G ibk kb b)(hw:G.fns iwb=some (vR ist ilt))(hs:G.fns ist=some sI)(hl:G.fns ilt=some rK)(B:b.Ok)(hQ:∀aA,Ext st aA->Q (.str<|jM b) aA):aH G (k+kb+4) i [b.d] st Q E:=by rw[aK h];refine⟨rfl,?_⟩;refine fB (j:=k+kb+1) (by lia)<|SH hc hb λaC x1=>?_;exact HS hw hs hl B λaJ x2=>hQ _<|x1.trans x2
end
structure Jc (G:Prog)(irb ili iwh ibw iwi inn ibk iwb ict ini iri ig ine iwo ij ins ist ilt:Nat):Prop where
 r:G.fns irb=some (EJ ili iwh ibw iwi inn ibk iwb)li:G.fns ili=some (rX ict)ct:G.fns ict=some D2
 wh:G.fns iwh=some (zN iri ins<|.int 8)ri:G.fns iri=some AF
 F:RF G ig ine iwo ij ins
 bw:G.fns ibw=some rM
 wi:G.fns iwi=some (A6 ini iwh)nu:G.fns ini=some (yP (.int 2)<|.str<|W "0123456789")nn:G.fns inn=some (xA ibw)wb:G.fns iwb=some (vR ist ilt)st:G.fns ist=some sI
 lt:G.fns ilt=some rK
theorem nN {α β:Type}{g:α->Option β}:∀{as:List α}{bs:List β},cB g as=some bs->∀b∈bs,∃a∈as,g a=some b
 |[],bs,h=>by cases h;simp|a::as,bs,h=>by
  simp![cB,bb,ay]at h;obtain⟨b,h1,bs',h2,rfl⟩:=h;intro x hx;rcases List.mem_cons.mp hx with rfl|hx;·simp_all
  ·obtain⟨y,hy,e⟩:=nN h2 x hx;exact⟨y,by simp [hy],e⟩
section
variable {G:Prog}{k irb ili iwh ibw iwi inn ibk iwb ict ini iri ig ine iwo ij ins ist ilt ir il iap ia iaw ipi io ib ih iy bC bT iw ip:Nat}{st:aB}{Q:VK}{E:XK}{T:List Nat}
theorem C9 (ws:List<|List Nat):(aX [32] ws).length<=(ws.map fw).sum+ws.length:=by induction ws with|nil=>simp [aX]|cons v r ih =>cases r with|nil=>simp [aX]|cons u r=>rw[join_cons<|by simp];simp![aw,gq,ag,ah]at ih ⊢;lia
theorem Ot {ls:List<|List Nat}{ps ms:List Py}{ws:List<|Nat×Py}(hs:(ls.map fw).sum+ls.length<=1000000)(hps:cB pW (bw (W "promise") ls)=some ps)(hms:cB pW (bw (W "must") ls)=some ms)(hws:cB wI (bw (W "wish") ls)=some ws):Rb.Kk ⟨aN 32<|aX [32]<|bw (W "foe") ls,aN 32<|aX [32]<|bw (W "friend") ls,ps,ms,ws⟩:=by
 have hL:aL=16777216:=rfl;have bs:=λw=>uZ w ls;have nl:∀w,(aN 32<|aX [32]<|bw w ls).length<=1000001/\(aX [32]<|bw w ls).length<=1000000:=λw=>by have a:=qq 32<|aX [32]<|bw w ls;have b:=C9<|bw w ls;have:=bs w;lia
 have mem:∀w,∀v∈bw w ls,v.length<=1000000:=λw=>WA λl hl=>by
  have:∀{l:List<|List Nat}{x:List Nat},x∈l->x.length<=(l.map fw).sum:=λ{l}=>by induction l with|nil=>intro x h;cases h|cons a r ih =>
    intro x h;simp![aw,gq];rcases List.mem_cons.mp h with rfl|h;·lia
    ·have:=ih h;lia
  have:=this hl;lia
 have pg:∀{v:List Nat}{x:Py},v.length<=1000000->pW v=some x->kQ x/\deep x<=8/\lS aL x:=λ{v x} hv h=>by obtain⟨a,b,c⟩:=Bf h;exact⟨a,b,rT (by lia) c⟩
 have e1:=iT hps;have e2:=iT hms;have e3:=iT hws;have b1:=(bs<|W "promise").2;have b2:=(bs<|W "must").2;have b3:=(bs<|W "wish").2;refine⟨?_,?_,λn hn=>?_,?_,?_,?_,λ_ x hx=>?_⟩;·exact(nl _).1
 ·exact(nl _).1
 ·rcases List.mem_append.mp hn with hn|hn;·exact az (mY hn)<|az (nl _).2<|by cbv
  ·exact az (mY hn)<|az (nl _).2<|by cbv
 ·show ps.length<=_;lia
 ·show ms.length<=_;lia
 ·show ws.length<=_;lia
 ·simp![cz,kq]at hx;rcases hx with(hx|hx)|⟨w,hx,rfl⟩;·obtain⟨v,hv,e⟩:=nN hps x hx;exact pg (mem _ v hv) e
  ·obtain⟨v,hv,e⟩:=nN hms x hx;exact pg (mem _ v hv) e
  ·obtain⟨v,hv,e⟩:=nN hws w hx;unfold wI at e;split at e;·obtain⟨y,e4,e5⟩:=Option.map_eq_some_iff.mp e;subst e5;exact pg (az (LA 32 v).2<|mem _ v hv) e4
   ·cases e
theorem Y9 {β:Type}{turn:D->aB->(Option D->aB->Prop)->Prop}{K:List D->aB->Prop}{X:Prop}(f:β->D)(g:List Nat->Option β)(hb:G.fns ibw=some rM){w:List Nat}{p:Nat}{ls:List<|List Nat}(hp:st p=some (.lst<|ls.map .str))(hw:w.length<=100)(hn:ls.length<=1000000)(hls:∀x∈ls,x.length<=1000000)(ht:∀v∈bw w ls,∀aA (K:Option D->aB->Prop),Ext st aA->(∀y,g v=some y->∀aV,Ext aA aV->K (some<|f y) aV)->(g v=none->X)->turn (.str v) aA K)(hK:∀ys,cB g (bw w ls)=some ys->∀aA,Ext st aA->K (ys.map f) aA)(hX:cB g (bw w ls)=none->X):aH G (k+1) ibw [.str w,.ref p] st (λd aA=>nK d aA λas xs=>iH (same as aA) turn xs [] aA λds eQ=>fW ds eQ λd aA=>dG d aA λ_ xs=>xs.length<=aL/\K xs aA) λ_ _=>False:=by have hL:aL=16777216:=rfl;have bl:=(uZ w ls).2;refine HL hb hp hn hw hls λq aC x1 hq=>?_;rw[NS,aF hq];refine NP _ f g _ [] aC .refl λaA x a ha=>by simp![cu]at ha;subst ha;rw[hq,x _ _ hq] (λv hv aA K x2 h1 h2=>ht v hv aA K (x1.trans x2) h1 h2) (by simp![ak];lia) (λys hys aJ x2=>?_) hX;rw[bh];have yl:=iT hys;refine bO (by rw[af];lia) λr aZ x3 hr hr3=>?_;simp![dG];rw[aF hr3];exact⟨by rw[af];lia,hK ys hys _<|(x1.trans x2).trans x3⟩
theorem MB (R:Jc G irb ili iwh ibw iwi inn ibk iwb ict ini iri ig ine iwo ij ins ist ilt)(Z:NF G ibk ir il iap ia iaw ipi io ib ih iy bC bT iw ip)(hT:T.length<=100000)(hQ:∀b:Bk,b.Good->jM b=T->∀aA,Ext st aA->Q b.d aA)(hE:(∀b:Bk,b.Good->jM b≠T)->∀aA,Ext st aA->E 3 aA):aH G (k+30) irb [.str T] st Q E:=by
 have hL:aL=16777216:=rfl;have key:rP T=none->∀b:Bk,b.Good->jM b≠T:=λh b g e=>by rw[<-e,vH g.o]at h;cases h
 rw[aK R.r];simp![EJ,start];refine⟨rfl,?_⟩;lk;refine Q2 (k:=k+27) R.li R.ct (by lia) (λhl p aC x1 hp hp1=>?_) λhl=>?_;rotate_left;·exact hE (key<|by unfold rP;rw[if_neg hl]) st .refl
 have dl:T.dropLast.length<=T.length:=by rw[kc];lia
 have ss:=AS 10 T.dropLast;have sm:∀w∈aN 10 T.dropLast,w.length<=100000:=λw hw=>az (mY hw)<|az dl hT;have e0:rP T=MI (aN 10 T.dropLast):=by unfold rP;rw[if_pos hl]
 generalize aN 10 T.dropLast=ls at ss sm e0 hp1;have bs:=λw=>uZ w ls;have bm:=λw=>WA (w:=w) sm;have sm':∀w∈ls,w.length<=1000000:=λw hw=>az (sm w hw) (by cbv);have kn:∀w,w=W "promise" \/ w=W "must" \/ w=W "wish" \/ w=W "foe" \/ w=W "friend"->w.length<=100:=λw h=>by rcases h with rfl|rfl|rfl|rfl|rfl<;>cbv
 have pw:∀(w:List Nat)(aA:aB)(K:Option D->aB->Prop)(v:List Nat),v∈bw w ls->Ext st aA->(∀y,pW v=some y->∀aV,Ext aA aV->K (some<|pD y) aV)->(pW v=none->∀aA,Ext st aA->E 3 aA)->aH G (k+29) iwh [.str v] aA (λd cR=>K (some d) cR) λc aA=>E c aA:=λw aA K v hv x h1 h2=>by have:=bm w v hv;exact MY (k:=k+8) R.wh R.ri R.F (by lia) (λy hy aV x3=>h1 y hy aV x3) λhn aV x3=>h2 hn aV<|x.trans x3
 lk;refine Y9 (k:=k+28) (X:=∀aA,Ext st aA->E 3 aA) pD pW R.bw hp1 (kn _<|by simp) (by lia) sm' (λv hv aA K x h1 h2=>?_) (λps hps aJ x2=>?_) λhn=>hE (key<|by rw[e0];unfold MI;rw[hn];rfl);·k_ne;exact pw _ aA K v hv (x1.trans x) h1 h2
 have y2:=x1.trans x2;lk;refine Y9 (k:=k+28) (X:=∀aA,Ext st aA->E 3 aA) pD pW R.bw (x2 _ _ hp1) (kn _<|by simp) (by lia) sm' (λv hv aA K x h1 h2=>?_) (λms hms aZ x3=>?_) λhn=>hE (key<|by rw[e0];unfold MI;rw[hps,hn];rfl);·k_ne;exact pw _ aA K v hv (y2.trans x) h1 h2
 have y3:=y2.trans x3;lk;refine Y9 (k:=k+28) (X:=∀aA,Ext st aA->E 3 aA) lR wI R.bw (x3 _ _<|x2 _ _ hp1) (kn _<|by simp) (by lia) sm' (λv hv aA K x h1 h2=>?_) (λws hws cR x4=>?_) λhn=>hE (key<|by rw[e0];unfold MI;rw[hps,hms,hn];rfl);·k_ne;have:=bm _ v hv;exact US (k:=k+7) R.wi R.nu R.wh R.ri R.F (by lia) (λy hy aV x3=>h1 y hy aV x3) λhn aV x5=>h2 hn aV<|(y3.trans x).trans x5
 have y4:=y3.trans x4;have hp4:=x4 _ _<|x3 _ _<|x2 _ _ hp1;lk;refine ES (k:=k+27) R.nn R.bw hp4 (by lia) (kn _<|by simp) sm' λeQ x5=>?_;k_ne;refine ES (k:=k+27) R.nn R.bw (x5 _ _ hp4) (by lia) (kn _<|by simp) sm' λdE x6=>?_;have y6:=(y4.trans x5).trans x6;lk;have L:=Ot (ls:=ls) (by lia) hps hms hws;have er:rP T=some ⟨aN 32<|aX [32]<|bw (W "foe") ls,aN 32<|aX [32]<|bw (W "friend") ls,ps,ms,ws⟩:=by rw[e0];unfold MI;rw[hps,hms,hws];rfl
 have ed:D.tup [D.tup<|(aN 32<|aX [32]<|bw (W "foe") ls).map D.str,D.tup<|(aN 32<|aX [32]<|bw (W "friend") ls).map D.str,D.tup<|ps.map pD,D.tup<|ms.map pD,D.tup<|ws.map lR]=Rb.d ⟨aN 32<|aX [32]<|bw (W "foe") ls,aN 32<|aX [32]<|bw (W "friend") ls,ps,ms,ws⟩:=rfl;rw[ed];generalize (⟨aN 32<|aX [32]<|bw (W "foe") ls,aN 32<|aX [32]<|bw (W "friend") ls,ps,ms,ws⟩:Rb)=r at L er ⊢;clear ed;obtain⟨c,hc,hev⟩:=PY (bY:=dE) Z L;refine fB (j:=15) (by lia)<|hev dE _ _ .refl λN9 x7=>?_;cases c with|false =>simp![↓nX,bu,if_true];lk;refine hE (λb g e=>?_) _<|y6.trans x7;rw[<-e,vH g.o]at er;have:=hc.mpr ⟨b,g,dv er⟩;cases this|true =>
  obtain⟨b,g,eb⟩:=hc.mp rfl;have ebd:r.d=b.d:=by rw[<-eb];exact zE g.o
  simp![↓nX,bf,aa,if_false];rw[ebd];refine HS (k:=k+27) R.wb R.st R.lt g.o λkS x8=>?_;have y8:=(y6.trans x7).trans x8;refine⟨nI,?_⟩;rw[jN];by_cases hw:jM b=T
  ·have e1:(jM b==T)=true:=by rw[hw];simp
   simp![e1,bf,aa,if_false,aG];lk;exact hQ b g hw _ y8
  ·have e1:(jM b==T)=false:=by rw[beq_eq_false_iff_ne];exact hw
   simp![e1,bu,if_true];lk;refine hE (λb' g' e=>?_) _ y8;rw[<-e,vH g'.o,<-eb]at er;have:=TV g'.o g.o<|dv er;subst this;exact hw e
end
noncomputable def A7 (ilt:Nat):Fn:=⟨1,4,[.asg (.nm 1)<|.lst [.bin .add (.c<|.str<|W "foe ")<|.bP .join (.c<|.str<|W " ") [.ix (.v 0)<|.c<|.int 0],.bin .add (.c<|.str<|W "friend ")<|.bP .join (.c<|.str<|W " ") [.ix (.v 0)<|.c<|.int 1]],.sV (.nm 2) none [.ix (.v 0)<|.c<|.int 2] [.ex<|.bP .append (.v 1) [.bin .add (.c<|.str<|W "promise ")<|.call ilt [.v 2]]],.sV (.nm 2) none [.ix (.v 0)<|.c<|.int 3] [.ex<|.bP .append (.v 1) [.bin .add (.c<|.str<|W "must ")<|.call ilt [.v 2]]],.sV (.tp [3,2]) none [.ix (.v 0)<|.c<|.int 4] [.ex<|.bP .append (.v 1) [.bin .add (.bin .add (.bin .add (.c<|.str<|W "wish ")<|.bi .str [.v 3])<|.c<|.str<|W " ")<|.call ilt [.v 2]]],.ret<|.bP .join (.c<|.str<|W "") [.comp 1 [] [0] true none [.v 1] []<|.bin .add (.v 0)<|.c<|.str<|W "\n"]]⟩
noncomputable def yK (iso:Nat):Fn:=⟨2,4,[.asg (.nm 2)<|.ix (.bP .split (.v 0) [.c<|.str<|W " "])<|.c<|.int 0,.iff (.or_ (.cmp .eq (.v 2)<|.c<|.str<|W "")<|.or_ (.cmp .gt (.bi .len [.v 2])<|.c<|.int 2)<|.cmp .ne (.comp 1 [] [0] true none [.v 2] [.cmp .fP (.v 0)<|.c<|.str<|W "0123456789"]<|.v 0)<|.lst []) [.ret<|.c .non] [],.asg (.nm 3)<|.call iso [.sl (.v 0) [.bin .add (.bi .len [.v 2])<|.c<|.int 1] [],.v 1],.iff (.or_ (.cmp .is_ (.v 3)<|.c .non)<|.cmp .eq (.ix (.v 2)<|.c<|.int 0)<|.c<|.str<|W "0") [.ret<|.c .non] [],.ret<|.tup [.bi .int [.v 2],.v 3]]⟩
inductive Oy {α:Type}(f:α->List Nat)(A:List<|List Nat)(l:Nat)(bY:aB)(xs:List α)(F:Option D->Option D->St)(rest:List α)(σ:St)(aA:aB):Prop |mk (done:List α)(o2 o3:Option D)(e:xs=done++rest)(es:σ=F o2 o3)(x:Ext bY aA)(hl:aA l=some (.lst<|(A++done.map f).map .str))
theorem FV {A:List<|List Nat}{α:Type}{f:α->List Nat}{done:List α}{x:α}:(A++done.map f).map D.str++[D.str<|f x]=(A++(done++[x]).map f).map D.str:=by simp
section
variable {G:Prog}{k i ilt iso ip iw ide:Nat}{st:aB}{Q:VK}{E:XK}{b:Bk}
theorem ZJ (h:G.fns ilt=some (uC ilt)){names:List<|List Nat}(hn:∀n∈names,bD n=true){s:Sy}(ho:over names s)(hd:aE s<=8)(hQ:Q (.str<|tx s) st):aH G (k+9) ilt [toD s] st Q E:=by have hL:aL=16777216:=rfl;exact fB (j:=0+aE s) (by lia)<|Nl h s (by have:=zX hn ho hd;lia) hQ
theorem HX (h:G.fns i=some (A7 ilt))(hl:G.fns ilt=some (uC ilt))(B:b.Ok)(hQ:∀aA,Ext st aA->Q (.str<|jM b) aA):aH G (k+10) i [b.d] st Q E:=by
 have hL:aL=16777216:=rfl;have f1:=B.f1;have f2:=B.f2;have g1:=B.g1;have g2:=B.g2;have p1:=B.p1;have m1:=B.m1;have w2:=B.w2;have sf:=DS λn hn=>B.nm n<|fb b.gs hn;have sg:=DS λn hn=>B.nm n<|cf b.fs hn;have jf:=C9 b.fs;have jg:=C9 b.gs;rw[aK h];simp![A7,start,Bk.d];refine⟨rfl,?_⟩;lk;rw[iD,fN,fN];have ef:(W "foe ").length=4:=rfl;have eg:(W "friend ").length=7:=rfl;simp![aO];refine⟨by simp![ag,ak];lia,?_⟩;k_ne;refine⟨by lia,by lia,by lia,?_⟩;refine bO (by show 2<=aL;cbv) λl aC x1 hl0 hl1=>?_;lk;refine uM toD (I:=Oy (λs=>W "promise " ++ tx s) [W "foe " ++ aX [32] b.fs,W "friend " ++ aX [32] b.gs] l st b.ps λo2 o3=>[some<|.tup [.tup<|b.fs.map .str,.tup<|b.gs.map .str,.tup<|b.ps.map toD,.tup<|b.ms.map toD,.tup<|b.ws.map λw=>.tup [.int w.1,toD w.2]],some<|.ref l,o2,o3]) (λrest σ aA I a ha=>by cases ha) (λs rest σ aA M I hM=>?_) (λσ aA I=>?_) _ _ _ ⟨[],none,none,rfl,rfl,x1,by simpa using hl1⟩
 ·obtain⟨done,o2,o3,e,es,x,hl2⟩:=I;subst es;have hs:s∈b.ps:=by rw[e];simp
  have dl:done.length<=3:=by rw[e]at p1;simp at p1;lia
  have:=zX B.nm (B.p2 s hs).1 (B.p2 s hs).2;have e8:(W "promise ").length=8:=rfl;k_ne;lk;rw[aF hl2];refine⟨trivial,?_⟩;refine ZJ (k:=k) hl B.nm (B.p2 s hs).1 (B.p2 s hs).2 ?_;k_ne;refine⟨by lia,?_⟩;rw[aF hl2];refine⟨by simp![af,ah,ag,ak];lia,?_⟩;simp![aG];exact hM _ _ ⟨done++[s],_,_,by rw[e];simp,rfl,oQ hl0 x,by rw[bE,FV]⟩
 obtain⟨done,o2,o3,e,es,x2,hl2⟩:=I;rw[dn]at e;subst e es;lk;refine uM toD (I:=Oy (λs=>W "must " ++ tx s) ([W "foe " ++ aX [32] b.fs,W "friend " ++ aX [32] b.gs]++b.ps.map λs=>W "promise " ++ tx s) l st b.ms λo2 o3=>[some<|.tup [.tup<|b.fs.map .str,.tup<|b.gs.map .str,.tup<|b.ps.map toD,.tup<|b.ms.map toD,.tup<|b.ws.map λw=>.tup [.int w.1,toD w.2]],some<|.ref l,o2,o3]) (λrest σ aA I a ha=>by cases ha) (λs rest σ aA M I hM=>?_) (λσ aA I=>?_) _ _ _ ⟨[],_,_,rfl,rfl,x2,by simpa using hl2⟩
 ·obtain⟨done,o2,o3,e,es,x,hl3⟩:=I;subst es;have hs:s∈b.ms:=by rw[e];simp
  have dl:done.length<=3:=by rw[e]at m1;simp at m1;lia
  have:=zX B.nm (B.m2 s hs).1 (B.m2 s hs).2;have e8:(W "must ").length=5:=rfl;k_ne;lk;rw[aF hl3];refine⟨trivial,?_⟩;refine ZJ (k:=k) hl B.nm (B.m2 s hs).1 (B.m2 s hs).2 ?_;k_ne;refine⟨by lia,?_⟩;rw[aF hl3];refine⟨by simp![af,ah,ag,ak];lia,?_⟩;simp![aG];exact hM _ _ ⟨done++[s],_,_,by rw[e];simp,rfl,oQ hl0 x,by rw[bE,FV]⟩
 obtain⟨done,o2,o3,e,es,x3,hl3⟩:=I;rw[dn]at e;subst e es;lk;refine uM (λw:Int×Sy=>D.tup [.int w.1,toD w.2]) (I:=Oy nV (([W "foe " ++ aX [32] b.fs,W "friend " ++ aX [32] b.gs]++b.ps.map λs=>W "promise " ++ tx s)++b.ms.map λs=>W "must " ++ tx s) l st b.ws λo2 o3=>[some<|.tup [.tup<|b.fs.map .str,.tup<|b.gs.map .str,.tup<|b.ps.map toD,.tup<|b.ms.map toD,.tup<|b.ws.map λw=>.tup [.int w.1,toD w.2]],some<|.ref l,o2,o3]) (λrest σ aA I a ha=>by cases ha) (λw rest σ aA M I hM=>?_) (λσ aA I=>?_) _ _ _ ⟨[],_,_,rfl,rfl,x3,by simpa using hl3⟩
 ·obtain⟨done,o2,o3,e,es,x,hl4⟩:=I;subst es;have hw:w∈b.ws:=by rw[e];simp
  have dl:done.length<=5:=by rw[e]at w2;simp at w2;lia
  obtain⟨q1,q2,q3,q4⟩:=B.w3 w hw;have d:=vM (n:=w.1.toNat) (by lia);have:=zX B.nm q3 q4;have e8:(W "wish ").length=5:=rfl;k_ne;lk;rw[aF hl4];refine⟨trivial,⟨by lia,by lia⟩,by lia,by rw[ah];lia,?_⟩;refine ZJ (k:=k) hl B.nm q3 q4 ?_;k_ne;refine⟨by simp![ah,ag,ak];lia,?_⟩;rw[aF hl4];refine⟨by simp![af,ah,ag,ak];lia,?_⟩;simp![aG];exact hM _ _ ⟨done++[w],_,_,by rw[e];simp,rfl,oQ hl0 x,by rw[bE,<-FV];simp [nV]⟩
 obtain⟨done,o2,o3,e,es,x4,hl4⟩:=I;rw[dn]at e;subst e es;have e:(([W "foe " ++ aX [32] b.fs,W "friend " ++ aX [32] b.gs]++b.ps.map λs=>W "promise " ++ tx s)++b.ms.map λs=>W "must " ++ tx s)++b.ws.map nV=gB b:=by simp [gB]
 rw[e]at hl4;obtain⟨bl1,bl2⟩:=AY B;lk;rw[aF hl4];refine kN D.str (λw=>.str<|w++[10]) (gB b) [] _ λaA x a ha=>by simp![cu]at ha;subst ha;rw[hl4,x _ _ hl4] (λw hwm aA K x1 hK=>?_) (by simp![ak];lia) λeQ x5=>?_;·have:=bl2 w hwm;k_ne;rw[Ar];exact⟨by simp![ag,ak];lia,hK aA .refl⟩
 rw[bh];refine bO (by simp![af];lia) λp dE x6 hp fQ=>?_;k_ne;rw[aF fQ];have e:(gB b).map (λw=>D.str<|w++[10])=((gB b).map λw=>w++[10]).map .str:=by rw[gV];rfl
 rw[e,fN];simp![aO];rw[YF,Aam];refine⟨?_,hQ _<|(x4.trans x5).trans x6⟩;have h2:=AQ (f:=λw:List Nat=>w.length+1) (n:=10001) (xs:=gB b) λw hx=>by have:=bl2 w hx;lia
 have h3:(gB b).length*10001<=13*10001:=qk bl1 (by lia);rw[gV];have e3:(List.length∘fun w=>w++[10])=fun w=>w.length+1:=by funext w;simp
 rw[e3];simp![af,ak,Aan];lia
theorem Cp (f:List Nat):(f.filterMap λc=>if(!(iP c))=true then some<|D.str [c]else none).isEmpty=f.all iP:=by induction f with|nil=>rfl|cons c r ih =>rw[gv,fm];cases iP c with|true=>simpa using ih|false=>rfl
theorem L7:∀f:List Nat,∃ws:List<|List Nat,(f.filterMap λc=>if(!(iP c))=true then some<|D.str [c]else none)=ws.map .str/\ws.length<=f.length|[]=>⟨[],rfl,av _⟩|c::r=>by obtain⟨ws,e,l⟩:=L7 r;rw[gv];cases iP c with|true=>exact⟨ws,by simp_all,by simp![ag];lia⟩|false=>exact⟨[c]::ws,by simp_all,by simp_all⟩
theorem FE {t:Nat}{ws:List<|List Nat}(ht:st t=some (.lst<|ws.map .str)):plainS st<|.ref t:=by refine⟨?_,cg _⟩;simp![fY,ht,Bn,(pF ws).1];simpa using(pF ws).2
theorem Z3 (h:G.fns i=some (yK iso))(hs:G.fns iso=some (rJ ip ide))(hp:G.fns ip=some (sO ip iw))(hw:G.fns iw=some qG)(hd:G.fns ide=some (sY ide)){names:List<|List Nat}{t:List Nat}{F:Nat}(hT:t.length<=1000000)(hF:sgn t<F)(q0:oW names F t=none->∀aA,Ext st aA->Q .non aA)(q1:∀x,oW names F t=some x->∀aA,Ext st aA->Q (lR x) aA):aH G (k+F+3) i [.str t,.tup<|names.map .str] st Q E:=by
 have hL:aL=16777216:=rfl;obtain⟨r,er⟩:=yJ t;have sl:=qq 32 t;have hl:=O7 t;rw[aK h];simp only[yK,start];refine⟨rfl,?_⟩;lk;rw[iD,sD];refine⟨by omega,bO (by rw[af];omega) λp aC x1 hp0 hp1=>?_⟩;rw[er,aw]at hp1;rw[cP hp1];k_ne;lk;rw[YF];by_cases h1:dW t=[]
 ·have e1:(dW t==[])=true:=by rw[h1];rfl
  simp only[e1,if_true];lk;exact q0 (by unfold oW;rw[if_pos<|.inl h1]) _ x1
 have e1:(dW t==[])=false:=by rw[beq_eq_false_iff_ne];exact h1
 simp only[e1,aa,if_false];refine⟨by omega,?_⟩;by_cases h2:2<(dW t).length
 ·have e2:(2:Int)<((dW t).length:Int):=by omega
  simp only[e2,if_true];lk;exact q0 (by unfold oW;rw[if_pos<|.inr<|.inl h2]) _ x1
 have e2:¬(2:Int)<((dW t).length:Int):=by omega
 simp only[e2,if_false];refine⟨by omega,?_⟩;refine wU (λc=>D.str [c]) (λc=>if(!(iP c))=true then some<|D.str [c]else none) (dW t) [] aC (λaA x a ha=>by cases ha) (λc _ aA K x hK=>?_) (by simp only[ak];omega) λaJ x2=>?_;·have hk:=hK aA .refl;k_ne;rw[QK];cases hc:iP c with|true=>rw[hc]at hk;simpa using hk|false=>rw[hc]at hk;simpa using hk
 rw[bh];obtain⟨ws,ew,lw⟩:=L7<|dW t;have ed:=Cp<|dW t;rw[ew]at ed ⊢;refine bO (by rw[af];omega) λq aZ x3 hq hq3=>?_;refine bO (by decide) λu cR x4 hu hu4=>?_;refine⟨FE<|x4 _ _ hq3,FE (ws:=[]) hu4,?_⟩;rw[eq_nil (x4 _ _ hq3) hu4,ed];have y4:=((x1.trans x2).trans x3).trans x4;cases h3:(dW t).all iP with|false =>simp only[bu,if_true];lk;exact q0 (by unfold oW;rw[if_pos<|.inr<|.inr h3]) _ y4|true =>
 simp only[bf,aa,if_false,aG];have eo:oW names F t=(iJ names F<|dY t).bind λx=>if(dW t)[0]? = some 48 then none else some (val<|dW t,x):=by unfold oW;rw[if_neg<|by rintro(z|z|z);exact h1 z;exact h2 z;rw[h3]at z;cases z]
 lk;refine⟨by omega,by omega,?_⟩;rw[show((dW t).length:Int)+1=(((dW t).length+1:Nat):Int)by omega,iC,show t.drop ((dW t).length+1)=dY t from rfl];have rl:(dY t).length<=t.length:=by unfold dY;rw[bz];omega
 refine C7 (k:=k) hs hp hw hd (by omega) (F:=F) (ot (O4 _ t) hF) (λhx eQ x5=>?_) λx hx eQ x5=>?_
 ·lk;try simp only[jW,if_true]
  lk;exact q0 (by rw[eo,hx];rfl) _<|y4.trans x5
 have nn:jW (pD x)=false:=by cases x<;>rfl
 obtain⟨c,f,ef⟩:∃c f,dW t=c::f:=by cases e:dW t with|nil=>exact absurd e h1|cons c f=>exact⟨c,f,rfl⟩
 have e48:W "0" = [48]:=by decide
 lk;rw[nn,ef];simp only[aa,if_false];k_ne;rw[ef]at hl h2 h3;rw[hx,bg,ef]at eo;simp only[ag]at hl h2;refine⟨by omega,?_⟩;rw[e48];have y5:=y4.trans x5;by_cases hc:c=48
 ·have e5:([c]==[48])=true:=by rw[hc];rfl
  simp only[e5,if_true];lk;exact q0 (by rw[eo,if_pos<|by rw[hc];rfl]) _ y5
 ·have e5:([c]==[48])=false:=by simpa using hc
  simp only[e5,aa,if_false,aG];lk;refine⟨⟨by omega,by omega,h3⟩,?_⟩;exact q1 (val<|c::f,x) (by rw[eo,if_neg<|by simpa using hc]) _ y5
end
noncomputable def DT (iwo iso:Nat):Fn:=⟨2,6,[.asg (.nm 2)<|.lst [.lst [],.lst [],.lst []],.sV (.nm 3) none [.v 0] [.asg (.nm 4)<|.ix (.bP .split (.v 3) [.c<|.str<|W " "])<|.c<|.int 0,.iff (.cmp .fP (.v 4)<|.tup [.c<|.str<|W "promise",.c<|.str<|W "must",.c<|.str<|W "wish"]) [.ret<|.c .non] [],.asg (.nm 5)<|.sl (.v 3) [.bin .add (.bi .len [.v 4])<|.c<|.int 1] [],.iff (.cmp .eq (.v 4)<|.c<|.str<|W "wish") [.ex<|.bP .append (.ix (.v 2)<|.c<|.int 2) [.call iwo [.v 5,.v 1]]] [.ex<|.bP .append (.ix (.v 2)<|.bi .int [.cmp .eq (.v 4)<|.c<|.str<|W "must"]) [.call iso [.v 5,.v 1]]]],.iff (.cmp .in_ (.c .non)<|.bin .add (.bin .add (.ix (.v 2)<|.c<|.int 0)<|.ix (.v 2)<|.c<|.int 1)<|.ix (.v 2)<|.c<|.int 2) [.ret<|.c .non] [],.ret<|.v 2]⟩
noncomputable def oG {α:Type}(g:α->D):Option α->D|none=>.non|some x=>g x
theorem AW {α:Type}{g:α->D}{st:aB}(hg:∀x,∃ds,g x=.tup ds):∀os:List<|Option α,((os.map<|oG g).any λd=>bZ st d .non)=(cB id os).isNone|[]=>rfl|none::r=>rfl|some x::r=>by obtain⟨ds,e⟩:=hg x;have ih:=AW (st:=st) hg r;rw[aw,i7,ih,show oG g (some x)=.tup ds from e];simp![cB];cases cB id r<;>rfl
theorem BA {α:Type}{g:α->D}:∀{os:List<|Option α}{ys:List α},cB id os=some ys->os.map (oG g)=ys.map g|[],ys,h=>by cases h;rfl|none::r,ys,h=>by cases h|some x::r,ys,h=>by simp![cB,id,bg,ay]at h;obtain⟨zs,h1,rfl⟩:=h;rw[aw,BA h1];rfl
theorem KS {α:Type}{g:α->D}:∀(os:List<|Option α),(∀x,some x∈os->cL (g x)=true/\dN (g x)<=9)->bK (os.map<|oG g)=true/\cN (os.map<|oG g)<=9
 |[],_=>⟨rfl,cg _⟩|o::r,h=>by
  obtain⟨a,b⟩:=KS r λx hx=>h x (by simp [hx]);have h0:cL (oG g o)=true/\dN (oG g o)<=9:=by cases o with|none=>exact⟨rfl,cg _⟩|some x=>exact h x<|by simp
  exact⟨by simp![aw,bK,h0.1,a,fu],by simp![aw,cN];lia⟩
theorem V8 (x:Py):∃ds,pD x=.tup ds:=by cases x<;>exact⟨_,rfl⟩
theorem C5 {nms:List<|List Nat}{F:Nat}{T:List Nat}{x:Py}(h:iJ nms F T=some x):deep x<=8:=by
 obtain⟨p,h1,h2⟩:=Option.bind_eq_some_iff.mp h;split at h2;·simp_all
 ·cases h2
theorem Gj {nms:List<|List Nat}{F:Nat}{t:List Nat}{x:Nat×Py}(h:oW nms F t=some x):deep x.2<=8:=by
 unfold oW at h;split at h;·cases h
 ·obtain⟨y,h1,h2⟩:=Option.bind_eq_some_iff.mp h;split at h2;·cases h2
  ·cases h2;exact C5 h1
theorem Yq {nms:List<|List Nat}{F:Nat}(ls:List<|List Nat):(bK ((sC nms F ls).map<|oG pD)=true/\cN ((sC nms F ls).map<|oG pD)<=9)/\(bK ((sP nms F ls).map<|oG pD)=true/\cN ((sP nms F ls).map<|oG pD)<=9)/\(bK ((tR nms F ls).map<|oG lR)=true/\cN ((tR nms F ls).map<|oG lR)<=9):=by
 have hx:∀x , deep x<=8->cL _=true/\dN (pD x)<=9:=λx h=>⟨vS x,by rw[AN];lia⟩;refine⟨KS _ λx h=>?_,KS _ λx h=>?_,KS _ λx h=>?_⟩;·obtain⟨l,_,e⟩:=List.mem_map.mp h;exact hx x<|C5 e
 ·obtain⟨l,_,e⟩:=List.mem_map.mp h;exact hx x<|C5 e
 ·obtain⟨l,_,e⟩:=List.mem_map.mp h;have:=Gj e;exact⟨by simp![lR,cL,bK,vS,fu],by have:=AN x.2;simp![lR,dN,cN];lia⟩
inductive Xy (nms:List<|List Nat)(F:Nat)(ls:List<|List Nat)(bY:aB)(r a0 a1 a2:Nat)(Φ:Option D->Option D->Option D->St)(rest:List<|List Nat)(σ:St)(aA:aB):Prop |mk (done:List<|List Nat)(o3 o4 o5:Option D)(e:ls=done++rest)(ea:done.all vZ=true)(es:σ=Φ o3 o4 o5)(x:Ext bY aA)(hr:aA r=some (.lst [.ref a0,.ref a1,.ref a2]))(h0:aA a0=some (.lst<|(sC nms F done).map<|oG pD))(h1:aA a1=some (.lst<|(sP nms F done).map<|oG pD))(h2:aA a2=some (.lst<|(tR nms F done).map<|oG lR))
theorem F7 {p:List Nat->Bool}(done:List<|List Nat)(l:List Nat):(done++[l]).filter p=if p l=true then done.filter p++[l]else done.filter p:=by cases h:p l<;>simp [h]
theorem GV {nms:List<|List Nat}{F:Nat}(done:List<|List Nat)(s:List Nat):sC nms F (done++[s])=if kP s=true then sC nms F done++[iJ nms F<|dY s]else sC nms F done:=by unfold sC;rw[F7];split<;>simp
theorem FJ {nms:List<|List Nat}{F:Nat}(done:List<|List Nat)(s:List Nat):sP nms F (done++[s])=if kM s=true then sP nms F done++[iJ nms F<|dY s]else sP nms F done:=by unfold sP;rw[F7];split<;>simp
theorem G4 {nms:List<|List Nat}{F:Nat}(done:List<|List Nat)(s:List Nat):tR nms F (done++[s])=if kW s=true then tR nms F done++[oW nms F<|dY s]else tR nms F done:=by unfold tR;rw[F7];split<;>simp
theorem Vp (st:aB)(w:List Nat):([D.str<|W "promise",.str<|W "must",.str<|W "wish"].any λd=>bZ st d<|.str w)=(w==W "promise" || (w==W "must" || w==W "wish")):=by simp![i7,tj,ek,bZ];rw[AbI,show(W _==w)=(w==W _)from AbI,show(W _==w)=(w==W _)from AbI]
theorem lN {α β:Type}(p:α->Bool)(f:α->β)(l:List α):((l.filter p).map f).length<=l.length:=by rw[af];exact List.length_filter_le p l
section
variable {G:Prog}{k i iwo iso ip iw ide:Nat}{st:aB}{Q:VK}{E:XK}
theorem YK (h:G.fns i=some (DT iwo iso))(hwo:G.fns iwo=some (yK iso))(hs:G.fns iso=some (rJ ip ide))(hp:G.fns ip=some (sO ip iw))(hw:G.fns iw=some qG)(hd:G.fns ide=some (sY ide)){names ls:List<|List Nat}{l F:Nat}(hl:st l=some (.lst<|ls.map .str))(hn:ls.length<=1000000)(hT:∀t∈ls,t.length<=1000000)(hF:∀t∈ls,sgn t<F) (q0:zC F names ls=none->∀aA,Ext st aA->Q .non aA)(q1:∀q,zC F names ls=some q->∀r a0 a1 a2 aA,Ext st aA->aA r=some (.lst [.ref a0,.ref a1,.ref a2])->aA a0=some (.lst<|q.1.map pD)->aA a1=some (.lst<|q.2.1.map pD)->aA a2=some (.lst<|q.2.2.map lR)->Q (.ref r) aA):aH G (k+F+4) i [.ref l,.tup<|names.map .str] st Q E:=by
 have hL:aL=16777216:=rfl;rw[aK h];simp![DT,start];refine⟨rfl,?_⟩;lk;refine bO (by cbv) λa0 aC x1 n0 h0=>?_;refine bO (by cbv) λa1 aJ x2 n1 h1=>?_;refine bO (by cbv) λa2 aZ x3 n2 h2=>?_;k_ne;refine bO (by show 3<=aL;cbv) λr cR x4 nr hr=>?_;have s0:st a0=none:=n0;have s1:st a1=none:=by cases e:st a1 with|none=>rfl|some o=>rw[x1 _ _ e]at n1;cases n1
 have s2:st a2=none:=by cases e:st a2 with|none=>rfl|some o=>rw[x2 _ _<|x1 _ _ e]at n2;cases n2
 have sr:st r=none:=by cases e:st r with|none=>rfl|some o=>rw[x3 _ _<|x2 _ _<|x1 _ _ e]at nr;cases nr
 have d01:a0≠a1:=λz=>by rw[<-z,h0]at n1;cases n1
 have d02:a0≠a2:=λz=>by rw[<-z,x2 _ _ h0]at n2;cases n2
 have d12:a1≠a2:=λz=>by rw[<-z,h1]at n2;cases n2
 have dr0:r≠a0:=λz=>by rw[z,x3 _ _<|x2 _ _ h0]at nr;cases nr
 have dr1:r≠a1:=λz=>by rw[z,x3 _ _ h1]at nr;cases nr
 have dr2:r≠a2:=λz=>by rw[z,h2]at nr;cases nr
 have h04:=x4 _ _<|x3 _ _<|x2 _ _ h0;have h14:=x4 _ _<|x3 _ _ h1;have h24:=x4 _ _ h2;have y4:=((x1.trans x2).trans x3).trans x4;clear x1 x2 x3 x4 h0 h1 h2 n0 n1 n2 nr;lk;rw[aF<|y4 _ _ hl];refine uM D.str (I:=Xy names F ls st r a0 a1 a2 λo3 o4 o5=>[some<|.ref l,some<|.tup<|names.map .str,some<|.ref r,o3,o4,o5]) (λrest σ aA I a ha=>?_) (λs rest σ aA M I hM=>?_) (λσ aA I=>?_) _ _ _ ⟨[],none,none,none,rfl,rfl,rfl,y4,hr,h04,h14,h24⟩;·obtain⟨done,o3,o4,o5,e,ea,es,x,hr',h0,h1,h2⟩:=I;simp![cu]at ha;subst ha;rw[y4 _ _ hl,x _ _ hl]
 ·obtain⟨done,o3,o4,o5,e,ea,es,x,hr',h0,h1,h2⟩:=I;subst es;have eZ:s∈ls:=by rw[e];simp
  have tl:=hT s eZ;have tF:=hF s eZ;obtain⟨w,ew⟩:=yJ s;have sl:=qq 32 s;have hdl:=O7 s;have dlen:done.length<=1000000:=by rw[e]at hn;simp at hn;lia
  have lp:=lN kP (λl=>iJ names F<|dY l) done;have lm:=lN kM (λl=>iJ names F<|dY l) done;have lw:=lN kW (λl=>oW names F<|dY l) done;k_ne;lk;rw[iD,sD];refine⟨by lia,bO (by rw[af];lia) λp eQ x5 hp0 hp5=>?_⟩;rw[ew,aw]at hp5;rw[cP hp5];k_ne;have y5:=x.trans x5;lk;refine⟨⟨rfl,by cbv⟩,?_⟩;rw[Vp,show(dW s==W "promise" || (dW s==W "must" || dW s==W "wish"))=vZ s from rfl];cases hk:vZ s with|false =>simp![bu,if_true];lk;refine q0 ?_ _ y5;unfold zC;rw[if_neg λz=>by rw[List.all_eq_true.mp z s eZ]at hk;cases hk]|true =>
  simp![bf,aa,if_false,aG];have ea':(done++[s]).all vZ=true:=by rw[yw,ea];simp [hk]
  have e':ls=done++[s]++rest:=by rw[e];simp
  have rl:(dY s).length<=s.length:=by unfold dY;rw[bz];lia
  have rF:sgn (dY s)<F:=ot (O4 _ s) tF;lk;refine⟨by lia,by lia,?_⟩;rw[show((dW s).length:Int)+1=(((dW s).length+1:Nat):Int)by lia,iC,show s.drop ((dW s).length+1)=dY s from rfl];lk;rw[show(dW s==W "wish")=kW s from rfl];cases hkW:kW s with
  |true =>
   have hw':dW s=W "wish":=by simpa [kW]using hkW
   have hkP:kP s=false:=by unfold kP;rw[hw'];cbv
   have hkM:kM s=false:=by unfold kM;rw[hw'];cbv
   simp![if_true];lk;rw[cP<|x5 _ _ hr'];k_ne;rw[aF<|x5 _ _ h2];refine⟨trivial,?_⟩;have fin:∀dE,Ext eQ dE->cC dE a2 λxs=>xs.length<aL/\M [some<|.ref l,some<|.tup<|names.map .str,some<|.ref r,some<|.str s,some<|.str<|dW s,some<|.str<|dY s] (put dE a2<|.lst<|xs++[oG lR<|oW names F<|dY s]):=λdE x6=>by
    rw[aF<|x6 _ _<|x5 _ _ h2];refine⟨by rw[af];unfold tR;lia,?_⟩;refine hM _ _ ⟨done++[s],_,_,_,e',ea',rfl,oQ s2<|y5.trans x6,by rw[bS dr2];exact x6 _ _<|x5 _ _ hr',?_,?_,?_⟩;·rw[bS d02,GV,hkP,if_neg<|by simp];exact x6 _ _<|x5 _ _ h0
    ·rw[bS d12,FJ,hkM,if_neg<|by simp];exact x6 _ _<|x5 _ _ h1
    ·rw[bE,G4,hkW,if_pos rfl,eu];rfl
   refine Z3 (k:=k) hwo hs hp hw hd (by lia) (F:=F) rF (λhx dE x6=>?_) λy hy dE x6=>?_;·have:=fin dE x6;rw[hx]at this;simp![aG];exact this
   ·have:=fin dE x6;rw[hy]at this;simp![aG];exact this|false =>simp![aa,if_false];lk;rw[show(dW s==W "must")=kM s from rfl,cP<|x5 _ _ hr'];cases hkM:kM s with
  |true =>
   have hw':dW s=W "must":=by simpa [kM]using hkM
   have hkP:kP s=false:=by unfold kP;rw[hw'];cbv
   simp![if_true];k_ne;rw[aF<|x5 _ _ h1];refine⟨trivial,?_⟩;have fin:∀dE,Ext eQ dE->cC dE a1 λxs=>xs.length<aL/\M [some<|.ref l,some<|.tup<|names.map .str,some<|.ref r,some<|.str s,some<|.str<|dW s,some<|.str<|dY s] (put dE a1<|.lst<|xs++[oG pD<|iJ names F<|dY s]):=λdE x6=>by
    rw[aF<|x6 _ _<|x5 _ _ h1];refine⟨by rw[af];unfold sP;lia,?_⟩;refine hM _ _ ⟨done++[s],_,_,_,e',ea',rfl,oQ s1<|y5.trans x6,by rw[bS dr1];exact x6 _ _<|x5 _ _ hr',?_,?_,?_⟩;·rw[bS d01,GV,hkP,if_neg<|by simp];exact x6 _ _<|x5 _ _ h0
    ·rw[bE,FJ,hkM,if_pos rfl,eu];rfl
    ·rw[bS<|fq d12,G4,hkW,if_neg<|by simp];exact x6 _ _<|x5 _ _ h2
   refine fB (j:=k+F+2) (by lia)<|C7 (k:=k) hs hp hw hd (by lia) (F:=F) rF (λhx dE x6=>?_) λy hy dE x6=>?_;·have:=fin dE x6;rw[hx]at this;simp![aG];exact this
   ·have:=fin dE x6;rw[hy]at this;simp![aG];exact this|false =>
   have hkP:kP s=true:=by unfold vZ at hk;rw[hkM,hkW]at hk;simpa using hk
   simp![aa,if_false];k_ne;rw[aF<|x5 _ _ h0];refine⟨trivial,?_⟩;have fin:∀dE,Ext eQ dE->cC dE a0 λxs=>xs.length<aL/\M [some<|.ref l,some<|.tup<|names.map .str,some<|.ref r,some<|.str s,some<|.str<|dW s,some<|.str<|dY s] (put dE a0<|.lst<|xs++[oG pD<|iJ names F<|dY s]):=λdE x6=>by
    rw[aF<|x6 _ _<|x5 _ _ h0];refine⟨by rw[af];unfold sC;lia,?_⟩;refine hM _ _ ⟨done++[s],_,_,_,e',ea',rfl,oQ s0<|y5.trans x6,by rw[bS dr0];exact x6 _ _<|x5 _ _ hr',?_,?_,?_⟩;·rw[bE,GV,hkP,if_pos rfl,eu];rfl
    ·rw[bS<|fq d01,FJ,hkM,if_neg<|by simp];exact x6 _ _<|x5 _ _ h1
    ·rw[bS<|fq d02,G4,hkW,if_neg<|by simp];exact x6 _ _<|x5 _ _ h2
   refine fB (j:=k+F+2) (by lia)<|C7 (k:=k) hs hp hw hd (by lia) (F:=F) rF (λhx dE x6=>?_) λy hy dE x6=>?_;·have:=fin dE x6;rw[hx]at this;simp![aG];exact this
   ·have:=fin dE x6;rw[hy]at this;simp![aG];exact this
 ·obtain⟨done,o3,o4,o5,e,ea,es,x,hr',h0,h1,h2⟩:=I;rw[dn]at e;subst e es;have lp:=lN kP (λl=>iJ names F<|dY l) ls;have lm:=lN kM (λl=>iJ names F<|dY l) ls;have lw:=lN kW (λl=>oW names F<|dY l) ls;obtain⟨⟨p1,p2⟩,⟨p3,p4⟩,p5,p6⟩:=Yq (nms:=names) (F:=F) ls;have eR:zC F names ls=(cB id<|sC names F ls).bind λps=>(cB id<|sP names F ls).bind λms=>(cB id<|tR names F ls).map λws=>(ps,ms,ws):=by unfold zC;rw[ea,if_pos rfl]
  lk;rw[cP hr'];k_ne;rw[cP hr'];k_ne;rw[aF h0,aF h1];refine bO (by simp![ah,af];unfold sC sP;simp![af]at lp lm ⊢;lia) λu dE x6 hu hu6=>?_;rw[cP<|x6 _ _ hr'];k_ne;rw[aF hu6,aF<|x6 _ _ h2];refine bO (by simp![ah,af];unfold sC sP tR;simp![af]at lp lm lw ⊢;lia) λv N9 x7 hv hv7=>?_;rw[RG,hV hv7];have y7:=(x.trans x6).trans x7;refine⟨wH,⟨pZ _<|by rw[wG,wG,p1,p3,p5];rfl,?_⟩,?_⟩;·rw[zV,zV];exact az (by lia) (by cbv:9<=qO)
  rw[yv,yv,AW V8,AW V8,AW (g:=lR) λx=>⟨_,rfl⟩];cases e1:cB id (sC names F ls)with|none =>rw[e1]at eR;simp![vw,g5,if_true];lk;exact q0 eR _ y7|some ps =>cases e2:cB id (sP names F ls)with|none =>rw[e1,e2]at eR;simp![vw,vx,gr,g5,if_true];lk;exact q0 eR _ y7|some ms =>cases e3:cB id (tR names F ls)with|none =>rw[e1,e2,e3]at eR;simp![vw,vx,gr,if_true];lk;exact q0 eR _ y7|some ws =>rw[e1,e2,e3]at eR;simp![vx,Aak,aa,if_false,aG];lk;exact q1 (ps,ms,ws) eR r a0 a1 a2 _ y7 (x7 _ _<|x6 _ _ hr') (by rw[x7 _ _<|x6 _ _ h0,BA e1]) (by rw[x7 _ _<|x6 _ _ h1,BA e2])<|by rw[x7 _ _<|x6 _ _ h2,BA e3]
end
noncomputable def RP (irw ibk ibt:Nat):Fn:=⟨1,6,[.iff (.or_ (.not_<|.isi (.v 0) [.str])<|.cmp .ne (.sl (.v 0) [.neg<|.c<|.int 1] [])<|.c<|.str<|W "\n") [.ret<|.c .non] [],.asg (.nm 1)<|.bP .split (.sl (.v 0) [] [.neg<|.c<|.int 1]) [.c<|.str<|W "\n"],.iff (.or_ (.cmp .lt (.bi .len [.v 1])<|.c<|.int 2)<|.or_ (.cmp .ne (.sl (.ix (.v 1)<|.c<|.int 0) [] [.c<|.int 4])<|.c<|.str<|W "foe ")<|.cmp .ne (.sl (.ix (.v 1)<|.c<|.int 1) [] [.c<|.int 7])<|.c<|.str<|W "friend ") [.ret<|.c .non] [],.asg (.nm 2)<|.bi .tuple [.bP .split (.sl (.ix (.v 1)<|.c<|.int 0) [.c<|.int 4] []) [.c<|.str<|W " "]],.asg (.nm 3)<|.bi .tuple [.bP .split (.sl (.ix (.v 1)<|.c<|.int 1) [.c<|.int 7] []) [.c<|.str<|W " "]],.asg (.nm 4)<|.call irw [.sl (.v 1) [.c<|.int 2] [],.bin .add (.v 2)<|.v 3],.iff (.cmp .is_ (.v 4)<|.c .non) [.ret<|.c .non] [],.asg (.nm 5)<|.tup [.v 2,.v 3,.bi .tuple [.ix (.v 4)<|.c<|.int 0],.bi .tuple [.ix (.v 4)<|.c<|.int 1],.bi .tuple [.ix (.v 4)<|.c<|.int 2]],.iff (.not_<|.call ibk [.v 5]) [.ret<|.c .non] [],.ret<|.ix (.lst [.c .non,.v 5])<|.bi .int [.cmp .eq (.call ibt [.v 5])<|.v 0]]⟩
theorem Z2 (T:List Nat):(cut T (some<|-1) none==[10])=decide (T.getLast? = some 10):=by
 unfold cut cJ;simp only;rw[if_pos<|by cbv];rcases List.eq_nil_or_concat T with rfl|⟨xs,c,rfl⟩;·rfl
 ·have e:((-1:Int)+(xs.concat c).length).toNat=xs.length:=by simp;lia
  rw[e];rw[fc];simp
theorem FT {α:Type}:∀{os:List<|Option α}{ys:List α},cB id os=some ys->∀y∈ys,some y∈os:=λh y hy=>by obtain⟨a,ha,e⟩:=nN h y hy;rw[<-show a=some y from e];exact ha
theorem CQ {nms:List<|List Nat}(hn:∀n∈nms,bD n=true){F:Nat}(hF:8<=F){T:List Nat}{x:Py}(hT:T.length<=aL)(h:iJ nms F T=some x):kQ x/\deep x<=8/\lS aL x:=by
 rw[<-agree hn hF]at h;obtain⟨y,h1,h2⟩:=Option.bind_eq_some_iff.mp h;split at h2;·cases h2;obtain⟨a,b,c⟩:=Bf h1;exact⟨a,b,rT hT c⟩
 ·cases h2
theorem Gp {nms:List<|List Nat}(hn:∀n∈nms,bD n=true){F:Nat}(hF:8<=F){T:List Nat}{x:Nat×Py}(hT:T.length<=aL)(h:oW nms F T=some x):kQ x.2/\deep x.2<=8/\lS aL x.2:=by
 unfold oW at h;split at h;·cases h
 ·obtain⟨y,h1,h2⟩:=Option.bind_eq_some_iff.mp h;split at h2;·cases h2
  ·cases h2;refine CQ hn hF ?_ h1;unfold dY;rw[bz];lia
theorem Oc (l:List Nat):(dY l).length<=l.length:=by unfold dY;rw[bz];lia
set_option tactic.hygienic true in
theorem ZK (s w:List Nat)(h:w∈aN 10 s):sgn w<=lm s:=by
 have hs:∀s , ∃h t,aN 10 s=h::t/\sgn h=mX s:=λs=>by induction s with|nil=>exact⟨[],[],rfl,rfl⟩|cons x s ih =>
   obtain⟨h,t,e,q⟩:=ih;simp![aN,mX,e];split;·exact⟨[],_,rfl,rfl⟩
   ·exact⟨_,t,rfl,by simp![sgn,w1,q]⟩
 induction s generalizing w with|nil=>simp![aN,cu]at h;subst h;exact av _|cons x s ih =>
  obtain⟨h0,t0,e0,q0⟩:=hs _;have hx:lm s<=lm (x::s):=jy ..;have h1:sgn h0<=lm (x::s):=by rw[q0];exact Bw _
  simp![aN]at h e0;split at h
  ·rcases List.mem_cons.mp h with rfl|h;·exact cg _
   ·exact az (ih w h) hx
  ·rename_i ne;rw[if_neg ne]at e0;cases e:aN 10 s with|nil=>exact absurd e<|ME 10 s|cons v r =>
    rw[e0]at h;rcases List.mem_cons.mp h with rfl|h;·exact h1
    ·exact az (ih w<|by simp_all) hx
section
variable {G:Prog}{k i irw ibt ilt iwo iso ipa iwd ide ibk ir il iap ia iaw ipi io ib ih iy bC bT iw ip:Nat}{st:aB}{Q:VK}{E:XK}{T:List Nat}
theorem Wc {F:Nat}(hF:8<=F){ls:List<|List Nat}(hs:ls.length<=1000000)(hl:∀l∈ls,l.length<=1000000){q:List Py×List Py×List (Nat×Py)}(h:zC F (fF ls++fG ls) (ls.drop 2)=some q):Rb.Kk ⟨fF ls,fG ls,q.1,q.2.1,q.2.2⟩:=by
 unfold zC at h;split at h;rotate_left;·cases h
 obtain⟨ps,h1,h⟩:=Option.bind_eq_some_iff.mp h;obtain⟨ms,h2,h⟩:=Option.bind_eq_some_iff.mp h;obtain⟨ws,h3,h⟩:=Option.map_eq_some_iff.mp h;subst h;have gl:∀j n,((ls.getD j []).drop n).length<=1000000:=λj n=>by rw[bz,List.getD_eq_getElem?_getD];cases e:ls[j]? with|none=>simp|some l=>have:=hl l<|dj e;simp![d5];lia
 have nl:∀j n,(aN 32<|(ls.getD j []).drop n).length<=1000001:=λj n=>by have:=qq 32<|(ls.getD j []).drop n;have:=gl j n;lia
 have dl:∀l∈ls.drop 2,(dY l).length<=aL:=λl hl'=>az (Oc l) (az (hl l<|List.mem_of_mem_drop hl')<|by cbv);have d2:(ls.drop 2).length<=1000000:=by rw[bz];lia
 have e1:=iT h1;have e2:=iT h2;have e3:=iT h3;have b1:=lN kP (λl=>iJ (fF ls++fG ls) F<|dY l)<|ls.drop 2;have b2:=lN kM (λl=>iJ (fF ls++fG ls) F<|dY l)<|ls.drop 2;have b3:=lN kW (λl=>oW (fF ls++fG ls) F<|dY l)<|ls.drop 2;unfold sC at e1;unfold sP at e2;unfold tR at e3;refine⟨nl 0 4,nl 1 7,λn hn=>?_,?_,?_,?_,λdO x hx=>?_⟩
 ·rcases List.mem_append.mp hn with hn|hn;·exact az (mY hn)<|az (gl 0 4)<|by cbv
  ·exact az (mY hn)<|az (gl 1 7)<|by cbv
 ·show ps.length<=_;lia
 ·show ms.length<=_;lia
 ·show ws.length<=_;lia
 ·simp![cz,kq]at hx;rcases hx with(hx|hx)|⟨w,hx,rfl⟩;·obtain⟨l,hl',e⟩:=List.mem_map.mp<|FT h1 x hx;exact CQ dO hF (dl l (List.mem_filter.mp hl').1) e
  ·obtain⟨l,hl',e⟩:=List.mem_map.mp<|FT h2 x hx;exact CQ dO hF (dl l (List.mem_filter.mp hl').1) e
  ·obtain⟨l,hl',e⟩:=List.mem_map.mp<|FT h3 w hx;exact Gp dO hF (dl l (List.mem_filter.mp hl').1) e
structure LD (G:Prog)(i irw ibk ibt iwo iso ipa iwd ide ilt:Nat):Prop where
 d:G.fns i=some (RP irw ibk ibt)rw:G.fns irw=some (DT iwo iso)wo:G.fns iwo=some (yK iso)so:G.fns iso=some (rJ ipa ide)pa:G.fns ipa=some (sO ipa iwd)wd:G.fns iwd=some qG
 de:G.fns ide=some (sY ide)bt:G.fns ibt=some (A7 ilt)lt:G.fns ilt=some (uC ilt)
theorem Gm (R:LD G i irw ibk ibt iwo iso ipa iwd ide ilt){x:D}(hx:∀P:Bool->Prop,P false->cV G.sub x st .str P)(hQ:Q .non st):aH G (k+1) i [x] st Q E:=by rw[aK R.d];refine⟨rfl,?_⟩;refine hx _ ?_;exact hQ
theorem Hb (R:LD G i irw ibk ibt iwo iso ipa iwd ide ilt)(Z:NF G ibk ir il iap ia iaw ipi io ib ih iy bC bT iw ip){F:Nat}(hF:20<=F)(hT:T.length<=100000)(hS:lm T<F)(q0:(∀b:Bk,b.Good->jM b≠T)->∀aA,Ext st aA->Q .non aA)(q1:∀b:Bk,b.Good->jM b=T->∀aA,Ext st aA->Q b.d aA):aH G (k+F+5) i [.str T] st Q E:=by
 have hL:aL=16777216:=rfl;have key:lP F T=none->∀b:Bk,b.Good->jM b≠T:=λh b g e=>by rw[<-e,GL g.o<|by omega]at h;cases h
 rw[aK R.d];simp only[RP,start];refine⟨rfl,?_⟩;lk;try simp only[bf,aa,if_false]
 k_ne;refine⟨by omega,?_⟩;rw[Ar,Z2];by_cases hl:T.getLast? = some 10;rotate_left;·simp only[hl,decide_false,bu,if_true];lk;exact q0 (key<|by unfold lP;rw[if_neg λz=>hl z.1]) st .refl
 simp only[hl,decide_true,bf,aa,if_false,aG];lk;refine⟨by omega,?_⟩;rw[K8];k_ne;have dl:T.dropLast.length<=T.length:=by rw[kc];omega
 have sl:=qq 10 T.dropLast;have sm:∀w∈aN 10 T.dropLast,w.length<=1000000/\sgn w<F:=λw hw=>⟨Nat.le_trans (mY hw)<|az dl<|az hT<|by decide,by have a:=ZK _ w hw;have b:=GI T<|T.length-1;rw[<-lx]at b;omega⟩;have em:lP F T=if 2<=(aN 10 T.dropLast).length/\((aN 10 T.dropLast).getD 0 []).take 4=W "foe " /\ ((aN 10 T.dropLast).getD 1 []).take 7=W "friend " then(zC F (fF (aN 10 T.dropLast)++fG (aN 10 T.dropLast))<|(aN 10 T.dropLast).drop 2).map λq=>⟨fF<|aN 10 T.dropLast,fG<|aN 10 T.dropLast,q.1,q.2.1,q.2.2⟩else none:=by unfold lP;simp only[hl,true_and]
 rw[sD];generalize aN 10 T.dropLast=ls at sl sm em;refine⟨by omega,bO (by rw[af];omega) λl aC x1 hl' hl1=>?_⟩;lk;rw[hV hl1,af];by_cases h2:2<=ls.length;rotate_left
 ·have e2:(ls.length:Int)<2:=by omega
  simp only[e2,if_true];lk;exact q0 (key<|by rw[em,if_neg λz=>h2 z.1]) _ x1
 have e2:¬(ls.length:Int)<2:=by omega
 obtain⟨a,c,r,rfl⟩:∃a c r,ls=a::c::r:=by match ls,h2 with|[],h=>exact absurd h<|by decide|[_],h=>simp at h|a::c::r,_=>exact⟨a,c,r,rfl⟩
 have la:=(sm a<|by simp).1;have lc:=(sm c<|by simp).1;simp only[e2,if_false];have hl2:=hl1;simp only[aw]at hl2;rw[cP hl2];k_ne;have c4:cut a none (some 4)=a.take 4:=sH (j:=4);have c7:cut c none (some 7)=c.take 7:=sH (j:=7);have k4:cut a (some 4) none=a.drop 4:=iC (j:=4);have k7:cut c (some 7) none=c.drop 7:=iC (j:=7);rw[c4];refine⟨by omega,?_⟩;by_cases h3:a.take 4=W "foe ";rotate_left
 ·have e3:(a.take 4==W "foe ")=false:=by rw[beq_eq_false_iff_ne];exact h3
  simp only[e3,bu,if_true];lk;exact q0 (key<|by rw[em,if_neg λz=>h3 z.2.1]) _ x1
 have e3:(a.take 4==W "foe ")=true:=by rw[h3];simp
 simp only[e3,bf,aa,if_false];rw[cP hl2];k_ne;rw[c7];refine⟨by omega,?_⟩;by_cases h4:c.take 7=W "friend ";rotate_left
 ·have e4:(c.take 7==W "friend ")=false:=by rw[beq_eq_false_iff_ne];exact h4
  simp only[e4,bu,if_true];lk;exact q0 (key<|by rw[em,if_neg λz=>h4 z.2.2]) _ x1
 have e4:(c.take 7==W "friend ")=true:=by rw[h4];simp
 simp only[e4,bf,aa,if_false,aG];rw[if_pos ⟨h2,h3,h4⟩]at em;have sa:=qq 32<|a.drop 4;have sc:=qq 32<|c.drop 7;have da:(a.drop 4).length<=1000000:=by rw[bz];omega
 have dc:(c.drop 7).length<=1000000:=by rw[bz];omega
 lk;rw[cP hl2];k_ne;rw[k4,iD,sD];refine⟨by omega,by omega,bO (by rw[af];omega) λp aJ x2 hp fQ=>?_⟩;k_ne;rw[aF fQ];try simp only[eS]
 refine⟨by rw[af];omega,?_⟩;lk;rw[cP<|x2 _ _ hl2];k_ne;rw[k7,sD];refine⟨by omega,by omega,bO (by rw[af];omega) λq aZ x3 hq hq3=>?_⟩;k_ne;rw[aF hq3];try simp only[eS]
 refine⟨by rw[af];omega,?_⟩;have hl3:=x3 _ _<|x2 _ _ hl1;have y3:=(x1.trans x2).trans x3;lk;rw[aF hl3];intro p3 n3;refine⟨by simp only[af];omega,?_⟩;have c2:cut ((a::c::r).map D.str) (some 2) none=r.map D.str:=iC (j:=2);rw[<-eu,c2];have L:=λq (h:zC F (fF (a::c::r)++fG (a::c::r)) ((a::c::r).drop 2)=some q)=>Wc (F:=F) (by omega) (ls:=a::c::r) (by omega) (λl hl=>(sm l hl).1) h;rw[show aN 32 (a.drop 4)=fF (a::c::r)from rfl,show aN 32 (c.drop 7)=fG (a::c::r)from rfl];rw[show(a::c::r).drop 2=r from rfl]at em L;refine YK (k:=k) R.rw R.wo R.so R.pa R.wd R.de (F:=F) bE (by simp only[ag]at sl;omega) (λt ht=>(sm t<|by simp [ht]).1) (λt ht=>(sm t<|by simp [ht]).2) (λhx eQ x5=>?_) λq hq rr a0 a1 a2 eQ x5 hr h0 h1 h2=>?_
 ·lk;try simp only[jW,if_true]
  lk;exact q0 (key<|by rw[em,hx];rfl) _<|(y3.trans<|Ext.new n3).trans x5
 have y5:=(y3.trans<|Ext.new n3).trans x5;replace L:=L q hq;have lq1:q.1.length<=1000000:=L.p;have lq2:q.2.1.length<=1000000:=L.m;have lq3:q.2.2.length<=1000000:=L.w;rw[hq]at em;have em:lP F T=some ⟨fF<|a::c::r,fG<|a::c::r,q.1,q.2.1,q.2.2⟩:=em;lk;try simp only[jW,aa,if_false,aG]
 refine dB ?_;rw[kF,Bl,gF,kY,Om,gF,kY,Ka,gF,G5,gF,lT,kY,RU,qW,cP hr,DE,aO,lV,xO];simp only[dG];rw[aF h0,wZ];refine⟨by rw[af];exact az lq1<|by decide,?_⟩;rw[gF,G5,gF,lT,kY,RU,qW,cP hr,LF,aO,lV,xO];simp only[dG];rw[aF h1,wZ];refine⟨by rw[af];exact az lq2<|by decide,?_⟩;rw[gF,G5,gF,lT,kY,RU,qW,cP hr,Q8,aO,lV,xO];simp only[dG];rw[aF h2,wZ];refine⟨by rw[af];exact az lq3<|by decide,?_⟩;rw[lV,mE];simp only[c9,cv];have ed:D.tup [D.tup<|(fF<|a::c::r).map D.str,D.tup<|(fG<|a::c::r).map D.str,D.tup<|q.1.map pD,D.tup<|q.2.1.map pD,D.tup<|q.2.2.map lR]=Rb.d ⟨fF<|a::c::r,fG<|a::c::r,q.1,q.2.1,q.2.2⟩:=rfl;rw[ed];generalize (⟨fF<|a::c::r,fG<|a::c::r,q.1,q.2.1,q.2.2⟩:Rb)=rb at L em ⊢;clear ed;generalize some (D.tup<|(fF<|a::c::r).map D.str)=u2;generalize some (D.tup<|(fG<|a::c::r).map D.str)=u3;obtain⟨cc,hc,hev⟩:=PY (bY:=eQ) Z L;refine dB ?_;rw[WL,An,NQ,gF,kY,R9,lV];refine fB (j:=15) (by omega)<|hev eQ _ _ .refl λdE x6=>?_;have y6:=y5.trans x6;cases cc with|false =>simp only[↓nX,bu,if_true];lk;refine q0 (λb g e=>?_) _ y6;rw[<-e,GL g.o<|by omega]at em;have:=hc.mpr ⟨b,g,dv em⟩;cases this|true =>
  obtain⟨b,g,eb⟩:=hc.mp rfl;have ebd:rb.d=b.d:=by rw[<-eb];exact zE g.o
  simp only[↓nX,bf,aa,if_false,aG];rw[ebd];refine dB ?_;rw[LU,lT,Ac,gF,qW,gF,kY,R9,lV];refine bO (by show 2<=aL;decide) λu N9 x7 hu hu7=>?_;rw[G5,gF,Av,NQ,gF,kY,R9,lV];refine fB (j:=0+10) (by omega)<|HX (k:=0) R.bt R.lt g.o λkS x8=>?_;have y8:=(y6.trans x7).trans x8;rw[kY,qV,VG];refine⟨nI,nI,?_⟩;rw[lV,QM,cP<|x8 _ _ hu7,jN];by_cases hw:jM b=T
  ·have e1:(jM b==T)=true:=by rw[hw];simp
   rw[e1,if_pos rfl,LF,aO];exact q1 b g hw _ y8
  ·have e1:(jM b==T)=false:=by rw[beq_eq_false_iff_ne];exact hw
   rw[e1,if_neg<|by simp,DE,aO];refine q0 (λb' g' e=>?_) _ y8;rw[<-e,GL g'.o<|by omega,<-eb]at em;have:=TV g'.o g.o<|dv em;subst this;exact hw e
end
noncomputable def M7 (ibo ibt ilb irb isp im idu:Nat):Fn:=⟨1,6,[.asg (.nm 1)<|.call ibo [.v 0,.c<|.int 2,.c<|.int 3,.c<|.int 2],.asg (.nm 2)<|.call ibt [.v 1],.iff (.or_ (.not_<|.isi (.v 2) [.str])<|.or_ (.cmp .ne (.v 2)<|.call ilb [.v 1])<|.cmp .ne (.call irb [.v 2])<|.v 1) [.ret<|.c<|.bl false] [],.asg (.nm 3)<|.lst [.bin .add (.v 2)<|.c<|.str<|W "must yes\n",.bin .add (.v 2)<|.c<|.str<|W "wish 0 yes\n",.bin .add (.v 2)<|.c<|.str<|W "wish 07 yes\n",.bin .add (.v 2)<|.c<|.str<|W "\n",.sl (.v 2) [] [.neg<|.c<|.int 1]],.ex<|.bP .append (.v 3) [.c<|.str<|W "foe a\nfriend b\n"],.asg (.nm 2)<|.call isp [.v 2,.call im [.v 0,.c<|.int 0,.bin .pow (.c<|.int 10)<|.c<|.int 7],.v 3],.asg (.nm 4)<|.c .non,.tryy [.asg (.nm 4)<|.callx irb [.v 2]] 3 (some 5) [.iff (.or_ (.not_<|.isi (.v 5) [.err 1])<|.or_ (.not_<|.isi (.v 5) [.err 0])<|.isi (.v 5) [.err 2]) [.ret<|.c<|.bl false] []],.ret<|.cmp .eq (.v 4)<|.call idu [.v 2]]⟩
theorem Ua {C:aU}{sub:Nat->Nat->Bool}{b h:List Sx}{c:Nat}{n:Option Nat}{P:fA}{σ:St}{st:aB}:wpS C sub (.tryy b c n h) P σ st=cH C sub b (LH sub c n P λP' am aA=>cH pQ sub h P' am aA) σ st:=rfl
theorem Gw (l r:List Nat):mX (l++10::r)<=sgn l:=by induction l with|nil=>simp [mX]|cons c l ih =>
 have e:w1 c=if c=40\/c=32 then 1 else 0:=rfl;simp![d7,mX,sgn];split;·lia
 ·lia
theorem Fq (l r:List Nat):lm (l++10::r)<=max (sgn l) (lm r):=by induction l with|nil=>simp![bh,lm,mX,if_pos];lia|cons c l ih =>
 have h1:=Gw (c::l) r;have h2:sgn l<=sgn (c::l):=by simp![sgn];lia
 simp![d7,lm]at h1 ⊢;lia
theorem L4 {n:Nat}:∀ls:List<|List Nat,(∀l∈ls,sgn l<=n)->lm (ls.map λw=>w++[10]).flatten<=n|[],_=>cg _|l::r,h=>by have ih:=L4 r λx hx=>h x (by simp [hx]);have h1:=h l (by simp);have:=Fq l (r.map λw=>w++[10]).flatten;rw[aw,qa,jd,t8];lia
theorem Qu (n:Nat):sgn (dg n)=0:=by
 have:∀w , w.all iP=true->sgn w=0:=λw=>by induction w with|nil=>intro _;rfl|cons c w ih =>intro h;simp![fm,ao,iP,decide_eq_true_eq]at h;simp![sgn,ih h.2];rw[if_neg<|by lia]
 exact this _<|RO n
theorem HR (l:List<|List Nat):bK (l.map .str)=true/\cN (l.map .str)<=0:=by induction l with|nil=>exact⟨rfl,av _⟩|cons a l ih=>assumption
theorem P9:∀(l:List<|Int×Sy),(∀w∈l,aE w.2<=8)->bK (wD l)=true/\cN (wD l)<=9|[],_=>⟨rfl,cg _⟩|w::l,h=>by have ih:=P9 l λx hx=>h x (by simp [hx]);have h1:=h w (by simp);refine⟨by simp![aw,bK,cL,mI];exact ih.1,?_⟩;simp![aw,cN,dN,iA];have:=ih.2;simp![wD]at this;lia
theorem Eo {b:Bk}(B:b.Ok):cL b.d=true/\dN b.d<=20:=by have f:=HR b.fs;have g:=HR b.gs;have w:=P9 _ λw hw=>(B.w3 w hw).2.2.2;have p:=C3 _ λs hs=>(B.p2 s hs).2;have m:=C3 _ λs hs=>(B.m2 s hs).2;refine⟨by simp![Bk.d,cL,bK,IB];simp_all,?_⟩;have w2:=w.2;have mx:∀{a b n:Nat},a<=n->b<=n->max a b<=n:=λh h'=>Nat.max_le.mpr ⟨h,h'⟩;have le:∀{a n m:Nat},a<=n->n<=m->a+1<=m+1:=λh h'=>Nat.succ_le_succ<|az h h';exact le (mx (le f.2<|cg _)<|mx (le g.2<|cg _)<|mx (le p<|by cbv)<|mx (le m<|by cbv)<|mx (le w2<|by cbv)<|cg 15)<|by cbv
theorem SN {b:Bk}{pieces fR:Int}(DR:Og b pieces fR):(jM b).length<=5000/\lm (jM b)<=23:=by
 have B:=DR.ok;have t4:JD 4=300:=rfl;have g4:WV 4=21:=rfl;have sx:∀s,s∈b.says->(tx s).length<=300/\sgn (tx s)<=21:=λs hs=>by have o:=(PJ B s hs).1;have h1:=zS B.nm s o<|DR.d4 s hs;have h2:=K0 B.nm s o<|DR.d4 s hs;lia
 have nj:∀ns:List<|List Nat,ns.length<=2->(∀n∈ns,bD n=true)->(aX [32] ns).length<=20/\sgn (aX [32] ns)<=1:=λns hl h=>by match ns,hl,h with|[],_,_=>simp [aX,sgn]|[a],_,h=>have q:=iS (h a<|by simp);have z:=E1 q.1;simp![aX];lia|[a,c],_,h =>have q:=iS (h a<|by simp);have q2:=iS (h c<|by simp);have z:=E1 q.1;have z2:=E1 q2.1;simp![aX,ah,ag,ak,nP,show sgn [32]=1 from rfl];lia|_::_::_::_,hl,_=>simp at hl
 have each:∀l∈gB b,l.length<=320/\sgn l<=23:=λl hl=>by
  simp![gB,ba,cz,kq]at hl;rcases hl with rfl|rfl|⟨s,hs,rfl⟩|⟨s,hs,rfl⟩|⟨w,hw,rfl⟩;·have:=nj b.fs B.f2 λn hn=>B.nm n<|fb _ hn;rw[ah,nP,show(W "foe ").length=4 from rfl,show sgn (W "foe ")=1 from rfl];lia
  ·have:=nj b.gs B.g2 λn hn=>B.nm n<|cf _ hn;rw[ah,nP,show(W "friend ").length=7 from rfl,show sgn (W "friend ")=1 from rfl];lia
  ·have:=sx s (by simp [Bk.says,hs]);rw[ah,nP,show(W "promise ").length=8 from rfl,show sgn (W "promise ")=1 from rfl];lia
  ·have:=sx s (by simp [Bk.says,hs]);rw[ah,nP,show(W "must ").length=5 from rfl,show sgn (W "must ")=1 from rfl];lia
  ·have:=sx w.2 (by simp![Bk.says,cz,kq];exact .inr ⟨w,hw,rfl⟩);have d:=vM (n:=w.1.toNat) (by have:=(B.w3 w hw).2.1;lia);have e:sgn (32::tx w.2)=1+sgn (tx w.2):=rfl;simp![nV,ah,ag,nP,show(W "wish ").length=5 from rfl,show sgn (W "wish ")=1 from rfl,Qu,e];lia
 refine⟨?_,L4 _ λl hl=>(each l hl).2⟩;unfold jM;rw[uv,gV];have h2:=AQ (f:=List.length∘λw=>w++[10]) (n:=321) (xs:=gB b) λw hx=>by have:=(each w hx).1;simp![uf,ah,ag,ak];lia
 have h3:(gB b).length*321<=13*321:=qk (AY B).1 (by lia);lia
section
variable {G:Prog}{k irb ili iwh ibw iwi inn ibk iwb ict ini iri ig ine iwo ij ins ist ilt ir il iap ia iaw ipi io ib ih iy bC bT iw ip:Nat}{st:aB}{Q:VK}{E:XK}
theorem YJ (R:Jc G irb ili iwh ibw iwi inn ibk iwb ict ini iri ig ine iwo ij ins ist ilt){x:D}(hx:∀P:Bool->Prop,P false->cV G.sub x st .str P)(hE:E 3 st):aH G (k+3) irb [x] st Q E:=by
 have li:∀{P:fA}{rest:List Sx}{r:St},P.ex 3 (some x::r) st->cH (aH G<|k+2) G.sub (.asg (.nm 1) (.callx ili [.v 0])::rest) P (some x::r) st:=λ{P rest r} hE=>by lk;rw[aK R.li];simp![rX,start];refine⟨rfl,?_⟩;lk;rw[aK R.ct];simp![D2,start];refine⟨rfl,?_⟩;lk;refine hx _ ?_;simp![bu,if_true];lk;exact hE
 rw[aK R.r];simp![EJ,start];exact⟨rfl,li hE⟩
end
section
variable {G:Prog}{ila ibo ibt ilb isp im idu inm dQ is ipr ic ich irb ili iwh ibw iwi inn ibk iwb ict ini iri ig ine iwo ij ins ist ilt ir il iap ia iaw ipi io ib ih iy bC bT iw ip irw iwo2 iso ipa iwd ide illt:Nat}
theorem Rh (hl:G.fns ila=some (M7 ibo ibt ilb irb isp im idu))(hbo:G.fns ibo=some (BG inm dQ is ipr))(dO:G.fns inm=some (yX dQ))(hpr:G.fns ipr=some (AZ is dQ))(hs:G.fns is=some (nC dQ is))(hn:G.fns dQ=some (rB im))(hm:G.fns im=some (lY ic))(hc:G.fns ic=some oA)(hbt:G.fns ibt=some (LR iwb ich))(hch:G.fns ich=some (wR ibk))(hb:∀b:Bk,b.Ok->lC b.says<aL->(∀x∈b.says,aE x<=60)->(gW b.says []).length<=4->QW G ibk 13 b)(R:Jc G irb ili iwh ibw iwi inn ibk iwb ict ini iri ig ine iwo ij ins ist ilt)(Z:NF G ibk ir il iap ia iaw ipi io ib ih iy bC bT iw ip)(D0:LD G idu irw ibk ilb iwo2 iso ipa iwd ide illt)(hsp:G.fns isp=some KQ)(s33:G.sub 3 3=true)(s31:G.sub 3 1=true)(s30:G.sub 3 0=true)(s32:G.sub 3 2=false)(ns:List Int){st:aB}{Q:VK}{E:XK}(hQ:∀aA,Q (.bl true) aA):aH G (99+1) ila [.bR<|ns.map .int] st Q E:=by
 have hL:aL=16777216:=rfl;rw[aK hl];simp only[M7,start];refine⟨rfl,?_⟩;lk;refine Hi (k:=92) hbo dO hpr hs hn hm hc (by decide) (by decide) (by decide) (by decide) λb aC DR x1=>?_;obtain⟨F1,F2,F3,F4⟩:=WR DR (by decide);have hB:=hb b DR.ok (by omega) F2 F3;have gd:b.Good:=⟨DR.ok,F3⟩;obtain⟨tl,tm⟩:=SN DR;have eqb:∀(st:aB)(b:Bk),b.Ok->plainS st b.d/\bZ st b.d b.d=true:=λst b B=>by have h:cL b.d=true/\dN b.d<=20:=Eo B;exact⟨⟨wV _ h.1,az h.2<|by decide⟩,GW _ h.1⟩
 have fin:∀(d:D)(X:Bk->Prop)(o3:Option D)(aC:aB),(∀a b,X a->X b->a.Ok/\a.d=b.d)->(∀(Q':VK)(E':XK),(∀b,X b->∀aA,Ext aC aA->Q' b.d aA)->((∀b,¬X b)->∀aA,Ext aC aA->E' 3 aA)->aH G 99 irb [d] aC Q' E') ->(∀(aJ:aB)(Q':VK)(E':XK),Ext aC aJ->(∀b,X b->∀aA,Ext aJ aA->Q' b.d aA)->((∀b,¬X b)->∀aA,Ext aJ aA->Q' .non aA)->aH G 99 idu [d] aJ Q' E') ->cH (aH G 99) G.sub [.asg (.nm 4)<|.c .non,.tryy [.asg (.nm 4)<|.callx irb [.v 2]] 3 (some 5) [.iff (.or_ (.not_<|.isi (.v 5) [.err 1])<|.or_ (.not_<|.isi (.v 5) [.err 0])<|.isi (.v 5) [.err 2]) [.ret<|.c<|.bl false] []],.ret<|.cmp .eq (.v 4)<|.call idu [.v 2]] ⟨λ_ aA=>Q .non aA,Q,λ_ _=>False,λ_ _=>False,λc _ aA=>E c aA⟩ [some<|.bR<|ns.map .int,some b.d,some d,o3,none,none] aC:=by
  intro d X o3 aC hX hr hdu;lk;try dsimp only
  refine dB ?_;rw[Ua];lk;refine hr _ _ (λm em aJ x2=>?_) λem aJ x2=>?_;·simp only[aG,LH];lk;refine hdu _ _ _ x2 (λm2 em2 aZ x3=>?_) λem2=>absurd em<|em2 m;obtain⟨o,e⟩:=hX m m2 em em2;obtain⟨z1,z2⟩:=eqb aZ m o;rw[<-e];refine⟨z1,z1,?_⟩;rw[z2];exact hQ aZ
  ·simp only[LH,s33,if_true,CV,cv,c9];lk;simp only[s31,s30,s32,bf,aa,if_false,aG];try simp only[cv,c9]
   lk;refine hdu _ _ _ x2 (λm2 em2=>absurd em2<|em m2) λem2 aZ x3=>?_;rw[show bZ aZ .non .non=true from by simp only[bZ]];exact⟨wH,hQ aZ⟩
 lk;refine fB (j:=0+13+4) (by omega)<|X5 (k:=0) hbt hch hB R.wb R.st R.lt DR.ok λaZ x3=>?_;lk;try simp only[bf,aa,if_false]
 k_ne;refine fB (j:=0+10) (by omega)<|HX (k:=0) D0.bt D0.lt DR.ok λcR x4=>?_;k_ne;try simp only[beq_self_eq_true,bf,aa,if_false]
 k_ne;refine fB (j:=69+30) (by omega)<|MB R Z (by omega) (λb2 g2 e2 eQ x5=>?_) λhno=>absurd rfl<|hno b gd;obtain⟨z1,z2⟩:=eqb eQ b DR.ok;rw[P1 g2.o DR.ok e2];refine⟨z1,z1,?_⟩;rw[z2];simp only[bf,aa,if_false,aG];generalize jM b=T at tl tm;have td:T.dropLast.length<=T.length:=by rw[kc];omega
 lk;rw[K8];have k1:(W "must yes\n").length=9:=rfl;have k2:(W "wish 0 yes\n").length=11:=rfl;have k3:(W "wish 07 yes\n").length=12:=rfl;have k4:(W "\n").length=1:=rfl;refine⟨by omega,by omega,by omega,by omega,by omega,?_⟩;refine bO (by show 5<=aL;decide) λmo dE x6 hmo hmo6=>?_;lk;rw[aF hmo6];refine⟨trivial,?_⟩;rw[aF hmo6];refine⟨by show 5<aL;decide,?_⟩;have em:∀(st:aB),put st mo (.lst<|[D.str<|T++W "must yes\n",D.str<|T++W "wish 0 yes\n",D.str<|T++W "wish 07 yes\n",D.str<|T++W "\n",D.str T.dropLast]++[D.str<|W "foe a\nfriend b\n"]) mo=some (.lst<|[T++W "must yes\n", T++W "wish 0 yes\n", T++W "wish 07 yes\n", T++W "\n", T.dropLast,W "foe a\nfriend b\n"].map .str):=λst=>bE;have hm9:=em dE;clear em;generalize put dE mo _=QT at hm9 ⊢;lk;refine⟨by decide,?_⟩;refine fB (j:=0+2) (by omega)<|NY hm hc (by decide) (by decide) λXn x10=>?_;k_ne;have msb:∀x∈[T++W "must yes\n", T++W "wish 0 yes\n", T++W "wish 07 yes\n", T++W "\n", T.dropLast,W "foe a\nfriend b\n"],x.length<=6000/\lm x<=47:=by
  intro x hx;simp only[ba,bj,or_false]at hx;rcases hx with rfl|rfl|rfl|rfl|rfl|rfl
  ·have:=kE T<|W "must yes\n";have:lm (W "must yes\n")<=1:=by decide
   rw[ah];omega
  ·have:=kE T<|W "wish 0 yes\n";have:lm (W "wish 0 yes\n")<=2:=by decide
   rw[ah];omega
  ·have:=kE T<|W "wish 07 yes\n";have:lm (W "wish 07 yes\n")<=2:=by decide
   rw[ah];omega
  ·have:=kE T<|W "\n";have:lm (W "\n")<=2:=by decide
   rw[ah];omega
  ·have:=GI T<|T.length-1;rw[<-lx]at this;omega
  ·exact⟨by decide,by decide⟩
 have no:∀(d:D)(st:aB)(o3:Option D),(∀aA,Ext st aA->∀P:Bool->Prop,P false->cV G.sub d aA .str P)->cH (aH G 99) G.sub [.asg (.nm 4)<|.c .non,.tryy [.asg (.nm 4)<|.callx irb [.v 2]] 3 (some 5) [.iff (.or_ (.not_<|.isi (.v 5) [.err 1])<|.or_ (.not_<|.isi (.v 5) [.err 0])<|.isi (.v 5) [.err 2]) [.ret<|.c<|.bl false] []],.ret<|.cmp .eq (.v 4)<|.call idu [.v 2]] ⟨λ_ aA=>Q .non aA,Q,λ_ _=>False,λ_ _=>False,λc _ aA=>E c aA⟩ [some<|.bR<|ns.map .int,some b.d,some d,o3,none,none] st:=λd st o3 hd =>fin d (λ_=>False) o3 st (λ_ _ z=>z.elim) (λQ' E' _ hE=>fB (j:=0+3) (by omega)<|YJ R (hd _ .refl)<|hE (λ_ z=>z) _ .refl) λaJ Q' E' x2 _ hE=>fB (j:=0+1) (by omega)<|Gm D0 (hd _ x2)<|hE (λ_ z=>z) _ .refl;refine fB (j:=98+1) (by omega)<|Lm hsp (by omega) (x10 _ _ hm9) (by show 6<=1000;decide) (gP<|by decide) (λx Z9 x11 ox=>?_) (λZ9 x11=>?_) (λZ9 x11=>?_) λp Z9 x11 hp=>?_
 ·have bx:x.length<=12000/\lm x<=47:=by
   rcases ox with ox|⟨o1,o2⟩;·have:=msb x ox;omega
   ·omega
  k_ne;refine fin _ (λa=>a.Good/\jM a=x) _ _ (λa c ha hc'=>⟨ha.1.o,P1 ha.1.o hc'.1.o<|ha.2.trans hc'.2.symm⟩) (λQ' E' h1 h2=>?_) λaJ Q' E' x2 h1 h2=>?_;·exact fB (j:=69+30) (by omega)<|MB R Z (by omega) (λa g e=>h1 a ⟨g,e⟩) λhno=>h2 λa z=>hno a z.1 z.2
  ·exact fB (j:=0+48+5) (by omega)<|Hb D0 Z (F:=48) (by decide) (by omega) (by omega) (λhno=>h2 λa z=>hno a z.1 z.2) λa g e=>h1 a ⟨g,e⟩
 ·k_ne;exact no _ _ _ λaA _ P p=>by simpa only[cV]using p
 ·k_ne;exact no _ _ _ λaA _ P p=>by simpa only[cV]using p
 ·exact no _ _ _ λaA y P q=>by simp only[cV];rw[hV<|y _ _ hp];exact q
end
end L3
end
end
namespace L3
open PySem PySem.Spec PyProof.Rows L2
noncomputable def yU:D:=.str<|W "abcdefghijklmnopqrstuvwxyz"
noncomputable def vE:D:=.int 8
noncomputable def EZ:D:=.tup [.str<|W "yes",.str<|W "no",.str<|W "not",.str<|W "and",.str<|W "or",.str<|W "then",.str<|W "same",.str<|W "before",.str<|W "once",.str<|W "sofar",.str<|W "since",.str<|W "foe",.str<|W "friend",.str<|W "promise",.str<|W "must",.str<|W "wish"]
noncomputable def yQ:D:=.int 8
noncomputable def mM:D:=.cF [.str<|W "yes",.str<|W "no",.str<|W "not",.str<|W "before",.str<|W "once",.str<|W "sofar",.str<|W "and",.str<|W "or",.str<|W "then",.str<|W "same",.str<|W "since"] [.int 0,.int 0,.int 1,.int 1,.int 1,.int 1,.int 2,.int 2,.int 2,.int 2,.int 2]
noncomputable def ND:D:=.tup [.str<|W "before",.str<|W "once",.str<|W "sofar",.str<|W "since"]
noncomputable def AE:D:=.int 2
noncomputable def tE:D:=.int 3
noncomputable def zA:D:=.int 3
noncomputable def xQ:D:=.int 5
noncomputable def sZ:D:=.int 99
noncomputable def yF:D:=.int 4
noncomputable def MK:D:=.str<|W "0123456789"
noncomputable def yE:D:=.int 2
noncomputable abbrev tL:Nat:=0
noncomputable abbrev pG:Nat:=1
noncomputable abbrev iZ:Nat:=2
noncomputable abbrev jX:Nat:=3
noncomputable abbrev uG:Nat:=4
noncomputable abbrev mQ:Nat:=5
noncomputable abbrev uB:Nat:=6
noncomputable abbrev mF:Nat:=7
noncomputable abbrev mB:Nat:=8
noncomputable abbrev oY:Nat:=9
noncomputable abbrev wX:Nat:=10
noncomputable abbrev yO:Nat:=11
noncomputable abbrev sL:Nat:=12
noncomputable abbrev rZ:Nat:=13
noncomputable abbrev qJ:Nat:=14
noncomputable abbrev IF:Nat:=15
noncomputable abbrev xU:Nat:=16
noncomputable abbrev qX:Nat:=17
noncomputable abbrev lE:Nat:=18
noncomputable abbrev oU:Nat:=19
noncomputable abbrev lB:Nat:=20
noncomputable abbrev sX:Nat:=21
noncomputable abbrev mC:Nat:=22
noncomputable abbrev oP:Nat:=23
noncomputable abbrev vL:Nat:=24
noncomputable abbrev zJ:Nat:=25
noncomputable abbrev DW:Nat:=26
noncomputable abbrev CB:Nat:=27
noncomputable abbrev oX:Nat:=28
noncomputable abbrev B1:Nat:=29
noncomputable abbrev qR:Nat:=30
noncomputable abbrev EY:Nat:=31
noncomputable abbrev IZ:Nat:=32
noncomputable abbrev CC:Nat:=33
noncomputable abbrev uV:Nat:=34
noncomputable abbrev rS:Nat:=35
noncomputable abbrev lZ:Nat:=36
noncomputable abbrev zL:Nat:=37
noncomputable abbrev mD:Nat:=38
noncomputable abbrev uQ:Nat:=39
noncomputable abbrev BU:Nat:=40
noncomputable abbrev BY:Nat:=41
noncomputable abbrev qU:Nat:=42
noncomputable abbrev uD:Nat:=43
noncomputable abbrev mP:Nat:=44
noncomputable abbrev tX:Nat:=45
noncomputable abbrev mO:Nat:=46
noncomputable abbrev yB:Nat:=47
noncomputable abbrev vQ:Nat:=48
noncomputable abbrev B6:Nat:=49
noncomputable abbrev E8:Nat:=50
noncomputable abbrev Bh:Nat:=51
noncomputable def VJ:Fn:=gO EZ yU vE
noncomputable def OU:Fn:=Wd iZ yQ
noncomputable def AM:Fn:=dH tL iZ mM
noncomputable def CM:Fn:=kO
noncomputable def OE:Fn:=pU jX
noncomputable def Y7:Fn:=gC
noncomputable def OW:Fn:=sG mQ tL AE
noncomputable def J5:Fn:=lM mQ pG
noncomputable def J7:Fn:=pI jX mB
noncomputable def GB:Fn:=mS mF mB tE
noncomputable def R0:Fn:=jU sZ
noncomputable def UN:Fn:=mZ mQ wX pG
noncomputable def NL:Fn:=mK mQ yO xQ
noncomputable def NW:Fn:=zW
noncomputable def U3:Fn:=oZ mQ uB oY mF sL uG rZ zA yF
noncomputable def T3:Fn:=wR qJ
noncomputable def KA:Fn:=sI
noncomputable def BK:Fn:=AF
noncomputable def yI:Fn:=DP
noncomputable def GO:Fn:=DQ lE
noncomputable def yL:Fn:=DM yU
noncomputable def DN:Fn:=G3 mC oU lB
noncomputable def JZ:Fn:=E5 sX lE lB oU mC mM
noncomputable def GH:Fn:=zN qX mC yQ
noncomputable def GU:Fn:=D2
noncomputable def L6:Fn:=rK
noncomputable def TM:Fn:=rX vL
noncomputable def OQ:Fn:=yP yE MK
noncomputable def GD:Fn:=vR xU zJ
noncomputable def OO:Fn:=LR oX IF
noncomputable def J9:Fn:=rM
noncomputable def RK:Fn:=xA qR
noncomputable def XA:Fn:=A6 CB oP
noncomputable def O2:Fn:=EJ DW oP qR IZ EY qJ oX
noncomputable def GZ:Fn:=oA
noncomputable def LY:Fn:=lY uV
noncomputable def O0:Fn:=rB rS
noncomputable def M3:Fn:=yX lZ
noncomputable def J4:Fn:=nC lZ mD
noncomputable def F6:Fn:=AZ mD lZ
noncomputable def OR:Fn:=BG zL lZ mD uQ
noncomputable def OF:Fn:=qG
noncomputable def J3:Fn:=sO qU BY
noncomputable def OP:Fn:=sY uD
noncomputable def CS:Fn:=rJ qU uD
noncomputable def OM:Fn:=uC tX
noncomputable def CO:Fn:=A7 tX
noncomputable def J8:Fn:=KQ
noncomputable def FH:Fn:=yK mP
noncomputable def OH:Fn:=DT vQ mP
noncomputable def TK:Fn:=RP B6 qJ mO
noncomputable def Bp:Fn:=M7 BU B1 mO CC yB rS E8
noncomputable def Uz:Nat->Option Fn|0=>some VJ|1=>some OU|2=>some AM|3=>some CM|4=>some OE|5=>some Y7|6=>some OW|7=>some J5|8=>some J7|9=>some GB|10=>some R0|11=>some UN|12=>some NL|13=>some NW|14=>some U3|15=>some T3|16=>some KA|17=>some BK|18=>some yI|19=>some GO|20=>some yL|21=>some DN|22=>some JZ|23=>some GH|24=>some GU|25=>some L6|26=>some TM|27=>some OQ|28=>some GD|29=>some OO|30=>some J9|31=>some RK|32=>some XA|33=>some O2|34=>some GZ|35=>some LY|36=>some O0|37=>some M3|38=>some J4|39=>some F6|40=>some OR|41=>some OF|42=>some J3|43=>some OP|44=>some CS|45=>some OM|46=>some CO|47=>some J8|48=>some FH|49=>some OH|50=>some TK|51=>some Bp|_=>none
noncomputable def Ve:Nat->Nat->Bool|0,0=>true|1,1=>true|1,0=>true|2,2=>true|2,1=>true|2,0=>true|3,3=>true|3,1=>true|3,0=>true|_,_=>false
noncomputable def G:Prog:=⟨Uz,Ve⟩
noncomputable abbrev MR:List Str:=["_law_script","_law_book_here","_law_text_here","_law_more","_law_answer","e"]
noncomputable abbrev bd (n:Nat):Stmt:=PySem.Challenge.pw_leastloss_k32_book_texts.main.body.getD n<|.Pass ⟨0,0,0,0⟩
noncomputable def eV:Nat->Stmt|0=>bd 11|1=>bd 12|2=>bd 13|3=>bd 14|4=>bd 15|5=>bd 23|6=>bd 24|7=>bd 25|8=>bd 26|9=>bd 27|10=>bd 28|11=>bd 29|12=>bd 30|13=>bd 31|14=>bd 32|15=>bd 33|16=>bd 37|17=>ET (bd 38) 0|18=>ET (bd 38) 1|19=>ET (bd 38) 2|20=>ET (bd 38) 3|21=>bd 39|22=>bd 40|23=>bd 41|24=>bd 42|25=>bd 43|26=>bd 44|27=>bd 45|28=>bd 46|29=>bd 47|30=>bd 48|31=>bd 49|32=>bd 50|33=>bd 51|34=>bd 53|35=>bd 54|36=>bd 55|37=>bd 56|38=>bd 57|39=>bd 58|40=>bd 59|41=>bd 60|42=>bd 61|43=>bd 62|44=>bd 63|45=>bd 64|46=>bd 65|47=>bd 66|48=>bd 67|49=>bd 68|50=>bd 69|51=>bd 70|_=>.Pass ⟨0,0,0,0⟩
def oM:Nat->Str|0 =>"is_name"|1 =>"is_saying"|2 =>"is_saying_within"|3 =>"sayings_within"|4 =>"pieces_in"|5 =>"is_row"|6 =>"are_lamps"|7 =>"are_sayings"|8 =>"stands_bare"|9 =>"are_promises"|10 =>"is_price"|11 =>"is_wish"|12 =>"are_wishes"|13 =>"sayings_of"|14 =>"is_book"|15 =>"checked"|16 =>"saying_text"|17 =>"__init__"|18 =>"goes_past"|19 =>"needs"|20 =>"word_here"|21 =>"joined_saying"|22 =>"next_saying"|23 =>"whole_saying"|24 =>"checked_text"|25 =>"lines_text"|26 =>"lines_in"|27 =>"number_in"|28 =>"written_book"|29 =>"book_text"|30 =>"behind_word"|31 =>"names_in"|32 =>"wish_in"|33 =>"read_book"|34 =>"_law_cell_at"|35 =>"_law_mixed"|36 =>"_law_next"|37 =>"_law_names"|38 =>"_law_saying"|39 =>"_law_promise"|40 =>"_law_book"|41 =>"_law_word"|42 =>"_law_parsed"|43 =>"_law_deep"|44 =>"_law_saying_of"|45 =>"_law_text"|46 =>"_law_book_text"|47 =>"_law_spoilt"|48 =>"_law_wish_of"|49 =>"_law_rows"|50 =>"_law_due"|51 =>"law"|_ =>""
def fZ:Nat->Str|17 =>"Reader.__init__"|18 =>"Reader.goes_past"|19 =>"Reader.needs"|20 =>"Reader.word_here"|i=>oM i
def oI:Nat->At|17=>.init<|W "Reader"|18=>.bP<|W "Reader"|19=>.bP<|W "Reader"|20=>.bP<|W "Reader"|_=>.top
noncomputable def jT:Nat->List Str|0=>["thing"]|1=>["names","thing"]|2=>["names","thing","deepest"]|3=>["saying"]|4=>["sayings"]|5=>["thing","fewest","most"]|6=>["foe","friend"]|7=>["names","things","most"]|8=>["names","saying"]|9=>["names","friend","things"]|10=>["thing"]|11=>["names","thing"]|12=>["names","things"]|13=>["promises","musts","wishes"]|14=>["thing"]|15=>["book"]|16=>["saying"]|17=>["self","text"]|18=>["self","sign"]|19=>["self","sign"]|20=>["self"]|21=>["reader","deepest"]|22=>["reader","deepest"]|23=>["text"]|24=>["thing"]|25=>["lines"]|26=>["thing"]|27=>["text"]|28=>["book"]|29=>["book"]|30=>["word","lines"]|31=>["word","lines"]|32=>["text"]|33=>["text"]|34=>["_law_script","_law_k"]|35=>["_law_script","_law_k","_law_many"]|36=>["_law_script","_law_m","_law_many"]|37=>["_law_script","_law_m"]|38=>["_law_script","_law_m","_law_names_here","_law_deep_here","_law_left"]|39=>["_law_script","_law_m","_law_foe","_law_names_here","_law_left"]|40=>["_law_script","_law_at","_law_pieces","_law_musts"]|41=>["_law_text_here","_law_at"]|42=>["_law_text_here","_law_at","_law_names_here"]|43=>["_law_saying_here"]|44=>["_law_text_here","_law_names_here"]|45=>["_law_saying_here"]|46=>["_law_book_here"]|47=>["_law_text_here","_law_cell","_law_more"]|48=>["_law_rest","_law_names_here"]|49=>["_law_lines","_law_names_here"]|50=>["_law_text_here"]|51=>["_law_script"]|_=>[]
def XN (K:ae)(mg:Str->Option Value):Prop:=∃C,oF K "NoText" C/\(∃a,mg "LossError" = some (.ref a)/\BZ K C (.ref a) true)/\(mg "ValueError" = none/\BZ K C (.type "ValueError") true)/\(∃a,mg "NoBook" = some (.ref a)/\BZ K C (.ref a) false)/\(rg K C).isSome=true
noncomputable def ED:Nat->Bool|19=>true|21=>true|22=>true|23=>true|24=>true|26=>true|27=>true|32=>true|33=>true|_=>false
theorem J2:dm "ValueError" = some (.type "ValueError"):=by x_go
theorem tN {X:Cx}{n:Str}(h:X.env.kindOf n=some .globalImplicit):Gl X n:=h
section
variable {X:Cx}{C:aU}{sub:Nat->Nat->Bool}{elt iter:cy}{ifs:List cy}{xe:Ex}{aD iN:List Ex}{pos p:Pos}{scope:Scope}{k:Option IK}{n:Str}{bH:List Nat}
noncomputable abbrev UA (X:Cx)(bH:List Nat):List Str:=bH.map λi=>X.N.getD i ""
theorem JR {cn:List Str}(h:S0 scope.names X.env.scope.names X.N cn bH=true:=by z_go)(hk:scope.kind=.function:=by z_go):iV X scope cn bH:=Ya h rfl rfl hk
theorem qN {own cn:List Str}:∀fp s H Ca,JQ (hJ X scope own cn fp s H Ca) C sub EF [] []:=λ_ _ _ _=>qn
theorem sR (m:bU C C)(hi:JI X C sub EF (.Name n p) iter k aD)(hts:∀fp s H Ca,JQ (hJ X scope [n] (UA X bH) fp s H Ca) C sub EF ifs iN)(he:∀fp s H Ca,JE (hJ X scope [n] (UA X bH) fp s H Ca) C sub EF elt xe)(S:iV X scope (UA X bH) bH:=by exact JR)(hl:∀fp s H Ca,(hJ X scope [n] (UA X bH) fp s H Ca).env.scope.names.lookup n=some .local:=by intros;z_go)(nd:decide (n::UA X bH).Nodup=true:=by z_go)(hc:X.calm=true:=by z_go)(hs:∀x,ft iter X.env x=pure x:=by intro _;rfl):JE X C sub EF (.ListComp elt [⟨.Name n p,iter,ifs,0⟩] scope pos) (.comp 1 bH [0] true k aD iN xe) :=Uu (own:=[n]) m S hi (λ_ _ _ _=>b1<|gn (of_decide_eq_true nd) rfl<|hl ..) hts he hc (λ_=>rfl) hs
end
structure Zt (K:ae)(mg:Str->Option Value):Prop where
 xx0:∃Cl,oF K "NoBook" Cl
 xx1:XN K mg
 bb2:mg "isinstance" = none
 bb3:mg "str" = none
 bb4:mg "len" = none
 bb5:mg "all" = none
 bb6:mg "tuple" = none
 bb7:mg "list" = none
 bb8:mg "reversed" = none
 bb9:mg "set" = none
 bb10:mg "any" = none
 bb11:mg "int" = none
 bb12:mg "bool" = none
 bb13:mg "range" = none
 bb14:mg "max" = none
 gg15:GC K mg "NO_NAMES" EZ
 gg16:GC K mg "LONGEST_NAME" vE
 gg17:GC K mg "LETTERS" yU
 gg18:GC K mg "DEEPEST" yQ
 gg19:GC K mg "SAYINGS_WITHIN" mM
 gg20:GC K mg "PAST_WORDS" ND
 gg21:GC K mg "MOST_LAMPS" AE
 gg22:GC K mg "MOST_PROMISES" tE
 gg23:GC K mg "HIGHEST_PRICE" sZ
 gg24:GC K mg "MOST_WISHES" xQ
 gg25:GC K mg "MOST_MUSTS" zA
 gg26:GC K mg "MOST_PIECES" yF
 gg27:GC K mg "MOST_DIGITS" yE
 gg28:GC K mg "DIGITS" MK
 cc29:BD K (W "Reader")aa30:NV K (W "Reader") (W "text")aa31:NV K (W "Reader")<|W "at"
section
variable {P:bp}{w:dh}{K:ae}{mg:Str->Option Value}{base:Heap}
theorem G6 {k:Nat}(T:MA K mg 52 oM fZ jT eV oI)(IH:∀i,i<52->i≠51->cD P w K mg base gG (2*k) (T.a i) (T.fd i) (jT i) (jK K (aH G k) i)){X:Cx}(e1:X.prog=P)(e2:X.w=w)(e3:X.K=K)(e4:X.mg=mg)(e5:X.base=base)(hr:cK (2*k+1) X.A)(i:Nat)(h:qf i 51=true)(ha:oI i=.top):pV X (aH G k) (oM i) i:=by subst e1 e2 e3 e4 e5;have h0:i<51:=Nat.ble_eq.mp h;have h:i<52:=yh h0 (by cbv);have q:=T.mg i h;rw[ha]at q;exact⟨2*k,T.a i,T.fd i,jT i,IH i h<|cj h0,hr.mono<|by lia,q,(T.fn i h).kp,T.bi i h⟩
theorem FQ {k:Nat}(T:MA K mg 52 oM fZ jT eV oI)(IH:∀i,i<52->i≠51->cD P w K mg base gG (2*k) (T.a i) (T.fd i) (jT i) (jK K (aH G k) i)){X:Cx}(e1:X.prog=P)(e2:X.w=w)(e3:X.K=K)(e4:X.mg=mg)(e5:X.base=base)(hr:cK (2*k+1) X.A)(i:Nat)(c:List Nat)(h:qf i 51=true)(ha:oI i=.bP c):zF X (aH G k) c (oM i) i:=by subst e1 e2 e3 e4 e5;have h0:i<51:=Nat.ble_eq.mp h;have h:i<52:=yh h0 (by cbv);have q:=T.mg i h;rw[ha]at q;obtain⟨C0,q1,q2,q3⟩:=q;exact⟨2*k,T.a i,T.fd i,jT i,C0,IH i h<|cj h0,hr.mono<|by lia,T.bi i h,q1,q2,q3⟩
theorem G1 {k:Nat}(T:MA K mg 52 oM fZ jT eV oI)(IH:∀i,i<52->i≠51->cD P w K mg base gG (2*k) (T.a i) (T.fd i) (jT i) (jK K (aH G k) i)){X:Cx}(e1:X.prog=P)(e2:X.w=w)(e3:X.K=K)(e4:X.mg=mg)(e5:X.base=base)(hr:cK (2*k+1) X.A)(i:Nat)(c:List Nat)(h:qf i 51=true)(ha:oI i=.init c){n:Str}(hn:n=⟨c.toArray⟩:=by z_go):FF X (aH G k) c n i:=by subst e1 e2 e3 e4 e5;have h0:i<51:=Nat.ble_eq.mp h;have h:i<52:=yh h0 (by cbv);have q:=T.mg i h;rw[ha]at q;obtain⟨C0,q1,q2,q3⟩:=q;exact⟨2*k,T.a i,T.fd i,jT i,C0,IH i h<|cj h0,hr,T.bi i h,q1,by rw[hn];exact q2,q3⟩
noncomputable abbrev TT (K:ae)(mg:Str->Option Value):=MA K mg 52 oM fZ jT eV oI
abbrev IT (P:bp)(w:dh)(base:Heap)(T:TT K mg)(k:Nat):Prop:=∀i,i<52->i≠51->cD P w K mg base gG (2*k) (T.a i) (T.fd i) (jT i) (jK K (aH G k) i)
abbrev OT (P:bp)(w:dh)(base:Heap)(T:TT K mg)(k i:Nat):Prop:=cD P w K mg base gG (2*k+1+1) (T.a i) (T.fd i) (jT i)<|jK K (aH G<|k+1) i
noncomputable def nt:Nat->List Str|0=>["thing"]|1=>["names","thing"]|2=>["names","thing","deepest"]|3=>["saying"]|4=>["sayings","pieces","ahead","saying"]|5=>["thing","fewest","most"]|6=>["foe","friend","names"]|7=>["names","things","most"]|8=>["names","saying"]|9=>["names","friend","things"]|10=>["thing"]|11=>["names","thing"]|12=>["names","things"]|13=>["promises","musts","wishes"]|14=>["thing","friend","names","promises","musts","wishes"]|15=>["book"]|16=>["saying","written","ahead","part"]|17=>["self","text"]|18=>["self","sign"]|19=>["self","sign"]|20=>["self","start"]|21=>["reader","deepest","first","word","second"]|22=>["reader","deepest","word"]|23=>["text","reader","saying"]|24=>["thing"]|25=>["lines"]|26=>["thing"]|27=>["text"]|28=>["book","lines"]|29=>["book"]|30=>["word","lines"]|31=>["word","lines"]|32=>["text","parts"]|33=>["text","lines","promises","musts","wishes","book"]|34=>["_law_script","_law_k"]|35=>["_law_script","_law_k","_law_many","_law_drawn"]|36=>["_law_script","_law_m","_law_many"]|37=>["_law_script","_law_m","_law_some","_law_turn","_law_row","_law_foe","_law_friend"]|38=>["_law_script","_law_m","_law_names_here","_law_deep_here","_law_left","_law_way","_law_one"]|39=>["_law_script","_law_m","_law_foe","_law_names_here","_law_left","_law_one","_law_other"]|40=>["_law_script","_law_at","_law_pieces","_law_musts","_law_m","_law_foe","_law_friend","_law_names_here","_law_left","_law_wishes","_law_k","_law_price","_law_some","_law_known"]|41=>["_law_text_here","_law_at","_law_end"]|42=>["_law_text_here","_law_at","_law_names_here","_law_one","_law_word_here","_law_end","_law_other"]|43=>["_law_saying_here"]|44=>["_law_text_here","_law_names_here","_law_found"]|45=>["_law_saying_here"]|46=>["_law_book_here","_law_lines","_law_saying_here","_law_price"]|47=>["_law_text_here","_law_cell","_law_more","_law_at","_law_sign","_law_way","_law_end"]|48=>["_law_rest","_law_names_here","_law_figures","_law_saying_here"]|49=>["_law_lines","_law_names_here","_law_rows_here","_law_line","_law_word_here","_law_rest"]|50=>["_law_text_here","_law_lines","_law_foe","_law_friend","_law_rows_here","_law_book_here"]|_=>[]
theorem Yf (i:Nat){k:Nat}{fn:Fn}(T:TT K mg)(IH:IT P w base T k)(hi:qf i 52=true)(S:lI (nt i) (jT i)<|aP<|eV i)(hG:G.fns i=some fn)(hp:fn.np=(jT i).length)(hl:fn.nl=(nt i).length)(hb:∀(bV:Value)(A:c5)(outer:List Env)(s:aj)(H:Hp)(E:L2.XK)(hr:cK (2*k+1)<|A.deeper<|jw (fZ i) (aP<|eV i) s.heap.objs.size (T.a i) bV)(m:bU (aH G k)<|aH G k)(u:(A.deeper<|jw (fZ i) (aP<|eV i) s.heap.objs.size (T.a i) bV).units+180<AaE)(c:∀(j:Nat)(_:qf j 51=true:=by z_go)(_:oI j=.top:=by z_go),pV (dJ gG P w K mg base (nt i) (fZ i) (aP<|eV i) (T.a i) bV A outer s H E).oK (aH G k) (oM j) j)(cm:∀j c,qf j 51=true->oI j=.bP c->zF (dJ gG P w K mg base (nt i) (fZ i) (aP<|eV i) (T.a i) bV A outer s H E).oK (aH G k) c (oM j) j)(ck:∀j c,qf j 51=true->oI j=.init c->∀{n:Str}(hn:n=⟨c.toArray⟩:=by z_go),FF (dJ gG P w K mg base (nt i) (fZ i) (aP<|eV i) (T.a i) bV A outer s H E).oK (aH G k) c n j)(nd:(nt i).Nodup),xR (dJ gG P w K mg base (nt i) (fZ i) (aP<|eV i) (T.a i) bV A outer s H E).oK (aH G k) G.sub EF (gQ<|eV i) fn.body):OT P w base T k i :=Nw (fn:=fn) (T.fn i<|Nat.ble_eq.mp hi) S hG hp hl λbV A outer s H E hr=>hb bV A outer s H E hr (fU G<|av k) (RH hr) (G6 (X:=(dJ gG P w K mg base (nt i) (fZ i) (aP<|eV i) (T.a i) bV A outer s H E).oK) T IH rfl rfl rfl rfl rfl hr) (FQ (X:=(dJ gG P w K mg base (nt i) (fZ i) (aP<|eV i) (T.a i) bV A outer s H E).oK) T IH rfl rfl rfl rfl rfl hr) (@G1 P w K mg base k T IH (dJ gG P w K mg base (nt i) (fZ i) (aP<|eV i) (T.a i) bV A outer s H E).oK rfl rfl rfl rfl rfl hr) S.nd
theorem Xl {k:Nat}{Cl:Addr}(T:TT K mg)(IH:IT P w base T k)(Y:oF K "NoBook" Cl):cD P w K mg base (eY P w Cl) (2*k+1) (T.a 15) (T.fd 15) (jT 15)<|Um K (aH G k) Cl 14:=by
 obtain⟨oc,od,kV,doc,pm,an',bV,ct,osl,e,lk,hcd⟩:=(T.fn 15<|by cbv).ex;rw[e]at lk ⊢;have S:lI ["book"] (jT 15)<|aP<|eV 15:=⟨rfl,rfl,rfl,by x_go,rfl,by x_go,by x_go⟩;refine RI lk hcd S (λvs H Q E h=>?_) λA outer s H vs Q E hr h=>?_;·obtain⟨_,_,_,_,rfl,_⟩:=h;rfl
 obtain⟨d0,v0,st,B,rfl,r0,ok,q,hT,hF⟩:=h;have c:pV (dJ (eY P w Cl) P w K mg base ["book"] (fZ 15) (aP<|eV 15) (T.a 15) bV A outer s H E) (aH G k) (oM 14) 14:=⟨2*k,T.a 14,T.fd 14,jT 14,IH 14 (by cbv)<|by cbv,hr,T.mg 14<|by cbv,(T.fn 14<|by cbv).kp,T.bi 14<|by cbv⟩;refine⟨_,CH (QU (JT.h (sub:=G.sub) (E:=λ_ _=>False)<|mT<|tp<|bM c<|ja (jv 0) an) (vF<|MP Y (by z_go)<|by z_go) FG)<|vF<|LS<|pv 0,?_⟩;refine⟨[some d0],st,λb aA=>B (!b) aA,Vy r0 rfl λi d e=>by simp at e,ok,?_,λb H' z=>?_⟩;·refine fU G (av k) 14 _ st _ _ _ _ (λd aA z=>?_) (λ_ _ z=>z) q;refine iW (λb z=>?_) z;show B (!!b) _;rw[Bool.not_not];exact z
 ·obtain⟨aA,sp,dD,z⟩:=z;cases b with|true=>exact hF H' aA sp dD z|false=>exact⟨v0,rfl,hT v0 H' aA sp dD z⟩
abbrev XT (P:bp)(w:dh)(base:Heap)(T:TT K mg)(Cl:Addr)(k:Nat):Prop:=∀i,ED i=true->cD P w K mg base (eY P w Cl) (2*k) (T.a i) (T.fd i) (jT i) (yC K (aH G k) i)
abbrev OX (P:bp)(w:dh)(base:Heap)(T:TT K mg)(Cl:Addr)(k i:Nat):Prop:=cD P w K mg base (eY P w Cl) (2*k+1+1) (T.a i) (T.fd i) (jT i)<|yC K (aH G<|k+1) i
theorem wQ {k:Nat}{Cl:Addr}(T:TT K mg)(IX:XT P w base T Cl k){X:Cx}{EX:XK}(e1:X.prog=P)(e2:X.w=w)(e3:X.K=K)(e4:X.mg=mg)(e5:X.base=base)(hr:cK (2*k+1) X.A)(hx:gA (eY X.prog X.w Cl) X<|EE X.K EX)(i:Nat)(h:qf i 52=true)(ha:oI i=.top)(hi:ED i=true):S1 X (aH G k) EX (oM i) i:=by subst e1 e2 e3 e4 e5;have h:i<52:=Nat.ble_eq.mp h;have q:=T.mg i h;rw[ha]at q;exact⟨2*k,T.a i,T.fd i,jT i,Cl,IX i hi,hr.mono<|by lia,q,(T.fn i h).kp,T.bi i h,hx⟩
theorem ZA {k:Nat}{Cl:Addr}(T:TT K mg)(IX:XT P w base T Cl k){X:Cx}{EX:XK}(e1:X.prog=P)(e2:X.w=w)(e3:X.K=K)(e4:X.mg=mg)(e5:X.base=base)(hr:cK (2*k+1) X.A)(hx:gA (eY X.prog X.w Cl) X<|EE X.K EX)(i:Nat)(c:List Nat)(h:qf i 52=true)(ha:oI i=.bP c)(hi:ED i=true):TJ X (aH G k) EX c (oM i) i:=by subst e1 e2 e3 e4 e5;have h:i<52:=Nat.ble_eq.mp h;have q:=T.mg i h;rw[ha]at q;obtain⟨C0,q1,q2,q3⟩:=q;exact⟨2*k,T.a i,T.fd i,jT i,C0,Cl,IX i hi,hr.mono<|by lia,T.bi i h,q1,q2,q3,hx⟩
theorem Yp (i:Nat){k:Nat}{Cl:Addr}{fn:Fn}(T:TT K mg)(IH:IT P w base T k)(IX:XT P w base T Cl k)(hi:qf i 52=true)(S:lI (nt i) (jT i)<|aP<|eV i)(hG:G.fns i=some fn)(hp:fn.np=(jT i).length)(hl:fn.nl=(nt i).length)(hb:∀(bV:Value)(A:c5)(outer:List Env)(s:aj)(H:Hp)(E:L2.XK)(EX:XK)(hr:cK (2*k+1)<|A.deeper<|jw (fZ i) (aP<|eV i) s.heap.objs.size (T.a i) bV)(hE:∀cl a H',EE K EX cl a H'->E cl a H')(m:bU (aH G k)<|aH G k)(u:(A.deeper<|jw (fZ i) (aP<|eV i) s.heap.objs.size (T.a i) bV).units+180<AaE)(c:∀(j:Nat)(_:qf j 51=true:=by z_go)(_:oI j=.top:=by z_go),pV (dJ (eY P w Cl) P w K mg base (nt i) (fZ i) (aP<|eV i) (T.a i) bV A outer s H E) (aH G k) (oM j) j)(cm:∀j c,qf j 51=true->oI j=.bP c->zF (dJ (eY P w Cl) P w K mg base (nt i) (fZ i) (aP<|eV i) (T.a i) bV A outer s H E) (aH G k) c (oM j) j)(ck:∀j c,qf j 51=true->oI j=.init c->∀{n:Str}(hn:n=⟨c.toArray⟩:=by z_go),FF (dJ (eY P w Cl) P w K mg base (nt i) (fZ i) (aP<|eV i) (T.a i) bV A outer s H E) (aH G k) c n j)(cx:∀j,qf j 52=true->oI j=.top->ED j=true->S1 (dJ (eY P w Cl) P w K mg base (nt i) (fZ i) (aP<|eV i) (T.a i) bV A outer s H E) (aH G k) EX (oM j) j)(cmx:∀j c,qf j 52=true->oI j=.bP c->ED j=true->TJ (dJ (eY P w Cl) P w K mg base (nt i) (fZ i) (aP<|eV i) (T.a i) bV A outer s H E) (aH G k) EX c (oM j) j)(nd:(nt i).Nodup),xR (dJ (eY P w Cl) P w K mg base (nt i) (fZ i) (aP<|eV i) (T.a i) bV A outer s H E) (aH G k) G.sub EX (gQ<|eV i) fn.body):OX P w base T Cl k i :=Kl (fn:=fn) (T.fn i<|Nat.ble_eq.mp hi) S hG hp hl λbV A outer s H E EX hr hE=>hb bV A outer s H E EX hr hE (fU G<|av k) (RH hr) (G6 (X:=dJ (eY P w Cl) P w K mg base (nt i) (fZ i) (aP<|eV i) (T.a i) bV A outer s H E) T IH rfl rfl rfl rfl rfl hr) (FQ (X:=dJ (eY P w Cl) P w K mg base (nt i) (fZ i) (aP<|eV i) (T.a i) bV A outer s H E) T IH rfl rfl rfl rfl rfl hr) (@G1 P w K mg base k T IH (dJ (eY P w Cl) P w K mg base (nt i) (fZ i) (aP<|eV i) (T.a i) bV A outer s H E) rfl rfl rfl rfl rfl hr) (wQ (X:=dJ (eY P w Cl) P w K mg base (nt i) (fZ i) (aP<|eV i) (T.a i) bV A outer s H E) T IX rfl rfl rfl rfl rfl hr<|Bu hE) (ZA (X:=dJ (eY P w Cl) P w K mg base (nt i) (fZ i) (aP<|eV i) (T.a i) bV A outer s H E) T IX rfl rfl rfl rfl rfl hr<|Bu hE) S.nd
abbrev OZ (P:bp)(w:dh)(K:ae)(mg:Str->Option Value)(base:Heap)(k i:Nat):Prop:=∀(T:TT K mg)(_:Zt K mg)(_:IT P w base T k),OT P w base T k i
abbrev OY (P:bp)(w:dh)(K:ae)(mg:Str->Option Value)(base:Heap)(Cl:Addr)(k i:Nat):Prop:=∀(T:TT K mg)(_:Zt K mg)(_:oF K "NoText" Cl)(_:IT P w base T k)(_:XT P w base T Cl k),OX P w base T Cl k i
set_option hygiene false in
local macro_rules|`(tactic| kd_p)=>`(tactic| intro T Z IH;refine Yf _ T IH rfl ⟨rfl,rfl,rfl,by x_go,rfl,by x_go,by x_go⟩ rfl rfl rfl ?_;intro _ _ _ _ _ _ hr m u c cm ck nd)
set_option hygiene false in
local macro_rules|`(tactic| walk_at"kx")=>`(tactic| intro T Z Y IH IX;refine Yp _ T IH IX rfl ⟨rfl,rfl,rfl,by x_go,rfl,by x_go,by x_go⟩ rfl rfl rfl ?_;intro _ _ _ _ _ _ _ hr hE m u c cm ck cx cmx nd)
theorem Wb {k:Nat}:OZ P w K mg base k 0:=by kd_p;exact cc (cO m (jR<|jQ m (mT<|tp<|B2 (t:=.str) qI Z.bb2 Z.bb3<|jv 0)<|jS<|bX (o:=.in_) u (jv 0)<|jg Z.gg15) (cc (bI m jb) c0) c0)<|cc (bI m<|uR (Mt (o:=.le) (o':=.le) u ji (dA bJ cI Z.bb4<|ja (jv 0) an)<|jg Z.gg16)<|BS<|dA (mW hr.hd) uU Z.bb5<|ja (sR m (iv<|jv 0) qN λ_ _ _ _=>B7 (o:=.in_) u (jv 0)<|jg Z.gg17) an) c0
theorem Vo {k:Nat}:OZ P w K mg base k 1:=by kd_p;exact cc (bI m<|bM (c 2)<|ja (jv 0)<|ja (jv 1)<|ja (jg Z.gg18) an) c0
theorem Va {k:Nat}:OZ P w K mg base k 2:=by kd_p;exact cc (cO m (jR<|jQ m (bX (o:=.lt) u (fL 2) ji)<|jQ m (mT<|tp<|B2 (t:=.tuple) eJ Z.bb2 Z.bb6<|jv 1)<|jQ m (bX (o:=.lt) u (dA bJ cI Z.bb4<|ja (jv 1) an) ji)<|jS<|mT<|tp<|B2 (t:=.str) qI Z.bb2 Z.bb3<|bG (jv 1) ji) (cc (bI m jb) c0) c0)<|cc (cO m (bX (o:=.eq) u (bG (jv 1) ji) js) (cc (bI m<|uR (B7 (o:=.eq) u (dA bJ cI Z.bb4<|ja (jv 1) an) ji)<|uR (bM (c 0)<|ja (bG (jv 1) ji) an)<|BS<|B7 (o:=.in_) u (bG (jv 1) ji)<|fL 0) c0) c0)<|cc (cO m (jR<|jQ m (bX (o:=.fP) u (bG (jv 1) ji)<|jg Z.gg19)<|jS<|bX (o:=.ne) u (dA bJ cI Z.bb4<|ja (jv 1) an)<|aW (op:=.add) ji<|bG (jg Z.gg19)<|bG (jv 1) ji) (cc (bI m jb) c0) c0)<|cc (bI m<|dA (mW hr.hd) uU Z.bb5<|ja (sR m (iv<|gH (jv 1) (os ji) on) qN λ_ _ _ _=>bM ((c 2).yA)<|ja (fL 1)<|ja (jv 0)<|ja (aW (op:=.sub) (fL 2) ji) an) an) c0
theorem Wa {k:Nat}:OZ P w K mg base k 3:=by kd_p;exact cc (cO m (bX (o:=.eq) u (bG (jv 0) ji) js) (cc (bI m<|jt m an) c0) c0)<|cc (bI m<|gH (jv 0) (os ji) on) c0
theorem Wz {k:Nat}:OZ P w K mg base k 4:=by kd_p;exact cc (sn (i:=1) m nd<|jl an)<|cc (sn (i:=2) m nd<|Uj Z.bb7 Z.bb8<|ja (jv 0) an)<|cc (sw m (tp<|jv 2)<|cc (sn (i:=3) m nd<|Uq (jv 2) )<|cc (cO m (jR<|PU m (bX (o:=.in_) u (bG (jv 3) ji)<|jg Z.gg20)<|jS<|bX (o:=.fP) u (jv 3)<|jv 1) (cc (sx m<|zQ (jv 1)<|ja (jv 3) an) c0) c0)<|cc (sx m<|QL (jv 2)<|ja (Uj Z.bb7 Z.bb8<|ja (bM (c 3)<|ja (jv 3) an) an) an) c0)<|cc (bI m<|jv 1) c0
theorem Vn {k:Nat}:OZ P w K mg base k 5:=by kd_p;exact cc (bI m<|uR (B2 (t:=.tuple) eJ Z.bb2 Z.bb6<|jv 0)<|BS<|Mt (o:=.le) (o':=.le) u (jv 1) (dA bJ cI Z.bb4<|ja (jv 0) an)<|jv 2) c0
theorem Vg {k:Nat}:OZ P w K mg base k 6:=by kd_p;exact cc (cO m (jR<|jQ m (mT<|tp<|bM (c 5)<|ja (jv 0)<|ja ji<|ja (jg Z.gg21) an)<|jS<|mT<|tp<|bM (c 5)<|ja (jv 1)<|ja ji<|ja (jg Z.gg21) an) (cc (bI m jb) c0) c0)<|cc (sn (i:=2) m nd<|aW (op:=.add) (jv 0)<|jv 1)<|cc (bI m<|uR (dA (mW hr.hd) uU Z.bb5<|ja (sR m (iv<|jv 2) qN λ_ _ _ _=>bM ((c 0).yA)<|ja (jv 0) an) an)<|BS<|B7 (o:=.eq) u (Yn Z.bb4 Z.bb9<|ja (jv 2) an)<|dA bJ cI Z.bb4<|ja (jv 2) an) c0
theorem Xk {k:Nat}:OZ P w K mg base k 7:=by kd_p;exact cc (bI m<|uR (bM (c 5)<|ja (jv 1)<|ja ji<|ja (jv 2) an)<|BS<|dA (mW hr.hd) uU Z.bb5<|ja (sR m (iv<|jv 1) qN λ_ _ _ _=>bM ((c 1).yA)<|ja (fL 1)<|ja (jv 0) an) an) c0
theorem Xj {k:Nat}:OZ P w K mg base k 8:=by kd_p;exact cc (cO m (bX (o:=.eq) u (bG (jv 1) ji) js) (cc (bI m jb) c0) c0)<|cc (cO m (bX (o:=.eq) u (bG (jv 1) ji) js) (cc (bI m<|B7 (o:=.in_) u (bG (jv 1) ji)<|fL 0) c0) c0)<|cc (bI m<|dA (IW hr.hd) TY Z.bb10<|ja (sR m (iv<|bM (c 3)<|ja (jv 1) an) qN λ_ _ _ _=>bM ((c 8).yA)<|ja (fL 1)<|ja (jv 0) an) an) c0
theorem Vf {k:Nat}:OZ P w K mg base k 9:=by kd_p;exact cc (bI m<|uR (bM (c 7)<|ja (jv 0)<|ja (jv 2)<|ja (jg Z.gg22) an)<|BS<|Ul<|dA (IW hr.hd) TY Z.bb10<|ja (sR m (iv<|jv 2) qN λ_ _ _ _=>bM ((c 8).yA)<|ja (fL 1)<|ja (jv 0) an) an) c0
theorem Qd {k:Nat}:OZ P w K mg base k 10:=by kd_p;exact cc (bI m<|uR (B2 (t:=.int) AL Z.bb2 Z.bb11<|jv 0)<|uR (Ul<|B2 (t:=.bool) Cu Z.bb2 Z.bb12<|jv 0)<|BS<|Mt (o:=.le) (o':=.le) u ji (jv 0)<|jg Z.gg23) c0
theorem Rw {k:Nat}:OZ P w K mg base k 11:=by kd_p;exact cc (bI m<|uR (bM (c 5)<|ja (jv 1)<|ja ji<|ja ji an)<|uR (bM (c 10)<|ja (bG (jv 1) ji) an)<|BS<|bM (c 1)<|ja (jv 0)<|ja (bG (jv 1) ji) an) c0
theorem Qz {k:Nat}:OZ P w K mg base k 12:=by kd_p;exact cc (bI m<|uR (bM (c 5)<|ja (jv 1)<|ja ji<|ja (jg Z.gg24) an)<|BS<|dA (mW hr.hd) uU Z.bb5<|ja (sR m (iv<|jv 1) qN λ_ _ _ _=>bM ((c 11).yA)<|ja (fL 1)<|ja (jv 0) an) an) c0
theorem Pr {k:Nat}:OZ P w K mg base k 13:=by kd_p;exact cc (bI m<|aW (op:=.add) (aW (op:=.add) (iL D7 FO Z.bb7<|ja (jv 0) an)<|iL D7 FO Z.bb7<|ja (jv 1) an)<|sR m (iv<|jv 2) qN λ_ _ _ _=>bG (jv 0) ji) c0
theorem Sn {k:Nat}:OZ P w K mg base k 14:=by kd_p;exact cc (cO m (jR<|jQ m (mT<|tp<|bM (c 5)<|ja (jv 0)<|ja ji<|ja ji an)<|jS<|mT<|tp<|bM (c 6)<|ja (bG (jv 0) ji)<|ja (bG (jv 0) ji) an) (cc (bI m jb) c0) c0)<|cc (sn (i:=1) m nd<|bG (jv 0) ji)<|cc (sn (i:=2) m nd<|aW (op:=.add) (bG (jv 0) ji)<|jv 1)<|cc (sn (i:=3) m nd<|bG (jv 0) ji)<|cc (sn (i:=4) m nd<|bG (jv 0) ji)<|cc (sn (i:=5) m nd<|bG (jv 0) ji)<|cc (cO m (jR<|jQ m (mT<|tp<|bM (c 9)<|ja (jv 2)<|ja (jv 1)<|ja (jv 3) an)<|jS<|mT<|tp<|bM (c 7)<|ja (jv 2)<|ja (jv 4)<|ja (jg Z.gg25) an) (cc (bI m jb) c0) c0)<|cc (bI m<|uR (bM (c 12)<|ja (jv 2)<|ja (jv 5) an)<|BS<|B7 (o:=.le) u (dA bJ cI Z.bb4<|ja (bM (c 4)<|ja (bM (c 13)<|ja (jv 3)<|ja (jv 4)<|ja (jv 5) an) an) an)<|jg Z.gg26) c0
theorem Sf {k:Nat}:OZ P w K mg base k 15:=by kd_p;exact cc (cO m (mT<|tp<|bM (c 14)<|ja (jv 0) an) (cc (Xo m) c0) c0)<|cc (bI m<|jv 0) c0
theorem Pw {k:Nat}:OZ P w K mg base k 16:=by kd_p;exact cc (sn (i:=1) m nd<|jl an)<|cc (sn (i:=2) m nd<|jl<|ja (jv 0) an)<|cc (sw m (tp<|jv 2)<|cc (sn (i:=3) m nd<|Uq (jv 2) )<|cc (cO m (tp<|B2 (t:=.str) qI Z.bb2 Z.bb3<|jv 3) (cc (sx m<|zQ (jv 1)<|ja (jv 3) an) c0)<|cc (cO m (bX (o:=.eq) u (bG (jv 3) ji) js) (cc (sx m<|zQ (jv 1)<|ja (bG (jv 3) ji) an) c0)<|cc (cO m (bX (o:=.eq) u (dA bJ cI Z.bb4<|ja (jv 3) an) ji) (cc (sx m<|zQ (jv 1)<|ja (bG (jv 3) ji) an) c0)<|cc (cO m (bX (o:=.eq) u (dA bJ cI Z.bb4<|ja (jv 3) an) ji) (cc (sx m<|QL (jv 2)<|ja (jl<|ja (bG (jv 3) ji)<|ja (aW (op:=.add) (bG (jv 3) ji) js) an) an) c0)<|cc (sx m<|QL (jv 2)<|ja (jl<|ja js<|ja (bG (jv 3) ji)<|ja (aW (op:=.add) (aW (op:=.add) js<|bG (jv 3) ji) js)<|ja (bG (jv 3) ji)<|ja js an) an) c0) c0) c0) c0) c0)<|cc (bI m<|IE js<|ja (jv 1) an) c0
theorem Ud {k:Nat}:OZ P w K mg base k 17:=by kd_p;exact cc (Az m (W "Reader") Z.cc29 Z.aa30 (jv 0)<|jv 1)<|cc (Az m (W "Reader") Z.cc29 Z.aa31 (jv 0) ji) c0
theorem Ts {k:Nat}:OZ P w K mg base k 18:=by kd_p;exact cc (cO m (mT<|tp<|Uk (xW (W "Reader") Z.cc29 Z.aa30<|jv 0)<|ja (jv 1)<|ja (xW (W "Reader") Z.cc29 Z.aa31<|jv 0) an) (cc (bI m jb) c0) c0)<|cc (Az m (W "Reader") Z.cc29 Z.aa31 (jv 0)<|aW (op:=.add) (xW (W "Reader") Z.cc29 Z.aa31<|jv 0) ji)<|cc (bI m jb) c0
theorem UO {k:Nat}{Cl:Addr}:OY P w K mg base Cl k 19:=by walk_at"kx";exact cc (cO m (mT<|tp<|Uo (mm:=W "goes_past") (cm 18 (W "Reader") rfl rfl) (jv 0)<|ja (jv 1) an) (cc (MV hE Y) c0) c0) c0
theorem Rj {k:Nat}:OZ P w K mg base k 20:=by kd_p;exact cc (sn (i:=1) m nd<|xW (W "Reader") Z.cc29 Z.aa31<|jv 0)<|cc (sw m (jR<|PU m (bX (o:=.lt) u (xW (W "Reader") Z.cc29 Z.aa31<|jv 0)<|dA bJ cI Z.bb4<|ja (xW (W "Reader") Z.cc29 Z.aa30<|jv 0) an)<|jS<|bX (o:=.in_) u (bG (xW (W "Reader") Z.cc29 Z.aa30<|jv 0)<|xW (W "Reader") Z.cc29 Z.aa31<|jv 0)<|jg Z.gg17)<|cc (Az m (W "Reader") Z.cc29 Z.aa31 (jv 0)<|aW (op:=.add) (xW (W "Reader") Z.cc29 Z.aa31<|jv 0) ji) c0)<|cc (bI m<|gH (xW (W "Reader") Z.cc29 Z.aa30<|jv 0) (os<|jv 1)<|os<|xW (W "Reader") Z.cc29 Z.aa31<|jv 0) c0
theorem WH {k:Nat}{Cl:Addr}:OY P w K mg base Cl k 21:=by walk_at"kx";exact cc (sn (i:=2) m nd<|qL (cx 22 rfl rfl rfl)<|ja (jv 0)<|ja (jv 1) an)<|cc (sx m<|QY (mm:=W "needs") (cmx 19 (W "Reader") rfl rfl rfl) (jv 0)<|ja js an)<|cc (sn (i:=3) m nd<|Ld (mm:=W "word_here") (cm 20 (W "Reader") rfl rfl)<|jv 0)<|cc (sx m<|QY (mm:=W "needs") (cmx 19 (W "Reader") rfl rfl rfl) (jv 0)<|ja js an)<|cc (sn (i:=4) m nd<|qL (cx 22 rfl rfl rfl)<|ja (jv 0)<|ja (jv 1) an)<|cc (sx m<|QY (mm:=W "needs") (cmx 19 (W "Reader") rfl rfl rfl) (jv 0)<|ja js an)<|cc (bI m<|jt m<|ja (jv 3)<|ja (jv 2)<|ja (jv 4) an) c0
theorem VI {k:Nat}{Cl:Addr}:OY P w K mg base Cl k 22:=by walk_at"kx";exact cc (cO m (bX (o:=.lt) u (jv 1) ji) (cc (MV hE Y) c0) c0)<|cc (cO m (tp<|Uo (mm:=W "goes_past") (cm 18 (W "Reader") rfl rfl) (jv 0)<|ja js an) (cc (bI m<|qL (cx 21 rfl rfl rfl)<|ja (jv 0)<|ja (aW (op:=.sub) (jv 1) ji) an) c0) c0)<|cc (sn (i:=2) m nd<|Ld (mm:=W "word_here") (cm 20 (W "Reader") rfl rfl)<|jv 0)<|cc (cO m (bX (o:=.eq) u (Uv (jg Z.gg19)<|ja (jv 2) an) ji) (cc (bI m<|jt m<|ja (jv 2) an) c0) c0)<|cc (cO m (bX (o:=.eq) u (Uv (jg Z.gg19)<|ja (jv 2) an) ji) (cc (sx m<|QY (mm:=W "needs") (cmx 19 (W "Reader") rfl rfl rfl) (jv 0)<|ja js an)<|cc (bI m<|jt m<|ja (jv 2)<|ja (qL (cx 22 rfl rfl rfl)<|ja (jv 0)<|ja (aW (op:=.sub) (jv 1) ji) an) an) c0) c0)<|cc (bI m<|jt m<|ja js<|ja (jv 2) an) c0
theorem UB {k:Nat}{Cl:Addr}:OY P w K mg base Cl k 23:=by walk_at"kx";exact cc (sn (i:=1) m nd<|Yc (ck 17 (W "Reader") rfl rfl)<|ja (jv 0) an)<|cc (sn (i:=2) m nd<|qL (cx 22 rfl rfl rfl)<|ja (jv 1)<|ja (jg Z.gg18) an)<|cc (cO m (bX (o:=.lt) u (xW (W "Reader") Z.cc29 Z.aa31<|jv 1)<|dA bJ cI Z.bb4<|ja (jv 0) an) (cc (MV hE Y) c0) c0)<|cc (bI m<|jv 2) c0
theorem TN {k:Nat}{Cl:Addr}:OY P w K mg base Cl k 24:=by walk_at"kx";exact cc (cO m (mT<|tp<|B2 (t:=.str) qI Z.bb2 Z.bb3<|jv 0) (cc (MV hE Y) c0) c0)<|cc (bI m<|jv 0) c0
theorem Tj {k:Nat}:OZ P w K mg base k 25:=by kd_p;exact cc (bI m<|IE js<|ja (sR m (iv<|jv 0) qN λ_ _ _ _=>aW (op:=.add) (jv 0) js) an) c0
theorem WW {k:Nat}{Cl:Addr}:OY P w K mg base Cl k 26:=by walk_at"kx";exact cc (cO m (mT<|tp<|Xu (qL (cx 24 rfl rfl rfl)<|ja (jv 0) an)<|ja js an) (cc (MV hE Y) c0) c0)<|cc (bI m<|LB (gH (jv 0) on<|os<|Br ji)<|ja js an) c0
theorem U1 {k:Nat}{Cl:Addr}:OY P w K mg base Cl k 27:=by walk_at"kx";exact cc (cO m (jR<|jQ m (mT<|Yl (o:=.le) (o':=.le) u ji (dA bJ cI Z.bb4<|ja (jv 0) an)<|jg Z.gg27)<|jS<|mT<|tp<|dA (mW hr.hd) uU Z.bb5<|ja (Cb m (KH hE) (own:=["sign"]) (cn:=[]) (bH:=[]) (one:=true) JR (iv<|jv 0) λ_ _ _ _ _=>b1<|gn<|show(["sign"]:List Str).Nodup by x_go (λ_ _ _ _ _=>qn) λ_ _ _ _ _ hx=>B7 (o:=.in_) u (jv 0)<|jg Z.gg28) an) (cc (MV hE Y) c0) c0)<|cc (bI m<|iL tM AL Z.bb11<|ja (jv 0) an) c0
theorem Sg {k:Nat}:OZ P w K mg base k 28:=by kd_p;exact cc (sn (i:=1) m nd<|jl<|ja (IE js<|ja (aW (op:=.add) (jt m<|ja js an)<|bG (jv 0) ji) an)<|ja (IE js<|ja (aW (op:=.add) (jt m<|ja js an)<|bG (jv 0) ji) an) an)<|cc (sx m<|QL (jv 1)<|ja (sR m (iv<|bG (jv 0) ji) qN λ_ _ _ _=>aW (op:=.add) js<|bM ((c 16).yA)<|ja (jv 0) an) an)<|cc (sx m<|QL (jv 1)<|ja (sR m (iv<|bG (jv 0) ji) qN λ_ _ _ _=>aW (op:=.add) js<|bM ((c 16).yA)<|ja (jv 0) an) an)<|cc (sx m<|QL (jv 1)<|ja (Uu m (own:=["price","saying"]) (cn:=[]) (bH:=[]) (one:=false) JR (iv<|bG (jv 0) ji) (λ_ _ _ _=>bt<|gc (gn (i:=0)<|show(["price","saying"]:List Str).Nodup by x_go)<|gc (gn (i:=1)<|show(["price","saying"]:List Str).Nodup by x_go) nn) (λ_ _ _ _=>qn) λ_ _ _ _=>aW (op:=.add) (aW (op:=.add) (aW (op:=.add) js<|iL JF qI Z.bb3<|ja (jv 0) an) js)<|bM ((c 16).yA)<|ja (jv 1) an) an)<|cc (bI m<|bM (c 25)<|ja (jv 1) an) c0
theorem So {k:Nat}:OZ P w K mg base k 29:=by kd_p;exact cc (bI m<|bM (c 28)<|ja (bM (c 15)<|ja (jv 0) an) an) c0
theorem Sb {k:Nat}:OZ P w K mg base k 30:=by kd_p;exact cc (bI m<|sR m (iv<|jv 1) (λ_ _ _ _=>qc (tp<|Uk (jv 0)<|ja (aW (op:=.add) (fL 1) js) an) qn) λ_ _ _ _=>gH (jv 0) (os<|aW (op:=.add) (dA bJ cI Z.bb4<|ja (fL 1) an) ji) on) c0
theorem Tr {k:Nat}:OZ P w K mg base k 31:=by kd_p;exact cc (bI m<|iL dC eJ Z.bb6<|ja (LB (IE js<|ja (bM (c 30)<|ja (jv 0)<|ja (jv 1) an) an)<|ja js an) an) c0
theorem XC {k:Nat}{Cl:Addr}:OY P w K mg base Cl k 32:=by walk_at"kx";exact cc (sn (i:=1) m nd<|Xv (jv 0)<|ja js an)<|cc (bI m<|jt m<|ja (qL (cx 27 rfl rfl rfl)<|ja (bG (jv 1) ji) an)<|ja (qL (cx 23 rfl rfl rfl)<|ja (bG (jv 1) ji) an) an) c0
theorem W5 {k:Nat}{Cl:Addr}:OY P w K mg base Cl k 33:=by walk_at"kx";exact cc (sn (i:=1) m nd<|qL (cx 26 rfl rfl rfl)<|ja (jv 0) an)<|cc (sn (i:=2) m nd<|iL dC eJ Z.bb6<|ja (Cb m (KH hE) (own:=["part"]) (cn:=[]) (bH:=[]) (one:=true) JR (iv<|bM (c 30)<|ja js<|ja (jv 1) an) λ_ _ _ _ _=>b1<|gn<|show(["part"]:List Str).Nodup by x_go (λ_ _ _ _ _=>qn) λ_ _ _ _ _ hx=>qL (wQ T IX rfl rfl rfl rfl rfl hr hx 23 rfl rfl rfl)<|ja (jv 0) an) an)<|cc (sn (i:=3) m nd<|iL dC eJ Z.bb6<|ja (Cb m (KH hE) (own:=["part"]) (cn:=[]) (bH:=[]) (one:=true) JR (iv<|bM (c 30)<|ja js<|ja (jv 1) an) λ_ _ _ _ _=>b1<|gn<|show(["part"]:List Str).Nodup by x_go (λ_ _ _ _ _=>qn) λ_ _ _ _ _ hx=>qL (wQ T IX rfl rfl rfl rfl rfl hr hx 23 rfl rfl rfl)<|ja (jv 0) an) an)<|cc (sn (i:=4) m nd<|iL dC eJ Z.bb6<|ja (Cb m (KH hE) (own:=["part"]) (cn:=[]) (bH:=[]) (one:=true) JR (iv<|bM (c 30)<|ja js<|ja (jv 1) an) λ_ _ _ _ _=>b1<|gn<|show(["part"]:List Str).Nodup by x_go (λ_ _ _ _ _=>qn) λ_ _ _ _ _ hx=>qL (wQ T IX rfl rfl rfl rfl rfl hr hx 32 rfl rfl rfl)<|ja (jv 0) an) an)<|cc (sn (i:=5) m nd<|jt m<|ja (bM (c 31)<|ja js<|ja (jv 1) an)<|ja (bM (c 31)<|ja js<|ja (jv 1) an)<|ja (jv 2)<|ja (jv 3)<|ja (jv 4) an)<|cc (cO m (jR<|jQ m (mT<|tp<|bM (c 14)<|ja (jv 5) an)<|jS<|bX (o:=.ne) u (bM (c 28)<|ja (jv 5) an)<|jv 0) (cc (MV hE Y) c0) c0)<|cc (bI m<|jv 5) c0
theorem Qj {k:Nat}:OZ P w K mg base k 34:=by kd_p;exact cc (cO m (bX (o:=.lt) u (jv 1)<|dA bJ cI Z.bb4<|ja (jv 0) an) (cc (bI m<|bG (jv 0)<|jv 1) c0) c0)<|cc (cO m (bX (o:=.eq) u (jv 0)<|jl an) (cc (bI m ji) c0) c0)<|cc (bI m<|aW (op:=.add) (aW (op:=.mul) (bG (jv 0)<|aW (op:=.mod) (jv 1)<|dA bJ cI Z.bb4<|ja (jv 0) an) ji)<|jv 1) c0
theorem Pu {k:Nat}:OZ P w K mg base k 35:=by kd_p;exact cc (sn (i:=3) m nd<|aW (op:=.mod) (aW (op:=.mul) (aW (op:=.add) (aW (op:=.add) (bM (c 34)<|ja (jv 0)<|ja (jv 1) an)<|aW (op:=.mul) ji<|jv 1) ji) ji) ji)<|cc (bI m<|aW (op:=.mod) (aW (op:=.mod) (aW (op:=.add) (aW (op:=.add) (aW (op:=.mul) (jv 3)<|jv 3)<|aW (op:=.mul) ji<|jv 3)<|jv 1) ji)<|jv 2) c0
theorem Rc {k:Nat}:OZ P w K mg base k 36:=by kd_p;exact cc (sg m (aW (op:=.add) (bG (jv 1) ji) ji)<|gi (jv 1) ji)<|cc (bI m<|bM (c 35)<|ja (jv 0)<|ja (bG (jv 1) ji)<|ja (jv 2) an) c0
theorem Pq {k:Nat}:OZ P w K mg base k 37:=by kd_p;exact cc (sn (i:=2) m nd<|jl<|ja js<|ja js<|ja js<|ja js<|ja js<|ja js<|ja js<|ja js an)<|cc (sn (i:=3) m nd<|bM (c 36)<|ja (jv 0)<|ja (jv 1)<|ja ji an)<|cc (sn (i:=4) m nd<|aW (op:=.add) (gH (jv 2) (os<|jv 3) on)<|gH (jv 2) on<|os<|jv 3)<|cc (sn (i:=5) m nd<|aW (op:=.add) ji<|bM (c 36)<|ja (jv 0)<|ja (jv 1)<|ja ji an)<|cc (sn (i:=6) m nd<|aW (op:=.add) ji<|bM (c 36)<|ja (jv 0)<|ja (jv 1)<|ja ji an)<|cc (bI m<|jt m<|ja (iL dC eJ Z.bb6<|ja (gH (jv 4) on<|os<|jv 5) an)<|ja (iL dC eJ Z.bb6<|ja (gH (jv 4) (os<|jv 5)<|os<|aW (op:=.add) (jv 5)<|jv 6) an) an) c0
theorem Tq {k:Nat}:OZ P w K mg base k 38:=by kd_p;exact cc (sn (i:=5) m nd<|bM (c 36)<|ja (jv 0)<|ja (jv 1)<|ja ji an)<|cc (cO m (jR<|jQ m (bX (o:=.eq) u (jv 3) ji)<|jS<|bX (o:=.lt) u (jv 5) ji) (cc (bI m<|jt m<|ja js<|ja (bG (jv 2)<|bM (c 36)<|ja (jv 0)<|ja (jv 1)<|ja (dA bJ cI Z.bb4<|ja (jv 2) an) an) an) c0) c0)<|cc (cO m (bX (o:=.eq) u (jv 5) ji) (cc (bI m<|jt m<|ja (bG (jl<|ja js<|ja js an)<|bM (c 36)<|ja (jv 0)<|ja (jv 1)<|ja ji an) an) c0) c0)<|cc (cO m (jR<|PU m (bX (o:=.gt) u (jv 5) ji)<|jS<|bX (o:=.gt) u (bG (jv 4) ji) ji) (cc (sg m (aW (op:=.sub) (bG (jv 4) ji) ji)<|gi (jv 4) ji)<|cc (sn (i:=6) m nd<|bM (c 38)<|ja (jv 0)<|ja (jv 1)<|ja (jv 2)<|ja (aW (op:=.sub) (jv 3) ji)<|ja (jv 4) an)<|cc (cO m (bX (o:=.eq) u (jv 5) ji) (cc (bI m<|jt m<|ja js<|ja (jv 6)<|ja (bM (c 38)<|ja (jv 0)<|ja (jv 1)<|ja (jv 2)<|ja (aW (op:=.sub) (jv 3) ji)<|ja (jv 4) an) an) c0) c0)<|cc (bI m<|jt m<|ja (bG (jl<|ja js<|ja js<|ja js an)<|aW (op:=.sub) (jv 5) ji)<|ja (jv 6) an) c0) c0)<|cc (sn (i:=6) m nd<|bM (c 38)<|ja (jv 0)<|ja (jv 1)<|ja (jv 2)<|ja (aW (op:=.sub) (jv 3) ji)<|ja (jv 4) an)<|cc (cO m (jR<|jQ m (bX (o:=.eq) u (jv 5) ji)<|jS<|bX (o:=.gt) u (jv 5) ji) (cc (bI m<|jt m<|ja js<|ja (jv 6) an) c0) c0)<|cc (bI m<|jt m<|ja (bG (jl<|ja js<|ja js<|ja js<|ja js an)<|aW (op:=.sub) (jv 5) ji)<|ja (jv 6)<|ja (bM (c 38)<|ja (jv 0)<|ja (jv 1)<|ja (jv 2)<|ja (aW (op:=.sub) (jv 3) ji)<|ja (jv 4) an) an) c0
theorem Qh {k:Nat}:OZ P w K mg base k 39:=by kd_p;exact cc (sn (i:=5) m nd<|bM (c 38)<|ja (jv 0)<|ja (jv 1)<|ja (jv 2)<|ja ji<|ja (jl<|ja ji an) an)<|cc (cO m (jR<|PU m (bX (o:=.gt) u (bG (jv 4) ji) ji)<|jS<|bX (o:=.eq) u (bM (c 36)<|ja (jv 0)<|ja (jv 1)<|ja ji an) ji) (cc (sg m (aW (op:=.sub) (bG (jv 4) ji) ji)<|gi (jv 4) ji)<|cc (sn (i:=6) m nd<|bM (c 38)<|ja (jv 0)<|ja (jv 1)<|ja (jv 3)<|ja ji<|ja (jl<|ja ji an) an)<|cc (bI m<|jt m<|ja (bG (jl<|ja js<|ja js<|ja js an)<|bM (c 36)<|ja (jv 0)<|ja (jv 1)<|ja ji an)<|ja (jt m<|ja js<|ja (jv 6) an)<|ja (jv 5) an) c0) c0)<|cc (bI m<|jv 5) c0
theorem Qv {k:Nat}:OZ P w K mg base k 40:=by kd_p;exact cc (Ja (i:=4) m nd<|jl<|ja (jv 1) an)<|cc (sg m (bM (c 37)<|ja (fL 0)<|ja (fL 4) an)<|gt<|gc (Yk (i:=5) nd)<|gc (gn (i:=6) nd) nn)<|cc (Ja (i:=7) m nd<|aW (op:=.add) (fL 5)<|jv 6)<|cc (Ja (i:=8) m nd<|jl<|ja (bM (c 36)<|ja (fL 0)<|ja (fL 4)<|ja (aW (op:=.add) (jv 2) ji) an) an)<|cc (sn (i:=9) m nd<|jl an)<|cc (Af (i:=10) m nd (Iw m Z.bb13<|ja (aW (op:=.add) ji<|bM (c 36)<|ja (fL 0)<|ja (fL 4)<|ja ji an) an)<|cc (sn (i:=11) m nd<|aW (op:=.add) ji<|bM (c 36)<|ja (fL 0)<|ja (fL 4)<|ja (bG (jl<|ja ji<|ja ji<|ja ji an)<|bM (c 36)<|ja (fL 0)<|ja (fL 4)<|ja ji an) an)<|cc (sx m<|zQ (jv 9)<|ja (jt m<|ja (jv 11)<|ja (bM (c 38)<|ja (fL 0)<|ja (fL 4)<|ja (fL 7)<|ja ji<|ja (fL 8) an) an) an) c0)<|cc (Uh (i:=12) m nd (own:=["_law_k"]) (cn:=["_law_script","_law_m","_law_names_here","_law_left"]) (bH:=[0,4,7,8]) (one:=true) JR (Iw m Z.bb13<|ja (bM (c 36)<|ja (fL 0)<|ja (fL 4)<|ja (aW (op:=.add) (jv 3) ji) an) an) λ_ _ _ _=>b1<|gn<|show(["_law_k","_law_script","_law_m","_law_names_here","_law_left"]:List Str).Nodup by x_go (λ_ _ _ _=>qn) λ_ _ _ _=>bM ((c 38).yA)<|ja (fL 1)<|ja (fL 2)<|ja (fL 3)<|ja ji<|ja (fL 4) an)<|cc (Uh (i:=13) m nd (own:=["_law_k"]) (cn:=["_law_script","_law_m","_law_foe","_law_names_here","_law_left"]) (bH:=[0,4,5,7,8]) (one:=true) JR (Iw m Z.bb13<|ja (bM (c 36)<|ja (fL 0)<|ja (fL 4)<|ja ji an) an) λ_ _ _ _=>b1<|gn<|show(["_law_k","_law_script","_law_m","_law_foe","_law_names_here","_law_left"]:List Str).Nodup by x_go (λ_ _ _ _=>qn) λ_ _ _ _=>bM ((c 39).yA)<|ja (fL 1)<|ja (fL 2)<|ja (fL 3)<|ja (fL 4)<|ja (fL 5) an)<|cc (bI m<|jt m<|ja (fL 5)<|ja (jv 6)<|ja (iL dC eJ Z.bb6<|ja (jv 13) an)<|ja (iL dC eJ Z.bb6<|ja (jv 12) an)<|ja (iL dC eJ Z.bb6<|ja (jv 9) an) an) c0
theorem Ss {k:Nat}:OZ P w K mg base k 41:=by kd_p;exact cc (sn (i:=2) m nd<|jv 1)<|cc (sw m (jR<|PU m (bX (o:=.lt) u (jv 2)<|dA bJ cI Z.bb4<|ja (jv 0) an)<|jS<|bX (o:=.in_) u (bG (jv 0)<|jv 2) js)<|cc (sn (i:=2) m nd<|aW (op:=.add) (jv 2) ji) c0)<|cc (bI m<|gH (jv 0) (os<|jv 1)<|os<|jv 2) c0
theorem Tp {k:Nat}:OZ P w K mg base k 42:=by kd_p;exact cc (cO m (bX (o:=.eq) u (gH (jv 0) (os<|jv 1)<|os<|aW (op:=.add) (jv 1) ji) js) (cc (sn (i:=3) m nd<|bM (c 42)<|ja (jv 0)<|ja (aW (op:=.add) (jv 1) ji)<|ja (jv 2) an)<|cc (cO m (jR<|jQ m (bX (o:=.is_) u (jv 3) jn)<|jS<|bX (o:=.ne) u (gH (jv 0) (os<|bG (jv 3) ji)<|os<|aW (op:=.add) (bG (jv 3) ji) ji) js) (cc (bI m jn) c0) c0)<|cc (sn (i:=4) m nd<|bM (c 41)<|ja (jv 0)<|ja (aW (op:=.add) (bG (jv 3) ji) ji) an)<|cc (sn (i:=5) m nd<|aW (op:=.add) (aW (op:=.add) (bG (jv 3) ji) ji)<|dA bJ cI Z.bb4<|ja (jv 4) an)<|cc (cO m (jR<|jQ m (bX (o:=.fP) u (jv 4)<|jt m<|ja js<|ja js<|ja js<|ja js<|ja js an)<|jS<|bX (o:=.ne) u (gH (jv 0) (os<|jv 5)<|os<|aW (op:=.add) (jv 5) ji) js) (cc (bI m jn) c0) c0)<|cc (sn (i:=6) m nd<|bM (c 42)<|ja (jv 0)<|ja (aW (op:=.add) (jv 5) ji)<|ja (jv 2) an)<|cc (cO m (jR<|jQ m (bX (o:=.is_) u (jv 6) jn)<|jS<|bX (o:=.ne) u (gH (jv 0) (os<|bG (jv 6) ji)<|os<|aW (op:=.add) (bG (jv 6) ji) ji) js) (cc (bI m jn) c0) c0)<|cc (bI m<|jt m<|ja (jt m<|ja (jv 4)<|ja (bG (jv 3) ji)<|ja (bG (jv 6) ji) an)<|ja (aW (op:=.add) (bG (jv 6) ji) ji) an) c0) c0)<|cc (sn (i:=4) m nd<|bM (c 41)<|ja (jv 0)<|ja (jv 1) an)<|cc (cO m (jR<|PU m (bX (o:=.in_) u (jv 4)<|jt m<|ja js<|ja js<|ja js<|ja js an)<|jS<|bX (o:=.eq) u (gH (jv 0) (os<|aW (op:=.add) (jv 1)<|dA bJ cI Z.bb4<|ja (jv 4) an)<|os<|aW (op:=.add) (aW (op:=.add) (jv 1)<|dA bJ cI Z.bb4<|ja (jv 4) an) ji) js) (cc (sn (i:=3) m nd<|bM (c 42)<|ja (jv 0)<|ja (aW (op:=.add) (aW (op:=.add) (jv 1)<|dA bJ cI Z.bb4<|ja (jv 4) an) ji)<|ja (jv 2) an)<|cc (cO m (bX (o:=.is_) u (jv 3) jn) (cc (bI m jn) c0) c0)<|cc (bI m<|jt m<|ja (jt m<|ja (jv 4)<|ja (bG (jv 3) ji) an)<|ja (bG (jv 3) ji) an) c0) c0)<|cc (cO m (jR<|jQ m (bX (o:=.eq) u (jv 4) js)<|jS<|bX (o:=.eq) u (jv 4) js) (cc (bI m<|jt m<|ja (jt m<|ja (jv 4) an)<|ja (aW (op:=.add) (jv 1)<|dA bJ cI Z.bb4<|ja (jv 4) an) an) c0) c0)<|cc (cO m (bX (o:=.fP) u (jv 4)<|jv 2) (cc (bI m jn) c0) c0)<|cc (bI m<|jt m<|ja (jt m<|ja js<|ja (jv 4) an)<|ja (aW (op:=.add) (jv 1)<|dA bJ cI Z.bb4<|ja (jv 4) an) an) c0
theorem Sh {k:Nat}:OZ P w K mg base k 43:=by kd_p;exact cc (cO m (bX (o:=.in_) u (bG (jv 0) ji)<|jt m<|ja js<|ja js<|ja js an) (cc (bI m ji) c0) c0)<|cc (bI m<|aW (op:=.add) ji<|dA (WZ hr.hd rfl) Ou Z.bb14<|ja (sR m (iv<|gH (jv 0) (os ji) on) qN λ_ _ _ _=>bM ((c 43).yA)<|ja (jv 0) an) an) c0
theorem Ql {k:Nat}:OZ P w K mg base k 44:=by kd_p;exact cc (sn (i:=2) m nd<|bM (c 42)<|ja (jv 0)<|ja ji<|ja (jv 1) an)<|cc (cO m (jR<|jQ m (bX (o:=.is_) u (jv 2) jn)<|jQ m (bX (o:=.ne) u (bG (jv 2) ji)<|dA bJ cI Z.bb4<|ja (jv 0) an)<|jS<|bX (o:=.gt) u (bM (c 43)<|ja (bG (jv 2) ji) an) ji) (cc (bI m jn) c0) c0)<|cc (bI m<|bG (jv 2) ji) c0
theorem Pk {k:Nat}:OZ P w K mg base k 45:=by kd_p;exact cc (cO m (bX (o:=.eq) u (bG (jv 0) ji) js) (cc (bI m<|bG (jv 0) ji) c0) c0)<|cc (cO m (bX (o:=.eq) u (dA bJ cI Z.bb4<|ja (jv 0) an) ji) (cc (bI m<|bG (jv 0) ji) c0) c0)<|cc (cO m (bX (o:=.eq) u (dA bJ cI Z.bb4<|ja (jv 0) an) ji) (cc (bI m<|aW (op:=.add) (aW (op:=.add) (bG (jv 0) ji) js)<|bM (c 45)<|ja (bG (jv 0) ji) an) c0) c0)<|cc (bI m<|aW (op:=.add) (aW (op:=.add) (aW (op:=.add) (aW (op:=.add) (aW (op:=.add) (aW (op:=.add) js<|bM (c 45)<|ja (bG (jv 0) ji) an) js)<|bG (jv 0) ji) js)<|bM (c 45)<|ja (bG (jv 0) ji) an) js) c0
theorem Tb {k:Nat}:OZ P w K mg base k 46:=by kd_p;exact cc (sn (i:=1) m nd<|jl<|ja (aW (op:=.add) js<|IE js<|ja (bG (jv 0) ji) an)<|ja (aW (op:=.add) js<|IE js<|ja (bG (jv 0) ji) an) an)<|cc (Af (i:=2) m nd (iv<|bG (jv 0) ji)<|cc (sx m<|zQ (jv 1)<|ja (aW (op:=.add) js<|bM (c 45)<|ja (jv 2) an) an) c0)<|cc (Af (i:=2) m nd (iv<|bG (jv 0) ji)<|cc (sx m<|zQ (jv 1)<|ja (aW (op:=.add) js<|bM (c 45)<|ja (jv 2) an) an) c0)<|cc (sf m (iv<|bG (jv 0) ji) (gt<|gc (gn (i:=3) nd)<|gc (gn (i:=2) nd) nn)<|cc (sx m<|zQ (jv 1)<|ja (aW (op:=.add) (aW (op:=.add) (aW (op:=.add) js<|iL JF qI Z.bb3<|ja (jv 3) an) js)<|bM (c 45)<|ja (jv 2) an) an) c0)<|cc (bI m<|IE js<|ja (sR m (iv<|jv 1) qN λ_ _ _ _=>aW (op:=.add) (jv 0) js) an) c0
theorem Qx {k:Nat}:OZ P w K mg base k 47:=by kd_p;exact cc (sn (i:=3) m nd<|aW (op:=.mod) (jv 1)<|aW (op:=.add) (dA bJ cI Z.bb4<|ja (jv 0) an) ji)<|cc (sn (i:=4) m nd<|bG js<|aW (op:=.mod) (aW (op:=.fdiv) (jv 1) ji) ji)<|cc (sn (i:=5) m nd<|aW (op:=.mod) (aW (op:=.fdiv) (jv 1) ji) ji)<|cc (cO m (bX (o:=.eq) u (jv 5) ji) (cc (bI m<|aW (op:=.add) (aW (op:=.add) (gH (jv 0) on<|os<|jv 3)<|jv 4)<|gH (jv 0) (os<|jv 3) on) c0) c0)<|cc (cO m (bX (o:=.eq) u (jv 5) ji) (cc (bI m<|aW (op:=.add) (gH (jv 0) on<|os<|jv 3)<|gH (jv 0) (os<|aW (op:=.add) (jv 3) ji) on) c0) c0)<|cc (cO m (bX (o:=.eq) u (jv 5) ji) (cc (bI m<|aW (op:=.add) (aW (op:=.add) (gH (jv 0) on<|os<|jv 3)<|jv 4)<|gH (jv 0) (os<|aW (op:=.add) (jv 3) ji) on) c0) c0)<|cc (cO m (bX (o:=.eq) u (jv 5) ji) (cc (sn (i:=6) m nd<|aW (op:=.add) (jv 3)<|aW (op:=.mod) (aW (op:=.fdiv) (jv 1) ji) ji)<|cc (bI m<|aW (op:=.add) (gH (jv 0) on<|os<|jv 3)<|gH (jv 0) (os<|jv 6) on) c0) c0)<|cc (cO m (bX (o:=.eq) u (jv 5) ji) (cc (bI m<|bG (jl<|ja (aW (op:=.add) (jv 0)<|jv 0)<|ja (aW (op:=.add) (gH (jv 0) (os<|jv 3) on)<|gH (jv 0) on<|os<|jv 3)<|ja (aW (op:=.add) js<|jv 0)<|ja (aW (op:=.add) (jv 0) js) an)<|aW (op:=.mod) (jv 1) ji) c0) c0)<|cc (bI m<|bG (aW (op:=.add) (jv 2)<|jl<|ja jn<|ja ji<|ja (jl<|ja (jv 0) an)<|ja js an)<|aW (op:=.mod) (jv 1)<|aW (op:=.add) (dA bJ cI Z.bb4<|ja (jv 2) an) ji) c0
theorem Qt {k:Nat}:OZ P w K mg base k 48:=by kd_p;exact cc (sn (i:=2) m nd<|bG (LB (jv 0)<|ja js an) ji)<|cc (cO m (jR<|jQ m (bX (o:=.eq) u (jv 2) js)<|jQ m (bX (o:=.gt) u (dA bJ cI Z.bb4<|ja (jv 2) an) ji)<|jS<|bX (o:=.ne) u (sR m (iv<|jv 2) (λ_ _ _ _=>qc (bX (o:=.fP) u (jv 0) js) qn) λ_ _ _ _=>jv 0)<|jl an) (cc (bI m jn) c0) c0)<|cc (sn (i:=3) m nd<|bM (c 44)<|ja (gH (jv 0) (os<|aW (op:=.add) (dA bJ cI Z.bb4<|ja (jv 2) an) ji) on)<|ja (jv 1) an)<|cc (cO m (jR<|jQ m (bX (o:=.is_) u (jv 3) jn)<|jS<|bX (o:=.eq) u (bG (jv 2) ji) js) (cc (bI m jn) c0) c0)<|cc (bI m<|jt m<|ja (iL tM AL Z.bb11<|ja (jv 2) an)<|ja (jv 3) an) c0
theorem Ri {k:Nat}:OZ P w K mg base k 49:=by kd_p;exact cc (sn (i:=2) m nd<|jl<|ja (jl an)<|ja (jl an)<|ja (jl an) an)<|cc (Af (i:=3) m nd (iv<|jv 0)<|cc (sn (i:=4) m nd<|bG (LB (jv 3)<|ja js an) ji)<|cc (cO m (bX (o:=.fP) u (jv 4)<|jt m<|ja js<|ja js<|ja js an) (cc (bI m jn) c0) c0)<|cc (sn (i:=5) m nd<|gH (jv 3) (os<|aW (op:=.add) (dA bJ cI Z.bb4<|ja (jv 4) an) ji) on)<|cc (cO m (bX (o:=.eq) u (jv 4) js) (cc (sx m<|zQ (bG (jv 2) ji)<|ja (bM (c 48)<|ja (jv 5)<|ja (jv 1) an) an) c0)<|cc (sx m<|zQ (bG (jv 2)<|iL tM AL Z.bb11<|ja (B7 (o:=.eq) u (jv 4) js) an)<|ja (bM (c 44)<|ja (jv 5)<|ja (jv 1) an) an) c0) c0)<|cc (cO m (bX (o:=.in_) u jn<|aW (op:=.add) (aW (op:=.add) (bG (jv 2) ji)<|bG (jv 2) ji)<|bG (jv 2) ji) (cc (bI m jn) c0) c0)<|cc (bI m<|jv 2) c0
theorem Qc {k:Nat}:OZ P w K mg base k 50:=by kd_p;obtain⟨Clb,Yb⟩:=Z.xx0;exact cc (cO m (jR<|jQ m (mT<|tp<|B2 (t:=.str) qI Z.bb2 Z.bb3<|jv 0)<|jS<|bX (o:=.ne) u (gH (jv 0) (os<|Br ji) on) js) (cc (bI m jn) c0) c0)<|cc (sn (i:=1) m nd<|LB (gH (jv 0) on<|os<|Br ji)<|ja js an)<|cc (cO m (jR<|jQ m (bX (o:=.lt) u (dA bJ cI Z.bb4<|ja (jv 1) an) ji)<|jQ m (bX (o:=.ne) u (gH (bG (jv 1) ji) on<|os ji) js)<|jS<|bX (o:=.ne) u (gH (bG (jv 1) ji) on<|os ji) js) (cc (bI m jn) c0) c0)<|cc (sn (i:=2) m nd<|iL dC eJ Z.bb6<|ja (LB (gH (bG (jv 1) ji) (os ji) on)<|ja js an) an)<|cc (sn (i:=3) m nd<|iL dC eJ Z.bb6<|ja (LB (gH (bG (jv 1) ji) (os ji) on)<|ja js an) an)<|cc (sn (i:=4) m nd<|bM (c 49)<|ja (gH (jv 1) (os ji) on)<|ja (aW (op:=.add) (jv 2)<|jv 3) an)<|cc (cO m (bX (o:=.is_) u (jv 4) jn) (cc (bI m jn) c0) c0)<|cc (sn (i:=5) m nd<|jt m<|ja (jv 2)<|ja (jv 3)<|ja (iL dC eJ Z.bb6<|ja (bG (jv 4) ji) an)<|ja (iL dC eJ Z.bb6<|ja (bG (jv 4) ji) an)<|ja (iL dC eJ Z.bb6<|ja (bG (jv 4) ji) an) an)<|cc (Ma (λ_ _ z=>z) rfl rfl (Xl T IH Yb) (hr.mono<|by lia) (tN<|by z_go) (T.mg 15<|by cbv) (T.fn 15<|by cbv).kp (T.bi 15<|by cbv) (λ_=>(ja (jv 5) an).h) Yb (tN<|by z_go) (by cbv) (by cbv) rfl rfl<|by z_go)<|cc (bI m<|bG (jl<|ja jn<|ja (jv 5) an)<|iL tM AL Z.bb11<|ja (B7 (o:=.eq) u (bM (c 46)<|ja (jv 5) an)<|jv 0) an) c0
theorem Wg (P:fA)(σ:St)(st:aB)(hl:5<σ.length)(h:cH pQ G.sub [.iff (.or_ (.not_<|.isi (.v 5) [.err 1])<|.or_ (.not_<|.isi (.v 5) [.err 0])<|.isi (.v 5) [.err 2]) [.ret<|.c<|.bl false] []] P (σ.set 5<|some<|.exc xN) st):P.nx (σ.set 5<|some<|.exc xN) st:=by
 have e:(σ.set 5<|some<|.exc xN)[5]? = some (some<|.exc xN):=gu hl;generalize σ.set 5 (some<|.exc xN)=am at *;have gs:∀{k:D->Prop},fV am 5 k->k (.exc xN):=λ{k} h=>by unfold fV at h;rw[e]at h;exact h
 exact gs<|gs<|gs h
theorem Ry {k:Nat}{Cl:Addr}(T:TT K mg)(Z:Zt K mg)(Y:oF K "NoText" Cl)(W1:∃a,mg "LossError" = some (.ref a)/\BZ K Cl (.ref a) true)(W2:mg "ValueError" = none/\BZ K Cl (.type "ValueError") true)(W3:∃a,mg "NoBook" = some (.ref a)/\BZ K Cl (.ref a) false)(yc:(rg K Cl).isSome=true)(IH:IT P w base T k)(IX:XT P w base T Cl k):cD P w K mg base gG (2*k+1+1) (T.a 51) (T.fd 51) (jT 51) (PK K (aH G<|k+1) 51) :=Hw (fn:=Bp) (N:=MR) (T.fn 51<|by cbv) ⟨rfl,rfl,rfl,by x_go,rfl,by x_go,by x_go⟩ rfl rfl rfl λbV A outer s H E hr=>by
 obtain⟨a1,m1,q1⟩:=W1;obtain⟨m2,q2⟩:=W2;obtain⟨a3,m3,q3⟩:=W3;have m:=fU G<|av k;have u:=RH hr;have c:=G6 (X:=(dJ gG P w K mg base MR (fZ 51) (aP<|eV 51) (T.a 51) bV A outer s H E).oK) T IH rfl rfl rfl rfl rfl hr;have cm:=FQ (X:=(dJ gG P w K mg base MR (fZ 51) (aP<|eV 51) (T.a 51) bV A outer s H E).oK) T IH rfl rfl rfl rfl rfl hr;have ck:=@G1 P w K mg base k T IH (dJ gG P w K mg base MR (fZ 51) (aP<|eV 51) (T.a 51) bV A outer s H E).oK rfl rfl rfl rfl rfl hr;have nd:MR.Nodup:=by x_go
 have isi:∀(a:Addr){n:Str}{u:Value}{v:V}{b:Bool}{p p1 p2 pos:Pos},BZ K Cl u b->RelV v u->(∀u',RelV v u'->u'=u)->PE (mk (dJ gG P w K mg base MR (fZ 51) (aP<|eV 51) (T.a 51) bV A outer s H E).oK a) (.Name n p2) (tC v) ->cb [.Name "e" p1,.Name n p2] (jw (fZ 51) (aP<|eV 51) s.heap.objs.size (T.a 51) bV)=(false,eval (.Name "e" p1)<|jw (fZ 51) (aP<|eV 51) s.heap.objs.size (T.a 51) bV)::cb [.Name n p2] (jw (fZ 51) (aP<|eV 51) s.heap.objs.size (T.a 51) bV) ->PE (mk (dJ gG P w K mg base MR (fZ 51) (aP<|eV 51) (T.a 51) bV A outer s H E).oK a) (.Call (.Name "isinstance" p) [.Name "e" p1,.Name n p2] [] pos) (UU 5 v Cl b):=λa n u v b p p1 p2 pos q r ru hn cM =>CK (Em Y.xc yc q r ru) (tN<|by z_go) Z.bb2 xV<|rE (pv 5 (by z_go)<|.inl<|by z_go) (rE hn D4) cM;exact zc (JS.z<|sn (i:=1) m nd<|bM (c 40 rfl rfl)<|ja (jv 0)<|ja ji<|ja ji<|ja ji an)<|zc (JS.z<|sn (i:=2) m nd<|bM (c 29 rfl rfl)<|ja (jv 1) an)<|zc (JS.z<|cO m (jR<|jQ m (mT<|tp<|B2 (t:=.str) qI Z.bb2 Z.bb3<|jv 2)<|jQ m (bX (o:=.ne) u (jv 2)<|bM (c 46 rfl rfl)<|ja (jv 1) an)<|jS<|bX (o:=.ne) u (bM (c 33 rfl rfl)<|ja (jv 2) an)<|jv 1) (cc (bI m jb) c0) c0)<|zc (JS.z<|sn (i:=3) m nd<|jl<|ja (aW (op:=.add) (jv 2) js)<|ja (aW (op:=.add) (jv 2) js)<|ja (aW (op:=.add) (jv 2) js)<|ja (aW (op:=.add) (jv 2) js)<|ja (gH (jv 2) on<|os<|Br ji) an)<|zc (JS.z<|sx m<|zQ (jv 3)<|ja js an)<|zc (JS.z<|sn (i:=2) m nd<|bM (c 47 rfl rfl)<|ja (jv 2)<|ja (bM (c 35 rfl rfl)<|ja (jv 0)<|ja ji<|ja (aW (op:=.pow) ji ji) an)<|ja (jv 3) an)<|zc (JS.z<|sn (i:=4) m nd jn)<|zc ⟨Hv (λ_ _ z=>z) rfl rfl nd (IX 33 rfl) (hr.mono<|by lia) (tN<|by z_go) (T.mg 33<|by cbv) (T.fn 33<|by cbv).kp (T.bi 33<|by cbv) (λ_=>(ja (jv 2) an).h) Y (tN<|by z_go) rfl (by z_go) rfl (by z_go) (λa=>Ko (isi a (v:=.ref a1) q1 rfl (λ_ z=>z) (FW (tN<|by z_go) m1 rfl) rfl) (isi a (v:=.ty "ValueError") q2 rfl (λ_ z=>z) (QI (tN<|by z_go) m2 J2 rfl) rfl)<|isi a (v:=.ref a3) q3 rfl (λ_ z=>z) (FW (tN<|by z_go) m3 rfl) rfl) rfl Wg (by cbv) (by cbv) rfl rfl<|by z_go⟩<|zc (JS.z<|bI m<|B7 (o:=.eq) u (jv 4)<|bM (c 50 rfl rfl)<|ja (jv 2) an) z0
theorem Yh {k:Nat}{Cl:Addr}(T:TT K mg)(Z:Zt K mg)(Y:oF K "NoText" Cl)(IH:IT P w base T k)(IX:XT P w base T Cl k):∀i,i<52->i≠51->OT P w base T k i|0,_,_=>Wb T Z IH|1,_,_=>Vo T Z IH|2,_,_=>Va T Z IH|3,_,_=>Wa T Z IH|4,_,_=>Wz T Z IH|5,_,_=>Vn T Z IH|6,_,_=>Vg T Z IH|7,_,_=>Xk T Z IH|8,_,_=>Xj T Z IH|9,_,_=>Vf T Z IH|10,_,_=>Qd T Z IH|11,_,_=>Rw T Z IH|12,_,_=>Qz T Z IH|13,_,_=>Pr T Z IH|14,_,_=>Sn T Z IH|15,_,_=>Sf T Z IH|16,_,_=>Pw T Z IH|17,_,_=>Ud T Z IH|18,_,_=>Ts T Z IH|19,_,_=>cD.calm<|UO T Z Y IH IX|20,_,_=>Rj T Z IH|21,_,_=>cD.calm<|WH T Z Y IH IX|22,_,_=>cD.calm<|VI T Z Y IH IX|23,_,_=>cD.calm<|UB T Z Y IH IX|24,_,_=>cD.calm<|TN T Z Y IH IX|25,_,_=>Tj T Z IH|26,_,_=>cD.calm<|WW T Z Y IH IX|27,_,_=>cD.calm<|U1 T Z Y IH IX|28,_,_=>Sg T Z IH|29,_,_=>So T Z IH|30,_,_=>Sb T Z IH|31,_,_=>Tr T Z IH|32,_,_=>cD.calm<|XC T Z Y IH IX|33,_,_=>cD.calm<|W5 T Z Y IH IX|34,_,_=>Qj T Z IH|35,_,_=>Pu T Z IH|36,_,_=>Rc T Z IH|37,_,_=>Pq T Z IH|38,_,_=>Tq T Z IH|39,_,_=>Qh T Z IH|40,_,_=>Qv T Z IH|41,_,_=>Ss T Z IH|42,_,_=>Tp T Z IH|43,_,_=>Sh T Z IH|44,_,_=>Ql T Z IH|45,_,_=>Pk T Z IH|46,_,_=>Tb T Z IH|47,_,_=>Qx T Z IH|48,_,_=>Qt T Z IH|49,_,_=>Ri T Z IH|50,_,_=>Qc T Z IH|51,_,h=>absurd rfl h|n+52,h,_=>absurd h<|by lia
theorem Wh {k:Nat}{Cl:Addr}(T:TT K mg)(Z:Zt K mg)(Y:oF K "NoText" Cl)(IH:IT P w base T k)(IX:XT P w base T Cl k):∀i,ED i=true->OX P w base T Cl k i:=by
 intro i h;unfold ED at h;split at h;·exact UO T Z Y IH IX
 ·exact WH T Z Y IH IX
 ·exact VI T Z Y IH IX
 ·exact UB T Z Y IH IX
 ·exact TN T Z Y IH IX
 ·exact WW T Z Y IH IX
 ·exact U1 T Z Y IH IX
 ·exact XC T Z Y IH IX
 ·exact W5 T Z Y IH IX
 ·cases h
theorem Q4 {Cl:Addr}(T:TT K mg)(Z:Zt K mg)(Y:oF K "NoText" Cl):∀k,(∀i,i<52->i≠51->cD P w K mg base gG (2*k) (T.a i) (T.fd i) (jT i) (jK K (aH G k) i))/\XT P w base T Cl k|0=>⟨λ_ _ _=>Fu,λ_ _=>ZX⟩|k+1=>let h:=Q4 T Z Y k;⟨Yh T Z Y h.1 h.2,Wh T Z Y h.1 h.2⟩
end
theorem Z5:∀ns:List Int,ns.length<=63->aH G 100 Bh [.bR<|ns.map .int] (λ_=>none) (λd _=>d=.bl true) λ_ _=>False:=λns _ =>Rh (G:=G) (ila:=Bh) (ibo:=BU) (ibt:=B1) (ilb:=mO) (isp:=yB) (im:=rS) (idu:=E8) (inm:=zL) (dQ:=lZ) (is:=mD) (ipr:=uQ) (ic:=uV) (ich:=IF) (irb:=CC) (ili:=DW) (iwh:=oP) (ibw:=qR) (iwi:=IZ) (inn:=EY) (ibk:=qJ) (iwb:=oX) (ict:=vL) (ini:=CB) (iri:=qX) (ig:=lE) (ine:=oU) (iwo:=lB) (ij:=sX) (ins:=mC) (ist:=xU) (ilt:=zJ) (ir:=mQ) (il:=uB) (iap:=oY) (ia:=mF) (iaw:=sL) (ipi:=uG) (io:=rZ) (ib:=mB) (ih:=jX) (iy:=pG) (bC:=iZ) (bT:=tL) (iw:=yO) (ip:=wX) (irw:=B6) (iwo2:=vQ) (iso:=mP) (ipa:=qU) (iwd:=BY) (ide:=uD) (illt:=tX) rfl rfl rfl rfl rfl rfl rfl rfl rfl rfl (λb B hs hd hc k st Q E hQ=>RY (G:=G) (ir:=mQ) (bT:=tL) (bC:=iZ) (iy:=pG) (ia:=mF) (iap:=oY) (io:=rZ) (il:=uB) (iaw:=sL) (ipi:=uG) (ip:=wX) (iw:=yO) (ibk:=qJ) (ih:=jX) (ib:=mB) rfl rfl rfl rfl rfl rfl rfl rfl rfl rfl rfl rfl rfl rfl rfl B hs hd hc hQ) ⟨rfl,rfl,rfl,rfl,rfl,⟨rfl,rfl,rfl,rfl,rfl⟩,rfl,rfl,rfl,rfl,rfl,rfl,rfl⟩ ⟨rfl,rfl,rfl,rfl,rfl,rfl,rfl,rfl,rfl,rfl,rfl,rfl,rfl,rfl,rfl⟩ ⟨rfl,rfl,rfl,rfl,rfl,rfl,rfl,rfl,rfl⟩ rfl rfl rfl rfl rfl ns λ_=>rfl
theorem As {P:Nat->Prop}{n:Nat}(h:∀i,i<n->P i)(g:P n)(i:Nat)(l:i<n+1):P i:=if e:i=n then e▸g else h i<|Nat.lt_of_le_of_ne (Nat.le_of_lt_succ l) e
theorem Xr {α:Type}{P:List α->Prop}{n:Nat}(h:∀a us,us.length=n->P (a::us)):∀us:List α,us.length=n+1->P us |a::us,e=>h a us<|Nat.succ.inj e
theorem Yg {α:Type}{P:List α->Prop}(h:P []):∀us:List α,us.length=0->P us |[],_=>h
theorem Ut:∀i,i<52->FN (oM i) (fZ i) (jT i) (eV i):=by
 repeat' refine As ?_ ?_
 all_goals first|exact λi h=>absurd h i.not_lt_zero|(intro _ _ _ _ _ _;(repeat refine Xr λ_=>?_);exact Yg rfl)
theorem Tu {K:ae}{h:Heap}{mg:Str->Option Value}(X:K.In h)(G:h.Ns cq mg){C L B:Addr}(ns:f9 K cq "NoText" = some (some<|.ref C))(ex:w5 K C Au "ValueError.__new__" = true)(ga:df K (.ref C) "__getattribute__" = some (some<|.builtin "BaseException.__getattribute__"))(gt:df K (.ref C) "__getattr__" = some none)(cl:df K (.ref C) "__class__" = some (some<|.builtin "object.__class__"))(ob:i9 K C (.type "object")=some true)(be:i9 K C (.type "BaseException")=some true)(yc:yx K C=true)(nl:f9 K cq "LossError" = some (some<|.ref L))(l1:yx K L=true)(l2:vg K (.ref L)=some (.type "type"))(l3:i9 K C (.ref L)=some true)(l4:AbT C L=false)(nv:f9 K cq "ValueError" = some none)(v1:i9 K C (.type "ValueError")=some true)(nb:f9 K cq "NoBook" = some (some<|.ref B))(b1:yx K B=true)(b2:vg K (.ref B)=some (.type "type"))(b3:i9 K C (.ref B)=some false)(b4:AbT C B=false):XN K mg :=⟨C,⟨ns,ex,ga,gt,cl,ob,be⟩,⟨L,my X G nl,PD l1 l2 l3 l4⟩,⟨PySem.W.mg_none_of X G nv,Hf v1⟩,⟨B,my X G nb,PD b1 b2 b3 b4⟩,yc⟩
theorem Ro {K:ae}{C:Addr}(ns:f9 K cq "NoBook" = some (some<|.ref C))(ex:w5 K C Au "ValueError.__new__" = true)(ga:df K (.ref C) "__getattribute__" = some (some<|.builtin "BaseException.__getattribute__"))(gt:df K (.ref C) "__getattr__" = some none)(cl:df K (.ref C) "__class__" = some (some<|.builtin "object.__class__"))(ob:i9 K C (.type "object")=some true)(be:i9 K C (.type "BaseException")=some true):∃Cl,oF K "NoBook" Cl:=⟨C,ns,ex,ga,gt,cl,ob,be⟩
theorem all_mk {P:bp}{w:dh}{K:ae}{mg:Str->Option Value}{fa:Addr}(hfa:mg "law" = some (.ref fa))(Z:Zt K mg)(F:∀i,i<52->DU K mg (oM i) (fZ i) (eV i) (oI i)):∃fd:fh,(∀(s:aj)(u:Value),Zb s fd ⟨[u],[]⟩ [("_law_script", u)])/\∀base:Heap,K.In base->base.Ns cq mg->cD P w K mg base gG (2*100) fa fd ["_law_script"] (PK K (aH G 100) 51):=by obtain⟨_,d,_⟩:=F 0 (by cbv);obtain⟨Cl,Y,W1,W2,W3,yc⟩:=Z.xx1;obtain⟨T⟩:=P0 52 Ut F d;have e:=hfa.symm.trans (show mg "law" = some (.ref<|T.a 51)from T.mg 51<|by cbv);cases e;exact⟨T.fd 51,R3 (T.fn 51<|by cbv)<|Ut 51<|by cbv,λbase _ _=>Ry (k:=99) T Z Y W1 W2 W3 yc (Q4 T Z Y 99).1 (Q4 T Z Y 99).2⟩
end L3
open PySem PySem.W PyProof.Rows
namespace PySem.W.Fast
def tw15544922664995247878:=()
def tw7511216359078169737:=()
def tw232251883553523787:=()
def tw15612134404669760246:=()
def tw17298793237999578927:=()
def tw15218858881038539057:=()
def tw9678782795551632636:=()
def tw439464901294804525:=()
def tw7198406684300784124:=()
def tw10605166469508302052:=()
def tw10725522855106790673:=()
def tw11389969369720434370:=()
def tw547343146255311067:=()
def tw11028231927175718023:=()
def tw11697277642269382643:=()
def tw9040564501617061356:=()
def tw17762394681205432296:=()
def tw10661946242239584032:=()
def tw3983959822446189910:=()
def tw14484787989203019117:=()
def tw17574631236472198279:=()
def tw13533155260868500529:=()
def tw1663687522561157068:=()
def tw15970646514835643866:=()
def tw2571591891333501501:=()
def tw3572368560531036387:=()
def tw10432646796081207595:=()
def tw7069238157436025896:=()
def tw8366443123212128888:=()
def tw18373038536820126665:=()
def tw11395857211404753922:=()
def tw11018761593595844118:=()
def tw3974952886542251588:=()
def tw16568838393380360301:=()
def tw6960738544146901226:=()
def tw1874128622849322704:=()
def tw6804014538030991176:=()
def tw11019449365478884547:=()
def tw8354590158351481643:=()
def tw2768015010987820735:=()
def tw2600916642952749793:=()
def tw3576688009354073768:=()
def tw1994015691709793021:=()
def tw18266479177029686326:=()
def tw18309076234424970210:=()
def tw4266518728945829009:=()
def tw3676889551425600863:=()
def tw6814121501256625842:=()
def tw11626241468465407621:=()
def tw669746419054926068:=()
def tw17350975716284924071:=()
def tw7541651990720379650:=()
def tw6704029286483424494:=()
def tw7707607663701634748:=()
def tw7497495488366819122:=()
def tw8982973753127067771:=()
def tw8281762859432999311:=()
def tw7057018696913522613:=()
def tw10747244392167261238:=()
def tw4509486410171865800:=()
def tw10179278898890965345:=()
def tw13568298046008274373:=()
def tw2918064722637790643:=()
def tw3914433521566911789:=()
def tw13463701136386832037:=()
def tw17099393187339298878:=()
def tw11651424127187390733:=()
def tw9510273890770863520:=()
def tw6195662841670568712:=()
def tw17427107617284103747:=()
def tw13228411601565476539:=()
def tw13349382809840916056:=()
def tw11477270914672529854:=()
def tw1140832539819265723:=()
def tw12806665655627809180:=()
def tw4466189422454321715:=()
def tw1816948778298947239:=()
def tw5791502584969066017:=()
def tw980851788437179334:=()
def tw1020213651478117209:=()
def tw11370034930638620506:=()
def tw2498237742724045366:=()
def tw1440145448860277542:=()
def tw3945188481717779090:=()
def tw2803778529312875271:=()
def tw10730804016990457925:=()
def tw8046718819226933919:=()
def tw12815808277500598466:=()
def tw12153252608509468900:=()
def tw1546105976869390877:=()
def tw15475392051345532615:=()
def tw3081437557982345857:=()
def tw11355682930521352239:=()
def tw5241187527283159261:=()
def tw12218913860392987026:=()
def tw8279516590848329901:=()
def tw10272096272722034035:=()
def tw10114458173841504403:=()
def tw3590924270032388420:=()
def tw326953886622908983:=()
def tw3525635370786698093:=()
def tw8028213912328900006:=()
def tw9908099792562498305:=()
def tw13385469492370328292:=()
def tw12684812306103090137:=()
def tw14876843094905621894:=()
def tw17110606806693682050:=()
def tw6325720546755111477:=()
def tw11556308380089552872:=()
def tw6885300028612449218:=()
def tw10206128386387521121:=()
def tw3153366394935174899:=()
def tw4946261346628735122:=()
def tw3985093682295141732:=()
def tw1120164522868027789:=()
def tw13259058138839158353:=()
def tw10986554670235756679:=()
def tw12589839921234132487:=()
def tw16243471998328090592:=()
def tw9054151673047111820:=()
def tw8429853493126816259:=()
def tw11391908252045646593:=()
def tw7755712903591989267:=()
def tw7375081892929720143:=()
def tw5209355945319638689:=()
def tw11130587390216530202:=()
def tw16294366980208179141:=()
def tw12354825972558285563:=()
def tw5622463669587637772:=()
def tw18196177929921106609:=()
def tw6696635106978192307:=()
def tw4405096846584554109:=()
def tw17387064862397063803:=()
def tw10036027108636806883:=()
def tw11604146063453040285:=()
def tw11299666093975822899:=()
def tw5392880181337027634:=()
def tw15708234694262514334:=()
def tw2273941318771059696:=()
def tw4012716488397397456:=()
def tw8858593131499208515:=()
def tw15493634930387250746:=()
def tw17124513303171729019:=()
def tw17814013354260491918:=()
def tw17747812312559812142:=()
def tw6912602444425794890:=()
def tw146668798653339024:=()
def tw4218200975454978605:=()
def tw15495042684911887498:=()
def tw8589119520358003755:=()
def tw86301694384395931:=()
def tw7971726285538186927:=()
def tw11203929629087144778:=()
def tw14953931093253196267:=()
def tw4028990246096220679:=()
def tw11045634461447275671:=()
def tw17420282912291070685:=()
def tw12690491265943985466:=()
def tw6703475320342427905:=()
def tw12711771732325638704:=()
def tw10502572903362566471:=()
def tw10695499753493326809:=()
def tw12509081515084306944:=()
def tw523033930830103481:=()
def tw5815975709305427963:=()
def tw5535309392448061031:=()
def tw1183388931413161702:=()
def tw13293575256284395515:=()
def tw4360741475903037585:=()
def tw14444303660050751788:=()
def tw7530168138627181392:=()
def tw13934512870923917513:=()
def tw11879497010496112773:=()
def tw8218419863687325388:=()
def tw4291469205980342054:=()
def tw5362020464280421160:=()
def tw13743671758419539770:=()
def tw114922602976633367:=()
def tw260602146994529106:=()
def tw4649202802808308507:=()
def tw15031638083155026895:=()
def tw6879148338874778978:=()
def tw14063727496893178612:=()
def tw5236588020135784134:=()
def tw17746231407966471380:=()
def tw6352698245043725831:=()
def tw15877241438679227161:=()
def tw13631422921352156756:=()
def tw12386305219194479985:=()
def tw11520660976406824276:=()
def tw7700723967098837258:=()
def tw3150545725344269986:=()
def tw17282068664324688293:=()
def tw16311830072844286394:=()
def tw11532117508056602552:=()
def tw3745013744938991561:=()
def tw3127189706136643428:=()
def tw7951291065606580526:=()
def tw12313384014793992133:=()
def tw9756251539171804299:=()
def tw11847565801926624621:=()
def tw5182949898474162978:=()
def tw393110419607476977:=()
def tw17366634135305726415:=()
def tw15529099370747433283:=()
def tw10856138513596015598:=()
def tw9931503848149114615:=()
def tw6730311301678833492:=()
def tw4807180919239577315:=()
def tw8967266669088034466:=()
def tw2762210494611006521:=()
def tw2977211537447233166:=()
def tw1349634672595713002:=()
def tw16800295333580011276:=()
def tw133722075883934201:=()
def tw15946197649951254009:=()
def tw5526444125671664505:=()
def tw3802071879481477586:=()
def tw15581336771407757859:=()
def tw6468990109729716585:=()
def tw17715189549711427369:=()
def tw4452246308215520173:=()
def tw1152361655868704026:=()
def tw2900180495546036174:=()
def tw17471235984916779436:=()
def tw9833880712608355771:=()
def tw3040172888622190804:=()
def tw9667466699052678254:=()
def tw7877588123832156662:=()
def tw3399599911944105991:=()
def tw5123108165547328938:=()
def tw8487780565020228580:=()
def tw173374752087830998:=()
def tw12643141601983316373:=()
def tw11504540503979946466:=()
def tw10605504664067125019:=()
def tw7988016826161840966:=()
def tw6909102848763026212:=()
def tw7413468925511426139:=()
def tw5698886712536450292:=()
def tw2114089874135845507:=()
def tw15775595802500255912:=()
def tw15277636211232318802:=()
def tw8559566422664721725:=()
def tw9116523196219890805:=()
def tw104381351054781660:=()
def tw6431044427656279724:=()
def tw9812600394651891273:=()
def tw3100650167682168070:=()
def tw7432539276558922364:=()
def tw7961503004223539742:=()
def tw2616013059952440042:=()
def tw13750846035631741208:=()
def tw13672430775859843399:=()
def tw8452146273503568230:=()
def tw4226055541644352704:=()
def tw4744562252739040064:=()
def tw4297327592973430402:=()
def tw11460226408997117792:=()
def tw11039866863449637995:=()
def tw10065787350288412280:=()
def tw17119554867754740434:=()
def tw16720142492351283148:=()
def tw13513512590880983148:=()
def tw12806019825093868422:=()
def tw1499226082138206654:=()
def tw5878761441030561362:=()
def tw10002603040116629885:=()
def tw4630887386455671672:=()
def tw2830592941220201768:=()
def tw15523231330344226715:=()
def tw15301524460699672404:=()
def tw9604172055368848971:=()
def tw9510998213206308281:=()
def tw8883881008769960683:=()
def tw8081505558612745956:=()
def tw8043347647200074515:=()
def tw8002538065606178123:=()
def tw7946807652517682164:=()
def tw7824868419644755818:=()
def tw780110420652438820:=()
def tw7099277972532612690:=()
def tw689208922804869312:=()
def tw663323120122474696:=()
def tw6605465519430935325:=()
def tw6548140114467930214:=()
def tw6469526714351817434:=()
def tw6268255430599686081:=()
def tw607210952479677012:=()
def tw5853235787520662149:=()
def tw5841790847439619848:=()
def tw5817932190683344909:=()
def tw5697863264481680267:=()
def tw5450715239529883848:=()
def tw5320355891470948261:=()
def tw5134129743085980850:=()
def tw5117019954696955843:=()
def tw510222100867942125:=()
def tw5077605682706031444:=()
def tw4953566632656128958:=()
def tw4310103153342790547:=()
def tw4155042056004090950:=()
def tw4143616660365109520:=()
def tw3833916227616948013:=()
def tw3763772834750353048:=()
def tw3668415316264038807:=()
def tw3647882727760546543:=()
def tw3627435452101288123:=()
def tw3563092193561578571:=()
def tw3506193552318188581:=()
def tw306526634601587794:=()
def tw2866596977894127274:=()
def tw2661865196647038624:=()
def tw2553064538264375176:=()
def tw2472708857825718204:=()
def tw2459456746471444703:=()
def tw2418433648076449866:=()
def tw2134671245421080868:=()
def tw1988323410607577459:=()
def tw18419875498326698401:=()
def tw18322443045039940237:=()
def tw1815128084862532283:=()
def tw18102654175815706745:=()
def tw18075034908702843043:=()
def tw18009117563690158595:=()
def tw18004923085170081988:=()
def tw17999073817982454256:=()
def tw17984645304038673575:=()
def tw17556330362714219415:=()
def tw17371869762916905346:=()
def tw1701488065014231783:=()
def tw16877807120512096260:=()
def tw16772028603552079955:=()
def tw16737219810886289069:=()
def tw16719921512067788682:=()
def tw1648149283055545737:=()
def tw16397084101538851301:=()
def tw16366448430641958298:=()
def tw16075291573064806329:=()
def tw15981583742674218810:=()
def tw15623961741630931477:=()
def tw1561712742172037938:=()
def tw15175320516162693776:=()
def tw15032769539382565960:=()
def tw14881049271018813854:=()
def tw14708882192674002792:=()
def tw14532259239070780278:=()
def tw14461796184279283541:=()
def tw14454775543301614070:=()
def tw14033104188952045846:=()
def tw1391607045910671128:=()
def tw13359658037250032511:=()
def tw13112291550652115043:=()
def tw13012737680825525661:=()
def tw12505020498044928411:=()
def tw12308871213815441218:=()
def tw12117484838995948104:=()
def tw11837667325613929833:=()
def tw11778646679149273763:=()
def tw11725361085546842173:=()
def tw11586453854289836926:=()
def tw11089577104150224873:=()
def tw10931858948401808723:=()
def tw10810621665109716549:=()
def tw10803830701184796806:=()
def tw10355656894450906349:=()
def tw10160949149760134152:=()
def tw10136842237438983354:=()
end PySem.W.Fast
set_option maxRecDepth 100000 in
set_option maxHeartbeats 0 in
theorem PySem.Challenge.cw_leastloss_k32_book_texts_holds : PySem.Challenge.rw_leastloss_k32_book_texts.Holds := by
 w_on;o_law;k_head;(case hw=>w_witness2);k_fill;refine L3.Ig (l:=PySem.Challenge.rw_leastloss_k32_book_texts) (x :="_law_script") (r:=2*100) (k:=100) (f:=51) (G:=L3.G) ⟨rfl,by decide,by decide⟩ L3.Z5 rfl rfl (λw h Y=>PySem.W.kIn_of Y) ?F;case F =>
  intro w mg fa h KX G hmg;refine L3.all_mk hmg ?Z ?_;case Z =>constructor;all_goals first|refine PySem.W.mg_none_of KX G ?_;k_is|(first|apply L3.Ro|apply L3.Tu KX G|apply L3.Jp KX G|apply L3.Oj KX G|apply L3.Hx KX G|apply L3.Ny KX G|apply L3.Nv|apply L3.Ii)<;>first|k_is|k_exc|rfl|kernel_rfl
  repeat' refine L3.As ?_ ?_
  all_goals first|exact λi h=>absurd h i.not_lt_zero|(first|apply L3.Rm KX G|apply L3.Qp KX G|apply L3.Tz KX G)<;>k_is
